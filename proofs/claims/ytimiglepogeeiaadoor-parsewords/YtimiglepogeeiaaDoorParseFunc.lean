/- A function: package parse's function. A contract. -/
import Derived.Test.YtimiglepogeeiaaDoorParseParam
set_option linter.unusedVariables false
set_option linter.unusedSimpArgs false
set_option maxRecDepth 100000
namespace Go.Proofs.YtimiglepogeeiaaDoor.Parse
open Go.RowKit Go.Proofs.YtimiglepogeeiaaDoor.Lex

theorem moreF_len {each : R → R × Tr} {L : List T} (h : ∀ r, Mv r (each r).1) : ∀ m r l, l.length ≤ r.i + 1 → (moreF each L m r l).2.length ≤ (moreF each L m r l).1.i + 1
  | 0, r, l, hl => hl
  | m + 1, r, l, hl => by
    unfold moreF
    split
    · refine moreF_len h m _ _ ?_
      have := (h (adv r)).i
      have h2 : (adv r).i = r.i + 1 := rfl
      simp
      omega
    · exact hl
theorem listF_len {each : R → R × Tr} {L : List T} (h : ∀ r, Mv r (each r).1) (r : R) : (listF each L r).2.length ≤ (listF each L r).1.i + 1 := by
  unfold listF
  split
  · simp
  · have h1 := moreF_len (L := L) h (L.length + 1) (each (need L [40] r)).1 [(each (need L [40] r)).2] (by simp)
    have h2 := (need_mo L [41] (moreF each L (L.length + 1) (each (need L [40] r)).1 [(each (need L [40] r)).2]).1).v.i
    dsimp only
    omega
theorem resF_val (L : List T) (r : R) : (resF L r).2 = 0 ∨ (resF L r).2 = 2 ∨ (resF L r).2 = 4 := by
  unfold resF
  split
  · split <;> simp
  · simp
theorem cf_par (args : Array Value) (w : World) : (callFunc 60 args).run Tryd.prog w = .ok (.enter 60 args) w := by kernel_rfl

section
variable {b g c : Nat} {L : List T} {w : World} {r : R}

set_option maxHeartbeats 16000000 in
theorem fn_0 (bl : R → R × Tr) (hb : BC b g c L 1 bl) (h : Rd w b g c L r) (hx : fol L [101, 120, 112, 111, 114, 116] (nod r) = false) (r3 : R) (hr3 : need L [102, 110] (nod r) = r3) :
    Calls Tryd.prog 28 #[.pointer (some ⟨b, 0, none⟩)] w (NR b g c L w ((bl (resF L (listF (pmF L) L (name L r3)).1).1).1, .mk 2 (tk L r).a (tk L r3).t (0 + (resF L (listF (pmF L) L (name L r3)).1).2) ((listF (pmF L) L (name L r3)).2 ++ [(bl (resF L (listF (pmF L) L (name L r3)).1).1).2]))) := by
  have hbz := h.ltb
  have hgz := h.row.lt
  have HB := hide (But.refl b w)
  have HX0 : Hid (Bx (w.alloc (.cells #[.int .i64 0, .int .i64 0, .string ⟨#[]⟩, .int .u32 0, .slice none 0 0] 27)) w.heap.size 27 #[.int .i64 0, .int .i64 0, .string ⟨#[]⟩, .int .u32 0, .slice none 0 0]) := hide (Bx.newAt rfl)
  have hu : w.heap.size < (w.alloc (.cells #[.int .i64 0, .int .i64 0, .string ⟨#[]⟩, .int .u32 0, .slice none 0 0] 27)).heap.size := by simp
  have ho := node_any (h.alloc (.cells #[.int .i64 0, .int .i64 0, .string ⟨#[]⟩, .int .u32 0, .slice none 0 0] 27)) 2
  unfold nC at ho
  generalize (tk L r).a = at_ at *
  generalize nod r = r1 at *
  generalize hntt : (tk L r3).t = nt
  have HNT := hide hntt
  clear hntt
  have hll := listF_len (L := L) (fun r => (pmF_mo L r).v) (name L r3)
  have HNM : Hid (name L r3 = name L r3) := hide rfl
  have HR3E := hide hr3
  clear h hr3
  go_enter Tryd.func28, Tryd.ntmps28
  go_wp2_with fail
  refine ho.mono ?_
  rintro e wn ⟨rfl, hRn, hBn⟩
  have hzn := hBn.size
  have HR0 := hide (hRn.alloc (.cells #[.int .i64 2, .int .i64 at_, .string (S []), .int .u32 0, .slice none 0 0] 27))
  have HB0 : Hid (But b w (wn.alloc (.cells #[.int .i64 2, .int .i64 at_, .string (S []), .int .u32 0, .slice none 0 0] 27))) := hide ((But.trans (by repeat (first | with_reducible exact HB.out | with_reducible refine But.alloc ?_ _ | with_reducible refine But.fresh ?_ (by first | omega | (dsimp only; omega)) _)) hBn).alloc _)
  have HY0 := hide ((Bx.but HX0.out hBn (by omega)).alloc (.cells #[.int .i64 2, .int .i64 at_, .string (S []), .int .u32 0, .slice none 0 0] 27))
  have HN0 : Hid (Bx (wn.alloc (.cells #[.int .i64 2, .int .i64 at_, .string (S []), .int .u32 0, .slice none 0 0] 27)) wn.heap.size 27 #[.int .i64 2, .int .i64 at_, .string (S []), .int .u32 0, .slice none 0 0]) := hide (Bx.newAt rfl)
  have hz0 : wn.heap.size < (wn.alloc (.cells #[.int .i64 2, .int .i64 at_, .string (S []), .int .u32 0, .slice none 0 0] 27)).heap.size := by simp
  have ht := take_any HR0.out [101, 120, 112, 111, 114, 116] (by decide)
  unfold take at ht
  rw [hx, if_neg (by simp)] at ht
  clear ho hRn hBn
  go_wp2_with fail
  refine ht.mono ?_
  rintro e w1 ⟨rfl, hR1, hB1⟩
  have hz1 := hB1.size
  have HR1 := hide hR1
  have HB1 := hide (HB0.out.trans hB1)
  have HY1 := hide (Bx.but HY0.out hB1 (by omega))
  have HN1 : Hid (Bx w1 wn.heap.size 27 #[.int .i64 2, .int .i64 at_, .string (S []), .int .u32 0, .slice none 0 0]) := hide (Bx.but HN0.out hB1 (by omega))
  clear ht hR1 hB1
  have m0 := HN1.out.cell (k := 0) rfl
  have m1 := HN1.out.cell (k := 1) rfl
  have m2 := HN1.out.cell (k := 2) rfl
  have m3 := HN1.out.cell (k := 3) rfl
  have m4 := HN1.out.cell (k := 4) rfl
  have ml := HN1.out.lt
  have mf := HN1.out.free
  go_wp2_with fail
  refine Calls.mono (need_any (b := b) (g := g) (c := c) (L := L) (r := r1) (by repeat (first | with_reducible exact HR1.out | with_reducible refine Rd.alloc ?_ _ | with_reducible refine Rd.other ?_ _ (by first | omega | (dsimp only; omega)) (by first | omega | (dsimp only; omega)))) [102, 110] (by decide)) ?_
  rintro e w2 ⟨rfl, hR2, hB2⟩
  have hz2 := hB2.size
  skip
  have HR2 := hide hR2
  have HB2 : Hid (But b w w2) := hide (But.trans (by repeat (first | with_reducible exact HB1.out | with_reducible refine But.alloc ?_ _ | with_reducible refine But.fresh ?_ (by first | omega | (dsimp only; omega)) _)) hB2)
  have HY2 : Hid (Bx w2 w.heap.size 27 #[.int .i64 0, .int .i64 0, .string ⟨#[]⟩, .int .u32 0, .slice none 0 0]) := hide (Bx.but (by repeat (first | with_reducible exact HY1.out | (with_reducible refine Bx.newAt ?_; first | rfl | (simp [World.setCell]; done)) | with_reducible refine Bx.alloc ?_ _ | with_reducible refine Bx.other ?_ _ (by first | omega | (dsimp only; omega)))) hB2 (by omega))
  have hnn : Bx w1 wn.heap.size 27 #[.int .i64 2, .int .i64 at_, .string (S []), .int .u32 0, .slice none 0 0] := HN1.out
  have HN2 : Hid (Bx w2 wn.heap.size 27 #[.int .i64 2, .int .i64 at_, .string (S []), .int .u32 0, .slice none 0 0]) := hide (Bx.but hnn hB2 (by omega))
  clear hnn hR2 hB2 m0 m1 m2 m3 m4 ml mf
  rw [HR3E.out] at HR2
  have hna := name_any HR2.out
  rw [HNT.out] at hna
  generalize name L r3 = r4 at *
  go_wp2_with fail
  refine Calls.mono (hna) ?_
  rintro e w3 ⟨rfl, hR3, hB3⟩
  have hz3 := hB3.size
  skip
  have HR3 := hide hR3
  have HB3 : Hid (But b w w3) := hide (But.trans (by repeat (first | with_reducible exact HB2.out | with_reducible refine But.alloc ?_ _ | with_reducible refine But.fresh ?_ (by first | omega | (dsimp only; omega)) _)) hB3)
  have HY3 : Hid (Bx w3 w.heap.size 27 #[.int .i64 0, .int .i64 0, .string ⟨#[]⟩, .int .u32 0, .slice none 0 0]) := hide (Bx.but (by repeat (first | with_reducible exact HY2.out | (with_reducible refine Bx.newAt ?_; first | rfl | (simp [World.setCell]; done)) | with_reducible refine Bx.alloc ?_ _ | with_reducible refine Bx.other ?_ _ (by first | omega | (dsimp only; omega)))) hB3 (by omega))
  have hnn : Bx w2 wn.heap.size 27 #[.int .i64 2, .int .i64 at_, .string (S []), .int .u32 0, .slice none 0 0] := HN2.out
  have HN3 : Hid (Bx w3 wn.heap.size 27 #[.int .i64 2, .int .i64 at_, .string (S []), .int .u32 0, .slice none 0 0]) := hide (Bx.but hnn hB3 (by omega))
  clear hnn hR3 hB3 
  clear hna
  have m0 := HN3.out.cell (k := 0) rfl
  have m1 := HN3.out.cell (k := 1) rfl
  have m2 := HN3.out.cell (k := 2) rfl
  have m3 := HN3.out.cell (k := 3) rfl
  have m4 := HN3.out.cell (k := 4) rfl
  have ml := HN3.out.lt
  have mf := HN3.out.free
  go_wp2_with fail
  generalize hwu : w3.setCell ⟨wn.heap.size, 2, none⟩ (.string (S nt)) = u at *
  have HRu : Hid (Rd u b g c L r4) := hide (hwu ▸ (by repeat (first | with_reducible exact HR3.out | with_reducible refine Rd.alloc ?_ _ | with_reducible refine Rd.other ?_ _ (by first | omega | (dsimp only; omega)) (by first | omega | (dsimp only; omega)))))
  have HBu : Hid (But b w u) := hide (hwu ▸ (by repeat (first | with_reducible exact HB3.out | with_reducible refine But.alloc ?_ _ | with_reducible refine But.fresh ?_ (by first | omega | (dsimp only; omega)) _)))
  have HYu : Hid (Bx u w.heap.size 27 #[.int .i64 0, .int .i64 0, .string ⟨#[]⟩, .int .u32 0, .slice none 0 0]) := hide (hwu ▸ (by repeat (first | with_reducible exact HY3.out | (with_reducible refine Bx.newAt ?_; first | rfl | (simp [World.setCell]; done)) | with_reducible refine Bx.alloc ?_ _ | with_reducible refine Bx.other ?_ _ (by first | omega | (dsimp only; omega)))))
  have hnu := HN3.out.set 2 (.string (S nt))
  rw [hwu] at hnu
  have HNu : Hid (Bx u wn.heap.size 27 #[.int .i64 2, .int .i64 at_, .string (S nt), .int .u32 0, .slice none 0 0]) := hide hnu
  have hsu : wn.heap.size < u.heap.size := HNu.out.lt
  have hli := list_any 60 #[.pointer (some ⟨b, 0, none⟩)] #[] (pmF L) cf_par (hide (fun w' r' _ h' => parameter_any h')) (hide (fun r => (pmF_mo L r).v)) HRu.out
  clear hnu hwu m0 m1 m2 m3 m4 ml mf
  generalize (listF (pmF L) L r4).2 = ls at *
  generalize (listF (pmF L) L r4).1 = r5 at *
  refine hli.mono ?_
  rintro e w5 ⟨s, rfl, hR5, hB5, hK5⟩
  have hz5 := hB5.size
  have hi5 := hR5.lt
  have hs5 := hR5.sz
  obtain ⟨sp, sn, sc, rfl⟩ := hK5.slice
  have HB5 := hide (HBu.out.trans hB5)
  have HY5 := hide (Bx.but HYu.out hB5 (by omega))
  have HN5 := hide (Bx.but HNu.out hB5 (by omega))
  have HK5 := hide hK5
  have HR5 := hide hR5
  clear hli hR5 hB5 hK5
  have m0 := HN5.out.cell (k := 0) rfl
  have m1 := HN5.out.cell (k := 1) rfl
  have m2 := HN5.out.cell (k := 2) rfl
  have m3 := HN5.out.cell (k := 3) rfl
  have m4 := HN5.out.cell (k := 4) rfl
  have ml := HN5.out.lt
  have mf := HN5.out.free
  go_wp2_with fail
  generalize hw6 : w5.setCell ⟨wn.heap.size, 4, none⟩ (.slice sp sn sc) = w6 at *
  have HR6 : Hid (Rd w6 b g c L r5) := hide (hw6 ▸ (by repeat (first | with_reducible exact HR5.out | with_reducible refine Rd.alloc ?_ _ | with_reducible refine Rd.other ?_ _ (by first | omega | (dsimp only; omega)) (by first | omega | (dsimp only; omega)))))
  have HB6 : Hid (But b w w6) := hide (hw6 ▸ (by repeat (first | with_reducible exact HB5.out | with_reducible refine But.alloc ?_ _ | with_reducible refine But.fresh ?_ (by first | omega | (dsimp only; omega)) _)))
  have HY6 : Hid (Bx w6 w.heap.size 27 #[.int .i64 0, .int .i64 0, .string ⟨#[]⟩, .int .u32 0, .slice none 0 0]) := hide (hw6 ▸ (by repeat (first | with_reducible exact HY5.out | (with_reducible refine Bx.newAt ?_; first | rfl | (simp [World.setCell]; done)) | with_reducible refine Bx.alloc ?_ _ | with_reducible refine Bx.other ?_ _ (by first | omega | (dsimp only; omega)))))
  have hn6 := HN5.out.set 4 (.slice sp sn sc)
  rw [hw6] at hn6
  have HN6 : Hid (Bx w6 wn.heap.size 27 #[.int .i64 2, .int .i64 at_, .string (S nt), .int .u32 0, .slice sp sn sc]) := hide hn6
  have HK6 : Hid (KL u w6 ls (.slice sp sn sc)) := hide (hw6 ▸ HK5.out.other (p := ⟨wn.heap.size, 4, none⟩) _ (by dsimp only; omega))
  have hs6 : w5.heap.size ≤ w6.heap.size := by rw [← hw6]; simp [World.setCell]
  have hre := result_any w6.drew r5 HR6.out.drew
  have hrv := resF_val L r5
  generalize (resF L r5).2 = rv at *
  generalize (resF L r5).1 = r7 at *
  have HRE := hide hre
  have hor : bits BinOp.or IntKind.u32 0 rv = rv := by
    rcases hrv with rfl | rfl | rfl <;> kernel_rfl
  clear hn6 hw6 m0 m1 m2 m3 m4 ml mf hre
  refine wp_region_held_drew (S := fun w' => ∃ u3, Bx w' wn.heap.size 27 #[.int .i64 2, .int .i64 at_, .string (S nt), u3, .slice sp sn sc]) (by kernel_rfl) ⟨_, HN6.out⟩ (fun hH1 => ?_)
  refine wpAnyH_take (i := 0) (v := ?_) rfl (by kernel_rfl) (by kernel_rfl) (by kernel_rfl) (fun _ _ _ h => h) (Or.inl ⟨by rfl, ?_⟩) (by assumption) ?_
  rotate_left
  · intro w hSw; (try dsimp only at hSw); go_simp; (try with_reducible rfl)
  (try simp only [Act.put, List.getElem_toArray, List.getElem_cons_zero, List.setIfInBounds_toArray, List.set_cons_zero, List.set_cons_succ])
  refine wpAnyH_take (i := 2) (v := ?_) rfl (by kernel_rfl) (by kernel_rfl) (by kernel_rfl) (fun _ _ _ h => h) (Or.inl ⟨by rfl, ?_⟩) (by assumption) ?_
  rotate_left
  · intro w hSw; (try dsimp only at hSw); go_simp; (try with_reducible rfl)
  (try simp only [Act.put, List.getElem_toArray, List.getElem_cons_zero, List.getElem_cons_succ, List.setIfInBounds_toArray, List.set_cons_zero, List.set_cons_succ])
  refine wpAnyH_ready (rs := [1, 3]) (by kernel_rfl) (by simp) ?_
  refine AllReadyH.cons rfl (fun K hK => ?_) ?_
  · have c3 := HN6.out.cell (k := 3) rfl
    go_simp
    refine hK.out _ _ ⟨_, HN6.out⟩ (fun hH2 => ?_)
    clear hK K c3
    (try simp only [Act.put, List.getElem_toArray, List.getElem_cons_zero, List.getElem_cons_succ, List.setIfInBounds_toArray, List.set_cons_zero, List.set_cons_succ])
    refine wpAnyH_ready (rs := [3]) (by kernel_rfl) (by simp) ?_
    refine AllReadyH.cons rfl (fun K hK => ?_) AllReadyH.nil
    go_simp
    with_reducible refine HRE.out.mono ?_
    rintro e w7 ⟨rfl, hR7, hB7⟩
    have hB67 : But b w6 w7 := ⟨hB7.os, hB7.tape, hB7.output, hB7.size, hB7.block⟩
    have hz7 := hB67.size
    have HR7 := hide hR7
    have HB7 := hide (HB6.out.trans hB67)
    have HY7 := hide (Bx.but HY6.out hB67 (by omega))
    have HN7 := hide (Bx.but HN6.out hB67 (by omega))
    have HK7 := hide (HK6.out.but hB67 (by omega))
    refine hK.out _ _ ⟨_, HN7.out⟩ (fun hH3 => ?_)
    clear hK K hR7 hB7 hB67
    (try simp only [Act.put, List.getElem_toArray, List.getElem_cons_zero, List.getElem_cons_succ, List.setIfInBounds_toArray, List.set_cons_zero, List.set_cons_succ])
    refine wpAnyH_take (i := 4) (v := ?_) rfl (by kernel_rfl) (by kernel_rfl) (by kernel_rfl) (fun _ _ _ h => h) (Or.inl ⟨by rfl, ?_⟩) (by assumption) ?_
    rotate_left
    · intro w hSw; (try dsimp only at hSw); go_simp; (try with_reducible rfl)
    (try simp only [Act.put, List.getElem_toArray, List.getElem_cons_zero, List.getElem_cons_succ, List.setIfInBounds_toArray, List.set_cons_zero, List.set_cons_succ])
    refine wpAnyH_take (i := 5) (v := ?_) rfl (by kernel_rfl) (by kernel_rfl) (by kernel_rfl) (fun _ _ _ h => h) (Or.inl ⟨by rfl, ?_⟩) (by assumption) ?_
    rotate_left
    · intro w hSw; (try dsimp only at hSw); go_simp; (try with_reducible rfl)
    (try simp only [Act.put, List.getElem_toArray, List.getElem_cons_zero, List.getElem_cons_succ, List.setIfInBounds_toArray, List.set_cons_zero, List.set_cons_succ])
    refine wpAnyH_ready (rs := [6]) (by kernel_rfl) (by simp) ?_
    refine AllReadyH.cons rfl (fun K hK => ?_) AllReadyH.nil
    have mc := HN7.out.cell (k := 3) rfl
    have mf := HN7.out.free
    go_simp
    have hq8 := HN7.out.set 3 (.int .u32 (rv))
    refine hK.out _ _ ⟨_, hq8⟩ (fun hH4 => ?_)
    clear hK K mc mf
    (try simp only [Act.put, List.getElem_toArray, List.getElem_cons_zero, List.getElem_cons_succ, List.setIfInBounds_toArray, List.set_cons_zero, List.set_cons_succ])
    refine wpAnyH_done (by kernel_rfl) ?_ _
    have hnm : rv = rv := rfl
    generalize hw4 : w7.setCell ⟨wn.heap.size, 3, none⟩ (.int .u32 rv) = w4 at *
    have HR4 : Hid (Rd w4 b g c L r7) := hide (hw4 ▸ (by repeat (first | with_reducible exact HR7.out | with_reducible refine Rd.alloc ?_ _ | with_reducible refine Rd.other ?_ _ (by first | omega | (dsimp only; omega)) (by first | omega | (dsimp only; omega)))))
    have HB4 : Hid (But b w w4) := hide (hw4 ▸ (by repeat (first | with_reducible exact HB7.out | with_reducible refine But.alloc ?_ _ | with_reducible refine But.fresh ?_ (by first | omega | (dsimp only; omega)) _)))
    have HX4 : Hid (Bx w4 w.heap.size 27 #[.int .i64 0, .int .i64 0, .string ⟨#[]⟩, .int .u32 0, .slice none 0 0]) := hide (hw4 ▸ (by repeat (first | with_reducible exact HY7.out | (with_reducible refine Bx.newAt ?_; first | rfl | (simp [World.setCell]; done)) | with_reducible refine Bx.alloc ?_ _ | with_reducible refine Bx.other ?_ _ (by first | omega | (dsimp only; omega)))))
    have HN4 : Hid (Bx w4 wn.heap.size 27 #[.int .i64 2, .int .i64 at_, .string (S nt), .int .u32 rv, .slice sp sn sc]) := hide hq8
    have HK4 : Hid (KL u w4 ls (.slice sp sn sc)) := hide (hw4 ▸ HK7.out.other (p := ⟨wn.heap.size, 3, none⟩) _ (by dsimp only; omega))
    have hs4 : w7.heap.size ≤ w4.heap.size := by rw [← hw4]; simp [World.setCell]
    have HCB := hide (hb w4.drew _ HR4.out.drew (.inl (by omega)))
    have HNM9 := hide hnm
    clear hq8 hw4 hnm
    go_wp2_with fail
    refine wp_region_held_drew (S := fun w' => ∃ s0, Bx w' wn.heap.size 27 #[.int .i64 2, .int .i64 at_, .string (S nt), .int .u32 rv, s0]) (by kernel_rfl) ⟨_, HN4.out⟩ (fun hH1 => ?_)
    refine wpAnyH_take (i := 0) (v := ?_) rfl (by kernel_rfl) (by kernel_rfl) (by kernel_rfl) (fun _ _ _ h => h) (Or.inl ⟨by rfl, ?_⟩) (by assumption) ?_
    rotate_left
    · intro w hSw; (try dsimp only at hSw); go_simp; (try with_reducible rfl)
    (try simp only [Act.put, List.getElem_toArray, List.getElem_cons_zero, List.setIfInBounds_toArray, List.set_cons_zero, List.set_cons_succ])
    refine wpAnyH_take (i := 2) (v := ?_) rfl (by kernel_rfl) (by kernel_rfl) (by kernel_rfl) (fun _ _ _ h => h) (Or.inl ⟨by rfl, ?_⟩) (by assumption) ?_
    rotate_left
    · intro w hSw; (try dsimp only at hSw); go_simp; (try with_reducible rfl)
    (try simp only [Act.put, List.getElem_toArray, List.getElem_cons_zero, List.getElem_cons_succ, List.setIfInBounds_toArray, List.set_cons_zero, List.set_cons_succ])
    refine wpAnyH_ready (rs := [1, 3]) (by kernel_rfl) (by simp) ?_
    refine AllReadyH.cons rfl (fun K hK => ?_) ?_
    · have c4 := HN4.out.cell (k := 4) rfl
      go_simp
      refine hK.out _ _ ⟨_, HN4.out⟩ (fun hH6 => ?_)
      clear hK K c4
      (try simp only [Act.put, List.getElem_toArray, List.getElem_cons_zero, List.getElem_cons_succ, List.setIfInBounds_toArray, List.set_cons_zero, List.set_cons_succ])
      refine wpAnyH_ready (rs := [3]) (by kernel_rfl) (by simp) ?_
      refine AllReadyH.cons rfl (fun K hK => ?_) AllReadyH.nil
      go_simp
      try rw [hw]
      with_reducible refine HCB.out.mono ?_
      intro e w5 hN
      obtain ⟨k5, a5, t5, v5, l5, sp5, sn5, sc5, hq5, rfl, hR5, hB5, hT5⟩ := hN.parts
      have hB45 : But b w4 w5 := ⟨hB5.os, hB5.tape, hB5.output, hB5.size, hB5.block⟩
      have hz5 := hB45.size
      have HQ5 := hide hq5
      have HR5 := hide hR5
      have HB5 := hide (HB4.out.trans hB45)
      have HN5 := hide (Bx.but HN4.out hB45 (by omega))
      have HK5 := hide (HK4.out.but hB45 (by omega))
      have HT5 : Hid (Rep w5 (Fr w4 w5) (.mk k5 a5 t5 v5 l5) #[.int .i64 k5, .int .i64 a5, .string (S t5), .int .u32 v5, .slice sp5 sn5 sc5]) := hide hT5
      have HX5 := hide (Bx.but HX4.out hB45 (by omega))
      have HSU := hide HK4.out.blk
      refine hK.out _ _ ⟨_, HN5.out⟩ (fun hH2 => ?_)
      clear hK K hN hq5 hR5 hB5 hB45 hT5
      (try simp only [Act.put, List.getElem_toArray, List.getElem_cons_zero, List.getElem_cons_succ, List.setIfInBounds_toArray, List.set_cons_zero, List.set_cons_succ])
      refine wpAnyH_ready (rs := [4]) (by kernel_rfl) (by simp) ?_
      refine AllReadyH.cons rfl (fun K hK => ?_) AllReadyH.nil
      go_simp
      refine hK.out _ _ ⟨_, HN5.out.alloc _⟩ (fun hH3 => ?_)
      clear hK K
      (try simp only [Act.put, List.getElem_toArray, List.getElem_cons_zero, List.getElem_cons_succ, List.setIfInBounds_toArray, List.set_cons_zero, List.set_cons_succ])
      refine wpAnyH_ready (rs := [5]) (by kernel_rfl) (by simp) ?_
      refine AllReadyH.cons rfl (fun K hK => ?_) AllReadyH.nil
      rw [if_pos (by kernel_rfl)]
      have hkb := HK5.out.blk
      obtain ⟨xs, hown, hxl, hkk⟩ := HK5.out
      have hX1 := rep_one HT5.out
      refine wp_app (.tmp 26) (.tmp 29) rfl u.heap.size (Value.slice sp sn sc) _ _ rfl (hown.alloc (.cells #[.int .i64 k5, .int .i64 a5, .string (S t5), .int .u32 v5, .slice sp5 sn5 sc5] 27)) ⟨_, 0, none⟩ 1 [.int .i64 k5, .int .i64 a5, .string (S t5), .int .u32 v5, .slice sp5 sn5 sc5] rfl rfl (fun j u hj => ?_) (fun u hu => ?_) (by omega) (by simp; omega) ?_
      · match j, hj with
        | 0, hj => simp at hj; subst hj; simp [Addr.add]
        | 1, hj => simp at hj; subst hj; simp [Addr.add]
        | 2, hj => simp at hj; subst hj; simp [Addr.add]
        | 3, hj => simp at hj; subst hj; simp [Addr.add]
        | 4, hj => simp at hj; subst hj; simp [Addr.add]
      · simp at hu
        rcases hu with rfl | rfl | rfl | rfl | rfl
        · rfl
        · rfl
        · rfl
        · rfl
        · exact hX1
      intro v' w7 hown' hgrow hat
      have hat' : v'.ownBlock = (Value.slice sp sn sc).ownBlock ∨ v'.ownBlock = some (w5.heap.size + 1) := by
        rcases hat with e | e
        · exact .inl e
        · right; rw [e]; simp
      have HK7 := hide (KL.app (show u.heap.size ≤ w4.heap.size by omega) (fun j hj => (HSU.out j hj).2) HT5.out hxl hkk hown' hgrow hat')
      have hz7 := hgrow.size
      simp at hz7
      have hrow : ∀ j, (Value.slice sp sn sc).ownBlock = some j → u.heap.size ≤ j := fun j hj => (hkb j hj).1
      have HN7 : Hid (Bx w7 wn.heap.size 27 #[.int .i64 2, .int .i64 at_, .string (S nt), .int .u32 rv, .slice sp sn sc]) := hide ((hgrow.block _ (by have := HN5.out.lt; simp; omega) (fun e => by have := hrow _ e.symm; omega)).trans (HN5.out.alloc _))
      have HR7 := hide ((HR5.out.alloc (.cells #[.int .i64 k5, .int .i64 a5, .string (S t5), .int .u32 v5, .slice sp5 sn5 sc5] 27)).grown hgrow (fun e => by have := hrow _ e.symm; omega) (fun e => by have := hrow _ e.symm; omega))
      have HB7 := hide ((HB5.out.alloc (.cells #[.int .i64 k5, .int .i64 a5, .string (S t5), .int .u32 v5, .slice sp5 sn5 sc5] 27)).grown hgrow (fun j hj => by have := hrow j hj; omega))
      have HX7 : Hid (Bx w7 w.heap.size 27 #[.int .i64 0, .int .i64 0, .string ⟨#[]⟩, .int .u32 0, .slice none 0 0]) := hide ((hgrow.block _ (by have := HX5.out.lt; simp; omega) (fun e => by have := hrow _ e.symm; omega)).trans (HX5.out.alloc _))
      obtain ⟨p7, n7, c7, rfl⟩ := HK7.out.slice
      refine hK.out _ _ ⟨_, HN7.out⟩ (fun hH4 => ?_)
      clear hK K hown hxl hkk hown' hgrow hat hat' hX1
      (try simp only [Act.put, List.getElem_toArray, List.getElem_cons_zero, List.getElem_cons_succ, List.setIfInBounds_toArray, List.set_cons_zero, List.set_cons_succ])
      refine wpAnyH_take (i := 6) (v := ?_) rfl (by kernel_rfl) (by kernel_rfl) (by kernel_rfl) (fun _ _ _ h => h) (Or.inl ⟨by rfl, ?_⟩) (by assumption) ?_
      rotate_left
      · intro w hSw; (try dsimp only at hSw); go_simp; (try with_reducible rfl)
      (try simp only [Act.put, List.getElem_toArray, List.getElem_cons_zero, List.getElem_cons_succ, List.setIfInBounds_toArray, List.set_cons_zero, List.set_cons_succ])
      refine wpAnyH_ready (rs := [7]) (by kernel_rfl) (by simp) ?_
      refine AllReadyH.cons rfl (fun K hK => ?_) AllReadyH.nil
      have mc := HN7.out.cell (k := 4) rfl
      have mf := HN7.out.free
      go_simp
      have hn8 : Bx (w7.setCell ⟨wn.heap.size, 4, none⟩ (.slice p7 n7 c7)) wn.heap.size 27 #[.int .i64 2, .int .i64 at_, .string (S nt), .int .u32 rv, .slice p7 n7 c7] := HN7.out.set 4 (.slice p7 n7 c7)
      refine hK.out _ _ ⟨_, hn8⟩ (fun hH5 => ?_)
      clear hK K mc mf
      (try simp only [Act.put, List.getElem_toArray, List.getElem_cons_zero, List.getElem_cons_succ, List.setIfInBounds_toArray, List.set_cons_zero, List.set_cons_succ])
      refine wpAnyH_done (by kernel_rfl) ?_ _
      have HN8 := hide hn8
      have HR8 := hide (HR7.out.other (p := ⟨wn.heap.size, 4, none⟩) (.slice p7 n7 c7) (by dsimp only; omega) (by dsimp only; omega))
      have HB8 := hide (HB7.out.fresh (p := ⟨wn.heap.size, 4, none⟩) (by dsimp only; omega) (.slice p7 n7 c7))
      have HK8 := hide (HK7.out.other (p := ⟨wn.heap.size, 4, none⟩) (.slice p7 n7 c7) (by dsimp only; omega))
      have HX8 : Hid (Bx _ w.heap.size 27 #[.int .i64 0, .int .i64 0, .string ⟨#[]⟩, .int .u32 0, .slice none 0 0]) := hide (HX7.out.other (p := ⟨wn.heap.size, 4, none⟩) (.slice p7 n7 c7) (by dsimp only; omega))
      have hz8 : (w7.setCell ⟨wn.heap.size, 4, none⟩ (.slice p7 n7 c7)).heap.size = w7.heap.size := by simp [World.setCell]
      clear hn8 HN7 HR7 HB7 HK7 HN5 HR5 HB5 HK5 HT5 HX7 HX5
      generalize w7.setCell ⟨wn.heap.size, 4, none⟩ (.slice p7 n7 c7) = w8 at *
      have x0 := HX8.out.cell (k := 0) rfl
      have x1 := HX8.out.cell (k := 1) rfl
      have x2 := HX8.out.cell (k := 2) rfl
      have x3 := HX8.out.cell (k := 3) rfl
      have x4 := HX8.out.cell (k := 4) rfl
      have xl := HX8.out.lt
      have xf := HX8.out.free
      have p0 := HN8.out.cell (k := 0) rfl
      have p1 := HN8.out.cell (k := 1) rfl
      have p2 := HN8.out.cell (k := 2) rfl
      have p3 := HN8.out.cell (k := 3) rfl
      have p4 := HN8.out.cell (k := 4) rfl
      have pl := HN8.out.lt
      have pf := HN8.out.free
      go_wp2_with fail
      have hkr := HK8.out.rep 2 at_ nt rv
      unfold nC at hkr
      have hf9 := fin_put2 (b := b) (g := g) (c := c) (L := L) (w := w) HR8.out HB8.out HX8.out (Nat.le_refl _) (show w.heap.size < u.heap.size by omega) hkr hbz hgz
      exact bodyPost_ret (v := .agg #[.int .i64 2, .int .i64 at_, .string (S nt), .int .u32 rv, .slice p7 n7 c7]) (results_cell_row (fn := Tryd.f28) rfl _ _ w.heap.size 27 _ (0, 0) _ rfl hf9.1 Tryd.underlying27 rfl info_nd) rfl (hf9.2 _ rfl (by rw [Int.zero_add, HQ5.out]))
    refine AllReadyH.cons rfl (fun K hK => ?_) AllReadyH.nil
    · go_simp
      try rw [hw]
      with_reducible refine HCB.out.mono ?_
      intro e w5 hN
      obtain ⟨k5, a5, t5, v5, l5, sp5, sn5, sc5, hq5, rfl, hR5, hB5, hT5⟩ := hN.parts
      have hB45 : But b w4 w5 := ⟨hB5.os, hB5.tape, hB5.output, hB5.size, hB5.block⟩
      have hz5 := hB45.size
      have HQ5 := hide hq5
      have HR5 := hide hR5
      have HB5 := hide (HB4.out.trans hB45)
      have HN5 := hide (Bx.but HN4.out hB45 (by omega))
      have HK5 := hide (HK4.out.but hB45 (by omega))
      have HT5 : Hid (Rep w5 (Fr w4 w5) (.mk k5 a5 t5 v5 l5) #[.int .i64 k5, .int .i64 a5, .string (S t5), .int .u32 v5, .slice sp5 sn5 sc5]) := hide hT5
      have HX5 := hide (Bx.but HX4.out hB45 (by omega))
      have HSU := hide HK4.out.blk
      refine hK.out _ _ ⟨_, HN5.out⟩ (fun hH2 => ?_)
      clear hK K hN hq5 hR5 hB5 hB45 hT5
      (try simp only [Act.put, List.getElem_toArray, List.getElem_cons_zero, List.getElem_cons_succ, List.setIfInBounds_toArray, List.set_cons_zero, List.set_cons_succ])
      refine wpAnyH_ready (rs := [1, 4]) (by kernel_rfl) (by simp) ?_
      refine AllReadyH.cons rfl (fun K hK => ?_) ?_
      · have c4 := HN5.out.cell (k := 4) rfl
        go_simp
        refine hK.out _ _ ⟨_, HN5.out⟩ (fun hH6 => ?_)
        clear hK K c4
        (try simp only [Act.put, List.getElem_toArray, List.getElem_cons_zero, List.getElem_cons_succ, List.setIfInBounds_toArray, List.set_cons_zero, List.set_cons_succ])
        refine wpAnyH_ready (rs := [4]) (by kernel_rfl) (by simp) ?_
        refine AllReadyH.cons rfl (fun K hK => ?_) AllReadyH.nil
        go_simp
        refine hK.out _ _ ⟨_, HN5.out.alloc _⟩ (fun hH3 => ?_)
        clear hK K
        (try simp only [Act.put, List.getElem_toArray, List.getElem_cons_zero, List.getElem_cons_succ, List.setIfInBounds_toArray, List.set_cons_zero, List.set_cons_succ])
        refine wpAnyH_ready (rs := [5]) (by kernel_rfl) (by simp) ?_
        refine AllReadyH.cons rfl (fun K hK => ?_) AllReadyH.nil
        rw [if_pos (by kernel_rfl)]
        have hkb := HK5.out.blk
        obtain ⟨xs, hown, hxl, hkk⟩ := HK5.out
        have hX1 := rep_one HT5.out
        refine wp_app (.tmp 26) (.tmp 29) rfl u.heap.size (Value.slice sp sn sc) _ _ rfl (hown.alloc (.cells #[.int .i64 k5, .int .i64 a5, .string (S t5), .int .u32 v5, .slice sp5 sn5 sc5] 27)) ⟨_, 0, none⟩ 1 [.int .i64 k5, .int .i64 a5, .string (S t5), .int .u32 v5, .slice sp5 sn5 sc5] rfl rfl (fun j u hj => ?_) (fun u hu => ?_) (by omega) (by simp; omega) ?_
        · match j, hj with
          | 0, hj => simp at hj; subst hj; simp [Addr.add]
          | 1, hj => simp at hj; subst hj; simp [Addr.add]
          | 2, hj => simp at hj; subst hj; simp [Addr.add]
          | 3, hj => simp at hj; subst hj; simp [Addr.add]
          | 4, hj => simp at hj; subst hj; simp [Addr.add]
        · simp at hu
          rcases hu with rfl | rfl | rfl | rfl | rfl
          · rfl
          · rfl
          · rfl
          · rfl
          · exact hX1
        intro v' w7 hown' hgrow hat
        have hat' : v'.ownBlock = (Value.slice sp sn sc).ownBlock ∨ v'.ownBlock = some (w5.heap.size + 1) := by
          rcases hat with e | e
          · exact .inl e
          · right; rw [e]; simp
        have HK7 := hide (KL.app (show u.heap.size ≤ w4.heap.size by omega) (fun j hj => (HSU.out j hj).2) HT5.out hxl hkk hown' hgrow hat')
        have hz7 := hgrow.size
        simp at hz7
        have hrow : ∀ j, (Value.slice sp sn sc).ownBlock = some j → u.heap.size ≤ j := fun j hj => (hkb j hj).1
        have HN7 : Hid (Bx w7 wn.heap.size 27 #[.int .i64 2, .int .i64 at_, .string (S nt), .int .u32 rv, .slice sp sn sc]) := hide ((hgrow.block _ (by have := HN5.out.lt; simp; omega) (fun e => by have := hrow _ e.symm; omega)).trans (HN5.out.alloc _))
        have HR7 := hide ((HR5.out.alloc (.cells #[.int .i64 k5, .int .i64 a5, .string (S t5), .int .u32 v5, .slice sp5 sn5 sc5] 27)).grown hgrow (fun e => by have := hrow _ e.symm; omega) (fun e => by have := hrow _ e.symm; omega))
        have HB7 := hide ((HB5.out.alloc (.cells #[.int .i64 k5, .int .i64 a5, .string (S t5), .int .u32 v5, .slice sp5 sn5 sc5] 27)).grown hgrow (fun j hj => by have := hrow j hj; omega))
        have HX7 : Hid (Bx w7 w.heap.size 27 #[.int .i64 0, .int .i64 0, .string ⟨#[]⟩, .int .u32 0, .slice none 0 0]) := hide ((hgrow.block _ (by have := HX5.out.lt; simp; omega) (fun e => by have := hrow _ e.symm; omega)).trans (HX5.out.alloc _))
        obtain ⟨p7, n7, c7, rfl⟩ := HK7.out.slice
        refine hK.out _ _ ⟨_, HN7.out⟩ (fun hH4 => ?_)
        clear hK K hown hxl hkk hown' hgrow hat hat' hX1
        (try simp only [Act.put, List.getElem_toArray, List.getElem_cons_zero, List.getElem_cons_succ, List.setIfInBounds_toArray, List.set_cons_zero, List.set_cons_succ])
        refine wpAnyH_take (i := 6) (v := ?_) rfl (by kernel_rfl) (by kernel_rfl) (by kernel_rfl) (fun _ _ _ h => h) (Or.inl ⟨by rfl, ?_⟩) (by assumption) ?_
        rotate_left
        · intro w hSw; (try dsimp only at hSw); go_simp; (try with_reducible rfl)
        (try simp only [Act.put, List.getElem_toArray, List.getElem_cons_zero, List.getElem_cons_succ, List.setIfInBounds_toArray, List.set_cons_zero, List.set_cons_succ])
        refine wpAnyH_ready (rs := [7]) (by kernel_rfl) (by simp) ?_
        refine AllReadyH.cons rfl (fun K hK => ?_) AllReadyH.nil
        have mc := HN7.out.cell (k := 4) rfl
        have mf := HN7.out.free
        go_simp
        have hn8 : Bx (w7.setCell ⟨wn.heap.size, 4, none⟩ (.slice p7 n7 c7)) wn.heap.size 27 #[.int .i64 2, .int .i64 at_, .string (S nt), .int .u32 rv, .slice p7 n7 c7] := HN7.out.set 4 (.slice p7 n7 c7)
        refine hK.out _ _ ⟨_, hn8⟩ (fun hH5 => ?_)
        clear hK K mc mf
        (try simp only [Act.put, List.getElem_toArray, List.getElem_cons_zero, List.getElem_cons_succ, List.setIfInBounds_toArray, List.set_cons_zero, List.set_cons_succ])
        refine wpAnyH_done (by kernel_rfl) ?_ _
        have HN8 := hide hn8
        have HR8 := hide (HR7.out.other (p := ⟨wn.heap.size, 4, none⟩) (.slice p7 n7 c7) (by dsimp only; omega) (by dsimp only; omega))
        have HB8 := hide (HB7.out.fresh (p := ⟨wn.heap.size, 4, none⟩) (by dsimp only; omega) (.slice p7 n7 c7))
        have HK8 := hide (HK7.out.other (p := ⟨wn.heap.size, 4, none⟩) (.slice p7 n7 c7) (by dsimp only; omega))
        have HX8 : Hid (Bx _ w.heap.size 27 #[.int .i64 0, .int .i64 0, .string ⟨#[]⟩, .int .u32 0, .slice none 0 0]) := hide (HX7.out.other (p := ⟨wn.heap.size, 4, none⟩) (.slice p7 n7 c7) (by dsimp only; omega))
        have hz8 : (w7.setCell ⟨wn.heap.size, 4, none⟩ (.slice p7 n7 c7)).heap.size = w7.heap.size := by simp [World.setCell]
        clear hn8 HN7 HR7 HB7 HK7 HN5 HR5 HB5 HK5 HT5 HX7 HX5
        generalize w7.setCell ⟨wn.heap.size, 4, none⟩ (.slice p7 n7 c7) = w8 at *
        have x0 := HX8.out.cell (k := 0) rfl
        have x1 := HX8.out.cell (k := 1) rfl
        have x2 := HX8.out.cell (k := 2) rfl
        have x3 := HX8.out.cell (k := 3) rfl
        have x4 := HX8.out.cell (k := 4) rfl
        have xl := HX8.out.lt
        have xf := HX8.out.free
        have p0 := HN8.out.cell (k := 0) rfl
        have p1 := HN8.out.cell (k := 1) rfl
        have p2 := HN8.out.cell (k := 2) rfl
        have p3 := HN8.out.cell (k := 3) rfl
        have p4 := HN8.out.cell (k := 4) rfl
        have pl := HN8.out.lt
        have pf := HN8.out.free
        go_wp2_with fail
        have hkr := HK8.out.rep 2 at_ nt rv
        unfold nC at hkr
        have hf9 := fin_put2 (b := b) (g := g) (c := c) (L := L) (w := w) HR8.out HB8.out HX8.out (Nat.le_refl _) (show w.heap.size < u.heap.size by omega) hkr hbz hgz
        exact bodyPost_ret (v := .agg #[.int .i64 2, .int .i64 at_, .string (S nt), .int .u32 rv, .slice p7 n7 c7]) (results_cell_row (fn := Tryd.f28) rfl _ _ w.heap.size 27 _ (0, 0) _ rfl hf9.1 Tryd.underlying27 rfl info_nd) rfl (hf9.2 _ rfl (by rw [Int.zero_add, HQ5.out]))
      refine AllReadyH.cons rfl (fun K hK => ?_) AllReadyH.nil
      · go_simp
        refine hK.out _ _ ⟨_, HN5.out.alloc _⟩ (fun hH3 => ?_)
        clear hK K
        (try simp only [Act.put, List.getElem_toArray, List.getElem_cons_zero, List.getElem_cons_succ, List.setIfInBounds_toArray, List.set_cons_zero, List.set_cons_succ])
        refine wpAnyH_ready (rs := [1]) (by kernel_rfl) (by simp) ?_
        refine AllReadyH.cons rfl (fun K hK => ?_) AllReadyH.nil
        have c4 := (HN5.out.alloc (.cells #[.int .i64 k5, .int .i64 a5, .string (S t5), .int .u32 v5, .slice sp5 sn5 sc5] 27)).cell (k := 4) rfl
        go_simp
        refine hK.out _ _ ⟨_, (HN5.out.alloc (.cells #[.int .i64 k5, .int .i64 a5, .string (S t5), .int .u32 v5, .slice sp5 sn5 sc5] 27))⟩ (fun hH6 => ?_)
        clear hK K c4
        (try simp only [Act.put, List.getElem_toArray, List.getElem_cons_zero, List.getElem_cons_succ, List.setIfInBounds_toArray, List.set_cons_zero, List.set_cons_succ])
        refine wpAnyH_ready (rs := [5]) (by kernel_rfl) (by simp) ?_
        refine AllReadyH.cons rfl (fun K hK => ?_) AllReadyH.nil
        rw [if_pos (by kernel_rfl)]
        have hkb := HK5.out.blk
        obtain ⟨xs, hown, hxl, hkk⟩ := HK5.out
        have hX1 := rep_one HT5.out
        refine wp_app (.tmp 26) (.tmp 29) rfl u.heap.size (Value.slice sp sn sc) _ _ rfl (hown.alloc (.cells #[.int .i64 k5, .int .i64 a5, .string (S t5), .int .u32 v5, .slice sp5 sn5 sc5] 27)) ⟨_, 0, none⟩ 1 [.int .i64 k5, .int .i64 a5, .string (S t5), .int .u32 v5, .slice sp5 sn5 sc5] rfl rfl (fun j u hj => ?_) (fun u hu => ?_) (by omega) (by simp; omega) ?_
        · match j, hj with
          | 0, hj => simp at hj; subst hj; simp [Addr.add]
          | 1, hj => simp at hj; subst hj; simp [Addr.add]
          | 2, hj => simp at hj; subst hj; simp [Addr.add]
          | 3, hj => simp at hj; subst hj; simp [Addr.add]
          | 4, hj => simp at hj; subst hj; simp [Addr.add]
        · simp at hu
          rcases hu with rfl | rfl | rfl | rfl | rfl
          · rfl
          · rfl
          · rfl
          · rfl
          · exact hX1
        intro v' w7 hown' hgrow hat
        have hat' : v'.ownBlock = (Value.slice sp sn sc).ownBlock ∨ v'.ownBlock = some (w5.heap.size + 1) := by
          rcases hat with e | e
          · exact .inl e
          · right; rw [e]; simp
        have HK7 := hide (KL.app (show u.heap.size ≤ w4.heap.size by omega) (fun j hj => (HSU.out j hj).2) HT5.out hxl hkk hown' hgrow hat')
        have hz7 := hgrow.size
        simp at hz7
        have hrow : ∀ j, (Value.slice sp sn sc).ownBlock = some j → u.heap.size ≤ j := fun j hj => (hkb j hj).1
        have HN7 : Hid (Bx w7 wn.heap.size 27 #[.int .i64 2, .int .i64 at_, .string (S nt), .int .u32 rv, .slice sp sn sc]) := hide ((hgrow.block _ (by have := HN5.out.lt; simp; omega) (fun e => by have := hrow _ e.symm; omega)).trans (HN5.out.alloc _))
        have HR7 := hide ((HR5.out.alloc (.cells #[.int .i64 k5, .int .i64 a5, .string (S t5), .int .u32 v5, .slice sp5 sn5 sc5] 27)).grown hgrow (fun e => by have := hrow _ e.symm; omega) (fun e => by have := hrow _ e.symm; omega))
        have HB7 := hide ((HB5.out.alloc (.cells #[.int .i64 k5, .int .i64 a5, .string (S t5), .int .u32 v5, .slice sp5 sn5 sc5] 27)).grown hgrow (fun j hj => by have := hrow j hj; omega))
        have HX7 : Hid (Bx w7 w.heap.size 27 #[.int .i64 0, .int .i64 0, .string ⟨#[]⟩, .int .u32 0, .slice none 0 0]) := hide ((hgrow.block _ (by have := HX5.out.lt; simp; omega) (fun e => by have := hrow _ e.symm; omega)).trans (HX5.out.alloc _))
        obtain ⟨p7, n7, c7, rfl⟩ := HK7.out.slice
        refine hK.out _ _ ⟨_, HN7.out⟩ (fun hH4 => ?_)
        clear hK K hown hxl hkk hown' hgrow hat hat' hX1
        (try simp only [Act.put, List.getElem_toArray, List.getElem_cons_zero, List.getElem_cons_succ, List.setIfInBounds_toArray, List.set_cons_zero, List.set_cons_succ])
        refine wpAnyH_take (i := 6) (v := ?_) rfl (by kernel_rfl) (by kernel_rfl) (by kernel_rfl) (fun _ _ _ h => h) (Or.inl ⟨by rfl, ?_⟩) (by assumption) ?_
        rotate_left
        · intro w hSw; (try dsimp only at hSw); go_simp; (try with_reducible rfl)
        (try simp only [Act.put, List.getElem_toArray, List.getElem_cons_zero, List.getElem_cons_succ, List.setIfInBounds_toArray, List.set_cons_zero, List.set_cons_succ])
        refine wpAnyH_ready (rs := [7]) (by kernel_rfl) (by simp) ?_
        refine AllReadyH.cons rfl (fun K hK => ?_) AllReadyH.nil
        have mc := HN7.out.cell (k := 4) rfl
        have mf := HN7.out.free
        go_simp
        have hn8 : Bx (w7.setCell ⟨wn.heap.size, 4, none⟩ (.slice p7 n7 c7)) wn.heap.size 27 #[.int .i64 2, .int .i64 at_, .string (S nt), .int .u32 rv, .slice p7 n7 c7] := HN7.out.set 4 (.slice p7 n7 c7)
        refine hK.out _ _ ⟨_, hn8⟩ (fun hH5 => ?_)
        clear hK K mc mf
        (try simp only [Act.put, List.getElem_toArray, List.getElem_cons_zero, List.getElem_cons_succ, List.setIfInBounds_toArray, List.set_cons_zero, List.set_cons_succ])
        refine wpAnyH_done (by kernel_rfl) ?_ _
        have HN8 := hide hn8
        have HR8 := hide (HR7.out.other (p := ⟨wn.heap.size, 4, none⟩) (.slice p7 n7 c7) (by dsimp only; omega) (by dsimp only; omega))
        have HB8 := hide (HB7.out.fresh (p := ⟨wn.heap.size, 4, none⟩) (by dsimp only; omega) (.slice p7 n7 c7))
        have HK8 := hide (HK7.out.other (p := ⟨wn.heap.size, 4, none⟩) (.slice p7 n7 c7) (by dsimp only; omega))
        have HX8 : Hid (Bx _ w.heap.size 27 #[.int .i64 0, .int .i64 0, .string ⟨#[]⟩, .int .u32 0, .slice none 0 0]) := hide (HX7.out.other (p := ⟨wn.heap.size, 4, none⟩) (.slice p7 n7 c7) (by dsimp only; omega))
        have hz8 : (w7.setCell ⟨wn.heap.size, 4, none⟩ (.slice p7 n7 c7)).heap.size = w7.heap.size := by simp [World.setCell]
        clear hn8 HN7 HR7 HB7 HK7 HN5 HR5 HB5 HK5 HT5 HX7 HX5
        generalize w7.setCell ⟨wn.heap.size, 4, none⟩ (.slice p7 n7 c7) = w8 at *
        have x0 := HX8.out.cell (k := 0) rfl
        have x1 := HX8.out.cell (k := 1) rfl
        have x2 := HX8.out.cell (k := 2) rfl
        have x3 := HX8.out.cell (k := 3) rfl
        have x4 := HX8.out.cell (k := 4) rfl
        have xl := HX8.out.lt
        have xf := HX8.out.free
        have p0 := HN8.out.cell (k := 0) rfl
        have p1 := HN8.out.cell (k := 1) rfl
        have p2 := HN8.out.cell (k := 2) rfl
        have p3 := HN8.out.cell (k := 3) rfl
        have p4 := HN8.out.cell (k := 4) rfl
        have pl := HN8.out.lt
        have pf := HN8.out.free
        go_wp2_with fail
        have hkr := HK8.out.rep 2 at_ nt rv
        unfold nC at hkr
        have hf9 := fin_put2 (b := b) (g := g) (c := c) (L := L) (w := w) HR8.out HB8.out HX8.out (Nat.le_refl _) (show w.heap.size < u.heap.size by omega) hkr hbz hgz
        exact bodyPost_ret (v := .agg #[.int .i64 2, .int .i64 at_, .string (S nt), .int .u32 rv, .slice p7 n7 c7]) (results_cell_row (fn := Tryd.f28) rfl _ _ w.heap.size 27 _ (0, 0) _ rfl hf9.1 Tryd.underlying27 rfl info_nd) rfl (hf9.2 _ rfl (by rw [Int.zero_add, HQ5.out]))
  refine AllReadyH.cons rfl (fun K hK => ?_) AllReadyH.nil
  go_simp
  with_reducible refine HRE.out.mono ?_
  rintro e w7 ⟨rfl, hR7, hB7⟩
  have hB67 : But b w6 w7 := ⟨hB7.os, hB7.tape, hB7.output, hB7.size, hB7.block⟩
  have hz7 := hB67.size
  have HR7 := hide hR7
  have HB7 := hide (HB6.out.trans hB67)
  have HY7 := hide (Bx.but HY6.out hB67 (by omega))
  have HN7 := hide (Bx.but HN6.out hB67 (by omega))
  have HK7 := hide (HK6.out.but hB67 (by omega))
  refine hK.out _ _ ⟨_, HN7.out⟩ (fun hH3 => ?_)
  clear hK K hR7 hB7 hB67
  (try simp only [Act.put, List.getElem_toArray, List.getElem_cons_zero, List.getElem_cons_succ, List.setIfInBounds_toArray, List.set_cons_zero, List.set_cons_succ])
  refine wpAnyH_ready (rs := [1]) (by kernel_rfl) (by simp) ?_
  refine AllReadyH.cons rfl (fun K hK => ?_) AllReadyH.nil
  have c3 := HN7.out.cell (k := 3) rfl
  go_simp
  refine hK.out _ _ ⟨_, HN7.out⟩ (fun hH2 => ?_)
  clear hK K c3
  (try simp only [Act.put, List.getElem_toArray, List.getElem_cons_zero, List.getElem_cons_succ, List.setIfInBounds_toArray, List.set_cons_zero, List.set_cons_succ])
  refine wpAnyH_take (i := 4) (v := ?_) rfl (by kernel_rfl) (by kernel_rfl) (by kernel_rfl) (fun _ _ _ h => h) (Or.inl ⟨by rfl, ?_⟩) (by assumption) ?_
  rotate_left
  · intro w hSw; (try dsimp only at hSw); go_simp; (try with_reducible rfl)
  (try simp only [Act.put, List.getElem_toArray, List.getElem_cons_zero, List.getElem_cons_succ, List.setIfInBounds_toArray, List.set_cons_zero, List.set_cons_succ])
  refine wpAnyH_take (i := 5) (v := ?_) rfl (by kernel_rfl) (by kernel_rfl) (by kernel_rfl) (fun _ _ _ h => h) (Or.inl ⟨by rfl, ?_⟩) (by assumption) ?_
  rotate_left
  · intro w hSw; (try dsimp only at hSw); go_simp; (try with_reducible rfl)
  (try simp only [Act.put, List.getElem_toArray, List.getElem_cons_zero, List.getElem_cons_succ, List.setIfInBounds_toArray, List.set_cons_zero, List.set_cons_succ])
  refine wpAnyH_ready (rs := [6]) (by kernel_rfl) (by simp) ?_
  refine AllReadyH.cons rfl (fun K hK => ?_) AllReadyH.nil
  have mc := HN7.out.cell (k := 3) rfl
  have mf := HN7.out.free
  go_simp
  have hq8 := HN7.out.set 3 (.int .u32 (rv))
  refine hK.out _ _ ⟨_, hq8⟩ (fun hH4 => ?_)
  clear hK K mc mf
  (try simp only [Act.put, List.getElem_toArray, List.getElem_cons_zero, List.getElem_cons_succ, List.setIfInBounds_toArray, List.set_cons_zero, List.set_cons_succ])
  refine wpAnyH_done (by kernel_rfl) ?_ _
  have hnm : rv = rv := rfl
  generalize hw4 : w7.setCell ⟨wn.heap.size, 3, none⟩ (.int .u32 rv) = w4 at *
  have HR4 : Hid (Rd w4 b g c L r7) := hide (hw4 ▸ (by repeat (first | with_reducible exact HR7.out | with_reducible refine Rd.alloc ?_ _ | with_reducible refine Rd.other ?_ _ (by first | omega | (dsimp only; omega)) (by first | omega | (dsimp only; omega)))))
  have HB4 : Hid (But b w w4) := hide (hw4 ▸ (by repeat (first | with_reducible exact HB7.out | with_reducible refine But.alloc ?_ _ | with_reducible refine But.fresh ?_ (by first | omega | (dsimp only; omega)) _)))
  have HX4 : Hid (Bx w4 w.heap.size 27 #[.int .i64 0, .int .i64 0, .string ⟨#[]⟩, .int .u32 0, .slice none 0 0]) := hide (hw4 ▸ (by repeat (first | with_reducible exact HY7.out | (with_reducible refine Bx.newAt ?_; first | rfl | (simp [World.setCell]; done)) | with_reducible refine Bx.alloc ?_ _ | with_reducible refine Bx.other ?_ _ (by first | omega | (dsimp only; omega)))))
  have HN4 : Hid (Bx w4 wn.heap.size 27 #[.int .i64 2, .int .i64 at_, .string (S nt), .int .u32 rv, .slice sp sn sc]) := hide hq8
  have HK4 : Hid (KL u w4 ls (.slice sp sn sc)) := hide (hw4 ▸ HK7.out.other (p := ⟨wn.heap.size, 3, none⟩) _ (by dsimp only; omega))
  have hs4 : w7.heap.size ≤ w4.heap.size := by rw [← hw4]; simp [World.setCell]
  have HCB := hide (hb w4.drew _ HR4.out.drew (.inl (by omega)))
  have HNM9 := hide hnm
  clear hq8 hw4 hnm
  go_wp2_with fail
  refine wp_region_held_drew (S := fun w' => ∃ s0, Bx w' wn.heap.size 27 #[.int .i64 2, .int .i64 at_, .string (S nt), .int .u32 rv, s0]) (by kernel_rfl) ⟨_, HN4.out⟩ (fun hH1 => ?_)
  refine wpAnyH_take (i := 0) (v := ?_) rfl (by kernel_rfl) (by kernel_rfl) (by kernel_rfl) (fun _ _ _ h => h) (Or.inl ⟨by rfl, ?_⟩) (by assumption) ?_
  rotate_left
  · intro w hSw; (try dsimp only at hSw); go_simp; (try with_reducible rfl)
  (try simp only [Act.put, List.getElem_toArray, List.getElem_cons_zero, List.setIfInBounds_toArray, List.set_cons_zero, List.set_cons_succ])
  refine wpAnyH_take (i := 2) (v := ?_) rfl (by kernel_rfl) (by kernel_rfl) (by kernel_rfl) (fun _ _ _ h => h) (Or.inl ⟨by rfl, ?_⟩) (by assumption) ?_
  rotate_left
  · intro w hSw; (try dsimp only at hSw); go_simp; (try with_reducible rfl)
  (try simp only [Act.put, List.getElem_toArray, List.getElem_cons_zero, List.getElem_cons_succ, List.setIfInBounds_toArray, List.set_cons_zero, List.set_cons_succ])
  refine wpAnyH_ready (rs := [1, 3]) (by kernel_rfl) (by simp) ?_
  refine AllReadyH.cons rfl (fun K hK => ?_) ?_
  · have c4 := HN4.out.cell (k := 4) rfl
    go_simp
    refine hK.out _ _ ⟨_, HN4.out⟩ (fun hH6 => ?_)
    clear hK K c4
    (try simp only [Act.put, List.getElem_toArray, List.getElem_cons_zero, List.getElem_cons_succ, List.setIfInBounds_toArray, List.set_cons_zero, List.set_cons_succ])
    refine wpAnyH_ready (rs := [3]) (by kernel_rfl) (by simp) ?_
    refine AllReadyH.cons rfl (fun K hK => ?_) AllReadyH.nil
    go_simp
    try rw [hw]
    with_reducible refine HCB.out.mono ?_
    intro e w5 hN
    obtain ⟨k5, a5, t5, v5, l5, sp5, sn5, sc5, hq5, rfl, hR5, hB5, hT5⟩ := hN.parts
    have hB45 : But b w4 w5 := ⟨hB5.os, hB5.tape, hB5.output, hB5.size, hB5.block⟩
    have hz5 := hB45.size
    have HQ5 := hide hq5
    have HR5 := hide hR5
    have HB5 := hide (HB4.out.trans hB45)
    have HN5 := hide (Bx.but HN4.out hB45 (by omega))
    have HK5 := hide (HK4.out.but hB45 (by omega))
    have HT5 : Hid (Rep w5 (Fr w4 w5) (.mk k5 a5 t5 v5 l5) #[.int .i64 k5, .int .i64 a5, .string (S t5), .int .u32 v5, .slice sp5 sn5 sc5]) := hide hT5
    have HX5 := hide (Bx.but HX4.out hB45 (by omega))
    have HSU := hide HK4.out.blk
    refine hK.out _ _ ⟨_, HN5.out⟩ (fun hH2 => ?_)
    clear hK K hN hq5 hR5 hB5 hB45 hT5
    (try simp only [Act.put, List.getElem_toArray, List.getElem_cons_zero, List.getElem_cons_succ, List.setIfInBounds_toArray, List.set_cons_zero, List.set_cons_succ])
    refine wpAnyH_ready (rs := [4]) (by kernel_rfl) (by simp) ?_
    refine AllReadyH.cons rfl (fun K hK => ?_) AllReadyH.nil
    go_simp
    refine hK.out _ _ ⟨_, HN5.out.alloc _⟩ (fun hH3 => ?_)
    clear hK K
    (try simp only [Act.put, List.getElem_toArray, List.getElem_cons_zero, List.getElem_cons_succ, List.setIfInBounds_toArray, List.set_cons_zero, List.set_cons_succ])
    refine wpAnyH_ready (rs := [5]) (by kernel_rfl) (by simp) ?_
    refine AllReadyH.cons rfl (fun K hK => ?_) AllReadyH.nil
    rw [if_pos (by kernel_rfl)]
    have hkb := HK5.out.blk
    obtain ⟨xs, hown, hxl, hkk⟩ := HK5.out
    have hX1 := rep_one HT5.out
    refine wp_app (.tmp 26) (.tmp 29) rfl u.heap.size (Value.slice sp sn sc) _ _ rfl (hown.alloc (.cells #[.int .i64 k5, .int .i64 a5, .string (S t5), .int .u32 v5, .slice sp5 sn5 sc5] 27)) ⟨_, 0, none⟩ 1 [.int .i64 k5, .int .i64 a5, .string (S t5), .int .u32 v5, .slice sp5 sn5 sc5] rfl rfl (fun j u hj => ?_) (fun u hu => ?_) (by omega) (by simp; omega) ?_
    · match j, hj with
      | 0, hj => simp at hj; subst hj; simp [Addr.add]
      | 1, hj => simp at hj; subst hj; simp [Addr.add]
      | 2, hj => simp at hj; subst hj; simp [Addr.add]
      | 3, hj => simp at hj; subst hj; simp [Addr.add]
      | 4, hj => simp at hj; subst hj; simp [Addr.add]
    · simp at hu
      rcases hu with rfl | rfl | rfl | rfl | rfl
      · rfl
      · rfl
      · rfl
      · rfl
      · exact hX1
    intro v' w7 hown' hgrow hat
    have hat' : v'.ownBlock = (Value.slice sp sn sc).ownBlock ∨ v'.ownBlock = some (w5.heap.size + 1) := by
      rcases hat with e | e
      · exact .inl e
      · right; rw [e]; simp
    have HK7 := hide (KL.app (show u.heap.size ≤ w4.heap.size by omega) (fun j hj => (HSU.out j hj).2) HT5.out hxl hkk hown' hgrow hat')
    have hz7 := hgrow.size
    simp at hz7
    have hrow : ∀ j, (Value.slice sp sn sc).ownBlock = some j → u.heap.size ≤ j := fun j hj => (hkb j hj).1
    have HN7 : Hid (Bx w7 wn.heap.size 27 #[.int .i64 2, .int .i64 at_, .string (S nt), .int .u32 rv, .slice sp sn sc]) := hide ((hgrow.block _ (by have := HN5.out.lt; simp; omega) (fun e => by have := hrow _ e.symm; omega)).trans (HN5.out.alloc _))
    have HR7 := hide ((HR5.out.alloc (.cells #[.int .i64 k5, .int .i64 a5, .string (S t5), .int .u32 v5, .slice sp5 sn5 sc5] 27)).grown hgrow (fun e => by have := hrow _ e.symm; omega) (fun e => by have := hrow _ e.symm; omega))
    have HB7 := hide ((HB5.out.alloc (.cells #[.int .i64 k5, .int .i64 a5, .string (S t5), .int .u32 v5, .slice sp5 sn5 sc5] 27)).grown hgrow (fun j hj => by have := hrow j hj; omega))
    have HX7 : Hid (Bx w7 w.heap.size 27 #[.int .i64 0, .int .i64 0, .string ⟨#[]⟩, .int .u32 0, .slice none 0 0]) := hide ((hgrow.block _ (by have := HX5.out.lt; simp; omega) (fun e => by have := hrow _ e.symm; omega)).trans (HX5.out.alloc _))
    obtain ⟨p7, n7, c7, rfl⟩ := HK7.out.slice
    refine hK.out _ _ ⟨_, HN7.out⟩ (fun hH4 => ?_)
    clear hK K hown hxl hkk hown' hgrow hat hat' hX1
    (try simp only [Act.put, List.getElem_toArray, List.getElem_cons_zero, List.getElem_cons_succ, List.setIfInBounds_toArray, List.set_cons_zero, List.set_cons_succ])
    refine wpAnyH_take (i := 6) (v := ?_) rfl (by kernel_rfl) (by kernel_rfl) (by kernel_rfl) (fun _ _ _ h => h) (Or.inl ⟨by rfl, ?_⟩) (by assumption) ?_
    rotate_left
    · intro w hSw; (try dsimp only at hSw); go_simp; (try with_reducible rfl)
    (try simp only [Act.put, List.getElem_toArray, List.getElem_cons_zero, List.getElem_cons_succ, List.setIfInBounds_toArray, List.set_cons_zero, List.set_cons_succ])
    refine wpAnyH_ready (rs := [7]) (by kernel_rfl) (by simp) ?_
    refine AllReadyH.cons rfl (fun K hK => ?_) AllReadyH.nil
    have mc := HN7.out.cell (k := 4) rfl
    have mf := HN7.out.free
    go_simp
    have hn8 : Bx (w7.setCell ⟨wn.heap.size, 4, none⟩ (.slice p7 n7 c7)) wn.heap.size 27 #[.int .i64 2, .int .i64 at_, .string (S nt), .int .u32 rv, .slice p7 n7 c7] := HN7.out.set 4 (.slice p7 n7 c7)
    refine hK.out _ _ ⟨_, hn8⟩ (fun hH5 => ?_)
    clear hK K mc mf
    (try simp only [Act.put, List.getElem_toArray, List.getElem_cons_zero, List.getElem_cons_succ, List.setIfInBounds_toArray, List.set_cons_zero, List.set_cons_succ])
    refine wpAnyH_done (by kernel_rfl) ?_ _
    have HN8 := hide hn8
    have HR8 := hide (HR7.out.other (p := ⟨wn.heap.size, 4, none⟩) (.slice p7 n7 c7) (by dsimp only; omega) (by dsimp only; omega))
    have HB8 := hide (HB7.out.fresh (p := ⟨wn.heap.size, 4, none⟩) (by dsimp only; omega) (.slice p7 n7 c7))
    have HK8 := hide (HK7.out.other (p := ⟨wn.heap.size, 4, none⟩) (.slice p7 n7 c7) (by dsimp only; omega))
    have HX8 : Hid (Bx _ w.heap.size 27 #[.int .i64 0, .int .i64 0, .string ⟨#[]⟩, .int .u32 0, .slice none 0 0]) := hide (HX7.out.other (p := ⟨wn.heap.size, 4, none⟩) (.slice p7 n7 c7) (by dsimp only; omega))
    have hz8 : (w7.setCell ⟨wn.heap.size, 4, none⟩ (.slice p7 n7 c7)).heap.size = w7.heap.size := by simp [World.setCell]
    clear hn8 HN7 HR7 HB7 HK7 HN5 HR5 HB5 HK5 HT5 HX7 HX5
    generalize w7.setCell ⟨wn.heap.size, 4, none⟩ (.slice p7 n7 c7) = w8 at *
    have x0 := HX8.out.cell (k := 0) rfl
    have x1 := HX8.out.cell (k := 1) rfl
    have x2 := HX8.out.cell (k := 2) rfl
    have x3 := HX8.out.cell (k := 3) rfl
    have x4 := HX8.out.cell (k := 4) rfl
    have xl := HX8.out.lt
    have xf := HX8.out.free
    have p0 := HN8.out.cell (k := 0) rfl
    have p1 := HN8.out.cell (k := 1) rfl
    have p2 := HN8.out.cell (k := 2) rfl
    have p3 := HN8.out.cell (k := 3) rfl
    have p4 := HN8.out.cell (k := 4) rfl
    have pl := HN8.out.lt
    have pf := HN8.out.free
    go_wp2_with fail
    have hkr := HK8.out.rep 2 at_ nt rv
    unfold nC at hkr
    have hf9 := fin_put2 (b := b) (g := g) (c := c) (L := L) (w := w) HR8.out HB8.out HX8.out (Nat.le_refl _) (show w.heap.size < u.heap.size by omega) hkr hbz hgz
    exact bodyPost_ret (v := .agg #[.int .i64 2, .int .i64 at_, .string (S nt), .int .u32 rv, .slice p7 n7 c7]) (results_cell_row (fn := Tryd.f28) rfl _ _ w.heap.size 27 _ (0, 0) _ rfl hf9.1 Tryd.underlying27 rfl info_nd) rfl (hf9.2 _ rfl (by rw [Int.zero_add, HQ5.out]))
  refine AllReadyH.cons rfl (fun K hK => ?_) AllReadyH.nil
  · go_simp
    try rw [hw]
    with_reducible refine HCB.out.mono ?_
    intro e w5 hN
    obtain ⟨k5, a5, t5, v5, l5, sp5, sn5, sc5, hq5, rfl, hR5, hB5, hT5⟩ := hN.parts
    have hB45 : But b w4 w5 := ⟨hB5.os, hB5.tape, hB5.output, hB5.size, hB5.block⟩
    have hz5 := hB45.size
    have HQ5 := hide hq5
    have HR5 := hide hR5
    have HB5 := hide (HB4.out.trans hB45)
    have HN5 := hide (Bx.but HN4.out hB45 (by omega))
    have HK5 := hide (HK4.out.but hB45 (by omega))
    have HT5 : Hid (Rep w5 (Fr w4 w5) (.mk k5 a5 t5 v5 l5) #[.int .i64 k5, .int .i64 a5, .string (S t5), .int .u32 v5, .slice sp5 sn5 sc5]) := hide hT5
    have HX5 := hide (Bx.but HX4.out hB45 (by omega))
    have HSU := hide HK4.out.blk
    refine hK.out _ _ ⟨_, HN5.out⟩ (fun hH2 => ?_)
    clear hK K hN hq5 hR5 hB5 hB45 hT5
    (try simp only [Act.put, List.getElem_toArray, List.getElem_cons_zero, List.getElem_cons_succ, List.setIfInBounds_toArray, List.set_cons_zero, List.set_cons_succ])
    refine wpAnyH_ready (rs := [1, 4]) (by kernel_rfl) (by simp) ?_
    refine AllReadyH.cons rfl (fun K hK => ?_) ?_
    · have c4 := HN5.out.cell (k := 4) rfl
      go_simp
      refine hK.out _ _ ⟨_, HN5.out⟩ (fun hH6 => ?_)
      clear hK K c4
      (try simp only [Act.put, List.getElem_toArray, List.getElem_cons_zero, List.getElem_cons_succ, List.setIfInBounds_toArray, List.set_cons_zero, List.set_cons_succ])
      refine wpAnyH_ready (rs := [4]) (by kernel_rfl) (by simp) ?_
      refine AllReadyH.cons rfl (fun K hK => ?_) AllReadyH.nil
      go_simp
      refine hK.out _ _ ⟨_, HN5.out.alloc _⟩ (fun hH3 => ?_)
      clear hK K
      (try simp only [Act.put, List.getElem_toArray, List.getElem_cons_zero, List.getElem_cons_succ, List.setIfInBounds_toArray, List.set_cons_zero, List.set_cons_succ])
      refine wpAnyH_ready (rs := [5]) (by kernel_rfl) (by simp) ?_
      refine AllReadyH.cons rfl (fun K hK => ?_) AllReadyH.nil
      rw [if_pos (by kernel_rfl)]
      have hkb := HK5.out.blk
      obtain ⟨xs, hown, hxl, hkk⟩ := HK5.out
      have hX1 := rep_one HT5.out
      refine wp_app (.tmp 26) (.tmp 29) rfl u.heap.size (Value.slice sp sn sc) _ _ rfl (hown.alloc (.cells #[.int .i64 k5, .int .i64 a5, .string (S t5), .int .u32 v5, .slice sp5 sn5 sc5] 27)) ⟨_, 0, none⟩ 1 [.int .i64 k5, .int .i64 a5, .string (S t5), .int .u32 v5, .slice sp5 sn5 sc5] rfl rfl (fun j u hj => ?_) (fun u hu => ?_) (by omega) (by simp; omega) ?_
      · match j, hj with
        | 0, hj => simp at hj; subst hj; simp [Addr.add]
        | 1, hj => simp at hj; subst hj; simp [Addr.add]
        | 2, hj => simp at hj; subst hj; simp [Addr.add]
        | 3, hj => simp at hj; subst hj; simp [Addr.add]
        | 4, hj => simp at hj; subst hj; simp [Addr.add]
      · simp at hu
        rcases hu with rfl | rfl | rfl | rfl | rfl
        · rfl
        · rfl
        · rfl
        · rfl
        · exact hX1
      intro v' w7 hown' hgrow hat
      have hat' : v'.ownBlock = (Value.slice sp sn sc).ownBlock ∨ v'.ownBlock = some (w5.heap.size + 1) := by
        rcases hat with e | e
        · exact .inl e
        · right; rw [e]; simp
      have HK7 := hide (KL.app (show u.heap.size ≤ w4.heap.size by omega) (fun j hj => (HSU.out j hj).2) HT5.out hxl hkk hown' hgrow hat')
      have hz7 := hgrow.size
      simp at hz7
      have hrow : ∀ j, (Value.slice sp sn sc).ownBlock = some j → u.heap.size ≤ j := fun j hj => (hkb j hj).1
      have HN7 : Hid (Bx w7 wn.heap.size 27 #[.int .i64 2, .int .i64 at_, .string (S nt), .int .u32 rv, .slice sp sn sc]) := hide ((hgrow.block _ (by have := HN5.out.lt; simp; omega) (fun e => by have := hrow _ e.symm; omega)).trans (HN5.out.alloc _))
      have HR7 := hide ((HR5.out.alloc (.cells #[.int .i64 k5, .int .i64 a5, .string (S t5), .int .u32 v5, .slice sp5 sn5 sc5] 27)).grown hgrow (fun e => by have := hrow _ e.symm; omega) (fun e => by have := hrow _ e.symm; omega))
      have HB7 := hide ((HB5.out.alloc (.cells #[.int .i64 k5, .int .i64 a5, .string (S t5), .int .u32 v5, .slice sp5 sn5 sc5] 27)).grown hgrow (fun j hj => by have := hrow j hj; omega))
      have HX7 : Hid (Bx w7 w.heap.size 27 #[.int .i64 0, .int .i64 0, .string ⟨#[]⟩, .int .u32 0, .slice none 0 0]) := hide ((hgrow.block _ (by have := HX5.out.lt; simp; omega) (fun e => by have := hrow _ e.symm; omega)).trans (HX5.out.alloc _))
      obtain ⟨p7, n7, c7, rfl⟩ := HK7.out.slice
      refine hK.out _ _ ⟨_, HN7.out⟩ (fun hH4 => ?_)
      clear hK K hown hxl hkk hown' hgrow hat hat' hX1
      (try simp only [Act.put, List.getElem_toArray, List.getElem_cons_zero, List.getElem_cons_succ, List.setIfInBounds_toArray, List.set_cons_zero, List.set_cons_succ])
      refine wpAnyH_take (i := 6) (v := ?_) rfl (by kernel_rfl) (by kernel_rfl) (by kernel_rfl) (fun _ _ _ h => h) (Or.inl ⟨by rfl, ?_⟩) (by assumption) ?_
      rotate_left
      · intro w hSw; (try dsimp only at hSw); go_simp; (try with_reducible rfl)
      (try simp only [Act.put, List.getElem_toArray, List.getElem_cons_zero, List.getElem_cons_succ, List.setIfInBounds_toArray, List.set_cons_zero, List.set_cons_succ])
      refine wpAnyH_ready (rs := [7]) (by kernel_rfl) (by simp) ?_
      refine AllReadyH.cons rfl (fun K hK => ?_) AllReadyH.nil
      have mc := HN7.out.cell (k := 4) rfl
      have mf := HN7.out.free
      go_simp
      have hn8 : Bx (w7.setCell ⟨wn.heap.size, 4, none⟩ (.slice p7 n7 c7)) wn.heap.size 27 #[.int .i64 2, .int .i64 at_, .string (S nt), .int .u32 rv, .slice p7 n7 c7] := HN7.out.set 4 (.slice p7 n7 c7)
      refine hK.out _ _ ⟨_, hn8⟩ (fun hH5 => ?_)
      clear hK K mc mf
      (try simp only [Act.put, List.getElem_toArray, List.getElem_cons_zero, List.getElem_cons_succ, List.setIfInBounds_toArray, List.set_cons_zero, List.set_cons_succ])
      refine wpAnyH_done (by kernel_rfl) ?_ _
      have HN8 := hide hn8
      have HR8 := hide (HR7.out.other (p := ⟨wn.heap.size, 4, none⟩) (.slice p7 n7 c7) (by dsimp only; omega) (by dsimp only; omega))
      have HB8 := hide (HB7.out.fresh (p := ⟨wn.heap.size, 4, none⟩) (by dsimp only; omega) (.slice p7 n7 c7))
      have HK8 := hide (HK7.out.other (p := ⟨wn.heap.size, 4, none⟩) (.slice p7 n7 c7) (by dsimp only; omega))
      have HX8 : Hid (Bx _ w.heap.size 27 #[.int .i64 0, .int .i64 0, .string ⟨#[]⟩, .int .u32 0, .slice none 0 0]) := hide (HX7.out.other (p := ⟨wn.heap.size, 4, none⟩) (.slice p7 n7 c7) (by dsimp only; omega))
      have hz8 : (w7.setCell ⟨wn.heap.size, 4, none⟩ (.slice p7 n7 c7)).heap.size = w7.heap.size := by simp [World.setCell]
      clear hn8 HN7 HR7 HB7 HK7 HN5 HR5 HB5 HK5 HT5 HX7 HX5
      generalize w7.setCell ⟨wn.heap.size, 4, none⟩ (.slice p7 n7 c7) = w8 at *
      have x0 := HX8.out.cell (k := 0) rfl
      have x1 := HX8.out.cell (k := 1) rfl
      have x2 := HX8.out.cell (k := 2) rfl
      have x3 := HX8.out.cell (k := 3) rfl
      have x4 := HX8.out.cell (k := 4) rfl
      have xl := HX8.out.lt
      have xf := HX8.out.free
      have p0 := HN8.out.cell (k := 0) rfl
      have p1 := HN8.out.cell (k := 1) rfl
      have p2 := HN8.out.cell (k := 2) rfl
      have p3 := HN8.out.cell (k := 3) rfl
      have p4 := HN8.out.cell (k := 4) rfl
      have pl := HN8.out.lt
      have pf := HN8.out.free
      go_wp2_with fail
      have hkr := HK8.out.rep 2 at_ nt rv
      unfold nC at hkr
      have hf9 := fin_put2 (b := b) (g := g) (c := c) (L := L) (w := w) HR8.out HB8.out HX8.out (Nat.le_refl _) (show w.heap.size < u.heap.size by omega) hkr hbz hgz
      exact bodyPost_ret (v := .agg #[.int .i64 2, .int .i64 at_, .string (S nt), .int .u32 rv, .slice p7 n7 c7]) (results_cell_row (fn := Tryd.f28) rfl _ _ w.heap.size 27 _ (0, 0) _ rfl hf9.1 Tryd.underlying27 rfl info_nd) rfl (hf9.2 _ rfl (by rw [Int.zero_add, HQ5.out]))
    refine AllReadyH.cons rfl (fun K hK => ?_) AllReadyH.nil
    · go_simp
      refine hK.out _ _ ⟨_, HN5.out.alloc _⟩ (fun hH3 => ?_)
      clear hK K
      (try simp only [Act.put, List.getElem_toArray, List.getElem_cons_zero, List.getElem_cons_succ, List.setIfInBounds_toArray, List.set_cons_zero, List.set_cons_succ])
      refine wpAnyH_ready (rs := [1]) (by kernel_rfl) (by simp) ?_
      refine AllReadyH.cons rfl (fun K hK => ?_) AllReadyH.nil
      have c4 := (HN5.out.alloc (.cells #[.int .i64 k5, .int .i64 a5, .string (S t5), .int .u32 v5, .slice sp5 sn5 sc5] 27)).cell (k := 4) rfl
      go_simp
      refine hK.out _ _ ⟨_, (HN5.out.alloc (.cells #[.int .i64 k5, .int .i64 a5, .string (S t5), .int .u32 v5, .slice sp5 sn5 sc5] 27))⟩ (fun hH6 => ?_)
      clear hK K c4
      (try simp only [Act.put, List.getElem_toArray, List.getElem_cons_zero, List.getElem_cons_succ, List.setIfInBounds_toArray, List.set_cons_zero, List.set_cons_succ])
      refine wpAnyH_ready (rs := [5]) (by kernel_rfl) (by simp) ?_
      refine AllReadyH.cons rfl (fun K hK => ?_) AllReadyH.nil
      rw [if_pos (by kernel_rfl)]
      have hkb := HK5.out.blk
      obtain ⟨xs, hown, hxl, hkk⟩ := HK5.out
      have hX1 := rep_one HT5.out
      refine wp_app (.tmp 26) (.tmp 29) rfl u.heap.size (Value.slice sp sn sc) _ _ rfl (hown.alloc (.cells #[.int .i64 k5, .int .i64 a5, .string (S t5), .int .u32 v5, .slice sp5 sn5 sc5] 27)) ⟨_, 0, none⟩ 1 [.int .i64 k5, .int .i64 a5, .string (S t5), .int .u32 v5, .slice sp5 sn5 sc5] rfl rfl (fun j u hj => ?_) (fun u hu => ?_) (by omega) (by simp; omega) ?_
      · match j, hj with
        | 0, hj => simp at hj; subst hj; simp [Addr.add]
        | 1, hj => simp at hj; subst hj; simp [Addr.add]
        | 2, hj => simp at hj; subst hj; simp [Addr.add]
        | 3, hj => simp at hj; subst hj; simp [Addr.add]
        | 4, hj => simp at hj; subst hj; simp [Addr.add]
      · simp at hu
        rcases hu with rfl | rfl | rfl | rfl | rfl
        · rfl
        · rfl
        · rfl
        · rfl
        · exact hX1
      intro v' w7 hown' hgrow hat
      have hat' : v'.ownBlock = (Value.slice sp sn sc).ownBlock ∨ v'.ownBlock = some (w5.heap.size + 1) := by
        rcases hat with e | e
        · exact .inl e
        · right; rw [e]; simp
      have HK7 := hide (KL.app (show u.heap.size ≤ w4.heap.size by omega) (fun j hj => (HSU.out j hj).2) HT5.out hxl hkk hown' hgrow hat')
      have hz7 := hgrow.size
      simp at hz7
      have hrow : ∀ j, (Value.slice sp sn sc).ownBlock = some j → u.heap.size ≤ j := fun j hj => (hkb j hj).1
      have HN7 : Hid (Bx w7 wn.heap.size 27 #[.int .i64 2, .int .i64 at_, .string (S nt), .int .u32 rv, .slice sp sn sc]) := hide ((hgrow.block _ (by have := HN5.out.lt; simp; omega) (fun e => by have := hrow _ e.symm; omega)).trans (HN5.out.alloc _))
      have HR7 := hide ((HR5.out.alloc (.cells #[.int .i64 k5, .int .i64 a5, .string (S t5), .int .u32 v5, .slice sp5 sn5 sc5] 27)).grown hgrow (fun e => by have := hrow _ e.symm; omega) (fun e => by have := hrow _ e.symm; omega))
      have HB7 := hide ((HB5.out.alloc (.cells #[.int .i64 k5, .int .i64 a5, .string (S t5), .int .u32 v5, .slice sp5 sn5 sc5] 27)).grown hgrow (fun j hj => by have := hrow j hj; omega))
      have HX7 : Hid (Bx w7 w.heap.size 27 #[.int .i64 0, .int .i64 0, .string ⟨#[]⟩, .int .u32 0, .slice none 0 0]) := hide ((hgrow.block _ (by have := HX5.out.lt; simp; omega) (fun e => by have := hrow _ e.symm; omega)).trans (HX5.out.alloc _))
      obtain ⟨p7, n7, c7, rfl⟩ := HK7.out.slice
      refine hK.out _ _ ⟨_, HN7.out⟩ (fun hH4 => ?_)
      clear hK K hown hxl hkk hown' hgrow hat hat' hX1
      (try simp only [Act.put, List.getElem_toArray, List.getElem_cons_zero, List.getElem_cons_succ, List.setIfInBounds_toArray, List.set_cons_zero, List.set_cons_succ])
      refine wpAnyH_take (i := 6) (v := ?_) rfl (by kernel_rfl) (by kernel_rfl) (by kernel_rfl) (fun _ _ _ h => h) (Or.inl ⟨by rfl, ?_⟩) (by assumption) ?_
      rotate_left
      · intro w hSw; (try dsimp only at hSw); go_simp; (try with_reducible rfl)
      (try simp only [Act.put, List.getElem_toArray, List.getElem_cons_zero, List.getElem_cons_succ, List.setIfInBounds_toArray, List.set_cons_zero, List.set_cons_succ])
      refine wpAnyH_ready (rs := [7]) (by kernel_rfl) (by simp) ?_
      refine AllReadyH.cons rfl (fun K hK => ?_) AllReadyH.nil
      have mc := HN7.out.cell (k := 4) rfl
      have mf := HN7.out.free
      go_simp
      have hn8 : Bx (w7.setCell ⟨wn.heap.size, 4, none⟩ (.slice p7 n7 c7)) wn.heap.size 27 #[.int .i64 2, .int .i64 at_, .string (S nt), .int .u32 rv, .slice p7 n7 c7] := HN7.out.set 4 (.slice p7 n7 c7)
      refine hK.out _ _ ⟨_, hn8⟩ (fun hH5 => ?_)
      clear hK K mc mf
      (try simp only [Act.put, List.getElem_toArray, List.getElem_cons_zero, List.getElem_cons_succ, List.setIfInBounds_toArray, List.set_cons_zero, List.set_cons_succ])
      refine wpAnyH_done (by kernel_rfl) ?_ _
      have HN8 := hide hn8
      have HR8 := hide (HR7.out.other (p := ⟨wn.heap.size, 4, none⟩) (.slice p7 n7 c7) (by dsimp only; omega) (by dsimp only; omega))
      have HB8 := hide (HB7.out.fresh (p := ⟨wn.heap.size, 4, none⟩) (by dsimp only; omega) (.slice p7 n7 c7))
      have HK8 := hide (HK7.out.other (p := ⟨wn.heap.size, 4, none⟩) (.slice p7 n7 c7) (by dsimp only; omega))
      have HX8 : Hid (Bx _ w.heap.size 27 #[.int .i64 0, .int .i64 0, .string ⟨#[]⟩, .int .u32 0, .slice none 0 0]) := hide (HX7.out.other (p := ⟨wn.heap.size, 4, none⟩) (.slice p7 n7 c7) (by dsimp only; omega))
      have hz8 : (w7.setCell ⟨wn.heap.size, 4, none⟩ (.slice p7 n7 c7)).heap.size = w7.heap.size := by simp [World.setCell]
      clear hn8 HN7 HR7 HB7 HK7 HN5 HR5 HB5 HK5 HT5 HX7 HX5
      generalize w7.setCell ⟨wn.heap.size, 4, none⟩ (.slice p7 n7 c7) = w8 at *
      have x0 := HX8.out.cell (k := 0) rfl
      have x1 := HX8.out.cell (k := 1) rfl
      have x2 := HX8.out.cell (k := 2) rfl
      have x3 := HX8.out.cell (k := 3) rfl
      have x4 := HX8.out.cell (k := 4) rfl
      have xl := HX8.out.lt
      have xf := HX8.out.free
      have p0 := HN8.out.cell (k := 0) rfl
      have p1 := HN8.out.cell (k := 1) rfl
      have p2 := HN8.out.cell (k := 2) rfl
      have p3 := HN8.out.cell (k := 3) rfl
      have p4 := HN8.out.cell (k := 4) rfl
      have pl := HN8.out.lt
      have pf := HN8.out.free
      go_wp2_with fail
      have hkr := HK8.out.rep 2 at_ nt rv
      unfold nC at hkr
      have hf9 := fin_put2 (b := b) (g := g) (c := c) (L := L) (w := w) HR8.out HB8.out HX8.out (Nat.le_refl _) (show w.heap.size < u.heap.size by omega) hkr hbz hgz
      exact bodyPost_ret (v := .agg #[.int .i64 2, .int .i64 at_, .string (S nt), .int .u32 rv, .slice p7 n7 c7]) (results_cell_row (fn := Tryd.f28) rfl _ _ w.heap.size 27 _ (0, 0) _ rfl hf9.1 Tryd.underlying27 rfl info_nd) rfl (hf9.2 _ rfl (by rw [Int.zero_add, HQ5.out]))

set_option maxHeartbeats 16000000 in
theorem fn_1 (bl : R → R × Tr) (hb : BC b g c L 1 bl) (h : Rd w b g c L r) (hx : fol L [101, 120, 112, 111, 114, 116] (nod r) = true) (r3 : R) (hr3 : need L [102, 110] (adv (nod r)) = r3) :
    Calls Tryd.prog 28 #[.pointer (some ⟨b, 0, none⟩)] w (NR b g c L w ((bl (resF L (listF (pmF L) L (name L r3)).1).1).1, .mk 2 (tk L r).a (tk L r3).t (1 + (resF L (listF (pmF L) L (name L r3)).1).2) ((listF (pmF L) L (name L r3)).2 ++ [(bl (resF L (listF (pmF L) L (name L r3)).1).1).2]))) := by
  have hbz := h.ltb
  have hgz := h.row.lt
  have HB := hide (But.refl b w)
  have HX0 : Hid (Bx (w.alloc (.cells #[.int .i64 0, .int .i64 0, .string ⟨#[]⟩, .int .u32 0, .slice none 0 0] 27)) w.heap.size 27 #[.int .i64 0, .int .i64 0, .string ⟨#[]⟩, .int .u32 0, .slice none 0 0]) := hide (Bx.newAt rfl)
  have hu : w.heap.size < (w.alloc (.cells #[.int .i64 0, .int .i64 0, .string ⟨#[]⟩, .int .u32 0, .slice none 0 0] 27)).heap.size := by simp
  have ho := node_any (h.alloc (.cells #[.int .i64 0, .int .i64 0, .string ⟨#[]⟩, .int .u32 0, .slice none 0 0] 27)) 2
  unfold nC at ho
  generalize (tk L r).a = at_ at *
  generalize nod r = r1 at *
  generalize hntt : (tk L r3).t = nt
  have HNT := hide hntt
  clear hntt
  have hll := listF_len (L := L) (fun r => (pmF_mo L r).v) (name L r3)
  have HNM : Hid (name L r3 = name L r3) := hide rfl
  have HR3E := hide hr3
  clear h hr3
  go_enter Tryd.func28, Tryd.ntmps28
  go_wp2_with fail
  refine ho.mono ?_
  rintro e wn ⟨rfl, hRn, hBn⟩
  have hzn := hBn.size
  have HR0 := hide (hRn.alloc (.cells #[.int .i64 2, .int .i64 at_, .string (S []), .int .u32 0, .slice none 0 0] 27))
  have HB0 : Hid (But b w (wn.alloc (.cells #[.int .i64 2, .int .i64 at_, .string (S []), .int .u32 0, .slice none 0 0] 27))) := hide ((But.trans (by repeat (first | with_reducible exact HB.out | with_reducible refine But.alloc ?_ _ | with_reducible refine But.fresh ?_ (by first | omega | (dsimp only; omega)) _)) hBn).alloc _)
  have HY0 := hide ((Bx.but HX0.out hBn (by omega)).alloc (.cells #[.int .i64 2, .int .i64 at_, .string (S []), .int .u32 0, .slice none 0 0] 27))
  have HN0 : Hid (Bx (wn.alloc (.cells #[.int .i64 2, .int .i64 at_, .string (S []), .int .u32 0, .slice none 0 0] 27)) wn.heap.size 27 #[.int .i64 2, .int .i64 at_, .string (S []), .int .u32 0, .slice none 0 0]) := hide (Bx.newAt rfl)
  have hz0 : wn.heap.size < (wn.alloc (.cells #[.int .i64 2, .int .i64 at_, .string (S []), .int .u32 0, .slice none 0 0] 27)).heap.size := by simp
  have ht := take_any HR0.out [101, 120, 112, 111, 114, 116] (by decide)
  unfold take at ht
  rw [hx, if_pos rfl] at ht
  clear ho hRn hBn
  go_wp2_with fail
  refine ht.mono ?_
  rintro e w1 ⟨rfl, hR1, hB1⟩
  have hz1 := hB1.size
  have HR1 := hide hR1
  have HB1 := hide (HB0.out.trans hB1)
  have HY1 := hide (Bx.but HY0.out hB1 (by omega))
  have HN1 : Hid (Bx w1 wn.heap.size 27 #[.int .i64 2, .int .i64 at_, .string (S []), .int .u32 0, .slice none 0 0]) := hide (Bx.but HN0.out hB1 (by omega))
  clear ht hR1 hB1
  have m0 := HN1.out.cell (k := 0) rfl
  have m1 := HN1.out.cell (k := 1) rfl
  have m2 := HN1.out.cell (k := 2) rfl
  have m3 := HN1.out.cell (k := 3) rfl
  have m4 := HN1.out.cell (k := 4) rfl
  have ml := HN1.out.lt
  have mf := HN1.out.free
  go_wp2_with fail
  refine Calls.mono (need_any (b := b) (g := g) (c := c) (L := L) (r := (adv r1)) (by repeat (first | with_reducible exact HR1.out | with_reducible refine Rd.alloc ?_ _ | with_reducible refine Rd.other ?_ _ (by first | omega | (dsimp only; omega)) (by first | omega | (dsimp only; omega)))) [102, 110] (by decide)) ?_
  rintro e w2 ⟨rfl, hR2, hB2⟩
  have hz2 := hB2.size
  simp [World.setCell] at hz2
  have HR2 := hide hR2
  have HB2 : Hid (But b w w2) := hide (But.trans (by repeat (first | with_reducible exact HB1.out | with_reducible refine But.alloc ?_ _ | with_reducible refine But.fresh ?_ (by first | omega | (dsimp only; omega)) _)) hB2)
  have HY2 : Hid (Bx w2 w.heap.size 27 #[.int .i64 0, .int .i64 0, .string ⟨#[]⟩, .int .u32 0, .slice none 0 0]) := hide (Bx.but (by repeat (first | with_reducible exact HY1.out | (with_reducible refine Bx.newAt ?_; first | rfl | (simp [World.setCell]; done)) | with_reducible refine Bx.alloc ?_ _ | with_reducible refine Bx.other ?_ _ (by first | omega | (dsimp only; omega)))) hB2 (by omega))
  have hnn : Bx (w1.setCell ⟨wn.heap.size, 3, none⟩ (.int .u32 1)) wn.heap.size 27 #[.int .i64 2, .int .i64 at_, .string (S []), .int .u32 1, .slice none 0 0] := (HN1.out.set 3 (.int .u32 1))
  have HN2 : Hid (Bx w2 wn.heap.size 27 #[.int .i64 2, .int .i64 at_, .string (S []), .int .u32 1, .slice none 0 0]) := hide (Bx.but hnn hB2 (by omega))
  clear hnn hR2 hB2 m0 m1 m2 m3 m4 ml mf
  rw [HR3E.out] at HR2
  have hna := name_any HR2.out
  rw [HNT.out] at hna
  generalize name L r3 = r4 at *
  go_wp2_with fail
  refine Calls.mono (hna) ?_
  rintro e w3 ⟨rfl, hR3, hB3⟩
  have hz3 := hB3.size
  skip
  have HR3 := hide hR3
  have HB3 : Hid (But b w w3) := hide (But.trans (by repeat (first | with_reducible exact HB2.out | with_reducible refine But.alloc ?_ _ | with_reducible refine But.fresh ?_ (by first | omega | (dsimp only; omega)) _)) hB3)
  have HY3 : Hid (Bx w3 w.heap.size 27 #[.int .i64 0, .int .i64 0, .string ⟨#[]⟩, .int .u32 0, .slice none 0 0]) := hide (Bx.but (by repeat (first | with_reducible exact HY2.out | (with_reducible refine Bx.newAt ?_; first | rfl | (simp [World.setCell]; done)) | with_reducible refine Bx.alloc ?_ _ | with_reducible refine Bx.other ?_ _ (by first | omega | (dsimp only; omega)))) hB3 (by omega))
  have hnn : Bx w2 wn.heap.size 27 #[.int .i64 2, .int .i64 at_, .string (S []), .int .u32 1, .slice none 0 0] := HN2.out
  have HN3 : Hid (Bx w3 wn.heap.size 27 #[.int .i64 2, .int .i64 at_, .string (S []), .int .u32 1, .slice none 0 0]) := hide (Bx.but hnn hB3 (by omega))
  clear hnn hR3 hB3 
  clear hna
  have m0 := HN3.out.cell (k := 0) rfl
  have m1 := HN3.out.cell (k := 1) rfl
  have m2 := HN3.out.cell (k := 2) rfl
  have m3 := HN3.out.cell (k := 3) rfl
  have m4 := HN3.out.cell (k := 4) rfl
  have ml := HN3.out.lt
  have mf := HN3.out.free
  go_wp2_with fail
  generalize hwu : w3.setCell ⟨wn.heap.size, 2, none⟩ (.string (S nt)) = u at *
  have HRu : Hid (Rd u b g c L r4) := hide (hwu ▸ (by repeat (first | with_reducible exact HR3.out | with_reducible refine Rd.alloc ?_ _ | with_reducible refine Rd.other ?_ _ (by first | omega | (dsimp only; omega)) (by first | omega | (dsimp only; omega)))))
  have HBu : Hid (But b w u) := hide (hwu ▸ (by repeat (first | with_reducible exact HB3.out | with_reducible refine But.alloc ?_ _ | with_reducible refine But.fresh ?_ (by first | omega | (dsimp only; omega)) _)))
  have HYu : Hid (Bx u w.heap.size 27 #[.int .i64 0, .int .i64 0, .string ⟨#[]⟩, .int .u32 0, .slice none 0 0]) := hide (hwu ▸ (by repeat (first | with_reducible exact HY3.out | (with_reducible refine Bx.newAt ?_; first | rfl | (simp [World.setCell]; done)) | with_reducible refine Bx.alloc ?_ _ | with_reducible refine Bx.other ?_ _ (by first | omega | (dsimp only; omega)))))
  have hnu := HN3.out.set 2 (.string (S nt))
  rw [hwu] at hnu
  have HNu : Hid (Bx u wn.heap.size 27 #[.int .i64 2, .int .i64 at_, .string (S nt), .int .u32 1, .slice none 0 0]) := hide hnu
  have hsu : wn.heap.size < u.heap.size := HNu.out.lt
  have hli := list_any 60 #[.pointer (some ⟨b, 0, none⟩)] #[] (pmF L) cf_par (hide (fun w' r' _ h' => parameter_any h')) (hide (fun r => (pmF_mo L r).v)) HRu.out
  clear hnu hwu m0 m1 m2 m3 m4 ml mf
  generalize (listF (pmF L) L r4).2 = ls at *
  generalize (listF (pmF L) L r4).1 = r5 at *
  refine hli.mono ?_
  rintro e w5 ⟨s, rfl, hR5, hB5, hK5⟩
  have hz5 := hB5.size
  have hi5 := hR5.lt
  have hs5 := hR5.sz
  obtain ⟨sp, sn, sc, rfl⟩ := hK5.slice
  have HB5 := hide (HBu.out.trans hB5)
  have HY5 := hide (Bx.but HYu.out hB5 (by omega))
  have HN5 := hide (Bx.but HNu.out hB5 (by omega))
  have HK5 := hide hK5
  have HR5 := hide hR5
  clear hli hR5 hB5 hK5
  have m0 := HN5.out.cell (k := 0) rfl
  have m1 := HN5.out.cell (k := 1) rfl
  have m2 := HN5.out.cell (k := 2) rfl
  have m3 := HN5.out.cell (k := 3) rfl
  have m4 := HN5.out.cell (k := 4) rfl
  have ml := HN5.out.lt
  have mf := HN5.out.free
  go_wp2_with fail
  generalize hw6 : w5.setCell ⟨wn.heap.size, 4, none⟩ (.slice sp sn sc) = w6 at *
  have HR6 : Hid (Rd w6 b g c L r5) := hide (hw6 ▸ (by repeat (first | with_reducible exact HR5.out | with_reducible refine Rd.alloc ?_ _ | with_reducible refine Rd.other ?_ _ (by first | omega | (dsimp only; omega)) (by first | omega | (dsimp only; omega)))))
  have HB6 : Hid (But b w w6) := hide (hw6 ▸ (by repeat (first | with_reducible exact HB5.out | with_reducible refine But.alloc ?_ _ | with_reducible refine But.fresh ?_ (by first | omega | (dsimp only; omega)) _)))
  have HY6 : Hid (Bx w6 w.heap.size 27 #[.int .i64 0, .int .i64 0, .string ⟨#[]⟩, .int .u32 0, .slice none 0 0]) := hide (hw6 ▸ (by repeat (first | with_reducible exact HY5.out | (with_reducible refine Bx.newAt ?_; first | rfl | (simp [World.setCell]; done)) | with_reducible refine Bx.alloc ?_ _ | with_reducible refine Bx.other ?_ _ (by first | omega | (dsimp only; omega)))))
  have hn6 := HN5.out.set 4 (.slice sp sn sc)
  rw [hw6] at hn6
  have HN6 : Hid (Bx w6 wn.heap.size 27 #[.int .i64 2, .int .i64 at_, .string (S nt), .int .u32 1, .slice sp sn sc]) := hide hn6
  have HK6 : Hid (KL u w6 ls (.slice sp sn sc)) := hide (hw6 ▸ HK5.out.other (p := ⟨wn.heap.size, 4, none⟩) _ (by dsimp only; omega))
  have hs6 : w5.heap.size ≤ w6.heap.size := by rw [← hw6]; simp [World.setCell]
  have hre := result_any w6.drew r5 HR6.out.drew
  have hrv := resF_val L r5
  generalize (resF L r5).2 = rv at *
  generalize (resF L r5).1 = r7 at *
  have HRE := hide hre
  have hor : bits BinOp.or IntKind.u32 1 rv = 1 + rv := by
    rcases hrv with rfl | rfl | rfl <;> kernel_rfl
  clear hn6 hw6 m0 m1 m2 m3 m4 ml mf hre
  refine wp_region_held_drew (S := fun w' => ∃ u3, Bx w' wn.heap.size 27 #[.int .i64 2, .int .i64 at_, .string (S nt), u3, .slice sp sn sc]) (by kernel_rfl) ⟨_, HN6.out⟩ (fun hH1 => ?_)
  refine wpAnyH_take (i := 0) (v := ?_) rfl (by kernel_rfl) (by kernel_rfl) (by kernel_rfl) (fun _ _ _ h => h) (Or.inl ⟨by rfl, ?_⟩) (by assumption) ?_
  rotate_left
  · intro w hSw; (try dsimp only at hSw); go_simp; (try with_reducible rfl)
  (try simp only [Act.put, List.getElem_toArray, List.getElem_cons_zero, List.setIfInBounds_toArray, List.set_cons_zero, List.set_cons_succ])
  refine wpAnyH_take (i := 2) (v := ?_) rfl (by kernel_rfl) (by kernel_rfl) (by kernel_rfl) (fun _ _ _ h => h) (Or.inl ⟨by rfl, ?_⟩) (by assumption) ?_
  rotate_left
  · intro w hSw; (try dsimp only at hSw); go_simp; (try with_reducible rfl)
  (try simp only [Act.put, List.getElem_toArray, List.getElem_cons_zero, List.getElem_cons_succ, List.setIfInBounds_toArray, List.set_cons_zero, List.set_cons_succ])
  refine wpAnyH_ready (rs := [1, 3]) (by kernel_rfl) (by simp) ?_
  refine AllReadyH.cons rfl (fun K hK => ?_) ?_
  · have c3 := HN6.out.cell (k := 3) rfl
    go_simp
    refine hK.out _ _ ⟨_, HN6.out⟩ (fun hH2 => ?_)
    clear hK K c3
    (try simp only [Act.put, List.getElem_toArray, List.getElem_cons_zero, List.getElem_cons_succ, List.setIfInBounds_toArray, List.set_cons_zero, List.set_cons_succ])
    refine wpAnyH_ready (rs := [3]) (by kernel_rfl) (by simp) ?_
    refine AllReadyH.cons rfl (fun K hK => ?_) AllReadyH.nil
    go_simp
    with_reducible refine HRE.out.mono ?_
    rintro e w7 ⟨rfl, hR7, hB7⟩
    have hB67 : But b w6 w7 := ⟨hB7.os, hB7.tape, hB7.output, hB7.size, hB7.block⟩
    have hz7 := hB67.size
    have HR7 := hide hR7
    have HB7 := hide (HB6.out.trans hB67)
    have HY7 := hide (Bx.but HY6.out hB67 (by omega))
    have HN7 := hide (Bx.but HN6.out hB67 (by omega))
    have HK7 := hide (HK6.out.but hB67 (by omega))
    refine hK.out _ _ ⟨_, HN7.out⟩ (fun hH3 => ?_)
    clear hK K hR7 hB7 hB67
    (try simp only [Act.put, List.getElem_toArray, List.getElem_cons_zero, List.getElem_cons_succ, List.setIfInBounds_toArray, List.set_cons_zero, List.set_cons_succ])
    refine wpAnyH_take (i := 4) (v := ?_) rfl (by kernel_rfl) (by kernel_rfl) (by kernel_rfl) (fun _ _ _ h => h) (Or.inl ⟨by rfl, ?_⟩) (by assumption) ?_
    rotate_left
    · intro w hSw; (try dsimp only at hSw); go_simp; (try with_reducible rfl)
    (try simp only [Act.put, List.getElem_toArray, List.getElem_cons_zero, List.getElem_cons_succ, List.setIfInBounds_toArray, List.set_cons_zero, List.set_cons_succ])
    refine wpAnyH_take (i := 5) (v := ?_) rfl (by kernel_rfl) (by kernel_rfl) (by kernel_rfl) (fun _ _ _ h => h) (Or.inl ⟨by rfl, ?_⟩) (by assumption) ?_
    rotate_left
    · intro w hSw; (try dsimp only at hSw); go_simp; (try with_reducible rfl)
    (try simp only [Act.put, List.getElem_toArray, List.getElem_cons_zero, List.getElem_cons_succ, List.setIfInBounds_toArray, List.set_cons_zero, List.set_cons_succ])
    refine wpAnyH_ready (rs := [6]) (by kernel_rfl) (by simp) ?_
    refine AllReadyH.cons rfl (fun K hK => ?_) AllReadyH.nil
    have mc := HN7.out.cell (k := 3) rfl
    have mf := HN7.out.free
    go_simp
    have hq8 := HN7.out.set 3 (.int .u32 (1 + rv))
    refine hK.out _ _ ⟨_, hq8⟩ (fun hH4 => ?_)
    clear hK K mc mf
    (try simp only [Act.put, List.getElem_toArray, List.getElem_cons_zero, List.getElem_cons_succ, List.setIfInBounds_toArray, List.set_cons_zero, List.set_cons_succ])
    refine wpAnyH_done (by kernel_rfl) ?_ _
    generalize hnm : (1 : Int) + rv = nm at *
    generalize hw4 : w7.setCell ⟨wn.heap.size, 3, none⟩ (.int .u32 nm) = w4 at *
    have HR4 : Hid (Rd w4 b g c L r7) := hide (hw4 ▸ (by repeat (first | with_reducible exact HR7.out | with_reducible refine Rd.alloc ?_ _ | with_reducible refine Rd.other ?_ _ (by first | omega | (dsimp only; omega)) (by first | omega | (dsimp only; omega)))))
    have HB4 : Hid (But b w w4) := hide (hw4 ▸ (by repeat (first | with_reducible exact HB7.out | with_reducible refine But.alloc ?_ _ | with_reducible refine But.fresh ?_ (by first | omega | (dsimp only; omega)) _)))
    have HX4 : Hid (Bx w4 w.heap.size 27 #[.int .i64 0, .int .i64 0, .string ⟨#[]⟩, .int .u32 0, .slice none 0 0]) := hide (hw4 ▸ (by repeat (first | with_reducible exact HY7.out | (with_reducible refine Bx.newAt ?_; first | rfl | (simp [World.setCell]; done)) | with_reducible refine Bx.alloc ?_ _ | with_reducible refine Bx.other ?_ _ (by first | omega | (dsimp only; omega)))))
    have HN4 : Hid (Bx w4 wn.heap.size 27 #[.int .i64 2, .int .i64 at_, .string (S nt), .int .u32 nm, .slice sp sn sc]) := hide hq8
    have HK4 : Hid (KL u w4 ls (.slice sp sn sc)) := hide (hw4 ▸ HK7.out.other (p := ⟨wn.heap.size, 3, none⟩) _ (by dsimp only; omega))
    have hs4 : w7.heap.size ≤ w4.heap.size := by rw [← hw4]; simp [World.setCell]
    have HCB := hide (hb w4.drew _ HR4.out.drew (.inl (by omega)))
    have HNM9 := hide hnm
    clear hq8 hw4 hnm
    go_wp2_with fail
    refine wp_region_held_drew (S := fun w' => ∃ s0, Bx w' wn.heap.size 27 #[.int .i64 2, .int .i64 at_, .string (S nt), .int .u32 nm, s0]) (by kernel_rfl) ⟨_, HN4.out⟩ (fun hH1 => ?_)
    refine wpAnyH_take (i := 0) (v := ?_) rfl (by kernel_rfl) (by kernel_rfl) (by kernel_rfl) (fun _ _ _ h => h) (Or.inl ⟨by rfl, ?_⟩) (by assumption) ?_
    rotate_left
    · intro w hSw; (try dsimp only at hSw); go_simp; (try with_reducible rfl)
    (try simp only [Act.put, List.getElem_toArray, List.getElem_cons_zero, List.setIfInBounds_toArray, List.set_cons_zero, List.set_cons_succ])
    refine wpAnyH_take (i := 2) (v := ?_) rfl (by kernel_rfl) (by kernel_rfl) (by kernel_rfl) (fun _ _ _ h => h) (Or.inl ⟨by rfl, ?_⟩) (by assumption) ?_
    rotate_left
    · intro w hSw; (try dsimp only at hSw); go_simp; (try with_reducible rfl)
    (try simp only [Act.put, List.getElem_toArray, List.getElem_cons_zero, List.getElem_cons_succ, List.setIfInBounds_toArray, List.set_cons_zero, List.set_cons_succ])
    refine wpAnyH_ready (rs := [1, 3]) (by kernel_rfl) (by simp) ?_
    refine AllReadyH.cons rfl (fun K hK => ?_) ?_
    · have c4 := HN4.out.cell (k := 4) rfl
      go_simp
      refine hK.out _ _ ⟨_, HN4.out⟩ (fun hH6 => ?_)
      clear hK K c4
      (try simp only [Act.put, List.getElem_toArray, List.getElem_cons_zero, List.getElem_cons_succ, List.setIfInBounds_toArray, List.set_cons_zero, List.set_cons_succ])
      refine wpAnyH_ready (rs := [3]) (by kernel_rfl) (by simp) ?_
      refine AllReadyH.cons rfl (fun K hK => ?_) AllReadyH.nil
      go_simp
      try rw [hw]
      with_reducible refine HCB.out.mono ?_
      intro e w5 hN
      obtain ⟨k5, a5, t5, v5, l5, sp5, sn5, sc5, hq5, rfl, hR5, hB5, hT5⟩ := hN.parts
      have hB45 : But b w4 w5 := ⟨hB5.os, hB5.tape, hB5.output, hB5.size, hB5.block⟩
      have hz5 := hB45.size
      have HQ5 := hide hq5
      have HR5 := hide hR5
      have HB5 := hide (HB4.out.trans hB45)
      have HN5 := hide (Bx.but HN4.out hB45 (by omega))
      have HK5 := hide (HK4.out.but hB45 (by omega))
      have HT5 : Hid (Rep w5 (Fr w4 w5) (.mk k5 a5 t5 v5 l5) #[.int .i64 k5, .int .i64 a5, .string (S t5), .int .u32 v5, .slice sp5 sn5 sc5]) := hide hT5
      have HX5 := hide (Bx.but HX4.out hB45 (by omega))
      have HSU := hide HK4.out.blk
      refine hK.out _ _ ⟨_, HN5.out⟩ (fun hH2 => ?_)
      clear hK K hN hq5 hR5 hB5 hB45 hT5
      (try simp only [Act.put, List.getElem_toArray, List.getElem_cons_zero, List.getElem_cons_succ, List.setIfInBounds_toArray, List.set_cons_zero, List.set_cons_succ])
      refine wpAnyH_ready (rs := [4]) (by kernel_rfl) (by simp) ?_
      refine AllReadyH.cons rfl (fun K hK => ?_) AllReadyH.nil
      go_simp
      refine hK.out _ _ ⟨_, HN5.out.alloc _⟩ (fun hH3 => ?_)
      clear hK K
      (try simp only [Act.put, List.getElem_toArray, List.getElem_cons_zero, List.getElem_cons_succ, List.setIfInBounds_toArray, List.set_cons_zero, List.set_cons_succ])
      refine wpAnyH_ready (rs := [5]) (by kernel_rfl) (by simp) ?_
      refine AllReadyH.cons rfl (fun K hK => ?_) AllReadyH.nil
      rw [if_pos (by kernel_rfl)]
      have hkb := HK5.out.blk
      obtain ⟨xs, hown, hxl, hkk⟩ := HK5.out
      have hX1 := rep_one HT5.out
      refine wp_app (.tmp 26) (.tmp 29) rfl u.heap.size (Value.slice sp sn sc) _ _ rfl (hown.alloc (.cells #[.int .i64 k5, .int .i64 a5, .string (S t5), .int .u32 v5, .slice sp5 sn5 sc5] 27)) ⟨_, 0, none⟩ 1 [.int .i64 k5, .int .i64 a5, .string (S t5), .int .u32 v5, .slice sp5 sn5 sc5] rfl rfl (fun j u hj => ?_) (fun u hu => ?_) (by omega) (by simp; omega) ?_
      · match j, hj with
        | 0, hj => simp at hj; subst hj; simp [Addr.add]
        | 1, hj => simp at hj; subst hj; simp [Addr.add]
        | 2, hj => simp at hj; subst hj; simp [Addr.add]
        | 3, hj => simp at hj; subst hj; simp [Addr.add]
        | 4, hj => simp at hj; subst hj; simp [Addr.add]
      · simp at hu
        rcases hu with rfl | rfl | rfl | rfl | rfl
        · rfl
        · rfl
        · rfl
        · rfl
        · exact hX1
      intro v' w7 hown' hgrow hat
      have hat' : v'.ownBlock = (Value.slice sp sn sc).ownBlock ∨ v'.ownBlock = some (w5.heap.size + 1) := by
        rcases hat with e | e
        · exact .inl e
        · right; rw [e]; simp
      have HK7 := hide (KL.app (show u.heap.size ≤ w4.heap.size by omega) (fun j hj => (HSU.out j hj).2) HT5.out hxl hkk hown' hgrow hat')
      have hz7 := hgrow.size
      simp at hz7
      have hrow : ∀ j, (Value.slice sp sn sc).ownBlock = some j → u.heap.size ≤ j := fun j hj => (hkb j hj).1
      have HN7 : Hid (Bx w7 wn.heap.size 27 #[.int .i64 2, .int .i64 at_, .string (S nt), .int .u32 nm, .slice sp sn sc]) := hide ((hgrow.block _ (by have := HN5.out.lt; simp; omega) (fun e => by have := hrow _ e.symm; omega)).trans (HN5.out.alloc _))
      have HR7 := hide ((HR5.out.alloc (.cells #[.int .i64 k5, .int .i64 a5, .string (S t5), .int .u32 v5, .slice sp5 sn5 sc5] 27)).grown hgrow (fun e => by have := hrow _ e.symm; omega) (fun e => by have := hrow _ e.symm; omega))
      have HB7 := hide ((HB5.out.alloc (.cells #[.int .i64 k5, .int .i64 a5, .string (S t5), .int .u32 v5, .slice sp5 sn5 sc5] 27)).grown hgrow (fun j hj => by have := hrow j hj; omega))
      have HX7 : Hid (Bx w7 w.heap.size 27 #[.int .i64 0, .int .i64 0, .string ⟨#[]⟩, .int .u32 0, .slice none 0 0]) := hide ((hgrow.block _ (by have := HX5.out.lt; simp; omega) (fun e => by have := hrow _ e.symm; omega)).trans (HX5.out.alloc _))
      obtain ⟨p7, n7, c7, rfl⟩ := HK7.out.slice
      refine hK.out _ _ ⟨_, HN7.out⟩ (fun hH4 => ?_)
      clear hK K hown hxl hkk hown' hgrow hat hat' hX1
      (try simp only [Act.put, List.getElem_toArray, List.getElem_cons_zero, List.getElem_cons_succ, List.setIfInBounds_toArray, List.set_cons_zero, List.set_cons_succ])
      refine wpAnyH_take (i := 6) (v := ?_) rfl (by kernel_rfl) (by kernel_rfl) (by kernel_rfl) (fun _ _ _ h => h) (Or.inl ⟨by rfl, ?_⟩) (by assumption) ?_
      rotate_left
      · intro w hSw; (try dsimp only at hSw); go_simp; (try with_reducible rfl)
      (try simp only [Act.put, List.getElem_toArray, List.getElem_cons_zero, List.getElem_cons_succ, List.setIfInBounds_toArray, List.set_cons_zero, List.set_cons_succ])
      refine wpAnyH_ready (rs := [7]) (by kernel_rfl) (by simp) ?_
      refine AllReadyH.cons rfl (fun K hK => ?_) AllReadyH.nil
      have mc := HN7.out.cell (k := 4) rfl
      have mf := HN7.out.free
      go_simp
      have hn8 : Bx (w7.setCell ⟨wn.heap.size, 4, none⟩ (.slice p7 n7 c7)) wn.heap.size 27 #[.int .i64 2, .int .i64 at_, .string (S nt), .int .u32 nm, .slice p7 n7 c7] := HN7.out.set 4 (.slice p7 n7 c7)
      refine hK.out _ _ ⟨_, hn8⟩ (fun hH5 => ?_)
      clear hK K mc mf
      (try simp only [Act.put, List.getElem_toArray, List.getElem_cons_zero, List.getElem_cons_succ, List.setIfInBounds_toArray, List.set_cons_zero, List.set_cons_succ])
      refine wpAnyH_done (by kernel_rfl) ?_ _
      have HN8 := hide hn8
      have HR8 := hide (HR7.out.other (p := ⟨wn.heap.size, 4, none⟩) (.slice p7 n7 c7) (by dsimp only; omega) (by dsimp only; omega))
      have HB8 := hide (HB7.out.fresh (p := ⟨wn.heap.size, 4, none⟩) (by dsimp only; omega) (.slice p7 n7 c7))
      have HK8 := hide (HK7.out.other (p := ⟨wn.heap.size, 4, none⟩) (.slice p7 n7 c7) (by dsimp only; omega))
      have HX8 : Hid (Bx _ w.heap.size 27 #[.int .i64 0, .int .i64 0, .string ⟨#[]⟩, .int .u32 0, .slice none 0 0]) := hide (HX7.out.other (p := ⟨wn.heap.size, 4, none⟩) (.slice p7 n7 c7) (by dsimp only; omega))
      have hz8 : (w7.setCell ⟨wn.heap.size, 4, none⟩ (.slice p7 n7 c7)).heap.size = w7.heap.size := by simp [World.setCell]
      clear hn8 HN7 HR7 HB7 HK7 HN5 HR5 HB5 HK5 HT5 HX7 HX5
      generalize w7.setCell ⟨wn.heap.size, 4, none⟩ (.slice p7 n7 c7) = w8 at *
      have x0 := HX8.out.cell (k := 0) rfl
      have x1 := HX8.out.cell (k := 1) rfl
      have x2 := HX8.out.cell (k := 2) rfl
      have x3 := HX8.out.cell (k := 3) rfl
      have x4 := HX8.out.cell (k := 4) rfl
      have xl := HX8.out.lt
      have xf := HX8.out.free
      have p0 := HN8.out.cell (k := 0) rfl
      have p1 := HN8.out.cell (k := 1) rfl
      have p2 := HN8.out.cell (k := 2) rfl
      have p3 := HN8.out.cell (k := 3) rfl
      have p4 := HN8.out.cell (k := 4) rfl
      have pl := HN8.out.lt
      have pf := HN8.out.free
      go_wp2_with fail
      have hkr := HK8.out.rep 2 at_ nt nm
      unfold nC at hkr
      have hf9 := fin_put2 (b := b) (g := g) (c := c) (L := L) (w := w) HR8.out HB8.out HX8.out (Nat.le_refl _) (show w.heap.size < u.heap.size by omega) hkr hbz hgz
      exact bodyPost_ret (v := .agg #[.int .i64 2, .int .i64 at_, .string (S nt), .int .u32 nm, .slice p7 n7 c7]) (results_cell_row (fn := Tryd.f28) rfl _ _ w.heap.size 27 _ (0, 0) _ rfl hf9.1 Tryd.underlying27 rfl info_nd) rfl (hf9.2 _ rfl (by rw [HQ5.out]))
    refine AllReadyH.cons rfl (fun K hK => ?_) AllReadyH.nil
    · go_simp
      try rw [hw]
      with_reducible refine HCB.out.mono ?_
      intro e w5 hN
      obtain ⟨k5, a5, t5, v5, l5, sp5, sn5, sc5, hq5, rfl, hR5, hB5, hT5⟩ := hN.parts
      have hB45 : But b w4 w5 := ⟨hB5.os, hB5.tape, hB5.output, hB5.size, hB5.block⟩
      have hz5 := hB45.size
      have HQ5 := hide hq5
      have HR5 := hide hR5
      have HB5 := hide (HB4.out.trans hB45)
      have HN5 := hide (Bx.but HN4.out hB45 (by omega))
      have HK5 := hide (HK4.out.but hB45 (by omega))
      have HT5 : Hid (Rep w5 (Fr w4 w5) (.mk k5 a5 t5 v5 l5) #[.int .i64 k5, .int .i64 a5, .string (S t5), .int .u32 v5, .slice sp5 sn5 sc5]) := hide hT5
      have HX5 := hide (Bx.but HX4.out hB45 (by omega))
      have HSU := hide HK4.out.blk
      refine hK.out _ _ ⟨_, HN5.out⟩ (fun hH2 => ?_)
      clear hK K hN hq5 hR5 hB5 hB45 hT5
      (try simp only [Act.put, List.getElem_toArray, List.getElem_cons_zero, List.getElem_cons_succ, List.setIfInBounds_toArray, List.set_cons_zero, List.set_cons_succ])
      refine wpAnyH_ready (rs := [1, 4]) (by kernel_rfl) (by simp) ?_
      refine AllReadyH.cons rfl (fun K hK => ?_) ?_
      · have c4 := HN5.out.cell (k := 4) rfl
        go_simp
        refine hK.out _ _ ⟨_, HN5.out⟩ (fun hH6 => ?_)
        clear hK K c4
        (try simp only [Act.put, List.getElem_toArray, List.getElem_cons_zero, List.getElem_cons_succ, List.setIfInBounds_toArray, List.set_cons_zero, List.set_cons_succ])
        refine wpAnyH_ready (rs := [4]) (by kernel_rfl) (by simp) ?_
        refine AllReadyH.cons rfl (fun K hK => ?_) AllReadyH.nil
        go_simp
        refine hK.out _ _ ⟨_, HN5.out.alloc _⟩ (fun hH3 => ?_)
        clear hK K
        (try simp only [Act.put, List.getElem_toArray, List.getElem_cons_zero, List.getElem_cons_succ, List.setIfInBounds_toArray, List.set_cons_zero, List.set_cons_succ])
        refine wpAnyH_ready (rs := [5]) (by kernel_rfl) (by simp) ?_
        refine AllReadyH.cons rfl (fun K hK => ?_) AllReadyH.nil
        rw [if_pos (by kernel_rfl)]
        have hkb := HK5.out.blk
        obtain ⟨xs, hown, hxl, hkk⟩ := HK5.out
        have hX1 := rep_one HT5.out
        refine wp_app (.tmp 26) (.tmp 29) rfl u.heap.size (Value.slice sp sn sc) _ _ rfl (hown.alloc (.cells #[.int .i64 k5, .int .i64 a5, .string (S t5), .int .u32 v5, .slice sp5 sn5 sc5] 27)) ⟨_, 0, none⟩ 1 [.int .i64 k5, .int .i64 a5, .string (S t5), .int .u32 v5, .slice sp5 sn5 sc5] rfl rfl (fun j u hj => ?_) (fun u hu => ?_) (by omega) (by simp; omega) ?_
        · match j, hj with
          | 0, hj => simp at hj; subst hj; simp [Addr.add]
          | 1, hj => simp at hj; subst hj; simp [Addr.add]
          | 2, hj => simp at hj; subst hj; simp [Addr.add]
          | 3, hj => simp at hj; subst hj; simp [Addr.add]
          | 4, hj => simp at hj; subst hj; simp [Addr.add]
        · simp at hu
          rcases hu with rfl | rfl | rfl | rfl | rfl
          · rfl
          · rfl
          · rfl
          · rfl
          · exact hX1
        intro v' w7 hown' hgrow hat
        have hat' : v'.ownBlock = (Value.slice sp sn sc).ownBlock ∨ v'.ownBlock = some (w5.heap.size + 1) := by
          rcases hat with e | e
          · exact .inl e
          · right; rw [e]; simp
        have HK7 := hide (KL.app (show u.heap.size ≤ w4.heap.size by omega) (fun j hj => (HSU.out j hj).2) HT5.out hxl hkk hown' hgrow hat')
        have hz7 := hgrow.size
        simp at hz7
        have hrow : ∀ j, (Value.slice sp sn sc).ownBlock = some j → u.heap.size ≤ j := fun j hj => (hkb j hj).1
        have HN7 : Hid (Bx w7 wn.heap.size 27 #[.int .i64 2, .int .i64 at_, .string (S nt), .int .u32 nm, .slice sp sn sc]) := hide ((hgrow.block _ (by have := HN5.out.lt; simp; omega) (fun e => by have := hrow _ e.symm; omega)).trans (HN5.out.alloc _))
        have HR7 := hide ((HR5.out.alloc (.cells #[.int .i64 k5, .int .i64 a5, .string (S t5), .int .u32 v5, .slice sp5 sn5 sc5] 27)).grown hgrow (fun e => by have := hrow _ e.symm; omega) (fun e => by have := hrow _ e.symm; omega))
        have HB7 := hide ((HB5.out.alloc (.cells #[.int .i64 k5, .int .i64 a5, .string (S t5), .int .u32 v5, .slice sp5 sn5 sc5] 27)).grown hgrow (fun j hj => by have := hrow j hj; omega))
        have HX7 : Hid (Bx w7 w.heap.size 27 #[.int .i64 0, .int .i64 0, .string ⟨#[]⟩, .int .u32 0, .slice none 0 0]) := hide ((hgrow.block _ (by have := HX5.out.lt; simp; omega) (fun e => by have := hrow _ e.symm; omega)).trans (HX5.out.alloc _))
        obtain ⟨p7, n7, c7, rfl⟩ := HK7.out.slice
        refine hK.out _ _ ⟨_, HN7.out⟩ (fun hH4 => ?_)
        clear hK K hown hxl hkk hown' hgrow hat hat' hX1
        (try simp only [Act.put, List.getElem_toArray, List.getElem_cons_zero, List.getElem_cons_succ, List.setIfInBounds_toArray, List.set_cons_zero, List.set_cons_succ])
        refine wpAnyH_take (i := 6) (v := ?_) rfl (by kernel_rfl) (by kernel_rfl) (by kernel_rfl) (fun _ _ _ h => h) (Or.inl ⟨by rfl, ?_⟩) (by assumption) ?_
        rotate_left
        · intro w hSw; (try dsimp only at hSw); go_simp; (try with_reducible rfl)
        (try simp only [Act.put, List.getElem_toArray, List.getElem_cons_zero, List.getElem_cons_succ, List.setIfInBounds_toArray, List.set_cons_zero, List.set_cons_succ])
        refine wpAnyH_ready (rs := [7]) (by kernel_rfl) (by simp) ?_
        refine AllReadyH.cons rfl (fun K hK => ?_) AllReadyH.nil
        have mc := HN7.out.cell (k := 4) rfl
        have mf := HN7.out.free
        go_simp
        have hn8 : Bx (w7.setCell ⟨wn.heap.size, 4, none⟩ (.slice p7 n7 c7)) wn.heap.size 27 #[.int .i64 2, .int .i64 at_, .string (S nt), .int .u32 nm, .slice p7 n7 c7] := HN7.out.set 4 (.slice p7 n7 c7)
        refine hK.out _ _ ⟨_, hn8⟩ (fun hH5 => ?_)
        clear hK K mc mf
        (try simp only [Act.put, List.getElem_toArray, List.getElem_cons_zero, List.getElem_cons_succ, List.setIfInBounds_toArray, List.set_cons_zero, List.set_cons_succ])
        refine wpAnyH_done (by kernel_rfl) ?_ _
        have HN8 := hide hn8
        have HR8 := hide (HR7.out.other (p := ⟨wn.heap.size, 4, none⟩) (.slice p7 n7 c7) (by dsimp only; omega) (by dsimp only; omega))
        have HB8 := hide (HB7.out.fresh (p := ⟨wn.heap.size, 4, none⟩) (by dsimp only; omega) (.slice p7 n7 c7))
        have HK8 := hide (HK7.out.other (p := ⟨wn.heap.size, 4, none⟩) (.slice p7 n7 c7) (by dsimp only; omega))
        have HX8 : Hid (Bx _ w.heap.size 27 #[.int .i64 0, .int .i64 0, .string ⟨#[]⟩, .int .u32 0, .slice none 0 0]) := hide (HX7.out.other (p := ⟨wn.heap.size, 4, none⟩) (.slice p7 n7 c7) (by dsimp only; omega))
        have hz8 : (w7.setCell ⟨wn.heap.size, 4, none⟩ (.slice p7 n7 c7)).heap.size = w7.heap.size := by simp [World.setCell]
        clear hn8 HN7 HR7 HB7 HK7 HN5 HR5 HB5 HK5 HT5 HX7 HX5
        generalize w7.setCell ⟨wn.heap.size, 4, none⟩ (.slice p7 n7 c7) = w8 at *
        have x0 := HX8.out.cell (k := 0) rfl
        have x1 := HX8.out.cell (k := 1) rfl
        have x2 := HX8.out.cell (k := 2) rfl
        have x3 := HX8.out.cell (k := 3) rfl
        have x4 := HX8.out.cell (k := 4) rfl
        have xl := HX8.out.lt
        have xf := HX8.out.free
        have p0 := HN8.out.cell (k := 0) rfl
        have p1 := HN8.out.cell (k := 1) rfl
        have p2 := HN8.out.cell (k := 2) rfl
        have p3 := HN8.out.cell (k := 3) rfl
        have p4 := HN8.out.cell (k := 4) rfl
        have pl := HN8.out.lt
        have pf := HN8.out.free
        go_wp2_with fail
        have hkr := HK8.out.rep 2 at_ nt nm
        unfold nC at hkr
        have hf9 := fin_put2 (b := b) (g := g) (c := c) (L := L) (w := w) HR8.out HB8.out HX8.out (Nat.le_refl _) (show w.heap.size < u.heap.size by omega) hkr hbz hgz
        exact bodyPost_ret (v := .agg #[.int .i64 2, .int .i64 at_, .string (S nt), .int .u32 nm, .slice p7 n7 c7]) (results_cell_row (fn := Tryd.f28) rfl _ _ w.heap.size 27 _ (0, 0) _ rfl hf9.1 Tryd.underlying27 rfl info_nd) rfl (hf9.2 _ rfl (by rw [HQ5.out]))
      refine AllReadyH.cons rfl (fun K hK => ?_) AllReadyH.nil
      · go_simp
        refine hK.out _ _ ⟨_, HN5.out.alloc _⟩ (fun hH3 => ?_)
        clear hK K
        (try simp only [Act.put, List.getElem_toArray, List.getElem_cons_zero, List.getElem_cons_succ, List.setIfInBounds_toArray, List.set_cons_zero, List.set_cons_succ])
        refine wpAnyH_ready (rs := [1]) (by kernel_rfl) (by simp) ?_
        refine AllReadyH.cons rfl (fun K hK => ?_) AllReadyH.nil
        have c4 := (HN5.out.alloc (.cells #[.int .i64 k5, .int .i64 a5, .string (S t5), .int .u32 v5, .slice sp5 sn5 sc5] 27)).cell (k := 4) rfl
        go_simp
        refine hK.out _ _ ⟨_, (HN5.out.alloc (.cells #[.int .i64 k5, .int .i64 a5, .string (S t5), .int .u32 v5, .slice sp5 sn5 sc5] 27))⟩ (fun hH6 => ?_)
        clear hK K c4
        (try simp only [Act.put, List.getElem_toArray, List.getElem_cons_zero, List.getElem_cons_succ, List.setIfInBounds_toArray, List.set_cons_zero, List.set_cons_succ])
        refine wpAnyH_ready (rs := [5]) (by kernel_rfl) (by simp) ?_
        refine AllReadyH.cons rfl (fun K hK => ?_) AllReadyH.nil
        rw [if_pos (by kernel_rfl)]
        have hkb := HK5.out.blk
        obtain ⟨xs, hown, hxl, hkk⟩ := HK5.out
        have hX1 := rep_one HT5.out
        refine wp_app (.tmp 26) (.tmp 29) rfl u.heap.size (Value.slice sp sn sc) _ _ rfl (hown.alloc (.cells #[.int .i64 k5, .int .i64 a5, .string (S t5), .int .u32 v5, .slice sp5 sn5 sc5] 27)) ⟨_, 0, none⟩ 1 [.int .i64 k5, .int .i64 a5, .string (S t5), .int .u32 v5, .slice sp5 sn5 sc5] rfl rfl (fun j u hj => ?_) (fun u hu => ?_) (by omega) (by simp; omega) ?_
        · match j, hj with
          | 0, hj => simp at hj; subst hj; simp [Addr.add]
          | 1, hj => simp at hj; subst hj; simp [Addr.add]
          | 2, hj => simp at hj; subst hj; simp [Addr.add]
          | 3, hj => simp at hj; subst hj; simp [Addr.add]
          | 4, hj => simp at hj; subst hj; simp [Addr.add]
        · simp at hu
          rcases hu with rfl | rfl | rfl | rfl | rfl
          · rfl
          · rfl
          · rfl
          · rfl
          · exact hX1
        intro v' w7 hown' hgrow hat
        have hat' : v'.ownBlock = (Value.slice sp sn sc).ownBlock ∨ v'.ownBlock = some (w5.heap.size + 1) := by
          rcases hat with e | e
          · exact .inl e
          · right; rw [e]; simp
        have HK7 := hide (KL.app (show u.heap.size ≤ w4.heap.size by omega) (fun j hj => (HSU.out j hj).2) HT5.out hxl hkk hown' hgrow hat')
        have hz7 := hgrow.size
        simp at hz7
        have hrow : ∀ j, (Value.slice sp sn sc).ownBlock = some j → u.heap.size ≤ j := fun j hj => (hkb j hj).1
        have HN7 : Hid (Bx w7 wn.heap.size 27 #[.int .i64 2, .int .i64 at_, .string (S nt), .int .u32 nm, .slice sp sn sc]) := hide ((hgrow.block _ (by have := HN5.out.lt; simp; omega) (fun e => by have := hrow _ e.symm; omega)).trans (HN5.out.alloc _))
        have HR7 := hide ((HR5.out.alloc (.cells #[.int .i64 k5, .int .i64 a5, .string (S t5), .int .u32 v5, .slice sp5 sn5 sc5] 27)).grown hgrow (fun e => by have := hrow _ e.symm; omega) (fun e => by have := hrow _ e.symm; omega))
        have HB7 := hide ((HB5.out.alloc (.cells #[.int .i64 k5, .int .i64 a5, .string (S t5), .int .u32 v5, .slice sp5 sn5 sc5] 27)).grown hgrow (fun j hj => by have := hrow j hj; omega))
        have HX7 : Hid (Bx w7 w.heap.size 27 #[.int .i64 0, .int .i64 0, .string ⟨#[]⟩, .int .u32 0, .slice none 0 0]) := hide ((hgrow.block _ (by have := HX5.out.lt; simp; omega) (fun e => by have := hrow _ e.symm; omega)).trans (HX5.out.alloc _))
        obtain ⟨p7, n7, c7, rfl⟩ := HK7.out.slice
        refine hK.out _ _ ⟨_, HN7.out⟩ (fun hH4 => ?_)
        clear hK K hown hxl hkk hown' hgrow hat hat' hX1
        (try simp only [Act.put, List.getElem_toArray, List.getElem_cons_zero, List.getElem_cons_succ, List.setIfInBounds_toArray, List.set_cons_zero, List.set_cons_succ])
        refine wpAnyH_take (i := 6) (v := ?_) rfl (by kernel_rfl) (by kernel_rfl) (by kernel_rfl) (fun _ _ _ h => h) (Or.inl ⟨by rfl, ?_⟩) (by assumption) ?_
        rotate_left
        · intro w hSw; (try dsimp only at hSw); go_simp; (try with_reducible rfl)
        (try simp only [Act.put, List.getElem_toArray, List.getElem_cons_zero, List.getElem_cons_succ, List.setIfInBounds_toArray, List.set_cons_zero, List.set_cons_succ])
        refine wpAnyH_ready (rs := [7]) (by kernel_rfl) (by simp) ?_
        refine AllReadyH.cons rfl (fun K hK => ?_) AllReadyH.nil
        have mc := HN7.out.cell (k := 4) rfl
        have mf := HN7.out.free
        go_simp
        have hn8 : Bx (w7.setCell ⟨wn.heap.size, 4, none⟩ (.slice p7 n7 c7)) wn.heap.size 27 #[.int .i64 2, .int .i64 at_, .string (S nt), .int .u32 nm, .slice p7 n7 c7] := HN7.out.set 4 (.slice p7 n7 c7)
        refine hK.out _ _ ⟨_, hn8⟩ (fun hH5 => ?_)
        clear hK K mc mf
        (try simp only [Act.put, List.getElem_toArray, List.getElem_cons_zero, List.getElem_cons_succ, List.setIfInBounds_toArray, List.set_cons_zero, List.set_cons_succ])
        refine wpAnyH_done (by kernel_rfl) ?_ _
        have HN8 := hide hn8
        have HR8 := hide (HR7.out.other (p := ⟨wn.heap.size, 4, none⟩) (.slice p7 n7 c7) (by dsimp only; omega) (by dsimp only; omega))
        have HB8 := hide (HB7.out.fresh (p := ⟨wn.heap.size, 4, none⟩) (by dsimp only; omega) (.slice p7 n7 c7))
        have HK8 := hide (HK7.out.other (p := ⟨wn.heap.size, 4, none⟩) (.slice p7 n7 c7) (by dsimp only; omega))
        have HX8 : Hid (Bx _ w.heap.size 27 #[.int .i64 0, .int .i64 0, .string ⟨#[]⟩, .int .u32 0, .slice none 0 0]) := hide (HX7.out.other (p := ⟨wn.heap.size, 4, none⟩) (.slice p7 n7 c7) (by dsimp only; omega))
        have hz8 : (w7.setCell ⟨wn.heap.size, 4, none⟩ (.slice p7 n7 c7)).heap.size = w7.heap.size := by simp [World.setCell]
        clear hn8 HN7 HR7 HB7 HK7 HN5 HR5 HB5 HK5 HT5 HX7 HX5
        generalize w7.setCell ⟨wn.heap.size, 4, none⟩ (.slice p7 n7 c7) = w8 at *
        have x0 := HX8.out.cell (k := 0) rfl
        have x1 := HX8.out.cell (k := 1) rfl
        have x2 := HX8.out.cell (k := 2) rfl
        have x3 := HX8.out.cell (k := 3) rfl
        have x4 := HX8.out.cell (k := 4) rfl
        have xl := HX8.out.lt
        have xf := HX8.out.free
        have p0 := HN8.out.cell (k := 0) rfl
        have p1 := HN8.out.cell (k := 1) rfl
        have p2 := HN8.out.cell (k := 2) rfl
        have p3 := HN8.out.cell (k := 3) rfl
        have p4 := HN8.out.cell (k := 4) rfl
        have pl := HN8.out.lt
        have pf := HN8.out.free
        go_wp2_with fail
        have hkr := HK8.out.rep 2 at_ nt nm
        unfold nC at hkr
        have hf9 := fin_put2 (b := b) (g := g) (c := c) (L := L) (w := w) HR8.out HB8.out HX8.out (Nat.le_refl _) (show w.heap.size < u.heap.size by omega) hkr hbz hgz
        exact bodyPost_ret (v := .agg #[.int .i64 2, .int .i64 at_, .string (S nt), .int .u32 nm, .slice p7 n7 c7]) (results_cell_row (fn := Tryd.f28) rfl _ _ w.heap.size 27 _ (0, 0) _ rfl hf9.1 Tryd.underlying27 rfl info_nd) rfl (hf9.2 _ rfl (by rw [HQ5.out]))
  refine AllReadyH.cons rfl (fun K hK => ?_) AllReadyH.nil
  go_simp
  with_reducible refine HRE.out.mono ?_
  rintro e w7 ⟨rfl, hR7, hB7⟩
  have hB67 : But b w6 w7 := ⟨hB7.os, hB7.tape, hB7.output, hB7.size, hB7.block⟩
  have hz7 := hB67.size
  have HR7 := hide hR7
  have HB7 := hide (HB6.out.trans hB67)
  have HY7 := hide (Bx.but HY6.out hB67 (by omega))
  have HN7 := hide (Bx.but HN6.out hB67 (by omega))
  have HK7 := hide (HK6.out.but hB67 (by omega))
  refine hK.out _ _ ⟨_, HN7.out⟩ (fun hH3 => ?_)
  clear hK K hR7 hB7 hB67
  (try simp only [Act.put, List.getElem_toArray, List.getElem_cons_zero, List.getElem_cons_succ, List.setIfInBounds_toArray, List.set_cons_zero, List.set_cons_succ])
  refine wpAnyH_ready (rs := [1]) (by kernel_rfl) (by simp) ?_
  refine AllReadyH.cons rfl (fun K hK => ?_) AllReadyH.nil
  have c3 := HN7.out.cell (k := 3) rfl
  go_simp
  refine hK.out _ _ ⟨_, HN7.out⟩ (fun hH2 => ?_)
  clear hK K c3
  (try simp only [Act.put, List.getElem_toArray, List.getElem_cons_zero, List.getElem_cons_succ, List.setIfInBounds_toArray, List.set_cons_zero, List.set_cons_succ])
  refine wpAnyH_take (i := 4) (v := ?_) rfl (by kernel_rfl) (by kernel_rfl) (by kernel_rfl) (fun _ _ _ h => h) (Or.inl ⟨by rfl, ?_⟩) (by assumption) ?_
  rotate_left
  · intro w hSw; (try dsimp only at hSw); go_simp; (try with_reducible rfl)
  (try simp only [Act.put, List.getElem_toArray, List.getElem_cons_zero, List.getElem_cons_succ, List.setIfInBounds_toArray, List.set_cons_zero, List.set_cons_succ])
  refine wpAnyH_take (i := 5) (v := ?_) rfl (by kernel_rfl) (by kernel_rfl) (by kernel_rfl) (fun _ _ _ h => h) (Or.inl ⟨by rfl, ?_⟩) (by assumption) ?_
  rotate_left
  · intro w hSw; (try dsimp only at hSw); go_simp; (try with_reducible rfl)
  (try simp only [Act.put, List.getElem_toArray, List.getElem_cons_zero, List.getElem_cons_succ, List.setIfInBounds_toArray, List.set_cons_zero, List.set_cons_succ])
  refine wpAnyH_ready (rs := [6]) (by kernel_rfl) (by simp) ?_
  refine AllReadyH.cons rfl (fun K hK => ?_) AllReadyH.nil
  have mc := HN7.out.cell (k := 3) rfl
  have mf := HN7.out.free
  go_simp
  have hq8 := HN7.out.set 3 (.int .u32 (1 + rv))
  refine hK.out _ _ ⟨_, hq8⟩ (fun hH4 => ?_)
  clear hK K mc mf
  (try simp only [Act.put, List.getElem_toArray, List.getElem_cons_zero, List.getElem_cons_succ, List.setIfInBounds_toArray, List.set_cons_zero, List.set_cons_succ])
  refine wpAnyH_done (by kernel_rfl) ?_ _
  generalize hnm : (1 : Int) + rv = nm at *
  generalize hw4 : w7.setCell ⟨wn.heap.size, 3, none⟩ (.int .u32 nm) = w4 at *
  have HR4 : Hid (Rd w4 b g c L r7) := hide (hw4 ▸ (by repeat (first | with_reducible exact HR7.out | with_reducible refine Rd.alloc ?_ _ | with_reducible refine Rd.other ?_ _ (by first | omega | (dsimp only; omega)) (by first | omega | (dsimp only; omega)))))
  have HB4 : Hid (But b w w4) := hide (hw4 ▸ (by repeat (first | with_reducible exact HB7.out | with_reducible refine But.alloc ?_ _ | with_reducible refine But.fresh ?_ (by first | omega | (dsimp only; omega)) _)))
  have HX4 : Hid (Bx w4 w.heap.size 27 #[.int .i64 0, .int .i64 0, .string ⟨#[]⟩, .int .u32 0, .slice none 0 0]) := hide (hw4 ▸ (by repeat (first | with_reducible exact HY7.out | (with_reducible refine Bx.newAt ?_; first | rfl | (simp [World.setCell]; done)) | with_reducible refine Bx.alloc ?_ _ | with_reducible refine Bx.other ?_ _ (by first | omega | (dsimp only; omega)))))
  have HN4 : Hid (Bx w4 wn.heap.size 27 #[.int .i64 2, .int .i64 at_, .string (S nt), .int .u32 nm, .slice sp sn sc]) := hide hq8
  have HK4 : Hid (KL u w4 ls (.slice sp sn sc)) := hide (hw4 ▸ HK7.out.other (p := ⟨wn.heap.size, 3, none⟩) _ (by dsimp only; omega))
  have hs4 : w7.heap.size ≤ w4.heap.size := by rw [← hw4]; simp [World.setCell]
  have HCB := hide (hb w4.drew _ HR4.out.drew (.inl (by omega)))
  have HNM9 := hide hnm
  clear hq8 hw4 hnm
  go_wp2_with fail
  refine wp_region_held_drew (S := fun w' => ∃ s0, Bx w' wn.heap.size 27 #[.int .i64 2, .int .i64 at_, .string (S nt), .int .u32 nm, s0]) (by kernel_rfl) ⟨_, HN4.out⟩ (fun hH1 => ?_)
  refine wpAnyH_take (i := 0) (v := ?_) rfl (by kernel_rfl) (by kernel_rfl) (by kernel_rfl) (fun _ _ _ h => h) (Or.inl ⟨by rfl, ?_⟩) (by assumption) ?_
  rotate_left
  · intro w hSw; (try dsimp only at hSw); go_simp; (try with_reducible rfl)
  (try simp only [Act.put, List.getElem_toArray, List.getElem_cons_zero, List.setIfInBounds_toArray, List.set_cons_zero, List.set_cons_succ])
  refine wpAnyH_take (i := 2) (v := ?_) rfl (by kernel_rfl) (by kernel_rfl) (by kernel_rfl) (fun _ _ _ h => h) (Or.inl ⟨by rfl, ?_⟩) (by assumption) ?_
  rotate_left
  · intro w hSw; (try dsimp only at hSw); go_simp; (try with_reducible rfl)
  (try simp only [Act.put, List.getElem_toArray, List.getElem_cons_zero, List.getElem_cons_succ, List.setIfInBounds_toArray, List.set_cons_zero, List.set_cons_succ])
  refine wpAnyH_ready (rs := [1, 3]) (by kernel_rfl) (by simp) ?_
  refine AllReadyH.cons rfl (fun K hK => ?_) ?_
  · have c4 := HN4.out.cell (k := 4) rfl
    go_simp
    refine hK.out _ _ ⟨_, HN4.out⟩ (fun hH6 => ?_)
    clear hK K c4
    (try simp only [Act.put, List.getElem_toArray, List.getElem_cons_zero, List.getElem_cons_succ, List.setIfInBounds_toArray, List.set_cons_zero, List.set_cons_succ])
    refine wpAnyH_ready (rs := [3]) (by kernel_rfl) (by simp) ?_
    refine AllReadyH.cons rfl (fun K hK => ?_) AllReadyH.nil
    go_simp
    try rw [hw]
    with_reducible refine HCB.out.mono ?_
    intro e w5 hN
    obtain ⟨k5, a5, t5, v5, l5, sp5, sn5, sc5, hq5, rfl, hR5, hB5, hT5⟩ := hN.parts
    have hB45 : But b w4 w5 := ⟨hB5.os, hB5.tape, hB5.output, hB5.size, hB5.block⟩
    have hz5 := hB45.size
    have HQ5 := hide hq5
    have HR5 := hide hR5
    have HB5 := hide (HB4.out.trans hB45)
    have HN5 := hide (Bx.but HN4.out hB45 (by omega))
    have HK5 := hide (HK4.out.but hB45 (by omega))
    have HT5 : Hid (Rep w5 (Fr w4 w5) (.mk k5 a5 t5 v5 l5) #[.int .i64 k5, .int .i64 a5, .string (S t5), .int .u32 v5, .slice sp5 sn5 sc5]) := hide hT5
    have HX5 := hide (Bx.but HX4.out hB45 (by omega))
    have HSU := hide HK4.out.blk
    refine hK.out _ _ ⟨_, HN5.out⟩ (fun hH2 => ?_)
    clear hK K hN hq5 hR5 hB5 hB45 hT5
    (try simp only [Act.put, List.getElem_toArray, List.getElem_cons_zero, List.getElem_cons_succ, List.setIfInBounds_toArray, List.set_cons_zero, List.set_cons_succ])
    refine wpAnyH_ready (rs := [4]) (by kernel_rfl) (by simp) ?_
    refine AllReadyH.cons rfl (fun K hK => ?_) AllReadyH.nil
    go_simp
    refine hK.out _ _ ⟨_, HN5.out.alloc _⟩ (fun hH3 => ?_)
    clear hK K
    (try simp only [Act.put, List.getElem_toArray, List.getElem_cons_zero, List.getElem_cons_succ, List.setIfInBounds_toArray, List.set_cons_zero, List.set_cons_succ])
    refine wpAnyH_ready (rs := [5]) (by kernel_rfl) (by simp) ?_
    refine AllReadyH.cons rfl (fun K hK => ?_) AllReadyH.nil
    rw [if_pos (by kernel_rfl)]
    have hkb := HK5.out.blk
    obtain ⟨xs, hown, hxl, hkk⟩ := HK5.out
    have hX1 := rep_one HT5.out
    refine wp_app (.tmp 26) (.tmp 29) rfl u.heap.size (Value.slice sp sn sc) _ _ rfl (hown.alloc (.cells #[.int .i64 k5, .int .i64 a5, .string (S t5), .int .u32 v5, .slice sp5 sn5 sc5] 27)) ⟨_, 0, none⟩ 1 [.int .i64 k5, .int .i64 a5, .string (S t5), .int .u32 v5, .slice sp5 sn5 sc5] rfl rfl (fun j u hj => ?_) (fun u hu => ?_) (by omega) (by simp; omega) ?_
    · match j, hj with
      | 0, hj => simp at hj; subst hj; simp [Addr.add]
      | 1, hj => simp at hj; subst hj; simp [Addr.add]
      | 2, hj => simp at hj; subst hj; simp [Addr.add]
      | 3, hj => simp at hj; subst hj; simp [Addr.add]
      | 4, hj => simp at hj; subst hj; simp [Addr.add]
    · simp at hu
      rcases hu with rfl | rfl | rfl | rfl | rfl
      · rfl
      · rfl
      · rfl
      · rfl
      · exact hX1
    intro v' w7 hown' hgrow hat
    have hat' : v'.ownBlock = (Value.slice sp sn sc).ownBlock ∨ v'.ownBlock = some (w5.heap.size + 1) := by
      rcases hat with e | e
      · exact .inl e
      · right; rw [e]; simp
    have HK7 := hide (KL.app (show u.heap.size ≤ w4.heap.size by omega) (fun j hj => (HSU.out j hj).2) HT5.out hxl hkk hown' hgrow hat')
    have hz7 := hgrow.size
    simp at hz7
    have hrow : ∀ j, (Value.slice sp sn sc).ownBlock = some j → u.heap.size ≤ j := fun j hj => (hkb j hj).1
    have HN7 : Hid (Bx w7 wn.heap.size 27 #[.int .i64 2, .int .i64 at_, .string (S nt), .int .u32 nm, .slice sp sn sc]) := hide ((hgrow.block _ (by have := HN5.out.lt; simp; omega) (fun e => by have := hrow _ e.symm; omega)).trans (HN5.out.alloc _))
    have HR7 := hide ((HR5.out.alloc (.cells #[.int .i64 k5, .int .i64 a5, .string (S t5), .int .u32 v5, .slice sp5 sn5 sc5] 27)).grown hgrow (fun e => by have := hrow _ e.symm; omega) (fun e => by have := hrow _ e.symm; omega))
    have HB7 := hide ((HB5.out.alloc (.cells #[.int .i64 k5, .int .i64 a5, .string (S t5), .int .u32 v5, .slice sp5 sn5 sc5] 27)).grown hgrow (fun j hj => by have := hrow j hj; omega))
    have HX7 : Hid (Bx w7 w.heap.size 27 #[.int .i64 0, .int .i64 0, .string ⟨#[]⟩, .int .u32 0, .slice none 0 0]) := hide ((hgrow.block _ (by have := HX5.out.lt; simp; omega) (fun e => by have := hrow _ e.symm; omega)).trans (HX5.out.alloc _))
    obtain ⟨p7, n7, c7, rfl⟩ := HK7.out.slice
    refine hK.out _ _ ⟨_, HN7.out⟩ (fun hH4 => ?_)
    clear hK K hown hxl hkk hown' hgrow hat hat' hX1
    (try simp only [Act.put, List.getElem_toArray, List.getElem_cons_zero, List.getElem_cons_succ, List.setIfInBounds_toArray, List.set_cons_zero, List.set_cons_succ])
    refine wpAnyH_take (i := 6) (v := ?_) rfl (by kernel_rfl) (by kernel_rfl) (by kernel_rfl) (fun _ _ _ h => h) (Or.inl ⟨by rfl, ?_⟩) (by assumption) ?_
    rotate_left
    · intro w hSw; (try dsimp only at hSw); go_simp; (try with_reducible rfl)
    (try simp only [Act.put, List.getElem_toArray, List.getElem_cons_zero, List.getElem_cons_succ, List.setIfInBounds_toArray, List.set_cons_zero, List.set_cons_succ])
    refine wpAnyH_ready (rs := [7]) (by kernel_rfl) (by simp) ?_
    refine AllReadyH.cons rfl (fun K hK => ?_) AllReadyH.nil
    have mc := HN7.out.cell (k := 4) rfl
    have mf := HN7.out.free
    go_simp
    have hn8 : Bx (w7.setCell ⟨wn.heap.size, 4, none⟩ (.slice p7 n7 c7)) wn.heap.size 27 #[.int .i64 2, .int .i64 at_, .string (S nt), .int .u32 nm, .slice p7 n7 c7] := HN7.out.set 4 (.slice p7 n7 c7)
    refine hK.out _ _ ⟨_, hn8⟩ (fun hH5 => ?_)
    clear hK K mc mf
    (try simp only [Act.put, List.getElem_toArray, List.getElem_cons_zero, List.getElem_cons_succ, List.setIfInBounds_toArray, List.set_cons_zero, List.set_cons_succ])
    refine wpAnyH_done (by kernel_rfl) ?_ _
    have HN8 := hide hn8
    have HR8 := hide (HR7.out.other (p := ⟨wn.heap.size, 4, none⟩) (.slice p7 n7 c7) (by dsimp only; omega) (by dsimp only; omega))
    have HB8 := hide (HB7.out.fresh (p := ⟨wn.heap.size, 4, none⟩) (by dsimp only; omega) (.slice p7 n7 c7))
    have HK8 := hide (HK7.out.other (p := ⟨wn.heap.size, 4, none⟩) (.slice p7 n7 c7) (by dsimp only; omega))
    have HX8 : Hid (Bx _ w.heap.size 27 #[.int .i64 0, .int .i64 0, .string ⟨#[]⟩, .int .u32 0, .slice none 0 0]) := hide (HX7.out.other (p := ⟨wn.heap.size, 4, none⟩) (.slice p7 n7 c7) (by dsimp only; omega))
    have hz8 : (w7.setCell ⟨wn.heap.size, 4, none⟩ (.slice p7 n7 c7)).heap.size = w7.heap.size := by simp [World.setCell]
    clear hn8 HN7 HR7 HB7 HK7 HN5 HR5 HB5 HK5 HT5 HX7 HX5
    generalize w7.setCell ⟨wn.heap.size, 4, none⟩ (.slice p7 n7 c7) = w8 at *
    have x0 := HX8.out.cell (k := 0) rfl
    have x1 := HX8.out.cell (k := 1) rfl
    have x2 := HX8.out.cell (k := 2) rfl
    have x3 := HX8.out.cell (k := 3) rfl
    have x4 := HX8.out.cell (k := 4) rfl
    have xl := HX8.out.lt
    have xf := HX8.out.free
    have p0 := HN8.out.cell (k := 0) rfl
    have p1 := HN8.out.cell (k := 1) rfl
    have p2 := HN8.out.cell (k := 2) rfl
    have p3 := HN8.out.cell (k := 3) rfl
    have p4 := HN8.out.cell (k := 4) rfl
    have pl := HN8.out.lt
    have pf := HN8.out.free
    go_wp2_with fail
    have hkr := HK8.out.rep 2 at_ nt nm
    unfold nC at hkr
    have hf9 := fin_put2 (b := b) (g := g) (c := c) (L := L) (w := w) HR8.out HB8.out HX8.out (Nat.le_refl _) (show w.heap.size < u.heap.size by omega) hkr hbz hgz
    exact bodyPost_ret (v := .agg #[.int .i64 2, .int .i64 at_, .string (S nt), .int .u32 nm, .slice p7 n7 c7]) (results_cell_row (fn := Tryd.f28) rfl _ _ w.heap.size 27 _ (0, 0) _ rfl hf9.1 Tryd.underlying27 rfl info_nd) rfl (hf9.2 _ rfl (by rw [HQ5.out]))
  refine AllReadyH.cons rfl (fun K hK => ?_) AllReadyH.nil
  · go_simp
    try rw [hw]
    with_reducible refine HCB.out.mono ?_
    intro e w5 hN
    obtain ⟨k5, a5, t5, v5, l5, sp5, sn5, sc5, hq5, rfl, hR5, hB5, hT5⟩ := hN.parts
    have hB45 : But b w4 w5 := ⟨hB5.os, hB5.tape, hB5.output, hB5.size, hB5.block⟩
    have hz5 := hB45.size
    have HQ5 := hide hq5
    have HR5 := hide hR5
    have HB5 := hide (HB4.out.trans hB45)
    have HN5 := hide (Bx.but HN4.out hB45 (by omega))
    have HK5 := hide (HK4.out.but hB45 (by omega))
    have HT5 : Hid (Rep w5 (Fr w4 w5) (.mk k5 a5 t5 v5 l5) #[.int .i64 k5, .int .i64 a5, .string (S t5), .int .u32 v5, .slice sp5 sn5 sc5]) := hide hT5
    have HX5 := hide (Bx.but HX4.out hB45 (by omega))
    have HSU := hide HK4.out.blk
    refine hK.out _ _ ⟨_, HN5.out⟩ (fun hH2 => ?_)
    clear hK K hN hq5 hR5 hB5 hB45 hT5
    (try simp only [Act.put, List.getElem_toArray, List.getElem_cons_zero, List.getElem_cons_succ, List.setIfInBounds_toArray, List.set_cons_zero, List.set_cons_succ])
    refine wpAnyH_ready (rs := [1, 4]) (by kernel_rfl) (by simp) ?_
    refine AllReadyH.cons rfl (fun K hK => ?_) ?_
    · have c4 := HN5.out.cell (k := 4) rfl
      go_simp
      refine hK.out _ _ ⟨_, HN5.out⟩ (fun hH6 => ?_)
      clear hK K c4
      (try simp only [Act.put, List.getElem_toArray, List.getElem_cons_zero, List.getElem_cons_succ, List.setIfInBounds_toArray, List.set_cons_zero, List.set_cons_succ])
      refine wpAnyH_ready (rs := [4]) (by kernel_rfl) (by simp) ?_
      refine AllReadyH.cons rfl (fun K hK => ?_) AllReadyH.nil
      go_simp
      refine hK.out _ _ ⟨_, HN5.out.alloc _⟩ (fun hH3 => ?_)
      clear hK K
      (try simp only [Act.put, List.getElem_toArray, List.getElem_cons_zero, List.getElem_cons_succ, List.setIfInBounds_toArray, List.set_cons_zero, List.set_cons_succ])
      refine wpAnyH_ready (rs := [5]) (by kernel_rfl) (by simp) ?_
      refine AllReadyH.cons rfl (fun K hK => ?_) AllReadyH.nil
      rw [if_pos (by kernel_rfl)]
      have hkb := HK5.out.blk
      obtain ⟨xs, hown, hxl, hkk⟩ := HK5.out
      have hX1 := rep_one HT5.out
      refine wp_app (.tmp 26) (.tmp 29) rfl u.heap.size (Value.slice sp sn sc) _ _ rfl (hown.alloc (.cells #[.int .i64 k5, .int .i64 a5, .string (S t5), .int .u32 v5, .slice sp5 sn5 sc5] 27)) ⟨_, 0, none⟩ 1 [.int .i64 k5, .int .i64 a5, .string (S t5), .int .u32 v5, .slice sp5 sn5 sc5] rfl rfl (fun j u hj => ?_) (fun u hu => ?_) (by omega) (by simp; omega) ?_
      · match j, hj with
        | 0, hj => simp at hj; subst hj; simp [Addr.add]
        | 1, hj => simp at hj; subst hj; simp [Addr.add]
        | 2, hj => simp at hj; subst hj; simp [Addr.add]
        | 3, hj => simp at hj; subst hj; simp [Addr.add]
        | 4, hj => simp at hj; subst hj; simp [Addr.add]
      · simp at hu
        rcases hu with rfl | rfl | rfl | rfl | rfl
        · rfl
        · rfl
        · rfl
        · rfl
        · exact hX1
      intro v' w7 hown' hgrow hat
      have hat' : v'.ownBlock = (Value.slice sp sn sc).ownBlock ∨ v'.ownBlock = some (w5.heap.size + 1) := by
        rcases hat with e | e
        · exact .inl e
        · right; rw [e]; simp
      have HK7 := hide (KL.app (show u.heap.size ≤ w4.heap.size by omega) (fun j hj => (HSU.out j hj).2) HT5.out hxl hkk hown' hgrow hat')
      have hz7 := hgrow.size
      simp at hz7
      have hrow : ∀ j, (Value.slice sp sn sc).ownBlock = some j → u.heap.size ≤ j := fun j hj => (hkb j hj).1
      have HN7 : Hid (Bx w7 wn.heap.size 27 #[.int .i64 2, .int .i64 at_, .string (S nt), .int .u32 nm, .slice sp sn sc]) := hide ((hgrow.block _ (by have := HN5.out.lt; simp; omega) (fun e => by have := hrow _ e.symm; omega)).trans (HN5.out.alloc _))
      have HR7 := hide ((HR5.out.alloc (.cells #[.int .i64 k5, .int .i64 a5, .string (S t5), .int .u32 v5, .slice sp5 sn5 sc5] 27)).grown hgrow (fun e => by have := hrow _ e.symm; omega) (fun e => by have := hrow _ e.symm; omega))
      have HB7 := hide ((HB5.out.alloc (.cells #[.int .i64 k5, .int .i64 a5, .string (S t5), .int .u32 v5, .slice sp5 sn5 sc5] 27)).grown hgrow (fun j hj => by have := hrow j hj; omega))
      have HX7 : Hid (Bx w7 w.heap.size 27 #[.int .i64 0, .int .i64 0, .string ⟨#[]⟩, .int .u32 0, .slice none 0 0]) := hide ((hgrow.block _ (by have := HX5.out.lt; simp; omega) (fun e => by have := hrow _ e.symm; omega)).trans (HX5.out.alloc _))
      obtain ⟨p7, n7, c7, rfl⟩ := HK7.out.slice
      refine hK.out _ _ ⟨_, HN7.out⟩ (fun hH4 => ?_)
      clear hK K hown hxl hkk hown' hgrow hat hat' hX1
      (try simp only [Act.put, List.getElem_toArray, List.getElem_cons_zero, List.getElem_cons_succ, List.setIfInBounds_toArray, List.set_cons_zero, List.set_cons_succ])
      refine wpAnyH_take (i := 6) (v := ?_) rfl (by kernel_rfl) (by kernel_rfl) (by kernel_rfl) (fun _ _ _ h => h) (Or.inl ⟨by rfl, ?_⟩) (by assumption) ?_
      rotate_left
      · intro w hSw; (try dsimp only at hSw); go_simp; (try with_reducible rfl)
      (try simp only [Act.put, List.getElem_toArray, List.getElem_cons_zero, List.getElem_cons_succ, List.setIfInBounds_toArray, List.set_cons_zero, List.set_cons_succ])
      refine wpAnyH_ready (rs := [7]) (by kernel_rfl) (by simp) ?_
      refine AllReadyH.cons rfl (fun K hK => ?_) AllReadyH.nil
      have mc := HN7.out.cell (k := 4) rfl
      have mf := HN7.out.free
      go_simp
      have hn8 : Bx (w7.setCell ⟨wn.heap.size, 4, none⟩ (.slice p7 n7 c7)) wn.heap.size 27 #[.int .i64 2, .int .i64 at_, .string (S nt), .int .u32 nm, .slice p7 n7 c7] := HN7.out.set 4 (.slice p7 n7 c7)
      refine hK.out _ _ ⟨_, hn8⟩ (fun hH5 => ?_)
      clear hK K mc mf
      (try simp only [Act.put, List.getElem_toArray, List.getElem_cons_zero, List.getElem_cons_succ, List.setIfInBounds_toArray, List.set_cons_zero, List.set_cons_succ])
      refine wpAnyH_done (by kernel_rfl) ?_ _
      have HN8 := hide hn8
      have HR8 := hide (HR7.out.other (p := ⟨wn.heap.size, 4, none⟩) (.slice p7 n7 c7) (by dsimp only; omega) (by dsimp only; omega))
      have HB8 := hide (HB7.out.fresh (p := ⟨wn.heap.size, 4, none⟩) (by dsimp only; omega) (.slice p7 n7 c7))
      have HK8 := hide (HK7.out.other (p := ⟨wn.heap.size, 4, none⟩) (.slice p7 n7 c7) (by dsimp only; omega))
      have HX8 : Hid (Bx _ w.heap.size 27 #[.int .i64 0, .int .i64 0, .string ⟨#[]⟩, .int .u32 0, .slice none 0 0]) := hide (HX7.out.other (p := ⟨wn.heap.size, 4, none⟩) (.slice p7 n7 c7) (by dsimp only; omega))
      have hz8 : (w7.setCell ⟨wn.heap.size, 4, none⟩ (.slice p7 n7 c7)).heap.size = w7.heap.size := by simp [World.setCell]
      clear hn8 HN7 HR7 HB7 HK7 HN5 HR5 HB5 HK5 HT5 HX7 HX5
      generalize w7.setCell ⟨wn.heap.size, 4, none⟩ (.slice p7 n7 c7) = w8 at *
      have x0 := HX8.out.cell (k := 0) rfl
      have x1 := HX8.out.cell (k := 1) rfl
      have x2 := HX8.out.cell (k := 2) rfl
      have x3 := HX8.out.cell (k := 3) rfl
      have x4 := HX8.out.cell (k := 4) rfl
      have xl := HX8.out.lt
      have xf := HX8.out.free
      have p0 := HN8.out.cell (k := 0) rfl
      have p1 := HN8.out.cell (k := 1) rfl
      have p2 := HN8.out.cell (k := 2) rfl
      have p3 := HN8.out.cell (k := 3) rfl
      have p4 := HN8.out.cell (k := 4) rfl
      have pl := HN8.out.lt
      have pf := HN8.out.free
      go_wp2_with fail
      have hkr := HK8.out.rep 2 at_ nt nm
      unfold nC at hkr
      have hf9 := fin_put2 (b := b) (g := g) (c := c) (L := L) (w := w) HR8.out HB8.out HX8.out (Nat.le_refl _) (show w.heap.size < u.heap.size by omega) hkr hbz hgz
      exact bodyPost_ret (v := .agg #[.int .i64 2, .int .i64 at_, .string (S nt), .int .u32 nm, .slice p7 n7 c7]) (results_cell_row (fn := Tryd.f28) rfl _ _ w.heap.size 27 _ (0, 0) _ rfl hf9.1 Tryd.underlying27 rfl info_nd) rfl (hf9.2 _ rfl (by rw [HQ5.out]))
    refine AllReadyH.cons rfl (fun K hK => ?_) AllReadyH.nil
    · go_simp
      refine hK.out _ _ ⟨_, HN5.out.alloc _⟩ (fun hH3 => ?_)
      clear hK K
      (try simp only [Act.put, List.getElem_toArray, List.getElem_cons_zero, List.getElem_cons_succ, List.setIfInBounds_toArray, List.set_cons_zero, List.set_cons_succ])
      refine wpAnyH_ready (rs := [1]) (by kernel_rfl) (by simp) ?_
      refine AllReadyH.cons rfl (fun K hK => ?_) AllReadyH.nil
      have c4 := (HN5.out.alloc (.cells #[.int .i64 k5, .int .i64 a5, .string (S t5), .int .u32 v5, .slice sp5 sn5 sc5] 27)).cell (k := 4) rfl
      go_simp
      refine hK.out _ _ ⟨_, (HN5.out.alloc (.cells #[.int .i64 k5, .int .i64 a5, .string (S t5), .int .u32 v5, .slice sp5 sn5 sc5] 27))⟩ (fun hH6 => ?_)
      clear hK K c4
      (try simp only [Act.put, List.getElem_toArray, List.getElem_cons_zero, List.getElem_cons_succ, List.setIfInBounds_toArray, List.set_cons_zero, List.set_cons_succ])
      refine wpAnyH_ready (rs := [5]) (by kernel_rfl) (by simp) ?_
      refine AllReadyH.cons rfl (fun K hK => ?_) AllReadyH.nil
      rw [if_pos (by kernel_rfl)]
      have hkb := HK5.out.blk
      obtain ⟨xs, hown, hxl, hkk⟩ := HK5.out
      have hX1 := rep_one HT5.out
      refine wp_app (.tmp 26) (.tmp 29) rfl u.heap.size (Value.slice sp sn sc) _ _ rfl (hown.alloc (.cells #[.int .i64 k5, .int .i64 a5, .string (S t5), .int .u32 v5, .slice sp5 sn5 sc5] 27)) ⟨_, 0, none⟩ 1 [.int .i64 k5, .int .i64 a5, .string (S t5), .int .u32 v5, .slice sp5 sn5 sc5] rfl rfl (fun j u hj => ?_) (fun u hu => ?_) (by omega) (by simp; omega) ?_
      · match j, hj with
        | 0, hj => simp at hj; subst hj; simp [Addr.add]
        | 1, hj => simp at hj; subst hj; simp [Addr.add]
        | 2, hj => simp at hj; subst hj; simp [Addr.add]
        | 3, hj => simp at hj; subst hj; simp [Addr.add]
        | 4, hj => simp at hj; subst hj; simp [Addr.add]
      · simp at hu
        rcases hu with rfl | rfl | rfl | rfl | rfl
        · rfl
        · rfl
        · rfl
        · rfl
        · exact hX1
      intro v' w7 hown' hgrow hat
      have hat' : v'.ownBlock = (Value.slice sp sn sc).ownBlock ∨ v'.ownBlock = some (w5.heap.size + 1) := by
        rcases hat with e | e
        · exact .inl e
        · right; rw [e]; simp
      have HK7 := hide (KL.app (show u.heap.size ≤ w4.heap.size by omega) (fun j hj => (HSU.out j hj).2) HT5.out hxl hkk hown' hgrow hat')
      have hz7 := hgrow.size
      simp at hz7
      have hrow : ∀ j, (Value.slice sp sn sc).ownBlock = some j → u.heap.size ≤ j := fun j hj => (hkb j hj).1
      have HN7 : Hid (Bx w7 wn.heap.size 27 #[.int .i64 2, .int .i64 at_, .string (S nt), .int .u32 nm, .slice sp sn sc]) := hide ((hgrow.block _ (by have := HN5.out.lt; simp; omega) (fun e => by have := hrow _ e.symm; omega)).trans (HN5.out.alloc _))
      have HR7 := hide ((HR5.out.alloc (.cells #[.int .i64 k5, .int .i64 a5, .string (S t5), .int .u32 v5, .slice sp5 sn5 sc5] 27)).grown hgrow (fun e => by have := hrow _ e.symm; omega) (fun e => by have := hrow _ e.symm; omega))
      have HB7 := hide ((HB5.out.alloc (.cells #[.int .i64 k5, .int .i64 a5, .string (S t5), .int .u32 v5, .slice sp5 sn5 sc5] 27)).grown hgrow (fun j hj => by have := hrow j hj; omega))
      have HX7 : Hid (Bx w7 w.heap.size 27 #[.int .i64 0, .int .i64 0, .string ⟨#[]⟩, .int .u32 0, .slice none 0 0]) := hide ((hgrow.block _ (by have := HX5.out.lt; simp; omega) (fun e => by have := hrow _ e.symm; omega)).trans (HX5.out.alloc _))
      obtain ⟨p7, n7, c7, rfl⟩ := HK7.out.slice
      refine hK.out _ _ ⟨_, HN7.out⟩ (fun hH4 => ?_)
      clear hK K hown hxl hkk hown' hgrow hat hat' hX1
      (try simp only [Act.put, List.getElem_toArray, List.getElem_cons_zero, List.getElem_cons_succ, List.setIfInBounds_toArray, List.set_cons_zero, List.set_cons_succ])
      refine wpAnyH_take (i := 6) (v := ?_) rfl (by kernel_rfl) (by kernel_rfl) (by kernel_rfl) (fun _ _ _ h => h) (Or.inl ⟨by rfl, ?_⟩) (by assumption) ?_
      rotate_left
      · intro w hSw; (try dsimp only at hSw); go_simp; (try with_reducible rfl)
      (try simp only [Act.put, List.getElem_toArray, List.getElem_cons_zero, List.getElem_cons_succ, List.setIfInBounds_toArray, List.set_cons_zero, List.set_cons_succ])
      refine wpAnyH_ready (rs := [7]) (by kernel_rfl) (by simp) ?_
      refine AllReadyH.cons rfl (fun K hK => ?_) AllReadyH.nil
      have mc := HN7.out.cell (k := 4) rfl
      have mf := HN7.out.free
      go_simp
      have hn8 : Bx (w7.setCell ⟨wn.heap.size, 4, none⟩ (.slice p7 n7 c7)) wn.heap.size 27 #[.int .i64 2, .int .i64 at_, .string (S nt), .int .u32 nm, .slice p7 n7 c7] := HN7.out.set 4 (.slice p7 n7 c7)
      refine hK.out _ _ ⟨_, hn8⟩ (fun hH5 => ?_)
      clear hK K mc mf
      (try simp only [Act.put, List.getElem_toArray, List.getElem_cons_zero, List.getElem_cons_succ, List.setIfInBounds_toArray, List.set_cons_zero, List.set_cons_succ])
      refine wpAnyH_done (by kernel_rfl) ?_ _
      have HN8 := hide hn8
      have HR8 := hide (HR7.out.other (p := ⟨wn.heap.size, 4, none⟩) (.slice p7 n7 c7) (by dsimp only; omega) (by dsimp only; omega))
      have HB8 := hide (HB7.out.fresh (p := ⟨wn.heap.size, 4, none⟩) (by dsimp only; omega) (.slice p7 n7 c7))
      have HK8 := hide (HK7.out.other (p := ⟨wn.heap.size, 4, none⟩) (.slice p7 n7 c7) (by dsimp only; omega))
      have HX8 : Hid (Bx _ w.heap.size 27 #[.int .i64 0, .int .i64 0, .string ⟨#[]⟩, .int .u32 0, .slice none 0 0]) := hide (HX7.out.other (p := ⟨wn.heap.size, 4, none⟩) (.slice p7 n7 c7) (by dsimp only; omega))
      have hz8 : (w7.setCell ⟨wn.heap.size, 4, none⟩ (.slice p7 n7 c7)).heap.size = w7.heap.size := by simp [World.setCell]
      clear hn8 HN7 HR7 HB7 HK7 HN5 HR5 HB5 HK5 HT5 HX7 HX5
      generalize w7.setCell ⟨wn.heap.size, 4, none⟩ (.slice p7 n7 c7) = w8 at *
      have x0 := HX8.out.cell (k := 0) rfl
      have x1 := HX8.out.cell (k := 1) rfl
      have x2 := HX8.out.cell (k := 2) rfl
      have x3 := HX8.out.cell (k := 3) rfl
      have x4 := HX8.out.cell (k := 4) rfl
      have xl := HX8.out.lt
      have xf := HX8.out.free
      have p0 := HN8.out.cell (k := 0) rfl
      have p1 := HN8.out.cell (k := 1) rfl
      have p2 := HN8.out.cell (k := 2) rfl
      have p3 := HN8.out.cell (k := 3) rfl
      have p4 := HN8.out.cell (k := 4) rfl
      have pl := HN8.out.lt
      have pf := HN8.out.free
      go_wp2_with fail
      have hkr := HK8.out.rep 2 at_ nt nm
      unfold nC at hkr
      have hf9 := fin_put2 (b := b) (g := g) (c := c) (L := L) (w := w) HR8.out HB8.out HX8.out (Nat.le_refl _) (show w.heap.size < u.heap.size by omega) hkr hbz hgz
      exact bodyPost_ret (v := .agg #[.int .i64 2, .int .i64 at_, .string (S nt), .int .u32 nm, .slice p7 n7 c7]) (results_cell_row (fn := Tryd.f28) rfl _ _ w.heap.size 27 _ (0, 0) _ rfl hf9.1 Tryd.underlying27 rfl info_nd) rfl (hf9.2 _ rfl (by rw [HQ5.out]))

theorem function_any (hb : BC b g c L 1 (blS L 66)) (h : Rd w b g c L r) : Calls Tryd.prog 28 #[.pointer (some ⟨b, 0, none⟩)] w (NR b g c L w (fnF L r)) := by
  unfold fnF take
  dsimp only
  cases hx : fol L [101, 120, 112, 111, 114, 116] (nod r) with
  | true =>
    rw [if_pos rfl, if_pos rfl]
    exact fn_1 (blS L 66) hb h hx _ rfl
  | false =>
    rw [if_neg (by simp), if_neg (by simp)]
    exact fn_0 (blS L 66) hb h hx _ rfl

end
end Go.Proofs.YtimiglepogeeiaaDoor.Parse

