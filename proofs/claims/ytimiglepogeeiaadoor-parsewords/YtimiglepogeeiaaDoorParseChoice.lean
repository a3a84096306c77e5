/- The rest of an if: package parse's choice. A contract. -/
import Derived.Test.YtimiglepogeeiaaDoorParseGiven
import Derived.Deep.RegionHeld3
set_option linter.unusedVariables false
set_option linter.unusedSimpArgs false
set_option maxRecDepth 100000
namespace Go.Proofs.YtimiglepogeeiaaDoor.Parse
open Go.RowKit Go.Proofs.YtimiglepogeeiaaDoor.Lex

section
variable {b g c : Nat} {L : List T} {w : World} {r : R}

/-- A tree is stored into the box of what is told, wherever that box is. -/
theorem fin_put2 {b g c : Nat} {L : List T} {r : R} {u w w1 : World} {B : Nat} {y : Tr} {c0 c1 c2 c3 c4 v0 v1 v2 v3 v4 : Value} (hR : Rd w1 b g c L r) (hB : But b w w1) (hX : Bx w1 B 27 #[c0, c1, c2, c3, c4]) (hwB : w.heap.size ≤ B) (hu : B < u.heap.size)
    (hT : Rep w1 (Fr u w1) y #[v0, v1, v2, v3, v4]) (hbz : b < w.heap.size) (hgz : g < w.heap.size) :
    Bx (((((w1.setCell ⟨B, 0, none⟩ v0).setCell ⟨B, 1, none⟩ v1).setCell ⟨B, 2, none⟩ v2).setCell ⟨B, 3, none⟩ v3).setCell ⟨B, 4, none⟩ v4) B 27 #[v0, v1, v2, v3, v4] ∧
    ∀ q : R × Tr, q.1 = r → q.2 = y → NR b g c L w q (.returned (.agg #[v0, v1, v2, v3, v4])) (((((w1.setCell ⟨B, 0, none⟩ v0).setCell ⟨B, 1, none⟩ v1).setCell ⟨B, 2, none⟩ v2).setCell ⟨B, 3, none⟩ v3).setCell ⟨B, 4, none⟩ v4) := by
  refine ⟨Bx.put5 hX _ _ _ _ _, fun q h1 h2 => ?_⟩
  subst h1 h2
  have hO : But B w1 (((((w1.setCell ⟨B, 0, none⟩ v0).setCell ⟨B, 1, none⟩ v1).setCell ⟨B, 2, none⟩ v2).setCell ⟨B, 3, none⟩ v3).setCell ⟨B, 4, none⟩ v4) :=
    (((((But.refl B w1).set 0 v0).set 1 v1).set 2 v2).set 3 v3).set 4 v4
  refine ⟨_, rfl, Rd.put5 hR _ _ _ _ _ (by omega) (by omega), But.put5 hB hwB _ _ _ _ _, ?_⟩
  exact hT.kept hO.size (fun j hj => hO.block j hj.2 (fun e => by have := hj.1; omega)) (fun j hj => ⟨by have := hj.1; omega, Nat.lt_of_lt_of_le hj.2 hO.size⟩)

set_option maxHeartbeats 16000000 in
theorem choice_any (d : Int) (h1 : 0 ≤ d) (h7 : d ≤ 1000) (q bl : R → R × Tr) (hl : NC b g c L 91 d q) (hb : ∀ w r, Rd w b g c L r → (d ≤ 64 ∨ r.e ≠ 0) → Calls Tryd.prog 62 #[.pointer (some ⟨b, 0, none⟩), .int .i64 d] w (NR b g c L w (bl r)))
    (hbad : 64 < d → ∀ r, (q r).1.e ≠ 0) (hbm : ∀ r, Mv r (bl r).1) (at_ : Int) (h : Rd w b g c L r) :
    Calls Tryd.prog 92 #[.pointer (some ⟨b, 0, none⟩), .agg #[.int .i64 0, .int .i64 at_, .string (S []), .int .u32 0, .slice none 0 0], .int .i64 d] w (NR b g c L w ((chF q bl L r).1, .mk 11 at_ [] 0 (chF q bl L r).2)) := by
  have hbz := h.ltb
  have hgz := h.row.lt
  have HP : Hid (Bx (w.alloc (.cells #[.int .i64 0, .int .i64 at_, .string (S []), .int .u32 0, .slice none 0 0] 27)) w.heap.size 27 #[.int .i64 0, .int .i64 at_, .string (S []), .int .u32 0, .slice none 0 0]) := hide (Bx.newAt rfl)
  have hz0 : (w.alloc (.cells #[.int .i64 0, .int .i64 at_, .string (S []), .int .u32 0, .slice none 0 0] 27)).heap.size = w.heap.size + 1 := by simp
  have HRa := hide (h.alloc (.cells #[.int .i64 0, .int .i64 at_, .string (S []), .int .u32 0, .slice none 0 0] 27))
  generalize hwa : w.alloc (.cells #[.int .i64 0, .int .i64 at_, .string (S []), .int .u32 0, .slice none 0 0] 27) = wa at *
  have hBa : But b w wa := hwa ▸ (But.refl b w).alloc _
  have HX0 : Hid (Bx (wa.alloc (.cells #[.int .i64 0, .int .i64 0, .string ⟨#[]⟩, .int .u32 0, .slice none 0 0] 27)) (w.heap.size + 1) 27 #[.int .i64 0, .int .i64 0, .string ⟨#[]⟩, .int .u32 0, .slice none 0 0]) := hide (Bx.newAt hz0)
  have HP0 := hide (HP.out.alloc (.cells #[.int .i64 0, .int .i64 0, .string ⟨#[]⟩, .int .u32 0, .slice none 0 0] 27))
  have HB0 := hide (hBa.alloc (.cells #[.int .i64 0, .int .i64 0, .string ⟨#[]⟩, .int .u32 0, .slice none 0 0] 27))
  have hz1 : (wa.alloc (.cells #[.int .i64 0, .int .i64 0, .string ⟨#[]⟩, .int .u32 0, .slice none 0 0] 27)).heap.size = w.heap.size + 2 := by simp [hz0]
  have ho := hl _ r (HRa.out.alloc (.cells #[.int .i64 0, .int .i64 0, .string ⟨#[]⟩, .int .u32 0, .slice none 0 0] 27))
  generalize hw0 : wa.alloc (.cells #[.int .i64 0, .int .i64 0, .string ⟨#[]⟩, .int .u32 0, .slice none 0 0] 27) = w0 at *
  have HW0 := hide (hwa ▸ hw0)
  clear hBa HP HRa hwa hw0 h
  have hch : chF q bl L r = if fol L [101, 108, 115, 101] (bl (q r).1).1 then ((bl (adv (bl (q r).1).1)).1, [(q r).2, (bl (q r).1).2, (bl (adv (bl (q r).1).1)).2]) else ((bl (q r).1).1, [(q r).2, (bl (q r).1).2]) := rfl
  generalize hcc : chF q bl L r = cc at hch ⊢
  have HCH := hide hch
  clear hch hcc
  go_enter Tryd.func92, Tryd.ntmps92
  go_wp2_with fail
  rw [HW0.out]
  clear HW0
  refine ho.mono ?_
  intro e w1 hn
  obtain ⟨k, a, t, v, l, sp, sn, sc, hq, rfl, hR1, hB1, hT1⟩ := hn.parts
  have HQ := hide hq
  have HB1 := hide (HB0.out.trans hB1)
  have HX1 := hide (Bx.but HX0.out hB1 (by omega))
  have HP1 := hide (Bx.but HP0.out hB1 (by omega))
  have HT1 : Hid (Rep w1 (Fr w0 w1) (.mk k a t v l) #[.int .i64 k, .int .i64 a, .string (S t), .int .u32 v, .slice sp sn sc]) := hide hT1
  have hz2 := hB1.size
  have hE1 : d ≤ 64 ∨ (q r).1.e ≠ 0 := by
    by_cases hd : d ≤ 64
    · exact .inl hd
    · exact .inr (hbad (by omega) r)
  have hbk := hb w1 _ hR1 hE1
  clear ho hn hq hR1 hB1 hT1
  go_wp2_with fail
  refine hbk.mono ?_
  intro e w2 hn
  obtain ⟨k2, a2, t2, v2, l2, sp2, sn2, sc2, hq2, rfl, hR2, hB2, hT2⟩ := hn.parts
  have HQ2 := hide hq2
  have hz3 := hB2.size
  have HB2 := hide (HB1.out.trans hB2)
  have HR2 := hide hR2
  have HX2 := hide (Bx.but HX1.out hB2 (by omega))
  have HP2 := hide (Bx.but HP1.out hB2 (by omega))
  have HT2 : Hid (Rep w2 (Fr w1 w2) (.mk k2 a2 t2 v2 l2) #[.int .i64 k2, .int .i64 a2, .string (S t2), .int .u32 v2, .slice sp2 sn2 sc2]) := hide hT2
  have HT12 : Hid (Rep w2 (Fr w0 w1) (.mk k a t v l) #[.int .i64 k, .int .i64 a, .string (S t), .int .u32 v, .slice sp sn sc]) := hide (HT1.out.keep hB2 (Nat.le_refl _) (by omega))
  clear hbk hn hq2 hR2 hB2 hT2
  have p0 := HP2.out.cell (k := 0) rfl
  have p1 := HP2.out.cell (k := 1) rfl
  have p2 := HP2.out.cell (k := 2) rfl
  have p3 := HP2.out.cell (k := 3) rfl
  have p4 := HP2.out.cell (k := 4) rfl
  have pl := HP2.out.lt
  have pf := HP2.out.free
  go_wp2_with fail
  generalize hw3 : (((w2.setCell ⟨w.heap.size, 0, none⟩ (.int .i64 11)).setCell ⟨w.heap.size, 4, none⟩ (.slice (some ⟨w2.heap.size, 0, none⟩) 2 2)).alloc (.cells #[.int .i64 k, .int .i64 a, .string (S t), .int .u32 v, .slice sp sn sc, .int .i64 k2, .int .i64 a2, .string (S t2), .int .u32 v2, .slice sp2 sn2 sc2] 27)) = w3
  have HR3 : Hid (Rd w3 b g c L (bl (q r).1).1) := hide (hw3 ▸ (by repeat (first | with_reducible exact HR2.out | with_reducible refine Rd.alloc ?_ _ | with_reducible refine Rd.other ?_ _ (by first | omega | (dsimp only; omega)) (by first | omega | (dsimp only; omega)))))
  have HB3 : Hid (But b w w3) := hide (hw3 ▸ (by repeat (first | with_reducible exact HB2.out | with_reducible refine But.alloc ?_ _ | with_reducible refine But.fresh ?_ (by first | omega | (dsimp only; omega)) _)))
  have HX3 : Hid (Bx w3 (w.heap.size + 1) 27 #[.int .i64 0, .int .i64 0, .string ⟨#[]⟩, .int .u32 0, .slice none 0 0]) := hide (hw3 ▸ (by repeat (first | with_reducible exact HX2.out | with_reducible exact Bx.newAt (by first | rfl | (simp [World.setCell]; done)) | with_reducible refine Bx.alloc ?_ _ | with_reducible refine Bx.other ?_ _ (by first | omega | (dsimp only; omega)))))
  have hp3 := ((HP2.out.set 0 (.int .i64 11)).set 4 (.slice (some ⟨w2.heap.size, 0, none⟩) 2 2)).alloc (.cells #[.int .i64 k, .int .i64 a, .string (S t), .int .u32 v, .slice sp sn sc, .int .i64 k2, .int .i64 a2, .string (S t2), .int .u32 v2, .slice sp2 sn2 sc2] 27)
  rw [hw3] at hp3
  have HP3 : Hid (Bx w3 w.heap.size 27 #[.int .i64 11, .int .i64 at_, .string (S []), .int .u32 0, .slice (some ⟨w2.heap.size, 0, none⟩) 2 2]) := hide hp3
  have hs3 : w3.heap.size = w2.heap.size + 1 := by rw [← hw3]; simp [World.setCell]
  have HA3 : Hid (Bx w3 w2.heap.size 27 #[.int .i64 k, .int .i64 a, .string (S t), .int .u32 v, .slice sp sn sc, .int .i64 k2, .int .i64 a2, .string (S t2), .int .u32 v2, .slice sp2 sn2 sc2]) := hide (hw3 ▸ Bx.newAt (by simp [World.setCell]))
  have HT3 : Hid (Rep w3 (Fr w0 w1) (.mk k a t v l) #[.int .i64 k, .int .i64 a, .string (S t), .int .u32 v, .slice sp sn sc]) := hide (hw3 ▸ (by repeat (first | with_reducible exact HT12.out | with_reducible refine Rep.alloc ?_ (by first | omega | (dsimp only; omega) | (simp [World.setCell]; done) | (simp [World.setCell]; omega)) _ | with_reducible refine Rep.set ?_ (by first | omega | (dsimp only; omega)) _)))
  have HU3 : Hid (Rep w3 (Fr w1 w2) (.mk k2 a2 t2 v2 l2) #[.int .i64 k2, .int .i64 a2, .string (S t2), .int .u32 v2, .slice sp2 sn2 sc2]) := hide (hw3 ▸ (by repeat (first | with_reducible exact HT2.out | with_reducible refine Rep.alloc ?_ (by first | omega | (dsimp only; omega) | (simp [World.setCell]; done) | (simp [World.setCell]; omega)) _ | with_reducible refine Rep.set ?_ (by first | omega | (dsimp only; omega)) _)))
  clear HB2 HR2 HX2 HP2 HT2 HT12 hp3 hw3 p0 p1 p2 p3 p4 pl pf
  have htk := take_any HR3.out [101, 108, 115, 101] (by decide)
  have hs01 : w0.heap.size ≤ w1.heap.size := hz2
  have HK3 : Hid (KL w0 w3 [.mk k a t v l, .mk k2 a2 t2 v2 l2] (.slice (some ⟨w2.heap.size, 0, none⟩) 2 2)) := hide (by
    refine ⟨[#[.int .i64 k, .int .i64 a, .string (S t), .int .u32 v, .slice sp sn sc], #[.int .i64 k2, .int .i64 a2, .string (S t2), .int .u32 v2, .slice sp2 sn2 sc2]], ⟨rfl, .inr ⟨w2.heap.size, 2, _, rfl, by omega, HA3.out, Nat.le_refl _, by simp [maxLen], rfl, rfl⟩⟩, rfl, fun i y x hy hx => ?_⟩
    match i, hy, hx with
    | 0, hy, hx =>
      simp at hy hx
      subst hy hx
      exact HT3.out.kept (Nat.le_refl _) (fun _ _ => rfl) (fun j hj => ⟨⟨hj.1, by have := hj.2; omega⟩, by simp only [Value.ownBlock, ne_eq, Option.some.injEq]; have := hj.2; omega⟩)
    | 1, hy, hx =>
      simp at hy hx
      subst hy hx
      exact HU3.out.kept (Nat.le_refl _) (fun _ _ => rfl) (fun j hj => ⟨⟨by have := hj.1; omega, by have := hj.2; omega⟩, by simp only [Value.ownBlock, ne_eq, Option.some.injEq]; have := hj.2; omega⟩))
  unfold take at htk
  cases hf : fol L [101, 108, 115, 101] (bl (q r).1).1 with
  | false =>
    rw [hf, if_neg (by simp)] at htk
    have hcc := HCH.out
    rw [hf, if_neg (by simp)] at hcc
    refine htk.mono ?_
    rintro e w4 ⟨rfl, hR4, hB4⟩
    have HR4 := hide hR4
    have HB4 := hide (HB3.out.trans hB4)
    have HX4 := hide (Bx.but HX3.out hB4 (by omega))
    have HP4 := hide (Bx.but HP3.out hB4 (by omega))
    have HK4 := hide ((HK3.out.but hB4 (by omega)).rep 11 at_ [] 0)
    unfold nC at HK4
    have HC := hide hcc
    clear htk hR4 hB4 hcc
    have x0 := HX4.out.cell (k := 0) rfl
    have x1 := HX4.out.cell (k := 1) rfl
    have x2 := HX4.out.cell (k := 2) rfl
    have x3 := HX4.out.cell (k := 3) rfl
    have x4 := HX4.out.cell (k := 4) rfl
    have xl := HX4.out.lt
    have xf := HX4.out.free
    have p0 := HP4.out.cell (k := 0) rfl
    have p1 := HP4.out.cell (k := 1) rfl
    have p2 := HP4.out.cell (k := 2) rfl
    have p3 := HP4.out.cell (k := 3) rfl
    have p4 := HP4.out.cell (k := 4) rfl
    have pl := HP4.out.lt
    have pf := HP4.out.free
    go_wp2_with fail
    have hfin := fin_put2 (b := b) (g := g) (c := c) (L := L) (w := w) HR4.out HB4.out HX4.out (by omega) (by omega) HK4.out hbz hgz
    exact bodyPost_ret (v := .agg #[.int .i64 11, .int .i64 at_, .string (S []), .int .u32 0, .slice (some ⟨w2.heap.size, 0, none⟩) 2 2]) (results_cell_row (fn := Tryd.f92) rfl _ _ (w.heap.size + 1) 27 _ (0, 0) _ rfl hfin.1 Tryd.underlying27 rfl info_nd) rfl (hfin.2 _ (by rw [HC.out]) (by rw [HC.out, HQ.out, HQ2.out]))
  | true =>
    rw [hf, if_pos rfl] at htk
    have hcc := HCH.out
    rw [hf, if_pos rfl] at hcc
    have hE4 : d ≤ 64 ∨ (adv (bl (q r).1).1).e ≠ 0 := by
      rcases hE1 with h | h
      · exact .inl h
      · exact absurd (fol_e hf) ((hbm _).e h)
    refine htk.mono ?_
    rintro e w4 ⟨rfl, hR4, hB4⟩
    have hz4 := hB4.size
    have HR4 := hide hR4
    have HB4 := hide (HB3.out.trans hB4)
    have HX4 := hide (Bx.but HX3.out hB4 (by omega))
    have HN4 := hide (Bx.but HP3.out hB4 (by omega))
    have HK4 := hide (HK3.out.but hB4 (by omega))
    have HC := hide hcc
    have HCB := hide (hb w4.drew _ HR4.out.drew hE4)
    clear htk hR4 hB4 hcc hb hE4 hE1
    go_wp2_with fail
    refine wp_region_held_drew (S := fun w' => ∃ s0, Bx w' w.heap.size 27 #[.int .i64 11, .int .i64 at_, .string (S []), .int .u32 0, s0]) (by kernel_rfl) ⟨_, HN4.out⟩ (fun hH1 => ?_)
    refine wpAnyH_take (i := 0) (v := ?_) rfl (by kernel_rfl) (by kernel_rfl) (by kernel_rfl) (fun _ _ _ h => h) (Or.inl ⟨by rfl, ?_⟩) (by assumption) ?_
    rotate_left
    · intro w hSw; (try dsimp only at hSw); go_simp; (try with_reducible rfl)
    (try simp only [Act.put, List.getElem_toArray, List.getElem_cons_zero, List.setIfInBounds_toArray, List.set_cons_zero, List.set_cons_succ])
    refine wpAnyH_take (i := 2) (v := ?_) rfl (by kernel_rfl) (by kernel_rfl) (by kernel_rfl) (fun _ _ _ h => h) (Or.inl ⟨by rfl, ?_⟩) (by assumption) ?_
    rotate_left
    · intro w hSw; (try dsimp only at hSw); go_simp; (try with_reducible rfl)
    (try simp only [Act.put, List.getElem_toArray, List.getElem_cons_zero, List.getElem_cons_succ, List.setIfInBounds_toArray, List.set_cons_zero, List.set_cons_succ])
    refine wpAnyH_take (i := 3) (v := ?_) rfl (by kernel_rfl) (by kernel_rfl) (by kernel_rfl) (fun _ _ _ h => h) (Or.inl ⟨by rfl, ?_⟩) (by assumption) ?_
    rotate_left
    · intro w hSw; (try dsimp only at hSw); go_simp; (try with_reducible rfl)
    (try simp only [Act.put, List.getElem_toArray, List.getElem_cons_zero, List.getElem_cons_succ, List.setIfInBounds_toArray, List.set_cons_zero, List.set_cons_succ])
    refine wpAnyH_ready (rs := [1, 4]) (by kernel_rfl) (by simp) ?_
    refine AllReadyH.cons rfl (fun K hK => ?_) ?_
    · have c4 := HN4.out.cell (k := 4) rfl
      go_simp
      refine hK.out _ _ ⟨_, HN4.out⟩ (fun hH6 => ?_)
      clear hK K c4
      (try simp only [Act.put, List.getElem_toArray, List.getElem_cons_zero, List.getElem_cons_succ, List.setIfInBounds_toArray, List.set_cons_zero, List.set_cons_succ])
      refine wpAnyH_ready (rs := [4]) (by kernel_rfl) (by simp) ?_
      refine AllReadyH.cons rfl (fun K hK => ?_) AllReadyH.nil
      go_simp
      try rw [hw]
      with_reducible refine HCB.out.mono ?_
      intro e w5 hN
      obtain ⟨k5, a5, t5, v5, l5, sp5, sn5, sc5, hq5, rfl, hR5, hB5, hT5⟩ := hN.parts
      have hB45 : But b w4 w5 := ⟨hB5.os, hB5.tape, hB5.output, hB5.size, hB5.block⟩
      have hz5 := hB45.size
      have HQ5 := hide hq5
      have HR5 := hide hR5
      have HB5 := hide (HB4.out.trans hB45)
      have HN5 := hide (Bx.but HN4.out hB45 (by omega))
      have HK5 := hide (HK4.out.but hB45 (by omega))
      have HT5 : Hid (Rep w5 (Fr w4 w5) (.mk k5 a5 t5 v5 l5) #[.int .i64 k5, .int .i64 a5, .string (S t5), .int .u32 v5, .slice sp5 sn5 sc5]) := hide hT5
      have HX5 := hide (Bx.but HX4.out hB45 (by omega))
      have HSU := hide HK4.out.blk
      refine hK.out _ _ ⟨_, HN5.out⟩ (fun hH2 => ?_)
      clear hK K hN hq5 hR5 hB5 hB45 hT5
      (try simp only [Act.put, List.getElem_toArray, List.getElem_cons_zero, List.getElem_cons_succ, List.setIfInBounds_toArray, List.set_cons_zero, List.set_cons_succ])
      refine wpAnyH_ready (rs := [5]) (by kernel_rfl) (by simp) ?_
      refine AllReadyH.cons rfl (fun K hK => ?_) AllReadyH.nil
      go_simp
      refine hK.out _ _ ⟨_, HN5.out.alloc _⟩ (fun hH3 => ?_)
      clear hK K
      (try simp only [Act.put, List.getElem_toArray, List.getElem_cons_zero, List.getElem_cons_succ, List.setIfInBounds_toArray, List.set_cons_zero, List.set_cons_succ])
      refine wpAnyH_ready (rs := [6]) (by kernel_rfl) (by simp) ?_
      refine AllReadyH.cons rfl (fun K hK => ?_) AllReadyH.nil
      rw [if_pos (by kernel_rfl)]
      have hkb := HK5.out.blk
      obtain ⟨xs, hown, hxl, hkk⟩ := HK5.out
      have hX1 := rep_one HT5.out
      refine wp_app (.tmp 19) (.tmp 23) rfl w0.heap.size (Value.slice (some ⟨w2.heap.size, 0, none⟩) 2 2) _ _ rfl (hown.alloc (.cells #[.int .i64 k5, .int .i64 a5, .string (S t5), .int .u32 v5, .slice sp5 sn5 sc5] 27)) ⟨_, 0, none⟩ 1 [.int .i64 k5, .int .i64 a5, .string (S t5), .int .u32 v5, .slice sp5 sn5 sc5] rfl rfl (fun j u hj => ?_) (fun u hu => ?_) (by simp) (by simp; omega) ?_
      · match j, hj with
        | 0, hj => simp at hj; subst hj; simp [Addr.add]
        | 1, hj => simp at hj; subst hj; simp [Addr.add]
        | 2, hj => simp at hj; subst hj; simp [Addr.add]
        | 3, hj => simp at hj; subst hj; simp [Addr.add]
        | 4, hj => simp at hj; subst hj; simp [Addr.add]
      · simp at hu
        rcases hu with rfl | rfl | rfl | rfl | rfl
        · rfl
        · rfl
        · rfl
        · rfl
        · exact hX1
      intro v' w7 hown' hgrow hat
      have hat' : v'.ownBlock = (Value.slice (some ⟨w2.heap.size, 0, none⟩) 2 2).ownBlock ∨ v'.ownBlock = some (w5.heap.size + 1) := by
        rcases hat with e | e
        · exact .inl e
        · right; rw [e]; simp
      have HK7 := hide (KL.app (show w0.heap.size ≤ w4.heap.size by omega) (fun j hj => (HSU.out j hj).2) HT5.out hxl hkk hown' hgrow hat')
      have hz7 := hgrow.size
      simp at hz7
      have hrow : ∀ j, (Value.slice (some ⟨w2.heap.size, 0, none⟩) 2 2).ownBlock = some j → w0.heap.size ≤ j := fun j hj => (hkb j hj).1
      have HN7 : Hid (Bx w7 w.heap.size 27 #[.int .i64 11, .int .i64 at_, .string (S []), .int .u32 0, .slice (some ⟨w2.heap.size, 0, none⟩) 2 2]) := hide ((hgrow.block _ (by have := HN5.out.lt; simp; omega) (fun e => by have := hrow _ e.symm; omega)).trans (HN5.out.alloc _))
      have HR7 := hide ((HR5.out.alloc (.cells #[.int .i64 k5, .int .i64 a5, .string (S t5), .int .u32 v5, .slice sp5 sn5 sc5] 27)).grown hgrow (fun e => by have := hrow _ e.symm; omega) (fun e => by have := hrow _ e.symm; omega))
      have HB7 := hide ((HB5.out.alloc (.cells #[.int .i64 k5, .int .i64 a5, .string (S t5), .int .u32 v5, .slice sp5 sn5 sc5] 27)).grown hgrow (fun j hj => by have := hrow j hj; omega))
      have HX7 : Hid (Bx w7 (w.heap.size + 1) 27 #[.int .i64 0, .int .i64 0, .string ⟨#[]⟩, .int .u32 0, .slice none 0 0]) := hide ((hgrow.block _ (by have := HX5.out.lt; simp; omega) (fun e => by have := hrow _ e.symm; omega)).trans (HX5.out.alloc _))
      obtain ⟨p7, n7, c7, rfl⟩ := HK7.out.slice
      refine hK.out _ _ ⟨_, HN7.out⟩ (fun hH4 => ?_)
      clear hK K hown hxl hkk hown' hgrow hat hat' hX1
      (try simp only [Act.put, List.getElem_toArray, List.getElem_cons_zero, List.getElem_cons_succ, List.setIfInBounds_toArray, List.set_cons_zero, List.set_cons_succ])
      refine wpAnyH_take (i := 7) (v := ?_) rfl (by kernel_rfl) (by kernel_rfl) (by kernel_rfl) (fun _ _ _ h => h) (Or.inl ⟨by rfl, ?_⟩) (by assumption) ?_
      rotate_left
      · intro w hSw; (try dsimp only at hSw); go_simp; (try with_reducible rfl)
      (try simp only [Act.put, List.getElem_toArray, List.getElem_cons_zero, List.getElem_cons_succ, List.setIfInBounds_toArray, List.set_cons_zero, List.set_cons_succ])
      refine wpAnyH_ready (rs := [8]) (by kernel_rfl) (by simp) ?_
      refine AllReadyH.cons rfl (fun K hK => ?_) AllReadyH.nil
      have mc := HN7.out.cell (k := 4) rfl
      have mf := HN7.out.free
      go_simp
      have hn8 : Bx (w7.setCell ⟨w.heap.size, 4, none⟩ (.slice p7 n7 c7)) w.heap.size 27 #[.int .i64 11, .int .i64 at_, .string (S []), .int .u32 0, .slice p7 n7 c7] := HN7.out.set 4 (.slice p7 n7 c7)
      refine hK.out _ _ ⟨_, hn8⟩ (fun hH5 => ?_)
      clear hK K mc mf
      (try simp only [Act.put, List.getElem_toArray, List.getElem_cons_zero, List.getElem_cons_succ, List.setIfInBounds_toArray, List.set_cons_zero, List.set_cons_succ])
      refine wpAnyH_done (by kernel_rfl) ?_ _
      have HN8 := hide hn8
      have HR8 := hide (HR7.out.other (p := ⟨w.heap.size, 4, none⟩) (.slice p7 n7 c7) (by dsimp only; omega) (by dsimp only; omega))
      have HB8 := hide (HB7.out.fresh (p := ⟨w.heap.size, 4, none⟩) (by dsimp only; omega) (.slice p7 n7 c7))
      have HK8 := hide (HK7.out.other (p := ⟨w.heap.size, 4, none⟩) (.slice p7 n7 c7) (by dsimp only; omega))
      have HX8 : Hid (Bx _ (w.heap.size + 1) 27 #[.int .i64 0, .int .i64 0, .string ⟨#[]⟩, .int .u32 0, .slice none 0 0]) := hide (HX7.out.other (p := ⟨w.heap.size, 4, none⟩) (.slice p7 n7 c7) (by dsimp only; omega))
      have hz8 : (w7.setCell ⟨w.heap.size, 4, none⟩ (.slice p7 n7 c7)).heap.size = w7.heap.size := by simp [World.setCell]
      clear hn8 HN7 HR7 HB7 HK7 HN5 HR5 HB5 HK5 HT5 HX7 HX5
      generalize w7.setCell ⟨w.heap.size, 4, none⟩ (.slice p7 n7 c7) = w8 at *
      have x0 := HX8.out.cell (k := 0) rfl
      have x1 := HX8.out.cell (k := 1) rfl
      have x2 := HX8.out.cell (k := 2) rfl
      have x3 := HX8.out.cell (k := 3) rfl
      have x4 := HX8.out.cell (k := 4) rfl
      have xl := HX8.out.lt
      have xf := HX8.out.free
      have p0 := HN8.out.cell (k := 0) rfl
      have p1 := HN8.out.cell (k := 1) rfl
      have p2 := HN8.out.cell (k := 2) rfl
      have p3 := HN8.out.cell (k := 3) rfl
      have p4 := HN8.out.cell (k := 4) rfl
      have pl := HN8.out.lt
      have pf := HN8.out.free
      go_wp2_with fail
      have hkr := HK8.out.rep 11 at_ [] 0
      unfold nC at hkr
      have hfin := fin_put2 (b := b) (g := g) (c := c) (L := L) (w := w) HR8.out HB8.out HX8.out (by omega) (by omega) hkr hbz hgz
      exact bodyPost_ret (v := .agg #[.int .i64 11, .int .i64 at_, .string (S []), .int .u32 0, .slice p7 n7 c7]) (results_cell_row (fn := Tryd.f92) rfl _ _ (w.heap.size + 1) 27 _ (0, 0) _ rfl hfin.1 Tryd.underlying27 rfl info_nd) rfl (hfin.2 _ (by rw [HC.out]) (by rw [HC.out, HQ.out, HQ2.out, HQ5.out]; rfl))
    refine AllReadyH.cons rfl (fun K hK => ?_) AllReadyH.nil
    · go_simp
      try rw [hw]
      with_reducible refine HCB.out.mono ?_
      intro e w5 hN
      obtain ⟨k5, a5, t5, v5, l5, sp5, sn5, sc5, hq5, rfl, hR5, hB5, hT5⟩ := hN.parts
      have hB45 : But b w4 w5 := ⟨hB5.os, hB5.tape, hB5.output, hB5.size, hB5.block⟩
      have hz5 := hB45.size
      have HQ5 := hide hq5
      have HR5 := hide hR5
      have HB5 := hide (HB4.out.trans hB45)
      have HN5 := hide (Bx.but HN4.out hB45 (by omega))
      have HK5 := hide (HK4.out.but hB45 (by omega))
      have HT5 : Hid (Rep w5 (Fr w4 w5) (.mk k5 a5 t5 v5 l5) #[.int .i64 k5, .int .i64 a5, .string (S t5), .int .u32 v5, .slice sp5 sn5 sc5]) := hide hT5
      have HX5 := hide (Bx.but HX4.out hB45 (by omega))
      have HSU := hide HK4.out.blk
      refine hK.out _ _ ⟨_, HN5.out⟩ (fun hH2 => ?_)
      clear hK K hN hq5 hR5 hB5 hB45 hT5
      (try simp only [Act.put, List.getElem_toArray, List.getElem_cons_zero, List.getElem_cons_succ, List.setIfInBounds_toArray, List.set_cons_zero, List.set_cons_succ])
      refine wpAnyH_ready (rs := [1, 5]) (by kernel_rfl) (by simp) ?_
      refine AllReadyH.cons rfl (fun K hK => ?_) ?_
      · have c4 := HN5.out.cell (k := 4) rfl
        go_simp
        refine hK.out _ _ ⟨_, HN5.out⟩ (fun hH6 => ?_)
        clear hK K c4
        (try simp only [Act.put, List.getElem_toArray, List.getElem_cons_zero, List.getElem_cons_succ, List.setIfInBounds_toArray, List.set_cons_zero, List.set_cons_succ])
        refine wpAnyH_ready (rs := [5]) (by kernel_rfl) (by simp) ?_
        refine AllReadyH.cons rfl (fun K hK => ?_) AllReadyH.nil
        go_simp
        refine hK.out _ _ ⟨_, HN5.out.alloc _⟩ (fun hH3 => ?_)
        clear hK K
        (try simp only [Act.put, List.getElem_toArray, List.getElem_cons_zero, List.getElem_cons_succ, List.setIfInBounds_toArray, List.set_cons_zero, List.set_cons_succ])
        refine wpAnyH_ready (rs := [6]) (by kernel_rfl) (by simp) ?_
        refine AllReadyH.cons rfl (fun K hK => ?_) AllReadyH.nil
        rw [if_pos (by kernel_rfl)]
        have hkb := HK5.out.blk
        obtain ⟨xs, hown, hxl, hkk⟩ := HK5.out
        have hX1 := rep_one HT5.out
        refine wp_app (.tmp 19) (.tmp 23) rfl w0.heap.size (Value.slice (some ⟨w2.heap.size, 0, none⟩) 2 2) _ _ rfl (hown.alloc (.cells #[.int .i64 k5, .int .i64 a5, .string (S t5), .int .u32 v5, .slice sp5 sn5 sc5] 27)) ⟨_, 0, none⟩ 1 [.int .i64 k5, .int .i64 a5, .string (S t5), .int .u32 v5, .slice sp5 sn5 sc5] rfl rfl (fun j u hj => ?_) (fun u hu => ?_) (by simp) (by simp; omega) ?_
        · match j, hj with
          | 0, hj => simp at hj; subst hj; simp [Addr.add]
          | 1, hj => simp at hj; subst hj; simp [Addr.add]
          | 2, hj => simp at hj; subst hj; simp [Addr.add]
          | 3, hj => simp at hj; subst hj; simp [Addr.add]
          | 4, hj => simp at hj; subst hj; simp [Addr.add]
        · simp at hu
          rcases hu with rfl | rfl | rfl | rfl | rfl
          · rfl
          · rfl
          · rfl
          · rfl
          · exact hX1
        intro v' w7 hown' hgrow hat
        have hat' : v'.ownBlock = (Value.slice (some ⟨w2.heap.size, 0, none⟩) 2 2).ownBlock ∨ v'.ownBlock = some (w5.heap.size + 1) := by
          rcases hat with e | e
          · exact .inl e
          · right; rw [e]; simp
        have HK7 := hide (KL.app (show w0.heap.size ≤ w4.heap.size by omega) (fun j hj => (HSU.out j hj).2) HT5.out hxl hkk hown' hgrow hat')
        have hz7 := hgrow.size
        simp at hz7
        have hrow : ∀ j, (Value.slice (some ⟨w2.heap.size, 0, none⟩) 2 2).ownBlock = some j → w0.heap.size ≤ j := fun j hj => (hkb j hj).1
        have HN7 : Hid (Bx w7 w.heap.size 27 #[.int .i64 11, .int .i64 at_, .string (S []), .int .u32 0, .slice (some ⟨w2.heap.size, 0, none⟩) 2 2]) := hide ((hgrow.block _ (by have := HN5.out.lt; simp; omega) (fun e => by have := hrow _ e.symm; omega)).trans (HN5.out.alloc _))
        have HR7 := hide ((HR5.out.alloc (.cells #[.int .i64 k5, .int .i64 a5, .string (S t5), .int .u32 v5, .slice sp5 sn5 sc5] 27)).grown hgrow (fun e => by have := hrow _ e.symm; omega) (fun e => by have := hrow _ e.symm; omega))
        have HB7 := hide ((HB5.out.alloc (.cells #[.int .i64 k5, .int .i64 a5, .string (S t5), .int .u32 v5, .slice sp5 sn5 sc5] 27)).grown hgrow (fun j hj => by have := hrow j hj; omega))
        have HX7 : Hid (Bx w7 (w.heap.size + 1) 27 #[.int .i64 0, .int .i64 0, .string ⟨#[]⟩, .int .u32 0, .slice none 0 0]) := hide ((hgrow.block _ (by have := HX5.out.lt; simp; omega) (fun e => by have := hrow _ e.symm; omega)).trans (HX5.out.alloc _))
        obtain ⟨p7, n7, c7, rfl⟩ := HK7.out.slice
        refine hK.out _ _ ⟨_, HN7.out⟩ (fun hH4 => ?_)
        clear hK K hown hxl hkk hown' hgrow hat hat' hX1
        (try simp only [Act.put, List.getElem_toArray, List.getElem_cons_zero, List.getElem_cons_succ, List.setIfInBounds_toArray, List.set_cons_zero, List.set_cons_succ])
        refine wpAnyH_take (i := 7) (v := ?_) rfl (by kernel_rfl) (by kernel_rfl) (by kernel_rfl) (fun _ _ _ h => h) (Or.inl ⟨by rfl, ?_⟩) (by assumption) ?_
        rotate_left
        · intro w hSw; (try dsimp only at hSw); go_simp; (try with_reducible rfl)
        (try simp only [Act.put, List.getElem_toArray, List.getElem_cons_zero, List.getElem_cons_succ, List.setIfInBounds_toArray, List.set_cons_zero, List.set_cons_succ])
        refine wpAnyH_ready (rs := [8]) (by kernel_rfl) (by simp) ?_
        refine AllReadyH.cons rfl (fun K hK => ?_) AllReadyH.nil
        have mc := HN7.out.cell (k := 4) rfl
        have mf := HN7.out.free
        go_simp
        have hn8 : Bx (w7.setCell ⟨w.heap.size, 4, none⟩ (.slice p7 n7 c7)) w.heap.size 27 #[.int .i64 11, .int .i64 at_, .string (S []), .int .u32 0, .slice p7 n7 c7] := HN7.out.set 4 (.slice p7 n7 c7)
        refine hK.out _ _ ⟨_, hn8⟩ (fun hH5 => ?_)
        clear hK K mc mf
        (try simp only [Act.put, List.getElem_toArray, List.getElem_cons_zero, List.getElem_cons_succ, List.setIfInBounds_toArray, List.set_cons_zero, List.set_cons_succ])
        refine wpAnyH_done (by kernel_rfl) ?_ _
        have HN8 := hide hn8
        have HR8 := hide (HR7.out.other (p := ⟨w.heap.size, 4, none⟩) (.slice p7 n7 c7) (by dsimp only; omega) (by dsimp only; omega))
        have HB8 := hide (HB7.out.fresh (p := ⟨w.heap.size, 4, none⟩) (by dsimp only; omega) (.slice p7 n7 c7))
        have HK8 := hide (HK7.out.other (p := ⟨w.heap.size, 4, none⟩) (.slice p7 n7 c7) (by dsimp only; omega))
        have HX8 : Hid (Bx _ (w.heap.size + 1) 27 #[.int .i64 0, .int .i64 0, .string ⟨#[]⟩, .int .u32 0, .slice none 0 0]) := hide (HX7.out.other (p := ⟨w.heap.size, 4, none⟩) (.slice p7 n7 c7) (by dsimp only; omega))
        have hz8 : (w7.setCell ⟨w.heap.size, 4, none⟩ (.slice p7 n7 c7)).heap.size = w7.heap.size := by simp [World.setCell]
        clear hn8 HN7 HR7 HB7 HK7 HN5 HR5 HB5 HK5 HT5 HX7 HX5
        generalize w7.setCell ⟨w.heap.size, 4, none⟩ (.slice p7 n7 c7) = w8 at *
        have x0 := HX8.out.cell (k := 0) rfl
        have x1 := HX8.out.cell (k := 1) rfl
        have x2 := HX8.out.cell (k := 2) rfl
        have x3 := HX8.out.cell (k := 3) rfl
        have x4 := HX8.out.cell (k := 4) rfl
        have xl := HX8.out.lt
        have xf := HX8.out.free
        have p0 := HN8.out.cell (k := 0) rfl
        have p1 := HN8.out.cell (k := 1) rfl
        have p2 := HN8.out.cell (k := 2) rfl
        have p3 := HN8.out.cell (k := 3) rfl
        have p4 := HN8.out.cell (k := 4) rfl
        have pl := HN8.out.lt
        have pf := HN8.out.free
        go_wp2_with fail
        have hkr := HK8.out.rep 11 at_ [] 0
        unfold nC at hkr
        have hfin := fin_put2 (b := b) (g := g) (c := c) (L := L) (w := w) HR8.out HB8.out HX8.out (by omega) (by omega) hkr hbz hgz
        exact bodyPost_ret (v := .agg #[.int .i64 11, .int .i64 at_, .string (S []), .int .u32 0, .slice p7 n7 c7]) (results_cell_row (fn := Tryd.f92) rfl _ _ (w.heap.size + 1) 27 _ (0, 0) _ rfl hfin.1 Tryd.underlying27 rfl info_nd) rfl (hfin.2 _ (by rw [HC.out]) (by rw [HC.out, HQ.out, HQ2.out, HQ5.out]; rfl))
      refine AllReadyH.cons rfl (fun K hK => ?_) AllReadyH.nil
      · go_simp
        refine hK.out _ _ ⟨_, HN5.out.alloc _⟩ (fun hH3 => ?_)
        clear hK K
        (try simp only [Act.put, List.getElem_toArray, List.getElem_cons_zero, List.getElem_cons_succ, List.setIfInBounds_toArray, List.set_cons_zero, List.set_cons_succ])
        refine wpAnyH_ready (rs := [1]) (by kernel_rfl) (by simp) ?_
        refine AllReadyH.cons rfl (fun K hK => ?_) AllReadyH.nil
        have c4 := (HN5.out.alloc (.cells #[.int .i64 k5, .int .i64 a5, .string (S t5), .int .u32 v5, .slice sp5 sn5 sc5] 27)).cell (k := 4) rfl
        go_simp
        refine hK.out _ _ ⟨_, (HN5.out.alloc (.cells #[.int .i64 k5, .int .i64 a5, .string (S t5), .int .u32 v5, .slice sp5 sn5 sc5] 27))⟩ (fun hH6 => ?_)
        clear hK K c4
        (try simp only [Act.put, List.getElem_toArray, List.getElem_cons_zero, List.getElem_cons_succ, List.setIfInBounds_toArray, List.set_cons_zero, List.set_cons_succ])
        refine wpAnyH_ready (rs := [6]) (by kernel_rfl) (by simp) ?_
        refine AllReadyH.cons rfl (fun K hK => ?_) AllReadyH.nil
        rw [if_pos (by kernel_rfl)]
        have hkb := HK5.out.blk
        obtain ⟨xs, hown, hxl, hkk⟩ := HK5.out
        have hX1 := rep_one HT5.out
        refine wp_app (.tmp 19) (.tmp 23) rfl w0.heap.size (Value.slice (some ⟨w2.heap.size, 0, none⟩) 2 2) _ _ rfl (hown.alloc (.cells #[.int .i64 k5, .int .i64 a5, .string (S t5), .int .u32 v5, .slice sp5 sn5 sc5] 27)) ⟨_, 0, none⟩ 1 [.int .i64 k5, .int .i64 a5, .string (S t5), .int .u32 v5, .slice sp5 sn5 sc5] rfl rfl (fun j u hj => ?_) (fun u hu => ?_) (by simp) (by simp; omega) ?_
        · match j, hj with
          | 0, hj => simp at hj; subst hj; simp [Addr.add]
          | 1, hj => simp at hj; subst hj; simp [Addr.add]
          | 2, hj => simp at hj; subst hj; simp [Addr.add]
          | 3, hj => simp at hj; subst hj; simp [Addr.add]
          | 4, hj => simp at hj; subst hj; simp [Addr.add]
        · simp at hu
          rcases hu with rfl | rfl | rfl | rfl | rfl
          · rfl
          · rfl
          · rfl
          · rfl
          · exact hX1
        intro v' w7 hown' hgrow hat
        have hat' : v'.ownBlock = (Value.slice (some ⟨w2.heap.size, 0, none⟩) 2 2).ownBlock ∨ v'.ownBlock = some (w5.heap.size + 1) := by
          rcases hat with e | e
          · exact .inl e
          · right; rw [e]; simp
        have HK7 := hide (KL.app (show w0.heap.size ≤ w4.heap.size by omega) (fun j hj => (HSU.out j hj).2) HT5.out hxl hkk hown' hgrow hat')
        have hz7 := hgrow.size
        simp at hz7
        have hrow : ∀ j, (Value.slice (some ⟨w2.heap.size, 0, none⟩) 2 2).ownBlock = some j → w0.heap.size ≤ j := fun j hj => (hkb j hj).1
        have HN7 : Hid (Bx w7 w.heap.size 27 #[.int .i64 11, .int .i64 at_, .string (S []), .int .u32 0, .slice (some ⟨w2.heap.size, 0, none⟩) 2 2]) := hide ((hgrow.block _ (by have := HN5.out.lt; simp; omega) (fun e => by have := hrow _ e.symm; omega)).trans (HN5.out.alloc _))
        have HR7 := hide ((HR5.out.alloc (.cells #[.int .i64 k5, .int .i64 a5, .string (S t5), .int .u32 v5, .slice sp5 sn5 sc5] 27)).grown hgrow (fun e => by have := hrow _ e.symm; omega) (fun e => by have := hrow _ e.symm; omega))
        have HB7 := hide ((HB5.out.alloc (.cells #[.int .i64 k5, .int .i64 a5, .string (S t5), .int .u32 v5, .slice sp5 sn5 sc5] 27)).grown hgrow (fun j hj => by have := hrow j hj; omega))
        have HX7 : Hid (Bx w7 (w.heap.size + 1) 27 #[.int .i64 0, .int .i64 0, .string ⟨#[]⟩, .int .u32 0, .slice none 0 0]) := hide ((hgrow.block _ (by have := HX5.out.lt; simp; omega) (fun e => by have := hrow _ e.symm; omega)).trans (HX5.out.alloc _))
        obtain ⟨p7, n7, c7, rfl⟩ := HK7.out.slice
        refine hK.out _ _ ⟨_, HN7.out⟩ (fun hH4 => ?_)
        clear hK K hown hxl hkk hown' hgrow hat hat' hX1
        (try simp only [Act.put, List.getElem_toArray, List.getElem_cons_zero, List.getElem_cons_succ, List.setIfInBounds_toArray, List.set_cons_zero, List.set_cons_succ])
        refine wpAnyH_take (i := 7) (v := ?_) rfl (by kernel_rfl) (by kernel_rfl) (by kernel_rfl) (fun _ _ _ h => h) (Or.inl ⟨by rfl, ?_⟩) (by assumption) ?_
        rotate_left
        · intro w hSw; (try dsimp only at hSw); go_simp; (try with_reducible rfl)
        (try simp only [Act.put, List.getElem_toArray, List.getElem_cons_zero, List.getElem_cons_succ, List.setIfInBounds_toArray, List.set_cons_zero, List.set_cons_succ])
        refine wpAnyH_ready (rs := [8]) (by kernel_rfl) (by simp) ?_
        refine AllReadyH.cons rfl (fun K hK => ?_) AllReadyH.nil
        have mc := HN7.out.cell (k := 4) rfl
        have mf := HN7.out.free
        go_simp
        have hn8 : Bx (w7.setCell ⟨w.heap.size, 4, none⟩ (.slice p7 n7 c7)) w.heap.size 27 #[.int .i64 11, .int .i64 at_, .string (S []), .int .u32 0, .slice p7 n7 c7] := HN7.out.set 4 (.slice p7 n7 c7)
        refine hK.out _ _ ⟨_, hn8⟩ (fun hH5 => ?_)
        clear hK K mc mf
        (try simp only [Act.put, List.getElem_toArray, List.getElem_cons_zero, List.getElem_cons_succ, List.setIfInBounds_toArray, List.set_cons_zero, List.set_cons_succ])
        refine wpAnyH_done (by kernel_rfl) ?_ _
        have HN8 := hide hn8
        have HR8 := hide (HR7.out.other (p := ⟨w.heap.size, 4, none⟩) (.slice p7 n7 c7) (by dsimp only; omega) (by dsimp only; omega))
        have HB8 := hide (HB7.out.fresh (p := ⟨w.heap.size, 4, none⟩) (by dsimp only; omega) (.slice p7 n7 c7))
        have HK8 := hide (HK7.out.other (p := ⟨w.heap.size, 4, none⟩) (.slice p7 n7 c7) (by dsimp only; omega))
        have HX8 : Hid (Bx _ (w.heap.size + 1) 27 #[.int .i64 0, .int .i64 0, .string ⟨#[]⟩, .int .u32 0, .slice none 0 0]) := hide (HX7.out.other (p := ⟨w.heap.size, 4, none⟩) (.slice p7 n7 c7) (by dsimp only; omega))
        have hz8 : (w7.setCell ⟨w.heap.size, 4, none⟩ (.slice p7 n7 c7)).heap.size = w7.heap.size := by simp [World.setCell]
        clear hn8 HN7 HR7 HB7 HK7 HN5 HR5 HB5 HK5 HT5 HX7 HX5
        generalize w7.setCell ⟨w.heap.size, 4, none⟩ (.slice p7 n7 c7) = w8 at *
        have x0 := HX8.out.cell (k := 0) rfl
        have x1 := HX8.out.cell (k := 1) rfl
        have x2 := HX8.out.cell (k := 2) rfl
        have x3 := HX8.out.cell (k := 3) rfl
        have x4 := HX8.out.cell (k := 4) rfl
        have xl := HX8.out.lt
        have xf := HX8.out.free
        have p0 := HN8.out.cell (k := 0) rfl
        have p1 := HN8.out.cell (k := 1) rfl
        have p2 := HN8.out.cell (k := 2) rfl
        have p3 := HN8.out.cell (k := 3) rfl
        have p4 := HN8.out.cell (k := 4) rfl
        have pl := HN8.out.lt
        have pf := HN8.out.free
        go_wp2_with fail
        have hkr := HK8.out.rep 11 at_ [] 0
        unfold nC at hkr
        have hfin := fin_put2 (b := b) (g := g) (c := c) (L := L) (w := w) HR8.out HB8.out HX8.out (by omega) (by omega) hkr hbz hgz
        exact bodyPost_ret (v := .agg #[.int .i64 11, .int .i64 at_, .string (S []), .int .u32 0, .slice p7 n7 c7]) (results_cell_row (fn := Tryd.f92) rfl _ _ (w.heap.size + 1) 27 _ (0, 0) _ rfl hfin.1 Tryd.underlying27 rfl info_nd) rfl (hfin.2 _ (by rw [HC.out]) (by rw [HC.out, HQ.out, HQ2.out, HQ5.out]; rfl))
end
end Go.Proofs.YtimiglepogeeiaaDoor.Parse

