/- A program: package parse's program. A contract. -/
import Derived.Test.YtimiglepogeeiaaDoorParseFunc
set_option linter.unusedVariables false
set_option linter.unusedSimpArgs false
set_option maxRecDepth 100000
namespace Go.Proofs.YtimiglepogeeiaaDoor.Parse
open Go.RowKit Go.Proofs.YtimiglepogeeiaaDoor.Lex

section
variable {b g c : Nat} {L : List T}

theorem prL_succ (L : List T) (m : Nat) (r : R) (l : List Tr) : prL L (m + 1) r l = if r.e = 0 ∧ (tk L r).k ≠ 4 then prL L m (fnF L r).1 (l ++ [(fnF L r).2]) else (r, l) := rfl

/-- Where program's rounds stand. -/
structure PgR (b g c : Nat) (L : List T) (at_ : Int) (w u : World) (B : Nat) (q : R × List Tr) (wr : World) (r : R) (l : List Tr) (p : Option Addr) (n cc m : Nat) : Prop where
  rd : Rd wr b g c L r
  but : But b w wr
  x0 : Bx wr w.heap.size 27 #[.int .i64 0, .int .i64 0, .string ⟨#[]⟩, .int .u32 0, .slice none 0 0]
  x1 : Bx wr B 27 #[.int .i64 1, .int .i64 at_, .string (S []), .int .u32 0, .slice p n cc]
  kl : KL u wr l (.slice p n cc)
  len : l.length ≤ r.i + (if r.e = 0 then 0 else 1)
  fuel : L.length - r.i + (if r.e = 0 then 1 else 0) < m
  us : u.heap.size ≤ wr.heap.size
  eq : q = prL L m r l

set_option maxHeartbeats 16000000 in
theorem program_any (hfn : Hid (∀ w r, Rd w b g c L r → Calls Tryd.prog 28 #[.pointer (some ⟨b, 0, none⟩)] w (NR b g c L w (fnF L r)))) (w : World) (r : R) (h : Rd w b g c L r) : Calls Tryd.prog 19 #[.pointer (some ⟨b, 0, none⟩)] w (NR b g c L w (prF L r)) := by
  have hbz := h.ltb
  have hgz := h.row.lt
  have hw : (0 : Int) = 0 := rfl
  have HB := hide (But.refl b w)
  have HX0 : Hid (Bx (w.alloc (.cells #[.int .i64 0, .int .i64 0, .string ⟨#[]⟩, .int .u32 0, .slice none 0 0] 27)) w.heap.size 27 #[.int .i64 0, .int .i64 0, .string ⟨#[]⟩, .int .u32 0, .slice none 0 0]) := hide (Bx.newAt rfl)
  have hu : w.heap.size < (w.alloc (.cells #[.int .i64 0, .int .i64 0, .string ⟨#[]⟩, .int .u32 0, .slice none 0 0] 27)).heap.size := by simp
  have ho := node_any (h.alloc (.cells #[.int .i64 0, .int .i64 0, .string ⟨#[]⟩, .int .u32 0, .slice none 0 0] 27)) 1
  unfold nC at ho
  have hbk : prF L r = ((prL L (L.length + 2) (nod r) []).1, .mk 1 (tk L r).a [] 0 (prL L (L.length + 2) (nod r) []).2) := rfl
  generalize prF L r = cc at hbk ⊢
  generalize (tk L r).a = at_ at *
  generalize nod r = r2 at *
  generalize hqq : prL L (L.length + 2) r2 [] = q at *
  have HCC := hide hbk
  have HQQ := hide hqq
  clear h hbk hqq
  go_enter Tryd.func19, Tryd.ntmps19
  go_wp2_with fail
  refine ho.mono ?_
  rintro e wn ⟨rfl, hRn, hBn⟩
  have hzn := hBn.size
  have HI : Hid (PgR b g c L at_ w (wn.alloc (.cells #[.int .i64 1, .int .i64 at_, .string (S []), .int .u32 0, .slice none 0 0] 27)) wn.heap.size q (wn.alloc (.cells #[.int .i64 1, .int .i64 at_, .string (S []), .int .u32 0, .slice none 0 0] 27)) r2 [] none 0 0 (L.length + 2)) :=
    hide ⟨hRn.alloc _, (But.trans (by repeat (first | with_reducible exact HB.out | with_reducible refine But.alloc ?_ _ | with_reducible refine But.fresh ?_ (by first | omega | (dsimp only; omega)) _)) hBn).alloc _, (Bx.but HX0.out hBn (by omega)).alloc _, Bx.newAt rfl, KL.nil _ _, Nat.zero_le _, by have := hRn.lt; split <;> omega, Nat.le_refl _, HQQ.out.symm⟩
  have hB1 : w.heap.size < wn.heap.size := by omega
  have hBU : wn.heap.size < (wn.alloc (.cells #[.int .i64 1, .int .i64 at_, .string (S []), .int .u32 0, .slice none 0 0] 27)).heap.size := by simp
  clear ho hRn hBn HX0 HB HQQ
  go_wp2_with fail
  generalize wn.alloc (.cells #[.int .i64 1, .int .i64 at_, .string (S []), .int .u32 0, .slice none 0 0] 27) = u at *
  generalize wn.heap.size = B1 at *
  go_loopw [] (fun wr => ∃ r' ls p n cc m, PgR b g c L at_ w u B1 q wr r' ls p n cc m) (fun wr => mea b wr)
  case atStart => exact ⟨r2, [], _, _, _, _, HI.out⟩
  case round =>
    obtain ⟨r', ls, p, n, c9, m, hI⟩ := hrel
    have HI := hide hI
    have hm := hI.fuel
    have heq := hI.eq
    match m, hm, heq, HI with
    | m + 1, hm, heq, HI =>
    have HEQ := hide (heq.trans (prL_succ L m r' ls))
    have hc2 := hI.rd.c2
    have hlen := hI.len
    have hilt := hI.rd.lt
    have hisz := hI.rd.sz
    have hnx := next_any hI.rd
    clear hI heq
    by_cases he : r'.e = 0
    · rw [he] at hc2
      have HE := hide he
      have hmz := HI.out.us
      by_cases hk : (tk L r').k = 4
      · rw [if_neg (fun hh => hh.2 hk)] at HEQ
        generalize tk L r' = tt at hnx hk
        obtain ⟨tk_, ta, tx, tv⟩ := tt
        simp only [tA] at hnx hk
        subst hk
        have f0 := fk0 4 ta tv (S tx)
        go_wp2_with fail
        refine hnx.mono ?_
        rintro e w4 ⟨rfl, hb4⟩
        have hz4 := hb4.size
        have HR4 := hide (HI.out.rd.kept hb4)
        have HB4 := hide (HI.out.but.trans (But.of_below hb4))
        have HX4 := hide (HI.out.x0.below hb4)
        have HN4 := hide (HI.out.x1.below hb4)
        have HK4 := hide (HI.out.kl.kept hb4)
        clear hnx hb4 hc2
        have x0 := HX4.out.cell (k := 0) rfl
        have x1 := HX4.out.cell (k := 1) rfl
        have x2 := HX4.out.cell (k := 2) rfl
        have x3 := HX4.out.cell (k := 3) rfl
        have x4 := HX4.out.cell (k := 4) rfl
        have xl := HX4.out.lt
        have xf := HX4.out.free
        have p0 := HN4.out.cell (k := 0) rfl
        have p1 := HN4.out.cell (k := 1) rfl
        have p2 := HN4.out.cell (k := 2) rfl
        have p3 := HN4.out.cell (k := 3) rfl
        have p4 := HN4.out.cell (k := 4) rfl
        have pl := HN4.out.lt
        have pf := HN4.out.free
        go_wp2_with fail
        have hkr := HK4.out.rep 1 at_ [] 0
        unfold nC at hkr
        have hf9 := fin_put2 (b := b) (g := g) (c := c) (L := L) (w := w) HR4.out HB4.out HX4.out (Nat.le_refl _) (by omega) hkr hbz hgz
        exact bodyPost_ret (v := .agg #[.int .i64 1, .int .i64 at_, .string (S []), .int .u32 0, .slice p n c9]) (results_cell_row (fn := Tryd.f19) rfl _ _ w.heap.size 27 _ (0, 0) _ rfl hf9.1 Tryd.underlying27 rfl info_nd) rfl (hf9.2 _ (by rw [HCC.out, HEQ.out]) (by rw [HCC.out, HEQ.out]))
      · rw [if_pos ⟨he, hk⟩] at HEQ
        have hkf : ((tk L r').k != 4) = true := by simpa using hk
        generalize tk L r' = tt at hnx hkf
        obtain ⟨tk_, ta, tx, tv⟩ := tt
        simp only [tA] at hnx hkf
        have f0 := fk0 tk_ ta tv (S tx)
        clear hk
        go_wp2_with fail
        refine hnx.mono ?_
        rintro e w4 ⟨rfl, hb4⟩
        have hz4 := hb4.size
        have HR4 := hide (HI.out.rd.kept hb4)
        have HB4 := hide (HI.out.but.trans (But.of_below hb4))
        have HX4 := hide (HI.out.x0.below hb4)
        have HN4 := hide (HI.out.x1.below hb4)
        have HK4 := hide (HI.out.kl.kept hb4)
        have HCB := hide (hfn.out w4.drew _ HR4.out.drew)
        have HMO := hide (fnF_mo L r')
        rw [if_pos HE.out] at hlen hm
        clear hnx hb4 hc2
        go_wp2_with fail
        refine wp_region_held_drew (S := fun w' => ∃ s0, Bx w' B1 27 #[.int .i64 1, .int .i64 at_, .string (S []), .int .u32 0, s0]) (by kernel_rfl) ⟨_, HN4.out⟩ (fun hH1 => ?_)
        refine wpAnyH_take (i := 0) (v := ?_) rfl (by kernel_rfl) (by kernel_rfl) (by kernel_rfl) (fun _ _ _ h => h) (Or.inl ⟨by rfl, ?_⟩) (by assumption) ?_
        rotate_left
        · intro w hSw; (try dsimp only at hSw); go_simp; (try with_reducible rfl)
        (try simp only [Act.put, List.getElem_toArray, List.getElem_cons_zero, List.setIfInBounds_toArray, List.set_cons_zero, List.set_cons_succ])
        refine wpAnyH_take (i := 2) (v := ?_) rfl (by kernel_rfl) (by kernel_rfl) (by kernel_rfl) (fun _ _ _ h => h) (Or.inl ⟨by rfl, ?_⟩) (by assumption) ?_
        rotate_left
        · intro w hSw; (try dsimp only at hSw); go_simp; (try with_reducible rfl)
        (try simp only [Act.put, List.getElem_toArray, List.getElem_cons_zero, List.getElem_cons_succ, List.setIfInBounds_toArray, List.set_cons_zero, List.set_cons_succ])
        refine wpAnyH_ready (rs := [1, 3]) (by kernel_rfl) (by simp) ?_
        refine AllReadyH.cons rfl (fun K hK => ?_) ?_
        · have c4 := HN4.out.cell (k := 4) rfl
          go_simp
          refine hK.out _ _ ⟨_, HN4.out⟩ (fun hH6 => ?_)
          clear hK K c4
          (try simp only [Act.put, List.getElem_toArray, List.getElem_cons_zero, List.getElem_cons_succ, List.setIfInBounds_toArray, List.set_cons_zero, List.set_cons_succ])
          refine wpAnyH_ready (rs := [3]) (by kernel_rfl) (by simp) ?_
          refine AllReadyH.cons rfl (fun K hK => ?_) AllReadyH.nil
          go_simp
          try rw [hw]
          with_reducible refine HCB.out.mono ?_
          intro e w5 hN
          obtain ⟨k5, a5, t5, v5, l5, sp5, sn5, sc5, hq5, rfl, hR5, hB5, hT5⟩ := hN.parts
          have hB45 : But b w4 w5 := ⟨hB5.os, hB5.tape, hB5.output, hB5.size, hB5.block⟩
          have hz5 := hB45.size
          have HQ5 := hide hq5
          have HR5 := hide hR5
          have HB5 := hide (HB4.out.trans hB45)
          have HN5 := hide (Bx.but HN4.out hB45 (by omega))
          have HK5 := hide (HK4.out.but hB45 (by omega))
          have HT5 : Hid (Rep w5 (Fr w4 w5) (.mk k5 a5 t5 v5 l5) #[.int .i64 k5, .int .i64 a5, .string (S t5), .int .u32 v5, .slice sp5 sn5 sc5]) := hide hT5
          have HX5 := hide (Bx.but HX4.out hB45 (by omega))
          have HSU := hide HK4.out.blk
          refine hK.out _ _ ⟨_, HN5.out⟩ (fun hH2 => ?_)
          clear hK K hN hq5 hR5 hB5 hB45 hT5
          (try simp only [Act.put, List.getElem_toArray, List.getElem_cons_zero, List.getElem_cons_succ, List.setIfInBounds_toArray, List.set_cons_zero, List.set_cons_succ])
          refine wpAnyH_ready (rs := [4]) (by kernel_rfl) (by simp) ?_
          refine AllReadyH.cons rfl (fun K hK => ?_) AllReadyH.nil
          go_simp
          refine hK.out _ _ ⟨_, HN5.out.alloc _⟩ (fun hH3 => ?_)
          clear hK K
          (try simp only [Act.put, List.getElem_toArray, List.getElem_cons_zero, List.getElem_cons_succ, List.setIfInBounds_toArray, List.set_cons_zero, List.set_cons_succ])
          refine wpAnyH_ready (rs := [5]) (by kernel_rfl) (by simp) ?_
          refine AllReadyH.cons rfl (fun K hK => ?_) AllReadyH.nil
          rw [if_pos (by kernel_rfl)]
          have hkb := HK5.out.blk
          obtain ⟨xs, hown, hxl, hkk⟩ := HK5.out
          have hX1 := rep_one HT5.out
          refine wp_app (.tmp 18) (.tmp 21) rfl u.heap.size (Value.slice p n c9) _ _ rfl (hown.alloc (.cells #[.int .i64 k5, .int .i64 a5, .string (S t5), .int .u32 v5, .slice sp5 sn5 sc5] 27)) ⟨_, 0, none⟩ 1 [.int .i64 k5, .int .i64 a5, .string (S t5), .int .u32 v5, .slice sp5 sn5 sc5] rfl rfl (fun j u hj => ?_) (fun u hu => ?_) (by omega) (by simp; omega) ?_
          · match j, hj with
            | 0, hj => simp at hj; subst hj; simp [Addr.add]
            | 1, hj => simp at hj; subst hj; simp [Addr.add]
            | 2, hj => simp at hj; subst hj; simp [Addr.add]
            | 3, hj => simp at hj; subst hj; simp [Addr.add]
            | 4, hj => simp at hj; subst hj; simp [Addr.add]
          · simp at hu
            rcases hu with rfl | rfl | rfl | rfl | rfl
            · rfl
            · rfl
            · rfl
            · rfl
            · exact hX1
          intro v' w7 hown' hgrow hat
          have hat' : v'.ownBlock = (Value.slice p n c9).ownBlock ∨ v'.ownBlock = some (w5.heap.size + 1) := by
            rcases hat with e | e
            · exact .inl e
            · right; rw [e]; simp
          have HK7 := hide (KL.app (show u.heap.size ≤ w4.heap.size by omega) (fun j hj => (HSU.out j hj).2) HT5.out hxl hkk hown' hgrow hat')
          have hz7 := hgrow.size
          simp at hz7
          have hrow : ∀ j, (Value.slice p n c9).ownBlock = some j → u.heap.size ≤ j := fun j hj => (hkb j hj).1
          have HN7 : Hid (Bx w7 B1 27 #[.int .i64 1, .int .i64 at_, .string (S []), .int .u32 0, .slice p n c9]) := hide ((hgrow.block _ (by have := HN5.out.lt; simp; omega) (fun e => by have := hrow _ e.symm; omega)).trans (HN5.out.alloc _))
          have HR7 := hide ((HR5.out.alloc (.cells #[.int .i64 k5, .int .i64 a5, .string (S t5), .int .u32 v5, .slice sp5 sn5 sc5] 27)).grown hgrow (fun e => by have := hrow _ e.symm; omega) (fun e => by have := hrow _ e.symm; omega))
          have HB7 := hide ((HB5.out.alloc (.cells #[.int .i64 k5, .int .i64 a5, .string (S t5), .int .u32 v5, .slice sp5 sn5 sc5] 27)).grown hgrow (fun j hj => by have := hrow j hj; omega))
          have HX7 : Hid (Bx w7 w.heap.size 27 #[.int .i64 0, .int .i64 0, .string ⟨#[]⟩, .int .u32 0, .slice none 0 0]) := hide ((hgrow.block _ (by have := HX5.out.lt; simp; omega) (fun e => by have := hrow _ e.symm; omega)).trans (HX5.out.alloc _))
          obtain ⟨p7, n7, c7, rfl⟩ := HK7.out.slice
          refine hK.out _ _ ⟨_, HN7.out⟩ (fun hH4 => ?_)
          clear hK K hown hxl hkk hown' hgrow hat hat' hX1
          (try simp only [Act.put, List.getElem_toArray, List.getElem_cons_zero, List.getElem_cons_succ, List.setIfInBounds_toArray, List.set_cons_zero, List.set_cons_succ])
          refine wpAnyH_take (i := 6) (v := ?_) rfl (by kernel_rfl) (by kernel_rfl) (by kernel_rfl) (fun _ _ _ h => h) (Or.inl ⟨by rfl, ?_⟩) (by assumption) ?_
          rotate_left
          · intro w hSw; (try dsimp only at hSw); go_simp; (try with_reducible rfl)
          (try simp only [Act.put, List.getElem_toArray, List.getElem_cons_zero, List.getElem_cons_succ, List.setIfInBounds_toArray, List.set_cons_zero, List.set_cons_succ])
          refine wpAnyH_ready (rs := [7]) (by kernel_rfl) (by simp) ?_
          refine AllReadyH.cons rfl (fun K hK => ?_) AllReadyH.nil
          have mc := HN7.out.cell (k := 4) rfl
          have mf := HN7.out.free
          go_simp
          have hn8 : Bx (w7.setCell ⟨B1, 4, none⟩ (.slice p7 n7 c7)) B1 27 #[.int .i64 1, .int .i64 at_, .string (S []), .int .u32 0, .slice p7 n7 c7] := HN7.out.set 4 (.slice p7 n7 c7)
          refine hK.out _ _ ⟨_, hn8⟩ (fun hH5 => ?_)
          clear hK K mc mf
          (try simp only [Act.put, List.getElem_toArray, List.getElem_cons_zero, List.getElem_cons_succ, List.setIfInBounds_toArray, List.set_cons_zero, List.set_cons_succ])
          refine wpAnyH_done (by kernel_rfl) ?_ _
          have HN8 := hide hn8
          have HR8 := hide (HR7.out.other (p := ⟨B1, 4, none⟩) (.slice p7 n7 c7) (by dsimp only; omega) (by dsimp only; omega))
          have HB8 := hide (HB7.out.fresh (p := ⟨B1, 4, none⟩) (by dsimp only; omega) (.slice p7 n7 c7))
          have HK8 := hide (HK7.out.other (p := ⟨B1, 4, none⟩) (.slice p7 n7 c7) (by dsimp only; omega))
          have HX8 : Hid (Bx _ w.heap.size 27 #[.int .i64 0, .int .i64 0, .string ⟨#[]⟩, .int .u32 0, .slice none 0 0]) := hide (HX7.out.other (p := ⟨B1, 4, none⟩) (.slice p7 n7 c7) (by dsimp only; omega))
          have hz8 : (w7.setCell ⟨B1, 4, none⟩ (.slice p7 n7 c7)).heap.size = w7.heap.size := by simp [World.setCell]
          clear hn8 HN7 HR7 HB7 HK7 HN5 HR5 HB5 HK5 HT5 HX7 HX5
          generalize w7.setCell ⟨B1, 4, none⟩ (.slice p7 n7 c7) = w8 at *
          go_wp2_with fail
          have hmo := HMO.out
          have hlt := mea_lt HI.out.rd HR8.out HE.out hmo
          have hi1 := hmo.v.i
          exact ⟨⟨(fnF L r').1, ls ++ [.mk k5 a5 t5 v5 l5], p7, n7, c7, m, HR8.out, HB8.out, HX8.out, HN8.out, HK8.out, by
            rw [List.length_append]
            simp only [List.length_cons, List.length_nil]
            rcases hmo.o with ho | ho
            · rw [if_neg ho]; omega
            · split <;> omega, by
            have hl8 := HR8.out.lt
            rcases hmo.o with ho | ho
            · rw [if_neg ho]; omega
            · split <;> omega, by omega, by rw [HEQ.out, HQ5.out]⟩, hlt⟩
        refine AllReadyH.cons rfl (fun K hK => ?_) AllReadyH.nil
        · go_simp
          try rw [hw]
          with_reducible refine HCB.out.mono ?_
          intro e w5 hN
          obtain ⟨k5, a5, t5, v5, l5, sp5, sn5, sc5, hq5, rfl, hR5, hB5, hT5⟩ := hN.parts
          have hB45 : But b w4 w5 := ⟨hB5.os, hB5.tape, hB5.output, hB5.size, hB5.block⟩
          have hz5 := hB45.size
          have HQ5 := hide hq5
          have HR5 := hide hR5
          have HB5 := hide (HB4.out.trans hB45)
          have HN5 := hide (Bx.but HN4.out hB45 (by omega))
          have HK5 := hide (HK4.out.but hB45 (by omega))
          have HT5 : Hid (Rep w5 (Fr w4 w5) (.mk k5 a5 t5 v5 l5) #[.int .i64 k5, .int .i64 a5, .string (S t5), .int .u32 v5, .slice sp5 sn5 sc5]) := hide hT5
          have HX5 := hide (Bx.but HX4.out hB45 (by omega))
          have HSU := hide HK4.out.blk
          refine hK.out _ _ ⟨_, HN5.out⟩ (fun hH2 => ?_)
          clear hK K hN hq5 hR5 hB5 hB45 hT5
          (try simp only [Act.put, List.getElem_toArray, List.getElem_cons_zero, List.getElem_cons_succ, List.setIfInBounds_toArray, List.set_cons_zero, List.set_cons_succ])
          refine wpAnyH_ready (rs := [1, 4]) (by kernel_rfl) (by simp) ?_
          refine AllReadyH.cons rfl (fun K hK => ?_) ?_
          · have c4 := HN5.out.cell (k := 4) rfl
            go_simp
            refine hK.out _ _ ⟨_, HN5.out⟩ (fun hH6 => ?_)
            clear hK K c4
            (try simp only [Act.put, List.getElem_toArray, List.getElem_cons_zero, List.getElem_cons_succ, List.setIfInBounds_toArray, List.set_cons_zero, List.set_cons_succ])
            refine wpAnyH_ready (rs := [4]) (by kernel_rfl) (by simp) ?_
            refine AllReadyH.cons rfl (fun K hK => ?_) AllReadyH.nil
            go_simp
            refine hK.out _ _ ⟨_, HN5.out.alloc _⟩ (fun hH3 => ?_)
            clear hK K
            (try simp only [Act.put, List.getElem_toArray, List.getElem_cons_zero, List.getElem_cons_succ, List.setIfInBounds_toArray, List.set_cons_zero, List.set_cons_succ])
            refine wpAnyH_ready (rs := [5]) (by kernel_rfl) (by simp) ?_
            refine AllReadyH.cons rfl (fun K hK => ?_) AllReadyH.nil
            rw [if_pos (by kernel_rfl)]
            have hkb := HK5.out.blk
            obtain ⟨xs, hown, hxl, hkk⟩ := HK5.out
            have hX1 := rep_one HT5.out
            refine wp_app (.tmp 18) (.tmp 21) rfl u.heap.size (Value.slice p n c9) _ _ rfl (hown.alloc (.cells #[.int .i64 k5, .int .i64 a5, .string (S t5), .int .u32 v5, .slice sp5 sn5 sc5] 27)) ⟨_, 0, none⟩ 1 [.int .i64 k5, .int .i64 a5, .string (S t5), .int .u32 v5, .slice sp5 sn5 sc5] rfl rfl (fun j u hj => ?_) (fun u hu => ?_) (by omega) (by simp; omega) ?_
            · match j, hj with
              | 0, hj => simp at hj; subst hj; simp [Addr.add]
              | 1, hj => simp at hj; subst hj; simp [Addr.add]
              | 2, hj => simp at hj; subst hj; simp [Addr.add]
              | 3, hj => simp at hj; subst hj; simp [Addr.add]
              | 4, hj => simp at hj; subst hj; simp [Addr.add]
            · simp at hu
              rcases hu with rfl | rfl | rfl | rfl | rfl
              · rfl
              · rfl
              · rfl
              · rfl
              · exact hX1
            intro v' w7 hown' hgrow hat
            have hat' : v'.ownBlock = (Value.slice p n c9).ownBlock ∨ v'.ownBlock = some (w5.heap.size + 1) := by
              rcases hat with e | e
              · exact .inl e
              · right; rw [e]; simp
            have HK7 := hide (KL.app (show u.heap.size ≤ w4.heap.size by omega) (fun j hj => (HSU.out j hj).2) HT5.out hxl hkk hown' hgrow hat')
            have hz7 := hgrow.size
            simp at hz7
            have hrow : ∀ j, (Value.slice p n c9).ownBlock = some j → u.heap.size ≤ j := fun j hj => (hkb j hj).1
            have HN7 : Hid (Bx w7 B1 27 #[.int .i64 1, .int .i64 at_, .string (S []), .int .u32 0, .slice p n c9]) := hide ((hgrow.block _ (by have := HN5.out.lt; simp; omega) (fun e => by have := hrow _ e.symm; omega)).trans (HN5.out.alloc _))
            have HR7 := hide ((HR5.out.alloc (.cells #[.int .i64 k5, .int .i64 a5, .string (S t5), .int .u32 v5, .slice sp5 sn5 sc5] 27)).grown hgrow (fun e => by have := hrow _ e.symm; omega) (fun e => by have := hrow _ e.symm; omega))
            have HB7 := hide ((HB5.out.alloc (.cells #[.int .i64 k5, .int .i64 a5, .string (S t5), .int .u32 v5, .slice sp5 sn5 sc5] 27)).grown hgrow (fun j hj => by have := hrow j hj; omega))
            have HX7 : Hid (Bx w7 w.heap.size 27 #[.int .i64 0, .int .i64 0, .string ⟨#[]⟩, .int .u32 0, .slice none 0 0]) := hide ((hgrow.block _ (by have := HX5.out.lt; simp; omega) (fun e => by have := hrow _ e.symm; omega)).trans (HX5.out.alloc _))
            obtain ⟨p7, n7, c7, rfl⟩ := HK7.out.slice
            refine hK.out _ _ ⟨_, HN7.out⟩ (fun hH4 => ?_)
            clear hK K hown hxl hkk hown' hgrow hat hat' hX1
            (try simp only [Act.put, List.getElem_toArray, List.getElem_cons_zero, List.getElem_cons_succ, List.setIfInBounds_toArray, List.set_cons_zero, List.set_cons_succ])
            refine wpAnyH_take (i := 6) (v := ?_) rfl (by kernel_rfl) (by kernel_rfl) (by kernel_rfl) (fun _ _ _ h => h) (Or.inl ⟨by rfl, ?_⟩) (by assumption) ?_
            rotate_left
            · intro w hSw; (try dsimp only at hSw); go_simp; (try with_reducible rfl)
            (try simp only [Act.put, List.getElem_toArray, List.getElem_cons_zero, List.getElem_cons_succ, List.setIfInBounds_toArray, List.set_cons_zero, List.set_cons_succ])
            refine wpAnyH_ready (rs := [7]) (by kernel_rfl) (by simp) ?_
            refine AllReadyH.cons rfl (fun K hK => ?_) AllReadyH.nil
            have mc := HN7.out.cell (k := 4) rfl
            have mf := HN7.out.free
            go_simp
            have hn8 : Bx (w7.setCell ⟨B1, 4, none⟩ (.slice p7 n7 c7)) B1 27 #[.int .i64 1, .int .i64 at_, .string (S []), .int .u32 0, .slice p7 n7 c7] := HN7.out.set 4 (.slice p7 n7 c7)
            refine hK.out _ _ ⟨_, hn8⟩ (fun hH5 => ?_)
            clear hK K mc mf
            (try simp only [Act.put, List.getElem_toArray, List.getElem_cons_zero, List.getElem_cons_succ, List.setIfInBounds_toArray, List.set_cons_zero, List.set_cons_succ])
            refine wpAnyH_done (by kernel_rfl) ?_ _
            have HN8 := hide hn8
            have HR8 := hide (HR7.out.other (p := ⟨B1, 4, none⟩) (.slice p7 n7 c7) (by dsimp only; omega) (by dsimp only; omega))
            have HB8 := hide (HB7.out.fresh (p := ⟨B1, 4, none⟩) (by dsimp only; omega) (.slice p7 n7 c7))
            have HK8 := hide (HK7.out.other (p := ⟨B1, 4, none⟩) (.slice p7 n7 c7) (by dsimp only; omega))
            have HX8 : Hid (Bx _ w.heap.size 27 #[.int .i64 0, .int .i64 0, .string ⟨#[]⟩, .int .u32 0, .slice none 0 0]) := hide (HX7.out.other (p := ⟨B1, 4, none⟩) (.slice p7 n7 c7) (by dsimp only; omega))
            have hz8 : (w7.setCell ⟨B1, 4, none⟩ (.slice p7 n7 c7)).heap.size = w7.heap.size := by simp [World.setCell]
            clear hn8 HN7 HR7 HB7 HK7 HN5 HR5 HB5 HK5 HT5 HX7 HX5
            generalize w7.setCell ⟨B1, 4, none⟩ (.slice p7 n7 c7) = w8 at *
            go_wp2_with fail
            have hmo := HMO.out
            have hlt := mea_lt HI.out.rd HR8.out HE.out hmo
            have hi1 := hmo.v.i
            exact ⟨⟨(fnF L r').1, ls ++ [.mk k5 a5 t5 v5 l5], p7, n7, c7, m, HR8.out, HB8.out, HX8.out, HN8.out, HK8.out, by
              rw [List.length_append]
              simp only [List.length_cons, List.length_nil]
              rcases hmo.o with ho | ho
              · rw [if_neg ho]; omega
              · split <;> omega, by
              have hl8 := HR8.out.lt
              rcases hmo.o with ho | ho
              · rw [if_neg ho]; omega
              · split <;> omega, by omega, by rw [HEQ.out, HQ5.out]⟩, hlt⟩
          refine AllReadyH.cons rfl (fun K hK => ?_) AllReadyH.nil
          · go_simp
            refine hK.out _ _ ⟨_, HN5.out.alloc _⟩ (fun hH3 => ?_)
            clear hK K
            (try simp only [Act.put, List.getElem_toArray, List.getElem_cons_zero, List.getElem_cons_succ, List.setIfInBounds_toArray, List.set_cons_zero, List.set_cons_succ])
            refine wpAnyH_ready (rs := [1]) (by kernel_rfl) (by simp) ?_
            refine AllReadyH.cons rfl (fun K hK => ?_) AllReadyH.nil
            have c4 := (HN5.out.alloc (.cells #[.int .i64 k5, .int .i64 a5, .string (S t5), .int .u32 v5, .slice sp5 sn5 sc5] 27)).cell (k := 4) rfl
            go_simp
            refine hK.out _ _ ⟨_, (HN5.out.alloc (.cells #[.int .i64 k5, .int .i64 a5, .string (S t5), .int .u32 v5, .slice sp5 sn5 sc5] 27))⟩ (fun hH6 => ?_)
            clear hK K c4
            (try simp only [Act.put, List.getElem_toArray, List.getElem_cons_zero, List.getElem_cons_succ, List.setIfInBounds_toArray, List.set_cons_zero, List.set_cons_succ])
            refine wpAnyH_ready (rs := [5]) (by kernel_rfl) (by simp) ?_
            refine AllReadyH.cons rfl (fun K hK => ?_) AllReadyH.nil
            rw [if_pos (by kernel_rfl)]
            have hkb := HK5.out.blk
            obtain ⟨xs, hown, hxl, hkk⟩ := HK5.out
            have hX1 := rep_one HT5.out
            refine wp_app (.tmp 18) (.tmp 21) rfl u.heap.size (Value.slice p n c9) _ _ rfl (hown.alloc (.cells #[.int .i64 k5, .int .i64 a5, .string (S t5), .int .u32 v5, .slice sp5 sn5 sc5] 27)) ⟨_, 0, none⟩ 1 [.int .i64 k5, .int .i64 a5, .string (S t5), .int .u32 v5, .slice sp5 sn5 sc5] rfl rfl (fun j u hj => ?_) (fun u hu => ?_) (by omega) (by simp; omega) ?_
            · match j, hj with
              | 0, hj => simp at hj; subst hj; simp [Addr.add]
              | 1, hj => simp at hj; subst hj; simp [Addr.add]
              | 2, hj => simp at hj; subst hj; simp [Addr.add]
              | 3, hj => simp at hj; subst hj; simp [Addr.add]
              | 4, hj => simp at hj; subst hj; simp [Addr.add]
            · simp at hu
              rcases hu with rfl | rfl | rfl | rfl | rfl
              · rfl
              · rfl
              · rfl
              · rfl
              · exact hX1
            intro v' w7 hown' hgrow hat
            have hat' : v'.ownBlock = (Value.slice p n c9).ownBlock ∨ v'.ownBlock = some (w5.heap.size + 1) := by
              rcases hat with e | e
              · exact .inl e
              · right; rw [e]; simp
            have HK7 := hide (KL.app (show u.heap.size ≤ w4.heap.size by omega) (fun j hj => (HSU.out j hj).2) HT5.out hxl hkk hown' hgrow hat')
            have hz7 := hgrow.size
            simp at hz7
            have hrow : ∀ j, (Value.slice p n c9).ownBlock = some j → u.heap.size ≤ j := fun j hj => (hkb j hj).1
            have HN7 : Hid (Bx w7 B1 27 #[.int .i64 1, .int .i64 at_, .string (S []), .int .u32 0, .slice p n c9]) := hide ((hgrow.block _ (by have := HN5.out.lt; simp; omega) (fun e => by have := hrow _ e.symm; omega)).trans (HN5.out.alloc _))
            have HR7 := hide ((HR5.out.alloc (.cells #[.int .i64 k5, .int .i64 a5, .string (S t5), .int .u32 v5, .slice sp5 sn5 sc5] 27)).grown hgrow (fun e => by have := hrow _ e.symm; omega) (fun e => by have := hrow _ e.symm; omega))
            have HB7 := hide ((HB5.out.alloc (.cells #[.int .i64 k5, .int .i64 a5, .string (S t5), .int .u32 v5, .slice sp5 sn5 sc5] 27)).grown hgrow (fun j hj => by have := hrow j hj; omega))
            have HX7 : Hid (Bx w7 w.heap.size 27 #[.int .i64 0, .int .i64 0, .string ⟨#[]⟩, .int .u32 0, .slice none 0 0]) := hide ((hgrow.block _ (by have := HX5.out.lt; simp; omega) (fun e => by have := hrow _ e.symm; omega)).trans (HX5.out.alloc _))
            obtain ⟨p7, n7, c7, rfl⟩ := HK7.out.slice
            refine hK.out _ _ ⟨_, HN7.out⟩ (fun hH4 => ?_)
            clear hK K hown hxl hkk hown' hgrow hat hat' hX1
            (try simp only [Act.put, List.getElem_toArray, List.getElem_cons_zero, List.getElem_cons_succ, List.setIfInBounds_toArray, List.set_cons_zero, List.set_cons_succ])
            refine wpAnyH_take (i := 6) (v := ?_) rfl (by kernel_rfl) (by kernel_rfl) (by kernel_rfl) (fun _ _ _ h => h) (Or.inl ⟨by rfl, ?_⟩) (by assumption) ?_
            rotate_left
            · intro w hSw; (try dsimp only at hSw); go_simp; (try with_reducible rfl)
            (try simp only [Act.put, List.getElem_toArray, List.getElem_cons_zero, List.getElem_cons_succ, List.setIfInBounds_toArray, List.set_cons_zero, List.set_cons_succ])
            refine wpAnyH_ready (rs := [7]) (by kernel_rfl) (by simp) ?_
            refine AllReadyH.cons rfl (fun K hK => ?_) AllReadyH.nil
            have mc := HN7.out.cell (k := 4) rfl
            have mf := HN7.out.free
            go_simp
            have hn8 : Bx (w7.setCell ⟨B1, 4, none⟩ (.slice p7 n7 c7)) B1 27 #[.int .i64 1, .int .i64 at_, .string (S []), .int .u32 0, .slice p7 n7 c7] := HN7.out.set 4 (.slice p7 n7 c7)
            refine hK.out _ _ ⟨_, hn8⟩ (fun hH5 => ?_)
            clear hK K mc mf
            (try simp only [Act.put, List.getElem_toArray, List.getElem_cons_zero, List.getElem_cons_succ, List.setIfInBounds_toArray, List.set_cons_zero, List.set_cons_succ])
            refine wpAnyH_done (by kernel_rfl) ?_ _
            have HN8 := hide hn8
            have HR8 := hide (HR7.out.other (p := ⟨B1, 4, none⟩) (.slice p7 n7 c7) (by dsimp only; omega) (by dsimp only; omega))
            have HB8 := hide (HB7.out.fresh (p := ⟨B1, 4, none⟩) (by dsimp only; omega) (.slice p7 n7 c7))
            have HK8 := hide (HK7.out.other (p := ⟨B1, 4, none⟩) (.slice p7 n7 c7) (by dsimp only; omega))
            have HX8 : Hid (Bx _ w.heap.size 27 #[.int .i64 0, .int .i64 0, .string ⟨#[]⟩, .int .u32 0, .slice none 0 0]) := hide (HX7.out.other (p := ⟨B1, 4, none⟩) (.slice p7 n7 c7) (by dsimp only; omega))
            have hz8 : (w7.setCell ⟨B1, 4, none⟩ (.slice p7 n7 c7)).heap.size = w7.heap.size := by simp [World.setCell]
            clear hn8 HN7 HR7 HB7 HK7 HN5 HR5 HB5 HK5 HT5 HX7 HX5
            generalize w7.setCell ⟨B1, 4, none⟩ (.slice p7 n7 c7) = w8 at *
            go_wp2_with fail
            have hmo := HMO.out
            have hlt := mea_lt HI.out.rd HR8.out HE.out hmo
            have hi1 := hmo.v.i
            exact ⟨⟨(fnF L r').1, ls ++ [.mk k5 a5 t5 v5 l5], p7, n7, c7, m, HR8.out, HB8.out, HX8.out, HN8.out, HK8.out, by
              rw [List.length_append]
              simp only [List.length_cons, List.length_nil]
              rcases hmo.o with ho | ho
              · rw [if_neg ho]; omega
              · split <;> omega, by
              have hl8 := HR8.out.lt
              rcases hmo.o with ho | ho
              · rw [if_neg ho]; omega
              · split <;> omega, by omega, by rw [HEQ.out, HQ5.out]⟩, hlt⟩
    · rw [if_neg (fun hh => he hh.1)] at HEQ
      have hmz := HI.out.us
      have HR4 := hide HI.out.rd
      have HB4 := hide HI.out.but
      have HX4 := hide HI.out.x0
      have HN4 := hide HI.out.x1
      have HK4 := hide HI.out.kl
      clear hnx
      have x0 := HX4.out.cell (k := 0) rfl
      have x1 := HX4.out.cell (k := 1) rfl
      have x2 := HX4.out.cell (k := 2) rfl
      have x3 := HX4.out.cell (k := 3) rfl
      have x4 := HX4.out.cell (k := 4) rfl
      have xl := HX4.out.lt
      have xf := HX4.out.free
      have p0 := HN4.out.cell (k := 0) rfl
      have p1 := HN4.out.cell (k := 1) rfl
      have p2 := HN4.out.cell (k := 2) rfl
      have p3 := HN4.out.cell (k := 3) rfl
      have p4 := HN4.out.cell (k := 4) rfl
      have pl := HN4.out.lt
      have pf := HN4.out.free
      go_wp2_with fail
      have hkr := HK4.out.rep 1 at_ [] 0
      unfold nC at hkr
      have hf9 := fin_put2 (b := b) (g := g) (c := c) (L := L) (w := w) HR4.out HB4.out HX4.out (Nat.le_refl _) (by omega) hkr hbz hgz
      exact bodyPost_ret (v := .agg #[.int .i64 1, .int .i64 at_, .string (S []), .int .u32 0, .slice p n c9]) (results_cell_row (fn := Tryd.f19) rfl _ _ w.heap.size 27 _ (0, 0) _ rfl hf9.1 Tryd.underlying27 rfl info_nd) rfl (hf9.2 _ (by rw [HCC.out, HEQ.out]) (by rw [HCC.out, HEQ.out]))

end
end Go.Proofs.YtimiglepogeeiaaDoor.Parse

