/- How long an instruction takes: package core. -/
import Derived.Test.YtfdnjoieolijcaaGreatDoorCoreJump
set_option linter.unusedVariables false
namespace Go.Proofs.YtfdnjoieolijcaaGreatDoor.Core
open Go.RowKit Go.Proofs.YtfdnjoieolijcaaGreatDoor.Mem Go.Proofs.YtfdnjoieolijcaaGreatDoor.Alu

theorem range_all {w : World} {b : Nat} {cs : Array Value} {t : TypeId} {fr : Nat × Nat} (h : w.heap[b]? = some (.cells cs t fr)) : w.rangeAt b 0 cs.toList := fun j v hv => by
  rw [Nat.zero_add, cell_of_row w b j cs t fr h, ← Array.getElem?_toList]; exact hv
theorem range_below {w w' : World} {b o : Nat} {cs : List Value} (h : w.rangeAt b o cs) (hb : Below w.heap.size w w') : w'.rangeAt b o cs := fun j v hv => by
  have := h j v hv
  rw [hb.cell (p := ⟨b, o + j, none⟩) (block_lt_of_cell (a := ⟨b, o + j, none⟩) this)]; exact this

theorem BaseI (i : Ins) (hf : Fit i) (hr : i.right = true) (t : Bool) (a b : Int) (ha : 0 ≤ a ∧ a < 4294967296) (hb : 0 ≤ b ∧ b < 4294967296) (w : World) (hL : Inst.Laid w) :
    Calls Tryz.prog 123 #[.agg (inv i), .bool t, .int .u32 a, .int .u32 b] w fun e w' => e = .returned (.tuple #[.int .i64 (Clock.bas i.f t a b i.rg), .int .i64 0]) ∧ Below w.heap.size w w' :=
  Clock.Base_yes i.f i.rd i.rn i.rm i.ra i.im i.kd i.bs i.st i.cd i.rg hr (by have := hf.rg; omega) (by have := hf.rg; omega) t a b ha.1 ha.2 hb.1 hb.2 w hL

set_option maxRecDepth 100000 in
set_option maxHeartbeats 2000000 in
theorem base_any (s : St) (i : Ins) (hg : Good s) (hf : Fit i) (hr : i.right = true) (w : World) (hL : Inst.Laid w) :
    Calls Tryz.prog 75 #[.agg (stv s), .agg (inv i)] w fun e w' => e = .returned (.int .i64 (basI s i)) ∧ Below w.heap.size w w' := by
  have hb : Below w.heap.size w ((w.alloc (.cells (stv s) 27)).alloc (.cells (inv i) 52)) := ((Below.refl _ _).alloc (Nat.le_refl _) _).alloc (by simp) _
  have hs : ((w.alloc (.cells (stv s) 27)).alloc (.cells (inv i) 52)).heap[w.heap.size]? = some (.cells (stv s) 27 (0, 0)) := heap_alloc2_old _ _ _
  have hi : ((w.alloc (.cells (stv s) 27)).alloc (.cells (inv i) 52)).heap[w.heap.size + 1]? = some (.cells (inv i) 52 (0, 0)) := heap_alloc2_new _ _ _
  obtain ⟨j, hj, hjn, hj', hj2⟩ := rn_of hf.rn
  obtain ⟨k, hk, hkn, hk', hk2⟩ := rn_of hf.rm
  have bj := hg.r j
  have bk := hg.r k
  have HQ : Hid (basI s i = Clock.bas i.f (holdsB s i.cd) (s.R j) (s.R k) i.rg) := by unfold Hid basI; rw [hjn, hkn]
  have Hs := hide hs
  have Hi := hide hi
  have HB := hide hb
  have HL : Hid (Inst.Laid ((w.alloc (.cells (stv s) 27)).alloc (.cells (inv i) 52))) := hL.below hb
  clear hs hi hb
  go_enter Tryz.func75, Tryz.ntmps75
  go_wp2_with fail
  generalize (w.alloc (.cells (stv s) 27)).alloc (.cells (inv i) 52) = w1 at *
  generalize hS : w.heap.size = S at *
  have hS0 : S < w1.heap.size := lt_of_heap (unhide Hs)
  have hS1 : S + 1 < w1.heap.size := lt_of_heap (unhide Hi)
  have sx : Sx w1.drew S s := unhide Hs
  have cI : ∀ (o : Nat) (v : Value), (inv i)[o]? = some v → w1.drew.cell? ⟨S + 1, o, none⟩ = some v := fun o v hv => by rw [cell_of_row _ _ _ _ _ _ (show w1.drew.heap[S + 1]? = _ from unhide Hi)]; exact hv
  have cR : ∀ q : Nat, q < 16 → w1.drew.cell? ⟨S, q, none⟩ = some (.int .u32 (s.R q)) := fun q hq => sx.cell (by rcases (show q = 0 ∨ q = 1 ∨ q = 2 ∨ q = 3 ∨ q = 4 ∨ q = 5 ∨ q = 6 ∨ q = 7 ∨ q = 8 ∨ q = 9 ∨ q = 10 ∨ q = 11 ∨ q = 12 ∨ q = 13 ∨ q = 14 ∨ q = 15 by omega) with rfl | rfl | rfl | rfl | rfl | rfl | rfl | rfl | rfl | rfl | rfl | rfl | rfl | rfl | rfl | rfl <;> rfl)
  refine wp_region_held_drew (S := fun w' => w'.rangeAt S 0 (stv s).toList ∧ w'.rangeAt (S + 1) 0 (inv i).toList ∧ w'.cell? ⟨S + 1, 9, none⟩ = some (.int .i64 i.cd) ∧ w'.cell? ⟨S + 1, 2, none⟩ = some (.int .i64 j) ∧ w'.cell? ⟨S + 1, 3, none⟩ = some (.int .i64 k) ∧ w'.cell? ⟨S, j, none⟩ = some (.int .u32 (s.R j)) ∧ w'.cell? ⟨S, k, none⟩ = some (.int .u32 (s.R k)))
    (by kernel_rfl) ⟨range_all (show w1.drew.heap[S]? = _ from unhide Hs), range_all (show w1.drew.heap[S + 1]? = _ from unhide Hi), cI 9 _ rfl, by rw [← hj]; exact cI 2 _ rfl, by rw [← hk]; exact cI 3 _ rfl, cR j hj2, cR k hk2⟩ (fun hHeld => ?_)
  refine wpAnyH_take (i := 0) (v := .agg (inv i)) rfl (by kernel_rfl) (by kernel_rfl) (by kernel_rfl) (fun _ _ _ h => h) (yieldsIf_load_mid (by rfl) 52 (.tmp 3) rfl (S + 1) 0 rfl (inv i).toList _ (fun w hw => hw.2.1) Tryz.underlying52 rfl info_in) (by assumption) ?_
  (try simp only [Act.put, List.getElem_toArray, List.getElem_cons_zero, List.setIfInBounds_toArray, List.set_cons_zero, List.set_cons_succ])
  refine wpAnyH_take (i := 1) (v := .agg (stv s)) rfl (by kernel_rfl) (by kernel_rfl) (by kernel_rfl) (fun _ _ _ h => h) (yieldsIf_load_mid (by rfl) 27 (.tmp 2) rfl S 0 rfl (stv s).toList _ (fun w hw => hw.1) Tryz.underlying27 rfl info_st) (by assumption) ?_
  (try simp only [Act.put, List.getElem_toArray, List.getElem_cons_zero, List.getElem_cons_succ, List.setIfInBounds_toArray, List.set_cons_zero, List.set_cons_succ])
  refine wpAnyH_take (i := 2) (v := ?_) rfl (by kernel_rfl) (by kernel_rfl) (by kernel_rfl) (fun _ _ _ h => h) (Or.inl ⟨by rfl, ?_⟩) (by assumption) ?_
  rotate_left
  · intro w hSw; (try dsimp only at hSw); go_simp; (try with_reducible rfl)
  (try simp only [Act.put, List.getElem_toArray, List.getElem_cons_zero, List.getElem_cons_succ, List.setIfInBounds_toArray, List.set_cons_zero, List.set_cons_succ])
  refine wpAnyH_take (i := 3) (v := ?_) rfl (by kernel_rfl) (by kernel_rfl) (by kernel_rfl) (fun _ _ _ h => h) (Or.inl ⟨by rfl, ?_⟩) (by assumption) ?_
  rotate_left
  · intro w hSw; (try dsimp only at hSw); go_simp; (try with_reducible rfl)
  (try simp only [Act.put, List.getElem_toArray, List.getElem_cons_zero, List.getElem_cons_succ, List.setIfInBounds_toArray, List.set_cons_zero, List.set_cons_succ])
  refine wpAnyH_take (i := 5) (v := ?_) rfl (by kernel_rfl) (by kernel_rfl) (by kernel_rfl) (fun _ _ _ h => h) (Or.inl ⟨by rfl, ?_⟩) (by assumption) ?_
  rotate_left
  · intro w hSw; (try dsimp only at hSw); go_simp; (try with_reducible rfl)
  (try simp only [Act.put, List.getElem_toArray, List.getElem_cons_zero, List.getElem_cons_succ, List.setIfInBounds_toArray, List.set_cons_zero, List.set_cons_succ])
  refine wpAnyH_take (i := 6) (v := ?_) rfl (by kernel_rfl) (by kernel_rfl) (by kernel_rfl) (fun _ _ _ h => h) (Or.inl ⟨by rfl, ?_⟩) (by assumption) ?_
  rotate_left
  · intro w hSw; (try dsimp only at hSw); go_simp; (try with_reducible rfl)
  (try simp only [Act.put, List.getElem_toArray, List.getElem_cons_zero, List.getElem_cons_succ, List.setIfInBounds_toArray, List.set_cons_zero, List.set_cons_succ])
  refine wpAnyH_take (i := 7) (v := ?_) rfl (by kernel_rfl) (by kernel_rfl) (by kernel_rfl) (fun _ _ _ h => h) (Or.inl ⟨by rfl, ?_⟩) (by assumption) ?_
  rotate_left
  · intro w hSw; (try dsimp only at hSw); go_simp; (try with_reducible rfl)
  (try simp only [Act.put, List.getElem_toArray, List.getElem_cons_zero, List.getElem_cons_succ, List.setIfInBounds_toArray, List.set_cons_zero, List.set_cons_succ])
  refine wpAnyH_take (i := 8) (v := ?_) rfl (by kernel_rfl) (by kernel_rfl) (by kernel_rfl) (fun _ _ _ h => h) (Or.inl ⟨by rfl, ?_⟩) (by assumption) ?_
  rotate_left
  · intro w hSw; (try dsimp only at hSw); go_simp; (try with_reducible rfl)
  (try simp only [Act.put, List.getElem_toArray, List.getElem_cons_zero, List.getElem_cons_succ, List.setIfInBounds_toArray, List.set_cons_zero, List.set_cons_succ])
  refine wpAnyH_take (i := 9) (v := ?_) rfl (by kernel_rfl) (by kernel_rfl) (by kernel_rfl) (fun _ _ _ h => h) (Or.inl ⟨by rfl, ?_⟩) (by assumption) ?_
  rotate_left
  · intro w hSw; (try dsimp only at hSw); go_simp; (try with_reducible rfl)
  (try simp only [Act.put, List.getElem_toArray, List.getElem_cons_zero, List.getElem_cons_succ, List.setIfInBounds_toArray, List.set_cons_zero, List.set_cons_succ])
  refine wpAnyH_take (i := 10) (v := ?_) rfl (by kernel_rfl) (by kernel_rfl) (by kernel_rfl) (fun _ _ _ h => h) (Or.inl ⟨by rfl, ?_⟩) (by assumption) ?_
  rotate_left
  · intro w hSw; (try dsimp only at hSw); go_simp; (try with_reducible rfl)
  (try simp only [Act.put, List.getElem_toArray, List.getElem_cons_zero, List.getElem_cons_succ, List.setIfInBounds_toArray, List.set_cons_zero, List.set_cons_succ])
  refine wpAnyH_take (i := 11) (v := ?_) rfl (by kernel_rfl) (by kernel_rfl) (by kernel_rfl) (fun _ _ _ h => h) (Or.inl ⟨by rfl, ?_⟩) (by assumption) ?_
  rotate_left
  · intro w hSw; (try dsimp only at hSw); go_simp; (try with_reducible rfl)
  (try simp only [Act.put, List.getElem_toArray, List.getElem_cons_zero, List.getElem_cons_succ, List.setIfInBounds_toArray, List.set_cons_zero, List.set_cons_succ])
  refine wpAnyH_take (i := 12) (v := ?_) rfl (by kernel_rfl) (by kernel_rfl) (by kernel_rfl) (fun _ _ _ h => h) (Or.inl ⟨by rfl, ?_⟩) (by assumption) ?_
  rotate_left
  · intro w hSw; (try dsimp only at hSw); go_simp; (try with_reducible rfl)
  (try simp only [Act.put, List.getElem_toArray, List.getElem_cons_zero, List.getElem_cons_succ, List.setIfInBounds_toArray, List.set_cons_zero, List.set_cons_succ])
  refine wpAnyH_take (i := 13) (v := ?_) rfl (by kernel_rfl) (by kernel_rfl) (by kernel_rfl) (fun _ _ _ h => h) (Or.inl ⟨by rfl, ?_⟩) (by assumption) ?_
  rotate_left
  · intro w hSw; (try dsimp only at hSw); go_simp; (try with_reducible rfl)
  (try simp only [Act.put, List.getElem_toArray, List.getElem_cons_zero, List.getElem_cons_succ, List.setIfInBounds_toArray, List.set_cons_zero, List.set_cons_succ])
  refine wpAnyH_take (i := 14) (v := ?_) rfl (by kernel_rfl) (by kernel_rfl) (by kernel_rfl) (fun _ _ _ h => h) (Or.inl ⟨by rfl, ?_⟩) (by assumption) ?_
  rotate_left
  · intro w hSw; (try dsimp only at hSw); go_simp; (try with_reducible rfl)
  (try simp only [Act.put, List.getElem_toArray, List.getElem_cons_zero, List.getElem_cons_succ, List.setIfInBounds_toArray, List.set_cons_zero, List.set_cons_succ])
  refine wpAnyH_ready (rs := [4]) (by kernel_rfl) (by simp) ?_
  refine AllReadyH.cons rfl (fun K hK => ?_) AllReadyH.nil
  go_simp
  with_reducible refine (Holds_any _ _ _).mono ?_
  rintro e w2 ⟨rfl, hb2⟩
  have hT := fun {b o : Nat} {v : Value} (h : w1.drew.cell? ⟨b, o, none⟩ = some v) => (hb2.cell (p := ⟨b, o, none⟩) (block_lt_of_cell (a := ⟨b, o, none⟩) h)).trans h
  refine hK.out _ _ ⟨range_below hHeld.1 hb2, range_below hHeld.2.1 hb2, hT hHeld.2.2.1, hT hHeld.2.2.2.1, hT hHeld.2.2.2.2.1, hT hHeld.2.2.2.2.2.1, hT hHeld.2.2.2.2.2.2⟩ (fun hHeld2 => ?_)
  clear hK K hT
  have hL2 : Inst.Laid w2 := (laid_drewN HL.out 1).below hb2
  (try simp only [Act.put, List.getElem_toArray, List.getElem_cons_zero, List.getElem_cons_succ, List.setIfInBounds_toArray, List.set_cons_zero, List.set_cons_succ])
  refine wpAnyH_ready (rs := [15]) (by kernel_rfl) (by simp) ?_
  refine AllReadyH.cons rfl (fun K hK => ?_) AllReadyH.nil
  go_simp
  with_reducible refine (BaseI i hf hr _ _ _ bj bk _ hL2).mono ?_
  rintro e w3 ⟨rfl, hb3⟩
  have hT := fun {b o : Nat} {v : Value} (h : w2.cell? ⟨b, o, none⟩ = some v) => (hb3.cell (p := ⟨b, o, none⟩) (block_lt_of_cell (a := ⟨b, o, none⟩) h)).trans h
  refine hK.out _ _ ⟨range_below hHeld2.1 hb3, range_below hHeld2.2.1 hb3, hT hHeld2.2.2.1, hT hHeld2.2.2.2.1, hT hHeld2.2.2.2.2.1, hT hHeld2.2.2.2.2.2.1, hT hHeld2.2.2.2.2.2.2⟩ (fun hHeld3 => ?_)
  clear hK K hT
  (try simp only [Act.put, List.getElem_toArray, List.getElem_cons_zero, List.getElem_cons_succ, List.setIfInBounds_toArray, List.set_cons_zero, List.set_cons_succ])
  refine wpAnyH_take (i := 16) (v := ?_) rfl (by kernel_rfl) (by kernel_rfl) (by kernel_rfl) (fun _ _ _ h => h) (Or.inl ⟨by rfl, ?_⟩) (by assumption) ?_
  rotate_left
  · intro w hSw; (try dsimp only at hSw); go_simp; (try with_reducible rfl)
  (try simp only [Act.put, List.getElem_toArray, List.getElem_cons_zero, List.getElem_cons_succ, List.setIfInBounds_toArray, List.set_cons_zero, List.set_cons_succ])
  refine wpAnyH_take (i := 17) (v := ?_) rfl (by kernel_rfl) (by kernel_rfl) (by kernel_rfl) (fun _ _ _ h => h) (Or.inl ⟨by rfl, ?_⟩) (by assumption) ?_
  rotate_left
  · intro w hSw; (try dsimp only at hSw); go_simp; (try with_reducible rfl)
  (try simp only [Act.put, List.getElem_toArray, List.getElem_cons_zero, List.getElem_cons_succ, List.setIfInBounds_toArray, List.set_cons_zero, List.set_cons_succ])
  refine wpAnyH_take (i := 18) (v := ?_) rfl (by kernel_rfl) (by kernel_rfl) (by kernel_rfl) (fun _ _ _ h => h) (Or.inl ⟨by rfl, ?_⟩) (by assumption) ?_
  rotate_left
  · intro w hSw; (try dsimp only at hSw); go_simp; (try with_reducible rfl)
  (try simp only [Act.put, List.getElem_toArray, List.getElem_cons_zero, List.getElem_cons_succ, List.setIfInBounds_toArray, List.set_cons_zero, List.set_cons_succ])
  refine wpAnyH_take (i := 19) (v := ?_) rfl (by kernel_rfl) (by kernel_rfl) (by kernel_rfl) (fun _ _ _ h => h) (Or.inl ⟨by rfl, ?_⟩) (by assumption) ?_
  rotate_left
  · intro w hSw; (try dsimp only at hSw); go_simp; (try with_reducible rfl)
  (try simp only [Act.put, List.getElem_toArray, List.getElem_cons_zero, List.getElem_cons_succ, List.setIfInBounds_toArray, List.set_cons_zero, List.set_cons_succ])
  refine wpAnyH_take (i := 20) (v := ?_) rfl (by kernel_rfl) (by kernel_rfl) (by kernel_rfl) (fun _ _ _ h => h) (Or.inl ⟨by rfl, ?_⟩) (by assumption) ?_
  rotate_left
  · intro w hSw; (try dsimp only at hSw); go_simp; (try with_reducible rfl)
  (try simp only [Act.put, List.getElem_toArray, List.getElem_cons_zero, List.getElem_cons_succ, List.setIfInBounds_toArray, List.set_cons_zero, List.set_cons_succ])
  refine wpAnyH_done (by kernel_rfl) ?_ _
  go_wp2_with fail
  go_ret
  have hb4 : Below S w w2 := HB.out.drew.trans (hb2.mono (by have := HB.out.size; show S ≤ w1.heap.size; omega))
  exact ⟨ret_int (by rw [HQ.out]), by rw [hS]; exact hb4.trans (hb3.mono (by have := hb4.size; omega))⟩
end Go.Proofs.YtfdnjoieolijcaaGreatDoor.Core

