/- A laid program's small methods: wide, jump of package asm. -/
import Derived.Test.YtegefbndpkbooaaDoorAsmSizes
import Derived.Deep.QuietTactic
import Derived.BigQuiet
set_option linter.unusedVariables false
set_option linter.unusedSimpArgs false
namespace Go.Proofs.YtegefbndpkbooaaDoor.Asm
open Go.RowKit Go.Proofs.YtegefbndpkbooaaDoor.Core Go.Proofs.YtegefbndpkbooaaDoor.Alu

/-- A laid program as a value: its slices of places and sizes. -/
def ldv (vb : Value) (ga gs n : Nat) (r : Int) : Array Value := #[vb, .slice (some ⟨ga, 0, none⟩) n n, .slice (some ⟨gs, 0, none⟩) n n, .int .i64 r]
theorem info_ld : (Tryd.prog.info? 30).map (·.size) = some 4 := by kernel_rfl

theorem below_dn {B : Nat} {a b : World} (h : Below B a b) (k : Nat) : Below B a (b.drewN k) := ⟨h.os, h.tape, h.output, h.size, h.block⟩
set_option maxRecDepth 100000 in
set_option maxHeartbeats 1000000 in
theorem wide_any {w : World} {vb : Value} {ga gs n : Nat} {r : Int} {sz : Nat → Int} (hS : Rw w gs n sz) (k : Nat) (hk : k < n) (hn : n ≤ 10000) :
    Calls Tryd.prog 30 #[.agg (ldv vb ga gs n r), .int .i64 (k : Int)] w fun e w' => e = .returned (.bool (sz k != 2)) ∧ Below w.heap.size w w' := by
  have hk' : (k : Int) < n := by omega
  have cS := (hS.alloc (.cells (ldv vb ga gs n r) 30)).cell k hk
  have hX := heap_alloc_new w (.cells (ldv vb ga gs n r) 30)
  have c2 : (w.alloc (.cells (ldv vb ga gs n r) 30)).cell? ⟨w.heap.size, 2, none⟩ = some (.slice (some ⟨gs, 0, none⟩) n n) := by rw [cell_of_row _ _ _ _ _ _ hX]; rfl
  have hB := (Below.refl w.heap.size w).alloc (Nat.le_refl _) (.cells (ldv vb ga gs n r) 30)
  go_enter Tryd.func30, Tryd.ntmps30
  go_wp2_with fail
  generalize w.alloc (.cells (ldv vb ga gs n r) 30) = w1 at *
  go_quiet ((go_at_call 26; exact Calls.quiet_of_same (Inst.Size_any _ _)))
  go_wp2_with fail
  go_ret
  exact ⟨rfl, below_dn hB _⟩

theorem setRow_offA (w : World) (b : Nat) (cs : Array Value) : Off [b] w (w.setRow b cs) := ⟨rfl, rfl, rfl, by simp, fun k hk hn => setRow_other w b k cs (by simpa using hn)⟩
theorem range_off {S : List Nat} {w w' : World} {b o : Nat} {vs : List Value} (h : w.rangeAt b o vs) (ho : Off S w w') (hb : b ∉ S) : w'.rangeAt b o vs := fun j v hv => (ho.cell (p := ⟨b, o + j, none⟩) (block_lt_of_cell (a := ⟨b, o + j, none⟩) (h j v hv)) hb).trans (h j v hv)
theorem cell_off {S : List Nat} {w w' : World} {b o : Nat} {v : Value} (h : w.cell? ⟨b, o, none⟩ = some v) (ho : Off S w w') (hb : b ∉ S) : w'.cell? ⟨b, o, none⟩ = some v := (ho.cell (p := ⟨b, o, none⟩) (block_lt_of_cell (a := ⟨b, o, none⟩) h) hb).trans h
set_option maxRecDepth 100000 in
set_option maxHeartbeats 2000000 in
theorem jump_any {w : World} {vb : Value} {ga gs n : Nat} {r : Int} {sz at_ : Nat → Int} (hA : Rw w ga n at_) (hS : Rw w gs n sz) (hat : ∀ i, i < n → 0 ≤ at_ i ∧ at_ i ≤ 70000) (c : Int) (k g : Nat) (hk : k < n) (hg : g < n) (hn : n ≤ 10000) :
    Calls Tryd.prog 31 #[.agg (ldv vb ga gs n r), .int .i64 c, .int .i64 (k : Int), .int .i64 (g : Int)] w fun e w' => e = .returned (.agg (inv (brI c (at_ g - at_ k - 4) (sz k != 2)))) ∧ Below w.heap.size w w' := by
  have hk' : (k : Int) < n := by omega
  have hg' : (g : Int) < n := by omega
  have b1 := hat k hk
  have b2 := hat g hg
  have wr1 : IntKind.i64.wrap (at_ g - at_ k) = at_ g - at_ k := IntWalk.i64_in _ (by omega)
  have wr2 : IntKind.i64.wrap (at_ g - at_ k - 4) = at_ g - at_ k - 4 := IntWalk.i64_in _ (by omega)
  have hX := heap_alloc_new w (.cells (ldv vb ga gs n r) 30)
  have hB0 := (Below.refl w.heap.size w).alloc (Nat.le_refl _) (.cells (ldv vb ga gs n r) 30)
  have hB := hB0.alloc hB0.size (.cells #[.int .i64 0, .int .i64 0, .int .i64 0, .int .i64 0, .int .i64 0, .int .i64 0, .int .i64 0, .int .i64 0, .int .i64 0, .int .i64 0, .int .i64 0] 36)
  have hX1 : ((w.alloc (.cells (ldv vb ga gs n r) 30)).alloc (.cells #[.int .i64 0, .int .i64 0, .int .i64 0, .int .i64 0, .int .i64 0, .int .i64 0, .int .i64 0, .int .i64 0, .int .i64 0, .int .i64 0, .int .i64 0] 36)).heap[w.heap.size]? = _ := (((Below.refl _ (w.alloc (.cells (ldv vb ga gs n r) 30))).alloc (Nat.le_refl _) (.cells #[.int .i64 0, .int .i64 0, .int .i64 0, .int .i64 0, .int .i64 0, .int .i64 0, .int .i64 0, .int .i64 0, .int .i64 0, .int .i64 0, .int .i64 0] 36)).block w.heap.size (by simp)).trans hX
  have hZ : ((w.alloc (.cells (ldv vb ga gs n r) 30)).alloc (.cells #[.int .i64 0, .int .i64 0, .int .i64 0, .int .i64 0, .int .i64 0, .int .i64 0, .int .i64 0, .int .i64 0, .int .i64 0, .int .i64 0, .int .i64 0] 36)).heap[w.heap.size + 1]? = some (.cells #[.int .i64 0, .int .i64 0, .int .i64 0, .int .i64 0, .int .i64 0, .int .i64 0, .int .i64 0, .int .i64 0, .int .i64 0, .int .i64 0, .int .i64 0] 36 (0, 0)) := by
    have := heap_alloc_new (w.alloc (.cells (ldv vb ga gs n r) 30)) (.cells #[.int .i64 0, .int .i64 0, .int .i64 0, .int .i64 0, .int .i64 0, .int .i64 0, .int .i64 0, .int .i64 0, .int .i64 0, .int .i64 0, .int .i64 0] 36)
    simpa using this
  have hA1 := hA.below hB
  have hS1 := hS.below hB
  have hsz : ((w.alloc (.cells (ldv vb ga gs n r) 30)).alloc (.cells #[.int .i64 0, .int .i64 0, .int .i64 0, .int .i64 0, .int .i64 0, .int .i64 0, .int .i64 0, .int .i64 0, .int .i64 0, .int .i64 0, .int .i64 0] 36)).heap.size = w.heap.size + 2 := by simp
  replace hX1 := hide hX1
  replace hZ := hide hZ
  replace hA1 := hide hA1
  replace hS1 := hide hS1
  replace hB := hide hB
  clear hX hB0 hA hS
  go_enter Tryd.func31, Tryd.ntmps31
  go_wp2_with fail
  have hBo : Hid (Below w.heap.size w ((w.alloc (.cells (ldv vb ga gs n r) 30)).alloc (.cells #[.int .i64 0, .int .i64 0, .int .i64 0, .int .i64 0, .int .i64 0, .int .i64 0, .int .i64 0, .int .i64 0, .int .i64 0, .int .i64 0, .int .i64 0] 36))) := hB
  generalize hSz : w.heap.size = S at *
  generalize (w.alloc (.cells (ldv vb ga gs n r) 30)).alloc (.cells #[.int .i64 0, .int .i64 0, .int .i64 0, .int .i64 0, .int .i64 0, .int .i64 0, .int .i64 0, .int .i64 0, .int .i64 0, .int .i64 0, .int .i64 0] 36) = w1 at *
  have cell : ∀ (o : Nat) (v : Value), (ldv vb ga gs n r)[o]? = some v → w1.drew.cell? ⟨S, o, none⟩ = some v := fun o v hv => by rw [cell_of_row _ _ _ _ _ _ (show w1.drew.heap[S]? = _ from hX1.out)]; exact hv
  refine wp_region_held_drew (S := fun w' => w'.rangeAt S 0 (ldv vb ga gs n r).toList ∧ w'.cell? ⟨S, 1, none⟩ = some (.slice (some ⟨ga, 0, none⟩) n n) ∧ w'.cell? ⟨ga, k, none⟩ = some (.int .i64 (at_ k)) ∧ w'.cell? ⟨ga, g, none⟩ = some (.int .i64 (at_ g))) (by kernel_rfl)
    ⟨range_row (show w1.drew.heap[S]? = _ from hX1.out) 0 _ (by intro j v h; rw [Nat.zero_add, ← Array.getElem?_toList]; exact h), cell 1 _ rfl, (show Rw w1.drew ga n at_ from hA1.out).cell k hk, (show Rw w1.drew ga n at_ from hA1.out).cell g hg⟩ (fun hHeld => ?_)
  refine wpAnyH_take (i := 0) (v := ?_) rfl (by kernel_rfl) (by kernel_rfl) (by kernel_rfl) (fun _ _ _ h => h) (Or.inl ⟨by rfl, ?_⟩) (by assumption) ?_
  rotate_left
  · intro w hSw; (try dsimp only at hSw); go_simp; (try with_reducible rfl)
  (try simp only [Act.put, List.getElem_toArray, List.getElem_cons_zero, List.setIfInBounds_toArray, List.set_cons_zero, List.set_cons_succ])
  refine wpAnyH_take (i := 1) (v := ?_) rfl (by kernel_rfl) (by kernel_rfl) (by kernel_rfl) (fun _ _ _ h => h) (Or.inl ⟨by rfl, ?_⟩) (by assumption) ?_
  rotate_left
  · intro w hSw; (try dsimp only at hSw); go_simp; (try with_reducible rfl)
  (try simp only [Act.put, List.getElem_toArray, List.getElem_cons_zero, List.getElem_cons_succ, List.setIfInBounds_toArray, List.set_cons_zero, List.set_cons_succ])
  refine wpAnyH_take (i := 2) (v := ?_) rfl (by kernel_rfl) (by kernel_rfl) (by kernel_rfl) (fun _ _ _ h => h) (Or.inl ⟨by rfl, ?_⟩) (by assumption) ?_
  rotate_left
  · intro w hSw; (try dsimp only at hSw); go_simp; (try with_reducible rfl)
  (try simp only [Act.put, List.getElem_toArray, List.getElem_cons_zero, List.getElem_cons_succ, List.setIfInBounds_toArray, List.set_cons_zero, List.set_cons_succ])
  refine wpAnyH_take (i := 3) (v := ?_) rfl (by kernel_rfl) (by kernel_rfl) (by kernel_rfl) (fun _ _ _ h => h) (Or.inl ⟨by rfl, ?_⟩) (by assumption) ?_
  rotate_left
  · intro w hSw; (try dsimp only at hSw); go_simp; (try with_reducible rfl)
  (try simp only [Act.put, List.getElem_toArray, List.getElem_cons_zero, List.getElem_cons_succ, List.setIfInBounds_toArray, List.set_cons_zero, List.set_cons_succ])
  refine wpAnyH_take (i := 4) (v := ?_) rfl (by kernel_rfl) (by kernel_rfl) (by kernel_rfl) (fun _ _ _ h => h) (Or.inl ⟨by rfl, ?_⟩) (by assumption) ?_
  rotate_left
  · intro w hSw; (try dsimp only at hSw); go_simp; (try with_reducible rfl)
  (try simp only [Act.put, List.getElem_toArray, List.getElem_cons_zero, List.getElem_cons_succ, List.setIfInBounds_toArray, List.set_cons_zero, List.set_cons_succ])
  refine wpAnyH_take (i := 5) (v := ?_) rfl (by kernel_rfl) (by kernel_rfl) (by kernel_rfl) (fun _ _ _ h => h) (Or.inl ⟨by rfl, ?_⟩) (by assumption) ?_
  rotate_left
  · intro w hSw; (try dsimp only at hSw); go_simp; (try with_reducible rfl)
  (try simp only [Act.put, List.getElem_toArray, List.getElem_cons_zero, List.getElem_cons_succ, List.setIfInBounds_toArray, List.set_cons_zero, List.set_cons_succ])
  refine wpAnyH_take (i := 6) (v := ?_) rfl (by kernel_rfl) (by kernel_rfl) (by kernel_rfl) (fun _ _ _ h => h) (Or.inl ⟨by rfl, ?_⟩) (by assumption) ?_
  rotate_left
  · intro w hSw; (try dsimp only at hSw); go_simp; (try with_reducible rfl)
  (try simp only [Act.put, List.getElem_toArray, List.getElem_cons_zero, List.getElem_cons_succ, List.setIfInBounds_toArray, List.set_cons_zero, List.set_cons_succ])
  refine wpAnyH_take (i := 7) (v := ?_) rfl (by kernel_rfl) (by kernel_rfl) (by kernel_rfl) (fun _ _ _ h => h) (Or.inl ⟨by rfl, ?_⟩) (by assumption) ?_
  rotate_left
  · intro w hSw; (try dsimp only at hSw); go_simp; (try with_reducible rfl)
  (try simp only [Act.put, List.getElem_toArray, List.getElem_cons_zero, List.getElem_cons_succ, List.setIfInBounds_toArray, List.set_cons_zero, List.set_cons_succ])
  refine wpAnyH_take (i := 8) (v := ?_) rfl (by kernel_rfl) (by kernel_rfl) (by kernel_rfl) (fun _ _ _ h => h) (Or.inl ⟨by rfl, ?_⟩) (by assumption) ?_
  rotate_left
  · intro w hSw; (try dsimp only at hSw); go_simp; (try with_reducible rfl)
  (try simp only [Act.put, List.getElem_toArray, List.getElem_cons_zero, List.getElem_cons_succ, List.setIfInBounds_toArray, List.set_cons_zero, List.set_cons_succ])
  refine wpAnyH_take (i := 9) (v := ?_) rfl (by kernel_rfl) (by kernel_rfl) (by kernel_rfl) (fun _ _ _ h => h) (Or.inl ⟨by rfl, ?_⟩) (by assumption) ?_
  rotate_left
  · intro w hSw; (try dsimp only at hSw); go_simp; (try with_reducible rfl)
  (try simp only [Act.put, List.getElem_toArray, List.getElem_cons_zero, List.getElem_cons_succ, List.setIfInBounds_toArray, List.set_cons_zero, List.set_cons_succ])
  refine wpAnyH_take (i := 10) (v := ?_) rfl (by kernel_rfl) (by kernel_rfl) (by kernel_rfl) (fun _ _ _ h => h) (Or.inl ⟨by rfl, ?_⟩) (by assumption) ?_
  rotate_left
  · intro w hSw; (try dsimp only at hSw); go_simp; (try with_reducible rfl)
  (try simp only [Act.put, List.getElem_toArray, List.getElem_cons_zero, List.getElem_cons_succ, List.setIfInBounds_toArray, List.set_cons_zero, List.set_cons_succ])
  refine wpAnyH_take (i := 11) (v := ?_) rfl (by kernel_rfl) (by kernel_rfl) (by kernel_rfl) (fun _ _ _ h => h) (Or.inl ⟨by rfl, ?_⟩) (by assumption) ?_
  rotate_left
  · intro w hSw; (try dsimp only at hSw); go_simp; (try with_reducible rfl)
  (try simp only [Act.put, List.getElem_toArray, List.getElem_cons_zero, List.getElem_cons_succ, List.setIfInBounds_toArray, List.set_cons_zero, List.set_cons_succ])
  refine wpAnyH_take (i := 12) (v := ?_) rfl (by kernel_rfl) (by kernel_rfl) (by kernel_rfl) (fun _ _ _ h => h) (Or.inl ⟨by rfl, ?_⟩) (by assumption) ?_
  rotate_left
  · intro w hSw; (try dsimp only at hSw); go_simp; (try with_reducible rfl)
  (try simp only [Act.put, List.getElem_toArray, List.getElem_cons_zero, List.getElem_cons_succ, List.setIfInBounds_toArray, List.set_cons_zero, List.set_cons_succ])
  refine wpAnyH_take (i := 13) (v := .agg (ldv vb ga gs n r)) rfl (by kernel_rfl) (by kernel_rfl) (by kernel_rfl) (fun _ _ _ h => h) (yieldsIf_load_mid (by rfl) 30 (.tmp 4) rfl S 0 rfl (ldv vb ga gs n r).toList _ (fun w hw => hw.1) Tryd.underlying30 rfl info_ld) (by assumption) ?_
  (try simp only [Act.put, List.getElem_toArray, List.getElem_cons_zero, List.getElem_cons_succ, List.setIfInBounds_toArray, List.set_cons_zero, List.set_cons_succ])
  refine wpAnyH_take (i := 14) (v := ?_) rfl (by kernel_rfl) (by kernel_rfl) (by kernel_rfl) (fun _ _ _ h => h) (Or.inl ⟨by rfl, ?_⟩) (by assumption) ?_
  rotate_left
  · intro w hSw; (try dsimp only at hSw); go_simp; (try with_reducible rfl)
  (try simp only [Act.put, List.getElem_toArray, List.getElem_cons_zero, List.getElem_cons_succ, List.setIfInBounds_toArray, List.set_cons_zero, List.set_cons_succ])
  refine wpAnyH_ready (rs := [15]) (by kernel_rfl) (by simp) ?_
  refine AllReadyH.cons rfl (fun K hK => ?_) AllReadyH.nil
  go_simp
  have hSd : Rw w1.drew gs n sz := hS1.out
  with_reducible refine (wide_any hSd k hk hn).mono ?_
  rintro e w2 ⟨rfl, hb2⟩
  refine hK.out _ _ ⟨range_below hHeld.1 hb2, keep_cell hb2 hHeld.2.1, keep_cell hb2 hHeld.2.2.1, keep_cell hb2 hHeld.2.2.2⟩ (fun hHeld2 => ?_)
  clear hK K
  (try simp only [Act.put, List.getElem_toArray, List.getElem_cons_zero, List.getElem_cons_succ, List.setIfInBounds_toArray, List.set_cons_zero, List.set_cons_succ])
  refine wpAnyH_ready (rs := [16]) (by kernel_rfl) (by simp) ?_
  refine AllReadyH.cons rfl (fun K hK => ?_) AllReadyH.nil
  go_simp
  with_reducible refine (branch_any _ _ _ _).mono ?_
  rintro e w3 ⟨rfl, hb3⟩
  refine hK.out _ _ ⟨range_below hHeld2.1 hb3, keep_cell hb3 hHeld2.2.1, keep_cell hb3 hHeld2.2.2.1, keep_cell hb3 hHeld2.2.2.2⟩ (fun hHeld3 => ?_)
  clear hK K
  (try simp only [Act.put, List.getElem_toArray, List.getElem_cons_zero, List.getElem_cons_succ, List.setIfInBounds_toArray, List.set_cons_zero, List.set_cons_succ])
  have q1 : S + 2 ≤ w1.drew.heap.size := by rw [← hsz]; exact Nat.le_refl _
  have q2 := Nat.le_trans q1 hb2.size
  have q3 := Nat.le_trans q2 hb3.size
  have hZ3 := (hb3.block (S + 1) (by omega)).trans ((hb2.block (S + 1) (by omega)).trans (show w1.drew.heap[S + 1]? = _ from hZ.out))
  have O3 := setRow_offA w3 (S + 1) (inv (brI c (at_ g - at_ k - 4) (sz k != 2)))
  have hR3 := setRow_heap _ _ _ (inv (brI c (at_ g - at_ k - 4) (sz k != 2))) _ _ hZ3
  refine wpAnyH_ready (rs := [17]) (by kernel_rfl) (by simp) ?_
  refine AllReadyH.cons rfl (fun K hK => ?_) AllReadyH.nil
  refine wp_store_row 36 (.tmp 8) (.tmp 25) rfl (S + 1) (inv (brI c (at_ g - at_ k - 4) (sz k != 2))) rfl rfl 36 _ hZ3 info_in rfl (one_in _) ?_
  have hgA : ga ≠ S + 1 ∧ gs ≠ S + 1 := ⟨fun e => by have y := hA1.out; unfold Rw at y; rw [e, hZ.out] at y; simp at y, fun e => by have y := hS1.out; unfold Rw at y; rw [e, hZ.out] at y; simp at y⟩
  refine hK.out _ _ ⟨range_off hHeld3.1 O3 (by simp), cell_off hHeld3.2.1 O3 (by simp), cell_off hHeld3.2.2.1 O3 (by simpa using hgA.1), cell_off hHeld3.2.2.2 O3 (by simpa using hgA.1)⟩ (fun hHeld4 => ?_)
  clear hK K
  refine wpAnyH_done (by kernel_rfl) ?_ _
  have hfin : Below S w (w3.setRow (S + 1) (inv (brI c (at_ g - at_ k - 4) (sz k != 2)))) := below_setRow ((hBo.out.drew.trans (hb2.mono (by omega))).trans (hb3.mono (by omega))) (by omega) _
  go_wp2_with fail
  refine bodyPost_ret (v := .agg (inv (brI c (at_ g - at_ k - 4) (sz k != 2)))) ?_ rfl ⟨rfl, by rw [hSz]; exact hfin⟩
  exact results_cell_row (fn := Tryd.f31) rfl _ _ (S + 1) 36 _ (0, 0) _ rfl hR3 Tryd.underlying36 rfl info_in
end Go.Proofs.YtegefbndpkbooaaDoor.Asm

