/- Whether all items may be: package asm. -/
import Derived.Test.YtegefbndpkbooaaDoorAsmRight0
import Derived.Deep.WholeRow
import Derived.Deep.MidRow
import Derived.Great.BuildSlice
set_option linter.unusedVariables false
set_option linter.unusedSimpArgs false
namespace Go.Proofs.YtegefbndpkbooaaDoor.Asm
open Go.RowKit Go.Proofs.YtegefbndpkbooaaDoor.Core Go.Proofs.YtegefbndpkbooaaDoor.Alu

def allB (n : Nat) (X : Nat → It) : Bool := (List.range n).all fun i => rightT (X i)
theorem allB_iff {n : Nat} {X : Nat → It} : allB n X = true ↔ ∀ i, i < n → rightT (X i) = true := by
  unfold allB
  rw [List.all_eq_true]
  exact ⟨fun h i hi => h i (List.mem_range.2 hi), fun h i hi => h i (List.mem_range.1 hi)⟩
theorem allB_no {n : Nat} {X : Nat → It} {i : Nat} (hi : i < n) (h : rightT (X i) = false) : allB n X = false := by
  cases e : allB n X
  · rfl
  · rw [allB_iff.1 e i hi] at h; cases h

set_option maxRecDepth 100000 in
set_option maxHeartbeats 2000000 in
theorem allRight_any (p : Option Addr) (n cap : Nat) (X : Nat → It) (w : World) (hI : Items w p n X) (hn : n ≤ 10000) (hL : Inst.Laid w) :
    Calls Tryd.prog 17 #[.slice p n cap] w fun e w' => e = .returned (.bool (allB n X)) ∧ Below w.heap.size w w' := by
  have hn' : (n : Int) ≤ 10000 := by omega
  go_enter Tryd.func17, Tryd.ntmps17
  go_wp2_with fail
  go_loopw [7] (fun s7 wr => ∃ k : Nat, k ≤ n ∧ s7 = .int .i64 k ∧ (∀ i, i < k → rightT (X i) = true) ∧ Below w.heap.size w wr) (fun s7 _ => n - (intOf s7).toNat)
  case atStart => exact ⟨0, Nat.zero_le _, rfl, fun i hi => by omega, Below.refl _ _⟩
  case round =>
    obtain ⟨k, hk, rfl, hr, hb⟩ := hrel
    by_cases hlt : k < n
    · have hlt' : (k : Int) < n := by omega
      rcases hI.cells with h0 | ⟨b, off, rfl, hbl, hcl⟩
      · omega
      have hrow := hide (range_below (hcl k hlt) hb)
      have hL2 : Inst.Laid (wr.alloc (.cells (itv (X k)) 38)) := hL.below (hb.alloc hb.size _)
      have hb2 := hb.alloc hb.size (.cells (itv (X k)) 38)
      have HR := hide hr
      clear hr hcl
      go_wp2_with (first
        | (refine wpList_load_mid rfl 38 (.tmp 9) rfl b (off + k * 15) rfl (itv (X k)).toList _ (unhide hrow) Tryd.underlying38 rfl info_it ?_)
        | (refine wpList_store_rowTo rfl 38 (.tmp 4) (.tmp 10) rfl rfl _ (itv (X k)) rfl rfl 38 (itv zerT) (heap_alloc_last _ _) info_it rfl (one_it _) ?_; rw [World.setRow_alloc_new])
        | (refine wpList_load_row rfl 38 (.tmp 4) rfl _ rfl 38 _ (0, 0) _ (heap_alloc_last _ _) Tryd.underlying38 rfl info_it ?_))
      refine (Right_any (X k) _ hL2).mono ?_
      rintro e w3 ⟨rfl, hb3⟩
      have hb4 := hb2.trans (hb3.mono hb2.size)
      clear hb3
      cases hx : rightT (X k)
      · go_wp2_with fail
        go_ret
        exact ⟨ret_bool (allB_no hlt hx).symm, hb4⟩
      · go_wp2_with fail
        go_roundw
        case rel => exact ⟨k + 1, by omega, by go_num, fun i hi => (by rcases (show i < k ∨ i = k by omega) with h | rfl; exact HR.out i h; exact hx), hb4⟩
        case measure => simp [intOf]; omega
    · obtain rfl : k = n := by omega
      go_wp2_with fail
      go_ret
      exact ⟨ret_bool (allB_iff.2 hr).symm, hb⟩
end Go.Proofs.YtegefbndpkbooaaDoor.Asm

