/- The document's signLen. -/
import Derived.Test.YtimiglepogeeiaaDoorLexSign
import Derived.Great.BuildSlice
import Derived.Deep.WholeRow
import Derived.Lib.Builder
import Derived.Deep.QuietTactic
import Derived.BigQuiet
set_option linter.unusedVariables false
set_option linter.unusedSimpArgs false
namespace Go.Proofs.YtimiglepogeeiaaDoor.Lex
open Go.RowKit

theorem below_dn {B : Nat} {a b : World} (h : Below B a b) (k : Nat) : Below B a (b.drewN k) := ⟨h.os, h.tape, h.output, h.size, h.block⟩
def zerA : Array Value := Array.replicate 26 (.string ⟨#[]⟩)
theorem zeroA : ∀ w, (zeroValue 97).run Tryd.prog w = .ok (.agg zerA) w :=
  (zero_of_info (P := Tryd.prog) (t := 97) (v := .agg zerA) (n := 26) (by kernel_rfl)).1
theorem sgA_at (L : List (List UInt8)) (hL : L.length = 26) (k : Nat) (hk : k < 26) : (sgA L)[k]? = some (.string (S (L.getD k []))) := by
  simp [sgA, List.getD, List.getElem?_eq_getElem (show k < L.length by omega)]
theorem signR_len (k : Nat) (hk : k < 26) : 1 ≤ (signR.getD k []).length ∧ (signR.getD k []).length ≤ 3 := by
  have h : ∀ k, k < 26 → 1 ≤ (signR.getD k []).length ∧ (signR.getD k []).length ≤ 3 := by decide
  exact h k hk

theorem piece_is (s : ByteArray) (a : Nat) (g : List UInt8) (h : a + g.length ≤ s.size) : ((s.extract a (a + g.length)).toList == (S g).toList) = g.isPrefixOf ((B s).drop a) := by
  have := Lib.hasPrefix_of_take ((B s).drop a) g
  rw [decide_eq_true (by rw [List.length_drop, B_len]; omega), Bool.true_and] at this
  rw [Lib.extract_toList, Lib.toList_data, show a + g.length - a = g.length by omega]
  exact this
theorem piece_no (s : ByteArray) (a : Nat) (g : List UInt8) (h : ¬ a + g.length ≤ s.size) (ha : a < s.size) : g.isPrefixOf ((B s).drop a) = false := by
  have := Lib.hasPrefix_of_take ((B s).drop a) g
  rw [decide_eq_false (by rw [List.length_drop, B_len]; omega), Bool.false_and] at this
  exact this.symm

set_option maxRecDepth 100000 in
set_option maxHeartbeats 2000000 in
theorem signLen_any (s : ByteArray) (a : Nat) (ha : a < s.size) (w : World) (hs : s.size ≤ 100000) : Calls Tryd.prog 33 #[.string s, .int .i64 a] w fun e w' => e = .returned (.int .i64 (sgn ((B s).drop a))) ∧ Below w.heap.size w w' := by
  have hl := B_len s
  have hz := zeroA
  go_enter Tryd.func33, Tryd.ntmps33
  go_wp2_with (first
    | (refine wpList_buildTo rfl 97 _ rfl _ rfl (sgA signR) (by kernel_rfl) ?_)
    | (refine wpList_store_rowTo rfl 97 _ _ rfl rfl _ (sgA signR) rfl rfl 97 zerA (heap_alloc_last _ _) (by kernel_rfl) (by kernel_rfl) (by kernel_rfl) ?_; rw [World.setRow_alloc_new]))
  go_loopw [6] (fun i wr => ∃ k : Nat, k ≤ 26 ∧ i = .int .i64 k ∧ sgnL signR ((B s).drop a) = sgnL (signR.drop k) ((B s).drop a) ∧ Below w.heap.size w wr ∧ wr.heap[w.heap.size]? = some (.cells (sgA signR) 97 (0, 0))) (fun i _ => 26 - (intOf i).toNat)
  case atStart => exact ⟨0, by omega, rfl, rfl, (Below.refl _ _).alloc (Nat.le_refl _) _, heap_alloc_last _ _⟩
  case round =>
    obtain ⟨k, hk, rfl, he, hb, hrow⟩ := hrel
    by_cases hlt : k < 26
    · have ht0 := sgA_at signR rfl k hlt
      have hst : Hid (_ = _) := sgnL_step signR ((B s).drop a) k hlt
      have hlen := signR_len k hlt
      have hHB : Hid (Below w.heap.size w wr) := hb
      have hHR : Hid (wr.heap[w.heap.size]? = some (.cells (sgA signR) 97 (0, 0))) := hrow
      generalize hg : signR.getD k [] = g at *
      have ht : wr.cell? ⟨w.heap.size, k, none⟩ = some (.string (S g)) := by
        rw [Lib.cell_of_heap hrow, ht0]
      clear hb hrow ht0
      have hgz : (S g).size = g.length := rfl
      by_cases hf : a + g.length ≤ s.size
      · have hd : decide ((a : Int) + g.length ≤ s.size) = true := by simp; omega
        have hj1 : (a : Int) + g.length ≤ s.size := by omega
        have hj2 : (a : Int) ≤ (a : Int) + g.length := by omega
        have hj0 : (0 : Int) ≤ (a : Int) := by omega
        go_wp2_with fail
        go_quiet (fail)
        go_wp2_with fail
        · have hp : g.isPrefixOf ((B s).drop a) = true := by rw [← piece_is s a g hf]; assumption
          go_ret
          refine ⟨ret_i ?_, below_dn hHB.out nq⟩
          rw [sgn_ref, he, hst.out, if_pos hp]
        · have hp : g.isPrefixOf ((B s).drop a) = false := by rw [← piece_is s a g hf]; assumption
          exact ⟨⟨k + 1, by omega, by go_num, by rw [he, hst.out, hp]; rfl, below_dn hHB.out nq, hHR.out⟩, by simp [intOf]; omega⟩
      · have hd : decide ((a : Int) + g.length ≤ s.size) = false := by simp; omega
        go_wp2_with fail
        go_quiet (fail)
        go_wp2_with fail
        have hp := piece_no s a g hf ha
        exact ⟨⟨k + 1, by omega, by go_num, by rw [he, hst.out, hp]; rfl, below_dn hHB.out nq, hHR.out⟩, by simp [intOf]; omega⟩
    · go_wp2_with fail
      go_ret
      refine ⟨ret_i ?_, hb⟩
      rw [sgn_ref, he, List.drop_of_length_le (show signR.length ≤ k by show 26 ≤ k; omega)]
      rfl

end Go.Proofs.YtimiglepogeeiaaDoor.Lex

