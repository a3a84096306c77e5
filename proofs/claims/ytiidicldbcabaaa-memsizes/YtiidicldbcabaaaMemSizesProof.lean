/- For every number the statement MemSizes returns true: just a flash of more than 64 KiB is too big.
Conditions: none. -/
import Derived.Test.YtiidicldbcabaaaRows
import Derived.WalkKit
import Derived.ProofKit
import Derived.OpenShut
import Derived.Test.YtiidicldbcabaaaEnds
import Derived.Test.YtiidicldbcabaaaMemLaws
namespace Go.Proofs.Ytiidicldbcabaaa.memSizes
open Go.ChangeShapes Go.WideShapes Go.ChangeAt Go.RowKit
open Mem
set_option linter.unusedVariables false

theorem own : ownKnob Try.prog.godebug = none := by kernel_rfl
theorem laidOut : laidOutB Try.prog = true := by kernel_rfl
theorem even_of (n : Int) (h : 0 ≤ n) (h2 : n ≤ 70000) : bits .andNot .i64 n 1 = n - n % 2 := by
  obtain ⟨k, rfl⟩ := Int.eq_ofNat_of_zero_le h
  show IntKind.i64.wrap ((BitVec.ofInt 64 (k : Int) &&& ~~~ BitVec.ofInt 64 1).toNat : Int) = _
  have e1 : (BitVec.ofInt 64 (k : Int)).toNat = k := by rw [BitVec.toNat_ofInt]; omega
  have e2 : (~~~ BitVec.ofInt 64 1).toNat = 18446744073709551614 := by decide
  have e : k &&& 18446744073709551614 = k / 2 * 2 := by
    apply Nat.eq_of_testBit_eq
    intro i
    rw [Nat.testBit_and]
    rcases i with _ | i
    · simp
    · rw [Nat.testBit_succ, Nat.testBit_succ, Nat.testBit_succ, show k / 2 * 2 / 2 = k / 2 by omega, show (18446744073709551614 : Nat) / 2 = 2 ^ 63 - 1 by decide, Nat.testBit_two_pow_sub_one]
      by_cases hi : i < 63
      · simp [hi]
      · have : (k / 2).testBit i = false := Nat.testBit_lt_two_pow (Nat.lt_of_lt_of_le (show k / 2 < 2 ^ 63 by omega) (Nat.pow_le_pow_right (by decide) (by omega)))
        rw [this]; simp
  rw [BitVec.toNat_and, e1, e2, e, IntKind.wrap_i64]
  omega
theorem half_off (n : Int) (h : 0 ≤ n) (h2 : n ≤ 65536) : hfE n.toNat (134217728 + (n - n % 2)) = 61 := by
  unfold hfE fp
  rw [if_pos (by omega), if_neg (by omega)]

set_option maxHeartbeats 1000000 in
theorem walk (a0 : Int) (w : World) (w0 : (Lit.int .i64 a0).wf = true) :
    Calls Try.prog 5 #[.int .i64 a0] w fun e w' => e = .returned (.bool true) ∧ Below w.heap.size w w' := by
  by_cases h1 : a0 < 0
  · go_enter Try.func5, Try.ntmps5
    go_wp2_with (go_at_call 8; refine (anchor_any _).mono ?_; rintro e w1 ⟨rfl, hb1⟩)
    go_ret
    exact ⟨rfl, hb1⟩
  by_cases h2 : 70000 < a0
  · go_enter Try.func5, Try.ntmps5
    go_wp2_with (go_at_call 8; refine (anchor_any _).mono ?_; rintro e w1 ⟨rfl, hb1⟩)
    go_ret
    exact ⟨rfl, hb1⟩
  obtain ⟨n, rfl⟩ := Int.eq_ofNat_of_zero_le (show 0 ≤ a0 by omega)
  have hmk := make_u8 n (by omega)
  have ev := even_of (n : Int) (by omega) (by omega)
  by_cases h3 : (65536 : Int) < n
  · go_enter Try.func5, Try.ntmps5
    go_wp2_with (first | (go_at_call 8; refine (anchor_any _).mono ?_; rintro e w1 ⟨rfl, hb1⟩) | (go_at_call 9; refine (New_big _ n n _ (by omega)).mono ?_; rintro e w' ⟨rfl, rfl⟩))
    go_ret
    exact ⟨rfl, hb1.alloc hb1.size _⟩
  · have hh := half_off (n : Int) (by omega) (by omega)
    rw [Int.toNat_natCast] at hh
    go_enter Try.func5, Try.ntmps5
    go_wp2_with (go_at_call 8; refine (anchor_any _).mono ?_; rintro e w1 ⟨rfl, hb1⟩)
    refine (New_ok _ n n (fun _ => 0) _ (.inr ⟨_, _, rfl, by simp, fun i hi => by rw [Nat.zero_add]; exact cell_row (heap_alloc_new _ _) i hi⟩) (by omega)).mono ?_
    rintro e w2 ⟨B, F, R, rfl, hI, hle, hb2⟩
    have hb3 := (hb1.alloc hb1.size (.cells (row .u8 n fun _ => 0) 5)).trans (hb2.mono (by have := hb1.size; simp; omega))
    go_wp2_with (first | (go_at_call 15; refine (Half_any hI (fun _ _ => ⟨by decide, by decide⟩) (by omega) (134217728 + ((n : Int) - n % 2)) (by omega) (by omega)).mono ?_; rintro e w' ⟨rfl, rfl⟩; rw [hh]) | (go_at_call 18; refine (Flash_any hI (by omega)).mono ?_; rintro e w4 ⟨rfl, hg4, hb4⟩))
    go_ret
    exact ⟨rfl, hb3.trans (hb4.mono hb3.size)⟩

set_option maxRecDepth 100000 in
theorem lifted (os : Os) (started : os.Started) (H : Type) (enc : TypeId × Value → H) :
    ReturnsInHanded {} Try.checked os 5 .any (Rows.memSizesSpec.pre6 enc Try.prog Try.f5 Rows.memSizesRow.domain false) (Rows.memSizesSpec.post enc Try.prog Try.f5 false true false false) := by
  refine returnsInHanded_of_change (C := Try.checked) own started (by kernel_rfl) Try.func5
    (ChangeSpec.witness6 (enc := enc) (C := Try.checked) false ⟨#[], #[.int .i64 0], []⟩ 8 (by kernel_rfl) (by kernel_rfl) (by kernel_rfl) (by kernel_rfl)) ?_
  intro W base args ds gs before hval0 hW hcnd _
  have hval : ∀ (j : Nat) t v, Try.f5.params[j]? = some t → args[j]? = some v → Value.okWide Try.prog W .any base t v := hval0
  have hW' := hW
  obtain ⟨p, q, hA0, hV, rfl, hfz, hnd⟩ := hW
  have hA : DataW.TrodAll enc Try.prog W 0 (fun _ => true) true Try.f5.params.toList args.toList ds p := hA0
  rw [Try.params5] at hA hval
  obtain ⟨v0, vs0, d0, ds0, p0, q0, hargs, rfl, rfl, h0, r0⟩ := trodAll_cons hA
  obtain ⟨rfl, rfl, rfl⟩ := trodAll_nil r0
  obtain rfl : args = #[v0] := by cases args; simp_all
  obtain ⟨rfl, rfl⟩ := trodVars_none hV
  obtain ⟨a0, rfl, rfl, rfl, w0⟩ := open_int Try.underlying3 (hval 0 3 v0 rfl rfl) h0
  clear hA0 hval0
  simp only [List.append_nil] at hW'
  try simp only [List.nil_append] at hW'
  have hlt : ∀ x, x ∈ ([] : List MemPlace) → x.block < W.heap.size := fun x hx => by simpa using hW'.lt x hx
  refine (walk a0 W w0).mono fun e W' ⟨he, hg⟩ => ?_
  subst he
  exact ⟨_, rfl, Ends.post_of_below (pv := []) hW' (fun _ _ _ => (trodAll_cons_mk (shut_bool Try.underlying4 _) trodAll_mk0)) (trodAll_cons_mk (shut_int Try.underlying3 w0) trodAll_mk0) (fun _ _ => rfl) (by simp)
    (hg.frame _)⟩

theorem proved : Rows.MemSizesSaid :=
  OpenClaim.holds_of_wide 5 Try.f5 rfl rfl rfl rfl rfl rfl rfl ⟨rfl, rfl, rfl, rfl, rfl⟩ rfl rfl rfl rfl rfl (by kernel_rfl) Try.func5 (by kernel_rfl)
    (of_decide_eq_true (by kernel_rfl)) (by unfold Func.isWrapper; first | (rw [if_pos (by decide +kernel)]; kernel_rfl) | (rw [if_neg (by decide +kernel)]; exact ⟨rfl, rfl⟩))
    (fun os started H enc _ => lifted os started H enc)
#print axioms proved
end Go.Proofs.Ytiidicldbcabaaa.memSizes
