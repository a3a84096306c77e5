/- What each function of package alu, and each of the document's own, answers: contracts. -/
import Derived.Test.YthbleghkkhhcbaaChecked
import Derived.Test.YthbleghkkhhcbaaAluMath
import Derived.ProofKit
import Derived.Handy
import Derived.Outline
set_option linter.unusedVariables false
namespace Go.Proofs.Ythbleghkkhhcbaa.Alu
open Go.RowKit

theorem ret_int {k : IntKind} {a b : Int} (h : a = b) : Ending.returned (.int k a) = .returned (.int k b) := by rw [h]
theorem ret_ints2 {k l : IntKind} {a b c d : Int} (h : a = b) (g : c = d) : Ending.returned (.tuple #[.int k a, .int l c]) = .returned (.tuple #[.int k b, .int l d]) := by rw [h, g]
theorem ret_ints3 {k l m : IntKind} {a b c d e f : Int} (h : a = b) (g : c = d) (i : e = f) : Ending.returned (.tuple #[.int k a, .int l c, .int m e]) = .returned (.tuple #[.int k b, .int l d, .int m f]) := by rw [h, g, i]

theorem bits_and1 (x : Int) (hx : 0 ≤ x) (hx2 : x < 4294967296) : bits .and .u32 x 1 = x % 2 := by
  rw [u32_and x 1 hx hx2 (by decide) (by decide), show (1 : Int).toNat = 1 from rfl, nat_mask1]; omega

theorem shr_bd (x : Int) (n : Nat) (hx : 0 ≤ x) (hx2 : x < 4294967296) : 0 ≤ x / 2 ^ n ∧ x / 2 ^ n < 4294967296 := by
  have hp : (0 : Int) < 2 ^ n := Int.pow_pos (by decide)
  refine ⟨Int.ediv_nonneg hx (by omega), Int.lt_of_le_of_lt (Int.ediv_le_self _ hx) hx2⟩

/-- The top bit of what Add looks at: both summands have one sign, the low bits the other. -/
theorem over_eq (x y s : Int) (hx : 0 ≤ x) (hx2 : x < 4294967296) (hy : 0 ≤ y) (hy2 : y < 4294967296) (hs : 0 ≤ s) (hs2 : s < 4294967296) :
    bits .and .u32 (bits .xor .u32 x s) (bits .xor .u32 y s) / 2147483648 = if x / 2147483648 ≠ s / 2147483648 ∧ y / 2147483648 ≠ s / 2147483648 then 1 else 0 := by
  obtain ⟨X, rfl⟩ := Int.eq_ofNat_of_zero_le hx
  obtain ⟨Y, rfl⟩ := Int.eq_ofNat_of_zero_le hy
  obtain ⟨S, rfl⟩ := Int.eq_ofNat_of_zero_le hs
  have a1 : X ^^^ S < 2 ^ 32 := Nat.xor_lt_two_pow (by omega) (by omega)
  have a2 : Y ^^^ S < 2 ^ 32 := Nat.xor_lt_two_pow (by omega) (by omega)
  have a3 : (X ^^^ S) &&& (Y ^^^ S) < 2 ^ 32 := Nat.and_lt_two_pow _ a2
  rw [u32_xor_nat _ _ (by omega) (by omega), u32_xor_nat _ _ (by omega) (by omega), u32_and_nat _ _ (by omega) (by omega)]
  have t : ∀ Z : Nat, Z < 2 ^ 32 → ((Z : Int) / 2147483648) = ((Z.testBit 31).toNat : Int) := by
    intro Z hZ
    rw [top_bit _ (by omega) (by omega), show (31 : Int) = ((31 : Nat) : Int) from rfl, bit_nat _ _ (by omega)]
  rw [t _ a3, t X (by omega), t Y (by omega), t S (by omega), Nat.testBit_and, Nat.testBit_xor, Nat.testBit_xor]
  cases X.testBit 31 <;> cases Y.testBit 31 <;> cases S.testBit 31 <;> simp

theorem bits_u32_bd (o : BinOp) (a b : Int) : 0 ≤ bits o .u32 a b ∧ bits o .u32 a b < 4294967296 := by
  unfold bits
  simp only [IntKind.wrap_u32]
  omega

theorem addV_eq (x y c : Int) (hx : 0 ≤ x) (hx2 : x < 4294967296) (hy : 0 ≤ y) (hy2 : y < 4294967296) :
    (if x / 2147483648 ≠ addS x y c / 2147483648 ∧ y / 2147483648 ≠ addS x y c / 2147483648 then (1 : Int) else 0) = addV x y c := by
  have hb := b01_bd c
  unfold addV addS sg
  generalize b01 c = b at *
  split <;> split <;> split <;> split <;> (try split) <;> omega

theorem sg_bd (x : Int) (hx : 0 ≤ x) (hx2 : x < 4294967296) : -2147483648 ≤ sg x ∧ sg x ≤ 2147483647 := by unfold sg; split <;> omega

theorem addV_mk (x y c s v : Int) (b : Int) (hb : b01 c = b) (hs : (x + y + b) % 4294967296 = s) (h : (sg x + sg y + b != sg s) = (v == 1)) (hv : v = 0 ∨ v = 1) : v = addV x y c := by
  unfold addV addS; rw [hb, hs]
  rcases hv with rfl | rfl
  · rw [if_pos (by simpa using h)]
  · rw [if_neg (by simpa using h)]

theorem or_turn (x : Int) (hx : 0 ≤ x) (hx2 : x < 4294967296) : bits .or .u32 (x / 2) (x * 2147483648 % 4294967296) = x / 2 + x % 2 * 2147483648 := by
  obtain ⟨X, rfl⟩ := Int.eq_ofNat_of_zero_le hx
  have e1 : (X : Int) / 2 = ((X / 2 : Nat) : Int) := by omega
  have e2 : (X : Int) * 2147483648 % 4294967296 = ((X % 2 * 2147483648 : Nat) : Int) := by omega
  rw [e1, e2, u32_or_nat _ _ (by omega) (by omega), Nat.or_comm, nat_join 31 _ _ (by omega) (by omega)]
  omega