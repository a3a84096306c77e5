/- What each function of package alu, and each of the document's own, answers: contracts. -/
import Derived.Test.YtpgcnbipnjcniaaDoorChecked
import Derived.Test.YtpgcnbipnjcniaaDoorAluMath
import Derived.ProofKit
import Derived.Handy
import Derived.Outline
set_option linter.unusedVariables false
namespace Go.Proofs.YtpgcnbipnjcniaaDoor.Alu
open Go.RowKit

theorem ret_int {k : IntKind} {a b : Int} (h : a = b) : Ending.returned (.int k a) = .returned (.int k b) := by rw [h]
theorem ret_ints2 {k l : IntKind} {a b c d : Int} (h : a = b) (g : c = d) : Ending.returned (.tuple #[.int k a, .int l c]) = .returned (.tuple #[.int k b, .int l d]) := by rw [h, g]
theorem ret_ints3 {k l m : IntKind} {a b c d e f : Int} (h : a = b) (g : c = d) (i : e = f) : Ending.returned (.tuple #[.int k a, .int l c, .int m e]) = .returned (.tuple #[.int k b, .int l d, .int m f]) := by rw [h, g, i]

theorem asBit_any (c : Int) (w : World) :
    Calls Tryd.prog 85 #[.int .u32 c] w fun e w' => e = .returned (.int .u32 (b01 c)) ∧ w' = w := by
  by_cases h : c = 0
  · have hb : (c != 0) = false := by simp [h]
    go_enter Tryd.func85, Tryd.ntmps85
    go_wp2
    go_ret
    exact ⟨ret_int (by simp [b01, h]), rfl⟩
  · have hb : (c != 0) = true := by simp [h]
    go_enter Tryd.func85, Tryd.ntmps85
    go_wp2
    go_ret
    exact ⟨ret_int (by simp [b01, h]), rfl⟩

theorem bits_and1 (x : Int) (hx : 0 ≤ x) (hx2 : x < 4294967296) : bits .and .u32 x 1 = x % 2 := by
  rw [u32_and x 1 hx hx2 (by decide) (by decide), show (1 : Int).toNat = 1 from rfl, nat_mask1]; omega

theorem shr_bd (x : Int) (n : Nat) (hx : 0 ≤ x) (hx2 : x < 4294967296) : 0 ≤ x / 2 ^ n ∧ x / 2 ^ n < 4294967296 := by
  have hp : (0 : Int) < 2 ^ n := Int.pow_pos (by decide)
  refine ⟨Int.ediv_nonneg hx (by omega), Int.lt_of_le_of_lt (Int.ediv_le_self _ hx) hx2⟩

theorem Bit_any (x n : Int) (hx : 0 ≤ x) (hx2 : x < 4294967296) (w : World) :
    Calls Tryd.prog 72 #[.int .u32 x, .int .i64 n] w fun e w' => e = .returned (.int .u32 (bit x n)) ∧ w' = w := by
  have hs := shr_bd x n.toNat hx hx2
  by_cases h1 : n < 0
  · go_enter Tryd.func72, Tryd.ntmps72
    go_wp2
    go_ret
    exact ⟨ret_int (by rw [bit_out _ _ (by omega)]), rfl⟩
  · by_cases h2 : 32 ≤ n
    · go_enter Tryd.func72, Tryd.ntmps72
      go_wp2
      go_ret
      exact ⟨ret_int (by rw [bit_out _ _ (by omega)]), rfl⟩
    · go_enter Tryd.func72, Tryd.ntmps72
      go_wp2
      go_ret
      exact ⟨ret_int (by rw [bits_and1 _ hs.1 hs.2]; unfold bit; rw [if_pos (by omega)]), rfl⟩

theorem topBit_any (x : Int) (hx : 0 ≤ x) (hx2 : x < 4294967296) (w : World) :
    Calls Tryd.prog 87 #[.int .u32 x] w fun e w' => e = .returned (.int .u32 (x / 2147483648)) ∧ w' = w := by
  go_enter Tryd.func87, Tryd.ntmps87
  go_wp2_with (go_at_call 72; refine (Bit_any _ _ hx hx2 _).mono ?_; rintro e w' ⟨rfl, rfl⟩)
  go_ret
  exact ⟨ret_int (top_bit x hx hx2).symm, rfl⟩

theorem lowBit_any (x : Int) (hx : 0 ≤ x) (hx2 : x < 4294967296) (w : World) :
    Calls Tryd.prog 88 #[.int .u32 x] w fun e w' => e = .returned (.int .u32 (x % 2)) ∧ w' = w := by
  go_enter Tryd.func88, Tryd.ntmps88
  go_wp2_with (go_at_call 72; refine (Bit_any _ _ hx hx2 _).mono ?_; rintro e w' ⟨rfl, rfl⟩)
  go_ret
  exact ⟨ret_int (low_bit x).symm, rfl⟩

/-- The top bit of what Add looks at: both summands have one sign, the low bits the other. -/
theorem over_eq (x y s : Int) (hx : 0 ≤ x) (hx2 : x < 4294967296) (hy : 0 ≤ y) (hy2 : y < 4294967296) (hs : 0 ≤ s) (hs2 : s < 4294967296) :
    bits .and .u32 (bits .xor .u32 x s) (bits .xor .u32 y s) / 2147483648 = if x / 2147483648 ≠ s / 2147483648 ∧ y / 2147483648 ≠ s / 2147483648 then 1 else 0 := by
  obtain ⟨X, rfl⟩ := Int.eq_ofNat_of_zero_le hx
  obtain ⟨Y, rfl⟩ := Int.eq_ofNat_of_zero_le hy
  obtain ⟨S, rfl⟩ := Int.eq_ofNat_of_zero_le hs
  have a1 : X ^^^ S < 2 ^ 32 := Nat.xor_lt_two_pow (by omega) (by omega)
  have a2 : Y ^^^ S < 2 ^ 32 := Nat.xor_lt_two_pow (by omega) (by omega)
  have a3 : (X ^^^ S) &&& (Y ^^^ S) < 2 ^ 32 := Nat.and_lt_two_pow _ a2
  rw [u32_xor_nat _ _ (by omega) (by omega), u32_xor_nat _ _ (by omega) (by omega), u32_and_nat _ _ (by omega) (by omega)]
  have t : ∀ Z : Nat, Z < 2 ^ 32 → ((Z : Int) / 2147483648) = ((Z.testBit 31).toNat : Int) := by
    intro Z hZ
    rw [top_bit _ (by omega) (by omega), show (31 : Int) = ((31 : Nat) : Int) from rfl, bit_nat _ _ (by omega)]
  rw [t _ a3, t X (by omega), t Y (by omega), t S (by omega), Nat.testBit_and, Nat.testBit_xor, Nat.testBit_xor]
  cases X.testBit 31 <;> cases Y.testBit 31 <;> cases S.testBit 31 <;> simp

theorem bits_u32_bd (o : BinOp) (a b : Int) : 0 ≤ bits o .u32 a b ∧ bits o .u32 a b < 4294967296 := by
  unfold bits
  simp only [IntKind.wrap_u32]
  omega

theorem addV_eq (x y c : Int) (hx : 0 ≤ x) (hx2 : x < 4294967296) (hy : 0 ≤ y) (hy2 : y < 4294967296) :
    (if x / 2147483648 ≠ addS x y c / 2147483648 ∧ y / 2147483648 ≠ addS x y c / 2147483648 then (1 : Int) else 0) = addV x y c := by
  have hb := b01_bd c
  unfold addV addS sg
  generalize b01 c = b at *
  split <;> split <;> split <;> split <;> (try split) <;> omega

theorem sg_bd (x : Int) (hx : 0 ≤ x) (hx2 : x < 4294967296) : -2147483648 ≤ sg x ∧ sg x ≤ 2147483647 := by unfold sg; split <;> omega

theorem addV_mk (x y c s v : Int) (b : Int) (hb : b01 c = b) (hs : (x + y + b) % 4294967296 = s) (h : (sg x + sg y + b != sg s) = (v == 1)) (hv : v = 0 ∨ v = 1) : v = addV x y c := by
  unfold addV addS; rw [hb, hs]
  rcases hv with rfl | rfl
  · rw [if_pos (by simpa using h)]
  · rw [if_neg (by simpa using h)]

theorem or_turn (x : Int) (hx : 0 ≤ x) (hx2 : x < 4294967296) : bits .or .u32 (x / 2) (x * 2147483648 % 4294967296) = x / 2 + x % 2 * 2147483648 := by
  obtain ⟨X, rfl⟩ := Int.eq_ofNat_of_zero_le hx
  have e1 : (X : Int) / 2 = ((X / 2 : Nat) : Int) := by omega
  have e2 : (X : Int) * 2147483648 % 4294967296 = ((X % 2 * 2147483648 : Nat) : Int) := by omega
  rw [e1, e2, u32_or_nat _ _ (by omega) (by omega), Nat.or_comm, nat_join 31 _ _ (by omega) (by omega)]
  omega

theorem shiftByOne_any (k x : Int) (hk : 0 ≤ k) (hk2 : k ≤ 3) (hx : 0 ≤ x) (hx2 : x < 4294967296) (w : World) :
    Calls Tryd.prog 86 #[.int .i64 k, .int .u32 x] w fun e w' => e = .returned (.tuple #[.int .u32 (one k x), .int .u32 (out1 k x)]) ∧ w' = w := by
  have hcase : k = 0 ∨ k = 1 ∨ k = 2 ∨ k = 3 := by omega
  rcases hcase with rfl | rfl | rfl | rfl
  · go_enter Tryd.func86, Tryd.ntmps86
    go_wp2_with (go_at_call 87; refine (topBit_any _ hx hx2 _).mono ?_; rintro e w' ⟨rfl, rfl⟩)
    go_ret2
    exact ⟨rfl, rfl⟩
  · go_enter Tryd.func86, Tryd.ntmps86
    go_wp2_with (go_at_call 88; refine (lowBit_any _ hx hx2 _).mono ?_; rintro e w' ⟨rfl, rfl⟩)
    go_ret2
    exact ⟨rfl, rfl⟩
  · go_enter Tryd.func86, Tryd.ntmps86
    go_wp2_with (go_at_call 88; refine (lowBit_any _ hx hx2 _).mono ?_; rintro e w' ⟨rfl, rfl⟩)
    go_ret2
    exact ⟨ret_ints2 (by unfold one wrap32; rw [if_neg (by decide), if_neg (by decide), if_pos rfl]; omega) rfl, rfl⟩
  · go_enter Tryd.func86, Tryd.ntmps86
    go_wp2_with (go_at_call 88; refine (lowBit_any _ hx hx2 _).mono ?_; rintro e w' ⟨rfl, rfl⟩)
    go_ret2
    exact ⟨ret_ints2 (by rw [or_turn x hx hx2]; rfl) rfl, rfl⟩
end Go.Proofs.YtpgcnbipnjcniaaDoor.Alu
