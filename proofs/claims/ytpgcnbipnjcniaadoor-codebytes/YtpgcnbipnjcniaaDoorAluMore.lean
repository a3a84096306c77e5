/- Further plain facts: other bits, differences, turns. -/
import Derived.Test.YtpgcnbipnjcniaaDoorAluRest
set_option linter.unusedVariables false
namespace Go.Proofs.YtpgcnbipnjcniaaDoor.Alu
open Go.RowKit

theorem xor_ones (a : Nat) (h : a < 4294967296) : 4294967295 ^^^ a = 4294967295 - a := by
  have e : (BitVec.allOnes 32 ^^^ BitVec.ofNat 32 a).toNat = (~~~ BitVec.ofNat 32 a).toNat := by rw [BitVec.allOnes_xor]
  rw [BitVec.toNat_xor, BitVec.toNat_not, BitVec.toNat_allOnes, BitVec.toNat_ofNat, Nat.mod_eq_of_lt (by omega)] at e
  simpa using e
theorem not32 (a : Int) (h : 0 ≤ a) (h2 : a ≤ 4294967295) : bits .xor .u32 IntKind.u32.max a = 4294967295 - a := by
  obtain ⟨A, rfl⟩ := Int.eq_ofNat_of_zero_le h
  rw [show IntKind.u32.max = ((4294967295 : Nat) : Int) from rfl, u32_xor_nat _ _ (by decide) (by omega), xor_ones A (by omega)]
  omega
theorem bit_shr (x n : Int) (hx : 0 ≤ x) (hx2 : x < 4294967296) (h0 : 0 ≤ n) (h1 : n < 32) : bits .and .u32 (x / 2 ^ n.toNat) 1 = bit x n := by
  have hs := shr_bd x n.toNat hx hx2
  rw [bits_and1 _ hs.1 hs.2]; unfold bit; rw [if_pos ⟨h0, h1⟩]
theorem take_S (x y : Int) (hx : 0 ≤ x) (hx2 : x < 4294967296) (hy : 0 ≤ y) (hy2 : y < 4294967296) : addS x (4294967295 - y) 1 = (x - y) % 4294967296 := by
  unfold addS; rw [b01_one]; omega
theorem take_C (x y : Int) (hx : 0 ≤ x) (hx2 : x < 4294967296) (hy : 0 ≤ y) (hy2 : y < 4294967296) : addC x (4294967295 - y) 1 = if y ≤ x then 1 else 0 := by
  unfold addC; rw [b01_one]; split <;> omega
theorem take_V (x y : Int) (hx : 0 ≤ x) (hx2 : x < 4294967296) (hy : 0 ≤ y) (hy2 : y < 4294967296) :
    addV x (4294967295 - y) 1 = if (x - y) % 4294967296 / 2147483648 = 1 then (if sg x < sg y then 0 else 1) else (if sg x < sg y then 1 else 0) := by
  unfold addV; rw [take_S x y hx hx2 hy hy2, b01_one]; unfold sg
  split <;> split <;> split <;> split <;> (try split) <;> (try split) <;> omega
theorem ret_bool {a b : Bool} (h : a = b) : Ending.returned (.bool a) = .returned (.bool b) := by rw [h]
theorem take_test (x y : Int) (hx : 0 ≤ x) (hx2 : x < 4294967296) (hy : 0 ≤ y) (hy2 : y < 4294967296) :
    (((x - y) % 4294967296 / 2147483648 != addV x (4294967295 - y) 1) == decide (wrap32 x < wrap32 y)) = true := by
  have hx' : wrap32 x = sg x := by unfold wrap32 sg; split <;> omega
  have hy' : wrap32 y = sg y := by unfold wrap32 sg; split <;> omega
  rw [take_V x y hx hx2 hy hy2, hx', hy']
  have hs : (x - y) % 4294967296 / 2147483648 = 1 ∨ (x - y) % 4294967296 / 2147483648 = 0 := by omega
  rcases hs with h | h <;> by_cases g : sg x < sg y <;> simp [h, g]
theorem pair_sum (a b c d : Int) (ha : 0 ≤ a) (ha2 : a < 4294967296) (hb : 0 ≤ b) (hb2 : b < 4294967296) (hc : 0 ≤ c) (hc2 : c < 4294967296) (hd : 0 ≤ d) (hd2 : d < 4294967296) :
    addS b d (addC a c 0) * 4294967296 + addS a c 0 = (b * 4294967296 + a + (d * 4294967296 + c)) % 18446744073709551616 := by
  unfold addS addC b01; rw [if_pos rfl]; split <;> omega
theorem pair_less (a b c d : Int) (ha : 0 ≤ a) (ha2 : a < 4294967296) (hb : 0 ≤ b) (hb2 : b < 4294967296) (hc : 0 ≤ c) (hc2 : c < 4294967296) (hd : 0 ≤ d) (hd2 : d < 4294967296) :
    addS b (4294967295 - d) (addC a (4294967295 - c) 1) * 4294967296 + addS a (4294967295 - c) 1 = (b * 4294967296 + a - (d * 4294967296 + c)) % 18446744073709551616 := by
  unfold addS addC; rw [b01_one]; unfold b01; split <;> omega
theorem pair_borrow (a b c d : Int) (ha : 0 ≤ a) (ha2 : a < 4294967296) (hb : 0 ≤ b) (hb2 : b < 4294967296) (hc : 0 ≤ c) (hc2 : c < 4294967296) (hd : 0 ≤ d) (hd2 : d < 4294967296) :
    addC b (4294967295 - d) (addC a (4294967295 - c) 1) = if b * 4294967296 + a < d * 4294967296 + c then 0 else 1 := by
  unfold addC; rw [b01_one]; unfold b01; split <;> split <;> omega
theorem wrap32_sg (x : Int) (hx : 0 ≤ x) (hx2 : x < 4294967296) : wrap32 x = sg x := by unfold wrap32 sg; split <;> omega
/-- A word that is turned by n bits, and then by 32 less n, is the word. -/
theorem turn_back (x n : Int) (hx : 0 ≤ x) (hx2 : x < 4294967296) (hn : 0 ≤ n) (hn2 : n ≤ 32) : shW 3 (shW 3 x n.toNat) (32 - n).toNat = x := by
  have b1 := shW_bd 3 x hx hx2 n.toNat
  have b2 := shW_bd 3 _ b1.1 b1.2 (32 - n).toNat
  refine word_eq _ _ b2.1 b2.2 hx hx2 fun i hi hi2 => ?_
  rw [shW_bit 3 _ (by decide) (by decide) b1.1 b1.2 _ i hi hi2]
  have hs : ∀ (i : Int) (m : Nat), src 3 i m = (i + m) % 32 := by intro i m; unfold src; simp
  rw [hs, shW_bit 3 x (by decide) (by decide) hx hx2 _ _ (by omega) (by omega), hs]
  congr 1; omega
/-- Shifted up and back a word keeps its other bits. -/
theorem out_back (x n : Int) (hx : 0 ≤ x) (hx2 : x < 4294967296) (hn : 0 ≤ n) (hn2 : n ≤ 32) (j : Nat) (hj : j < 32) :
    bit (shW 1 (shW 0 x n.toNat) n.toNat) j = if (j : Int) < 32 - n then bit x j else 0 := by
  have b1 := shW_bd 0 x hx hx2 n.toNat
  rw [shW_bit 1 _ (by decide) (by decide) b1.1 b1.2 _ j (by omega) (by omega)]
  have h1 : src 1 j (n.toNat : Nat) = j + n := by unfold src; simp; omega
  rw [h1]
  by_cases h : (j : Int) < 32 - n
  · rw [if_pos h, shW_bit 0 x (by decide) (by decide) hx hx2 _ _ (by omega) (by omega)]
    have h0 : src 0 (j + n) (n.toNat : Nat) = j := by unfold src; simp; omega
    rw [h0]
  · rw [if_neg h, bit_out _ _ (by omega)]
theorem sg_word (y : Int) (hy : 0 ≤ y) (hy2 : y < 4294967296) : sg y % 4294967296 = y := by unfold sg; split <;> omega
theorem half_sg (y : Int) (hy : 0 ≤ y) (hy2 : y < 4294967296) :
    wrap32 ((wrap32 (sg y - wrap32 (bits BinOp.and IntKind.u32 (sg y % 4294967296) 1))).tdiv 2) = sg (one 2 y) := by
  rw [sg_word y hy hy2, bits_and1 y hy hy2]
  have e : (2 : Int) * ((sg y - y % 2) / 2) = sg y - y % 2 := by unfold sg; split <;> omega
  have hb := sg_bd y hy hy2
  have e1 : wrap32 (y % 2) = y % 2 := by unfold wrap32; omega
  have e2 : wrap32 (sg y - y % 2) = sg y - y % 2 := by
    unfold wrap32; unfold sg at hb ⊢; split <;> omega
  rw [e1, e2, ← e, Int.mul_comm, Int.mul_tdiv_cancel _ (by decide)]
  rw [show one 2 y = y / 2 + y / 2147483648 * 2147483648 from rfl]
  unfold wrap32 sg
  split <;> split <;> omega
end Go.Proofs.YtpgcnbipnjcniaaDoor.Alu
