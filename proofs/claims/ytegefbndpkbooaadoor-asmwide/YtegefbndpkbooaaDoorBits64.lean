/- and, or of two numbers of kind int that are not negative. -/
import Derived.WalkKit
import Derived.Laws.BitsAllLaws
namespace Go.Proofs.YtegefbndpkbooaaDoor.Alu

theorem ofInt_i64 (a : Nat) (ha : a < 9223372036854775808) : (BitVec.ofInt 64 (a : Int)).toNat = a := by
  rw [BitVec.toNat_ofInt]; omega

theorem i64_or_nat (a b : Nat) (ha : a < 9223372036854775808) (hb : b < 9223372036854775808) : bits .or .i64 (a : Int) (b : Int) = ((a ||| b : Nat) : Int) := by
  have hx : a ||| b < 2 ^ 63 := Nat.or_lt_two_pow (by omega) (by omega)
  show IntKind.i64.wrap ((BitVec.ofInt 64 (a : Int) ||| BitVec.ofInt 64 (b : Int)).toNat : Int) = _
  rw [BitVec.toNat_or, ofInt_i64 a ha, ofInt_i64 b hb, IntKind.wrap_i64]
  omega

theorem i64_and_nat (a b : Nat) (ha : a < 9223372036854775808) (hb : b < 9223372036854775808) : bits .and .i64 (a : Int) (b : Int) = ((a &&& b : Nat) : Int) := by
  have hx : a &&& b < 2 ^ 63 := Nat.and_lt_two_pow _ (by omega)
  show IntKind.i64.wrap ((BitVec.ofInt 64 (a : Int) &&& BitVec.ofInt 64 (b : Int)).toNat : Int) = _
  rw [BitVec.toNat_and, ofInt_i64 a ha, ofInt_i64 b hb, IntKind.wrap_i64]
  omega

theorem i64_or (a b : Int) (h1 : 0 ≤ a) (h2 : a < 9223372036854775808) (h3 : 0 ≤ b) (h4 : b < 9223372036854775808) : bits .or .i64 a b = ((a.toNat ||| b.toNat : Nat) : Int) := by
  obtain ⟨A, rfl⟩ := Int.eq_ofNat_of_zero_le h1
  obtain ⟨B, rfl⟩ := Int.eq_ofNat_of_zero_le h3
  simpa using i64_or_nat A B (by omega) (by omega)

theorem i64_and (a b : Int) (h1 : 0 ≤ a) (h2 : a < 9223372036854775808) (h3 : 0 ≤ b) (h4 : b < 9223372036854775808) : bits .and .i64 a b = ((a.toNat &&& b.toNat : Nat) : Int) := by
  obtain ⟨A, rfl⟩ := Int.eq_ofNat_of_zero_le h1
  obtain ⟨B, rfl⟩ := Int.eq_ofNat_of_zero_le h3
  simpa using i64_and_nat A B (by omega) (by omega)

theorem i64_mask (i : Nat) (a m : Int) (h1 : 0 ≤ a) (h2 : a < 9223372036854775808) (hm : m = ((2 ^ i - 1 : Nat) : Int)) (hi : i ≤ 62) : bits .and .i64 a m = a % 2 ^ i := by
  have h62 : (2 : Nat) ^ i ≤ 2 ^ 62 := Nat.pow_le_pow_right (by decide) hi
  have hp : 0 < (2 : Nat) ^ i := Nat.pow_pos (by decide)
  subst hm
  rw [i64_and a _ h1 h2 (by omega) (by omega), Int.toNat_natCast, Nat.and_two_pow_sub_one_eq_mod, Int.natCast_emod, Int.toNat_of_nonneg h1]
  simp

theorem i64_join (i : Nat) (a b : Int) (h1 : 0 ≤ a) (h2 : a < 9223372036854775808) (h3 : 0 ≤ b) (h4 : b < 9223372036854775808) (ha : a % 2 ^ i = 0) (hb : b < 2 ^ i) : bits .or .i64 a b = a + b := by
  have e : (2 : Int) ^ i = ((2 ^ i : Nat) : Int) := by simp
  rw [e] at ha hb
  have ha' : a.toNat % 2 ^ i = 0 := by rw [← Int.toNat_of_nonneg h1] at ha; exact_mod_cast ha
  rw [i64_or a b h1 h2 h3 h4, nat_join i _ _ ha' (by omega)]
  omega

theorem i64_join' (i : Nat) (a b : Int) (h1 : 0 ≤ a) (h2 : a < 9223372036854775808) (h3 : 0 ≤ b) (h4 : b < 9223372036854775808) (ha : a % 2 ^ i = 0) (hb : b < 2 ^ i) : bits .or .i64 b a = a + b := by
  rw [i64_or b a h3 h4 h1 h2, Nat.or_comm, ← i64_or a b h1 h2 h3 h4, i64_join i a b h1 h2 h3 h4 ha hb]

theorem u32_mask (i : Nat) (a m : Int) (h1 : 0 ≤ a) (h2 : a < 4294967296) (hm : m = ((2 ^ i - 1 : Nat) : Int)) (hi : i ≤ 32) : bits .and .u32 a m = a % 2 ^ i := by
  have h62 : (2 : Nat) ^ i ≤ 2 ^ 32 := Nat.pow_le_pow_right (by decide) hi
  have hp : 0 < (2 : Nat) ^ i := Nat.pow_pos (by decide)
  subst hm
  rw [u32_and a _ h1 h2 (by omega) (by omega), Int.toNat_natCast, Nat.and_two_pow_sub_one_eq_mod, Int.natCast_emod, Int.toNat_of_nonneg h1]
  simp

theorem u8_mask (i : Nat) (a m : Int) (h1 : 0 ≤ a) (h2 : a < 256) (hm : m = ((2 ^ i - 1 : Nat) : Int)) (hi : i ≤ 8) : bits .and .u8 a m = a % 2 ^ i := by
  have h62 : (2 : Nat) ^ i ≤ 2 ^ 8 := Nat.pow_le_pow_right (by decide) hi
  have hp : 0 < (2 : Nat) ^ i := Nat.pow_pos (by decide)
  subst hm
  rw [u8_and a _ h1 h2 (by omega) (by omega), Int.toNat_natCast, Nat.and_two_pow_sub_one_eq_mod, Int.natCast_emod, Int.toNat_of_nonneg h1]
  simp

theorem u32_join (i : Nat) (a b : Int) (h1 : 0 ≤ a) (h2 : a < 4294967296) (h3 : 0 ≤ b) (h4 : b < 4294967296) (ha : a % 2 ^ i = 0) (hb : b < 2 ^ i) : bits .or .u32 a b = a + b := by
  have e : (2 : Int) ^ i = ((2 ^ i : Nat) : Int) := by simp
  rw [e] at ha hb
  have ha' : a.toNat % 2 ^ i = 0 := by rw [← Int.toNat_of_nonneg h1] at ha; exact_mod_cast ha
  rw [u32_or a b h1 h2 h3 h4, nat_join i _ _ ha' (by omega)]
  omega

end Go.Proofs.YtegefbndpkbooaaDoor.Alu

