/- What the document's Shift, Wide, Pair, Len and the statements' anchor answer: contracts. -/
import Derived.Test.YthbleghkkhhcbaaAluShift
set_option linter.unusedVariables false
namespace Go.Proofs.Ythbleghkkhhcbaa.Alu
open Go.RowKit

theorem pair_or (lo hi : Int) (hx : 0 ≤ lo) (hx2 : lo < 4294967296) (hy : 0 ≤ hi) (hy2 : hi < 4294967296) : bits .or .u64 (hi * 4294967296) lo = hi * 4294967296 + lo := by
  obtain ⟨L, rfl⟩ := Int.eq_ofNat_of_zero_le hx
  obtain ⟨H, rfl⟩ := Int.eq_ofNat_of_zero_le hy
  rw [show (H : Int) * 4294967296 = ((H * 4294967296 : Nat) : Int) by omega, u64_or_nat _ _ (by omega) (by omega), nat_join 32 _ _ (by omega) (by omega)]
  omega

theorem bitLen_le32 (n : Nat) (h : n < 4294967296) : bitLen n ≤ 32 := by
  unfold bitLen
  split
  · omega
  · rename_i h0
    have := (Nat.log2_lt h0).2 (show n < 2 ^ 32 from h)
    omega

theorem len_at (x y : Int) (m : Nat) (hx : 0 ≤ x) (hy : y.toNat = x.toNat / 2 ^ m) (hp : m = 0 ∨ 1 ≤ y) : (m : Int) + (bitLen y.toNat : Int) = (bitLen x.toNat : Int) := by
  rcases hp with rfl | hp
  · rw [hy]; simp
  · rw [bitLen_shift x.toNat m (by omega), hy]; omega

theorem wrap_len (i : Nat) (h : i < 256) (m : Int) (h0 : 0 ≤ m) (h1 : m ≤ 100) : wrap64 (m + wrap64 (bitLen i : Int)) = m + (bitLen i : Int) := by
  have := bitLen_le8 i h
  unfold wrap64; omega

set_option maxRecDepth 100000 in
theorem Len32_any (x : Int) (hx : 0 ≤ x) (hx2 : x < 4294967296) (w : World) :
    Calls Try.prog 17 #[.int .u32 x] w fun e w' => e = .returned (.int .i64 (bitLen x.toNat)) ∧ w' = w := by
  by_cases h1 : 65536 ≤ x
  · by_cases h2 : 256 ≤ x / 65536
    · have hl := len_at x (x / 65536 / 256) 24 hx (by omega) (by omega)
      have HL := hide hl
      clear hl
      go_enter Try.func17, Try.ntmps17
      go_wp2
      go_ret
      refine ⟨ret_int ?_, rfl⟩
      rw [← unhide HL, len8tab_get, wrap_len _ (by omega) _ (by decide) (by decide)]; rfl
    · have hl := len_at x (x / 65536) 16 hx (by omega) (by omega)
      have HL := hide hl
      clear hl
      go_enter Try.func17, Try.ntmps17
      go_wp2
      go_ret
      refine ⟨ret_int ?_, rfl⟩
      rw [← unhide HL, len8tab_get, wrap_len _ (by omega) _ (by decide) (by decide)]; rfl
  · by_cases h2 : 256 ≤ x
    · have hl := len_at x (x / 256) 8 hx (by omega) (by omega)
      have HL := hide hl
      clear hl
      go_enter Try.func17, Try.ntmps17
      go_wp2
      go_ret
      refine ⟨ret_int ?_, rfl⟩
      rw [← unhide HL, len8tab_get, wrap_len _ (by omega) _ (by decide) (by decide)]; rfl
    · go_enter Try.func17, Try.ntmps17
      go_wp2
      go_ret
      refine ⟨ret_int ?_, rfl⟩
      rw [len8tab_get]
      have := wrap_len x.toNat (by omega) 0 (by decide) (by decide)
      simpa using this

theorem Len_any (x : Int) (hx : 0 ≤ x) (hx2 : x < 4294967296) (w : World) :
    Calls Try.prog 16 #[.int .u32 x] w fun e w' => e = .returned (.int .i64 (bitLen x.toNat)) ∧ w' = w := by
  go_enter Try.func16, Try.ntmps16
  go_wp2_with (go_at_call 17; refine (Len32_any _ hx hx2 _).mono ?_; rintro e w' ⟨rfl, rfl⟩)
  go_ret
  exact ⟨rfl, rfl⟩

theorem bitLen_half (n : Nat) (h : 0 < n) : bitLen n = 1 + bitLen (n / 2) := by
  by_cases h1 : n = 1
  · subst h1; rfl
  · exact bitLen_shift n 1 (by omega)