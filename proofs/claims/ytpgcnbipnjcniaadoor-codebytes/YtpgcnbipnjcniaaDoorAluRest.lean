/- What the document's Shift, Wide, Pair, Len and the statements' anchor answer: contracts. -/
import Derived.Test.YtpgcnbipnjcniaaDoorAluShift
set_option linter.unusedVariables false
namespace Go.Proofs.YtpgcnbipnjcniaaDoor.Alu
open Go.RowKit

theorem refShift_any (k x n c : Int) (hk : 0 ≤ k) (hk2 : k ≤ 3) (hn : 0 ≤ n) (hn2 : n ≤ 255) (hx : 0 ≤ x) (hx2 : x < 4294967296) (w : World) :
    Calls Tryd.prog 80 #[.int .i64 k, .int .u32 x, .int .i64 n, .int .u32 c] w fun e w' => e = .returned (.tuple #[.int .u32 (shW k x n.toNat), .int .u32 (shC k x c n.toNat)]) ∧ w' = w := by
  have hy := shW_bd k x hx hx2 n.toNat
  have hbits := shW_bit k x hk hk2 hx hx2 n.toNat
  rw [Int.toNat_of_nonneg hn] at hbits
  have HC : Hid (∀ m : Nat, n = (m : Int) + 1 → shC k x c n.toNat = if k = 0 then bit x (32 - n) else bit x (src k 0 (n - 1))) := by
    intro m hm
    have := shC_src k x c hk hk2 hx hx2 m
    rw [show n.toNat = m + 1 by omega, this, show (32 - n) = 32 - ((m : Int) + 1) by omega, show n - 1 = (m : Int) by omega]
  have HZ : Hid (n = 0 → shC k x c n.toNat = b01 c) := by intro h; rw [h]; rfl
  generalize hY : shW k x n.toNat = y at *
  clear hY
  have HBits : Hid (∀ i : Int, 0 ≤ i → i ≤ 31 → bit y i = bit x (src k i n)) := hbits
  clear hbits
  generalize shC k x c n.toNat = cc at *
  go_enter Tryd.func80, Tryd.ntmps80
  go_wp2_with fail
  go_loop [10, 11] (fun o a => ∃ j : Nat, j ≤ 32 ∧ a = .int .i64 ((j : Int) - 1) ∧ o = .int .u32 (y / 2 ^ j)) (fun _ a => ((intOf a) + 1).toNat)
  case atStart => exact ⟨32, by omega, rfl, by rw [show y / 2 ^ 32 = 0 by omega]⟩
  case round =>
    obtain ⟨j, hj, rfl, rfl⟩ := hrel
    by_cases hlt : 1 ≤ j
    · obtain ⟨m, rfl⟩ : ∃ m, j = m + 1 := ⟨j - 1, by omega⟩
      have hst := word_step y hy.1 hy.2 m (by omega)
      have hq := shr_bd y (m + 1) hy.1 hy.2
      have hp := shr_bd y m hy.1 hy.2
      have hbb := bit_bd y m
      have hbit := HBits.out m (by omega) (by omega)
      rw [hbit] at hst hbb
      clear hbit
      rw [show (((m + 1 : Nat) : Int) - 1) = (m : Int) by omega]
      have HST : Hid (y / 2 ^ (m + 1) * 2 + bit x (src k m n) = y / 2 ^ m) := hst
      have hle : y / 2 ^ (m + 1) * 2 + bit x (src k m n) < 4294967296 := by omega
      clear hst
      generalize y / 2 ^ (m + 1) = q at *
      go_wp2_with fail
      refine (refSource_any k _ n hk hk2 hn hn2 (by omega) (by omega) _).mono ?_
      rintro e w' ⟨rfl, rfl⟩
      go_wp2_with fail
      refine (refBit_any x _ hx hx2 _).mono ?_
      rintro e w' ⟨rfl, rfl⟩
      go_wp2_with fail
      go_round
      case rel => exact ⟨m, by omega, rfl, by rw [← HST.out]⟩
      case measure => simp [intOf]
    · have : j = 0 := by omega
      subst this
      have e0 : y / 2 ^ 0 = y := by simp
      rw [e0]
      clear e0
      by_cases hz : n = 0
      · have hcc := HZ.out hz
        have HCC : Hid (cc = b01 c) := hcc
        clear hcc
        have hz' : (n == 0) = true := by simp [hz]
        by_cases hc : c = 0
        · have hc' : (c != 0) = false := by simp [hc]
          have HH : Hid (c = 0) := hc
          clear hc hz
          go_wp2_with fail
          go_ret2
          exact ⟨ret_ints2 rfl (by rw [HCC.out, HH.out]; rfl), rfl⟩
        · have hc' : (c != 0) = true := by simp [hc]
          have hb : b01 c = 1 := by simp [b01, hc]
          have HH : Hid (b01 c = 1) := hb
          clear hc hz hb
          go_wp2_with fail
          go_ret2
          exact ⟨ret_ints2 rfl (by rw [HCC.out, HH.out]), rfl⟩
      · have hcc := HC.out (n.toNat - 1) (by omega)
        have HCC : Hid (cc = if k = 0 then bit x (32 - n) else bit x (src k 0 (n - 1))) := hcc
        clear hcc
        have hz' : (n == 0) = false := by simp [hz]
        by_cases hk0 : k = 0
        · have hk0' : (k == 0) = true := by simp [hk0]
          have HK : Hid (k = 0) := hk0
          clear hk0 hz
          go_wp2_with (go_at_call 82; refine (refBit_any x _ hx hx2 _).mono ?_; rintro e w' ⟨rfl, rfl⟩)
          go_ret2
          exact ⟨ret_ints2 rfl (by rw [HCC.out, if_pos HK.out]), rfl⟩
        · have hk0' : (k == 0) = false := by simp [hk0]
          have HK : Hid (¬ k = 0) := hk0
          clear hk0
          have hn1 : 0 ≤ n - 1 := by omega
          clear hz
          go_wp2_with fail
          refine (refSource_any k _ _ hk hk2 hn1 (by omega) (by omega) (by omega) _).mono ?_
          rintro e w' ⟨rfl, rfl⟩
          go_wp2_with (go_at_call 82; refine (refBit_any x _ hx hx2 _).mono ?_; rintro e w' ⟨rfl, rfl⟩)
          go_ret2
          exact ⟨ret_ints2 rfl (by rw [HCC.out, if_neg HK.out]), rfl⟩

theorem pair_or (lo hi : Int) (hx : 0 ≤ lo) (hx2 : lo < 4294967296) (hy : 0 ≤ hi) (hy2 : hi < 4294967296) : bits .or .u64 (hi * 4294967296) lo = hi * 4294967296 + lo := by
  obtain ⟨L, rfl⟩ := Int.eq_ofNat_of_zero_le hx
  obtain ⟨H, rfl⟩ := Int.eq_ofNat_of_zero_le hy
  rw [show (H : Int) * 4294967296 = ((H * 4294967296 : Nat) : Int) by omega, u64_or_nat _ _ (by omega) (by omega), nat_join 32 _ _ (by omega) (by omega)]
  omega

theorem bitLen_le32 (n : Nat) (h : n < 4294967296) : bitLen n ≤ 32 := by
  unfold bitLen
  split
  · omega
  · rename_i h0
    have := (Nat.log2_lt h0).2 (show n < 2 ^ 32 from h)
    omega

theorem len_at (x y : Int) (m : Nat) (hx : 0 ≤ x) (hy : y.toNat = x.toNat / 2 ^ m) (hp : m = 0 ∨ 1 ≤ y) : (m : Int) + (bitLen y.toNat : Int) = (bitLen x.toNat : Int) := by
  rcases hp with rfl | hp
  · rw [hy]; simp
  · rw [bitLen_shift x.toNat m (by omega), hy]; omega

theorem wrap_len (i : Nat) (h : i < 256) (m : Int) (h0 : 0 ≤ m) (h1 : m ≤ 100) : wrap64 (m + wrap64 (bitLen i : Int)) = m + (bitLen i : Int) := by
  have := bitLen_le8 i h
  unfold wrap64; omega

set_option maxRecDepth 100000 in
theorem Len32_any (x : Int) (hx : 0 ≤ x) (hx2 : x < 4294967296) (w : World) :
    Calls Tryd.prog 54 #[.int .u32 x] w fun e w' => e = .returned (.int .i64 (bitLen x.toNat)) ∧ w' = w := by
  by_cases h1 : 65536 ≤ x
  · by_cases h2 : 256 ≤ x / 65536
    · have hl := len_at x (x / 65536 / 256) 24 hx (by omega) (by omega)
      have HL := hide hl
      clear hl
      go_enter Tryd.func54, Tryd.ntmps54
      go_wp2
      go_ret
      refine ⟨ret_int ?_, rfl⟩
      rw [← unhide HL, len8tab_get, wrap_len _ (by omega) _ (by decide) (by decide)]; rfl
    · have hl := len_at x (x / 65536) 16 hx (by omega) (by omega)
      have HL := hide hl
      clear hl
      go_enter Tryd.func54, Tryd.ntmps54
      go_wp2
      go_ret
      refine ⟨ret_int ?_, rfl⟩
      rw [← unhide HL, len8tab_get, wrap_len _ (by omega) _ (by decide) (by decide)]; rfl
  · by_cases h2 : 256 ≤ x
    · have hl := len_at x (x / 256) 8 hx (by omega) (by omega)
      have HL := hide hl
      clear hl
      go_enter Tryd.func54, Tryd.ntmps54
      go_wp2
      go_ret
      refine ⟨ret_int ?_, rfl⟩
      rw [← unhide HL, len8tab_get, wrap_len _ (by omega) _ (by decide) (by decide)]; rfl
    · go_enter Tryd.func54, Tryd.ntmps54
      go_wp2
      go_ret
      refine ⟨ret_int ?_, rfl⟩
      rw [len8tab_get]
      have := wrap_len x.toNat (by omega) 0 (by decide) (by decide)
      simpa using this

theorem Len_any (x : Int) (hx : 0 ≤ x) (hx2 : x < 4294967296) (w : World) :
    Calls Tryd.prog 32 #[.int .u32 x] w fun e w' => e = .returned (.int .i64 (bitLen x.toNat)) ∧ w' = w := by
  go_enter Tryd.func32, Tryd.ntmps32
  go_wp2_with (go_at_call 54; refine (Len32_any _ hx hx2 _).mono ?_; rintro e w' ⟨rfl, rfl⟩)
  go_ret
  exact ⟨rfl, rfl⟩

theorem bitLen_half (n : Nat) (h : 0 < n) : bitLen n = 1 + bitLen (n / 2) := by
  by_cases h1 : n = 1
  · subst h1; rfl
  · exact bitLen_shift n 1 (by omega)

theorem refLen_any (x : Int) (hx : 0 ≤ x) (hx2 : x < 4294967296) (w : World) :
    Calls Tryd.prog 33 #[.int .u32 x] w fun e w' => e = .returned (.int .i64 (bitLen x.toNat)) ∧ w' = w := by
  have hl := bitLen_le32 x.toNat (by omega)
  go_enter Tryd.func33, Tryd.ntmps33
  go_wp2
  go_loop [0, 3] (fun y n => ∃ j Y : Nat, Y < 4294967296 ∧ j + bitLen Y = bitLen x.toNat ∧ n = .int .i64 j ∧ y = .int .u32 Y) (fun y _ => (intOf y).toNat)
  case atStart => exact ⟨0, x.toNat, by omega, by omega, rfl, by rw [Int.toNat_of_nonneg hx]⟩
  case round =>
    obtain ⟨j, Y, hY, hjY, rfl, rfl⟩ := hrel
    have HJ := hide hjY
    have hj : j ≤ 32 := by omega
    clear hjY
    by_cases hlt : 0 < Y
    · go_wp2
      go_round
      case rel => exact ⟨j + 1, Y / 2, by omega, by rw [← unhide HJ, bitLen_half Y hlt]; omega, by go_num, by rw [show ((Y / 2 : Nat) : Int) = (Y : Int) / 2 by omega]⟩
      case measure => simp [intOf]; omega
    · have hz : Y = 0 := by omega
      subst hz
      go_wp2
      go_ret
      exact ⟨ret_int (by rw [← unhide HJ]; simp [bitLen]), rfl⟩