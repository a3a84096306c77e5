/- What the document's small functions of layer 4 answer: contracts, goes on. -/
import Derived.Test.YtfdnjoieolijcaaGreatDoorChecked
import Derived.Test.YtfdnjoieolijcaaGreatDoorCodeDoc
import Derived.Test.YtfdnjoieolijcaaGreatDoorAluAll
import Derived.ProofKit
import Derived.Handy
import Derived.Outline
import Derived.Deep.Light
import Derived.Deep.RegionWith
set_option linter.unusedVariables false
namespace Go.Proofs.YtfdnjoieolijcaaGreatDoor.Code
open Go.RowKit Go.Proofs.YtfdnjoieolijcaaGreatDoor.Alu

/-- One bit of how far a wide jump goes, turned. -/
def tone (n p : Int) : Int := n + ((if n / p % 2 = n / 16777216 % 2 then 1 else 0) - n / p % 2) * p
def tn (n : Int) : Int := tone (tone n 4194304) 8388608
theorem tone_bd (n p : Int) (hp : p = 4194304 ∨ p = 8388608) (h0 : 0 ≤ n) (h1 : n ≤ 33554431) : 0 ≤ tone n p ∧ tone n p ≤ 33554431 ∧ tone n p / 16777216 = n / 16777216 := by
  unfold tone
  rcases hp with rfl | rfl <;> split <;> omega

theorem turn_any (n : Int) (h0 : 0 ≤ n) (h1 : n ≤ 33554431) (w : World) :
    Calls Tryz.prog 108 #[.int .i64 n] w fun e w' => e = .returned (.int .i64 (tn n)) ∧ Below w.heap.size w w' := by
  have hs := bt_bit n 24
  have HS : Hid (bt n 24 1 = n / 16777216 % 2) := bt_at n h0 (by decide) (by decide)
  go_enter Tryz.func108, Tryz.ntmps108
  go_wp2_with (go_at_call 107; refine (bits_any _ _ _ (by omega) (by omega) (by omega) (by omega) (by omega) (by omega) _).mono ?_; rintro e w' ⟨rfl, rfl⟩)
  generalize bt n 24 1 = s at *
  go_loopw [0, 4] (fun x b wr => Below w.heap.size w wr ∧ ((x = .int .i64 n ∧ b = .int .i64 22) ∨ (x = .int .i64 (tone n 4194304) ∧ b = .int .i64 23) ∨ (x = .int .i64 (tn n) ∧ b = .int .i64 24))) (fun _ b _ => 24 - (intOf b).toNat)
  case atStart => exact ⟨(Below.refl _ _).drew, .inl ⟨rfl, rfl⟩⟩
  case round =>
    obtain ⟨hB, ⟨rfl, rfl⟩ | ⟨rfl, rfl⟩ | ⟨rfl, rfl⟩⟩ := hrel
    · have hq := bt_bit n 22
      have HQ : Hid (bt n 22 1 = n / 4194304 % 2) := bt_at n h0 (by decide) (by decide)
      have hp : pw 22 = 4194304 := by decide
      go_wp2_with (first | (go_at_call 107; refine (bits_any _ _ _ (by omega) (by omega) (by omega) (by omega) (by omega) (by omega) _).mono ?_; rintro e w' ⟨rfl, rfl⟩) | (go_at_call 112; refine (power_any _ (by omega) (by omega) _).mono ?_; rintro e w' ⟨rfl, rfl⟩))
      · go_roundw
        case rel => exact ⟨hB.drew, .inr (.inl ⟨by congr 1; unfold tone; rw [← HQ.out, ← HS.out, if_pos (by simpa using ‹(bt n 22 1 == s) = true›)], rfl⟩)⟩
        case measure => simp [intOf]
      · go_roundw
        case rel => exact ⟨hB.drew, .inr (.inl ⟨by congr 1; unfold tone; rw [← HQ.out, ← HS.out, if_neg (by simpa using ‹(bt n 22 1 == s) = false›)]; omega, rfl⟩)⟩
        case measure => simp [intOf]
    · have ht := tone_bd n 4194304 (.inl rfl) h0 h1
      have HT : Hid (tn n = tone (tone n 4194304) 8388608) := rfl
      have HS2 : Hid (s = tone n 4194304 / 16777216 % 2) := by rw [ht.2.2]; exact HS.out
      generalize tone n 4194304 = m at *
      have hq := bt_bit m 23
      have HQ : Hid (bt m 23 1 = m / 8388608 % 2) := bt_at m ht.1 (by decide) (by decide)
      have hp : pw 23 = 8388608 := by decide
      go_wp2_with (first | (go_at_call 107; refine (bits_any _ _ _ (by omega) (by omega) (by omega) (by omega) (by omega) (by omega) _).mono ?_; rintro e w' ⟨rfl, rfl⟩) | (go_at_call 112; refine (power_any _ (by omega) (by omega) _).mono ?_; rintro e w' ⟨rfl, rfl⟩))
      · go_roundw
        case rel => exact ⟨hB.drew, .inr (.inr ⟨by congr 1; rw [HT.out]; unfold tone; rw [← HQ.out, ← HS2.out, if_pos (by simpa using ‹(bt m 23 1 == s) = true›)], rfl⟩)⟩
        case measure => simp [intOf]
      · go_roundw
        case rel => exact ⟨hB.drew, .inr (.inr ⟨by congr 1; rw [HT.out]; unfold tone; rw [← HQ.out, ← HS2.out, if_neg (by simpa using ‹(bt m 23 1 == s) = false›)]; omega, rfl⟩)⟩
        case measure => simp [intOf]
    · go_wp2_with fail
      go_ret
      exact ⟨rfl, hB⟩

/-- A number of so many bits, of which the highest one is the sign. -/
def lst (n p : Int) : Int := if n / p % 2 = 1 then n - 2 * p else n
theorem least_any (n c p : Int) (h0 : 0 ≤ n) (h1 : n ≤ 33554431) (c0 : 1 ≤ c) (c1 : c ≤ 30) (hp : pw (c - 1) = p) (hp2 : pw c = 2 * p) (w : World) :
    Calls Tryz.prog 171 #[.int .i64 n, .int .i64 c] w fun e w' => e = .returned (.int .i64 (lst n p)) ∧ Below w.heap.size w w' := by
  have HQ : Hid (bt n (c - 1) 1 = n / p % 2) := bt_at n h0 hp (by decide)
  have HP := hide hp2
  have hb := pw_bd c (by omega)
  clear hp hp2
  go_enter Tryz.func171, Tryz.ntmps171
  go_wp2_with (first | (go_at_call 107; refine (bits_any _ _ _ (by omega) (by omega) (by omega) (by omega) (by omega) (by omega) _).mono ?_; rintro e w' ⟨rfl, rfl⟩) | (go_at_call 112; refine (power_any _ (by omega) (by omega) _).mono ?_; rintro e w' ⟨rfl, rfl⟩))
  · go_ret
    exact ⟨ret_int (by unfold lst; rw [← HQ.out, if_pos (by simpa using ‹(bt n (c - 1) 1 == 1) = true›), ← (unhide HP)]), (Below.refl _ _).drew⟩
  · go_ret
    exact ⟨ret_int (by unfold lst; rw [← HQ.out, if_neg (by simpa using ‹(bt n (c - 1) 1 == 1) = false›)]), (Below.refl _ _).drew⟩

theorem get_any (f rd rn rm ra im kd bs st cd rg j : Int) (h0 : 0 ≤ j) (h1 : j ≤ 9) (w : World) :
    Calls Tryz.prog 111 #[.agg #[.int .i64 f, .int .i64 rd, .int .i64 rn, .int .i64 rm, .int .i64 ra, .int .i64 im, .int .i64 kd, .int .i64 bs, .int .i64 st, .int .i64 cd, .int .i64 rg], .int .i64 j] w fun e w' => e = .returned (.int .i64 ([rd, rn, rm, ra, im, kd, bs, st, cd, rg].getD j.toNat 0)) ∧ Below w.heap.size w w' := by
  obtain ⟨J, rfl⟩ := Int.eq_ofNat_of_zero_le h0
  have hJ : J ≤ 9 := by omega
  clear h0 h1
  have ht : (#[.int .i64 rd, .int .i64 rn, .int .i64 rm, .int .i64 ra, .int .i64 im, .int .i64 kd, .int .i64 bs, .int .i64 st, .int .i64 cd, .int .i64 rg] : Array Value)[J]? = some (.int .i64 ([rd, rn, rm, ra, im, kd, bs, st, cd, rg].getD J 0)) := by
    obtain rfl | rfl | rfl | rfl | rfl | rfl | rfl | rfl | rfl | rfl : J = 0 ∨ J = 1 ∨ J = 2 ∨ J = 3 ∨ J = 4 ∨ J = 5 ∨ J = 6 ∨ J = 7 ∨ J = 8 ∨ J = 9 := by omega
    all_goals rfl
  rw [Int.toNat_natCast]
  generalize [rd, rn, rm, ra, im, kd, bs, st, cd, rg].getD J 0 = g at *
  go_enter Tryz.func111, Tryz.ntmps111
  go_wp2_with fail
  go_ret
  exact ⟨rfl, ((Below.refl _ _).alloc (Nat.le_refl _) _).alloc (by simp) _⟩

end Go.Proofs.YtfdnjoieolijcaaGreatDoor.Code

