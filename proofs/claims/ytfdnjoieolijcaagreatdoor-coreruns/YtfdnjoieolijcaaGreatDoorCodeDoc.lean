/- What the document's small functions of layer 4 answer: contracts. -/
import Derived.Test.YtfdnjoieolijcaaGreatDoorChecked
import Derived.Test.YtfdnjoieolijcaaGreatDoorAluAll
import Derived.ProofKit
import Derived.Handy
import Derived.Outline
import Derived.Deep.Light
import Derived.Deep.RegionWith
set_option linter.unusedVariables false
namespace Go.Proofs.YtfdnjoieolijcaaGreatDoor.Code
open Go.RowKit Go.Proofs.YtfdnjoieolijcaaGreatDoor.Alu

theorem pow_bd (n : Nat) (h : n ≤ 61) : (1 : Int) ≤ 2 ^ n ∧ (2 : Int) ^ n ≤ 2305843009213693952 := by
  have h1 : (2 : Nat) ^ n ≤ 2 ^ 61 := Nat.pow_le_pow_right (by decide) h
  have h2 : 0 < (2 : Nat) ^ n := Nat.pow_pos (by decide)
  have e : (2 : Int) ^ n = ((2 ^ n : Nat) : Int) := by simp
  rw [e]; omega

/-- Two to a power. -/
def pw (n : Int) : Int := 2 ^ n.toNat
theorem pw_bd (n : Int) (h : n ≤ 61) : 1 ≤ pw n ∧ pw n ≤ 2305843009213693952 := pow_bd n.toNat (by omega)

theorem power_any (n : Int) (h0 : 0 ≤ n) (h1 : n ≤ 61) (w : World) :
    Calls Tryz.prog 112 #[.int .i64 n] w fun e w' => e = .returned (.int .i64 (pw n)) ∧ w' = w := by
  obtain ⟨N, rfl⟩ := Int.eq_ofNat_of_zero_le h0
  have hN : N ≤ 61 := by omega
  clear h0 h1
  go_enter Tryz.func112, Tryz.ntmps112
  go_wp2_with fail
  go_loop [3, 4] (fun x i => ∃ k : Nat, k ≤ N ∧ i = .int .i64 k ∧ ∃ p : Int, x = .int .i64 p ∧ Hid (p = 2 ^ k) ∧ 1 ≤ p ∧ p ≤ 2305843009213693952) (fun _ i => N - (intOf i).toNat)
  case atStart => exact ⟨0, Nat.zero_le _, rfl, 1, rfl, rfl, by decide, by decide⟩
  case round =>
    obtain ⟨k, hk, rfl, p, rfl, hp, p1, p2⟩ := hrel
    go_wp2_with fail
    · go_round
      case rel =>
        have hb := pow_bd (k + 1) (by omega)
        have e : p * 2 = 2 ^ (k + 1) := by rw [hp.out, Int.pow_succ]
        exact ⟨k + 1, by omega, by go_num, p * 2, rfl, e, by omega, by omega⟩
      case measure => simp [intOf]; omega
    · go_ret
      have : k = N := by omega
      subst this
      exact ⟨ret_int hp.out, rfl⟩

/-- So many bits of a number, from one on. -/
def bt (n a c : Int) : Int := (if n < 0 then n + 1099511627776 else n) / pw a % pw c

theorem quo_rem (x p c : Int) (h0 : 0 ≤ x) (h1 : x ≤ 4611686018427387904) (hp : 1 ≤ p) : (wrap64 (x.tdiv p)).tmod c = x / p % c := by
  have hq : 0 ≤ x / p := Int.ediv_nonneg h0 (by omega)
  have hl : x / p ≤ x := Int.ediv_le_self _ h0
  rw [Int.tdiv_eq_ediv_of_nonneg h0, IntWalk.wrap64_in _ ⟨by omega, by omega⟩, Int.tmod_eq_emod_of_nonneg hq]
theorem pw40 : pw 40 = 1099511627776 := by decide

set_option maxHeartbeats 1000000 in
theorem bits_any (n a c : Int) (h0 : -1099511627776 ≤ n) (h1 : n ≤ 4611686018427387904) (a0 : 0 ≤ a) (a1 : a ≤ 61) (c0 : 0 ≤ c) (c1 : c ≤ 61) (w : World) :
    Calls Tryz.prog 107 #[.int .i64 n, .int .i64 a, .int .i64 c] w fun e w' => e = .returned (.int .i64 (bt n a c)) ∧ w' = w.drew := by
  have pa := pw_bd a a1
  have pc := pw_bd c c1
  have HB : Hid (bt n a c = (if n < 0 then n + 1099511627776 else n) / pw a % pw c) := rfl
  by_cases hn : n < 0
  · go_enter Tryz.func107, Tryz.ntmps107
    go_wp2_with (go_at_call 112; refine (power_any _ (by decide) (by decide) _).mono ?_; rintro e w' ⟨rfl, rfl⟩)
    go_region_with (go_at_call 112; refine (power_any _ (by assumption) (by assumption) _).mono ?_; rintro e w' ⟨rfl, rfl⟩)
    all_goals
      go_wp2_with fail
      go_ret
      exact ⟨ret_int (by rw [HB.out, if_pos hn, pw40, IntWalk.wrap64_in (n + 1099511627776) ⟨by omega, by omega⟩, quo_rem _ _ _ (by omega) (by omega) (by omega)]), rfl⟩
  · go_enter Tryz.func107, Tryz.ntmps107
    go_wp2_with fail
    go_region_with (go_at_call 112; refine (power_any _ (by assumption) (by assumption) _).mono ?_; rintro e w' ⟨rfl, rfl⟩)
    all_goals
      go_wp2_with fail
      go_ret
      exact ⟨ret_int (by rw [HB.out, if_neg (by omega), Int.tmod_eq_emod_of_nonneg (Int.ediv_nonneg (by omega) (by omega))]), rfl⟩

theorem bt_at (n : Int) {a c A C : Int} (hn : 0 ≤ n) (hA : pw a = A) (hC : pw c = C) : bt n a c = n / A % C := by
  unfold bt; rw [if_neg (by omega), hA, hC]
theorem bt_bit (n a : Int) : 0 ≤ bt n a 1 ∧ bt n a 1 ≤ 1 := by
  unfold bt
  have : pw 1 = 2 := by decide
  rw [this]; omega

end Go.Proofs.YtfdnjoieolijcaaGreatDoor.Code

