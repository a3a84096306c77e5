/- What Shift answers, by package alu and by the document: contracts. -/
import Derived.Test.YtpgcnbipnjcniaaDoorAluWalks
set_option linter.unusedVariables false
namespace Go.Proofs.YtpgcnbipnjcniaaDoor.Alu
open Go.RowKit

theorem hide {P : Prop} (h : P) : Hid P := h
theorem unhide {P : Prop} (h : Hid P) : P := h.out

theorem Shift_no (k x n c : Int) (h : k < 0 ∨ 3 < k ∨ n < 0 ∨ 255 < n) (w : World) :
    Calls Tryd.prog 84 #[.int .i64 k, .int .u32 x, .int .i64 n, .int .u32 c] w fun e w' => e = .returned (.tuple #[.int .u32 0, .int .u32 0, .int .i64 11]) ∧ w' = w := by
  by_cases h1 : k < 0
  · go_enter Tryd.func84, Tryd.ntmps84
    go_wp2
    go_ret3
    exact ⟨rfl, rfl⟩
  · by_cases h2 : 3 < k
    · go_enter Tryd.func84, Tryd.ntmps84
      go_wp2
      go_ret3
      exact ⟨rfl, rfl⟩
    · by_cases h3 : n < 0
      · go_enter Tryd.func84, Tryd.ntmps84
        go_wp2
        go_ret3
        exact ⟨rfl, rfl⟩
      · have h4 : 255 < n := by omega
        clear h
        go_enter Tryd.func84, Tryd.ntmps84
        go_wp2
        go_ret3
        exact ⟨rfl, rfl⟩

theorem Shift_yes (k x n c : Int) (hk : 0 ≤ k) (hk2 : k ≤ 3) (hn : 0 ≤ n) (hn2 : n ≤ 255) (hx : 0 ≤ x) (hx2 : x < 4294967296) (w : World) :
    Calls Tryd.prog 84 #[.int .i64 k, .int .u32 x, .int .i64 n, .int .u32 c] w fun e w' => e = .returned (.tuple #[.int .u32 (shW k x n.toNat), .int .u32 (shC k x c n.toNat), .int .i64 0]) ∧ w' = w := by
  go_enter Tryd.func84, Tryd.ntmps84
  go_wp2_with (go_at_call 85; refine (asBit_any _ _).mono ?_; rintro e w' ⟨rfl, rfl⟩)
  go_loop [1, 11, 29] (fun y d i => ∃ j : Nat, (j : Int) ≤ n ∧ i = .int .i64 j ∧ y = .int .u32 (shW k x j) ∧ d = .int .u32 (shC k x c j)) (fun _ _ i => n.toNat - (intOf i).toNat)
  case atStart => exact ⟨0, by omega, rfl, rfl, rfl⟩
  case round =>
    obtain ⟨j, hj, rfl, rfl, rfl⟩ := hrel
    have hb := shW_bd k x hx hx2 j
    by_cases hlt : (j : Int) < n
    · go_wp2_with (go_at_call 86; refine (shiftByOne_any _ _ hk hk2 hb.1 hb.2 _).mono ?_; rintro e w' ⟨rfl, rfl⟩)
      go_round
      case rel => exact ⟨j + 1, by omega, by go_num, rfl, rfl⟩
      case measure => simp [intOf]; omega
    · have e : n.toNat = j := by omega
      have E : Hid (n.toNat = j) := e
      clear e
      go_wp2
      go_ret3
      exact ⟨ret_ints3 (by rw [E.out]) (by rw [E.out]) rfl, rfl⟩

theorem refBit_any (x n : Int) (hx : 0 ≤ x) (hx2 : x < 4294967296) (w : World) :
    Calls Tryd.prog 82 #[.int .u32 x, .int .i64 n] w fun e w' => e = .returned (.int .u32 (bit x n)) ∧ w' = w := by
  by_cases h1 : n < 0
  · go_enter Tryd.func82, Tryd.ntmps82
    go_wp2
    go_ret
    exact ⟨ret_int (by rw [bit_out _ _ (by omega)]), rfl⟩
  · by_cases h2 : 31 < n
    · go_enter Tryd.func82, Tryd.ntmps82
      go_wp2
      go_ret
      exact ⟨ret_int (by rw [bit_out _ _ (by omega)]), rfl⟩
    · go_enter Tryd.func82, Tryd.ntmps82
      go_wp2
      go_loop [0, 5] (fun y i => ∃ j : Nat, (j : Int) ≤ n ∧ i = .int .i64 j ∧ y = .int .u32 (x / 2 ^ j)) (fun _ i => n.toNat - (intOf i).toNat)
      case atStart => exact ⟨0, by omega, rfl, by simp⟩
      case round =>
        obtain ⟨j, hj, rfl, rfl⟩ := hrel
        have hs := shr_bd x j hx hx2
        by_cases hlt : (j : Int) < n
        · go_wp2
          go_round
          case rel => exact ⟨j + 1, by omega, by go_num, by rw [Int.pow_succ, ← Int.ediv_ediv_of_nonneg (Int.pow_nonneg (by decide))]⟩
          case measure => simp [intOf]; omega
        · have e : n.toNat = j := by omega
          have E : Hid (n.toNat = j) := e
          clear e
          go_wp2
          go_ret
          exact ⟨ret_int (by unfold bit; rw [if_pos (by omega), E.out]), rfl⟩

theorem refSource_any (k i n : Int) (hk : 0 ≤ k) (hk2 : k ≤ 3) (hn : 0 ≤ n) (hn2 : n ≤ 255) (hi : 0 ≤ i) (hi2 : i ≤ 31) (w : World) :
    Calls Tryd.prog 83 #[.int .i64 k, .int .i64 i, .int .i64 n] w fun e w' => e = .returned (.int .i64 (src k i n)) ∧ w' = w := by
  have hcase : k = 0 ∨ k = 1 ∨ k = 2 ∨ k = 3 := by omega
  rcases hcase with rfl | rfl | rfl | rfl
  · go_enter Tryd.func83, Tryd.ntmps83
    go_wp2
    go_ret
    exact ⟨ret_int (by unfold src; rw [if_pos rfl]), rfl⟩
  · by_cases h : 31 < i + n
    · go_enter Tryd.func83, Tryd.ntmps83
      go_wp2
      go_ret
      exact ⟨ret_int (by unfold src; simp), rfl⟩
    · go_enter Tryd.func83, Tryd.ntmps83
      go_wp2
      go_ret
      exact ⟨ret_int (by unfold src; simp), rfl⟩
  · by_cases h : 31 < i + n
    · go_enter Tryd.func83, Tryd.ntmps83
      go_wp2
      go_ret
      exact ⟨ret_int (by unfold src; simp; omega), rfl⟩
    · go_enter Tryd.func83, Tryd.ntmps83
      go_wp2
      go_ret
      exact ⟨ret_int (by unfold src; simp; omega), rfl⟩
  · go_enter Tryd.func83, Tryd.ntmps83
    go_wp2
    go_ret
    exact ⟨ret_int (by unfold src; simp), rfl⟩
end Go.Proofs.YtpgcnbipnjcniaaDoor.Alu
