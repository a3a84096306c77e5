/- Words, remarks, prefixes: contracts. -/
import Derived.Test.YtimiglepogeeiaaDoorLexSmall
import Derived.WalkKit
set_option linter.unusedVariables false
set_option linter.unusedSimpArgs false
namespace Go.Proofs.YtimiglepogeeiaaDoor.Lex
open Go.RowKit

/-- A list's bytes as a string; a string's bytes. -/
def S (l : List UInt8) : ByteArray := ⟨l.toArray⟩
def B (s : ByteArray) : List UInt8 := s.data.toList
theorem get_B (s : ByteArray) (i : Nat) (h : i < s.size) : ((s[i].toNat : Nat) : Int) = byt (B s) i := byt_get s i h
theorem B_S (l : List UInt8) : B (S l) = l := rfl
theorem S_B (s : ByteArray) : S (B s) = s := rfl
theorem S_size (l : List UInt8) : (S l).size = l.length := rfl
theorem B_len (s : ByteArray) : (B s).length = s.size := (Lib.size_eq s).symm
theorem ext_S (s : ByteArray) (a b : Nat) : s.extract a b = S (((B s).drop a).take (b - a)) := Lib.extract_eq s a b
theorem ext_take (s : ByteArray) (b : Nat) : s.extract 0 b = S ((B s).take b) := by rw [ext_S]; simp
theorem ext_drop (s : ByteArray) (a : Nat) : s.extract a s.size = S ((B s).drop a) := by
  rw [ext_S, List.take_of_length_le (by rw [List.length_drop, B_len]; exact Nat.le_refl _)]
theorem ret_s {a b : ByteArray} (h : a = b) : Ending.returned (.string a) = .returned (.string b) := by rw [h]
theorem S_inj {a b : List UInt8} (h : S a = S b) : a = b := by have := congrArg B h; exact this

theorem litePre_any (s p : ByteArray) (w : World) : Calls Tryd.prog 74 #[.string s, .string p] w fun e w' => e = .returned (.bool ((B p).isPrefixOf (B s))) ∧ w' = w := by
  have hr := Lib.hasPrefix_raw s p
  go_enter Tryd.func74, Tryd.ntmps74
  go_wp2
  · rename_i h
    go_ret
    refine ⟨ret_b ?_, rfl⟩
    show ((s.extract 0 p.size).toList == p.toList) = _
    rw [decide_eq_true h, Bool.true_and] at hr
    exact hr
  · rename_i h
    go_ret
    refine ⟨ret_b ?_, rfl⟩
    rw [decide_eq_false (by omega), Bool.false_and] at hr
    exact hr

theorem HasPrefix_any (s p : ByteArray) (w : World) : Calls Tryd.prog 47 #[.string s, .string p] w fun e w' => e = .returned (.bool ((B p).isPrefixOf (B s))) ∧ w' = w := by
  go_enter Tryd.func47, Tryd.ntmps47
  go_wp2_with (go_at_call 74; refine (litePre_any _ _ _).mono ?_; rintro e w' ⟨rfl, rfl⟩)
  go_ret
  exact ⟨rfl, rfl⟩

set_option maxRecDepth 100000 in
theorem liteIdx_any (s : ByteArray) (c : Int) (w : World) : Calls Tryd.prog 87 #[.string s, .int .u8 c] w fun e w' => e = .returned (.int .i64 (Lib.indexByte (B s) c.toNat.toUInt8)) ∧ w' = w := by
  go_enter Tryd.func87, Tryd.ntmps87
  go_wp2
  rw [run_callFunc_extern Tryd.func99 (by kernel_rfl) (by kernel_rfl) (by kernel_rfl) (e := Extern.BytealgIndexByte.indexByte) (by kernel_rfl), Lib.run_indexByteString]
  simp only [Result.andThen]
  rw [Oper.upon_value]
  go_wp2
  go_ret
  exact ⟨rfl, rfl⟩

theorem IndexByte_any (s : ByteArray) (c : Int) (w : World) : Calls Tryd.prog 75 #[.string s, .int .u8 c] w fun e w' => e = .returned (.int .i64 (Lib.indexByte (B s) c.toNat.toUInt8)) ∧ w' = w := by
  go_enter Tryd.func75, Tryd.ntmps75
  go_wp2_with (go_at_call 87; refine (liteIdx_any _ _ _).mono ?_; rintro e w' ⟨rfl, rfl⟩)
  go_ret
  exact ⟨rfl, rfl⟩

theorem idx_rem : ∀ l : List UInt8, Lib.indexByte l 10 = if run remB l < l.length then (run remB l : Int) else -1
  | [] => rfl
  | c :: l => by
    have ih := idx_rem l
    have hl := run_le remB l
    by_cases h : c = 10
    · subst h
      rfl
    · have hc : (c == (10 : UInt8)) = false := by simpa using h
      have e : run remB (c :: l) = run remB l + 1 := by
        rw [run, if_pos]
        simp only [remB, decide_eq_true_eq]
        intro h2
        exact h (UInt8.toNat_inj.1 (by simpa using Int.ofNat_inj.1 h2))
      rw [Lib.indexByte, hc, e, ih, List.length_cons]
      by_cases hlt : run remB l < l.length
      · have : (((run remB l : Nat) : Int) == -1) = false := by rw [beq_eq_false_iff_ne]; omega
        rw [if_pos hlt, if_pos (show run remB l + 1 < l.length + 1 by omega), this]
        simp
      · rw [if_neg hlt, if_neg (show ¬ run remB l + 1 < l.length + 1 by omega)]
        rfl

theorem remark_any (s : ByteArray) (w : World) : Calls Tryd.prog 48 #[.string s] w fun e w' => e = .returned (.int .i64 (run remB (B s))) ∧ w' = w := by
  have hi := idx_rem (B s)
  have hl := run_le remB (B s)
  have hn := B_len s
  have e10 : (10 : Int).toNat.toUInt8 = 10 := rfl
  go_enter Tryd.func48, Tryd.ntmps48
  go_wp2_with (go_at_call 75; refine (IndexByte_any _ _ _).mono ?_; rintro e w' ⟨rfl, rfl⟩; rw [e10])
  all_goals
    go_ret
    refine ⟨ret_i ?_, rfl⟩
    split at hi <;> omega

theorem word_any (s : ByteArray) (w : World) (hs : s.size ≤ maxLen) : Calls Tryd.prog 51 #[.string s] w fun e w' => e = .returned (.string (S ((B s).take (run worB (B s))))) ∧ w' = w := by
  unfold maxLen at hs
  go_enter Tryd.func51, Tryd.ntmps51
  go_wp2_with fail
  go_loop [6] (fun i => ∃ k : Nat, k ≤ s.size ∧ i = .int .i64 k ∧ ∀ j, j < k → worB (byt (B s) j) = true) (fun i => s.size - (intOf i).toNat)
  case atStart => exact ⟨0, Nat.zero_le _, rfl, fun j hj => by omega⟩
  case round =>
    obtain ⟨k, hk, rfl, hall⟩ := hrel
    by_cases hlt : k < s.size
    · have hb := get_B s k hlt
      go_wp2_with (first | (go_at_call 49; refine (Letter_any _ _).mono ?_; rintro e w' ⟨rfl, rfl⟩) | (go_at_call 52; refine (Digit_any _ _).mono ?_; rintro e w' ⟨rfl, rfl⟩))
      · rename_i hw
        refine ⟨⟨k + 1, by omega, by go_num, fun j hj => ?_⟩, by simp [intOf]; omega⟩
        rcases Nat.lt_or_eq_of_le (Nat.lt_succ_iff.1 hj) with h | rfl
        · exact hall j h
        · rw [worB, hw, Bool.true_or]
      · have h1 : ¬ letB (byt (B s) k) = true := by assumption
        have h2 : (!digB (byt (B s) k)) = true := by assumption
        go_ret
        refine ⟨ret_s ?_, rfl⟩
        rw [run_is worB (B s) k (by rw [B_len]; omega) hall (fun _ => by rw [worB]; simp at h1 h2; rw [h1, h2]; rfl)]
        exact ext_take s k
      · rename_i h1 h2
        refine ⟨⟨k + 1, by omega, by go_num, fun j hj => ?_⟩, by simp [intOf]; omega⟩
        rcases Nat.lt_or_eq_of_le (Nat.lt_succ_iff.1 hj) with h | rfl
        · exact hall j h
        · rw [worB]; simpa using Or.inr (by simpa using h2)
    · go_wp2_with fail
      go_ret
      refine ⟨ret_s ?_, rfl⟩
      rw [run_is worB (B s) k (by rw [B_len]; omega) hall (fun h => by rw [B_len] at h; omega), List.take_of_length_le (by rw [B_len]; omega), S_B]

end Go.Proofs.YtimiglepogeeiaaDoor.Lex

