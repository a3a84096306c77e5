/- More on sources and their tokens, as functions of lists of bytes. No function of the program is walked here. -/
import Derived.Test.YtimiglepogeeiaaDoorLexMath
set_option linter.unusedVariables false
set_option linter.unusedSimpArgs false
namespace Go.Proofs.YtimiglepogeeiaaDoor.Lex

/-- Behind what parts tokens nothing parts them. -/
theorem gap_idem : ∀ (b : Bool) (l : List UInt8), gap false (l.drop (gap b l)) = 0
  | _, [] => by unfold gap; simp [gap]
  | true, c :: l => by
    have e : gap true (c :: l) = gap (decide (c.toNat ≠ 10)) l + 1 := by rw [gap]; omega
    rw [e, List.drop_succ_cons]
    exact gap_idem _ l
  | false, c :: l => by
    by_cases h : blaB c.toNat = true
    · have e : gap false (c :: l) = gap false l + 1 := by rw [gap, if_pos h]; omega
      rw [e, List.drop_succ_cons]
      exact gap_idem _ l
    · by_cases h2 : c.toNat = 47 ∧ byt l 0 = 47
      · have e : gap false (c :: l) = gap true l + 1 := by rw [gap, if_neg h, if_pos h2]; omega
        rw [e, List.drop_succ_cons]
        exact gap_idem _ l
      · have e : gap false (c :: l) = 0 := by rw [gap, if_neg h, if_neg h2]
        rw [e, List.drop_zero, e]

/-- More ahead of what is told. -/
def pre (ts : List T) (r : Except (Nat × Nat) (List T)) : Except (Nat × Nat) (List T) :=
  match r with
  | .error e => .error e
  | .ok l => .ok (ts ++ l)
theorem pre_nil (r : Except (Nat × Nat) (List T)) : pre [] r = r := by cases r <;> rfl
theorem pre_pre (a b : List T) (r : Except (Nat × Nat) (List T)) : pre a (pre b r) = pre (a ++ b) r := by
  cases r with
  | error e => rfl
  | ok l => simp [pre]

/-- The token itself. -/
def mkT (l : List UInt8) (a : Nat) : T := ⟨((tok l).k : Nat), (a : Nat), l.take (tok l).n, (tok l).v⟩
theorem toks_end (l : List UInt8) (a : Nat) (h : l.drop (gap false l) = []) : toks l a = .ok [⟨4, (a + gap false l : Nat), [], 0⟩] := by
  rw [toks]
  split
  · rfl
  · rename_i c r h2; rw [h] at h2; cases h2
theorem toks_bad (l : List UInt8) (a : Nat) (h : l.drop (gap false l) ≠ []) (hk : (tok (l.drop (gap false l))).k = 0) : toks l a = .error ((tok (l.drop (gap false l))).n, a + gap false l) := by
  rw [toks]
  split
  · rename_i h2; exact absurd h2 h
  · rename_i c r h2
    rw [h2] at hk ⊢
    split
    · rfl
    · rename_i k h3; rw [hk] at h3; cases h3
theorem toks_good (l : List UInt8) (a : Nat) (h : l.drop (gap false l) ≠ []) (hk : (tok (l.drop (gap false l))).k ≠ 0) (hn : 1 ≤ (tok (l.drop (gap false l))).n) :
    toks l a = pre [mkT (l.drop (gap false l)) (a + gap false l)] (toks ((l.drop (gap false l)).drop (tok (l.drop (gap false l))).n) (a + gap false l + (tok (l.drop (gap false l))).n)) := by
  rw [toks]
  split
  · rename_i h2; exact absurd h2 h
  · rename_i c r h2
    rw [h2] at hk hn ⊢
    have hd : (c :: r).drop (tok (c :: r)).n = r.drop ((tok (c :: r)).n - 1) := by
      obtain ⟨m, hm⟩ : ∃ m, (tok (c :: r)).n = m + 1 := ⟨_, (Nat.succ_pred_eq_of_pos hn).symm⟩
      rw [hm, List.drop_succ_cons, Nat.add_sub_cancel]
    rw [hd]
    split
    · rename_i h3; exact absurd h3 hk
    · rename_i k h3
      have hmk : mkT (c :: r) (a + gap false l) = ⟨(k + 1 : Nat), (a + gap false l : Nat), (c :: r).take (tok (c :: r)).n, (tok (c :: r)).v⟩ := by unfold mkT; rw [h3]
      rw [hmk]
      unfold pre
      split <;> simp_all

theorem run_pos (p : Int → Bool) (l : List UInt8) (h : p (byt l 0) = true) (hl : l ≠ []) : 1 ≤ run p l := by
  match l with
  | [] => exact absurd rfl hl
  | c :: r =>
    rw [byt_zero] at h
    rw [run, if_pos h]
    omega
theorem sgnL_le : ∀ (L : List (List UInt8)) (l : List UInt8), sgnL L l ≤ l.length
  | [], l => Nat.zero_le _
  | s :: r, l => by
    unfold sgnL
    split
    · rename_i h
      exact (List.isPrefixOf_iff_prefix.1 h).length_le
    · exact sgnL_le r l
theorem tok_len (l : List UInt8) (hl : l ≠ []) (hk : (tok l).k ≠ 0) : 1 ≤ (tok l).n ∧ (tok l).n ≤ l.length := by
  unfold tok at hk ⊢
  have h1 := run_le worB l
  by_cases h : letB (byt l 0) = true
  · rw [if_pos h] at hk ⊢
    have := run_pos worB l (by rw [worB, h]; rfl) hl
    by_cases h2 : 32 < run worB l
    · rw [if_pos h2] at hk; exact absurd rfl hk
    · rw [if_neg h2]; exact ⟨this, h1⟩
  · rw [if_neg h] at hk ⊢
    by_cases h3 : digB (byt l 0) = true
    · rw [if_pos h3] at hk ⊢
      have := run_pos worB l (by rw [worB, h3]; simp) hl
      by_cases h2 : val (l.take (run worB l)) < 0
      · rw [if_pos h2] at hk; exact absurd rfl hk
      · rw [if_neg h2]; exact ⟨this, h1⟩
    · rw [if_neg h3] at hk ⊢
      by_cases h2 : sgn l = 0
      · rw [if_pos h2] at hk; exact absurd rfl hk
      · rw [if_neg h2]; exact ⟨Nat.pos_of_ne_zero h2, sgnL_le _ l⟩
theorem tok_val (l : List UInt8) : 0 ≤ (tok l).v ∧ (tok l).v ≤ 4294967295 := by
  unfold tok
  have := val_bound (l.take (run worB l))
  split
  · split <;> simp
  · split
    · split
      · simp
      · simp; omega
    · split <;> simp
theorem toks_gap (l : List UInt8) (a : Nat) : toks l a = toks (l.drop (gap false l)) (a + gap false l) := by
  have hi := gap_idem false l
  by_cases h : l.drop (gap false l) = []
  · rw [toks_end l a h, toks_end _ _ (by rw [hi, List.drop_zero]; exact h), hi]
    rfl
  · by_cases hk : (tok (l.drop (gap false l))).k = 0
    · rw [toks_bad l a h hk, toks_bad _ _ (by rw [hi, List.drop_zero]; exact h) (by rw [hi, List.drop_zero]; exact hk), hi]
      rfl
    · have hn := (tok_len _ h hk).1
      rw [toks_good l a h hk hn, toks_good (l.drop (gap false l)) _ (by rw [hi, List.drop_zero]; exact h) (by rw [hi, List.drop_zero]; exact hk) (by rw [hi, List.drop_zero]; exact hn), hi]
      rfl
/-- At a place where a token begins. -/
theorem toks_at_end (l : List UInt8) (a : Nat) (h : l.length ≤ a) : toks (l.drop a) a = .ok [⟨4, (a : Nat), [], 0⟩] := by
  have e : l.drop a = [] := List.drop_of_length_le h
  rw [e, toks_end [] a (by simp)]
  rfl
theorem toks_at_bad (l : List UInt8) (a : Nat) (h : a < l.length) (hg : gap false (l.drop a) = 0) (hk : (tok (l.drop a)).k = 0) : toks (l.drop a) a = .error ((tok (l.drop a)).n, a) := by
  have hne : l.drop a ≠ [] := fun e => by have := congrArg List.length e; simp at this; omega
  rw [toks_bad _ _ (by rw [hg, List.drop_zero]; exact hne) (by rw [hg, List.drop_zero]; exact hk), hg, List.drop_zero]
  rfl
theorem toks_at_good (l : List UInt8) (a : Nat) (h : a < l.length) (hg : gap false (l.drop a) = 0) (hk : (tok (l.drop a)).k ≠ 0) :
    toks (l.drop a) a = pre [mkT (l.drop a) a] (toks (l.drop (a + (tok (l.drop a)).n + gap false (l.drop (a + (tok (l.drop a)).n)))) (a + (tok (l.drop a)).n + gap false (l.drop (a + (tok (l.drop a)).n)))) := by
  have hne : l.drop a ≠ [] := fun e => by have := congrArg List.length e; simp at this; omega
  have hn := (tok_len _ hne hk).1
  rw [toks_good _ _ (by rw [hg, List.drop_zero]; exact hne) (by rw [hg, List.drop_zero]; exact hk) (by rw [hg, List.drop_zero]; exact hn), hg, List.drop_zero, List.drop_drop, toks_gap (l.drop (a + (tok (l.drop a)).n)), List.drop_drop]
  rfl

/-- A source's tokens, or what is told. -/
def lexed (l : List UInt8) : Except (Nat × Nat) (List T) := if 65536 < l.length then .error (161, 0) else toks l 0

end Go.Proofs.YtimiglepogeeiaaDoor.Lex

