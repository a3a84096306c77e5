/- Sources put behind one another; tokens that are shown: functions of lists of bytes. No function of the program is walked here. -/
import Derived.Test.YtcplkdiieeefiaaDoorLexMore
set_option linter.unusedVariables false
set_option linter.unusedSimpArgs false
namespace Go.Proofs.YtcplkdiieeefiaaDoor.Lex

theorem byt_append_left (a b : List UInt8) (i : Nat) (h : i < a.length) : byt (a ++ b) i = byt a i := by
  unfold byt; simp [List.getD, List.getElem?_append_left h]
theorem byt_nil (i : Nat) : byt [] i = 0 := rfl

/-- A byte that parts: no byte of a word, of a sign; it begins no remark. -/
structure Parts (d : UInt8) : Prop where
  blank : blaB d.toNat = true
  word : worB d.toNat = false
  slash : (d.toNat : Int) ≠ 47
  sign : ∀ s ∈ signs, d ∉ s
theorem parts10 : Parts 10 := ⟨by decide, by decide, by decide, by decide⟩
theorem parts32 : Parts 32 := ⟨by decide, by decide, by decide, by decide⟩

theorem run_append (p : Int → Bool) (d : UInt8) (h : p d.toNat = false) (b : List UInt8) : ∀ a, run p (a ++ d :: b) = run p a
  | [] => by show run p (d :: b) = 0; rw [run, if_neg (by rw [h]; exact Bool.false_ne_true)]
  | c :: a => by
    show run p (c :: (a ++ d :: b)) = _
    rw [run, run, run_append p d h b a]
theorem take_append_le {a b : List UInt8} {n : Nat} (h : n ≤ a.length) : (a ++ b).take n = a.take n := by
  rw [List.take_append_of_le_length h]
theorem drop_append_le {a b : List UInt8} {n : Nat} (h : n ≤ a.length) : (a ++ b).drop n = a.drop n ++ b := by
  rw [List.drop_append_of_le_length h]
theorem pre_append (d : UInt8) (b : List UInt8) : ∀ (s a : List UInt8), d ∉ s → s.isPrefixOf (a ++ d :: b) = s.isPrefixOf a
  | [], a, _ => by simp [List.isPrefixOf]
  | x :: s, [], h => by
    have hx : (x == d) = false := by
      rw [beq_eq_false_iff_ne]; intro e; exact h (by simp [e])
    show (x :: s).isPrefixOf (d :: b) = false
    rw [List.isPrefixOf, hx]
    rfl
  | x :: s, y :: a, h => by
    show (x :: s).isPrefixOf (y :: (a ++ d :: b)) = _
    rw [List.isPrefixOf, List.isPrefixOf, pre_append d b s a (fun hm => h (by simp [hm]))]
theorem sgnL_append (d : UInt8) (b a : List UInt8) : ∀ (L : List (List UInt8)), (∀ s ∈ L, d ∉ s) → sgnL L (a ++ d :: b) = sgnL L a
  | [], _ => rfl
  | s :: r, h => by
    rw [sgnL, sgnL, pre_append d b s a (h s (by simp)), sgnL_append d b a r (fun x hx => h x (by simp [hx]))]
/-- The token that bytes begin with does not hang on what comes behind a byte that parts. -/
theorem tok_append {d : UInt8} (hd : Parts d) (b : List UInt8) (a : List UInt8) (ha : a ≠ []) : tok (a ++ d :: b) = tok a := by
  have h0 : byt (a ++ d :: b) 0 = byt a 0 := byt_append_left _ _ _ (List.length_pos_iff.2 ha)
  have hr : run worB (a ++ d :: b) = run worB a := run_append worB d hd.word b a
  have hs : sgn (a ++ d :: b) = sgn a := sgnL_append d b a signs hd.sign
  unfold tok
  rw [h0, hr, hs, take_append_le (run_le worB a)]

theorem gap_append {d : UInt8} (hd : Parts d) (hn : d.toNat = 10) (b : List UInt8) : ∀ (m : Bool) (a : List UInt8), gap m (a ++ d :: b) = if gap m a = a.length then a.length + 1 + gap false b else gap m a
  | true, [] => by
    show gap true (d :: b) = [].length + 1 + gap false b
    have e : gap true (d :: b) = 1 + gap (decide (d.toNat ≠ 10)) b := by rw [gap]
    rw [e, hn]
    simp
  | false, [] => by
    show gap false (d :: b) = [].length + 1 + gap false b
    have e : gap false (d :: b) = 1 + gap false b := by rw [gap, if_pos hd.blank]
    rw [e]
    simp
  | true, c :: a => by
    show gap true (c :: (a ++ d :: b)) = _
    rw [gap, gap, gap_append hd hn b _ a, List.length_cons]
    split <;> split <;> omega
  | false, c :: a => by
    show gap false (c :: (a ++ d :: b)) = _
    have hb : byt (a ++ d :: b) 0 = 47 ↔ byt a 0 = 47 := by
      match a with
      | [] => show byt (d :: b) 0 = 47 ↔ byt [] 0 = 47
              rw [byt_zero, byt_nil]
              exact ⟨fun h => absurd h hd.slash, fun h => by cases h⟩
      | e :: a => show byt (e :: (a ++ d :: b)) 0 = 47 ↔ _
                  rw [byt_zero, byt_zero]
    rw [gap, gap, List.length_cons]
    by_cases h1 : blaB c.toNat = true
    · rw [if_pos h1, if_pos h1, gap_append hd hn b false a]
      split <;> split <;> omega
    · rw [if_neg h1, if_neg h1]
      by_cases h2 : c.toNat = 47 ∧ byt a 0 = 47
      · rw [if_pos h2, if_pos ⟨h2.1, hb.2 h2.2⟩, gap_append hd hn b true a]
        split <;> split <;> omega
      · rw [if_neg h2, if_neg (fun h => h2 ⟨h.1, hb.1 h.2⟩), if_neg (by omega)]

/-- The same, so much later. -/
def late (d : Nat) (t : T) : T := ⟨t.k, t.a + d, t.t, t.v⟩
def shiftE (d : Nat) (r : Except (Nat × Nat) (List T)) : Except (Nat × Nat) (List T) :=
  match r with
  | .error (e, a) => .error (e, a + d)
  | .ok ts => .ok (ts.map (late d))
theorem shift_pre (d : Nat) (ts : List T) (r : Except (Nat × Nat) (List T)) : shiftE d (pre ts r) = pre (ts.map (late d)) (shiftE d r) := by
  cases r with
  | error e => rfl
  | ok l => simp [pre, shiftE]
theorem toks_shift (d : Nat) : ∀ (n : Nat) (l : List UInt8) (a : Nat), l.length ≤ n → toks l (a + d) = shiftE d (toks l a)
  | n, l, a, hn => by
    by_cases h1 : l.drop (gap false l) = []
    · rw [toks_end l _ h1, toks_end l a h1]
      simp [shiftE, late]
      omega
    · by_cases hk : (tok (l.drop (gap false l))).k = 0
      · rw [toks_bad l _ h1 hk, toks_bad l a h1 hk]
        simp [shiftE]
        omega
      · have hl := tok_len _ h1 hk
        have hlen : ((l.drop (gap false l)).drop (tok (l.drop (gap false l))).n).length + 1 ≤ l.length := by
          have := hl.2
          simp only [List.length_drop] at this ⊢
          omega
        rw [toks_good l _ h1 hk hl.1, toks_good l a h1 hk hl.1, shift_pre]
        match n, hn with
        | 0, hn => omega
        | n + 1, hn =>
          have := toks_shift d n ((l.drop (gap false l)).drop (tok (l.drop (gap false l))).n) (a + gap false l + (tok (l.drop (gap false l))).n) (by omega)
          rw [show a + d + gap false l + (tok (l.drop (gap false l))).n = a + gap false l + (tok (l.drop (gap false l))).n + d by omega, this]
          congr 1
          simp [late, mkT]
          omega

/-- Without its last token. -/
def joinE (a : Except (Nat × Nat) (List T)) (b : Except (Nat × Nat) (List T)) : Except (Nat × Nat) (List T) :=
  match a with
  | .error e => .error e
  | .ok ts => pre ts.dropLast b
theorem join_pre (t : T) (r b : Except (Nat × Nat) (List T)) (hr : ∀ ts, r = .ok ts → ts ≠ []) : joinE (pre [t] r) b = pre [t] (joinE r b) := by
  cases r with
  | error e => rfl
  | ok ts =>
    have := hr ts rfl
    match ts, this with
    | u :: us, _ => simp [pre, joinE]; cases b <;> simp
theorem toks_some : ∀ {l : List UInt8} {a : Nat} {ts : List T}, toks l a = .ok ts → ts ≠ []
  | l, a, ts, h, e => by
    subst e
    by_cases h1 : l.drop (gap false l) = []
    · rw [toks_end l a h1] at h; injection h with h; cases h
    · by_cases hk : (tok (l.drop (gap false l))).k = 0
      · rw [toks_bad l a h1 hk] at h; cases h
      · rw [toks_good l a h1 hk (tok_len _ h1 hk).1] at h
        unfold pre at h
        split at h
        · cases h
        · injection h with h; cases h
theorem toks_join (b : List UInt8) : ∀ (n : Nat) (a : List UInt8) (o : Nat), a.length ≤ n → toks (a ++ 10 :: b) o = joinE (toks a o) (toks b (o + a.length + 1))
  | n, a, o, hn => by
    have hg := gap_append parts10 rfl b false a
    have hgl := gap_le false a
    by_cases h1 : gap false a = a.length
    · rw [if_pos h1] at hg
      have hd : a.drop (gap false a) = [] := List.drop_of_length_le (by omega)
      rw [toks_end a o hd]
      show _ = pre [] _
      rw [pre_nil, toks_gap (a ++ 10 :: b), toks_gap b, hg]
      have e : (a ++ 10 :: b).drop (a.length + 1 + gap false b) = b.drop (gap false b) := by
        rw [show a.length + 1 + gap false b = a.length + (1 + gap false b) by omega, ← List.drop_drop, List.drop_append_of_le_length (Nat.le_refl _), List.drop_of_length_le (Nat.le_refl a.length)]
        show List.drop (1 + gap false b) (10 :: b) = _
        rw [Nat.add_comm 1, List.drop_succ_cons]
      rw [e]
      congr 1
      omega
    · rw [if_neg h1] at hg
      have hne : a.drop (gap false a) ≠ [] := fun e => by have := congrArg List.length e; simp at this; omega
      have e : (a ++ 10 :: b).drop (gap false a) = a.drop (gap false a) ++ 10 :: b := drop_append_le hgl
      have hne2 : (a ++ 10 :: b).drop (gap false (a ++ 10 :: b)) ≠ [] := by rw [hg, e]; simp
      have ht : tok ((a ++ 10 :: b).drop (gap false (a ++ 10 :: b))) = tok (a.drop (gap false a)) := by rw [hg, e]; exact tok_append parts10 b _ hne
      by_cases hk : (tok (a.drop (gap false a))).k = 0
      · rw [toks_bad a o hne hk, toks_bad _ o hne2 (by rw [ht]; exact hk), ht, hg]
        rfl
      · have hl := tok_len _ hne hk
        rw [toks_good a o hne hk hl.1, toks_good _ o hne2 (by rw [ht]; exact hk) (by rw [ht]; exact hl.1)]
        rw [join_pre _ _ _ (fun ts h => toks_some h), ht, hg]
        have hm : mkT ((a ++ 10 :: b).drop (gap false a)) (o + gap false a) = mkT (a.drop (gap false a)) (o + gap false a) := by
          have ht' := ht
          rw [hg] at ht'
          unfold mkT
          rw [ht', e, take_append_le hl.2]
        rw [hm, e, drop_append_le hl.2]
        have hlen : ((a.drop (gap false a)).drop (tok (a.drop (gap false a))).n).length + 1 ≤ a.length := by
          have := hl.2
          simp only [List.length_drop] at this ⊢
          omega
        match n, hn with
        | 0, hn => omega
        | n + 1, hn =>
          rw [toks_join b n _ _ (by omega)]
          congr 3
          have := hl.2
          simp only [List.length_drop] at this ⊢
          omega

end Go.Proofs.YtcplkdiieeefiaaDoor.Lex

