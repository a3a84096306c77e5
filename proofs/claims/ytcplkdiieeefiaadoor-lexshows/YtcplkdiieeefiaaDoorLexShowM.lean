/- What parts tokens taken alone; tokens that are shown and read again: functions of lists of bytes. No function of the program is walked here. -/
import Derived.Test.YtcplkdiieeefiaaDoorLexJoin
set_option linter.unusedVariables false
set_option linter.unusedSimpArgs false
namespace Go.Proofs.YtcplkdiieeefiaaDoor.Lex

theorem gap_take : ∀ (m : Bool) (l : List UInt8), gap m (l.take (gap m l)) = gap m l
  | _, [] => by simp
  | true, c :: l => by
    have e : gap true (c :: l) = gap (decide (c.toNat ≠ 10)) l + 1 := by rw [gap]; omega
    rw [e, List.take_succ_cons]
    have := gap_take (decide (c.toNat ≠ 10)) l
    rw [gap, this]
    omega
  | false, c :: l => by
    by_cases h : blaB c.toNat = true
    · have e : gap false (c :: l) = gap false l + 1 := by rw [gap, if_pos h]; omega
      rw [e, List.take_succ_cons, gap, if_pos h, gap_take false l]
      omega
    · by_cases h2 : c.toNat = 47 ∧ byt l 0 = 47
      · have e : gap false (c :: l) = gap true l + 1 := by rw [gap, if_neg h, if_pos h2]; omega
        have h1 : 0 < gap true l := by
          match l, h2 with
          | [], h2 => exact absurd h2.2 (by rw [byt_nil]; decide)
          | d :: r, h2 => rw [gap]; omega
        have h3 : byt (l.take (gap true l)) 0 = 47 := by rw [byt_take l _ 0 h1]; exact h2.2
        rw [e, List.take_succ_cons, gap, if_neg h, if_pos ⟨h2.1, h3⟩, gap_take true l]
        omega
      · have e : gap false (c :: l) = 0 := by rw [gap, if_neg h, if_neg h2]
        rw [e]
        simp [gap]
/-- What parts tokens, taken alone, has just the end. -/
theorem lexed_gap (l : List UInt8) (h : l.length ≤ 65536) : lexed (l.take (gap false l)) = .ok [⟨4, (gap false l : Nat), [], 0⟩] := by
  have hl := gap_le false l
  have hg := gap_take false l
  have hz : (l.take (gap false l)).length = gap false l := by rw [List.length_take]; omega
  unfold lexed
  rw [if_neg (by omega), toks_end _ 0 (by rw [hg]; exact List.drop_of_length_le (by omega)), hg, Nat.zero_add]

theorem run_take (p : Int → Bool) : ∀ l, run p (l.take (run p l)) = run p l
  | [] => rfl
  | c :: l => by
    by_cases h : p c.toNat = true
    · have e : run p (c :: l) = run p l + 1 := by rw [run, if_pos h]
      rw [e, List.take_succ_cons, run, if_pos h, run_take p l]
    · have e : run p (c :: l) = 0 := by rw [run, if_neg h]
      rw [e]
      rfl
theorem sgnL_take : ∀ (L : List (List UInt8)) (l : List UInt8), sgnL L l ≠ 0 → sgnL L (l.take (sgnL L l)) = sgnL L l
  | [], l, h => absurd rfl h
  | s :: r, l, h => by
    by_cases hs : s.isPrefixOf l = true
    · have e : sgnL (s :: r) l = s.length := by rw [sgnL, if_pos hs]
      rw [e, sgnL, ← List.prefix_iff_eq_take.1 (List.isPrefixOf_iff_prefix.1 hs), if_pos (List.isPrefixOf_iff_prefix.2 (List.prefix_refl s))]
    · have e : sgnL (s :: r) l = sgnL r l := by rw [sgnL, if_neg hs]
      rw [e] at h ⊢
      have hn : ¬ s.isPrefixOf (l.take (sgnL r l)) = true := fun hp => hs (List.isPrefixOf_iff_prefix.2 ((List.isPrefixOf_iff_prefix.1 hp).trans (List.take_prefix _ _)))
      rw [sgnL, if_neg hn, sgnL_take r l h]
theorem tok_take (l : List UInt8) (hl : l ≠ []) (hk : (tok l).k ≠ 0) : tok (l.take (tok l).n) = tok l := by
  have hlen := tok_len l hl hk
  have hb : byt (l.take (tok l).n) 0 = byt l 0 := byt_take _ _ _ hlen.1
  generalize hx : l.take (tok l).n = x at *
  unfold tok at hk hx ⊢
  rw [hb]
  by_cases h : letB (byt l 0) = true
  · rw [if_pos h] at hk hx ⊢
    rw [if_pos h]
    by_cases h2 : 32 < run worB l
    · rw [if_pos h2] at hk; exact absurd rfl hk
    · rw [if_neg h2] at hx ⊢
      have hr : run worB x = run worB l := by rw [← hx]; exact run_take worB l
      rw [hr, if_neg h2]
  · rw [if_neg h] at hk hx ⊢
    rw [if_neg h]
    by_cases h3 : digB (byt l 0) = true
    · rw [if_pos h3] at hk hx ⊢
      rw [if_pos h3]
      by_cases h2 : val (l.take (run worB l)) < 0
      · rw [if_pos h2] at hk; exact absurd rfl hk
      · rw [if_neg h2] at hx ⊢
        have hx' : l.take (run worB l) = x := hx
        have hr : run worB x = run worB l := by rw [← hx']; exact run_take worB l
        have ht : x.take (run worB l) = x := List.take_of_length_le (by rw [← hx', List.length_take]; omega)
        rw [hx'] at h2 ⊢
        rw [hr, ht, if_neg h2]
    · rw [if_neg h3] at hk hx ⊢
      rw [if_neg h3]
      by_cases h2 : sgn l = 0
      · rw [if_pos h2] at hk; exact absurd rfl hk
      · rw [if_neg h2] at hx ⊢
        have hs : sgn x = sgn l := by rw [← hx]; exact sgnL_take signs l h2
        rw [hs, if_neg h2]
theorem tok_kind (l : List UInt8) : (tok l).k ≤ 3 := by
  unfold tok
  split
  · split <;> simp
  · split
    · split <;> simp
    · split <;> simp

/-- Tokens as a text. -/
def shows (ts : List T) : List UInt8 := (ts.map fun t => if t.k = 4 then t.t else t.t ++ [32]).flatten
/-- A token, but for where it stands. -/
def at0 (t : T) : T := ⟨t.k, 0, t.t, t.v⟩
theorem toks_blank (l : List UInt8) (a : Nat) : toks (32 :: l) a = toks l (a + 1) := by
  have hg : gap false (32 :: l) = gap false l + 1 := by rw [gap, if_pos parts32.blank]; omega
  rw [toks_gap (32 :: l), toks_gap l, hg, List.drop_succ_cons]
  congr 1
  omega
theorem gap_zero {l : List UInt8} (hg : gap false l = 0) (hl : l ≠ []) : blaB (byt l 0) = false ∧ ¬ (byt l 0 = 47 ∧ byt l 1 = 47) := by
  match l, hl with
  | c :: r, _ =>
    rw [byt_zero, byt_cons]
    rw [gap] at hg
    by_cases h : blaB c.toNat = true
    · rw [if_pos h] at hg; omega
    · rw [if_neg h] at hg
      refine ⟨by simpa using h, fun h2 => ?_⟩
      rw [if_pos ⟨by have := h2.1; omega, h2.2⟩] at hg
      omega
theorem gap_zero_of {l : List UInt8} (h1 : blaB (byt l 0) = false) (h2 : ¬ (byt l 0 = 47 ∧ byt l 1 = 47)) : gap false l = 0 := by
  match l with
  | [] => rfl
  | c :: r =>
    rw [byt_zero] at h1 h2
    rw [byt_cons] at h2
    rw [gap, if_neg (by rw [h1]; exact Bool.false_ne_true), if_neg (fun h => h2 ⟨by omega, h.2⟩)]
theorem toks_show : ∀ (n : Nat) (l : List UInt8) (a : Nat) (ts : List T), l.length ≤ n → toks l a = .ok ts → ∀ o, ∃ us, toks (shows ts) o = .ok us ∧ us.map at0 = ts.map at0
  | n, l, a, ts, hn, h, o => by
    by_cases h1 : l.drop (gap false l) = []
    · rw [toks_end l a h1] at h
      injection h with h
      subst h
      exact ⟨_, toks_end [] o rfl, rfl⟩
    · by_cases hk : (tok (l.drop (gap false l))).k = 0
      · rw [toks_bad l a h1 hk] at h; cases h
      · have hlen := tok_len _ h1 hk
        have hgi := gap_idem false l
        rw [toks_good l a h1 hk hlen.1] at h
        obtain ⟨us, h2, hts⟩ : ∃ us, toks ((l.drop (gap false l)).drop (tok (l.drop (gap false l))).n) (a + gap false l + (tok (l.drop (gap false l))).n) = .ok us ∧ ts = [mkT (l.drop (gap false l)) (a + gap false l)] ++ us := by
          revert h
          cases toks ((l.drop (gap false l)).drop (tok (l.drop (gap false l))).n) (a + gap false l + (tok (l.drop (gap false l))).n) with
          | error e => intro h; cases h
          | ok us => intro h; injection h with h; exact ⟨us, rfl, h.symm⟩
        have hl2 : ((l.drop (gap false l)).drop (tok (l.drop (gap false l))).n).length + 1 ≤ l.length := by
          have := hlen.2
          simp only [List.length_drop] at this ⊢
          omega
        generalize hq : l.drop (gap false l) = q at *
        have ht := tok_take q h1 hk
        have hxl : (q.take (tok q).n).length = (tok q).n := by rw [List.length_take]; omega
        have hk3 := tok_kind q
        obtain ⟨hb1, hb2⟩ := gap_zero hgi h1
        generalize hx : q.take (tok q).n = x at *
        have hxne : x ≠ [] := fun e => by rw [e] at hxl; simp at hxl; omega
        have hsh : shows ts = x ++ 32 :: shows us := by
          rw [hts]
          have hm : (mkT q (a + gap false l)).k ≠ 4 := by unfold mkT; simp; omega
          have hmt : (mkT q (a + gap false l)).t = x := hx
          simp [shows, if_neg hm, hmt]
        have htk : tok (x ++ 32 :: shows us) = tok q := by rw [tok_append parts32 _ x hxne, ht]
        have hx0 : byt (x ++ 32 :: shows us) 0 = byt q 0 := by
          rw [byt_append_left _ _ _ (by omega), ← hx, byt_take q _ 0 hlen.1]
        have hg0 : gap false (x ++ 32 :: shows us) = 0 := by
          refine gap_zero_of (by rw [hx0]; exact hb1) (fun hc => ?_)
          rw [hx0] at hc
          by_cases h3 : 1 < (tok q).n
          · rw [byt_append_left _ _ _ (by omega), ← hx, byt_take q _ 1 h3] at hc
            exact hb2 hc
          · have h4 : (tok q).n = 1 := by omega
            have : byt (x ++ 32 :: shows us) 1 = 32 := by
              unfold byt
              rw [List.getD_eq_getElem?_getD, List.getElem?_append_right (by omega), show 1 - x.length = 0 by omega]
              rfl
            rw [this] at hc
            exact absurd hc.2 (by decide)
        have hdr : (x ++ 32 :: shows us).drop (tok q).n = 32 :: shows us := by
          rw [← hxl, List.drop_append_of_le_length (Nat.le_refl _), List.drop_of_length_le (Nat.le_refl _)]
          rfl
        have hne : x ++ 32 :: shows us ≠ [] := by simp
        match n, hn with
        | 0, hn => omega
        | n + 1, hn =>
          obtain ⟨vs, h5, h6⟩ := toks_show n _ _ us (by omega) h2 (o + (tok q).n + 1)
          have hT := toks_good (x ++ 32 :: shows us) o (by rw [hg0]; exact hne) (by rw [hg0, List.drop_zero, htk]; exact hk) (by rw [hg0, List.drop_zero, htk]; exact hlen.1)
          rw [hg0, List.drop_zero, htk, hdr, Nat.add_zero, toks_blank, h5] at hT
          refine ⟨mkT (x ++ 32 :: shows us) o :: vs, by rw [hsh, hT]; rfl, ?_⟩
          rw [hts]
          have hmt : at0 (mkT (x ++ 32 :: shows us) o) = at0 (mkT q (a + gap false l)) := by
            unfold at0 mkT
            rw [htk, hx, ← hxl, List.take_append_of_le_length (Nat.le_refl _), List.take_of_length_le (Nat.le_refl _)]
          simp only [List.map_cons, List.singleton_append, hmt, h6]

/-- A text of tokens is at most twice as long as the source. -/
theorem shows_len : ∀ (n : Nat) (l : List UInt8) (a : Nat) (ts : List T), l.length ≤ n → toks l a = .ok ts → (shows ts).length ≤ 2 * l.length
  | n, l, a, ts, hn, h => by
    by_cases h1 : l.drop (gap false l) = []
    · rw [toks_end l a h1] at h; injection h with h; subst h; simp [shows]
    · by_cases hk : (tok (l.drop (gap false l))).k = 0
      · rw [toks_bad l a h1 hk] at h; cases h
      · have hlen := tok_len _ h1 hk
        rw [toks_good l a h1 hk hlen.1] at h
        obtain ⟨us, h2, hts⟩ : ∃ us, toks ((l.drop (gap false l)).drop (tok (l.drop (gap false l))).n) (a + gap false l + (tok (l.drop (gap false l))).n) = .ok us ∧ ts = [mkT (l.drop (gap false l)) (a + gap false l)] ++ us := by
          revert h
          cases toks ((l.drop (gap false l)).drop (tok (l.drop (gap false l))).n) (a + gap false l + (tok (l.drop (gap false l))).n) with
          | error e => intro h; cases h
          | ok us => intro h; injection h with h; exact ⟨us, rfl, h.symm⟩
        have hk3 := tok_kind (l.drop (gap false l))
        have hm : (mkT (l.drop (gap false l)) (a + gap false l)).k ≠ 4 := by unfold mkT; simp; omega
        have hsl : (shows ts).length = (tok (l.drop (gap false l))).n + 1 + (shows us).length := by
          rw [hts]
          have : (mkT (l.drop (gap false l)) (a + gap false l)).t.length = (tok (l.drop (gap false l))).n := by unfold mkT; rw [List.length_take]; omega
          simp [shows, if_neg hm, this]
          omega
        have hl2 : ((l.drop (gap false l)).drop (tok (l.drop (gap false l))).n).length + (tok (l.drop (gap false l))).n ≤ l.length := by
          have := hlen.2
          simp only [List.length_drop] at this ⊢
          omega
        match n, hn with
        | 0, hn => have := hlen.1; omega
        | n + 1, hn =>
          have := hlen.1
          have := shows_len n _ _ us (by omega) h2
          omega

end Go.Proofs.YtcplkdiieeefiaaDoor.Lex

