/- What parts tokens: package lex's parted, the document's blanks. Contracts. -/
import Derived.Test.YtimiglepogeeiaaDoorLexWords
set_option linter.unusedVariables false
set_option linter.unusedSimpArgs false
namespace Go.Proofs.YtimiglepogeeiaaDoor.Lex
open Go.RowKit

theorem gap_blank (l : List UInt8) (a : Nat) (h : a < l.length) (hb : blaB (byt l a) = true) : gap false (l.drop a) = 1 + gap false (l.drop (a + 1)) := by
  obtain ⟨c, h1, h2⟩ := drop_cons l a h
  rw [h1, gap, if_pos (by rw [h2]; exact hb)]
theorem gap_none (l : List UInt8) (a : Nat) (hb : blaB (byt l a) = false) (hr : ¬ (byt l a = 47 ∧ byt l (a + 1) = 47)) : gap false (l.drop a) = 0 := by
  by_cases h : a < l.length
  · obtain ⟨c, h1, h2⟩ := drop_cons l a h
    rw [h1, gap, if_neg (by rw [h2, hb]; exact Bool.false_ne_true), if_neg]
    rintro ⟨h3, h4⟩
    rw [byt_drop] at h4
    exact hr ⟨by rw [← h2, h3]; rfl, h4⟩
  · rw [List.drop_of_length_le (by omega), gap]
theorem gap_end (l : List UInt8) (a : Nat) (h : l.length ≤ a) : gap false (l.drop a) = 0 := by
  rw [List.drop_of_length_le h, gap]
theorem byt_end (l : List UInt8) (a : Nat) (h : l.length ≤ a) : byt l a = 0 := by
  unfold byt; simp [List.getD, List.getElem?_eq_none h]
theorem gap_remark (l : List UInt8) (a : Nat) (h0 : byt l a = 47) (h1 : byt l (a + 1) = 47) :
    a + 1 < l.length ∧ 2 ≤ run remB (l.drop a) ∧ a + run remB (l.drop a) ≤ l.length ∧ gap false (l.drop a) = run remB (l.drop a) + gap false (l.drop (a + run remB (l.drop a))) := by
  have hl : a + 1 < l.length := by
    rcases Nat.lt_or_ge (a + 1) l.length with h | h
    · exact h
    · rw [byt_end _ _ h] at h1; cases h1
  obtain ⟨c, e1, e2⟩ := drop_cons l a (by omega)
  obtain ⟨d, e3, e4⟩ := drop_cons l (a + 1) hl
  have r1 : run remB (l.drop a) = run remB (l.drop (a + 1)) + 1 := by rw [e1, run, if_pos (by rw [e2, h0]; rfl)]
  have r2 : run remB (l.drop (a + 1)) = run remB (l.drop (a + 1 + 1)) + 1 := by rw [e3, run, if_pos (by rw [e4, h1]; rfl)]
  have hle := run_le remB (l.drop a)
  rw [List.length_drop] at hle
  refine ⟨hl, by omega, by omega, ?_⟩
  have g := gap_rem (l.drop (a + 1))
  rw [List.drop_drop] at g
  have hg : gap false (l.drop a) = 1 + gap true (l.drop (a + 1)) := by
    rw [e1, gap, if_neg (by rw [e2, h0]; decide), if_pos ⟨by rw [h0] at e2; omega, by rw [byt_drop]; exact h1⟩]
  rw [hg, g, r1, show a + (run remB (l.drop (a + 1)) + 1) = a + 1 + run remB (l.drop (a + 1)) by omega]
  omega

theorem pre_rem (l : List UInt8) : (B (S [47, 47])).isPrefixOf l = decide (byt l 0 = 47 ∧ byt l 1 = 47) := by
  rw [B_S]
  unfold byt
  match l with
  | [] => rfl
  | [a] => simp [List.isPrefixOf]
  | a :: b :: r =>
    rw [Bool.eq_iff_iff]
    simp [List.isPrefixOf]
    constructor
    · rintro ⟨rfl, rfl⟩; exact ⟨rfl, rfl⟩
    · rintro ⟨h1, h2⟩; exact ⟨UInt8.toNat_inj.1 (show (47 : Nat) = a.toNat by omega), UInt8.toNat_inj.1 (show (47 : Nat) = b.toNat by omega)⟩

theorem preRem_any (s : ByteArray) (a : Nat) (h : Bool) (hh : decide (byt (B s) a = 47 ∧ byt (B s) (a + 1) = 47) = h) (w : World) : Calls Tryd.prog 47 #[.string (s.extract a s.size), .string (S [47, 47])] w fun e w' => e = .returned (.bool h) ∧ w' = w :=
  (HasPrefix_any _ (S [47, 47]) w).mono fun e w' hw => ⟨by rw [hw.1, pre_rem, ext_drop, B_S, byt_drop, byt_drop, Nat.add_zero, hh], hw.2⟩
theorem isBlank_is (c : Int) (b : Bool) (h : blaB c = b) (w : World) : Calls Tryd.prog 46 #[.int .u8 c] w fun e w' => e = .returned (.bool b) ∧ w' = w :=
  (isBlank_any c w).mono fun e w' hw => ⟨by rw [hw.1, h], hw.2⟩
theorem remark_at (s : ByteArray) (a : Nat) (w : World) : Calls Tryd.prog 48 #[.string (s.extract a s.size)] w fun e w' => e = .returned (.int .i64 (run remB ((B s).drop a))) ∧ w' = w :=
  (remark_any _ w).mono fun e w' hw => ⟨by rw [hw.1, ext_drop, B_S], hw.2⟩

def GRel (s : ByteArray) (a0 : Nat) (i : Value) : Prop := ∃ a : Nat, a ≤ s.size ∧ a0 + gap false ((B s).drop a0) = a + gap false ((B s).drop a) ∧ i = .int .i64 a

set_option maxHeartbeats 1000000 in
theorem parted_any (s : ByteArray) (a0 : Nat) (h0 : a0 ≤ s.size) (w : World) (hs : s.size ≤ maxLen) : Calls Tryd.prog 25 #[.string s, .int .i64 a0] w fun e w' => e = .returned (.int .i64 (a0 + gap false ((B s).drop a0) : Nat)) ∧ w' = w := by
  unfold maxLen at hs
  have hl := B_len s
  go_enter Tryd.func25, Tryd.ntmps25
  go_wp2_with fail
  go_loop [1] (fun i => GRel s a0 i) (fun i => s.size - (intOf i).toNat)
  case atStart => exact ⟨a0, h0, rfl, rfl⟩
  case round =>
    obtain ⟨a, ha, he, rfl⟩ := hrel
    by_cases hlt : a < s.size
    · have hb := get_B s a hlt
      by_cases hbl : blaB (byt (B s) a) = true
      · have HG := gap_blank (B s) a (by omega) hbl
        go_wp2_with (go_at_call 46; refine (isBlank_is _ _ hbl _).mono ?_; rintro e w' ⟨rfl, rfl⟩)
        all_goals exact ⟨⟨a + 1, by omega, by rw [he, HG]; omega, by go_num⟩, by simp [intOf]; omega⟩
      · have hbl' : blaB (byt (B s) a) = false := by simpa using hbl
        by_cases hr : byt (B s) a = 47 ∧ byt (B s) (a + 1) = 47
        · obtain ⟨g1, g2, g3, g4⟩ := gap_remark (B s) a hr.1 hr.2
          have hrd : Hid (_ = _) := decide_eq_true hr
          clear hr
          go_wp2_with (first | (go_at_call 46; refine (isBlank_is _ _ hbl' _).mono ?_; rintro e w' ⟨rfl, rfl⟩) | (go_at_call 47; refine (preRem_any s a _ hrd.out _).mono ?_; rintro e w' ⟨rfl, rfl⟩) | (go_at_call 48; refine (remark_at s a _).mono ?_; rintro e w' ⟨rfl, rfl⟩))
          all_goals exact ⟨⟨a + run remB ((B s).drop a), by omega, by rw [he, g4]; omega, by go_num⟩, by simp [intOf]; omega⟩
        · have hrd : Hid (_ = _) := decide_eq_false hr
          have hg := gap_none (B s) a hbl' hr
          clear hr
          go_wp2_with (first | (go_at_call 46; refine (isBlank_is _ _ hbl' _).mono ?_; rintro e w' ⟨rfl, rfl⟩) | (go_at_call 47; refine (preRem_any s a _ hrd.out _).mono ?_; rintro e w' ⟨rfl, rfl⟩))
          go_ret
          exact ⟨ret_i (by omega), rfl⟩
    · have hg := gap_end (B s) a (by omega)
      go_wp2_with fail
      go_ret
      exact ⟨ret_i (by omega), rfl⟩

/-- The document's inner round: on to the line end. -/
def RRel (s : ByteArray) (a : Nat) (i : Value) : Prop := ∃ b : Nat, a ≤ b ∧ b ≤ a + run remB ((B s).drop a) ∧ i = .int .i64 b

set_option maxHeartbeats 2000000 in
theorem blanks_any (s : ByteArray) (a0 : Nat) (h0 : a0 ≤ s.size) (w : World) (hs : s.size ≤ maxLen) : Calls Tryd.prog 29 #[.string s, .int .i64 a0] w fun e w' => e = .returned (.int .i64 (a0 + gap false ((B s).drop a0) : Nat)) ∧ w' = w := by
  unfold maxLen at hs
  have hl := B_len s
  go_enter Tryd.func29, Tryd.ntmps29
  go_wp2_with fail
  go_loop [1] (fun i => GRel s a0 i) (fun i => s.size - (intOf i).toNat)
  case atStart => exact ⟨a0, h0, rfl, rfl⟩
  case round =>
    obtain ⟨a, ha, he, rfl⟩ := hrel
    by_cases hlt : a < s.size
    · have hb := get_B s a hlt
      by_cases hbl : blaB (byt (B s) a) = true
      · have HG := gap_blank (B s) a (by omega) hbl
        have hc : byt (B s) a = 32 ∨ byt (B s) a = 9 ∨ byt (B s) a = 13 ∨ byt (B s) a = 10 := by simpa [blaB] using hbl
        clear hbl
        rcases hc with hc | hc | hc | hc
        all_goals
          rw [hc] at hb
          clear hc
          go_wp2_with fail
          exact ⟨⟨a + 1, by omega, by rw [he, HG]; omega, by go_num⟩, by simp [intOf]; omega⟩
      · have hbl' : blaB (byt (B s) a) = false := by simpa using hbl
        have hn : byt (B s) a ≠ 32 ∧ byt (B s) a ≠ 9 ∧ byt (B s) a ≠ 13 ∧ byt (B s) a ≠ 10 := by simpa [blaB] using hbl
        obtain ⟨n1, n2, n3, n4⟩ := hn
        have m1 : (byt (B s) a == 32) = false := by simpa using n1
        have m2 : (byt (B s) a == 9) = false := by simpa using n2
        have m3 : (byt (B s) a == 13) = false := by simpa using n3
        have m4 : (byt (B s) a == 10) = false := by simpa using n4
        clear n1 n2 n3 n4 hbl
        by_cases hr : byt (B s) a = 47 ∧ byt (B s) (a + 1) = 47
        · obtain ⟨g1, g2, g3, g4⟩ := gap_remark (B s) a hr.1 hr.2
          have hlt1 : a + 1 < s.size := by omega
          have hb1 := get_B s (a + 1) hlt1
          rw [hr.1] at hb
          rw [hr.2] at hb1
          clear hr
          have hin := run_in remB ((B s).drop a)
          have hout := run_out remB ((B s).drop a)
          rw [List.length_drop] at hout
          have hR : a + run remB ((B s).drop a) ≤ s.size := by omega
          go_wp2_with fail
          go_loop [1] (fun i => RRel s a i) (fun i => s.size - (intOf i).toNat)
          case atStart => exact ⟨a, Nat.le_refl _, by omega, rfl⟩
          case round =>
            obtain ⟨b, q1, q2, rfl⟩ := hrel
            by_cases hlb : b < a + run remB ((B s).drop a)
            · have hlb' : b < s.size := by omega
              have hbb := get_B s b hlb'
              have hne : (byt (B s) b != 10) = true := by
                have := hin (b - a) (by omega)
                rw [byt_drop, show a + (b - a) = b by omega] at this
                simpa [remB] using this
              clear hb hb1
              go_wp2_with fail
              all_goals exact ⟨⟨b + 1, by omega, by omega, by go_num⟩, by simp [intOf]; omega⟩
            · obtain rfl : b = a + run remB ((B s).drop a) := by omega
              have HE : GRel s a0 (.int .i64 ((a + run remB ((B s).drop a) : Nat) : Int)) := ⟨_, hR, by rw [he, g4]; omega, rfl⟩
              by_cases hle : a + run remB ((B s).drop a) < s.size
              · have hbb := get_B s _ hle
                have hne : (byt (B s) (a + run remB ((B s).drop a)) != 10) = false := by
                  have := hout (by omega)
                  rw [byt_drop] at this
                  simpa [remB] using this
                clear hb hb1
                generalize hq : a + run remB ((B s).drop a) = q at *
                go_wp2_with fail
                exact ⟨HE, by simp [intOf]; omega⟩
              · clear hb hb1
                generalize hq : a + run remB ((B s).drop a) = q at *
                go_wp2_with fail
                exact ⟨HE, by simp [intOf]; omega⟩
        · have hg := gap_none (B s) a hbl' hr
          clear hbl'
          rcases (show s.size ≤ a + 1 ∨ (a + 1 < s.size ∧ byt (B s) a ≠ 47) ∨ (a + 1 < s.size ∧ byt (B s) a = 47 ∧ byt (B s) (a + 1) ≠ 47) by omega) with h1 | ⟨h1, h2⟩ | ⟨h1, h2, h3⟩
          · clear hr
            go_wp2_with fail
            go_ret
            exact ⟨rfl, rfl⟩
          · have h4 : (byt (B s) a != 47) = true := by simpa using h2
            have hb1 := get_B s (a + 1) h1
            clear hr h2
            go_wp2_with fail
            go_ret
            exact ⟨rfl, rfl⟩
          · have hb1 := get_B s (a + 1) h1
            have h4 : (byt (B s) (a + 1) != 47) = true := by simpa using h3
            clear hr h3
            go_wp2_with fail
            go_ret
            exact ⟨rfl, rfl⟩
    · have hg := gap_end (B s) a (by omega)
      go_wp2_with fail
      go_ret
      exact ⟨ret_i (by omega), rfl⟩

end Go.Proofs.YtimiglepogeeiaaDoor.Lex

