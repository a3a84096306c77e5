/- The token that a text begins with: package lex's name, number, first. Contracts. -/
import Derived.Test.YtimiglepogeeiaaDoorLexNums
import Derived.Test.YtimiglepogeeiaaDoorLexSignR
set_option linter.unusedVariables false
set_option linter.unusedSimpArgs false
namespace Go.Proofs.YtimiglepogeeiaaDoor.Lex
open Go.RowKit

/-- What is told of a token that begins here, without its place; or of an error. -/
def noV (e : Int) : Value := .tuple #[.agg #[.int .i64 0, .int .i64 0, .string ⟨#[]⟩, .int .u32 0], .int .i64 e]
def tkV (k : Int) (t : List UInt8) (v : Int) : Value := .tuple #[.agg #[.int .i64 k, .int .i64 0, .string (S t), .int .u32 v], .int .i64 0]
def fiV (l : List UInt8) : Value := if (tok l).k = 0 then noV (tok l).n else tkV (tok l).k (l.take (tok l).n) (tok l).v

theorem bcell {W w1 : World} (hb : Below W.heap.size W w1) : (∀ b o, b < W.heap.size → w1.cell? ⟨b, o, none⟩ = W.cell? ⟨b, o, none⟩) ∧ (∀ b o, b < W.heap.size → w1.frozen? ⟨b, o, none⟩ = W.frozen? ⟨b, o, none⟩) :=
  ⟨fun b o h => hb.cell (p := ⟨b, o, none⟩) h, fun b o h => hb.frozen (p := ⟨b, o, none⟩) h⟩
theorem next {W w1 w2 : World} (h1 : Below W.heap.size W w1) (h2 : Below w1.heap.size w1 w2) : Below W.heap.size W w2 := h1.trans (h2.mono h1.size)
theorem next1 {w w1 : World} {o : Obj} (h : Below (w.alloc o).heap.size (w.alloc o) w1) : Below w.heap.size w w1 := next ((Below.refl _ _).alloc (Nat.le_refl _) _) h
theorem set4 {w w1 : World} {o : Obj} {u0 u1 u2 u3 : Value} (h : Below (w.alloc o).heap.size (w.alloc o) w1) : Below w.heap.size w ((((w1.setCell ⟨w.heap.size, 0, none⟩ u0).setCell ⟨w.heap.size, 1, none⟩ u1).setCell ⟨w.heap.size, 2, none⟩ u2).setCell ⟨w.heap.size, 3, none⟩ u3) :=
  ((((next1 h).setCell (Nat.le_refl _) _).setCell (Nat.le_refl _) _).setCell (Nat.le_refl _) _).setCell (Nat.le_refl _) _
theorem hide {P : Prop} (h : P) : Hid P := h
theorem name_any (s : ByteArray) (w : World) : Calls Tryd.prog 50 #[.string s] w fun e w' => e = .returned (if 32 < s.size then noV 102 else tkV 1 (B s) 0) ∧ Below w.heap.size w w' := by
  by_cases h : 32 < s.size
  · rw [if_pos h]
    go_enter Tryd.func50, Tryd.ntmps50
    go_wp2
    exact bodyPost_ret (v := noV 102) (by simp [results, Tryd.results50, go_sem, noV]) rfl ⟨rfl, (Below.refl _ _).alloc (Nat.le_refl _) _⟩
  · rw [if_neg h]
    go_enter Tryd.func50, Tryd.ntmps50
    go_wp2
    exact bodyPost_ret (v := tkV 1 (B s) 0) (by simp [results, Tryd.results50, go_sem, tkV, S_B]) rfl ⟨rfl, (Below.refl _ _).alloc (Nat.le_refl _) _⟩

theorem number_any (s : ByteArray) (w : World) (hs : s.size ≤ maxLen) : Calls Tryd.prog 53 #[.string s] w fun e w' => e = .returned (if val (B s) < 0 then noV 101 else tkV 2 (B s) (val (B s))) ∧ Below w.heap.size w w' := by
  by_cases h : val (B s) < 0
  · rw [if_pos h]
    have ht : told (val (B s)) = .tuple #[.int .u32 0, .bool false] := by unfold told; rw [if_pos h, decide_eq_false (by omega)]
    go_enter Tryd.func53, Tryd.ntmps53
    go_wp2_with (go_at_call 76; refine (value_any _ _ hs).mono ?_; rintro e w' ⟨rfl, rfl⟩; rw [ht])
    exact bodyPost_ret (v := noV 101) (by simp [results, Tryd.results53, go_sem, noV]) rfl ⟨rfl, (Below.refl _ _).alloc (Nat.le_refl _) _⟩
  · rw [if_neg h]
    have ht : told (val (B s)) = .tuple #[.int .u32 (val (B s)), .bool true] := told_yes (by omega)
    go_enter Tryd.func53, Tryd.ntmps53
    go_wp2_with (go_at_call 76; refine (value_any _ _ hs).mono ?_; rintro e w' ⟨rfl, rfl⟩; rw [ht])
    exact bodyPost_ret (v := tkV 2 (B s) (val (B s))) (by simp [results, Tryd.results53, go_sem, tkV, S_B]) rfl ⟨rfl, (Below.refl _ _).alloc (Nat.le_refl _) _⟩

theorem tok_let (l : List UInt8) (h : letB (byt l 0) = true) : tok l = if 32 < run worB l then ⟨0, 102, 0⟩ else ⟨1, run worB l, 0⟩ := by
  simp only [tok, h, if_true]
theorem tok_dig (l : List UInt8) (h : letB (byt l 0) = false) (h1 : digB (byt l 0) = true) : tok l = if val (l.take (run worB l)) < 0 then ⟨0, 101, 0⟩ else ⟨2, run worB l, val (l.take (run worB l))⟩ := by
  simp only [tok, h, h1, if_true, Bool.false_eq_true, if_false]
theorem tok_sgn (l : List UInt8) (h : letB (byt l 0) = false) (h1 : digB (byt l 0) = false) : tok l = if sgn l = 0 then ⟨0, 100, 0⟩ else ⟨3, sgn l, 0⟩ := by
  simp only [tok, h, h1, Bool.false_eq_true, if_false]
theorem fi_no {l : List UInt8} {n : Nat} (h : tok l = ⟨0, n, 0⟩) : fiV l = noV n := by unfold fiV; rw [h]; rfl
theorem fi_yes {l : List UInt8} {k n : Nat} {v : Int} (h : tok l = ⟨k + 1, n, v⟩) : fiV l = tkV (k + 1 : Nat) (l.take n) v := by unfold fiV; rw [h, if_neg (by simp)]
theorem name_no (s : ByteArray) (w : World) (h : 32 < s.size) : Calls Tryd.prog 50 #[.string s] w fun e w' => e = .returned (noV 102) ∧ Below w.heap.size w w' :=
  (name_any s w).mono fun e w' hw => ⟨by rw [hw.1, if_pos h], hw.2⟩
theorem name_yes (s : ByteArray) (w : World) (h : ¬ 32 < s.size) : Calls Tryd.prog 50 #[.string s] w fun e w' => e = .returned (tkV 1 (B s) 0) ∧ Below w.heap.size w w' :=
  (name_any s w).mono fun e w' hw => ⟨by rw [hw.1, if_neg h], hw.2⟩
theorem number_no (s : ByteArray) (w : World) (hs : s.size ≤ maxLen) (h : val (B s) < 0) : Calls Tryd.prog 53 #[.string s] w fun e w' => e = .returned (noV 101) ∧ Below w.heap.size w w' :=
  (number_any s w hs).mono fun e w' hw => ⟨by rw [hw.1, if_pos h], hw.2⟩
theorem number_yes (s : ByteArray) (w : World) (hs : s.size ≤ maxLen) (h : ¬ val (B s) < 0) : Calls Tryd.prog 53 #[.string s] w fun e w' => e = .returned (tkV 2 (B s) (val (B s))) ∧ Below w.heap.size w w' :=
  (number_any s w hs).mono fun e w' hw => ⟨by rw [hw.1, if_neg h], hw.2⟩
theorem sign_no (s : ByteArray) (w : World) (hs : s.size ≤ maxLen) (hS : Sig w) (h : sgn (B s) = 0) : Calls Tryd.prog 54 #[.string s] w fun e w' => e = .returned (noV 100) ∧ Below w.heap.size w w' :=
  (sign_any s w hs hS).mono fun e w' hw => ⟨by rw [hw.1, sgV, if_pos h]; rfl, hw.2⟩
theorem sign_yes (s : ByteArray) (w : World) (hs : s.size ≤ maxLen) (hS : Sig w) (h : ¬ sgn (B s) = 0) : Calls Tryd.prog 54 #[.string s] w fun e w' => e = .returned (tkV 3 ((B s).take (sgn (B s))) 0) ∧ Below w.heap.size w w' :=
  (sign_any s w hs hS).mono fun e w' hw => ⟨by rw [hw.1, sgV, if_neg h]; rfl, hw.2⟩
theorem word_size (l : List UInt8) : (S (l.take (run worB l))).size = run worB l := by
  rw [S_size, List.length_take]; have := run_le worB l; omega
theorem Letter_is (c : Int) (b : Bool) (h : letB c = b) (w : World) : Calls Tryd.prog 49 #[.int .u8 c] w fun e w' => e = .returned (.bool b) ∧ w' = w :=
  (Letter_any c w).mono fun e w' hw => ⟨by rw [hw.1, h], hw.2⟩
theorem Digit_is (c : Int) (b : Bool) (h : digB c = b) (w : World) : Calls Tryd.prog 52 #[.int .u8 c] w fun e w' => e = .returned (.bool b) ∧ w' = w :=
  (Digit_any c w).mono fun e w' hw => ⟨by rw [hw.1, h], hw.2⟩
theorem no_size {s : ByteArray} : (s.size ≤ maxLen) → run worB (B s) ≤ maxLen := fun h => by have := run_le worB (B s); rw [B_len] at this; omega

set_option maxHeartbeats 1000000 in
theorem first_any (s : ByteArray) (w : World) (h0 : 0 < s.size) (hs : s.size ≤ maxLen) (hS : Sig w) : Calls Tryd.prog 26 #[.string s] w fun e w' => e = .returned (fiV (B s)) ∧ Below w.heap.size w w' := by
  have hb0 := get_B s 0 h0
  have hz := word_size (B s)
  have hn := no_size hs
  have hA := (Below.refl w.heap.size w).alloc (Nat.le_refl _) (.cells #[.int .i64 0, .int .i64 0, .string ⟨#[]⟩, .int .u32 0] 53)
  have hSA := hide (hS.below hA)
  cases hl : letB (byt (B s) 0)
  · cases hd : digB (byt (B s) 0)
    · have ht := tok_sgn _ hl hd
      by_cases hq : sgn (B s) = 0
      · rw [if_pos hq] at ht
        have hf : Hid (fiV (B s) = noV 100) := fi_no ht
        go_enter Tryd.func26, Tryd.ntmps26
        go_wp2_with (first | (go_at_call 49; refine (Letter_is _ _ hl _).mono ?_; rintro e w' ⟨rfl, rfl⟩) | (go_at_call 52; refine (Digit_is _ _ hd _).mono ?_; rintro e w' ⟨rfl, rfl⟩))
        refine (sign_no s _ hs hSA.out hq).mono ?_
        rintro e w1 ⟨rfl, hb1⟩
        clear ht hA hS
        obtain ⟨hc, hf2⟩ := bcell hb1
        try rw [B_S]
        first | unfold noV | unfold tkV
        go_wp2_with fail
        exact bodyPost_ret (v := noV 100) (by simp [results, Tryd.results26, go_sem, noV, tkV, hc, hf2]) rfl ⟨by rw [hf.out], set4 hb1⟩
      · rw [if_neg hq] at ht
        have hf : Hid (fiV (B s) = tkV 3 ((B s).take (sgn (B s))) 0) := fi_yes ht
        go_enter Tryd.func26, Tryd.ntmps26
        go_wp2_with (first | (go_at_call 49; refine (Letter_is _ _ hl _).mono ?_; rintro e w' ⟨rfl, rfl⟩) | (go_at_call 52; refine (Digit_is _ _ hd _).mono ?_; rintro e w' ⟨rfl, rfl⟩))
        refine (sign_yes s _ hs hSA.out hq).mono ?_
        rintro e w1 ⟨rfl, hb1⟩
        clear ht hA hS
        obtain ⟨hc, hf2⟩ := bcell hb1
        try rw [B_S]
        first | unfold noV | unfold tkV
        go_wp2_with fail
        exact bodyPost_ret (v := tkV 3 ((B s).take (sgn (B s))) 0) (by simp [results, Tryd.results26, go_sem, noV, tkV, hc, hf2]) rfl ⟨by rw [hf.out], set4 hb1⟩
    · have ht := tok_dig _ hl hd
      by_cases hq : val ((B s).take (run worB (B s))) < 0
      · rw [if_pos hq] at ht
        have hf : Hid (fiV (B s) = noV 101) := fi_no ht
        go_enter Tryd.func26, Tryd.ntmps26
        go_wp2_with (first | (go_at_call 49; refine (Letter_is _ _ hl _).mono ?_; rintro e w' ⟨rfl, rfl⟩) | (go_at_call 52; refine (Digit_is _ _ hd _).mono ?_; rintro e w' ⟨rfl, rfl⟩) | (go_at_call 51; refine (word_any _ _ hs).mono ?_; rintro e w' ⟨rfl, rfl⟩))
        refine (number_no (S ((B s).take (run worB (B s)))) _ (by rw [hz]; exact hn) hq).mono ?_
        rintro e w1 ⟨rfl, hb1⟩
        clear ht hA hS
        obtain ⟨hc, hf2⟩ := bcell hb1
        try rw [B_S]
        first | unfold noV | unfold tkV
        go_wp2_with fail
        exact bodyPost_ret (v := noV 101) (by simp [results, Tryd.results26, go_sem, noV, tkV, hc, hf2]) rfl ⟨by rw [hf.out], set4 hb1⟩
      · rw [if_neg hq] at ht
        have hf : Hid (fiV (B s) = tkV 2 ((B s).take (run worB (B s))) (val ((B s).take (run worB (B s))))) := fi_yes ht
        go_enter Tryd.func26, Tryd.ntmps26
        go_wp2_with (first | (go_at_call 49; refine (Letter_is _ _ hl _).mono ?_; rintro e w' ⟨rfl, rfl⟩) | (go_at_call 52; refine (Digit_is _ _ hd _).mono ?_; rintro e w' ⟨rfl, rfl⟩) | (go_at_call 51; refine (word_any _ _ hs).mono ?_; rintro e w' ⟨rfl, rfl⟩))
        refine (number_yes (S ((B s).take (run worB (B s)))) _ (by rw [hz]; exact hn) (Int.not_lt.2 hq)).mono ?_
        rintro e w1 ⟨rfl, hb1⟩
        clear ht hA hS
        obtain ⟨hc, hf2⟩ := bcell hb1
        try rw [B_S]
        first | unfold noV | unfold tkV
        go_wp2_with fail
        exact bodyPost_ret (v := tkV 2 ((B s).take (run worB (B s))) (val ((B s).take (run worB (B s))))) (by simp [results, Tryd.results26, go_sem, noV, tkV, hc, hf2]) rfl ⟨by rw [hf.out], set4 hb1⟩
  · have ht := tok_let _ hl
    by_cases hq : 32 < run worB (B s)
    · rw [if_pos hq] at ht
      have hf : Hid (fiV (B s) = noV 102) := fi_no ht
      go_enter Tryd.func26, Tryd.ntmps26
      go_wp2_with (first | (go_at_call 49; refine (Letter_is _ _ hl _).mono ?_; rintro e w' ⟨rfl, rfl⟩) | (go_at_call 51; refine (word_any _ _ hs).mono ?_; rintro e w' ⟨rfl, rfl⟩))
      refine (name_no _ _ (by rw [hz]; exact hq)).mono ?_
      rintro e w1 ⟨rfl, hb1⟩
      clear ht hA hS
      obtain ⟨hc, hf2⟩ := bcell hb1
      try rw [B_S]
      first | unfold noV | unfold tkV
      go_wp2_with fail
      exact bodyPost_ret (v := noV 102) (by simp [results, Tryd.results26, go_sem, noV, tkV, hc, hf2]) rfl ⟨by rw [hf.out], set4 hb1⟩
    · rw [if_neg hq] at ht
      have hf : Hid (fiV (B s) = tkV 1 ((B s).take (run worB (B s))) 0) := fi_yes ht
      go_enter Tryd.func26, Tryd.ntmps26
      go_wp2_with (first | (go_at_call 49; refine (Letter_is _ _ hl _).mono ?_; rintro e w' ⟨rfl, rfl⟩) | (go_at_call 51; refine (word_any _ _ hs).mono ?_; rintro e w' ⟨rfl, rfl⟩))
      refine (name_yes _ _ (by rw [hz]; exact hq)).mono ?_
      rintro e w1 ⟨rfl, hb1⟩
      clear ht hA hS
      obtain ⟨hc, hf2⟩ := bcell hb1
      try rw [B_S]
      first | unfold noV | unfold tkV
      go_wp2_with fail
      exact bodyPost_ret (v := tkV 1 ((B s).take (run worB (B s))) 0) (by simp [results, Tryd.results26, go_sem, noV, tkV, hc, hf2]) rfl ⟨by rw [hf.out], set4 hb1⟩

end Go.Proofs.YtimiglepogeeiaaDoor.Lex

