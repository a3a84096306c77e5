/- What a word says as a number: package lex's value and number, the document's number. Contracts. -/
import Derived.Test.YtimiglepogeeiaaDoorLexWords
set_option linter.unusedVariables false
set_option linter.unusedSimpArgs false
namespace Go.Proofs.YtimiglepogeeiaaDoor.Lex
open Go.RowKit

theorem pre_hex (l : List UInt8) : (B (S [48, 120])).isPrefixOf l = hexB l := by
  rw [B_S]
  unfold hexB byt
  match l with
  | [] => rfl
  | [a] => simp [List.isPrefixOf]
  | a :: b :: r =>
    rw [Bool.eq_iff_iff]
    simp [List.isPrefixOf]
    constructor
    · rintro ⟨rfl, rfl⟩; exact ⟨rfl, rfl⟩
    · rintro ⟨h1, h2⟩; exact ⟨UInt8.toNat_inj.1 (show (48 : Nat) = a.toNat by omega), UInt8.toNat_inj.1 (show (120 : Nat) = b.toNat by omega)⟩

theorem num_step (b : Int) (l : List UInt8) (k : Nat) (n : Int) (h : k < l.length) :
    num b (l.drop k) n = if dig (byt l k) ≥ b then -1 else if n * b + dig (byt l k) > 4294967295 then -1 else num b (l.drop (k + 1)) (n * b + dig (byt l k)) := by
  obtain ⟨c, h1, h2⟩ := drop_cons l k h
  rw [h1, num, h2]

/-- What is told beside: the number, or 0. -/
def told (v : Int) : Value := .tuple #[.int .u32 (if v < 0 then 0 else v), .bool (decide (0 ≤ v))]
theorem told_no : told (-1) = .tuple #[.int .u32 0, .bool false] := rfl
theorem told_yes {v : Int} (h : 0 ≤ v) : told v = .tuple #[.int .u32 v, .bool true] := by
  unfold told
  rw [if_neg (by omega), decide_eq_true h]

theorem pre0x_any (s : ByteArray) (h : Bool) (hh : hexB (B s) = h) (w : World) : Calls Tryd.prog 47 #[.string s, .string (S [48, 120])] w fun e w' => e = .returned (.bool h) ∧ w' = w :=
  (HasPrefix_any s (S [48, 120]) w).mono fun e w' hw => ⟨by rw [hw.1, pre_hex, hh], hw.2⟩

theorem some_bytes (s : ByteArray) : (!s.toList.isEmpty) = decide (s.size ≠ 0) := by
  rw [Lib.toList_data, Lib.size_eq]
  cases s.data.toList <;> simp

set_option maxHeartbeats 1000000 in
theorem value_hex (s : ByteArray) (w : World) (hs : s.size ≤ maxLen) (hx : hexB (B s) = true) : Calls Tryd.prog 76 #[.string s] w fun e w' => e = .returned (told (val (B s))) ∧ w' = w := by
  unfold maxLen at hs
  have hl := B_len s
  have h2 : 2 ≤ s.size := by have := hx; simp [hexB] at this; omega
  have HV : Hid (val (B s) = if s.size = 2 then -1 else num 16 ((B s).drop 2) 0) := by show _ = _; rw [val, if_pos hx, hl]
  have hz : (s.extract 2 s.size).size = s.size - 2 := by simp
  have hd : B (s.extract 2 s.size) = (B s).drop 2 := by rw [ext_drop]; rfl
  go_enter Tryd.func76, Tryd.ntmps76
  go_wp2_with (go_at_call 47; refine (pre0x_any _ _ hx _).mono ?_; rintro e w' ⟨rfl, rfl⟩)
  go_loop [6, 16] (fun n i => ∃ k : Nat, ∃ m : Int, k ≤ s.size - 2 ∧ 0 ≤ m ∧ m ≤ 4294967295 ∧ i = .int .i64 k ∧ n = .int .u64 m ∧ num 16 ((B s).drop 2) 0 = num 16 ((B s).drop (2 + k)) m) (fun _ i => s.size - (intOf i).toNat)
  case atStart => exact ⟨0, 0, by omega, by omega, by omega, rfl, rfl, rfl⟩
  case round =>
    obtain ⟨k, m, hk, hm0, hm1, rfl, rfl, hnum⟩ := hrel
    by_cases hlt : k < s.size - 2
    · have hlt' : k < (s.extract 2 s.size).size := by omega
      have hb := get_B (s.extract 2 s.size) k hlt'
      rw [hd, byt_drop] at hb
      have hr := byt_range (B s) (2 + k)
      have hg := dig_range (byt (B s) (2 + k))
      have HST : Hid (_ = _) := num_step 16 (B s) (2 + k) m (by omega)
      go_wp2_with (go_at_call 88; refine (digit_any _ hr.1 hr.2 _).mono ?_; rintro e w' ⟨rfl, rfl⟩)
      · go_ret2
        refine ⟨?_, rfl⟩
        rw [HV.out, if_neg (by omega), hnum, HST.out, if_pos (by omega), told_no]
        rfl
      · go_ret2
        refine ⟨?_, rfl⟩
        rw [HV.out, if_neg (by omega), hnum, HST.out, if_neg (by omega), if_pos (by omega), told_no]
        rfl
      · refine ⟨⟨k + 1, _, by omega, by omega, by omega, by go_num, rfl, ?_⟩, by simp [intOf]; omega⟩
        rw [hnum, HST.out, if_neg (by omega), if_neg (by omega)]
        rfl
    · have he : 2 + k = s.size := by omega
      have HN : Hid (num 16 ((B s).drop 2) 0 = m) := by
        show _ = _
        rw [hnum, he, List.drop_of_length_le (by omega)]
        rfl
      clear hnum
      go_wp2_with fail
      go_ret2
      refine ⟨?_, rfl⟩
      show Ending.returned (.tuple #[.int .u32 m, .bool (!(s.extract 2 s.size).toList.isEmpty)]) = _
      rw [some_bytes, hz, HV.out]
      by_cases h0 : s.size = 2
      · have hm : m = 0 := by
          have := HN.out
          rw [List.drop_of_length_le (by omega)] at this
          exact this.symm
        rw [if_pos h0, told_no, hm, decide_eq_false (by omega)]
      · rw [if_neg h0, HN.out, told_yes hm0, decide_eq_true (by omega)]

set_option maxHeartbeats 1000000 in
theorem value_dec (s : ByteArray) (w : World) (hs : s.size ≤ maxLen) (hx : hexB (B s) = false) : Calls Tryd.prog 76 #[.string s] w fun e w' => e = .returned (told (val (B s))) ∧ w' = w := by
  unfold maxLen at hs
  have hl := B_len s
  have HV : Hid (val (B s) = if s.size = 0 then -1 else num 10 (B s) 0) := by show _ = _; rw [val, if_neg (by rw [hx]; exact Bool.false_ne_true), hl]
  go_enter Tryd.func76, Tryd.ntmps76
  go_wp2_with (go_at_call 47; refine (pre0x_any _ _ hx _).mono ?_; rintro e w' ⟨rfl, rfl⟩)
  go_loop [6, 16] (fun n i => ∃ k : Nat, ∃ m : Int, k ≤ s.size ∧ 0 ≤ m ∧ m ≤ 4294967295 ∧ i = .int .i64 k ∧ n = .int .u64 m ∧ num 10 (B s) 0 = num 10 ((B s).drop k) m) (fun _ i => s.size - (intOf i).toNat)
  case atStart => exact ⟨0, 0, by omega, by omega, by omega, rfl, rfl, rfl⟩
  case round =>
    obtain ⟨k, m, hk, hm0, hm1, rfl, rfl, hnum⟩ := hrel
    by_cases hlt : k < s.size
    · have hb := get_B s k hlt
      have hr := byt_range (B s) k
      have hg := dig_range (byt (B s) k)
      have HST : Hid (_ = _) := num_step 10 (B s) k m (by omega)
      go_wp2_with (go_at_call 88; refine (digit_any _ hr.1 hr.2 _).mono ?_; rintro e w' ⟨rfl, rfl⟩)
      · go_ret2
        refine ⟨?_, rfl⟩
        rw [HV.out, if_neg (by omega), hnum, HST.out, if_pos (by omega), told_no]
        rfl
      · go_ret2
        refine ⟨?_, rfl⟩
        rw [HV.out, if_neg (by omega), hnum, HST.out, if_neg (by omega), if_pos (by omega), told_no]
        rfl
      · refine ⟨⟨k + 1, _, by omega, by omega, by omega, by go_num, rfl, ?_⟩, by simp [intOf]; omega⟩
        rw [hnum, HST.out, if_neg (by omega), if_neg (by omega)]
    · have he : k = s.size := by omega
      have HN : Hid (num 10 (B s) 0 = m) := by
        show _ = _
        rw [hnum, he, List.drop_of_length_le (by omega)]
        rfl
      clear hnum
      go_wp2_with fail
      go_ret2
      refine ⟨?_, rfl⟩
      show Ending.returned (.tuple #[.int .u32 m, .bool (!s.toList.isEmpty)]) = _
      rw [some_bytes, HV.out]
      by_cases h0 : s.size = 0
      · have hm : m = 0 := by
          have := HN.out
          rw [show B s = [] from List.eq_nil_of_length_eq_zero (by omega)] at this
          exact this.symm
        rw [if_pos h0, told_no, hm, decide_eq_false (by omega)]
      · rw [if_neg h0, HN.out, told_yes hm0, decide_eq_true (by omega)]

theorem value_any (s : ByteArray) (w : World) (hs : s.size ≤ maxLen) : Calls Tryd.prog 76 #[.string s] w fun e w' => e = .returned (told (val (B s))) ∧ w' = w := by
  cases hx : hexB (B s)
  · exact value_dec s w hs hx
  · exact value_hex s w hs hx

theorem refDigit_is (c : Int) (b : Bool) (h : digB c = b) (w : World) : Calls Tryd.prog 31 #[.int .u8 c] w fun e w' => e = .returned (.bool b) ∧ w' = w :=
  (refDigit_any c w).mono fun e w' hw => ⟨by rw [hw.1, h], hw.2⟩

def NRel (s : ByteArray) (b o : Int) (z : Nat) (i n : Value) : Prop := ∃ k : Nat, ∃ m : Int, z ≤ k ∧ k ≤ s.size ∧ 0 ≤ m ∧ m ≤ 4294967295 ∧ i = .int .i64 k ∧ n = .int .u64 m ∧ o = num b ((B s).drop k) m

set_option maxHeartbeats 4000000 in
theorem refNum_hex (s : ByteArray) (w : World) (hs : s.size ≤ maxLen) (hx : hexB (B s) = true) : Calls Tryd.prog 32 #[.string s] w fun e w' => e = .returned (told (val (B s))) ∧ w' = w := by
  unfold maxLen at hs
  have hl := B_len s
  have hx' : 2 ≤ s.size ∧ byt (B s) 0 = 48 ∧ byt (B s) 1 = 120 := by have := hx; unfold hexB at this; rw [hl] at this; simpa using this
  obtain ⟨h2, q0, q1⟩ := hx'
  have hb0 := get_B s 0 (by omega)
  have hb1 := get_B s 1 (by omega)
  rw [q0] at hb0
  rw [q1] at hb1
  have HV : Hid (val (B s) = if s.size = 2 then -1 else num 16 ((B s).drop 2) 0) := by show _ = _; rw [val, if_pos hx, hl]
  go_enter Tryd.func32, Tryd.ntmps32
  by_cases h0 : s.size = 2
  · have h : ((2 : Int) == (s.size : Int)) = true := by rw [h0]; rfl
    go_wp2_with fail
    go_ret2
    refine ⟨?_, rfl⟩
    rw [HV.out, if_pos h0, told_no]
    rfl
  · have h : ((2 : Int) == (s.size : Int)) = false := by rw [beq_eq_false_iff_ne]; omega
    go_wp2_with fail
    go_loop [5, 6] (fun i n => NRel s 16 (num 16 ((B s).drop 2) 0) 2 i n) (fun i _ => s.size - (intOf i).toNat)
    case atStart => exact ⟨2, 0, by omega, by omega, by omega, by omega, rfl, rfl, rfl⟩
    case round =>
      obtain ⟨k, m, hk2, hk, hm0, hm1, rfl, rfl, hnum⟩ := hrel
      by_cases hlt : k < s.size
      · have hb := get_B s k hlt
        have hr := byt_range (B s) k
        have HST : Hid (_ = _) := num_step 16 (B s) k m (by omega)
        rcases (show (48 ≤ byt (B s) k ∧ byt (B s) k ≤ 57) ∨ (97 ≤ byt (B s) k ∧ byt (B s) k ≤ 102) ∨ ((byt (B s) k < 48 ∨ 57 < byt (B s) k) ∧ (byt (B s) k < 97 ∨ 102 < byt (B s) k)) by omega) with hc | hc | hc
        · have hg : digB (byt (B s) k) = true := by unfold digB; simp; omega
          have hd : dig (byt (B s) k) = byt (B s) k - 48 := by unfold dig; first | rw [if_pos (by omega)] | rw [if_neg (by omega), if_pos (by omega)] | rw [if_neg (by omega), if_neg (by omega)]
          rw [hd] at HST
          obtain ⟨c0, c1⟩ := hc
          go_wp2_with (go_at_call 31; refine (refDigit_is _ _ hg _).mono ?_; rintro e w' ⟨rfl, rfl⟩)
          all_goals first
            | (go_ret2; refine ⟨?_, rfl⟩; rw [HV.out, if_neg h0, hnum, HST.out, if_pos (by omega), told_no]; rfl)
            | (go_ret2; refine ⟨?_, rfl⟩; rw [HV.out, if_neg h0, hnum, HST.out, if_neg (by omega), if_pos (by omega), told_no]; rfl)
            | ((first | (refine ⟨⟨trivial, ?_⟩, ?_⟩) | (refine ⟨?_, ?_⟩)); (first | (exact ⟨k + 1, _, by omega, by omega, by omega, by omega, by go_num, rfl, by (first | rw [hnum, HST.out, if_neg (by omega), if_neg (by omega)] | rw [HST.out, if_neg (by omega), if_neg (by omega)])⟩) | ((repeat apply Exists.intro); (refine ⟨?_, rfl⟩); (exact ⟨k + 1, _, by omega, by omega, by omega, by omega, by go_num, rfl, by (first | rw [hnum, HST.out, if_neg (by omega), if_neg (by omega)] | rw [HST.out, if_neg (by omega), if_neg (by omega)])⟩))); (simp [intOf]; omega))
        · have hg : digB (byt (B s) k) = false := by unfold digB; simp; omega
          have hd : dig (byt (B s) k) = byt (B s) k - 87 := by unfold dig; first | rw [if_pos (by omega)] | rw [if_neg (by omega), if_pos (by omega)] | rw [if_neg (by omega), if_neg (by omega)]
          rw [hd] at HST
          obtain ⟨c0, c1⟩ := hc
          go_wp2_with (go_at_call 31; refine (refDigit_is _ _ hg _).mono ?_; rintro e w' ⟨rfl, rfl⟩)
          all_goals first
            | (go_ret2; refine ⟨?_, rfl⟩; rw [HV.out, if_neg h0, hnum, HST.out, if_pos (by omega), told_no]; rfl)
            | (go_ret2; refine ⟨?_, rfl⟩; rw [HV.out, if_neg h0, hnum, HST.out, if_neg (by omega), if_pos (by omega), told_no]; rfl)
            | ((first | (refine ⟨⟨trivial, ?_⟩, ?_⟩) | (refine ⟨?_, ?_⟩)); (first | (exact ⟨k + 1, _, by omega, by omega, by omega, by omega, by go_num, rfl, by (first | rw [hnum, HST.out, if_neg (by omega), if_neg (by omega)] | rw [HST.out, if_neg (by omega), if_neg (by omega)])⟩) | ((repeat apply Exists.intro); (refine ⟨?_, rfl⟩); (exact ⟨k + 1, _, by omega, by omega, by omega, by omega, by go_num, rfl, by (first | rw [hnum, HST.out, if_neg (by omega), if_neg (by omega)] | rw [HST.out, if_neg (by omega), if_neg (by omega)])⟩))); (simp [intOf]; omega))
        · have hg : digB (byt (B s) k) = false := by unfold digB; simp; omega
          have hd : dig (byt (B s) k) = 16 := by unfold dig; first | rw [if_pos (by omega)] | rw [if_neg (by omega), if_pos (by omega)] | rw [if_neg (by omega), if_neg (by omega)]
          rw [hd] at HST
          obtain ⟨c0, c1⟩ := hc
          go_wp2_with (go_at_call 31; refine (refDigit_is _ _ hg _).mono ?_; rintro e w' ⟨rfl, rfl⟩)
          all_goals first
            | (go_ret2; refine ⟨?_, rfl⟩; rw [HV.out, if_neg h0, hnum, HST.out, if_pos (by omega), told_no]; rfl)
            | (go_ret2; refine ⟨?_, rfl⟩; rw [HV.out, if_neg h0, hnum, HST.out, if_neg (by omega), if_pos (by omega), told_no]; rfl)
            | ((first | (refine ⟨⟨trivial, ?_⟩, ?_⟩) | (refine ⟨?_, ?_⟩)); (first | (exact ⟨k + 1, _, by omega, by omega, by omega, by omega, by go_num, rfl, by (first | rw [hnum, HST.out, if_neg (by omega), if_neg (by omega)] | rw [HST.out, if_neg (by omega), if_neg (by omega)])⟩) | ((repeat apply Exists.intro); (refine ⟨?_, rfl⟩); (exact ⟨k + 1, _, by omega, by omega, by omega, by omega, by go_num, rfl, by (first | rw [hnum, HST.out, if_neg (by omega), if_neg (by omega)] | rw [HST.out, if_neg (by omega), if_neg (by omega)])⟩))); (simp [intOf]; omega))
      · have he : k = s.size := by omega
        have HN : Hid (num 16 ((B s).drop 2) 0 = m) := by
          show _ = _
          rw [hnum, he, List.drop_of_length_le (by omega)]
          rfl
        clear hnum
        go_wp2_with fail
        go_ret2
        refine ⟨?_, rfl⟩
        rw [HV.out, if_neg h0, HN.out, told_yes hm0]
        rfl

set_option maxHeartbeats 4000000 in
theorem refNum_dec (s : ByteArray) (w : World) (hs : s.size ≤ maxLen) (hx : hexB (B s) = false) : Calls Tryd.prog 32 #[.string s] w fun e w' => e = .returned (told (val (B s))) ∧ w' = w := by
  unfold maxLen at hs
  have hl := B_len s
  have HV : Hid (val (B s) = if s.size = 0 then -1 else num 10 (B s) 0) := by show _ = _; rw [val, if_neg (by rw [hx]; exact Bool.false_ne_true), hl]
  go_enter Tryd.func32, Tryd.ntmps32
  by_cases h0 : s.size = 0
  · have h : ((0 : Int) == (s.size : Int)) = true := by rw [h0]; rfl
    go_wp2_with fail
    go_ret2
    refine ⟨?_, rfl⟩
    rw [HV.out, if_pos h0, told_no]
    rfl
  · have h : ((0 : Int) == (s.size : Int)) = false := by rw [beq_eq_false_iff_ne]; omega
    have hpre : s.size ≤ 1 ∨ (1 < s.size ∧ ((byt (B s) 0 == 48) = false ∨ ((byt (B s) 0 == 48) = true ∧ (byt (B s) 1 == 120) = false))) := by
      unfold hexB at hx
      rw [hl] at hx
      simp at hx ⊢
      omega
    rcases hpre with h1 | ⟨h1, h2 | ⟨h2, h3⟩⟩
    · go_wp2_with fail
      go_loop [5, 6] (fun i n => NRel s 10 (num 10 (B s) 0) 0 i n) (fun i _ => s.size - (intOf i).toNat)
      case atStart => exact ⟨0, 0, by omega, by omega, by omega, by omega, rfl, rfl, rfl⟩
      case round =>
        obtain ⟨k, m, hk2, hk, hm0, hm1, rfl, rfl, hnum⟩ := hrel
        by_cases hlt : k < s.size
        · have hb := get_B s k hlt
          have hr := byt_range (B s) k
          have HST : Hid (_ = _) := num_step 10 (B s) k m (by omega)
          rcases (show (48 ≤ byt (B s) k ∧ byt (B s) k ≤ 57) ∨ (97 ≤ byt (B s) k ∧ byt (B s) k ≤ 102) ∨ ((byt (B s) k < 48 ∨ 57 < byt (B s) k) ∧ (byt (B s) k < 97 ∨ 102 < byt (B s) k)) by omega) with hc | hc | hc
          · have hg : digB (byt (B s) k) = true := by unfold digB; simp; omega
            have hd : dig (byt (B s) k) = byt (B s) k - 48 := by unfold dig; first | rw [if_pos (by omega)] | rw [if_neg (by omega), if_pos (by omega)] | rw [if_neg (by omega), if_neg (by omega)]
            rw [hd] at HST
            obtain ⟨c0, c1⟩ := hc
            go_wp2_with (go_at_call 31; refine (refDigit_is _ _ hg _).mono ?_; rintro e w' ⟨rfl, rfl⟩)
            all_goals first
              | (go_ret2; refine ⟨?_, rfl⟩; rw [HV.out, if_neg h0, hnum, HST.out, if_pos (by omega), told_no]; rfl)
              | (go_ret2; refine ⟨?_, rfl⟩; rw [HV.out, if_neg h0, hnum, HST.out, if_neg (by omega), if_pos (by omega), told_no]; rfl)
              | ((first | (refine ⟨⟨trivial, ?_⟩, ?_⟩) | (refine ⟨?_, ?_⟩)); (first | (exact ⟨k + 1, _, by omega, by omega, by omega, by omega, by go_num, rfl, by (first | rw [hnum, HST.out, if_neg (by omega), if_neg (by omega)] | rw [HST.out, if_neg (by omega), if_neg (by omega)])⟩) | ((repeat apply Exists.intro); (refine ⟨?_, rfl⟩); (exact ⟨k + 1, _, by omega, by omega, by omega, by omega, by go_num, rfl, by (first | rw [hnum, HST.out, if_neg (by omega), if_neg (by omega)] | rw [HST.out, if_neg (by omega), if_neg (by omega)])⟩))); (simp [intOf]; omega))
          · have hg : digB (byt (B s) k) = false := by unfold digB; simp; omega
            have hd : dig (byt (B s) k) = byt (B s) k - 87 := by unfold dig; first | rw [if_pos (by omega)] | rw [if_neg (by omega), if_pos (by omega)] | rw [if_neg (by omega), if_neg (by omega)]
            rw [hd] at HST
            obtain ⟨c0, c1⟩ := hc
            go_wp2_with (go_at_call 31; refine (refDigit_is _ _ hg _).mono ?_; rintro e w' ⟨rfl, rfl⟩)
            all_goals first
              | (go_ret2; refine ⟨?_, rfl⟩; rw [HV.out, if_neg h0, hnum, HST.out, if_pos (by omega), told_no]; rfl)
              | (go_ret2; refine ⟨?_, rfl⟩; rw [HV.out, if_neg h0, hnum, HST.out, if_neg (by omega), if_pos (by omega), told_no]; rfl)
              | ((first | (refine ⟨⟨trivial, ?_⟩, ?_⟩) | (refine ⟨?_, ?_⟩)); (first | (exact ⟨k + 1, _, by omega, by omega, by omega, by omega, by go_num, rfl, by (first | rw [hnum, HST.out, if_neg (by omega), if_neg (by omega)] | rw [HST.out, if_neg (by omega), if_neg (by omega)])⟩) | ((repeat apply Exists.intro); (refine ⟨?_, rfl⟩); (exact ⟨k + 1, _, by omega, by omega, by omega, by omega, by go_num, rfl, by (first | rw [hnum, HST.out, if_neg (by omega), if_neg (by omega)] | rw [HST.out, if_neg (by omega), if_neg (by omega)])⟩))); (simp [intOf]; omega))
          · have hg : digB (byt (B s) k) = false := by unfold digB; simp; omega
            have hd : dig (byt (B s) k) = 16 := by unfold dig; first | rw [if_pos (by omega)] | rw [if_neg (by omega), if_pos (by omega)] | rw [if_neg (by omega), if_neg (by omega)]
            rw [hd] at HST
            obtain ⟨c0, c1⟩ := hc
            go_wp2_with (go_at_call 31; refine (refDigit_is _ _ hg _).mono ?_; rintro e w' ⟨rfl, rfl⟩)
            all_goals first
              | (go_ret2; refine ⟨?_, rfl⟩; rw [HV.out, if_neg h0, hnum, HST.out, if_pos (by omega), told_no]; rfl)
              | (go_ret2; refine ⟨?_, rfl⟩; rw [HV.out, if_neg h0, hnum, HST.out, if_neg (by omega), if_pos (by omega), told_no]; rfl)
              | ((first | (refine ⟨⟨trivial, ?_⟩, ?_⟩) | (refine ⟨?_, ?_⟩)); (first | (exact ⟨k + 1, _, by omega, by omega, by omega, by omega, by go_num, rfl, by (first | rw [hnum, HST.out, if_neg (by omega), if_neg (by omega)] | rw [HST.out, if_neg (by omega), if_neg (by omega)])⟩) | ((repeat apply Exists.intro); (refine ⟨?_, rfl⟩); (exact ⟨k + 1, _, by omega, by omega, by omega, by omega, by go_num, rfl, by (first | rw [hnum, HST.out, if_neg (by omega), if_neg (by omega)] | rw [HST.out, if_neg (by omega), if_neg (by omega)])⟩))); (simp [intOf]; omega))
        · have he : k = s.size := by omega
          have HN : Hid (num 10 (B s) 0 = m) := by
            show _ = _
            rw [hnum, he, List.drop_of_length_le (by omega)]
            rfl
          clear hnum
          go_wp2_with fail
          go_ret2
          refine ⟨?_, rfl⟩
          rw [HV.out, if_neg h0, HN.out, told_yes hm0]
          rfl
    · have hb0 := get_B s 0 (by omega)
      go_wp2_with fail
      go_loop [5, 6] (fun i n => NRel s 10 (num 10 (B s) 0) 0 i n) (fun i _ => s.size - (intOf i).toNat)
      case atStart => exact ⟨0, 0, by omega, by omega, by omega, by omega, rfl, rfl, rfl⟩
      case round =>
        obtain ⟨k, m, hk2, hk, hm0, hm1, rfl, rfl, hnum⟩ := hrel
        by_cases hlt : k < s.size
        · have hb := get_B s k hlt
          have hr := byt_range (B s) k
          have HST : Hid (_ = _) := num_step 10 (B s) k m (by omega)
          rcases (show (48 ≤ byt (B s) k ∧ byt (B s) k ≤ 57) ∨ (97 ≤ byt (B s) k ∧ byt (B s) k ≤ 102) ∨ ((byt (B s) k < 48 ∨ 57 < byt (B s) k) ∧ (byt (B s) k < 97 ∨ 102 < byt (B s) k)) by omega) with hc | hc | hc
          · have hg : digB (byt (B s) k) = true := by unfold digB; simp; omega
            have hd : dig (byt (B s) k) = byt (B s) k - 48 := by unfold dig; first | rw [if_pos (by omega)] | rw [if_neg (by omega), if_pos (by omega)] | rw [if_neg (by omega), if_neg (by omega)]
            rw [hd] at HST
            obtain ⟨c0, c1⟩ := hc
            go_wp2_with (go_at_call 31; refine (refDigit_is _ _ hg _).mono ?_; rintro e w' ⟨rfl, rfl⟩)
            all_goals first
              | (go_ret2; refine ⟨?_, rfl⟩; rw [HV.out, if_neg h0, hnum, HST.out, if_pos (by omega), told_no]; rfl)
              | (go_ret2; refine ⟨?_, rfl⟩; rw [HV.out, if_neg h0, hnum, HST.out, if_neg (by omega), if_pos (by omega), told_no]; rfl)
              | ((first | (refine ⟨⟨trivial, ?_⟩, ?_⟩) | (refine ⟨?_, ?_⟩)); (first | (exact ⟨k + 1, _, by omega, by omega, by omega, by omega, by go_num, rfl, by (first | rw [hnum, HST.out, if_neg (by omega), if_neg (by omega)] | rw [HST.out, if_neg (by omega), if_neg (by omega)])⟩) | ((repeat apply Exists.intro); (refine ⟨?_, rfl⟩); (exact ⟨k + 1, _, by omega, by omega, by omega, by omega, by go_num, rfl, by (first | rw [hnum, HST.out, if_neg (by omega), if_neg (by omega)] | rw [HST.out, if_neg (by omega), if_neg (by omega)])⟩))); (simp [intOf]; omega))
          · have hg : digB (byt (B s) k) = false := by unfold digB; simp; omega
            have hd : dig (byt (B s) k) = byt (B s) k - 87 := by unfold dig; first | rw [if_pos (by omega)] | rw [if_neg (by omega), if_pos (by omega)] | rw [if_neg (by omega), if_neg (by omega)]
            rw [hd] at HST
            obtain ⟨c0, c1⟩ := hc
            go_wp2_with (go_at_call 31; refine (refDigit_is _ _ hg _).mono ?_; rintro e w' ⟨rfl, rfl⟩)
            all_goals first
              | (go_ret2; refine ⟨?_, rfl⟩; rw [HV.out, if_neg h0, hnum, HST.out, if_pos (by omega), told_no]; rfl)
              | (go_ret2; refine ⟨?_, rfl⟩; rw [HV.out, if_neg h0, hnum, HST.out, if_neg (by omega), if_pos (by omega), told_no]; rfl)
              | ((first | (refine ⟨⟨trivial, ?_⟩, ?_⟩) | (refine ⟨?_, ?_⟩)); (first | (exact ⟨k + 1, _, by omega, by omega, by omega, by omega, by go_num, rfl, by (first | rw [hnum, HST.out, if_neg (by omega), if_neg (by omega)] | rw [HST.out, if_neg (by omega), if_neg (by omega)])⟩) | ((repeat apply Exists.intro); (refine ⟨?_, rfl⟩); (exact ⟨k + 1, _, by omega, by omega, by omega, by omega, by go_num, rfl, by (first | rw [hnum, HST.out, if_neg (by omega), if_neg (by omega)] | rw [HST.out, if_neg (by omega), if_neg (by omega)])⟩))); (simp [intOf]; omega))
          · have hg : digB (byt (B s) k) = false := by unfold digB; simp; omega
            have hd : dig (byt (B s) k) = 16 := by unfold dig; first | rw [if_pos (by omega)] | rw [if_neg (by omega), if_pos (by omega)] | rw [if_neg (by omega), if_neg (by omega)]
            rw [hd] at HST
            obtain ⟨c0, c1⟩ := hc
            go_wp2_with (go_at_call 31; refine (refDigit_is _ _ hg _).mono ?_; rintro e w' ⟨rfl, rfl⟩)
            all_goals first
              | (go_ret2; refine ⟨?_, rfl⟩; rw [HV.out, if_neg h0, hnum, HST.out, if_pos (by omega), told_no]; rfl)
              | (go_ret2; refine ⟨?_, rfl⟩; rw [HV.out, if_neg h0, hnum, HST.out, if_neg (by omega), if_pos (by omega), told_no]; rfl)
              | ((first | (refine ⟨⟨trivial, ?_⟩, ?_⟩) | (refine ⟨?_, ?_⟩)); (first | (exact ⟨k + 1, _, by omega, by omega, by omega, by omega, by go_num, rfl, by (first | rw [hnum, HST.out, if_neg (by omega), if_neg (by omega)] | rw [HST.out, if_neg (by omega), if_neg (by omega)])⟩) | ((repeat apply Exists.intro); (refine ⟨?_, rfl⟩); (exact ⟨k + 1, _, by omega, by omega, by omega, by omega, by go_num, rfl, by (first | rw [hnum, HST.out, if_neg (by omega), if_neg (by omega)] | rw [HST.out, if_neg (by omega), if_neg (by omega)])⟩))); (simp [intOf]; omega))
        · have he : k = s.size := by omega
          have HN : Hid (num 10 (B s) 0 = m) := by
            show _ = _
            rw [hnum, he, List.drop_of_length_le (by omega)]
            rfl
          clear hnum
          go_wp2_with fail
          go_ret2
          refine ⟨?_, rfl⟩
          rw [HV.out, if_neg h0, HN.out, told_yes hm0]
          rfl
    · have hb0 := get_B s 0 (by omega)
      have hb1 := get_B s 1 (by omega)
      go_wp2_with fail
      go_loop [5, 6] (fun i n => NRel s 10 (num 10 (B s) 0) 0 i n) (fun i _ => s.size - (intOf i).toNat)
      case atStart => exact ⟨0, 0, by omega, by omega, by omega, by omega, rfl, rfl, rfl⟩
      case round =>
        obtain ⟨k, m, hk2, hk, hm0, hm1, rfl, rfl, hnum⟩ := hrel
        by_cases hlt : k < s.size
        · have hb := get_B s k hlt
          have hr := byt_range (B s) k
          have HST : Hid (_ = _) := num_step 10 (B s) k m (by omega)
          rcases (show (48 ≤ byt (B s) k ∧ byt (B s) k ≤ 57) ∨ (97 ≤ byt (B s) k ∧ byt (B s) k ≤ 102) ∨ ((byt (B s) k < 48 ∨ 57 < byt (B s) k) ∧ (byt (B s) k < 97 ∨ 102 < byt (B s) k)) by omega) with hc | hc | hc
          · have hg : digB (byt (B s) k) = true := by unfold digB; simp; omega
            have hd : dig (byt (B s) k) = byt (B s) k - 48 := by unfold dig; first | rw [if_pos (by omega)] | rw [if_neg (by omega), if_pos (by omega)] | rw [if_neg (by omega), if_neg (by omega)]
            rw [hd] at HST
            obtain ⟨c0, c1⟩ := hc
            go_wp2_with (go_at_call 31; refine (refDigit_is _ _ hg _).mono ?_; rintro e w' ⟨rfl, rfl⟩)
            all_goals first
              | (go_ret2; refine ⟨?_, rfl⟩; rw [HV.out, if_neg h0, hnum, HST.out, if_pos (by omega), told_no]; rfl)
              | (go_ret2; refine ⟨?_, rfl⟩; rw [HV.out, if_neg h0, hnum, HST.out, if_neg (by omega), if_pos (by omega), told_no]; rfl)
              | ((first | (refine ⟨⟨trivial, ?_⟩, ?_⟩) | (refine ⟨?_, ?_⟩)); (first | (exact ⟨k + 1, _, by omega, by omega, by omega, by omega, by go_num, rfl, by (first | rw [hnum, HST.out, if_neg (by omega), if_neg (by omega)] | rw [HST.out, if_neg (by omega), if_neg (by omega)])⟩) | ((repeat apply Exists.intro); (refine ⟨?_, rfl⟩); (exact ⟨k + 1, _, by omega, by omega, by omega, by omega, by go_num, rfl, by (first | rw [hnum, HST.out, if_neg (by omega), if_neg (by omega)] | rw [HST.out, if_neg (by omega), if_neg (by omega)])⟩))); (simp [intOf]; omega))
          · have hg : digB (byt (B s) k) = false := by unfold digB; simp; omega
            have hd : dig (byt (B s) k) = byt (B s) k - 87 := by unfold dig; first | rw [if_pos (by omega)] | rw [if_neg (by omega), if_pos (by omega)] | rw [if_neg (by omega), if_neg (by omega)]
            rw [hd] at HST
            obtain ⟨c0, c1⟩ := hc
            go_wp2_with (go_at_call 31; refine (refDigit_is _ _ hg _).mono ?_; rintro e w' ⟨rfl, rfl⟩)
            all_goals first
              | (go_ret2; refine ⟨?_, rfl⟩; rw [HV.out, if_neg h0, hnum, HST.out, if_pos (by omega), told_no]; rfl)
              | (go_ret2; refine ⟨?_, rfl⟩; rw [HV.out, if_neg h0, hnum, HST.out, if_neg (by omega), if_pos (by omega), told_no]; rfl)
              | ((first | (refine ⟨⟨trivial, ?_⟩, ?_⟩) | (refine ⟨?_, ?_⟩)); (first | (exact ⟨k + 1, _, by omega, by omega, by omega, by omega, by go_num, rfl, by (first | rw [hnum, HST.out, if_neg (by omega), if_neg (by omega)] | rw [HST.out, if_neg (by omega), if_neg (by omega)])⟩) | ((repeat apply Exists.intro); (refine ⟨?_, rfl⟩); (exact ⟨k + 1, _, by omega, by omega, by omega, by omega, by go_num, rfl, by (first | rw [hnum, HST.out, if_neg (by omega), if_neg (by omega)] | rw [HST.out, if_neg (by omega), if_neg (by omega)])⟩))); (simp [intOf]; omega))
          · have hg : digB (byt (B s) k) = false := by unfold digB; simp; omega
            have hd : dig (byt (B s) k) = 16 := by unfold dig; first | rw [if_pos (by omega)] | rw [if_neg (by omega), if_pos (by omega)] | rw [if_neg (by omega), if_neg (by omega)]
            rw [hd] at HST
            obtain ⟨c0, c1⟩ := hc
            go_wp2_with (go_at_call 31; refine (refDigit_is _ _ hg _).mono ?_; rintro e w' ⟨rfl, rfl⟩)
            all_goals first
              | (go_ret2; refine ⟨?_, rfl⟩; rw [HV.out, if_neg h0, hnum, HST.out, if_pos (by omega), told_no]; rfl)
              | (go_ret2; refine ⟨?_, rfl⟩; rw [HV.out, if_neg h0, hnum, HST.out, if_neg (by omega), if_pos (by omega), told_no]; rfl)
              | ((first | (refine ⟨⟨trivial, ?_⟩, ?_⟩) | (refine ⟨?_, ?_⟩)); (first | (exact ⟨k + 1, _, by omega, by omega, by omega, by omega, by go_num, rfl, by (first | rw [hnum, HST.out, if_neg (by omega), if_neg (by omega)] | rw [HST.out, if_neg (by omega), if_neg (by omega)])⟩) | ((repeat apply Exists.intro); (refine ⟨?_, rfl⟩); (exact ⟨k + 1, _, by omega, by omega, by omega, by omega, by go_num, rfl, by (first | rw [hnum, HST.out, if_neg (by omega), if_neg (by omega)] | rw [HST.out, if_neg (by omega), if_neg (by omega)])⟩))); (simp [intOf]; omega))
        · have he : k = s.size := by omega
          have HN : Hid (num 10 (B s) 0 = m) := by
            show _ = _
            rw [hnum, he, List.drop_of_length_le (by omega)]
            rfl
          clear hnum
          go_wp2_with fail
          go_ret2
          refine ⟨?_, rfl⟩
          rw [HV.out, if_neg h0, HN.out, told_yes hm0]
          rfl

theorem refNum_any (s : ByteArray) (w : World) (hs : s.size ≤ maxLen) : Calls Tryd.prog 32 #[.string s] w fun e w' => e = .returned (told (val (B s))) ∧ w' = w := by
  cases hx : hexB (B s)
  · exact refNum_dec s w hs hx
  · exact refNum_hex s w hs hx

end Go.Proofs.YtimiglepogeeiaaDoor.Lex

