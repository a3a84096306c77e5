/- How long a right instruction takes by the document: a contract. -/
import Derived.Test.YtpgcnbipnjcniaaDoorClockBase
set_option linter.unusedVariables false
namespace Go.Proofs.YtpgcnbipnjcniaaDoor.Clock
open Go.RowKit Go.Proofs.YtpgcnbipnjcniaaDoor.Alu

theorem bit15 (R : Nat) (h : R < 65536) : bit (R : Int) 15 = if 32768 ≤ R then 1 else 0 := by
  unfold bit
  rw [if_pos (by decide)]
  simp only [show (15 : Int).toNat = 15 from rfl]
  split <;> omega
theorem lc_low (R : Nat) (n : Nat) (h : R < 32768) (hn : n = ones 16 R) : 1 + (n : Int) = lc (R : Int) := by
  unfold lc; rw [bit15 R (by omega), if_neg (by omega), Int.toNat_natCast, hn]; omega
theorem lc_high (R : Nat) (n : Nat) (h : R < 65536) (h2 : 32768 ≤ R) (hn : n = ones 16 R) : 1 + (n : Int) + 2 = lc (R : Int) := by
  unfold lc; rw [bit15 R h, if_pos h2, Int.toNat_natCast, hn]; omega

set_option maxHeartbeats 6000000 in
set_option maxRecDepth 100000 in
/-- How long it takes by the document. -/
theorem refBase_any (f rd rn rm ra im kd bs st cd rg : Int) (hR : Inst.right f rd rn rm ra im kd bs st cd rg = true) (g0 : -9223372036854775808 ≤ rg) (g1 : rg ≤ 9223372036854775807) (t : Bool) (a b : Int) (ha : 0 ≤ a) (ha2 : a < 4294967296) (hb : 0 ≤ b) (hb2 : b < 4294967296) (w : World) :
    Calls Tryd.prog 15 #[.agg #[.int .i64 f, .int .i64 rd, .int .i64 rn, .int .i64 rm, .int .i64 ra, .int .i64 im, .int .i64 kd, .int .i64 bs, .int .i64 st, .int .i64 cd, .int .i64 rg], .bool t, .int .u32 a, .int .u32 b] w fun e w' => e = .returned (.int .i64 (bas f t a b rg)) ∧ Below w.heap.size w w' := by
  have hB := (Below.refl w.heap.size w).alloc (Nat.le_refl _) (.cells #[.int .i64 f, .int .i64 rd, .int .i64 rn, .int .i64 rm, .int .i64 ra, .int .i64 im, .int .i64 kd, .int .i64 bs, .int .i64 st, .int .i64 cd, .int .i64 rg] 40)
  have HR := hide hR
  clear hR
  by_cases h1 : f = 46 ∨ f = 99
  · have HE := hide (bas_cond (t := t) (a := a) (b := b) (rg := rg) h1)
    clear HR
    rcases h1 with rfl | rfl
    all_goals
      cases t
      all_goals
        go_enter Tryd.func15, Tryd.ntmps15
        go_wp2_with fail
        go_ret
        exact ⟨ret_int (unhide HE), hB⟩
  by_cases h2 : f = 47 ∨ f = 100 ∨ f = 31
  · have HE := hide (bas_3 (t := t) (a := a) (b := b) (rg := rg) h2)
    clear HR
    rcases h2 with rfl | rfl | rfl
    all_goals
      go_enter Tryd.func15, Tryd.ntmps15
      go_wp2_with fail
      go_ret
      exact ⟨ret_int (unhide HE), hB⟩
  by_cases h3 : 32 ≤ f ∧ f ≤ 38 ∨ 84 ≤ f ∧ f ≤ 87
  · have HE := hide (bas_mem (t := t) (a := a) (b := b) (rg := rg) h3)
    clear HR
    have e46 : (f == 46) = false := by simp; omega
    have e99 : (f == 99) = false := by simp; omega
    have e47 : (f == 47) = false := by simp; omega
    have e100 : (f == 100) = false := by simp; omega
    have e31 : (f == 31) = false := by simp; omega
    clear h1 h2
    rcases h3 with ⟨h3, h4⟩ | ⟨h3, h4⟩
    all_goals
      go_enter Tryd.func15, Tryd.ntmps15
      go_wp2_with fail
      go_ret
      exact ⟨ret_int (unhide HE), hB⟩
  by_cases h5 : f = 93 ∨ f = 94
  · have HE := hide (bas_mul (t := t) (a := a) (b := b) (rg := rg) h5)
    clear HR
    rcases h5 with rfl | rfl
    all_goals
      go_enter Tryd.func15, Tryd.ntmps15
      go_wp2_with fail
      go_ret
      exact ⟨ret_int (unhide HE), hB⟩
  by_cases h6 : f = 97
  · subst h6
    have HE := hide (bas_div (f := 97) (t := t) (a := a) (b := b) (rg := rg) rfl)
    clear HR
    go_enter Tryd.func15, Tryd.ntmps15
    go_wp2_with (go_at_call 17; refine (refDiv_any _ _ ha ha2 hb hb2 _).mono ?_; rintro e w' ⟨rfl, rfl⟩)
    go_ret
    exact ⟨ret_int (unhide HE), hB⟩
  by_cases h4 : f = 42 ∨ f = 43
  · have hrg := right_list (unhide HR) g0 g1 h4
    have HE := hide (bas_list (t := t) (a := a) (b := b) (rg := rg) h4)
    clear HR
    obtain ⟨R, hRr⟩ : ∃ R : Nat, (R : Int) = rg := ⟨rg.toNat, by omega⟩
    have hR16 : (R : Int) < 65536 := by omega
    have hR15 : f = 42 → (R : Int) < 32768 := fun h => by have := hrg.2.2 h; omega
    have HQ := hide hRr
    clear hrg h1 h2 h3 h5 h6 g0 g1 hRr
    rcases h4 with rfl | rfl
    · replace hR15 := hR15 rfl
      go_enter Tryd.func15, Tryd.ntmps15
      go_wp2_with fail
      go_loop [10, 11] (fun n x => ∃ j : Nat, j ≤ 16 ∧ n = .int .i64 (1 + (ones j R : Int)) ∧ x = .int .i64 ((R / 2 ^ j : Nat) : Int)) (fun _ x => (intOf x).toNat)
      case atStart => exact ⟨0, by omega, by simp [ones], by rw [← unhide HQ]; simp⟩
      case round =>
        obtain ⟨j, hj, rfl, rfl⟩ := hrel
        have ho := ones_le j R
        by_cases hx : R / 2 ^ j = 0
        · have hd := ones_done j 16 R hj hx
          have HD := hide hd
          clear hd
          rw [hx]
          have HC := hide ((lc_low R _ (by omega) (unhide HD)).trans ((congrArg lc (unhide HQ)).trans (unhide HE)))
          clear hx ho HD HQ
          go_wp2_with fail
          go_ret
          exact ⟨ret_int (unhide HC), hB⟩
        · have hj2 : j < 16 := by
            rcases Nat.lt_or_ge j 16 with h | h
            · exact h
            · exfalso; apply hx; exact Nat.div_eq_of_lt (Nat.lt_of_lt_of_le (show R < 2 ^ 16 by omega) (Nat.pow_le_pow_right (by decide) h))
          have hn := ones_next j R
          have HN := hide hn
          have HX : Hid (R / 2 ^ j / 2 = R / 2 ^ (j + 1)) := by rw [Nat.div_div_eq_div_mul, Nat.pow_succ]; exact rfl
          clear hn
          have hle : R / 2 ^ j < 65536 := Nat.lt_of_le_of_lt (Nat.div_le_self _ _) (by omega)
          have ho2 : ones j R ≤ 16 := by omega
          clear ho hR16
          try clear hR15
          generalize R / 2 ^ j = y at *
          generalize ones j R = n at *
          go_wp2_with fail
          go_round
          case rel => exact ⟨j + 1, by omega, by rw [unhide HN]; go_num, by rw [← HX.out]; go_num⟩
          case measure => simp [intOf]; omega
    · clear hR15
      go_enter Tryd.func15, Tryd.ntmps15
      go_wp2_with fail
      go_loop [10, 11] (fun n x => ∃ j : Nat, j ≤ 16 ∧ n = .int .i64 (1 + (ones j R : Int)) ∧ x = .int .i64 ((R / 2 ^ j : Nat) : Int)) (fun _ x => (intOf x).toNat)
      case atStart => exact ⟨0, by omega, by simp [ones], by rw [← unhide HQ]; simp⟩
      case round =>
        obtain ⟨j, hj, rfl, rfl⟩ := hrel
        have ho := ones_le j R
        by_cases hx : R / 2 ^ j = 0
        · have hd := ones_done j 16 R hj hx
          have HD := hide hd
          clear hd
          rw [hx]
          have ho2 : ones j R ≤ 16 := by omega
          by_cases hq : 32768 ≤ R
          · have HC := hide ((lc_high R _ (by omega) hq (unhide HD)).trans ((congrArg lc (unhide HQ)).trans (unhide HE)))
            have hq2 : (32768 : Int) ≤ rg := by have := unhide HQ; omega
            clear hx ho HD hq hj HQ hR16
            generalize ones j R = n at *
            go_wp2_with fail
            go_ret
            exact ⟨ret_int (unhide HC), hB⟩
          · have HC := hide ((lc_low R _ (by omega) (unhide HD)).trans ((congrArg lc (unhide HQ)).trans (unhide HE)))
            have hq2 : rg < 32768 := by have := unhide HQ; omega
            clear hx ho HD hq hj HQ hR16
            generalize ones j R = n at *
            go_wp2_with fail
            go_ret
            exact ⟨ret_int (unhide HC), hB⟩
        · have hj2 : j < 16 := by
            rcases Nat.lt_or_ge j 16 with h | h
            · exact h
            · exfalso; apply hx; exact Nat.div_eq_of_lt (Nat.lt_of_lt_of_le (show R < 2 ^ 16 by omega) (Nat.pow_le_pow_right (by decide) h))
          have hn := ones_next j R
          have HN := hide hn
          have HX : Hid (R / 2 ^ j / 2 = R / 2 ^ (j + 1)) := by rw [Nat.div_div_eq_div_mul, Nat.pow_succ]; exact rfl
          clear hn
          have hle : R / 2 ^ j < 65536 := Nat.lt_of_le_of_lt (Nat.div_le_self _ _) (by omega)
          have ho2 : ones j R ≤ 16 := by omega
          clear ho hR16
          try clear hR15
          generalize R / 2 ^ j = y at *
          generalize ones j R = n at *
          go_wp2_with fail
          go_round
          case rel => exact ⟨j + 1, by omega, by rw [unhide HN]; go_num, by rw [← HX.out]; go_num⟩
          case measure => simp [intOf]; omega
  have HE := hide (bas_1 (t := t) (a := a) (b := b) (rg := rg) ⟨h1, h2, h3, h4, h5, h6⟩)
  clear HR
  have n3 : f < 32 ∨ 38 < f := by omega
  have n4 : f < 84 ∨ 87 < f := by omega
  have e46 : (f == 46) = false := by simp; omega
  have e99 : (f == 99) = false := by simp; omega
  have e47 : (f == 47) = false := by simp; omega
  have e100 : (f == 100) = false := by simp; omega
  have e31 : (f == 31) = false := by simp; omega
  have e93 : (f == 93) = false := by simp; omega
  have e94 : (f == 94) = false := by simp; omega
  have e42 : (f == 42) = false := by simp; omega
  have e43 : (f == 43) = false := by simp; omega
  have e97 : (f == 97) = false := by simp; omega
  clear h1 h2 h3 h4 h5 h6
  have n5 : f < 32 ∨ 38 < f ∧ f < 84 ∨ 87 < f := by omega
  clear n3 n4
  rcases n5 with n3 | ⟨n3, n4⟩ | n3
  all_goals
    go_enter Tryd.func15, Tryd.ntmps15
    go_wp2_with fail
    go_ret
    exact ⟨ret_int (unhide HE), hB⟩

end Go.Proofs.YtpgcnbipnjcniaaDoor.Clock
