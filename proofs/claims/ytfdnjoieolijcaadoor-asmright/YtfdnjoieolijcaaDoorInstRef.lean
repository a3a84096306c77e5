/- What each function of the document's own answers of layer 3: contracts. -/
import Derived.Test.YtfdnjoieolijcaaDoorInstWalks
set_option linter.unusedVariables false
namespace Go.Proofs.YtfdnjoieolijcaaDoor.Inst
open Go.RowKit Go.Proofs.YtfdnjoieolijcaaDoor.Alu Go.Proofs.YtfdnjoieolijcaaDoor.Imm

theorem within_any (n a b : Int) (w : World) :
    Calls Tryd.prog 65 #[.int .i64 n, .int .i64 a, .int .i64 b] w fun e w' => e = .returned (.bool (wi n a b)) ∧ w' = w := by
  go_enter Tryd.func65, Tryd.ntmps65
  go_wp2
  all_goals
    go_ret
    exact ⟨ret_bool (by rw [Bool.eq_iff_iff]; simp [wi]; omega), rfl⟩

theorem wideReg_any (r : Int) (w : World) :
    Calls Tryd.prog 68 #[.int .i64 r] w fun e w' => e = .returned (.bool (wid r)) ∧ w' = w := by
  go_enter Tryd.func68, Tryd.ntmps68
  go_wp2_with (go_at_call 65; refine (within_any _ _ _ _).mono ?_; rintro e w' ⟨rfl, rfl⟩)
  all_goals
    go_ret
    exact ⟨ret_bool (by go_light; rw [Bool.eq_iff_iff]; simp_all [wid]), rfl⟩

theorem barrel_any (k b : Int) (w : World) :
    Calls Tryd.prog 70 #[.int .i64 k, .int .i64 b] w fun e w' => e = .returned (.bool (brf k b)) ∧ w' = w := by
  go_enter Tryd.func70, Tryd.ntmps70
  go_wp2_with (go_at_call 65; refine (within_any _ _ _ _).mono ?_; rintro e w' ⟨rfl, rfl⟩)
  all_goals
    go_ret
    exact ⟨ret_bool (by go_light; rw [Bool.eq_iff_iff]; simp_all [brf]), rfl⟩

theorem word_any (n : Int) (w : World) :
    Calls Tryd.prog 69 #[.int .i64 n] w fun e w' => e = .returned (.bool (wrf n)) ∧ w' = w := by
  go_enter Tryd.func69, Tryd.ntmps69
  go_wp2_with (go_at_call 78; refine (refWord_any _ (by omega) (by omega) _).mono ?_; rintro e w' ⟨rfl, rfl⟩)
  all_goals
    go_ret
    exact ⟨ret_bool (by go_light; rw [Bool.eq_iff_iff]; simp [wrf, wi]; omega), rfl⟩

/-- Of the nine parts of 'only' the one that stands at a place. -/
def part (sm rd rn rm ra im kd bs st cd rg : Int) (k : Nat) : Bool := match k with
  | 0 => may sm 1 (decide (rd = 0))
  | 1 => may sm 2 (decide (rn = 0))
  | 2 => may sm 4 (decide (rm = 0))
  | 3 => may sm 8 (decide (ra = 0))
  | 4 => may sm 16 (decide (im = 0))
  | 5 => may sm 32 (decide (kd = 0) && decide (bs = 0)) || (decide (512 ≤ sm) && decide (kd = 0))
  | 6 => may sm 64 (decide (st = 0))
  | 7 => may sm 128 (decide (cd = 0))
  | _ => may sm 256 (decide (rg = 0))

theorem only_yes {sm rd rn rm ra im kd bs st cd rg : Int} (h : ∀ k : Nat, k < 9 → part sm rd rn rm ra im kd bs st cd rg k = true) : only sm rd rn rm ra im kd bs st cd rg = true := by
  have h0 := h 0 (by omega); have h1 := h 1 (by omega); have h2 := h 2 (by omega); have h3 := h 3 (by omega); have h4 := h 4 (by omega)
  have h5 := h 5 (by omega); have h6 := h 6 (by omega); have h7 := h 7 (by omega); have h8 := h 8 (by omega)
  simp only [part] at *
  unfold only
  rw [h0, h1, h2, h3, h4, h5, h6, h7, h8]; rfl
theorem only_no {sm rd rn rm ra im kd bs st cd rg : Int} (k : Nat) (hk : k < 9) (h : part sm rd rn rm ra im kd bs st cd rg k = false) : only sm rd rn rm ra im kd bs st cd rg = false := by
  unfold only
  obtain rfl | rfl | rfl | rfl | rfl | rfl | rfl | rfl | rfl : k = 0 ∨ k = 1 ∨ k = 2 ∨ k = 3 ∨ k = 4 ∨ k = 5 ∨ k = 6 ∨ k = 7 ∨ k = 8 := by omega
  all_goals
    simp only [part] at h
    rw [h]; simp only [Bool.and_false, Bool.false_and]
theorem more_of {P : Nat → Bool} {k : Nat} (h : Hid (∀ i : Nat, i < k → P i = true)) (g : P k = true) : Hid (∀ i : Nat, i < k + 1 → P i = true) := by
  intro i hi
  rcases Nat.lt_succ_iff_lt_or_eq.1 hi with h' | rfl
  · exact h.out i h'
  · exact g

/-- Where the loop of 'only' stands. -/
def Rel (P : Nat → Bool) (b k : Value) : Prop := (b = .int .i64 1 ∧ k = .int .i64 0 ∧ Hid (∀ i : Nat, i < 0 → P i = true)) ∨ (b = .int .i64 2 ∧ k = .int .i64 1 ∧ Hid (∀ i : Nat, i < 1 → P i = true)) ∨ (b = .int .i64 4 ∧ k = .int .i64 2 ∧ Hid (∀ i : Nat, i < 2 → P i = true)) ∨ (b = .int .i64 8 ∧ k = .int .i64 3 ∧ Hid (∀ i : Nat, i < 3 → P i = true)) ∨ (b = .int .i64 16 ∧ k = .int .i64 4 ∧ Hid (∀ i : Nat, i < 4 → P i = true)) ∨ (b = .int .i64 32 ∧ k = .int .i64 5 ∧ Hid (∀ i : Nat, i < 5 → P i = true)) ∨ (b = .int .i64 64 ∧ k = .int .i64 6 ∧ Hid (∀ i : Nat, i < 6 → P i = true)) ∨ (b = .int .i64 128 ∧ k = .int .i64 7 ∧ Hid (∀ i : Nat, i < 7 → P i = true)) ∨ (b = .int .i64 256 ∧ k = .int .i64 8 ∧ Hid (∀ i : Nat, i < 8 → P i = true)) ∨ (b = .int .i64 512 ∧ k = .int .i64 9 ∧ Hid (∀ i : Nat, i < 9 → P i = true))

set_option maxHeartbeats 4000000 in
theorem only_core (sm rd rn rm ra im kd bs st cd rg f : Int) (b0 b1 b2 b3 b4 b5 b6 b7 b8 kz : Bool) (e0 : (rd == 0) = b0) (e1 : (rn == 0) = b1) (e2 : (rm == 0) = b2) (e3 : (ra == 0) = b3) (e4 : (im == 0) = b4) (e5 : (bs == 0) = b5) (e6 : (st == 0) = b6) (e7 : (cd == 0) = b7) (e8 : (rg == 0) = b8) (ek : (kd == 0) = kz) (hs0 : 0 ≤ sm) (hs1 : sm < 1024) (w : World) :
    Calls Tryd.prog 66 #[.agg #[.int .i64 f, .int .i64 rd, .int .i64 rn, .int .i64 rm, .int .i64 ra, .int .i64 im, .int .i64 kd, .int .i64 bs, .int .i64 st, .int .i64 cd, .int .i64 rg], .int .i64 sm] w fun e w' => e = .returned (.bool (only sm rd rn rm ra im kd bs st cd rg)) ∧ Below w.heap.size w w' := by
  cases kz
  all_goals
    go_enter Tryd.func66, Tryd.ntmps66
    go_wp2_with fail
    go_loop [6, 7] (fun b k => Rel (part sm rd rn rm ra im kd bs st cd rg) b k) (fun _ k => 9 - (intOf k).toNat)
    case atStart => exact .inl ⟨rfl, rfl, fun i hi => by omega⟩
    case round =>
      rcases hrel with ⟨rfl, rfl, hno⟩ | ⟨rfl, rfl, hno⟩ | ⟨rfl, rfl, hno⟩ | ⟨rfl, rfl, hno⟩ | ⟨rfl, rfl, hno⟩ | ⟨rfl, rfl, hno⟩ | ⟨rfl, rfl, hno⟩ | ⟨rfl, rfl, hno⟩ | ⟨rfl, rfl, hno⟩ | ⟨rfl, rfl, hno⟩
      · go_wp2_with fail
        all_goals first
        | (go_ret; exact ⟨ret_bool (Eq.symm (only_no 0 (by decide) (by go_light; simp_all [part, may]))), ((Below.refl _ _).alloc (Nat.le_refl _) _).alloc (by simp) _⟩)
        | (go_round
           case rel => first | exact .inr (.inl ⟨rfl, rfl, more_of hno (by go_light; simp_all [part, may])⟩) | exact ⟨_, _, _, .inr (.inl ⟨rfl, rfl, more_of hno (by go_light; simp_all [part, may])⟩), rfl, rfl, rfl⟩
           case measure => simp [intOf])
      · go_wp2_with fail
        all_goals first
        | (go_ret; exact ⟨ret_bool (Eq.symm (only_no 1 (by decide) (by go_light; simp_all [part, may]))), ((Below.refl _ _).alloc (Nat.le_refl _) _).alloc (by simp) _⟩)
        | (go_round
           case rel => first | exact .inr (.inr (.inl ⟨rfl, rfl, more_of hno (by go_light; simp_all [part, may])⟩)) | exact ⟨_, _, _, .inr (.inr (.inl ⟨rfl, rfl, more_of hno (by go_light; simp_all [part, may])⟩)), rfl, rfl, rfl⟩
           case measure => simp [intOf])
      · go_wp2_with fail
        all_goals first
        | (go_ret; exact ⟨ret_bool (Eq.symm (only_no 2 (by decide) (by go_light; simp_all [part, may]))), ((Below.refl _ _).alloc (Nat.le_refl _) _).alloc (by simp) _⟩)
        | (go_round
           case rel => first | exact .inr (.inr (.inr (.inl ⟨rfl, rfl, more_of hno (by go_light; simp_all [part, may])⟩))) | exact ⟨_, _, _, .inr (.inr (.inr (.inl ⟨rfl, rfl, more_of hno (by go_light; simp_all [part, may])⟩))), rfl, rfl, rfl⟩
           case measure => simp [intOf])
      · go_wp2_with fail
        all_goals first
        | (go_ret; exact ⟨ret_bool (Eq.symm (only_no 3 (by decide) (by go_light; simp_all [part, may]))), ((Below.refl _ _).alloc (Nat.le_refl _) _).alloc (by simp) _⟩)
        | (go_round
           case rel => first | exact .inr (.inr (.inr (.inr (.inl ⟨rfl, rfl, more_of hno (by go_light; simp_all [part, may])⟩)))) | exact ⟨_, _, _, .inr (.inr (.inr (.inr (.inl ⟨rfl, rfl, more_of hno (by go_light; simp_all [part, may])⟩)))), rfl, rfl, rfl⟩
           case measure => simp [intOf])
      · go_wp2_with fail
        all_goals first
        | (go_ret; exact ⟨ret_bool (Eq.symm (only_no 4 (by decide) (by go_light; simp_all [part, may]))), ((Below.refl _ _).alloc (Nat.le_refl _) _).alloc (by simp) _⟩)
        | (go_round
           case rel => first | exact .inr (.inr (.inr (.inr (.inr (.inl ⟨rfl, rfl, more_of hno (by go_light; simp_all [part, may])⟩))))) | exact ⟨_, _, _, .inr (.inr (.inr (.inr (.inr (.inl ⟨rfl, rfl, more_of hno (by go_light; simp_all [part, may])⟩))))), rfl, rfl, rfl⟩
           case measure => simp [intOf])
      · go_wp2_with fail
        all_goals first
        | (go_ret; exact ⟨ret_bool (Eq.symm (only_no 5 (by decide) (by go_light; simp_all [part, may]))), ((Below.refl _ _).alloc (Nat.le_refl _) _).alloc (by simp) _⟩)
        | (go_round
           case rel => first | exact .inr (.inr (.inr (.inr (.inr (.inr (.inl ⟨rfl, rfl, more_of hno (by go_light; simp_all [part, may])⟩)))))) | exact ⟨_, _, _, .inr (.inr (.inr (.inr (.inr (.inr (.inl ⟨rfl, rfl, more_of hno (by go_light; simp_all [part, may])⟩)))))), rfl, rfl, rfl⟩
           case measure => simp [intOf])
      · go_wp2_with fail
        all_goals first
        | (go_ret; exact ⟨ret_bool (Eq.symm (only_no 6 (by decide) (by go_light; simp_all [part, may]))), ((Below.refl _ _).alloc (Nat.le_refl _) _).alloc (by simp) _⟩)
        | (go_round
           case rel => first | exact .inr (.inr (.inr (.inr (.inr (.inr (.inr (.inl ⟨rfl, rfl, more_of hno (by go_light; simp_all [part, may])⟩))))))) | exact ⟨_, _, _, .inr (.inr (.inr (.inr (.inr (.inr (.inr (.inl ⟨rfl, rfl, more_of hno (by go_light; simp_all [part, may])⟩))))))), rfl, rfl, rfl⟩
           case measure => simp [intOf])
      · go_wp2_with fail
        all_goals first
        | (go_ret; exact ⟨ret_bool (Eq.symm (only_no 7 (by decide) (by go_light; simp_all [part, may]))), ((Below.refl _ _).alloc (Nat.le_refl _) _).alloc (by simp) _⟩)
        | (go_round
           case rel => first | exact .inr (.inr (.inr (.inr (.inr (.inr (.inr (.inr (.inl ⟨rfl, rfl, more_of hno (by go_light; simp_all [part, may])⟩)))))))) | exact ⟨_, _, _, .inr (.inr (.inr (.inr (.inr (.inr (.inr (.inr (.inl ⟨rfl, rfl, more_of hno (by go_light; simp_all [part, may])⟩)))))))), rfl, rfl, rfl⟩
           case measure => simp [intOf])
      · go_wp2_with fail
        all_goals first
        | (go_ret; exact ⟨ret_bool (Eq.symm (only_no 8 (by decide) (by go_light; simp_all [part, may]))), ((Below.refl _ _).alloc (Nat.le_refl _) _).alloc (by simp) _⟩)
        | (go_round
           case rel => first | exact .inr (.inr (.inr (.inr (.inr (.inr (.inr (.inr (.inr (⟨rfl, rfl, more_of hno (by go_light; simp_all [part, may])⟩))))))))) | exact ⟨_, _, _, .inr (.inr (.inr (.inr (.inr (.inr (.inr (.inr (.inr (⟨rfl, rfl, more_of hno (by go_light; simp_all [part, may])⟩))))))))), rfl, rfl, rfl⟩
           case measure => simp [intOf])
      · go_wp2_with fail
        go_ret
        exact ⟨ret_bool (Eq.symm (only_yes hno.out)), ((Below.refl _ _).alloc (Nat.le_refl _) _).alloc (by simp) _⟩

theorem only_any (sm rd rn rm ra im kd bs st cd rg f : Int) (hs0 : 0 ≤ sm) (hs1 : sm < 1024) (w : World) :
    Calls Tryd.prog 66 #[.agg #[.int .i64 f, .int .i64 rd, .int .i64 rn, .int .i64 rm, .int .i64 ra, .int .i64 im, .int .i64 kd, .int .i64 bs, .int .i64 st, .int .i64 cd, .int .i64 rg], .int .i64 sm] w fun e w' => e = .returned (.bool (only sm rd rn rm ra im kd bs st cd rg)) ∧ Below w.heap.size w w' :=
  only_core sm rd rn rm ra im kd bs st cd rg f _ _ _ _ _ _ _ _ _ _ rfl rfl rfl rfl rfl rfl rfl rfl rfl rfl hs0 hs1 w

end Go.Proofs.YtfdnjoieolijcaaDoor.Inst

