/- InstRuleA, InstRuleB, InstRuleC, InstRuleD, InstRule, joined. -/
import Derived.Test.YtfdnjoieolijcaaDoorInstRef
import Derived.Test.YtfdnjoieolijcaaDoorInstTab

/-! What the document's own rule for an instruction answers: contracts. -/
set_option linter.unusedVariables false
set_option linter.unusedSimpArgs false
namespace Go.Proofs.YtfdnjoieolijcaaDoor.Inst
open Go.RowKit Go.Proofs.YtfdnjoieolijcaaDoor.Alu Go.Proofs.YtfdnjoieolijcaaDoor.Imm

set_option maxHeartbeats 4000000 in
theorem plain_any (f rd rn rm ra im kd bs st cd rg s : Int) (w : World) :
    Calls Tryd.prog 67 #[.agg #[.int .i64 f, .int .i64 rd, .int .i64 rn, .int .i64 rm, .int .i64 ra, .int .i64 im, .int .i64 kd, .int .i64 bs, .int .i64 st, .int .i64 cd, .int .i64 rg], .int .i64 s] w fun e w' => e = .returned (.bool (plainB s rd rn rm ra im kd bs st cd rg)) ∧ Below w.heap.size w w' := by
  go_enter Tryd.func67, Tryd.ntmps67
  go_wp2_with (first | (go_at_call 65; refine (within_any _ _ _ _).mono ?_; rintro e w' ⟨rfl, rfl⟩) | (go_at_call 66; refine (only_any _ _ _ _ _ _ _ _ _ _ _ _ (by decide) (by decide) _).mono ?_; rintro e w1 ⟨rfl, hb⟩; obtain ⟨hc, hf⟩ := bcell hb))
  all_goals
    go_ret
    first
    | exact ⟨ret_bool (by go_light; rw [Bool.eq_iff_iff]; simp_all [plainB]), (Below.refl _ _).alloc (Nat.le_refl _) _⟩
    | exact ⟨ret_bool (by go_light; (try clear hc hf); clear hb; rw [Bool.eq_iff_iff]; simp_all [plainB, tmod_zero]), ((Below.refl _ _).alloc (Nat.le_refl _) _).trans (hb.mono (by simp))⟩

end Go.Proofs.YtfdnjoieolijcaaDoor.Inst

/-! What the document's own rule for an instruction answers: contracts. -/
set_option linter.unusedVariables false
set_option linter.unusedSimpArgs false
namespace Go.Proofs.YtfdnjoieolijcaaDoor.Inst
open Go.RowKit Go.Proofs.YtfdnjoieolijcaaDoor.Alu Go.Proofs.YtfdnjoieolijcaaDoor.Imm

set_option maxRecDepth 100000 in
set_option maxHeartbeats 4000000 in
theorem narrow_any (f rd rn rm ra im kd bs st cd rg s : Int) (w : World) :
    Calls Tryd.prog 45 #[.agg #[.int .i64 f, .int .i64 rd, .int .i64 rn, .int .i64 rm, .int .i64 ra, .int .i64 im, .int .i64 kd, .int .i64 bs, .int .i64 st, .int .i64 cd, .int .i64 rg], .int .i64 s] w fun e w' => e = .returned (.bool (narrowB f s rd rn rm ra im kd bs st cd rg)) ∧ Below w.heap.size w w' := by
  go_enter Tryd.func45, Tryd.ntmps45
  go_wp2_with (first | (go_at_call 65; refine (within_any _ _ _ _).mono ?_; rintro e w' ⟨rfl, rfl⟩) | (go_at_call 66; refine (only_any _ _ _ _ _ _ _ _ _ _ _ _ (by decide) (by decide) _).mono ?_; rintro e w1 ⟨rfl, hb⟩; obtain ⟨hc, hf⟩ := bcell hb) | (go_at_call 67; refine (plain_any _ _ _ _ _ _ _ _ _ _ _ _ _).mono ?_; rintro e w1 ⟨rfl, hb⟩))
  all_goals
    go_ret
    first
    | exact ⟨ret_bool (by go_light; rw [Bool.eq_iff_iff]; simp_all [narrowB]), (Below.refl _ _).alloc (Nat.le_refl _) _⟩
    | exact ⟨ret_bool (by go_light; (try clear hc hf); clear hb; rw [Bool.eq_iff_iff]; simp_all [narrowB, tmod_zero]), ((Below.refl _ _).alloc (Nat.le_refl _) _).trans (hb.mono (by simp))⟩

end Go.Proofs.YtfdnjoieolijcaaDoor.Inst

/-! What the document's own rule for an instruction answers: contracts. -/
set_option linter.unusedVariables false
set_option linter.unusedSimpArgs false
namespace Go.Proofs.YtfdnjoieolijcaaDoor.Inst
open Go.RowKit Go.Proofs.YtfdnjoieolijcaaDoor.Alu Go.Proofs.YtfdnjoieolijcaaDoor.Imm

set_option maxRecDepth 100000 in
set_option maxHeartbeats 4000000 in
theorem more_any (f rd rn rm ra im kd bs st cd rg s : Int) (w : World) :
    Calls Tryd.prog 71 #[.agg #[.int .i64 f, .int .i64 rd, .int .i64 rn, .int .i64 rm, .int .i64 ra, .int .i64 im, .int .i64 kd, .int .i64 bs, .int .i64 st, .int .i64 cd, .int .i64 rg], .int .i64 s] w fun e w' => e = .returned (.bool (moreB s rd rn rm ra im kd bs st cd rg)) ∧ Below w.heap.size w w' := by
  go_enter Tryd.func71, Tryd.ntmps71
  go_wp2_with (first | (go_at_call 65; refine (within_any _ _ _ _).mono ?_; rintro e w' ⟨rfl, rfl⟩) | (go_at_call 68; refine (wideReg_any _ _).mono ?_; rintro e w' ⟨rfl, rfl⟩) | (go_at_call 66; refine (only_any _ _ _ _ _ _ _ _ _ _ _ _ (by decide) (by decide) _).mono ?_; rintro e w1 ⟨rfl, hb⟩; obtain ⟨hc, hf⟩ := bcell hb))
  all_goals
    go_ret
    first
    | exact ⟨ret_bool (by go_light; rw [Bool.eq_iff_iff]; simp_all [moreB] <;> (intros; exfalso; omega)), (Below.refl _ _).alloc (Nat.le_refl _) _⟩
    | exact ⟨ret_bool (by go_light; (try clear hc hf); clear hb; rw [Bool.eq_iff_iff]; simp_all [moreB, tmod_zero] <;> (intros; exfalso; omega)), ((Below.refl _ _).alloc (Nat.le_refl _) _).trans (hb.mono (by simp))⟩

end Go.Proofs.YtfdnjoieolijcaaDoor.Inst

/-! What the document's own rule for an instruction answers: contracts. -/
set_option linter.unusedVariables false
set_option linter.unusedSimpArgs false
namespace Go.Proofs.YtfdnjoieolijcaaDoor.Inst
open Go.RowKit Go.Proofs.YtfdnjoieolijcaaDoor.Alu Go.Proofs.YtfdnjoieolijcaaDoor.Imm

set_option maxRecDepth 100000 in
set_option maxHeartbeats 4000000 in
theorem wideI_any (f rd rn rm ra im kd bs st cd rg s : Int) (w : World) :
    Calls Tryd.prog 46 #[.agg #[.int .i64 f, .int .i64 rd, .int .i64 rn, .int .i64 rm, .int .i64 ra, .int .i64 im, .int .i64 kd, .int .i64 bs, .int .i64 st, .int .i64 cd, .int .i64 rg], .int .i64 s] w fun e w' => e = .returned (.bool (wideB s rd rn rm ra im kd bs st cd rg)) ∧ Below w.heap.size w w' := by
  go_enter Tryd.func46, Tryd.ntmps46
  go_wp2_with (first | (go_at_call 65; refine (within_any _ _ _ _).mono ?_; rintro e w' ⟨rfl, rfl⟩) | (go_at_call 68; refine (wideReg_any _ _).mono ?_; rintro e w' ⟨rfl, rfl⟩) | (go_at_call 66; refine (only_any _ _ _ _ _ _ _ _ _ _ _ _ (by decide) (by decide) _).mono ?_; rintro e w1 ⟨rfl, hb⟩; obtain ⟨hc, hf⟩ := bcell hb) | (go_at_call 70; refine (barrel_any _ _ _).mono ?_; rintro e w' ⟨rfl, rfl⟩) | (go_at_call 69; refine (word_any _ _).mono ?_; rintro e w' ⟨rfl, rfl⟩) | (go_at_call 71; refine (more_any _ _ _ _ _ _ _ _ _ _ _ _ _).mono ?_; rintro e w1 ⟨rfl, hb⟩))
  all_goals
    go_ret
    first
    | exact ⟨ret_bool (by go_light; rw [Bool.eq_iff_iff]; simp_all [wideB]), (Below.refl _ _).alloc (Nat.le_refl _) _⟩
    | exact ⟨ret_bool (by go_light; (try clear hc hf); clear hb; rw [Bool.eq_iff_iff]; simp_all [wideB, tmod_zero]), ((Below.refl _ _).alloc (Nat.le_refl _) _).trans (hb.mono (by simp))⟩

end Go.Proofs.YtfdnjoieolijcaaDoor.Inst

/-! What the document's own rule for any instruction answers: a contract. -/
set_option linter.unusedVariables false
namespace Go.Proofs.YtfdnjoieolijcaaDoor.Inst
open Go.RowKit Go.Proofs.YtfdnjoieolijcaaDoor.Alu Go.Proofs.YtfdnjoieolijcaaDoor.Imm

theorem refRight_any (f rd rn rm ra im kd bs st cd rg : Int) (w : World) :
    Calls Tryd.prog 24 #[.agg #[.int .i64 f, .int .i64 rd, .int .i64 rn, .int .i64 rm, .int .i64 ra, .int .i64 im, .int .i64 kd, .int .i64 bs, .int .i64 st, .int .i64 cd, .int .i64 rg]] w fun e w' => e = .returned (.bool (refR f rd rn rm ra im kd bs st cd rg)) ∧ Below w.heap.size w w' := by
  have hB1 : Below w.heap.size w (w.alloc (.cells #[.int .i64 f, .int .i64 rd, .int .i64 rn, .int .i64 rm, .int .i64 ra, .int .i64 im, .int .i64 kd, .int .i64 bs, .int .i64 st, .int .i64 cd, .int .i64 rg] 29)) := (Below.refl _ _).alloc (Nat.le_refl _) _
  have HR : Hid (refR f rd rn rm ra im kd bs st cd rg = if shp f = 0 then false else if shp f < 17 then narrowB f (shp f) rd rn rm ra im kd bs st cd rg else wideB (shp f) rd rn rm ra im kd bs st cd rg) := rfl
  have hs := shp_bd f
  by_cases h0 : shp f = 0
  · go_enter Tryd.func24, Tryd.ntmps24
    go_wp2_with fail
    refine (refShape_any _ _).mono ?_
    rintro e w1 ⟨rfl, hb1⟩
    go_wp2_with fail
    go_ret
    exact ⟨ret_bool (by rw [HR.out, if_pos h0]), hB1.trans (hb1.mono (by simp))⟩
  · have h0' : (shp f == 0) = false := by rw [beq_eq_false_iff_ne]; exact h0
    by_cases h1 : shp f < 17
    · go_enter Tryd.func24, Tryd.ntmps24
      go_wp2_with fail
      refine (refShape_any _ _).mono ?_
      rintro e w1 ⟨rfl, hb1⟩
      obtain ⟨hc, hf⟩ := bcell hb1
      go_wp2_with fail
      refine (narrow_any _ _ _ _ _ _ _ _ _ _ _ _ _).mono ?_
      rintro e w2 ⟨rfl, hb⟩
      have hb2 := next hb1 hb
      go_wp2_with fail
      go_ret
      exact ⟨ret_bool (by rw [HR.out, if_neg h0, if_pos h1]), hB1.trans (hb2.mono (by simp))⟩
    · go_enter Tryd.func24, Tryd.ntmps24
      go_wp2_with fail
      refine (refShape_any _ _).mono ?_
      rintro e w1 ⟨rfl, hb1⟩
      obtain ⟨hc, hf⟩ := bcell hb1
      go_wp2_with fail
      refine (wideI_any f _ _ _ _ _ _ _ _ _ _ _ _).mono ?_
      rintro e w2 ⟨rfl, hb⟩
      have hb2 := next hb1 hb
      go_wp2_with fail
      go_ret
      exact ⟨ret_bool (by rw [HR.out, if_neg h0, if_neg (by omega)]), hB1.trans (hb2.mono (by simp))⟩

end Go.Proofs.YtfdnjoieolijcaaDoor.Inst

