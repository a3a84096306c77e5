/- What the document's own rule for an instruction answers: contracts. -/
import Derived.Test.YtpenfolhaiiidaaDoorInstRuleA
set_option linter.unusedVariables false
set_option linter.unusedSimpArgs false
namespace Go.Proofs.YtpenfolhaiiidaaDoor.Inst
open Go.RowKit Go.Proofs.YtpenfolhaiiidaaDoor.Alu Go.Proofs.YtpenfolhaiiidaaDoor.Imm

set_option maxRecDepth 100000 in
set_option maxHeartbeats 4000000 in
theorem narrow_any (f rd rn rm ra im kd bs st cd rg s : Int) (w : World) :
    Calls Tryd.prog 30 #[.agg #[.int .i64 f, .int .i64 rd, .int .i64 rn, .int .i64 rm, .int .i64 ra, .int .i64 im, .int .i64 kd, .int .i64 bs, .int .i64 st, .int .i64 cd, .int .i64 rg], .int .i64 s] w fun e w' => e = .returned (.bool (narrowB f s rd rn rm ra im kd bs st cd rg)) ∧ Below w.heap.size w w' := by
  go_enter Tryd.func30, Tryd.ntmps30
  go_wp2_with (first | (go_at_call 37; refine (within_any _ _ _ _).mono ?_; rintro e w' ⟨rfl, rfl⟩) | (go_at_call 38; refine (only_any _ _ _ _ _ _ _ _ _ _ _ _ (by decide) (by decide) _).mono ?_; rintro e w1 ⟨rfl, hb⟩; obtain ⟨hc, hf⟩ := bcell hb) | (go_at_call 39; refine (plain_any _ _ _ _ _ _ _ _ _ _ _ _ _).mono ?_; rintro e w1 ⟨rfl, hb⟩))
  all_goals
    go_ret
    first
    | exact ⟨ret_bool (by go_light; rw [Bool.eq_iff_iff]; simp_all [narrowB]), (Below.refl _ _).alloc (Nat.le_refl _) _⟩
    | exact ⟨ret_bool (by go_light; (try clear hc hf); clear hb; rw [Bool.eq_iff_iff]; simp_all [narrowB, tmod_zero]), ((Below.refl _ _).alloc (Nat.le_refl _) _).trans (hb.mono (by simp))⟩

end Go.Proofs.YtpenfolhaiiidaaDoor.Inst
