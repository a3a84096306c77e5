/- What the document's own rule for any instruction answers: a contract. -/
import Derived.Test.YtpenfolhaiiidaaDoorInstRuleB
import Derived.Test.YtpenfolhaiiidaaDoorInstRuleD
import Derived.Test.YtpenfolhaiiidaaDoorInstTab
set_option linter.unusedVariables false
namespace Go.Proofs.YtpenfolhaiiidaaDoor.Inst
open Go.RowKit Go.Proofs.YtpenfolhaiiidaaDoor.Alu Go.Proofs.YtpenfolhaiiidaaDoor.Imm

theorem refRight_any (f rd rn rm ra im kd bs st cd rg : Int) (w : World) :
    Calls Tryd.prog 20 #[.agg #[.int .i64 f, .int .i64 rd, .int .i64 rn, .int .i64 rm, .int .i64 ra, .int .i64 im, .int .i64 kd, .int .i64 bs, .int .i64 st, .int .i64 cd, .int .i64 rg]] w fun e w' => e = .returned (.bool (refR f rd rn rm ra im kd bs st cd rg)) ∧ Below w.heap.size w w' := by
  have hB1 : Below w.heap.size w (w.alloc (.cells #[.int .i64 f, .int .i64 rd, .int .i64 rn, .int .i64 rm, .int .i64 ra, .int .i64 im, .int .i64 kd, .int .i64 bs, .int .i64 st, .int .i64 cd, .int .i64 rg] 36)) := (Below.refl _ _).alloc (Nat.le_refl _) _
  have HR : Hid (refR f rd rn rm ra im kd bs st cd rg = if shp f = 0 then false else if shp f < 17 then narrowB f (shp f) rd rn rm ra im kd bs st cd rg else wideB (shp f) rd rn rm ra im kd bs st cd rg) := rfl
  have hs := shp_bd f
  by_cases h0 : shp f = 0
  · go_enter Tryd.func20, Tryd.ntmps20
    go_wp2_with fail
    refine (refShape_any _ _).mono ?_
    rintro e w1 ⟨rfl, hb1⟩
    go_wp2_with fail
    go_ret
    exact ⟨ret_bool (by rw [HR.out, if_pos h0]), hB1.trans (hb1.mono (by simp))⟩
  · have h0' : (shp f == 0) = false := by rw [beq_eq_false_iff_ne]; exact h0
    by_cases h1 : shp f < 17
    · go_enter Tryd.func20, Tryd.ntmps20
      go_wp2_with fail
      refine (refShape_any _ _).mono ?_
      rintro e w1 ⟨rfl, hb1⟩
      obtain ⟨hc, hf⟩ := bcell hb1
      go_wp2_with fail
      refine (narrow_any _ _ _ _ _ _ _ _ _ _ _ _ _).mono ?_
      rintro e w2 ⟨rfl, hb⟩
      have hb2 := next hb1 hb
      go_wp2_with fail
      go_ret
      exact ⟨ret_bool (by rw [HR.out, if_neg h0, if_pos h1]), hB1.trans (hb2.mono (by simp))⟩
    · go_enter Tryd.func20, Tryd.ntmps20
      go_wp2_with fail
      refine (refShape_any _ _).mono ?_
      rintro e w1 ⟨rfl, hb1⟩
      obtain ⟨hc, hf⟩ := bcell hb1
      go_wp2_with fail
      refine (wideI_any f _ _ _ _ _ _ _ _ _ _ _ _).mono ?_
      rintro e w2 ⟨rfl, hb⟩
      have hb2 := next hb1 hb
      go_wp2_with fail
      go_ret
      exact ⟨ret_bool (by rw [HR.out, if_neg h0, if_neg (by omega)]), hB1.trans (hb2.mono (by simp))⟩

end Go.Proofs.YtpenfolhaiiidaaDoor.Inst
