/- What the statements' own 'of' answers of layer 3: a contract. -/
import Derived.Test.YtpenfolhaiiidaaDoorInstWalks
set_option linter.unusedVariables false
namespace Go.Proofs.YtpenfolhaiiidaaDoor.Inst
open Go.RowKit Go.Proofs.YtpenfolhaiiidaaDoor.Alu Go.Proofs.YtpenfolhaiiidaaDoor.Imm

theorem of_any (f rd rn rm ra im kd bs st cd rg : Int) (w : World) :
    Calls Tryd.prog 19 #[.agg #[.int .i64 f, .int .i64 rd, .int .i64 rn, .int .i64 rm, .int .i64 ra, .int .i64 im, .int .i64 kd, .int .i64 bs, .int .i64 st, .int .i64 cd, .int .i64 rg]] w fun e w' => e = .returned (.agg #[.int .i64 f, .int .i64 rd, .int .i64 rn, .int .i64 rm, .int .i64 ra, .int .i64 im, .int .i64 kd, .int .i64 bs, .int .i64 st, .int .i64 cd, .int .i64 rg]) ∧ Below w.heap.size w w' := by
  go_enter Tryd.func19, Tryd.ntmps19
  go_wp2
  exact bodyPost_ret (v := (.agg #[.int .i64 f, .int .i64 rd, .int .i64 rn, .int .i64 rm, .int .i64 ra, .int .i64 im, .int .i64 kd, .int .i64 bs, .int .i64 st, .int .i64 cd, .int .i64 rg])) (by simp [results, Tryd.results19, go_sem]) rfl ⟨rfl, ((Below.refl _ _).alloc (Nat.le_refl _) _).alloc (by simp) _⟩

set_option maxRecDepth 100000 in
theorem anchor_any (w : World) (hL : Laid w) :
    Calls Tryd.prog 8 #[] w fun e w' => e = .returned (.bool true) ∧ Below w.heap.size w w' := by
  have a1 : right 4 1 2 3 0 0 0 0 0 0 0 = true := by decide +kernel
  have a2 : right 4 8 2 3 0 0 0 0 0 0 0 = false := by decide +kernel
  go_enter Tryd.func8, Tryd.ntmps8
  go_wp2_with fail
  refine (Right_any _ _ _ _ _ _ _ _ _ _ _ _ hL).mono ?_
  rintro e w1 ⟨rfl, hb1⟩
  go_wp2_with fail
  refine (Right_any _ _ _ _ _ _ _ _ _ _ _ _ (hL.below hb1)).mono ?_
  rintro e w2 ⟨rfl, hb2⟩
  go_wp2_with fail
  go_ret
  exact ⟨rfl, next hb1 hb2⟩

end Go.Proofs.YtpenfolhaiiidaaDoor.Inst
