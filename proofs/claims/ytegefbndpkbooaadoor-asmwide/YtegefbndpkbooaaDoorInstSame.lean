/- Two instructions held against each other. -/
import Derived.Test.YtegefbndpkbooaaDoorChecked
import Derived.WalkKit
import Derived.ProofKit
set_option linter.unusedVariables false
namespace Go.Proofs.YtegefbndpkbooaaDoor.Inst
open Go.RowKit

theorem eq_nil {P : Program} {w : World} {d : Nat} {xs ys : Array Value} : (Op.eqFields d xs ys []).run P w = .ok true w := rfl
theorem eq_step {P : Program} {w : World} {d : Nat} {xs ys : Array Value} {f : Field} {fs : List Field} {a b : Int} {r : Bool} (hn : f.name ≠ "_") (hu : P.underlying f.type = some (.int .i64))
    (hx : ∀ w, (part f.type xs f.offset).run P w = .ok (.int .i64 a) w) (hy : ∀ w, (part f.type ys f.offset).run P w = .ok (.int .i64 b) w) (hr : (Op.eqFields (d + 1) xs ys fs).run P w = .ok r w) :
    (Op.eqFields (d + 1) xs ys (f :: fs)).run P w = .ok (a == b && r) w := by
  unfold Op.eqFields
  rw [if_pos hn]
  simp only [Sem.run_bind, hx, hy, Result.andThen_ok, run_equalIn_int w d f.type .i64 .i64 a b hu]
  cases a == b
  · simp
  · simpa using hr

def same (a0 a1 a2 a3 a4 a5 a6 a7 a8 a9 a10 b0 b1 b2 b3 b4 b5 b6 b7 b8 b9 b10 : Int) : Bool := a0 == b0 && (a1 == b1 && (a2 == b2 && (a3 == b3 && (a4 == b4 && (a5 == b5 && (a6 == b6 && (a7 == b7 && (a8 == b8 && (a9 == b9 && (a10 == b10 && true))))))))))

set_option maxRecDepth 100000 in
theorem neq_inst (w : World) (a0 a1 a2 a3 a4 a5 a6 a7 a8 a9 a10 b0 b1 b2 b3 b4 b5 b6 b7 b8 b9 b10 : Int) :
    (binOp .neq 36 (.agg #[.int .i64 a0, .int .i64 a1, .int .i64 a2, .int .i64 a3, .int .i64 a4, .int .i64 a5, .int .i64 a6, .int .i64 a7, .int .i64 a8, .int .i64 a9, .int .i64 a10]) (.agg #[.int .i64 b0, .int .i64 b1, .int .i64 b2, .int .i64 b3, .int .i64 b4, .int .i64 b5, .int .i64 b6, .int .i64 b7, .int .i64 b8, .int .i64 b9, .int .i64 b10])).run Tryd.prog w = .ok (.bool (!same a0 a1 a2 a3 a4 a5 a6 a7 a8 a9 a10 b0 b1 b2 b3 b4 b5 b6 b7 b8 b9 b10)) w := by
  rw [run_neq_struct, run_equalIn_agg w 9999 36 _ _ (by kernel_rfl) (by kernel_rfl)]
  unfold Program.fieldsOf
  rw [Tryd.underlying36]
  exact congrArg (fun r => Result.andThen r (fun b w' => Result.ok (Value.bool (!b)) w')) (eq_step (a := a0) (b := b0) (by decide) Tryd.underlying34 (fun _ => by kernel_rfl) (fun _ => by kernel_rfl) (eq_step (a := a1) (b := b1) (by decide) Tryd.underlying3 (fun _ => by kernel_rfl) (fun _ => by kernel_rfl) (eq_step (a := a2) (b := b2) (by decide) Tryd.underlying3 (fun _ => by kernel_rfl) (fun _ => by kernel_rfl) (eq_step (a := a3) (b := b3) (by decide) Tryd.underlying3 (fun _ => by kernel_rfl) (fun _ => by kernel_rfl) (eq_step (a := a4) (b := b4) (by decide) Tryd.underlying3 (fun _ => by kernel_rfl) (fun _ => by kernel_rfl) (eq_step (a := a5) (b := b5) (by decide) Tryd.underlying3 (fun _ => by kernel_rfl) (fun _ => by kernel_rfl) (eq_step (a := a6) (b := b6) (by decide) Tryd.underlying3 (fun _ => by kernel_rfl) (fun _ => by kernel_rfl) (eq_step (a := a7) (b := b7) (by decide) Tryd.underlying3 (fun _ => by kernel_rfl) (fun _ => by kernel_rfl) (eq_step (a := a8) (b := b8) (by decide) Tryd.underlying3 (fun _ => by kernel_rfl) (fun _ => by kernel_rfl) (eq_step (a := a9) (b := b9) (by decide) Tryd.underlying3 (fun _ => by kernel_rfl) (fun _ => by kernel_rfl) (eq_step (a := a10) (b := b10) (by decide) Tryd.underlying3 (fun _ => by kernel_rfl) (fun _ => by kernel_rfl) eq_nil)))))))))))

theorem same_yes (a0 a1 a2 a3 a4 a5 a6 a7 a8 a9 a10 : Int) : same a0 a1 a2 a3 a4 a5 a6 a7 a8 a9 a10 a0 a1 a2 a3 a4 a5 a6 a7 a8 a9 a10 = true := by simp [same]
theorem same_eq {a0 a1 a2 a3 a4 a5 a6 a7 a8 a9 a10 b0 b1 b2 b3 b4 b5 b6 b7 b8 b9 b10 : Int} (h : same a0 a1 a2 a3 a4 a5 a6 a7 a8 a9 a10 b0 b1 b2 b3 b4 b5 b6 b7 b8 b9 b10 = true) : a0 = b0 ∧ a1 = b1 ∧ a2 = b2 ∧ a3 = b3 ∧ a4 = b4 ∧ a5 = b5 ∧ a6 = b6 ∧ a7 = b7 ∧ a8 = b8 ∧ a9 = b9 ∧ a10 = b10 := by
  simpa [same] using h

end Go.Proofs.YtegefbndpkbooaaDoor.Inst

