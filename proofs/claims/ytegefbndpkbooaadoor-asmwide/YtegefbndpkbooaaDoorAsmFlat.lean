/- Items, one behind the other, as cells. -/
import Derived.Test.YtegefbndpkbooaaDoorAsmOpen
import Derived.Great.BuildSlice
import Derived.Great.Walk
set_option linter.unusedVariables false
set_option linter.unusedSimpArgs false
namespace Go.Proofs.YtegefbndpkbooaaDoor.Asm
open Go.RowKit Go.Proofs.YtegefbndpkbooaaDoor.Core Go.Proofs.YtegefbndpkbooaaDoor.Alu

/-- Items, one behind the other, as cells. -/
def flat (L : List It) : List Value := L.flatMap fun x => (itv x).toList
theorem flat_len : ∀ L : List It, (flat L).length = L.length * 15
  | [] => rfl
  | x :: r => by
    have := flat_len r
    unfold flat at *
    rw [List.flatMap_cons, List.length_append, this]
    show 15 + _ = _
    simp only [List.length_cons]; omega
theorem flat_app (a b : List It) : flat (a ++ b) = flat a ++ flat b := by simp [flat]
theorem flat_one (x : It) : ∀ u ∈ flat [x], u.oneCell' = true := by
  intro u hu
  simp [flat, itv] at hu
  rcases hu with rfl | rfl | rfl | rfl | rfl | rfl | rfl | rfl | rfl | rfl | rfl | rfl | rfl | rfl | rfl <;> rfl
theorem flat_get : ∀ (L : List It) (i : Nat) (x : It), L[i]? = some x → ∀ j v, (itv x).toList[j]? = some v → (flat L)[i * 15 + j]? = some v
  | [], i, x, h, _, _, _ => by simp at h
  | y :: r, 0, x, h, j, v, hv => by
    simp at h; subst h
    have hj : j < 15 := by have := (List.getElem?_eq_some_iff.1 hv).1; simpa [itv] using this
    show (flat (y :: r))[0 * 15 + j]? = some v
    unfold flat
    rw [List.flatMap_cons, show 0 * 15 + j = j by omega, List.getElem?_append_left (show j < (itv y).toList.length from hj)]
    exact hv
  | y :: r, i + 1, x, h, j, v, hv => by
    have ih := flat_get r i x (by simpa using h) j v hv
    unfold flat at ih ⊢
    rw [List.flatMap_cons, List.getElem?_append_right (show (itv y).toList.length ≤ (i + 1) * 15 + j from by show 15 ≤ (i + 1) * 15 + j; omega)]
    rw [show (i + 1) * 15 + j - (itv y).toList.length = i * 15 + j from by show (i + 1) * 15 + j - 15 = _; omega]
    exact ih
def itAt (L : List It) (i : Nat) : It := L.getD i zerT

/-- A row of one item, as a slice literal makes it: of the program's items, of the document's. -/
theorem built_item (x : It) : Tryd.prog.builtSlice 38 1 [(0, .agg (itv x))] = some (itv x) := by
  obtain ⟨k, ⟨f, rd, rn, rm, ra, im, kd, bs, st, cd, rg⟩, c, l, t⟩ := x
  kernel_rfl

set_option maxRecDepth 100000 in
set_option maxHeartbeats 2000000 in
theorem of8_any (x : It) (w : World) :
    Calls Tryd.prog 16 #[.agg (itv x)] w fun e w' => e = .returned (.agg (itv x)) ∧ Below w.heap.size w w' := by
  show Calls Tryd.prog 16 #[.agg #[.int .i64 x.k, .int .i64 x.i.f, .int .i64 x.i.rd, .int .i64 x.i.rn, .int .i64 x.i.rm, .int .i64 x.i.ra, .int .i64 x.i.im, .int .i64 x.i.kd, .int .i64 x.i.bs, .int .i64 x.i.st, .int .i64 x.i.cd, .int .i64 x.i.rg, .int .i64 x.c, .int .i64 x.l, .int .i64 x.t]] w _
  go_enter Tryd.func16, Tryd.ntmps16
  go_wp2
  exact bodyPost_ret (v := .agg (itv x)) (by simp [results, Tryd.results16, go_sem, itv]) rfl ⟨rfl, by repeat (first | exact Below.refl _ _ | refine Below.alloc ?_ (by first | (simp; done) | (simp; omega)) _)⟩

end Go.Proofs.YtegefbndpkbooaaDoor.Asm

