/- The small functions of package asm: contracts. -/
import Derived.Test.YtegefbndpkbooaaDoorAsmBase
import Derived.Test.YtegefbndpkbooaaDoorInstLaid
set_option linter.unusedVariables false
set_option linter.unusedSimpArgs false
namespace Go.Proofs.YtegefbndpkbooaaDoor.Asm
open Go.RowKit Go.Proofs.YtegefbndpkbooaaDoor.Core Go.Proofs.YtegefbndpkbooaaDoor.Alu

theorem Do_any (i : Ins) (w : World) :
    Calls Tryd.prog 13 #[.agg (inv i)] w fun e w' => e = .returned (.agg (itv (doI i))) ∧ Below w.heap.size w w' := by
  show Calls Tryd.prog 13 #[.agg #[.int .i64 i.f, .int .i64 i.rd, .int .i64 i.rn, .int .i64 i.rm, .int .i64 i.ra, .int .i64 i.im, .int .i64 i.kd, .int .i64 i.bs, .int .i64 i.st, .int .i64 i.cd, .int .i64 i.rg]] w _
  go_enter Tryd.func13, Tryd.ntmps13
  go_wp2
  exact bodyPost_ret (v := .agg (itv (doI i))) (by simp [results, Tryd.results13, go_sem, itv, doI]) rfl ⟨rfl, ((Below.refl _ _).alloc (Nat.le_refl _) _).alloc (by simp) _⟩

theorem Go_any (c l : Int) (w : World) :
    Calls Tryd.prog 15 #[.int .i64 c, .int .i64 l] w fun e w' => e = .returned (.agg (itv (goI c l))) ∧ Below w.heap.size w w' := by
  go_enter Tryd.func15, Tryd.ntmps15
  go_wp2
  exact bodyPost_ret (v := .agg (itv (goI c l))) (by simp [results, Tryd.results15, go_sem, itv, goI, zerI]) rfl ⟨rfl, (Below.refl _ _).alloc (Nat.le_refl _) _⟩

theorem Here_any (l : Int) (w : World) :
    Calls Tryd.prog 14 #[.int .i64 l] w fun e w' => e = .returned (.agg (itv (hereI l))) ∧ Below w.heap.size w w' := by
  go_enter Tryd.func14, Tryd.ntmps14
  go_wp2
  exact bodyPost_ret (v := .agg (itv (hereI l))) (by simp [results, Tryd.results14, go_sem, itv, hereI, zerI]) rfl ⟨rfl, (Below.refl _ _).alloc (Nat.le_refl _) _⟩

theorem Pad_any (t : Int) (w : World) :
    Calls Tryd.prog 43 #[.int .i64 t] w fun e w' => e = .returned (.agg (itv (padI t))) ∧ Below w.heap.size w w' := by
  go_enter Tryd.func43, Tryd.ntmps43
  go_wp2
  exact bodyPost_ret (v := .agg (itv (padI t))) (by simp [results, Tryd.results43, go_sem, itv, padI, zerI]) rfl ⟨rfl, (Below.refl _ _).alloc (Nat.le_refl _) _⟩

def condB (c : Int) : Bool := decide (-1 ≤ c ∧ c ≤ 13)
def labB (l : Int) : Bool := decide (0 ≤ l ∧ l ≤ 65535)

theorem isCond_any (c : Int) (w : World) :
    Calls Tryd.prog 41 #[.int .i64 c] w fun e w' => e = .returned (.bool (condB c)) ∧ w' = w := by
  go_enter Tryd.func41, Tryd.ntmps41
  go_wp2_with fail
  all_goals
    go_ret
    exact ⟨ret_bool (by go_light; rw [Bool.eq_iff_iff]; simp [condB]; omega), rfl⟩

theorem isLabel_any (l : Int) (w : World) :
    Calls Tryd.prog 42 #[.int .i64 l] w fun e w' => e = .returned (.bool (labB l)) ∧ w' = w := by
  go_enter Tryd.func42, Tryd.ntmps42
  go_wp2_with fail
  all_goals
    go_ret
    exact ⟨ret_bool (by go_light; rw [Bool.eq_iff_iff]; simp [labB]; omega), rfl⟩

/-- A jump's instruction. -/
def brI (c far : Int) (wide : Bool) : Ins := if c = -1 then (if wide then ⟨100, 0, 0, 0, 0, far, 0, 0, 0, 0, 0⟩ else ⟨47, 0, 0, 0, 0, far, 0, 0, 0, 0, 0⟩) else (if wide then ⟨99, 0, 0, 0, 0, far, 0, 0, 0, c, 0⟩ else ⟨46, 0, 0, 0, 0, far, 0, 0, 0, c, 0⟩)
theorem branch_any (c far : Int) (wide : Bool) (w : World) :
    Calls Tryd.prog 29 #[.int .i64 c, .int .i64 far, .bool wide] w fun e w' => e = .returned (.agg (inv (brI c far wide))) ∧ Below w.heap.size w w' := by
  have HQ : Hid (inv (brI c far wide) = inv (brI c far wide)) := rfl
  by_cases hc : c = -1
  · have HE : Hid (∀ b, brI c far b = if b then ⟨100, 0, 0, 0, 0, far, 0, 0, 0, 0, 0⟩ else ⟨47, 0, 0, 0, 0, far, 0, 0, 0, 0, 0⟩) := fun b => if_pos hc
    cases wide
    all_goals
      go_enter Tryd.func29, Tryd.ntmps29
      go_wp2_with fail
      refine bodyPost_ret (v := .agg #[_, _, _, _, _, _, _, _, _, _, _]) (by simp [results, Tryd.results29, go_sem]; exact ⟨rfl, rfl, rfl, rfl, rfl, rfl, rfl, rfl, rfl, rfl, rfl⟩) rfl ⟨?_, (Below.refl _ _).alloc (Nat.le_refl _) _⟩
      first | rfl | (rw [HE.out]; rfl)
  · have HE : Hid (∀ b, brI c far b = if b then ⟨99, 0, 0, 0, 0, far, 0, 0, 0, c, 0⟩ else ⟨46, 0, 0, 0, 0, far, 0, 0, 0, c, 0⟩) := fun b => if_neg hc
    cases wide
    all_goals
      go_enter Tryd.func29, Tryd.ntmps29
      go_wp2_with fail
      refine bodyPost_ret (v := .agg #[_, _, _, _, _, _, _, _, _, _, _]) (by simp [results, Tryd.results29, go_sem]; exact ⟨rfl, rfl, rfl, rfl, rfl, rfl, rfl, rfl, rfl, rfl, rfl⟩) rfl ⟨?_, (Below.refl _ _).alloc (Nat.le_refl _) _⟩
      first | rfl | (rw [HE.out]; rfl)

/-- How many bytes are missing to the next multiple. -/
def misN (a t : Int) : Int := (t - a % t) % t
theorem missing_any (a t : Int) (ha : 0 ≤ a) (ha2 : a ≤ 70000) (ht : t = 4 ∨ t = 8 ∨ t = 16) (w : World) :
    Calls Tryd.prog 33 #[.int .i64 a, .int .i64 t] w fun e w' => e = .returned (.int .i64 (misN a t)) ∧ w' = w := by
  have hm : 0 ≤ a % t ∧ a % t < t := by rcases ht with rfl | rfl | rfl <;> omega
  rcases ht with rfl | rfl | rfl
  all_goals
    go_enter Tryd.func33, Tryd.ntmps33
    go_wp2_with fail
    go_ret
    exact ⟨rfl, rfl⟩
end Go.Proofs.YtegefbndpkbooaaDoor.Asm

