/- What Begins, and the statements' own 'of' and 'anchor' of layer 4 answer: contracts. -/
import Derived.Test.YtegefbndpkbooaaDoorCodeWord
set_option linter.unusedVariables false
namespace Go.Proofs.YtegefbndpkbooaaDoor.Code
open Go.RowKit Go.Proofs.YtegefbndpkbooaaDoor.Alu Go.Proofs.YtegefbndpkbooaaDoor.Imm Go.Proofs.YtegefbndpkbooaaDoor.Inst

/-- A half begins a wide one. -/
def beg (h : Int) : Bool := decide (29 ≤ h / 2048 % 32)
theorem Begins_any (h : Int) (h0 : 0 ≤ h) (h1 : h < 4294967296) (w : World) :
    Calls Tryd.prog 24 #[.int .u32 h] w fun e w' => e = .returned (.bool (beg h)) ∧ w' = w.drew := by
  have e0 := ct_at h (h := 15) (l := 11) (by decide : pw 11 = 2048) (by decide : pw (15 - 11 + 1) = 32)
  go_enter Tryd.func24, Tryd.ntmps24
  go_wp2_with (go_at_call 35; refine (cut_any _ _ _ h0 h1 (by decide) (by decide) (by decide) _).mono ?_; rintro e w' ⟨rfl, rfl⟩)
  go_ret
  exact ⟨ret_bool (by rw [Bool.eq_iff_iff]; simp [beg]), rfl⟩

end Go.Proofs.YtegefbndpkbooaaDoor.Code

