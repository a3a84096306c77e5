/- What Begins, and the statements' own 'of' and 'anchor' of layer 4 answer: contracts. -/
import Derived.Test.YtpgcnbipnjcniaaDoorCodeWord
set_option linter.unusedVariables false
namespace Go.Proofs.YtpgcnbipnjcniaaDoor.Code
open Go.RowKit Go.Proofs.YtpgcnbipnjcniaaDoor.Alu Go.Proofs.YtpgcnbipnjcniaaDoor.Imm Go.Proofs.YtpgcnbipnjcniaaDoor.Inst

/-- A half begins a wide one. -/
def beg (h : Int) : Bool := decide (29 ≤ h / 2048 % 32)
theorem Begins_any (h : Int) (h0 : 0 ≤ h) (h1 : h < 4294967296) (w : World) :
    Calls Tryd.prog 9 #[.int .u32 h] w fun e w' => e = .returned (.bool (beg h)) ∧ w' = w.drew := by
  have e0 := ct_at h (h := 15) (l := 11) (by decide : pw 11 = 2048) (by decide : pw (15 - 11 + 1) = 32)
  go_enter Tryd.func9, Tryd.ntmps9
  go_wp2_with (go_at_call 22; refine (cut_any _ _ _ h0 h1 (by decide) (by decide) (by decide) _).mono ?_; rintro e w' ⟨rfl, rfl⟩)
  go_ret
  exact ⟨ret_bool (by rw [Bool.eq_iff_iff]; simp [beg]), rfl⟩

set_option maxRecDepth 100000 in
theorem anchor4_any (w : World) (hL : Laid w) :
    Calls Tryd.prog 6 #[] w fun e w' => e = .returned (.bool true) ∧ Below w.heap.size w w' := by
  have a1 : right 4 1 2 3 0 0 0 0 0 0 0 = true := by decide +kernel
  have a2 : right 100 0 0 0 0 0 0 0 0 0 0 = true := by decide +kernel
  have c1 : wd 4 1 2 3 0 0 0 0 0 0 0 = 6353 := by decide +kernel
  have c2 : wd 100 0 0 0 0 0 0 0 0 0 0 = 4026578944 := by decide +kernel
  go_enter Tryd.func6, Tryd.ntmps6
  go_wp2_with fail
  refine (Word_yes _ _ _ _ _ _ _ _ _ _ _ a1 (by decide) (by decide) _ hL).mono ?_
  rintro e w1 ⟨rfl, hb1⟩
  go_wp2_with fail
  refine (Word_yes _ _ _ _ _ _ _ _ _ _ _ a2 (by decide) (by decide) _ (hL.below hb1)).mono ?_
  rintro e w2 ⟨rfl, hb2⟩
  go_wp2_with fail
  go_ret
  exact ⟨rfl, next hb1 hb2⟩

end Go.Proofs.YtpgcnbipnjcniaaDoor.Code
