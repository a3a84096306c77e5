/-
  DERIVED. GIVEN WITH THE SEED: THE CARDS: each row of YtpenfolhaiiidaaDoorRows.lean that lists a variable, with what it lists TIED to the program's text (the seventh form; the later family's looks); each row that meets fmt, with fmt's text TOLD by the authors' own Lean function (tested against real Go, not proved from fmt's source: count such statements apart). THE CARD IS WHAT COUNTS. Prove the row's statement (the work); the ties are given (YtpenfolhaiiidaaDoorTie.lean); close each card by the builder's one call (the guide's Derived/Test/ToyasCard.lean, 'card_holds'). Laid BY PROGRAM, IN A SANDBOX (cutbox-door.mjs). By AI agents, Wed Nov 11 2026. No macro, syntax, notation, axiom, sorry.
-/
import Derived.Test.YtpenfolhaiiidaaDoorRows
import GoSem.ClaimSeven
namespace Go.Proofs.YtpenfolhaiiidaaDoor
namespace Rows

/-- THE TIED CARD OF 'remontoirelaw03.InstForms'. -/
def instFormsCard : Claim7 := { stood := { row := instFormsRow, standIns := [], harness := (true, "2666fc145efad538022e2d050493c00c7709091d82984fc2da755378ede737a3"), looks := false }, kinds := [], alts := [], laidByText := true, laidKinds := [.data, .data, .data, .data], laidTests := true, laidLooks := .later }
def InstFormsCardSaid : Prop := Claim7.holds Tryd.pinned (.plain (OpenSpec.ofChange instFormsSpec)) instFormsCard

/-- THE TIED CARD OF 'remontoirelaw03.InstRight'. -/
def instRightCard : Claim7 := { stood := { row := instRightRow, standIns := [], harness := (true, "2666fc145efad538022e2d050493c00c7709091d82984fc2da755378ede737a3"), looks := false }, kinds := [], alts := [], laidByText := true, laidKinds := [.data, .data], laidTests := true, laidLooks := .later }
def InstRightCardSaid : Prop := Claim7.holds Tryd.pinned (.plain (OpenSpec.ofChange instRightSpec)) instRightCard

/-- THE TIED CARD OF 'remontoirelaw03.InstBranches'. -/
def instBranchesCard : Claim7 := { stood := { row := instBranchesRow, standIns := [], harness := (true, "2666fc145efad538022e2d050493c00c7709091d82984fc2da755378ede737a3"), looks := false }, kinds := [], alts := [], laidByText := true, laidKinds := [.data, .data], laidTests := true, laidLooks := .later }
def InstBranchesCardSaid : Prop := Claim7.holds Tryd.pinned (.plain (OpenSpec.ofChange instBranchesSpec)) instBranchesCard

/-- THE TIED CARD OF 'remontoirelaw03.InstFields'. -/
def instFieldsCard : Claim7 := { stood := { row := instFieldsRow, standIns := [], harness := (true, "2666fc145efad538022e2d050493c00c7709091d82984fc2da755378ede737a3"), looks := false }, kinds := [], alts := [], laidByText := true, laidKinds := [.data, .data], laidTests := true, laidLooks := .later }
def InstFieldsCardSaid : Prop := Claim7.holds Tryd.pinned (.plain (OpenSpec.ofChange instFieldsSpec)) instFieldsCard

/-- THE TIED CARD OF 'remontoirelaw03.InstSizes'. -/
def instSizesCard : Claim7 := { stood := { row := instSizesRow, standIns := [], harness := (true, "2666fc145efad538022e2d050493c00c7709091d82984fc2da755378ede737a3"), looks := false }, kinds := [], alts := [], laidByText := true, laidKinds := [.data, .data], laidTests := true, laidLooks := .later }
def InstSizesCardSaid : Prop := Claim7.holds Tryd.pinned (.plain (OpenSpec.ofChange instSizesSpec)) instSizesCard

/-- THE SECOND FORM's CARD OF 'remontoirelaw03.InstForms'. -/
def instFormsUptoCard : Claim7 := { stood := { row := instFormsUptoRow, standIns := [], harness := (true, "2666fc145efad538022e2d050493c00c7709091d82984fc2da755378ede737a3"), looks := false }, kinds := [], alts := [], laidByText := true, laidKinds := [.data, .data, .data, .data], laidTests := true, laidLooks := .later }
def InstFormsUptoCardSaid : Prop := Claim7.holds Tryd.pinned (.plain (OpenSpec.upto instFormsSpec)) instFormsUptoCard

/-- THE SECOND FORM's CARD OF 'remontoirelaw03.InstRight'. -/
def instRightUptoCard : Claim7 := { stood := { row := instRightUptoRow, standIns := [], harness := (true, "2666fc145efad538022e2d050493c00c7709091d82984fc2da755378ede737a3"), looks := false }, kinds := [], alts := [], laidByText := true, laidKinds := [.data, .data], laidTests := true, laidLooks := .later }
def InstRightUptoCardSaid : Prop := Claim7.holds Tryd.pinned (.plain (OpenSpec.upto instRightSpec)) instRightUptoCard

/-- THE SECOND FORM's CARD OF 'remontoirelaw03.InstBranches'. -/
def instBranchesUptoCard : Claim7 := { stood := { row := instBranchesUptoRow, standIns := [], harness := (true, "2666fc145efad538022e2d050493c00c7709091d82984fc2da755378ede737a3"), looks := false }, kinds := [], alts := [], laidByText := true, laidKinds := [.data, .data], laidTests := true, laidLooks := .later }
def InstBranchesUptoCardSaid : Prop := Claim7.holds Tryd.pinned (.plain (OpenSpec.upto instBranchesSpec)) instBranchesUptoCard

/-- THE SECOND FORM's CARD OF 'remontoirelaw03.InstFields'. -/
def instFieldsUptoCard : Claim7 := { stood := { row := instFieldsUptoRow, standIns := [], harness := (true, "2666fc145efad538022e2d050493c00c7709091d82984fc2da755378ede737a3"), looks := false }, kinds := [], alts := [], laidByText := true, laidKinds := [.data, .data], laidTests := true, laidLooks := .later }
def InstFieldsUptoCardSaid : Prop := Claim7.holds Tryd.pinned (.plain (OpenSpec.upto instFieldsSpec)) instFieldsUptoCard

/-- THE SECOND FORM's CARD OF 'remontoirelaw03.InstSizes'. -/
def instSizesUptoCard : Claim7 := { stood := { row := instSizesUptoRow, standIns := [], harness := (true, "2666fc145efad538022e2d050493c00c7709091d82984fc2da755378ede737a3"), looks := false }, kinds := [], alts := [], laidByText := true, laidKinds := [.data, .data], laidTests := true, laidLooks := .later }
def InstSizesUptoCardSaid : Prop := Claim7.holds Tryd.pinned (.plain (OpenSpec.upto instSizesSpec)) instSizesUptoCard
end Rows
end Go.Proofs.YtpenfolhaiiidaaDoor
