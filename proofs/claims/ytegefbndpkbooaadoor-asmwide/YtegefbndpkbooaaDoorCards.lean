/-
  DERIVED. GIVEN WITH THE SEED: THE CARDS: each row of YtegefbndpkbooaaDoorRows.lean that lists a variable, with what it lists TIED to the program's text (the seventh form; the later family's looks); each row that meets fmt, with fmt's text TOLD by the authors' own Lean function (tested against real Go, not proved from fmt's source: count such statements apart). THE CARD IS WHAT COUNTS. Prove the row's statement (the work); the ties are given (YtegefbndpkbooaaDoorTie.lean); close each card by the builder's one call (the guide's Derived/Test/ToyasCard.lean, 'card_holds'). Laid BY PROGRAM, IN A SANDBOX (cutbox-door.mjs). By AI agents, Wed Nov 11 2026. No macro, syntax, notation, axiom, sorry.
-/
import Derived.Test.YtegefbndpkbooaaDoorRows
import GoSem.ClaimSeven
namespace Go.Proofs.YtegefbndpkbooaaDoor
namespace Rows

/-- THE TIED CARD OF 'remontoirelaw08.AsmReaches'. -/
def asmReachesCard : Claim7 := { stood := { row := asmReachesRow, standIns := [], harness := (true, "8a9eacf4c16aa06a3e612e2aa373b145b46376245fd15adb1e2696a0b2bc1bb2"), looks := false }, kinds := [], alts := [], laidByText := true, laidKinds := [.data, .data, .data], laidTests := true, laidLooks := .later }
def AsmReachesCardSaid : Prop := Claim7.holds Tryd.pinned (.plain (OpenSpec.ofChange asmReachesSpec)) asmReachesCard

/-- THE TIED CARD OF 'remontoirelaw08.AsmWide'. -/
def asmWideCard : Claim7 := { stood := { row := asmWideRow, standIns := [], harness := (true, "8a9eacf4c16aa06a3e612e2aa373b145b46376245fd15adb1e2696a0b2bc1bb2"), looks := false }, kinds := [], alts := [], laidByText := true, laidKinds := [.data, .data, .data], laidTests := true, laidLooks := .later }
def AsmWideCardSaid : Prop := Claim7.holds Tryd.pinned (.plain (OpenSpec.ofChange asmWideSpec)) asmWideCard

/-- THE TIED CARD OF 'remontoirelaw08.AsmSlides'. -/
def asmSlidesCard : Claim7 := { stood := { row := asmSlidesRow, standIns := [], harness := (true, "8a9eacf4c16aa06a3e612e2aa373b145b46376245fd15adb1e2696a0b2bc1bb2"), looks := false }, kinds := [], alts := [], laidByText := true, laidKinds := [.data, .data, .data], laidTests := true, laidLooks := .later }
def AsmSlidesCardSaid : Prop := Claim7.holds Tryd.pinned (.plain (OpenSpec.ofChange asmSlidesSpec)) asmSlidesCard

/-- THE SECOND FORM's CARD OF 'remontoirelaw08.AsmReaches'. -/
def asmReachesUptoCard : Claim7 := { stood := { row := asmReachesUptoRow, standIns := [], harness := (true, "8a9eacf4c16aa06a3e612e2aa373b145b46376245fd15adb1e2696a0b2bc1bb2"), looks := false }, kinds := [], alts := [], laidByText := true, laidKinds := [.data, .data, .data], laidTests := true, laidLooks := .later }
def AsmReachesUptoCardSaid : Prop := Claim7.holds Tryd.pinned (.plain (OpenSpec.upto asmReachesSpec)) asmReachesUptoCard

/-- THE SECOND FORM's CARD OF 'remontoirelaw08.AsmWide'. -/
def asmWideUptoCard : Claim7 := { stood := { row := asmWideUptoRow, standIns := [], harness := (true, "8a9eacf4c16aa06a3e612e2aa373b145b46376245fd15adb1e2696a0b2bc1bb2"), looks := false }, kinds := [], alts := [], laidByText := true, laidKinds := [.data, .data, .data], laidTests := true, laidLooks := .later }
def AsmWideUptoCardSaid : Prop := Claim7.holds Tryd.pinned (.plain (OpenSpec.upto asmWideSpec)) asmWideUptoCard

/-- THE SECOND FORM's CARD OF 'remontoirelaw08.AsmSlides'. -/
def asmSlidesUptoCard : Claim7 := { stood := { row := asmSlidesUptoRow, standIns := [], harness := (true, "8a9eacf4c16aa06a3e612e2aa373b145b46376245fd15adb1e2696a0b2bc1bb2"), looks := false }, kinds := [], alts := [], laidByText := true, laidKinds := [.data, .data, .data], laidTests := true, laidLooks := .later }
def AsmSlidesUptoCardSaid : Prop := Claim7.holds Tryd.pinned (.plain (OpenSpec.upto asmSlidesSpec)) asmSlidesUptoCard
end Rows
end Go.Proofs.YtegefbndpkbooaaDoor
