/-
  DERIVED. GIVEN WITH THE SEED: THE CARDS: each row of YtpgcnbipnjcniaaDoorRows.lean that lists a variable, with what it lists TIED to the program's text (the seventh form; the later family's looks); each row that meets fmt, with fmt's text TOLD by the authors' own Lean function (tested against real Go, not proved from fmt's source: count such statements apart). THE CARD IS WHAT COUNTS. Prove the row's statement (the work); the ties are given (YtpgcnbipnjcniaaDoorTie.lean); close each card by the builder's one call (the guide's Derived/Test/ToyasCard.lean, 'card_holds'). Laid BY PROGRAM, IN A SANDBOX (cutbox-door.mjs). By AI agents, Wed Nov 11 2026. No macro, syntax, notation, axiom, sorry.
-/
import Derived.Test.YtpgcnbipnjcniaaDoorRows
import GoSem.ClaimSeven
namespace Go.Proofs.YtpgcnbipnjcniaaDoor
namespace Rows

/-- THE TIED CARD OF 'remontoirelaw04.CodeBytes'. -/
def codeBytesCard : Claim7 := { stood := { row := codeBytesRow, standIns := [], harness := (true, "89e657a8ecec85e22934a150a5ab4a4cee531a6ae4198a680de334d7a8baeefd"), looks := false }, kinds := [], alts := [], laidByText := true, laidKinds := [.data, .data, .data], laidTests := true, laidLooks := .later }
def CodeBytesCardSaid : Prop := Claim7.holds Tryd.pinned (.plain (OpenSpec.ofChange codeBytesSpec)) codeBytesCard

/-- THE TIED CARD OF 'remontoirelaw05.ClockBases'. -/
def clockBasesCard : Claim7 := { stood := { row := clockBasesRow, standIns := [], harness := (true, "89e657a8ecec85e22934a150a5ab4a4cee531a6ae4198a680de334d7a8baeefd"), looks := false }, kinds := [], alts := [], laidByText := true, laidKinds := [.data, .data], laidTests := true, laidLooks := .later }
def ClockBasesCardSaid : Prop := Claim7.holds Tryd.pinned (.plain (OpenSpec.ofChange clockBasesSpec)) clockBasesCard

/-- THE TIED CARD OF 'remontoirelaw05.ClockConstant'. -/
def clockConstantCard : Claim7 := { stood := { row := clockConstantRow, standIns := [], harness := (true, "89e657a8ecec85e22934a150a5ab4a4cee531a6ae4198a680de334d7a8baeefd"), looks := false }, kinds := [], alts := [], laidByText := true, laidKinds := [.data, .data], laidTests := true, laidLooks := .later }
def ClockConstantCardSaid : Prop := Claim7.holds Tryd.pinned (.plain (OpenSpec.ofChange clockConstantSpec)) clockConstantCard

/-- THE SECOND FORM's CARD OF 'remontoirelaw04.CodeBytes'. -/
def codeBytesUptoCard : Claim7 := { stood := { row := codeBytesUptoRow, standIns := [], harness := (true, "89e657a8ecec85e22934a150a5ab4a4cee531a6ae4198a680de334d7a8baeefd"), looks := false }, kinds := [], alts := [], laidByText := true, laidKinds := [.data, .data, .data], laidTests := true, laidLooks := .later }
def CodeBytesUptoCardSaid : Prop := Claim7.holds Tryd.pinned (.plain (OpenSpec.upto codeBytesSpec)) codeBytesUptoCard

/-- THE SECOND FORM's CARD OF 'remontoirelaw05.ClockBases'. -/
def clockBasesUptoCard : Claim7 := { stood := { row := clockBasesUptoRow, standIns := [], harness := (true, "89e657a8ecec85e22934a150a5ab4a4cee531a6ae4198a680de334d7a8baeefd"), looks := false }, kinds := [], alts := [], laidByText := true, laidKinds := [.data, .data], laidTests := true, laidLooks := .later }
def ClockBasesUptoCardSaid : Prop := Claim7.holds Tryd.pinned (.plain (OpenSpec.upto clockBasesSpec)) clockBasesUptoCard

/-- THE SECOND FORM's CARD OF 'remontoirelaw05.ClockConstant'. -/
def clockConstantUptoCard : Claim7 := { stood := { row := clockConstantUptoRow, standIns := [], harness := (true, "89e657a8ecec85e22934a150a5ab4a4cee531a6ae4198a680de334d7a8baeefd"), looks := false }, kinds := [], alts := [], laidByText := true, laidKinds := [.data, .data], laidTests := true, laidLooks := .later }
def ClockConstantUptoCardSaid : Prop := Claim7.holds Tryd.pinned (.plain (OpenSpec.upto clockConstantSpec)) clockConstantUptoCard
end Rows
end Go.Proofs.YtpgcnbipnjcniaaDoor
