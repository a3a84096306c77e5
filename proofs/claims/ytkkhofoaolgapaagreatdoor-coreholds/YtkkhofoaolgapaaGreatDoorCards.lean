/-
  DERIVED. GIVEN WITH THE SEED: THE CARDS: each row of YtkkhofoaolgapaaGreatDoorRows.lean that lists a variable, with what it lists TIED to the program's text (the seventh form; the later family's looks); each row that meets fmt, with fmt's text TOLD by the authors' own Lean function (tested against real Go, not proved from fmt's source: count such statements apart). THE CARD IS WHAT COUNTS. Prove the row's statement (the work); the ties are given (YtkkhofoaolgapaaGreatDoorTie.lean); close each card by the builder's one call (the guide's Derived/Test/ToyasCard.lean, 'card_holds'). Laid BY PROGRAM, IN A SANDBOX (cutbox-door.mjs). By AI agents, Wed Nov 11 2026. No macro, syntax, notation, axiom, sorry.
-/
import Derived.Test.YtkkhofoaolgapaaGreatDoorRows
import GoSem.ClaimSeven
namespace Go.Proofs.YtkkhofoaolgapaaGreatDoor
namespace Rows

/-- THE TIED CARD OF 'remontoirelaw07.CoreSteps'. -/
def coreStepsCard : Claim7 := { stood := { row := coreStepsRow, standIns := [], harness := (true, "2aa721f4769156e0f70b505f6135f3004aea80fb08a154b53ac611f50efea1b2"), looks := false }, kinds := [], alts := [], laidByText := true, laidKinds := [.data, .data, .data], laidTests := true, laidLooks := .later }
def CoreStepsCardSaid : Prop := Claim7.holds Tryz.pinned (.plain (OpenSpec.ofChange coreStepsSpec)) coreStepsCard

/-- THE TIED CARD OF 'remontoirelaw07.CoreOne'. -/
def coreOneCard : Claim7 := { stood := { row := coreOneRow, standIns := [], harness := (true, "2aa721f4769156e0f70b505f6135f3004aea80fb08a154b53ac611f50efea1b2"), looks := false }, kinds := [], alts := [], laidByText := true, laidKinds := [.data, .data, .data], laidTests := true, laidLooks := .later }
def CoreOneCardSaid : Prop := Claim7.holds Tryz.pinned (.plain (OpenSpec.ofChange coreOneSpec)) coreOneCard

/-- THE TIED CARD OF 'remontoirelaw07.CoreHolds'. -/
def coreHoldsCard : Claim7 := { stood := { row := coreHoldsRow, standIns := [], harness := (true, "2aa721f4769156e0f70b505f6135f3004aea80fb08a154b53ac611f50efea1b2"), looks := false }, kinds := [], alts := [], laidByText := true, laidKinds := [.data, .data, .data], laidTests := true, laidLooks := .later }
def CoreHoldsCardSaid : Prop := Claim7.holds Tryz.pinned (.plain (OpenSpec.ofChange coreHoldsSpec)) coreHoldsCard

/-- THE TIED CARD OF 'remontoirelaw07.CoreRuns'. -/
def coreRunsCard : Claim7 := { stood := { row := coreRunsRow, standIns := [], harness := (true, "2aa721f4769156e0f70b505f6135f3004aea80fb08a154b53ac611f50efea1b2"), looks := false }, kinds := [], alts := [], laidByText := true, laidKinds := [.data, .data, .data], laidTests := true, laidLooks := .later }
def CoreRunsCardSaid : Prop := Claim7.holds Tryz.pinned (.plain (OpenSpec.ofChange coreRunsSpec)) coreRunsCard

/-- THE SECOND FORM's CARD OF 'remontoirelaw07.CoreSteps'. -/
def coreStepsUptoCard : Claim7 := { stood := { row := coreStepsUptoRow, standIns := [], harness := (true, "2aa721f4769156e0f70b505f6135f3004aea80fb08a154b53ac611f50efea1b2"), looks := false }, kinds := [], alts := [], laidByText := true, laidKinds := [.data, .data, .data], laidTests := true, laidLooks := .later }
def CoreStepsUptoCardSaid : Prop := Claim7.holds Tryz.pinned (.plain (OpenSpec.upto coreStepsSpec)) coreStepsUptoCard

/-- THE SECOND FORM's CARD OF 'remontoirelaw07.CoreOne'. -/
def coreOneUptoCard : Claim7 := { stood := { row := coreOneUptoRow, standIns := [], harness := (true, "2aa721f4769156e0f70b505f6135f3004aea80fb08a154b53ac611f50efea1b2"), looks := false }, kinds := [], alts := [], laidByText := true, laidKinds := [.data, .data, .data], laidTests := true, laidLooks := .later }
def CoreOneUptoCardSaid : Prop := Claim7.holds Tryz.pinned (.plain (OpenSpec.upto coreOneSpec)) coreOneUptoCard

/-- THE SECOND FORM's CARD OF 'remontoirelaw07.CoreHolds'. -/
def coreHoldsUptoCard : Claim7 := { stood := { row := coreHoldsUptoRow, standIns := [], harness := (true, "2aa721f4769156e0f70b505f6135f3004aea80fb08a154b53ac611f50efea1b2"), looks := false }, kinds := [], alts := [], laidByText := true, laidKinds := [.data, .data, .data], laidTests := true, laidLooks := .later }
def CoreHoldsUptoCardSaid : Prop := Claim7.holds Tryz.pinned (.plain (OpenSpec.upto coreHoldsSpec)) coreHoldsUptoCard

/-- THE SECOND FORM's CARD OF 'remontoirelaw07.CoreRuns'. -/
def coreRunsUptoCard : Claim7 := { stood := { row := coreRunsUptoRow, standIns := [], harness := (true, "2aa721f4769156e0f70b505f6135f3004aea80fb08a154b53ac611f50efea1b2"), looks := false }, kinds := [], alts := [], laidByText := true, laidKinds := [.data, .data, .data], laidTests := true, laidLooks := .later }
def CoreRunsUptoCardSaid : Prop := Claim7.holds Tryz.pinned (.plain (OpenSpec.upto coreRunsSpec)) coreRunsUptoCard
end Rows
end Go.Proofs.YtkkhofoaolgapaaGreatDoor
