/-
  DERIVED. GIVEN WITH THE SEED: THE CARDS: each row of YtbnghejmjopodaaDoorRows.lean that lists a variable, with what it lists TIED to the program's text (the seventh form; the later family's looks); each row that meets fmt, with fmt's text TOLD by the authors' own Lean function (tested against real Go, not proved from fmt's source: count such statements apart). THE CARD IS WHAT COUNTS. Prove the row's statement (the work); the ties are given (YtbnghejmjopodaaDoorTie.lean); close each card by the builder's one call (the guide's Derived/Test/ToyasCard.lean, 'card_holds'). Laid BY PROGRAM, IN A SANDBOX (cutbox-door.mjs). By AI agents, Wed Nov 11 2026. No macro, syntax, notation, axiom, sorry.
-/
import Derived.Test.YtbnghejmjopodaaDoorRows
import GoSem.ClaimSeven
namespace Go.Proofs.YtbnghejmjopodaaDoor
namespace Rows

/-- THE TIED CARD OF 'remontoirelaw02.ImmWords'. -/
def immWordsCard : Claim7 := { stood := { row := immWordsRow, standIns := [], harness := (true, "759855b8a9bfc31fc3308a3b6f45e405b9aad3f025b7f3eb74712d93e7963956"), looks := false }, kinds := [], alts := [], laidByText := true, laidKinds := [.data], laidTests := true, laidLooks := .later }
def ImmWordsCardSaid : Prop := Claim7.holds Tryd.pinned (.plain (OpenSpec.ofChange immWordsSpec)) immWordsCard

/-- THE TIED CARD OF 'remontoirelaw02.ImmFinds'. -/
def immFindsCard : Claim7 := { stood := { row := immFindsRow, standIns := [], harness := (true, "759855b8a9bfc31fc3308a3b6f45e405b9aad3f025b7f3eb74712d93e7963956"), looks := false }, kinds := [], alts := [], laidByText := true, laidKinds := [.data], laidTests := true, laidLooks := .later }
def ImmFindsCardSaid : Prop := Claim7.holds Tryd.pinned (.plain (OpenSpec.ofChange immFindsSpec)) immFindsCard

/-- THE TIED CARD OF 'remontoirelaw02.ImmOnce'. -/
def immOnceCard : Claim7 := { stood := { row := immOnceRow, standIns := [], harness := (true, "759855b8a9bfc31fc3308a3b6f45e405b9aad3f025b7f3eb74712d93e7963956"), looks := false }, kinds := [], alts := [], laidByText := true, laidKinds := [.data], laidTests := true, laidLooks := .later }
def ImmOnceCardSaid : Prop := Claim7.holds Tryd.pinned (.plain (OpenSpec.ofChange immOnceSpec)) immOnceCard

/-- THE TIED CARD OF 'remontoirelaw02.ImmAll'. -/
def immAllCard : Claim7 := { stood := { row := immAllRow, standIns := [], harness := (true, "759855b8a9bfc31fc3308a3b6f45e405b9aad3f025b7f3eb74712d93e7963956"), looks := false }, kinds := [], alts := [], laidByText := true, laidKinds := [.data], laidTests := true, laidLooks := .later }
def ImmAllCardSaid : Prop := Claim7.holds Tryd.pinned (.plain (OpenSpec.ofChange immAllSpec)) immAllCard

/-- THE TIED CARD OF 'remontoirelaw02.ImmTurns'. -/
def immTurnsCard : Claim7 := { stood := { row := immTurnsRow, standIns := [], harness := (true, "759855b8a9bfc31fc3308a3b6f45e405b9aad3f025b7f3eb74712d93e7963956"), looks := false }, kinds := [], alts := [], laidByText := true, laidKinds := [.data], laidTests := true, laidLooks := .later }
def ImmTurnsCardSaid : Prop := Claim7.holds Tryd.pinned (.plain (OpenSpec.ofChange immTurnsSpec)) immTurnsCard

/-- THE TIED CARD OF 'remontoirelaw02.ImmRepeats'. -/
def immRepeatsCard : Claim7 := { stood := { row := immRepeatsRow, standIns := [], harness := (true, "759855b8a9bfc31fc3308a3b6f45e405b9aad3f025b7f3eb74712d93e7963956"), looks := false }, kinds := [], alts := [], laidByText := true, laidKinds := [.data], laidTests := true, laidLooks := .later }
def ImmRepeatsCardSaid : Prop := Claim7.holds Tryd.pinned (.plain (OpenSpec.ofChange immRepeatsSpec)) immRepeatsCard

/-- THE SECOND FORM's CARD OF 'remontoirelaw02.ImmWords'. -/
def immWordsUptoCard : Claim7 := { stood := { row := immWordsUptoRow, standIns := [], harness := (true, "759855b8a9bfc31fc3308a3b6f45e405b9aad3f025b7f3eb74712d93e7963956"), looks := false }, kinds := [], alts := [], laidByText := true, laidKinds := [.data], laidTests := true, laidLooks := .later }
def ImmWordsUptoCardSaid : Prop := Claim7.holds Tryd.pinned (.plain (OpenSpec.upto immWordsSpec)) immWordsUptoCard

/-- THE SECOND FORM's CARD OF 'remontoirelaw02.ImmFinds'. -/
def immFindsUptoCard : Claim7 := { stood := { row := immFindsUptoRow, standIns := [], harness := (true, "759855b8a9bfc31fc3308a3b6f45e405b9aad3f025b7f3eb74712d93e7963956"), looks := false }, kinds := [], alts := [], laidByText := true, laidKinds := [.data], laidTests := true, laidLooks := .later }
def ImmFindsUptoCardSaid : Prop := Claim7.holds Tryd.pinned (.plain (OpenSpec.upto immFindsSpec)) immFindsUptoCard

/-- THE SECOND FORM's CARD OF 'remontoirelaw02.ImmOnce'. -/
def immOnceUptoCard : Claim7 := { stood := { row := immOnceUptoRow, standIns := [], harness := (true, "759855b8a9bfc31fc3308a3b6f45e405b9aad3f025b7f3eb74712d93e7963956"), looks := false }, kinds := [], alts := [], laidByText := true, laidKinds := [.data], laidTests := true, laidLooks := .later }
def ImmOnceUptoCardSaid : Prop := Claim7.holds Tryd.pinned (.plain (OpenSpec.upto immOnceSpec)) immOnceUptoCard

/-- THE SECOND FORM's CARD OF 'remontoirelaw02.ImmAll'. -/
def immAllUptoCard : Claim7 := { stood := { row := immAllUptoRow, standIns := [], harness := (true, "759855b8a9bfc31fc3308a3b6f45e405b9aad3f025b7f3eb74712d93e7963956"), looks := false }, kinds := [], alts := [], laidByText := true, laidKinds := [.data], laidTests := true, laidLooks := .later }
def ImmAllUptoCardSaid : Prop := Claim7.holds Tryd.pinned (.plain (OpenSpec.upto immAllSpec)) immAllUptoCard

/-- THE SECOND FORM's CARD OF 'remontoirelaw02.ImmTurns'. -/
def immTurnsUptoCard : Claim7 := { stood := { row := immTurnsUptoRow, standIns := [], harness := (true, "759855b8a9bfc31fc3308a3b6f45e405b9aad3f025b7f3eb74712d93e7963956"), looks := false }, kinds := [], alts := [], laidByText := true, laidKinds := [.data], laidTests := true, laidLooks := .later }
def ImmTurnsUptoCardSaid : Prop := Claim7.holds Tryd.pinned (.plain (OpenSpec.upto immTurnsSpec)) immTurnsUptoCard

/-- THE SECOND FORM's CARD OF 'remontoirelaw02.ImmRepeats'. -/
def immRepeatsUptoCard : Claim7 := { stood := { row := immRepeatsUptoRow, standIns := [], harness := (true, "759855b8a9bfc31fc3308a3b6f45e405b9aad3f025b7f3eb74712d93e7963956"), looks := false }, kinds := [], alts := [], laidByText := true, laidKinds := [.data], laidTests := true, laidLooks := .later }
def ImmRepeatsUptoCardSaid : Prop := Claim7.holds Tryd.pinned (.plain (OpenSpec.upto immRepeatsSpec)) immRepeatsUptoCard
end Rows
end Go.Proofs.YtbnghejmjopodaaDoor
