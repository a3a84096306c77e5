/-
  No cell of these rows narrows 'for every input' (looked for: loops, veiled, ifaces, maps, wideKeys, modest, calm, conditions, laid).
  DERIVED. THE GIVEN ROWS OF THIS SEAT. 4 by the template 'for every input the law returns true; each argument reads behind the call as it read before'; 0 by the template 'total and deterministic' (their statements: YthbleghkkhhcbaaTotals.lean).
  GIVEN WITH THE SEED: the statements are not yours to turn. If you find one false, say at which input.
  Laid BY PROGRAM, IN A SANDBOX (cutbox-rows.mjs): the forced cells as the released guide's own fill.sh prints them over the translation 35edd8c53b173776… (all of the seat's roots in one cut). By AI agents, Wed Nov 11 2026. No macro, syntax, notation, axiom, sorry.
-/
import Derived.Test.YthbleghkkhhcbaaChecked
import GoSem.Claim
import GoSem.ClaimJoined
import GoSem.ClaimMapViews
import Derived.JoinedTies
import Derived.KernelRfl
namespace Go.Proofs.Ythbleghkkhhcbaa
/- THE CELL 'sum', in the pinned program and in every row, IS THE sha256 OF THE DUMP (.gsa) THAT YthbleghkkhhcbaaProg.lean LOADS. Nothing in Lean hashes anything: it is a label: what it is worth is what the hold of that sum in a sandbox is worth. -/
noncomputable def Try.pinned : Pinned := { name := "ythbleghkkhhcbaa", sum := "35edd8c53b1737763fe003d5acdef04755dd12b4c334fde7eb7f7a04479c5922", checked := Try.checked }
namespace Rows
def none {H : Type} : Left H := { results := [], args := [] }

/-- 'remontoirelaw05.ClockFetches': WHATEVER THE INPUT: true; the input reads as it did. -/
def clockFetchesSpec : ChangeSpec := { name := "clockFetches", fn := fun _ => fun
  | [d1, d2, d3, d4] => { results := [.lit (.bool true)], args := [d1, d2, d3, d4] }
  | _ => none }
def clockFetchesRow : OpenClaim := { program := "ythbleghkkhhcbaa", sum := "35edd8c53b1737763fe003d5acdef04755dd12b4c334fde7eb7f7a04479c5922", func := "remontoire/remontoirelaw05.ClockFetches", spec := "clockFetches", apart := false }
def ClockFetchesSaid : Prop := clockFetchesRow.holds Try.pinned (OpenSpec.ofChange clockFetchesSpec)

/-- ITS FALSE NEIGHBOUR: 'it returns false'. Refute it at one input. -/
def clockFetchesWrong : ChangeSpec := { name := "clockFetches", fn := fun _ => fun
  | [d1, d2, d3, d4] => { results := [.lit (.bool false)], args := [d1, d2, d3, d4] }
  | _ => none }
def ClockFetchesWrongFalsely : Prop := clockFetchesRow.holds Try.pinned (OpenSpec.ofChange clockFetchesWrong)

/-- 'remontoirelaw05.ClockBetween': WHATEVER THE INPUT: true; the input reads as it did. -/
def clockBetweenSpec : ChangeSpec := { name := "clockBetween", fn := fun _ => fun
  | [d1, d2] => { results := [.lit (.bool true)], args := [d1, d2] }
  | _ => none }
def clockBetweenRow : OpenClaim := { program := "ythbleghkkhhcbaa", sum := "35edd8c53b1737763fe003d5acdef04755dd12b4c334fde7eb7f7a04479c5922", func := "remontoire/remontoirelaw05.ClockBetween", spec := "clockBetween", apart := false }
def ClockBetweenSaid : Prop := clockBetweenRow.holds Try.pinned (OpenSpec.ofChange clockBetweenSpec)

/-- ITS FALSE NEIGHBOUR: 'it returns false'. Refute it at one input. -/
def clockBetweenWrong : ChangeSpec := { name := "clockBetween", fn := fun _ => fun
  | [d1, d2] => { results := [.lit (.bool false)], args := [d1, d2] }
  | _ => none }
def ClockBetweenWrongFalsely : Prop := clockBetweenRow.holds Try.pinned (OpenSpec.ofChange clockBetweenWrong)

/-- 'remontoirelaw05.ClockRuns': WHATEVER THE INPUT: true; the input reads as it did. -/
def clockRunsSpec : ChangeSpec := { name := "clockRuns", fn := fun _ => fun
  | [d1, d2] => { results := [.lit (.bool true)], args := [d1, d2] }
  | _ => none }
def clockRunsRow : OpenClaim := { program := "ythbleghkkhhcbaa", sum := "35edd8c53b1737763fe003d5acdef04755dd12b4c334fde7eb7f7a04479c5922", func := "remontoire/remontoirelaw05.ClockRuns", spec := "clockRuns", apart := false }
def ClockRunsSaid : Prop := clockRunsRow.holds Try.pinned (OpenSpec.ofChange clockRunsSpec)

/-- ITS FALSE NEIGHBOUR: 'it returns false'. Refute it at one input. -/
def clockRunsWrong : ChangeSpec := { name := "clockRuns", fn := fun _ => fun
  | [d1, d2] => { results := [.lit (.bool false)], args := [d1, d2] }
  | _ => none }
def ClockRunsWrongFalsely : Prop := clockRunsRow.holds Try.pinned (OpenSpec.ofChange clockRunsWrong)

/-- 'remontoirelaw05.ClockDivs': WHATEVER THE INPUT: true; the input reads as it did. -/
def clockDivsSpec : ChangeSpec := { name := "clockDivs", fn := fun _ => fun
  | [d1, d2, d3] => { results := [.lit (.bool true)], args := [d1, d2, d3] }
  | _ => none }
def clockDivsRow : OpenClaim := { program := "ythbleghkkhhcbaa", sum := "35edd8c53b1737763fe003d5acdef04755dd12b4c334fde7eb7f7a04479c5922", func := "remontoire/remontoirelaw05.ClockDivs", spec := "clockDivs", apart := false }
def ClockDivsSaid : Prop := clockDivsRow.holds Try.pinned (OpenSpec.ofChange clockDivsSpec)

/-- ITS FALSE NEIGHBOUR: 'it returns false'. Refute it at one input. -/
def clockDivsWrong : ChangeSpec := { name := "clockDivs", fn := fun _ => fun
  | [d1, d2, d3] => { results := [.lit (.bool false)], args := [d1, d2, d3] }
  | _ => none }
def ClockDivsWrongFalsely : Prop := clockDivsRow.holds Try.pinned (OpenSpec.ofChange clockDivsWrong)

/- THE SECOND FORM. 'bulk': how many values and letters a reading holds, each counted each time it is reached (what is shared counts as often as it is met; a slice's spare places count too). A statement '..UptoSaid' is the law's where the arguments, and the package variables that the reading takes, are together of bulk at most 1048576: NARROWER than '..Said'. Prove '..Said' where nothing that the law and all that it calls make is longer than what came in: it says more and counts as full. Else prove '..UptoSaid'. A law counts once. -/
mutual
def uptoBulk {H : Type} : DataW H → Nat
  | .lit (.string bytes) => bytes.length + 1
  | .lit _ => 1
  | .nil => 1
  | .ptr d => uptoBulk d + 1
  | .slice elems spare => uptoBulkAll elems + uptoBulkAll spare + 1
  | .agg parts => uptoBulkAll parts + 1
  | .iface _ d => uptoBulk d + 1
  | .map entries => uptoBulkEntries entries + 1
  | .held _ => 1
def uptoBulkAll {H : Type} : List (DataW H) → Nat
  | [] => 0
  | d :: r => uptoBulk d + uptoBulkAll r
def uptoBulkEntries {H : Type} : List (Lit × DataW H) → Nat
  | [] => 0
  | x :: r => uptoBulkEntry x + uptoBulkEntries r
def uptoBulkEntry {H : Type} : Lit × DataW H → Nat
  | (.string bytes, d) => bytes.length + uptoBulk d + 1
  | (_, d) => uptoBulk d + 1
 end
def uptoSmall : (H : Type) → List (DataW H) → Bool := fun _ ds => decide (uptoBulkAll ds ≤ 1048576)
def OpenSpec.upto (s : _root_.Go.ChangeSpec) : _root_.Go.OpenSpec := { _root_.Go.OpenSpec.ofChange s with cond := some uptoSmall }

/-- 'remontoirelaw05.ClockFetches', WHERE WHAT IT READS IS OF BULK AT MOST 1048576: true; the input reads as it did. -/
def clockFetchesUptoRow : OpenClaim := { program := "ythbleghkkhhcbaa", sum := "35edd8c53b1737763fe003d5acdef04755dd12b4c334fde7eb7f7a04479c5922", func := "remontoire/remontoirelaw05.ClockFetches", spec := "clockFetches", apart := false, narrowed := true }
def ClockFetchesUptoSaid : Prop := clockFetchesUptoRow.holds Try.pinned (OpenSpec.upto clockFetchesSpec)

/-- 'remontoirelaw05.ClockBetween', WHERE WHAT IT READS IS OF BULK AT MOST 1048576: true; the input reads as it did. -/
def clockBetweenUptoRow : OpenClaim := { program := "ythbleghkkhhcbaa", sum := "35edd8c53b1737763fe003d5acdef04755dd12b4c334fde7eb7f7a04479c5922", func := "remontoire/remontoirelaw05.ClockBetween", spec := "clockBetween", apart := false, narrowed := true }
def ClockBetweenUptoSaid : Prop := clockBetweenUptoRow.holds Try.pinned (OpenSpec.upto clockBetweenSpec)

/-- 'remontoirelaw05.ClockRuns', WHERE WHAT IT READS IS OF BULK AT MOST 1048576: true; the input reads as it did. -/
def clockRunsUptoRow : OpenClaim := { program := "ythbleghkkhhcbaa", sum := "35edd8c53b1737763fe003d5acdef04755dd12b4c334fde7eb7f7a04479c5922", func := "remontoire/remontoirelaw05.ClockRuns", spec := "clockRuns", apart := false, narrowed := true }
def ClockRunsUptoSaid : Prop := clockRunsUptoRow.holds Try.pinned (OpenSpec.upto clockRunsSpec)

/-- 'remontoirelaw05.ClockDivs', WHERE WHAT IT READS IS OF BULK AT MOST 1048576: true; the input reads as it did. -/
def clockDivsUptoRow : OpenClaim := { program := "ythbleghkkhhcbaa", sum := "35edd8c53b1737763fe003d5acdef04755dd12b4c334fde7eb7f7a04479c5922", func := "remontoire/remontoirelaw05.ClockDivs", spec := "clockDivs", apart := false, narrowed := true }
def ClockDivsUptoSaid : Prop := clockDivsUptoRow.holds Try.pinned (OpenSpec.upto clockDivsSpec)

end Rows
end Go.Proofs.Ythbleghkkhhcbaa
