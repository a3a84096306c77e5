/-
  NARROWER THAN 'FOR EVERY INPUT', by the rows' own cells (each row's printed sentence says how): AsmReaches: laid · AsmWide: laid · AsmSlides: laid.
  DERIVED. THE GIVEN ROWS OF THIS SEAT. 3 by the template 'for every input the law returns true; each argument reads behind the call as it read before'; 0 by the template 'total and deterministic' (their statements: YtegefbndpkbooaaDoorTotals.lean).
  GIVEN WITH THE SEED: the statements are not yours to turn. If you find one false, say at which input.
  Laid BY PROGRAM, IN A SANDBOX (cutbox-rows.mjs): the forced cells as the released guide's own fill.sh prints them over the translation 368c5d3cc28ff3fe… (all of the seat's roots in one cut). By AI agents, Wed Nov 11 2026. No macro, syntax, notation, axiom, sorry.
-/
import Derived.Test.YtegefbndpkbooaaDoorChecked
import GoSem.Claim
import GoSem.ClaimJoined
import GoSem.ClaimMapViews
import Derived.JoinedTies
import Derived.KernelRfl
namespace Go.Proofs.YtegefbndpkbooaaDoor
/- THE CELL 'sum', in the pinned program and in every row, IS THE sha256 OF THE DUMP (.gsa) THAT YtegefbndpkbooaaDoorProg.lean LOADS. Nothing in Lean hashes anything: it is a label: what it is worth is what the hold of that sum in a sandbox is worth. -/
noncomputable def Tryd.pinned : Pinned := { name := "ytegefbndpkbooaadoor", sum := "368c5d3cc28ff3fe04ace4ce2c601c3a61f6cf31b58f1b7d1e4e8b9ea1e6edc2", checked := Tryd.checked }
namespace Rows
def none {H : Type} : Left H := { results := [], args := [] }

/- WHAT THE LISTED PACKAGE-LEVEL VARIABLES READ AS WHEN THE CALL BEGINS. Each datum BY PROGRAM (the guide's laid-datum.mjs) off the statement by which the dump's own 'gosem.cut.vars' lays the variable. In a bare row this is a premise. The card (YtegefbndpkbooaaDoorCards.lean) ties it to the program's text. -/
def laid_remontoire_imm_factors {H : Type} : DataW H := .agg [.lit (.int .u32 1), .lit (.int .u32 65537), .lit (.int .u32 16777472), .lit (.int .u32 16843009)]
def laid_remontoire_inst_formShapes {H : Type} : DataW H := .agg [.lit (.int .i64 0), .lit (.int .i64 1), .lit (.int .i64 1), .lit (.int .i64 1), .lit (.int .i64 2), .lit (.int .i64 2), .lit (.int .i64 3), .lit (.int .i64 3), .lit (.int .i64 4), .lit (.int .i64 4), .lit (.int .i64 4), .lit (.int .i64 4), .lit (.int .i64 5), .lit (.int .i64 5), .lit (.int .i64 5), .lit (.int .i64 5), .lit (.int .i64 5), .lit (.int .i64 5), .lit (.int .i64 5), .lit (.int .i64 5), .lit (.int .i64 5), .lit (.int .i64 5), .lit (.int .i64 5), .lit (.int .i64 5), .lit (.int .i64 5), .lit (.int .i64 5), .lit (.int .i64 5), .lit (.int .i64 5), .lit (.int .i64 6), .lit (.int .i64 6), .lit (.int .i64 6), .lit (.int .i64 7), .lit (.int .i64 8), .lit (.int .i64 2), .lit (.int .i64 2), .lit (.int .i64 9), .lit (.int .i64 9), .lit (.int .i64 8), .lit (.int .i64 8), .lit (.int .i64 8), .lit (.int .i64 10), .lit (.int .i64 10), .lit (.int .i64 11), .lit (.int .i64 12), .lit (.int .i64 13), .lit (.int .i64 14), .lit (.int .i64 15), .lit (.int .i64 16), .lit (.int .i64 17), .lit (.int .i64 17), .lit (.int .i64 18), .lit (.int .i64 18), .lit (.int .i64 18), .lit (.int .i64 18), .lit (.int .i64 18), .lit (.int .i64 18), .lit (.int .i64 18), .lit (.int .i64 18), .lit (.int .i64 18), .lit (.int .i64 18), .lit (.int .i64 19), .lit (.int .i64 19), .lit (.int .i64 20), .lit (.int .i64 20), .lit (.int .i64 20), .lit (.int .i64 20), .lit (.int .i64 21), .lit (.int .i64 21), .lit (.int .i64 21), .lit (.int .i64 21), .lit (.int .i64 21), .lit (.int .i64 21), .lit (.int .i64 21), .lit (.int .i64 21), .lit (.int .i64 21), .lit (.int .i64 21), .lit (.int .i64 22), .lit (.int .i64 22), .lit (.int .i64 23), .lit (.int .i64 23), .lit (.int .i64 23), .lit (.int .i64 23), .lit (.int .i64 24), .lit (.int .i64 24), .lit (.int .i64 25), .lit (.int .i64 25), .lit (.int .i64 26), .lit (.int .i64 26), .lit (.int .i64 27), .lit (.int .i64 27), .lit (.int .i64 27), .lit (.int .i64 27), .lit (.int .i64 28), .lit (.int .i64 29), .lit (.int .i64 30), .lit (.int .i64 31), .lit (.int .i64 31), .lit (.int .i64 28), .lit (.int .i64 32), .lit (.int .i64 33), .lit (.int .i64 34)]
def laid_remontoire_inst_formBits {H : Type} : DataW H := .agg [.lit (.int .u32 0), .lit (.int .u32 0), .lit (.int .u32 2048), .lit (.int .u32 4096), .lit (.int .u32 6144), .lit (.int .u32 6656), .lit (.int .u32 7168), .lit (.int .u32 7680), .lit (.int .u32 8192), .lit (.int .u32 10240), .lit (.int .u32 12288), .lit (.int .u32 14336), .lit (.int .u32 16384), .lit (.int .u32 16448), .lit (.int .u32 16512), .lit (.int .u32 16576), .lit (.int .u32 16640), .lit (.int .u32 16704), .lit (.int .u32 16768), .lit (.int .u32 16832), .lit (.int .u32 16896), .lit (.int .u32 16960), .lit (.int .u32 17024), .lit (.int .u32 17088), .lit (.int .u32 17152), .lit (.int .u32 17216), .lit (.int .u32 17280), .lit (.int .u32 17344), .lit (.int .u32 17408), .lit (.int .u32 17664), .lit (.int .u32 17920), .lit (.int .u32 18176), .lit (.int .u32 18432), .lit (.int .u32 20480), .lit (.int .u32 22528), .lit (.int .u32 24576), .lit (.int .u32 26624), .lit (.int .u32 36864), .lit (.int .u32 38912), .lit (.int .u32 43008), .lit (.int .u32 45056), .lit (.int .u32 45184), .lit (.int .u32 46080), .lit (.int .u32 48128), .lit (.int .u32 48896), .lit (.int .u32 48640), .lit (.int .u32 53248), .lit (.int .u32 57344), .lit (.int .u32 4064280576), .lit (.int .u32 4072669184), .lit (.int .u32 4026531840), .lit (.int .u32 4028628992), .lit (.int .u32 4030726144), .lit (.int .u32 4032823296), .lit (.int .u32 4034920448), .lit (.int .u32 4043309056), .lit (.int .u32 4047503360), .lit (.int .u32 4049600512), .lit (.int .u32 4053794816), .lit (.int .u32 4055891968), .lit (.int .u32 4031709184), .lit (.int .u32 4033806336), .lit (.int .u32 4027584256), .lit (.int .u32 4035972864), .lit (.int .u32 4044361472), .lit (.int .u32 4054847232), .lit (.int .u32 3925868544), .lit (.int .u32 3927965696), .lit (.int .u32 3930062848), .lit (.int .u32 3932160000), .lit (.int .u32 3934257152), .lit (.int .u32 3942645760), .lit (.int .u32 3946840064), .lit (.int .u32 3948937216), .lit (.int .u32 3953131520), .lit (.int .u32 3955228672), .lit (.int .u32 3931045888), .lit (.int .u32 3933143040), .lit (.int .u32 3926920960), .lit (.int .u32 3935309568), .lit (.int .u32 3943698176), .lit (.int .u32 3954183936), .lit (.int .u32 4060086272), .lit (.int .u32 4070572032), .lit (.int .u32 4173332480), .lit (.int .u32 4174381056), .lit (.int .u32 4164943872), .lit (.int .u32 4165992448), .lit (.int .u32 4194365440), .lit (.int .u32 4196462592), .lit (.int .u32 4198559744), .lit (.int .u32 4200656896), .lit (.int .u32 4211142656), .lit (.int .u32 4211081216), .lit (.int .u32 4211081232), .lit (.int .u32 4221566976), .lit (.int .u32 4225761280), .lit (.int .u32 4222677232), .lit (.int .u32 4205899904), .lit (.int .u32 4026564608), .lit (.int .u32 4026568704)]

/-- 'remontoirelaw08.AsmReaches': WHATEVER THE INPUT: true; the input reads as it did. -/
def asmReachesSpec : ChangeSpec := { name := "asmReaches", fn := fun _ => fun
  | [d1, d2] => { results := [.lit (.bool true)], args := [d1, d2] }
  | _ => none }
def asmReachesRow : OpenClaim := { program := "ytegefbndpkbooaadoor", sum := "368c5d3cc28ff3fe04ace4ce2c601c3a61f6cf31b58f1b7d1e4e8b9ea1e6edc2", func := "remontoire/remontoirelaw08.AsmReaches", spec := "asmReaches", named := ["remontoire/inst.formShapes", "remontoire/imm.factors", "remontoire/inst.formBits"], apart := false, laid := [("remontoire/imm.factors", laid_remontoire_imm_factors), ("remontoire/inst.formShapes", laid_remontoire_inst_formShapes), ("remontoire/inst.formBits", laid_remontoire_inst_formBits)] }
def AsmReachesSaid : Prop := asmReachesRow.holds Tryd.pinned (OpenSpec.ofChange asmReachesSpec)

/-- ITS FALSE NEIGHBOUR: 'it returns false'. Refute it at one input. -/
def asmReachesWrong : ChangeSpec := { name := "asmReaches", fn := fun _ => fun
  | [d1, d2] => { results := [.lit (.bool false)], args := [d1, d2] }
  | _ => none }
def AsmReachesWrongFalsely : Prop := asmReachesRow.holds Tryd.pinned (OpenSpec.ofChange asmReachesWrong)

/-- 'remontoirelaw08.AsmWide': WHATEVER THE INPUT: true; the input reads as it did. -/
def asmWideSpec : ChangeSpec := { name := "asmWide", fn := fun _ => fun
  | [d1, d2] => { results := [.lit (.bool true)], args := [d1, d2] }
  | _ => none }
def asmWideRow : OpenClaim := { program := "ytegefbndpkbooaadoor", sum := "368c5d3cc28ff3fe04ace4ce2c601c3a61f6cf31b58f1b7d1e4e8b9ea1e6edc2", func := "remontoire/remontoirelaw08.AsmWide", spec := "asmWide", named := ["remontoire/inst.formShapes", "remontoire/imm.factors", "remontoire/inst.formBits"], apart := false, laid := [("remontoire/imm.factors", laid_remontoire_imm_factors), ("remontoire/inst.formShapes", laid_remontoire_inst_formShapes), ("remontoire/inst.formBits", laid_remontoire_inst_formBits)] }
def AsmWideSaid : Prop := asmWideRow.holds Tryd.pinned (OpenSpec.ofChange asmWideSpec)

/-- ITS FALSE NEIGHBOUR: 'it returns false'. Refute it at one input. -/
def asmWideWrong : ChangeSpec := { name := "asmWide", fn := fun _ => fun
  | [d1, d2] => { results := [.lit (.bool false)], args := [d1, d2] }
  | _ => none }
def AsmWideWrongFalsely : Prop := asmWideRow.holds Tryd.pinned (OpenSpec.ofChange asmWideWrong)

/-- 'remontoirelaw08.AsmSlides': WHATEVER THE INPUT: true; the input reads as it did. -/
def asmSlidesSpec : ChangeSpec := { name := "asmSlides", fn := fun _ => fun
  | [d1, d2] => { results := [.lit (.bool true)], args := [d1, d2] }
  | _ => none }
def asmSlidesRow : OpenClaim := { program := "ytegefbndpkbooaadoor", sum := "368c5d3cc28ff3fe04ace4ce2c601c3a61f6cf31b58f1b7d1e4e8b9ea1e6edc2", func := "remontoire/remontoirelaw08.AsmSlides", spec := "asmSlides", named := ["remontoire/inst.formShapes", "remontoire/imm.factors", "remontoire/inst.formBits"], apart := false, laid := [("remontoire/imm.factors", laid_remontoire_imm_factors), ("remontoire/inst.formShapes", laid_remontoire_inst_formShapes), ("remontoire/inst.formBits", laid_remontoire_inst_formBits)] }
def AsmSlidesSaid : Prop := asmSlidesRow.holds Tryd.pinned (OpenSpec.ofChange asmSlidesSpec)

/-- ITS FALSE NEIGHBOUR: 'it returns false'. Refute it at one input. -/
def asmSlidesWrong : ChangeSpec := { name := "asmSlides", fn := fun _ => fun
  | [d1, d2] => { results := [.lit (.bool false)], args := [d1, d2] }
  | _ => none }
def AsmSlidesWrongFalsely : Prop := asmSlidesRow.holds Tryd.pinned (OpenSpec.ofChange asmSlidesWrong)

/- THE SECOND FORM. 'bulk': how many values and letters a reading holds, each counted each time it is reached (what is shared counts as often as it is met; a slice's spare places count too). A statement '..UptoSaid' is the law's where the arguments, and the package variables that the reading takes, are together of bulk at most 1048576: NARROWER than '..Said'. Prove '..Said' where nothing that the law and all that it calls make is longer than what came in: it says more and counts as full. Else prove '..UptoSaid'. A law counts once. -/
mutual
def uptoBulk {H : Type} : DataW H → Nat
  | .lit (.string bytes) => bytes.length + 1
  | .lit _ => 1
  | .nil => 1
  | .ptr d => uptoBulk d + 1
  | .slice elems spare => uptoBulkAll elems + uptoBulkAll spare + 1
  | .agg parts => uptoBulkAll parts + 1
  | .iface _ d => uptoBulk d + 1
  | .map entries => uptoBulkEntries entries + 1
  | .held _ => 1
def uptoBulkAll {H : Type} : List (DataW H) → Nat
  | [] => 0
  | d :: r => uptoBulk d + uptoBulkAll r
def uptoBulkEntries {H : Type} : List (Lit × DataW H) → Nat
  | [] => 0
  | x :: r => uptoBulkEntry x + uptoBulkEntries r
def uptoBulkEntry {H : Type} : Lit × DataW H → Nat
  | (.string bytes, d) => bytes.length + uptoBulk d + 1
  | (_, d) => uptoBulk d + 1
 end
def uptoSmall : (H : Type) → List (DataW H) → Bool := fun _ ds => decide (uptoBulkAll ds ≤ 1048576)
def OpenSpec.upto (s : _root_.Go.ChangeSpec) : _root_.Go.OpenSpec := { _root_.Go.OpenSpec.ofChange s with cond := some uptoSmall }

/-- 'remontoirelaw08.AsmReaches', WHERE WHAT IT READS IS OF BULK AT MOST 1048576: true; the input reads as it did. -/
def asmReachesUptoRow : OpenClaim := { program := "ytegefbndpkbooaadoor", sum := "368c5d3cc28ff3fe04ace4ce2c601c3a61f6cf31b58f1b7d1e4e8b9ea1e6edc2", func := "remontoire/remontoirelaw08.AsmReaches", spec := "asmReaches", named := ["remontoire/inst.formShapes", "remontoire/imm.factors", "remontoire/inst.formBits"], apart := false, laid := [("remontoire/imm.factors", laid_remontoire_imm_factors), ("remontoire/inst.formShapes", laid_remontoire_inst_formShapes), ("remontoire/inst.formBits", laid_remontoire_inst_formBits)], narrowed := true }
def AsmReachesUptoSaid : Prop := asmReachesUptoRow.holds Tryd.pinned (OpenSpec.upto asmReachesSpec)

/-- 'remontoirelaw08.AsmWide', WHERE WHAT IT READS IS OF BULK AT MOST 1048576: true; the input reads as it did. -/
def asmWideUptoRow : OpenClaim := { program := "ytegefbndpkbooaadoor", sum := "368c5d3cc28ff3fe04ace4ce2c601c3a61f6cf31b58f1b7d1e4e8b9ea1e6edc2", func := "remontoire/remontoirelaw08.AsmWide", spec := "asmWide", named := ["remontoire/inst.formShapes", "remontoire/imm.factors", "remontoire/inst.formBits"], apart := false, laid := [("remontoire/imm.factors", laid_remontoire_imm_factors), ("remontoire/inst.formShapes", laid_remontoire_inst_formShapes), ("remontoire/inst.formBits", laid_remontoire_inst_formBits)], narrowed := true }
def AsmWideUptoSaid : Prop := asmWideUptoRow.holds Tryd.pinned (OpenSpec.upto asmWideSpec)

/-- 'remontoirelaw08.AsmSlides', WHERE WHAT IT READS IS OF BULK AT MOST 1048576: true; the input reads as it did. -/
def asmSlidesUptoRow : OpenClaim := { program := "ytegefbndpkbooaadoor", sum := "368c5d3cc28ff3fe04ace4ce2c601c3a61f6cf31b58f1b7d1e4e8b9ea1e6edc2", func := "remontoire/remontoirelaw08.AsmSlides", spec := "asmSlides", named := ["remontoire/inst.formShapes", "remontoire/imm.factors", "remontoire/inst.formBits"], apart := false, laid := [("remontoire/imm.factors", laid_remontoire_imm_factors), ("remontoire/inst.formShapes", laid_remontoire_inst_formShapes), ("remontoire/inst.formBits", laid_remontoire_inst_formBits)], narrowed := true }
def AsmSlidesUptoSaid : Prop := asmSlidesUptoRow.holds Tryd.pinned (OpenSpec.upto asmSlidesSpec)

end Rows
end Go.Proofs.YtegefbndpkbooaaDoor
