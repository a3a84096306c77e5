/- A world that holds the two tables that the rows of layer 5 list. -/
import Derived.Test.YtpgcnbipnjcniaaDoorInstLaid
set_option linter.unusedVariables false
namespace Go.Proofs.YtpgcnbipnjcniaaDoor.Clk
open Go.ChangeShapes Go.WideShapes Go.ChangeAt Go.RowKit Go.Proofs.YtpgcnbipnjcniaaDoor.Inst

abbrev Laid (w : World) : Prop := Inst.Laid w
theorem laid_of {W : World} (h : laidMetH Tryd.prog [("remontoire/imm.factors", Rows.laid_remontoire_imm_factors), ("remontoire/inst.formShapes", Rows.laid_remontoire_inst_formShapes)] W) : Laid W := Inst.laid_of h

/-- A world for the witness: the settled one, each table holding what its initialiser lays. -/
def laidWorld (P : Program) (os : Os) : World :=
  { World.holding P os ⟨#[], #[], []⟩ with heap := ((World.holding P os ⟨#[], #[], []⟩).heap.modify 2 (Inst.put #[.int .u32 1, .int .u32 65537, .int .u32 16777472, .int .u32 16843009])).modify 1 (Inst.put (shpL.map (Value.int .i64)).toArray) }

end Go.Proofs.YtpgcnbipnjcniaaDoor.Clk
