/- The table of factors, as the rows list it: its four cells; and a world that holds it. -/
import Derived.Test.YtbnghejmjopodaaDoorRows
import Derived.Test.YtbnghejmjopodaaDoorImmWalks
import Derived.Lib.LaidTab
set_option linter.unusedVariables false
namespace Go.Proofs.YtbnghejmjopodaaDoor.Imm
open Go.ChangeShapes Go.WideShapes Go.ChangeAt Go.RowKit

theorem gTab : Tryd.prog.globalNamed "remontoire/imm.factors" = some 0 := by kernel_rfl
theorem gTabType : (Tryd.prog.globals[0]?).map (·.type) = some 44 := by kernel_rfl
theorem cellsTab : Tryd.prog.cellsOf 44 = 4 := by kernel_rfl
theorem cellsElem : Tryd.prog.cellsOf 22 = 1 := by kernel_rfl

theorem table {W : World} (h : laidMetH Tryd.prog [("remontoire/imm.factors", Rows.laid_remontoire_imm_factors)] W) : Lib.TabIs Tryd.prog W "remontoire/imm.factors" .u32 [1, 65537, 16777472, 16843009] :=
  Lib.tabIs_of_head (rest := []) gTab gTabType Tryd.underlying44 Tryd.underlying22 cellsElem cellsTab h

/-- What the rows' list says of a world. -/
abbrev Laid (w : World) : Prop := Fac w

theorem laid_of {W : World} (h : laidMetH Tryd.prog [("remontoire/imm.factors", Rows.laid_remontoire_imm_factors)] W) : Laid W :=
  ⟨(table h).cell gTab 0 (by decide), (table h).cell gTab 1 (by decide), (table h).cell gTab 2 (by decide), (table h).cell gTab 3 (by decide)⟩

/-- A world for the witness: the settled one, the table (block 0) holding what its initialiser lays. -/
def laidWorld (P : Program) (os : Os) : World :=
  { World.holding P os ⟨#[], #[], []⟩ with heap := (World.holding P os ⟨#[], #[], []⟩).heap.modify 0 fun
      | .cells _ t frozen => .cells #[.int .u32 1, .int .u32 65537, .int .u32 16777472, .int .u32 16843009] t frozen
      | o => o }

end Go.Proofs.YtbnghejmjopodaaDoor.Imm
