/- The three tables that the rows of layer 4 list: what they say of a world; and a world that holds them. -/
import Derived.Test.YtegefbndpkbooaaDoorInstLaid
import Derived.Test.YtegefbndpkbooaaDoorInstForm
set_option linter.unusedVariables false
namespace Go.Proofs.YtegefbndpkbooaaDoor.Code
open Go.ChangeShapes Go.WideShapes Go.ChangeAt Go.RowKit Go.Proofs.YtegefbndpkbooaaDoor.Inst

theorem gBts : Tryd.prog.globalNamed "remontoire/inst.formBits" = some 0 := by kernel_rfl
theorem gBtsType : (Tryd.prog.globals[0]?).map (·.type) = some 79 := by kernel_rfl
theorem cellsBts : Tryd.prog.cellsOf 79 = 101 := by kernel_rfl

theorem bts_data : (Rows.laid_remontoire_inst_formBits : DataW Unit) = Lib.tabData .u32 bitL := by kernel_rfl
theorem tabBts {W : World} (h : laidMetH Tryd.prog [("remontoire/inst.formBits", Rows.laid_remontoire_inst_formBits)] W) : Lib.TabIs Tryd.prog W "remontoire/inst.formBits" .u32 bitL := by
  rw [bts_data] at h
  exact Lib.tabIs_of_head (rest := []) gBts gBtsType Tryd.underlying79 Tryd.underlying59 cellsU32 cellsBts h
theorem bitL_len : bitL.length = 101 := by decide +kernel

/-- What the row's list says of a world. -/
structure Laid (w : World) : Prop where
  two : Inst.Laid w
  bits : Bts w

theorem laid_of {W : World} (h : laidMetH Tryd.prog [("remontoire/imm.factors", Rows.laid_remontoire_imm_factors), ("remontoire/inst.formShapes", Rows.laid_remontoire_inst_formShapes), ("remontoire/inst.formBits", Rows.laid_remontoire_inst_formBits)] W) : Laid W := by
  have h1 := h.filter fun x => x.1 == "remontoire/imm.factors"
  have h2 := h.filter fun x => x.1 == "remontoire/inst.formShapes"
  have h4 := h.filter fun x => x.1 == "remontoire/inst.formBits"
  rw [show List.filter (fun x => x.1 == "remontoire/imm.factors") ([("remontoire/imm.factors", Rows.laid_remontoire_imm_factors), ("remontoire/inst.formShapes", Rows.laid_remontoire_inst_formShapes), ("remontoire/inst.formBits", Rows.laid_remontoire_inst_formBits)] : List (String × DataW Unit)) = [("remontoire/imm.factors", Rows.laid_remontoire_imm_factors)] by kernel_rfl] at h1
  rw [show List.filter (fun x => x.1 == "remontoire/inst.formShapes") ([("remontoire/imm.factors", Rows.laid_remontoire_imm_factors), ("remontoire/inst.formShapes", Rows.laid_remontoire_inst_formShapes), ("remontoire/inst.formBits", Rows.laid_remontoire_inst_formBits)] : List (String × DataW Unit)) = [("remontoire/inst.formShapes", Rows.laid_remontoire_inst_formShapes)] by kernel_rfl] at h2
  rw [show List.filter (fun x => x.1 == "remontoire/inst.formBits") ([("remontoire/imm.factors", Rows.laid_remontoire_imm_factors), ("remontoire/inst.formShapes", Rows.laid_remontoire_inst_formShapes), ("remontoire/inst.formBits", Rows.laid_remontoire_inst_formBits)] : List (String × DataW Unit)) = [("remontoire/inst.formBits", Rows.laid_remontoire_inst_formBits)] by kernel_rfl] at h4
  exact ⟨laid_parts h1 h2, fun i hi => (tabBts h4).cell gBts i (by rw [bitL_len]; omega)⟩

def put (cs : Array Value) : Obj → Obj
  | .cells _ t frozen => .cells cs t frozen
  | o => o

/-- A world for the witness: the settled one, each table holding what its initialiser lays. -/
def laidWorld (P : Program) (os : Os) : World :=
  { World.holding P os ⟨#[], #[], []⟩ with heap := (((World.holding P os ⟨#[], #[], []⟩).heap.modify 2 (put #[.int .u32 1, .int .u32 65537, .int .u32 16777472, .int .u32 16843009])).modify 1 (put (shpL.map (Value.int .i64)).toArray)).modify 0 (put (bitL.map (Value.int .u32)).toArray) }

theorem Laid.below {w w' : World} (h : Laid w) (hb : Below w.heap.size w w') : Laid w' :=
  ⟨h.two.below hb, fun i hi => (hb.cell (p := ⟨0, i, none⟩) (cell_lt (h.bits 0 (by omega)))).trans (h.bits i hi)⟩
theorem Laid.alloc {w : World} (h : Laid w) (o : Obj) : Laid (w.alloc o) := h.below ((Below.refl _ _).alloc (Nat.le_refl _) o)

end Go.Proofs.YtegefbndpkbooaaDoor.Code

