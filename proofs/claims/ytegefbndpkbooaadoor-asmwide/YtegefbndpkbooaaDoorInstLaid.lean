/- The tables that the rows list: what they say of a world; and a world that holds them. -/
import Derived.Test.YtegefbndpkbooaaDoorRows
import Derived.Test.YtegefbndpkbooaaDoorStructs
import Derived.Test.YtegefbndpkbooaaDoorInstWalks
import Derived.Lib.LaidTab
import Derived.LaidSub
set_option linter.unusedVariables false
namespace Go.Proofs.YtegefbndpkbooaaDoor.Inst
open Go.ChangeShapes Go.WideShapes Go.ChangeAt Go.RowKit

theorem gFac : Tryd.prog.globalNamed "remontoire/imm.factors" = some 2 := by kernel_rfl
theorem gFacType : (Tryd.prog.globals[2]?).map (·.type) = some 100 := by kernel_rfl
theorem gShs : Tryd.prog.globalNamed "remontoire/inst.formShapes" = some 1 := by kernel_rfl
theorem gShsType : (Tryd.prog.globals[1]?).map (·.type) = some 91 := by kernel_rfl
theorem cellsFac : Tryd.prog.cellsOf 100 = 4 := by kernel_rfl
theorem cellsU32 : Tryd.prog.cellsOf 59 = 1 := by kernel_rfl
theorem cellsShs : Tryd.prog.cellsOf 91 = 101 := by kernel_rfl
theorem cellsShp : Tryd.prog.cellsOf 81 = 1 := by kernel_rfl

theorem tabFac {W : World} (h : laidMetH Tryd.prog [("remontoire/imm.factors", Rows.laid_remontoire_imm_factors)] W) : Lib.TabIs Tryd.prog W "remontoire/imm.factors" .u32 [1, 65537, 16777472, 16843009] :=
  Lib.tabIs_of_head (rest := []) gFac gFacType Tryd.underlying100 Tryd.underlying59 cellsU32 cellsFac h
theorem shs_data : (Rows.laid_remontoire_inst_formShapes : DataW Unit) = Lib.tabData .i64 shpL := by kernel_rfl
theorem tabShs {W : World} (h : laidMetH Tryd.prog [("remontoire/inst.formShapes", Rows.laid_remontoire_inst_formShapes)] W) : Lib.TabIs Tryd.prog W "remontoire/inst.formShapes" .i64 shpL := by
  rw [shs_data] at h
  exact Lib.tabIs_of_head (rest := []) gShs gShsType Tryd.underlying91 Tryd.underlying81 cellsShp cellsShs h
theorem shpL_len : shpL.length = 101 := by decide +kernel

theorem laid_parts {W : World} (hf : laidMetH Tryd.prog [("remontoire/imm.factors", Rows.laid_remontoire_imm_factors)] W) (hs : laidMetH Tryd.prog [("remontoire/inst.formShapes", Rows.laid_remontoire_inst_formShapes)] W) : Laid W :=
  ⟨⟨(tabFac hf).cell gFac 0 (by decide), (tabFac hf).cell gFac 1 (by decide), (tabFac hf).cell gFac 2 (by decide), (tabFac hf).cell gFac 3 (by decide)⟩,
    fun i hi => (tabShs hs).cell gShs i (by rw [shpL_len]; omega)⟩

theorem laid_of {W : World} (h : laidMetH Tryd.prog [("remontoire/imm.factors", Rows.laid_remontoire_imm_factors), ("remontoire/inst.formShapes", Rows.laid_remontoire_inst_formShapes)] W) : Laid W := by
  have h1 := h.filter fun x => x.1 == "remontoire/imm.factors"
  have h2 := h.filter fun x => x.1 == "remontoire/inst.formShapes"
  have e1 : ([("remontoire/imm.factors", Rows.laid_remontoire_imm_factors), ("remontoire/inst.formShapes", Rows.laid_remontoire_inst_formShapes)] : List (String × DataW Unit)).filter (fun x => x.1 == "remontoire/imm.factors") = [("remontoire/imm.factors", Rows.laid_remontoire_imm_factors)] := by kernel_rfl
  have e2 : ([("remontoire/imm.factors", Rows.laid_remontoire_imm_factors), ("remontoire/inst.formShapes", Rows.laid_remontoire_inst_formShapes)] : List (String × DataW Unit)).filter (fun x => x.1 == "remontoire/inst.formShapes") = [("remontoire/inst.formShapes", Rows.laid_remontoire_inst_formShapes)] := by kernel_rfl
  rw [e1] at h1
  rw [e2] at h2
  exact laid_parts h1 h2

/-- The forms' words, by their bytes, from form 0 on. -/
def wordL : List (List UInt8) := [[], [108, 115, 108, 115], [108, 115, 114, 115], [97, 115, 114, 115], [97, 100, 100, 115], [115, 117, 98, 115], [97, 100, 100, 115], [115, 117, 98, 115], [109, 111, 118, 115], [99, 109, 112], [97, 100, 100, 115], [115, 117, 98, 115], [97, 110, 100, 115], [101, 111, 114, 115], [108, 115, 108, 115], [108, 115, 114, 115], [97, 115, 114, 115], [97, 100, 99, 115], [115, 98, 99, 115], [114, 111, 114, 115], [116, 115, 116], [114, 115, 98, 115], [99, 109, 112], [99, 109, 110], [111, 114, 114, 115], [109, 117, 108, 115], [98, 105, 99, 115], [109, 118, 110, 115], [97, 100, 100], [99, 109, 112], [109, 111, 118], [98, 120], [108, 100, 114], [115, 116, 114], [108, 100, 114], [115, 116, 114], [108, 100, 114], [115, 116, 114], [108, 100, 114], [97, 100, 100], [97, 100, 100], [115, 117, 98], [112, 117, 115, 104], [112, 111, 112], [110, 111, 112], [98, 107, 112, 116], [98], [98], [109, 111, 118, 119], [109, 111, 118, 116], [97, 110, 100, 46, 119], [98, 105, 99, 46, 119], [111, 114, 114, 46, 119], [111, 114, 110, 46, 119], [101, 111, 114, 46, 119], [97, 100, 100, 46, 119], [97, 100, 99, 46, 119], [115, 98, 99, 46, 119], [115, 117, 98, 46, 119], [114, 115, 98, 46, 119], [109, 111, 118, 46, 119], [109, 118, 110, 46, 119], [116, 115, 116, 46, 119], [116, 101, 113, 46, 119], [99, 109, 110, 46, 119], [99, 109, 112, 46, 119], [97, 110, 100, 46, 119], [98, 105, 99, 46, 119], [111, 114, 114, 46, 119], [111, 114, 110, 46, 119], [101, 111, 114, 46, 119], [97, 100, 100, 46, 119], [97, 100, 99, 46, 119], [115, 98, 99, 46, 119], [115, 117, 98, 46, 119], [114, 115, 98, 46, 119], [109, 111, 118, 46, 119], [109, 118, 110, 46, 119], [116, 115, 116, 46, 119], [116, 101, 113, 46, 119], [99, 109, 110, 46, 119], [99, 109, 112, 46, 119], [97, 100, 100, 119], [115, 117, 98, 119], [115, 116, 114, 46, 119], [108, 100, 114, 46, 119], [115, 116, 114, 46, 119], [108, 100, 114, 46, 119], [108, 115, 108, 46, 119], [108, 115, 114, 46, 119], [97, 115, 114, 46, 119], [114, 111, 114, 46, 119], [109, 117, 108], [109, 108, 97], [109, 108, 115], [117, 109, 117, 108, 108], [117, 109, 108, 97, 108], [117, 100, 105, 118], [99, 108, 122], [98, 46, 119], [98, 46, 119]]

def put (cs : Array Value) : Obj → Obj
  | .cells _ t frozen => .cells cs t frozen
  | o => o

/-! ### An instruction as an argument -/
theorem drew_below (w : World) : Below w.heap.size w w.drew := ⟨rfl, rfl, rfl, Nat.le_refl _, fun _ _ => rfl⟩
/-- What lies in the block of a call's own argument lies there behind its callees. -/
theorem box_of {w w2 : World} {cs : Array Value} {t : TypeId} {k : Nat} {v : Value} (hb : Below (w.alloc (.cells cs t)).heap.size (w.alloc (.cells cs t)) w2) (h : cs[k]? = some v) : w2.cell? ⟨w.heap.size, k, none⟩ = some v := by
  exact (hb.cell (p := ⟨w.heap.size, k, none⟩) (by simp)).trans ((World.cell?_alloc_mark w cs t (0, 0) k).trans h)

theorem cellsInst : Tryd.prog.cellsOf 36 = 11 := by kernel_rfl
theorem laidOut : laidOutB Tryd.prog = true := by kernel_rfl

set_option maxRecDepth 100000 in
theorem open_inst {H : Type} {enc : TypeId × Value → H} {w : World} {base : Nat} {spare : Nat → Bool} {held : Bool} {r : Reach} {b0 : Nat} {v : Value} {d : DataW H} {p : List MemPlace}
    (hv : Value.okWide Tryd.prog w r b0 36 v) (h : DataW.Trod enc Tryd.prog w base spare held 36 v d p) :
    ∃ f rd rn rm ra im kd bs st cd rg : Int, v = .agg #[.int .i64 f, .int .i64 rd, .int .i64 rn, .int .i64 rm, .int .i64 ra, .int .i64 im, .int .i64 kd, .int .i64 bs, .int .i64 st, .int .i64 cd, .int .i64 rg] ∧
      d = .agg [.lit (.int .i64 f), .lit (.int .i64 rd), .lit (.int .i64 rn), .lit (.int .i64 rm), .lit (.int .i64 ra), .lit (.int .i64 im), .lit (.int .i64 kd), .lit (.int .i64 bs), .lit (.int .i64 st), .lit (.int .i64 cd), .lit (.int .i64 rg)] ∧ p = [] ∧
      ∀ z ∈ [f, rd, rn, rm, ra, im, kd, bs, st, cd, rg], (Lit.int .i64 z).wf = true := by
  obtain ⟨zs, hl, rfl, rfl, rfl, hw⟩ := Structs.open_ints Tryd.underlying36 (by kernel_rfl) (by kernel_rfl) cellsInst hv h
  obtain ⟨f, rd, rn, rm, ra, im, kd, bs, st, cd, rg, rfl⟩ := Structs.list11 hl
  exact ⟨f, rd, rn, rm, ra, im, kd, bs, st, cd, rg, rfl, rfl, rfl, hw⟩

end Go.Proofs.YtegefbndpkbooaaDoor.Inst

