/- The four tables that the row of InstForms lists: what they say of a world. -/
import Derived.Test.YtpenfolhaiiidaaDoorInstLaid
import Derived.Test.YtpenfolhaiiidaaDoorInstForm
set_option linter.unusedVariables false
namespace Go.Proofs.YtpenfolhaiiidaaDoor.InstF
open Go.ChangeShapes Go.WideShapes Go.ChangeAt Go.RowKit Go.Proofs.YtpenfolhaiiidaaDoor.Inst

theorem gBts : Tryd.prog.globalNamed "remontoire/inst.formBits" = some 1 := by kernel_rfl
theorem gBtsType : (Tryd.prog.globals[1]?).map (·.type) = some 45 := by kernel_rfl
theorem cellsBts : Tryd.prog.cellsOf 45 = 101 := by kernel_rfl
theorem gWds : Tryd.prog.globalNamed "remontoire/inst.formWords" = some 2 := by kernel_rfl
theorem gWdsType : (Tryd.prog.globals[2]?).map (·.type) = some 47 := by kernel_rfl
theorem cellsWds : Tryd.prog.cellsOf 47 = 101 := by kernel_rfl
theorem cellsStr : Tryd.prog.cellsOf 9 = 1 := by kernel_rfl

theorem bts_data : (Rows.laid_remontoire_inst_formBits : DataW Unit) = Lib.tabData .u32 bitL := by kernel_rfl
theorem tabBts {W : World} (h : laidMetH Tryd.prog [("remontoire/inst.formBits", Rows.laid_remontoire_inst_formBits)] W) : Lib.TabIs Tryd.prog W "remontoire/inst.formBits" .u32 bitL := by
  rw [bts_data] at h
  exact Lib.tabIs_of_head (rest := []) gBts gBtsType Tryd.underlying45 Tryd.underlying27 cellsU32 cellsBts h
theorem bitL_len : bitL.length = 101 := by decide +kernel

theorem wds_data : (Rows.laid_remontoire_inst_formWords : DataW Unit) = .agg (wordL.map fun s => .lit (.string s)) := by kernel_rfl

/-- An array of texts that reads as the table holds at each place a text of just those bytes. -/
theorem cells_of_words {H : Type} {enc : TypeId × Value → H} {P : Program} {w : World} {base : Nat} {sp : Nat → Bool} {held : Bool} {fuel : Nat} {t e : TypeId} {n : Nat} {cs : List Value} {ws : List (List UInt8)} {p : List MemPlace}
    (ht : P.underlying t = some (.array n e)) (he : P.underlying e = some .string) (hce : P.cellsOf e = 1) (hct : P.cellsOf t = n)
    (h : DataW.trod enc P w base sp held fuel t cs = some (.agg (ws.map fun s => .lit (.string s)), p)) (i : Nat) (hi : i < n) : ∃ s : ByteArray, cs[i]? = some (.string s) ∧ ws[i]? = some s.data.toList := by
  cases fuel with
  | zero => simp [DataW.trod] at h
  | succ fuel =>
    simp only [DataW.trod, ht, hce, hct, Nat.mul_one] at h
    split at h
    · obtain ⟨xs, hm, hx⟩ := Option.map_eq_some_iff.1 h
      have hxs : xs.map (·.1) = ws.map fun s => (DataW.lit (.string s) : DataW H) := by
        have := congrArg Prod.fst hx
        simpa using this
      obtain ⟨b, hb, hf⟩ := Lib.mapM_at hm i i (by simp [hi])
      obtain ⟨s, hc, rfl, _⟩ := DataW.trod_string he hf
      refine ⟨s, ?_, ?_⟩
      · have := congrArg (·[0]?) hc
        simpa [List.getElem?_take, List.getElem?_drop] using this
      · have h2 : (xs.map (·.1))[i]? = some (DataW.lit (.string s.data.toList) : DataW H) := by simp [hb]
        rw [hxs] at h2
        simp only [List.getElem?_map, Option.map_eq_some_iff, DataW.lit.injEq, Lit.string.injEq] at h2
        obtain ⟨z, hz, rfl⟩ := h2
        exact hz
    · cases h

theorem word_fin : ∀ i : Fin 101, 0 < i.val → wordL[i.val]? ≠ some [] := by decide +kernel

theorem words_of {W : World} (h : laidMetH Tryd.prog [("remontoire/inst.formWords", Rows.laid_remontoire_inst_formWords)] W) : Wds W := by
  rw [wds_data] at h
  obtain ⟨ps, ⟨g', t', cs, fuel, p, q, hg', ht', hvar, hd, _, _⟩, _⟩ := (h : laidMet Tryd.prog _ W)
  obtain rfl := Option.some.inj (gWds.symm.trans hg')
  obtain rfl := Option.some.inj (gWdsType.symm.trans ht')
  intro i hi1 hi2
  obtain ⟨s, hs, hw⟩ := cells_of_words Tryd.underlying47 Tryd.underlying9 cellsStr cellsWds hd i (by omega)
  refine ⟨s, ?_, ?_⟩
  · have := World.var?_cell gWds hvar i
    rw [this]
    simpa using hs
  · rintro rfl
    exact word_fin ⟨i, by omega⟩ (by show 0 < i; omega) hw

/-- What the row's list says of a world. -/
structure Laid (w : World) : Prop where
  two : Inst.Laid w
  bits : Bts w
  words : Wds w

theorem laid_of {W : World} (h : laidMetH Tryd.prog [("remontoire/imm.factors", Rows.laid_remontoire_imm_factors), ("remontoire/inst.formShapes", Rows.laid_remontoire_inst_formShapes), ("remontoire/inst.formWords", Rows.laid_remontoire_inst_formWords), ("remontoire/inst.formBits", Rows.laid_remontoire_inst_formBits)] W) : Laid W := by
  have h1 := h.filter fun x => x.1 == "remontoire/imm.factors"
  have h2 := h.filter fun x => x.1 == "remontoire/inst.formShapes"
  have h3 := h.filter fun x => x.1 == "remontoire/inst.formWords"
  have h4 := h.filter fun x => x.1 == "remontoire/inst.formBits"
  rw [show List.filter (fun x => x.1 == "remontoire/imm.factors") ([("remontoire/imm.factors", Rows.laid_remontoire_imm_factors), ("remontoire/inst.formShapes", Rows.laid_remontoire_inst_formShapes), ("remontoire/inst.formWords", Rows.laid_remontoire_inst_formWords), ("remontoire/inst.formBits", Rows.laid_remontoire_inst_formBits)] : List (String × DataW Unit)) = [("remontoire/imm.factors", Rows.laid_remontoire_imm_factors)] by kernel_rfl] at h1
  rw [show List.filter (fun x => x.1 == "remontoire/inst.formShapes") ([("remontoire/imm.factors", Rows.laid_remontoire_imm_factors), ("remontoire/inst.formShapes", Rows.laid_remontoire_inst_formShapes), ("remontoire/inst.formWords", Rows.laid_remontoire_inst_formWords), ("remontoire/inst.formBits", Rows.laid_remontoire_inst_formBits)] : List (String × DataW Unit)) = [("remontoire/inst.formShapes", Rows.laid_remontoire_inst_formShapes)] by kernel_rfl] at h2
  rw [show List.filter (fun x => x.1 == "remontoire/inst.formWords") ([("remontoire/imm.factors", Rows.laid_remontoire_imm_factors), ("remontoire/inst.formShapes", Rows.laid_remontoire_inst_formShapes), ("remontoire/inst.formWords", Rows.laid_remontoire_inst_formWords), ("remontoire/inst.formBits", Rows.laid_remontoire_inst_formBits)] : List (String × DataW Unit)) = [("remontoire/inst.formWords", Rows.laid_remontoire_inst_formWords)] by kernel_rfl] at h3
  rw [show List.filter (fun x => x.1 == "remontoire/inst.formBits") ([("remontoire/imm.factors", Rows.laid_remontoire_imm_factors), ("remontoire/inst.formShapes", Rows.laid_remontoire_inst_formShapes), ("remontoire/inst.formWords", Rows.laid_remontoire_inst_formWords), ("remontoire/inst.formBits", Rows.laid_remontoire_inst_formBits)] : List (String × DataW Unit)) = [("remontoire/inst.formBits", Rows.laid_remontoire_inst_formBits)] by kernel_rfl] at h4
  exact ⟨laid_parts h1 h2, fun i hi => (tabBts h4).cell gBts i (by rw [bitL_len]; omega), words_of h3⟩

def laidWorld (P : Program) (os : Os) : World := Inst.laidWorld P os

theorem below_bts {w w' : World} (h : Bts w) (hb : Below w.heap.size w w') : Bts w' := fun i hi => (hb.cell (p := ⟨1, i, none⟩) (cell_lt (h 0 (by omega)))).trans (h i hi)
theorem below_wds {w w' : World} (h : Wds w) (hb : Below w.heap.size w w') : Wds w' := fun i h1 h2 => by
  obtain ⟨s, hc, hs⟩ := h i h1 h2
  exact ⟨s, (hb.cell (p := ⟨2, i, none⟩) (cell_lt hc)).trans hc, hs⟩
theorem Laid.below {w w' : World} (h : Laid w) (hb : Below w.heap.size w w') : Laid w' := ⟨h.two.below hb, below_bts h.bits hb, below_wds h.words hb⟩

end Go.Proofs.YtpenfolhaiiidaaDoor.InstF
