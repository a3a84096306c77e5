/- The table of signs, as the rows list it: its cells; and a world that holds it. -/
import Derived.Test.YtimiglepogeeiaaDoorRows
import Derived.Test.YtimiglepogeeiaaDoorLexSign
import Derived.Lib.LaidTab
set_option linter.unusedVariables false
set_option linter.unusedSimpArgs false
namespace Go.Proofs.YtimiglepogeeiaaDoor.Lex
open Go.ChangeShapes Go.WideShapes Go.RowKit

/-- An array of strings, as it reads. -/
def strD {H : Type} (L : List (List UInt8)) : DataW H := .agg (L.map fun l => .lit (.string l))
theorem cells_of_strs {H : Type} {enc : TypeId × Value → H} {P : Program} {w : World} {base : Nat} {sp : Nat → Bool} {held : Bool} {fuel : Nat} {t e : TypeId} {n : Nat} {cs : List Value} {zs : List (List UInt8)} {p : List MemPlace}
    (ht : P.underlying t = some (.array n e)) (he : P.underlying e = some .string) (hce : P.cellsOf e = 1) (hct : P.cellsOf t = n)
    (h : DataW.trod enc P w base sp held fuel t cs = some (strD zs, p)) : cs = zs.map fun z => Value.string (S z) := by
  cases fuel with
  | zero => simp [DataW.trod] at h
  | succ fuel =>
    simp only [DataW.trod, ht, hce, hct, Nat.mul_one] at h
    split at h
    · rename_i hl
      obtain ⟨xs, hm, hx⟩ := Option.map_eq_some_iff.1 h
      have hxs : xs.map (·.1) = zs.map fun z => (DataW.lit (.string z) : DataW H) := by
        have := congrArg Prod.fst hx
        simpa [strD] using this
      have hxl : xs.length = n := by simpa using Lib.mapM_length hm
      have hzl : zs.length = n := by
        have := congrArg List.length hxs
        simp at this
        omega
      apply List.ext_getElem?
      intro i
      by_cases hi : i < n
      · obtain ⟨b, hb, hf⟩ := Lib.mapM_at hm i i (by simp [hi])
        obtain ⟨z, hc, rfl, _⟩ := DataW.trod_string he hf
        have h1 : cs[i]? = some (.string z) := by
          have := congrArg (·[0]?) hc
          simpa [List.getElem?_take, List.getElem?_drop] using this
        have h2 : (xs.map (·.1))[i]? = some (DataW.lit (.string z.data.toList) : DataW H) := by simp [hb]
        rw [hxs] at h2
        simp only [List.getElem?_map, Option.map_eq_some_iff, DataW.lit.injEq, Lit.string.injEq] at h2
        obtain ⟨z', hz', hzz⟩ := h2
        subst hzz
        rw [h1, List.getElem?_map, hz']
        rfl
      · rw [List.getElem?_eq_none (by omega), List.getElem?_eq_none (by simp; omega)]
    · cases h

theorem gSig : Tryd.prog.globalNamed "remontoire/lex.signs" = some 0 := by kernel_rfl
theorem gSigType : (Tryd.prog.globals[0]?).map (·.type) = some 97 := by kernel_rfl
theorem cellsSig : Tryd.prog.cellsOf 97 = 26 := by kernel_rfl
theorem cellsStr : Tryd.prog.cellsOf 9 = 1 := by kernel_rfl
theorem sig_data : (Rows.laid_remontoire_lex_signs : DataW Unit) = strD signs := by kernel_rfl

/-- What the rows' list says of a world. -/
abbrev Laid (w : World) : Prop := Sig w

theorem laid_of {W : World} (h : laidMetH Tryd.prog [("remontoire/lex.signs", Rows.laid_remontoire_lex_signs)] W) : Laid W := by
  rw [sig_data] at h
  obtain ⟨ps, ⟨g', t', cs, fuel, p, q, hg', ht', hvar, hd, _, _⟩, _⟩ := h
  obtain rfl := Option.some.inj (gSig.symm.trans hg')
  obtain rfl := Option.some.inj (gSigType.symm.trans ht')
  have hcs := cells_of_strs Tryd.underlying97 Tryd.underlying9 cellsStr cellsSig hd
  intro j v hv
  have hlen : j < signs.length := by
    have := (List.getElem?_eq_some_iff.1 hv).1
    simpa [sgA] using this
  have hv2 : Value.string (S (signs.getD j [])) = v := by
    simp [sgA, List.getD, List.getElem?_eq_getElem hlen] at hv ⊢
    exact hv
  rw [Nat.zero_add, ← hv2]
  have hx : W.var? Tryd.prog "remontoire/lex.signs" = some (signs.map fun z => Value.string (S z)).toArray := by rw [hvar, ← hcs, Array.toArray_toList]
  rw [World.var?_cell gSig hx j]
  simp [List.getD, List.getElem?_eq_getElem hlen]

/-- A world for the witness: the settled one, the table holding what its initialiser lays. -/
def laidWorld (P : Program) (os : Os) : World :=
  { World.holding P os ⟨#[], #[], []⟩ with heap := (World.holding P os ⟨#[], #[], []⟩).heap.modify 0 fun
      | .cells _ t frozen => .cells (sgA signs) t frozen
      | o => o }

end Go.Proofs.YtimiglepogeeiaaDoor.Lex

