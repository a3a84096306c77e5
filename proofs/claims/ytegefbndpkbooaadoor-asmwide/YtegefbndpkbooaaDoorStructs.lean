/- A struct whose fields are integers of kind int, by value: opened into its numbers. -/
import Derived.ProofKit
import Derived.Deep.Fields
import Derived.LoopTactic
set_option linter.unusedVariables false
namespace Go.Proofs.YtegefbndpkbooaaDoor.Structs
open Go.ChangeShapes Go.WideShapes Go.RowKit Go.Deep

def intFields (P : Program) (fs : Array Field) : Bool := (List.range fs.size).all fun i => match fs[i]? with
  | some f => (match P.underlying f.type with | some (.int .i64) => true | _ => false)
  | none => true

theorem int_of {P : Program} {fs : Array Field} (h : intFields P fs = true) (i : Nat) (f : Field) (hf : fs[i]? = some f) : P.underlying f.type = some (.int .i64) := by
  have hi : i < fs.size := by
    rcases Nat.lt_or_ge i fs.size with h' | h'
    · exact h'
    · rw [Array.getElem?_eq_none h'] at hf; cases hf
  have := List.all_eq_true.1 h i (List.mem_range.2 hi)
  simp only [hf] at this
  split at this
  · assumption
  · cases this

theorem open_ints {H : Type} {enc : TypeId × Value → H} {P : Program} {w : World} {base : Nat} {spare : Nat → Bool} {held : Bool} {r : Reach} {b0 : Nat} {t : TypeId} {fs : Array Field} {v : Value} {d : DataW H} {p : List MemPlace}
    (hs : P.underlying t = some (.struct fs)) (hone : oneCellFields P fs = true) (hint : intFields P fs = true) (hC : P.cellsOf t = fs.size)
    (hv : Value.okWide P w r b0 t v) (h : DataW.Trod enc P w base spare held t v d p) :
    ∃ zs : List Int, zs.length = fs.size ∧ v = .agg (zs.map (Value.int .i64)).toArray ∧ d = .agg (zs.map fun z => .lit (.int .i64 z)) ∧ p = [] ∧ ∀ z ∈ zs, (Lit.int .i64 z).wf = true := by
  obtain ⟨cs, rfl, hsz⟩ := okWide_struct hs hv
  obtain ⟨fuel, hf⟩ := h
  obtain ⟨xs, n, _, hx, hl, hlen, hfld⟩ := DataW.trod_struct hs hf
  rw [hC] at hsz
  have key : ∀ i, i < fs.size → ∃ z, cs[i]? = some (.int .i64 z) ∧ xs[i]? = some (.lit (.int .i64 z), []) ∧ (Lit.int .i64 z).wf = true := by
    intro i hi
    have hg : fs[i]? = some fs[i] := Array.getElem?_eq_getElem hi
    obtain ⟨o, c⟩ := hone_of hone i _ hg
    have h1 := hfld i _ hg
    have hxs : xs[i]? = some xs[i] := List.getElem?_eq_getElem (by omega)
    rw [hxs] at h1
    obtain ⟨z, e1, e2, e3⟩ := DataW.trod_int (int_of hint i _ hg) h1
    rw [o, c] at e1
    refine ⟨z, ?_, by rw [hxs, e2], e3⟩
    have := congrArg (·[0]?) e1
    simpa [Value.cells, List.getElem?_take, List.getElem?_drop] using this
  refine ⟨cs.toList.map intOf, by simp [hsz], ?_, ?_, ?_, ?_⟩
  · congr 1
    apply Array.ext_getElem?
    intro i
    by_cases hi : i < fs.size
    · obtain ⟨z, e, _, _⟩ := key i hi
      simp [e, intOf]
    · rw [Array.getElem?_eq_none (by omega), Array.getElem?_eq_none (by simp; omega)]
  · have hd := congrArg Prod.fst hx
    simp only at hd
    rw [hd]
    congr 1
    apply List.ext_getElem?
    intro i
    by_cases hi : i < fs.size
    · obtain ⟨z, e, e', _⟩ := key i hi
      simp [e, e', intOf]
    · rw [List.getElem?_eq_none (by simp; omega), List.getElem?_eq_none (by simp; omega)]
  · have hp := congrArg Prod.snd hx
    simp only at hp
    rw [hp, List.flatMap_eq_nil_iff]
    intro y hy
    obtain ⟨i, hi, rfl⟩ := List.mem_iff_getElem.1 hy
    obtain ⟨z, _, e', _⟩ := key i (by omega)
    rw [List.getElem?_eq_getElem hi, Option.some.injEq] at e'
    rw [e']
  · intro z hz
    obtain ⟨v, hv', rfl⟩ := List.mem_map.1 hz
    obtain ⟨i, hi, rfl⟩ := List.mem_iff_getElem.1 hv'
    have hi' : i < cs.size := by simpa using hi
    obtain ⟨z, e, _, e3⟩ := key i (by omega)
    rw [Array.getElem?_eq_getElem hi', Option.some.injEq] at e
    have e' : cs.toList[i] = .int .i64 z := by simpa using e
    rw [e']; exact e3

theorem list11 {α : Type} {l : List α} (h : l.length = 11) : ∃ a b c d e f g i j k m, l = [a, b, c, d, e, f, g, i, j, k, m] := by
  match l, h with
  | [a, b, c, d, e, f, g, i, j, k, m], _ => exact ⟨a, b, c, d, e, f, g, i, j, k, m, rfl⟩

end Go.Proofs.YtegefbndpkbooaaDoor.Structs

