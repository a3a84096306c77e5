/- Slices of structs of integers as arguments: opened. -/
import Derived.ProofKit
import Derived.OpenShut
import Derived.Below
import Derived.Deep.Slices
import Derived.Deep.Fields
import Derived.Test.YtegefbndpkbooaaDoorArgs
set_option linter.unusedVariables false
namespace Go.Proofs.YtegefbndpkbooaaDoor.Args
open Go.ChangeShapes Go.WideShapes Go.RowKit Go.Deep

/-- The fields are integers of these kinds. -/
def kindsOf (P : Program) (fs : Array Field) (ks : List IntKind) : Bool := (List.range fs.size).all fun i => match fs[i]?, ks[i]? with
  | some f, some k => (match P.underlying f.type with | some (.int k') => decide (k' = k) | _ => false)
  | _, _ => false
theorem kind_of {P : Program} {fs : Array Field} {ks : List IntKind} (h : kindsOf P fs ks = true) (i : Nat) (f : Field) (k : IntKind) (hf : fs[i]? = some f) (hk : ks[i]? = some k) : P.underlying f.type = some (.int k) := by
  have hi : i < fs.size := (Array.getElem?_eq_some_iff.1 hf).1
  have := List.all_eq_true.1 h i (List.mem_range.2 hi)
  simp only [hf, hk] at this
  split at this
  · rename_i k' e
    rw [e, of_decide_eq_true this]
  · cases this

/-- A slice of structs of integers: its numbers by index and field. -/
structure Recs (w : World) (ks : List IntKind) (p : Option Addr) (n cap : Nat) (F : Nat → Nat → Int) : Prop where
  le : n ≤ cap
  max : cap ≤ maxLen
  cells : n = 0 ∨ ∃ b off, p = some ⟨b, off, none⟩ ∧ b < w.heap.size ∧ ∀ i, i < n → ∀ j k, ks[j]? = some k → w.cell? ⟨b, off + (i * ks.length + j), none⟩ = some (.int k (F i j)) ∧ (Lit.int k (F i j)).wf = true

theorem open_recs {H : Type} {enc : TypeId × Value → H} {P : Program} {w : World} {base : Nat} {t e : TypeId} {fs : Array Field} {ks : List IntKind} {r : Reach} {b0 : Nat} {v : Value} {d : DataW H} {ps : List MemPlace}
    (ht : P.underlying t = some (.slice e)) (he : P.underlying e = some (.struct fs)) (hone : oneCellFields P fs = true) (hk : kindsOf P fs ks = true) (hC : P.cellsOf e = fs.size) (hl : ks.length = fs.size) (h0 : 0 < fs.size)
    (hv : Value.okWide P w r b0 t v) (h : DataW.Trod enc P w base (fun _ => true) true t v d ps) :
    ∃ p n cap F, v = .slice p n cap ∧ Recs w ks p n cap F := by
  obtain ⟨p, n, cap, rfl⟩ := okWide_slice ht hv
  obtain ⟨fuel, hf⟩ := h
  rcases open_slice ht hf with ⟨hcs, hx⟩ | ⟨a, len', cap', m, nn, D, Pl, hcs, _, hle, hm, hmm, hx, hel⟩
  · simp [Value.cells] at hcs
    obtain ⟨rfl, rfl, rfl⟩ := hcs
    exact ⟨_, _, _, fun _ _ => 0, rfl, ⟨by omega, by simp, .inl rfl⟩⟩
  · simp [Value.cells] at hcs
    obtain ⟨rfl, rfl, rfl⟩ := hcs
    simp only [if_true] at hmm
    subst hmm
    refine ⟨_, _, _, fun i j => match w.cell? (a.add (i * ks.length + j)) with | some v => intOf v | none => 0, rfl, ⟨hle, hm, ?_⟩⟩
    by_cases hn : n = 0
    · exact .inl hn
    right
    have key : ∀ i, i < n → ∀ j k, ks[j]? = some k → ∃ z, w.cell? (a.add (i * ks.length + j)) = some (.int k z) ∧ (Lit.int k z).wf = true := by
      intro i hi j k hj
      have hjl : j < ks.length := (List.getElem?_eq_some_iff.1 hj).1
      obtain ⟨cs', h1, h2⟩ := hel i (by omega)
      obtain ⟨_, hlen, hcell⟩ := World.cells?_some h1
      obtain ⟨xs, n', _, _, _, hxl, hfld⟩ := DataW.trod_struct he h2
      have hg : fs[j]? = some fs[j] := Array.getElem?_eq_getElem (by omega)
      obtain ⟨o, c⟩ := hone_of hone j _ hg
      have h3 := hfld j _ hg
      rw [List.getElem?_eq_getElem (by omega)] at h3
      obtain ⟨z, e1, e2, e3⟩ := DataW.trod_int (kind_of hk j _ k hg hj) h3
      refine ⟨z, ?_, e3⟩
      rw [o, c] at e1
      have e4 := congrArg (·[0]?) e1
      have e5 : cs'[j]? = some (.int k z) := by simpa [List.getElem?_take, List.getElem?_drop] using e4
      have := hcell j (by omega)
      rw [e5, add_add, hC, ← hl] at this
      exact this
    obtain ⟨b, off, spot⟩ := a
    have hspot : spot = none := by
      obtain ⟨k, hk0⟩ : ∃ k, ks[0]? = some k := ⟨ks[0], List.getElem?_eq_getElem (by omega)⟩
      obtain ⟨z, hz, _⟩ := key 0 (by omega) 0 k hk0
      simpa [Addr.add] using World.cell?_spot hz
    subst hspot
    have cell : ∀ i, i < n → ∀ j k, ks[j]? = some k → ∃ z, w.cell? ⟨b, off + (i * ks.length + j), none⟩ = some (.int k z) ∧ (Lit.int k z).wf = true := fun i hi j k hj => by
      obtain ⟨z, h1, h2⟩ := key i hi j k hj
      exact ⟨z, by rw [← add_plain]; exact h1, h2⟩
    refine ⟨b, off, rfl, ?_, fun i hi j k hj => ?_⟩
    · obtain ⟨k, hk0⟩ : ∃ k, ks[0]? = some k := ⟨ks[0], List.getElem?_eq_getElem (by omega)⟩
      obtain ⟨z, hz, _⟩ := cell 0 (by omega) 0 k hk0
      exact cell_lt hz
    · obtain ⟨z, hz, hw⟩ := cell i hi j k hj
      have e : (match w.cell? ((⟨b, off, none⟩ : Addr).add (i * ks.length + j)) with | some v => intOf v | none => 0) = z := by
        rw [add_plain, hz]; rfl
      rw [e]
      exact ⟨hz, hw⟩

end Go.Proofs.YtegefbndpkbooaaDoor.Args

