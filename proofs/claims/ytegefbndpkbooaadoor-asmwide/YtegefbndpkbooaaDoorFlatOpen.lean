/- Structs of integers, with structs of integers among their fields: opened, by value and in slices. -/
import Derived.ProofKit
import Derived.OpenShut
import Derived.Below
import Derived.Deep.Slices
import Derived.Deep.Fields
import Derived.Test.YtegefbndpkbooaaDoorArgs
import Derived.Test.YtegefbndpkbooaaDoorRecs
set_option linter.unusedVariables false
namespace Go.Proofs.YtegefbndpkbooaaDoor.Args
open Go.ChangeShapes Go.WideShapes Go.RowKit Go.Deep

/-- All n cells of a type are integers of kind int. -/
def Flat (P : Program) (t : TypeId) (n : Nat) : Prop :=
  P.cellsOf t = n ∧ ∀ {H : Type} {enc : TypeId × Value → H} {w : World} {base : Nat} {spare : Nat → Bool} {held : Bool} {fuel : Nat} {cs : List Value} {x : DataW H × List MemPlace},
    DataW.trod enc P w base spare held fuel t cs = some x → x.2 = [] ∧ ∀ q, q < n → ∃ z, cs[q]? = some (.int .i64 z) ∧ (Lit.int .i64 z).wf = true

theorem flat_int {P : Program} {t : TypeId} (h : P.underlying t = some (.int .i64)) (hc : P.cellsOf t = 1) : Flat P t 1 := by
  refine ⟨hc, fun {H enc w base spare held fuel cs x} hx => ?_⟩
  obtain ⟨d, p⟩ := x
  obtain ⟨z, e1, e2, e3⟩ := DataW.trod_int h hx
  injection e2 with e2a e2b
  refine ⟨e2b, fun q hq => ⟨z, ?_, e3⟩⟩
  obtain rfl : q = 0 := by omega
  have := congrArg (·[0]?) e1
  simpa using this

/-- The fields of a struct, each with how many cells it has. -/
theorem flat_struct {P : Program} {t : TypeId} {fs : Array Field} {n : Nat} (h : P.underlying t = some (.struct fs)) (hc : P.cellsOf t = n) (M : Nat → Nat)
    (hf : ∀ i f, fs[i]? = some f → Flat P f.type (M i)) (ho : ∀ q, q < n → ∃ i f, fs[i]? = some f ∧ f.offset ≤ q ∧ q < f.offset + M i) : Flat P t n := by
  refine ⟨hc, fun {H enc w base spare held fuel cs x} hx => ?_⟩
  obtain ⟨xs, m, _, he, hl, hlen, hfld⟩ := DataW.trod_struct h hx
  have hsome : ∀ i f, fs[i]? = some f → ∃ y, xs[i]? = some y ∧ y.2 = [] ∧ ∀ q, q < M i → ∃ z, cs[f.offset + q]? = some (.int .i64 z) ∧ (Lit.int .i64 z).wf = true := by
    intro i f hi
    have hi' : i < fs.size := (Array.getElem?_eq_some_iff.1 hi).1
    have h1 := hfld i f hi
    have hxs : xs[i]? = some xs[i] := List.getElem?_eq_getElem (by omega)
    rw [hxs] at h1
    obtain ⟨hp, hq⟩ := (hf i f hi).2 h1
    refine ⟨_, hxs, hp, fun q hqm => ?_⟩
    obtain ⟨z, e, hw⟩ := hq q hqm
    rw [List.getElem?_take, List.getElem?_drop] at e
    split at e
    · exact ⟨z, e, hw⟩
    · cases e
  refine ⟨?_, fun q hq => ?_⟩
  · have hp := congrArg Prod.snd he
    simp only at hp
    rw [hp, List.flatMap_eq_nil_iff]
    intro y hy
    obtain ⟨i, hi, rfl⟩ := List.mem_iff_getElem.1 hy
    obtain ⟨y', e, e2, _⟩ := hsome i _ (Array.getElem?_eq_getElem (by omega))
    rw [List.getElem?_eq_getElem hi, Option.some.injEq] at e
    rw [e]; exact e2
  · obtain ⟨i, f, hi, h1, h2⟩ := ho q hq
    obtain ⟨_, _, _, hz⟩ := hsome i f hi
    obtain ⟨z, e, hw⟩ := hz (q - f.offset) (by omega)
    rw [show f.offset + (q - f.offset) = q by omega] at e
    exact ⟨z, e, hw⟩

/-- By value. -/
theorem open_flat {H : Type} {enc : TypeId × Value → H} {P : Program} {w : World} {base : Nat} {spare : Nat → Bool} {held : Bool} {r : Reach} {b0 : Nat} {t : TypeId} {fs : Array Field} {n : Nat} {v : Value} {d : DataW H} {p : List MemPlace}
    (hs : P.underlying t = some (.struct fs)) (hF : Flat P t n) (hv : Value.okWide P w r b0 t v) (h : DataW.Trod enc P w base spare held t v d p) :
    ∃ z : Nat → Int, v = .agg ((List.range n).map fun i => Value.int .i64 (z i)).toArray ∧ p = [] ∧ ∀ i, i < n → (Lit.int .i64 (z i)).wf = true := by
  obtain ⟨cs, rfl, hsz⟩ := okWide_struct hs hv
  obtain ⟨fuel, hf⟩ := h
  obtain ⟨hp, hq⟩ := hF.2 hf
  rw [hF.1] at hsz
  have key : ∀ q, q < n → ∃ z, cs[q]? = some (.int .i64 z) ∧ (Lit.int .i64 z).wf = true := fun q hqn => by
    obtain ⟨z, e, hw⟩ := hq q hqn
    exact ⟨z, by simpa [Value.cells] using e, hw⟩
  refine ⟨fun q => match cs[q]? with | some v => intOf v | none => 0, ?_, hp, fun q hqn => ?_⟩
  · congr 1
    apply Array.ext_getElem?
    intro q
    by_cases hqn : q < n
    · obtain ⟨z, e, _⟩ := key q hqn
      simp [e, intOf, hqn]
    · rw [Array.getElem?_eq_none (by omega), Array.getElem?_eq_none (by simp; omega)]
  · obtain ⟨z, e, hw⟩ := key q hqn
    simp only [e]
    exact hw

/-- In slices. -/
theorem open_flats {H : Type} {enc : TypeId × Value → H} {P : Program} {w : World} {base : Nat} {t e : TypeId} {N : Nat} {ks : List IntKind} {r : Reach} {b0 : Nat} {v : Value} {d : DataW H} {ps : List MemPlace}
    (ht : P.underlying t = some (.slice e)) (hF : Flat P e N) (hk : ks = List.replicate N .i64) (h0 : 0 < N)
    (hv : Value.okWide P w r b0 t v) (h : DataW.Trod enc P w base (fun _ => true) true t v d ps) :
    ∃ p n cap F, v = .slice p n cap ∧ Recs w ks p n cap F := by
  obtain ⟨p, n, cap, rfl⟩ := okWide_slice ht hv
  obtain ⟨fuel, hf⟩ := h
  have hl : ks.length = N := by rw [hk]; simp
  have hget : ∀ j k, ks[j]? = some k → k = .i64 ∧ j < N := by
    intro j k hj
    rw [hk, List.getElem?_replicate] at hj
    split at hj
    · exact ⟨(Option.some.inj hj).symm, by assumption⟩
    · cases hj
  rcases open_slice ht hf with ⟨hcs, hx⟩ | ⟨a, len', cap', m, nn, D, Pl, hcs, _, hle, hm, hmm, hx, hel⟩
  · simp [Value.cells] at hcs
    obtain ⟨rfl, rfl, rfl⟩ := hcs
    exact ⟨_, _, _, fun _ _ => 0, rfl, ⟨by omega, by simp, .inl rfl⟩⟩
  · simp [Value.cells] at hcs
    obtain ⟨rfl, rfl, rfl⟩ := hcs
    simp only [if_true] at hmm
    subst hmm
    refine ⟨_, _, _, fun i j => match w.cell? (a.add (i * ks.length + j)) with | some v => intOf v | none => 0, rfl, ⟨hle, hm, ?_⟩⟩
    by_cases hn : n = 0
    · exact .inl hn
    right
    have key : ∀ i, i < n → ∀ j k, ks[j]? = some k → ∃ z, w.cell? (a.add (i * ks.length + j)) = some (.int k z) ∧ (Lit.int k z).wf = true := by
      intro i hi j k hj
      obtain ⟨rfl, hjN⟩ := hget j k hj
      obtain ⟨cs', h1, h2⟩ := hel i (by omega)
      obtain ⟨_, hlen, hcell⟩ := World.cells?_some h1
      obtain ⟨z, e5, e3⟩ := (hF.2 h2).2 j hjN
      refine ⟨z, ?_, e3⟩
      have := hcell j (by rw [hF.1]; omega)
      rw [e5, add_add, hF.1, ← hl] at this
      exact this
    obtain ⟨b, off, spot⟩ := a
    have hk0 : ks[0]? = some .i64 := by rw [hk, List.getElem?_replicate, if_pos h0]
    have hspot : spot = none := by
      obtain ⟨z, hz, _⟩ := key 0 (by omega) 0 .i64 hk0
      simpa [Addr.add] using World.cell?_spot hz
    subst hspot
    have cell : ∀ i, i < n → ∀ j k, ks[j]? = some k → ∃ z, w.cell? ⟨b, off + (i * ks.length + j), none⟩ = some (.int k z) ∧ (Lit.int k z).wf = true := fun i hi j k hj => by
      obtain ⟨z, h1, h2⟩ := key i hi j k hj
      exact ⟨z, by rw [← add_plain]; exact h1, h2⟩
    refine ⟨b, off, rfl, ?_, fun i hi j k hj => ?_⟩
    · obtain ⟨z, hz, _⟩ := cell 0 (by omega) 0 .i64 hk0
      exact cell_lt hz
    · obtain ⟨z, hz, hw⟩ := cell i hi j k hj
      have e : (match w.cell? ((⟨b, off, none⟩ : Addr).add (i * ks.length + j)) with | some v => intOf v | none => 0) = z := by
        rw [add_plain, hz]; rfl
      rw [e]
      exact ⟨hz, hw⟩

end Go.Proofs.YtegefbndpkbooaaDoor.Args

