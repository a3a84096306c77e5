/- A state as an argument, by value: opened into its registers and flags. -/
import Derived.Test.YtkkhofoaolgapaaGreatDoorCoreBits
import Derived.ProofKit
import Derived.Deep.Fields
import Derived.LoopTactic
import Derived.OpenShut
set_option linter.unusedVariables false
namespace Go.Proofs.YtkkhofoaolgapaaGreatDoor.Core
open Go.ChangeShapes Go.WideShapes Go.RowKit Go.Deep Go.Proofs.YtkkhofoaolgapaaGreatDoor.Mem

theorem cells_st : Tryz.prog.cellsOf 27 = 20 := by kernel_rfl
theorem cells_r16 : Tryz.prog.cellsOf 25 = 16 := by kernel_rfl
theorem cells_u32 : Tryz.prog.cellsOf 24 = 1 := by kernel_rfl
/-- One cell of a list. -/
def valAt (cs : Array Value) (q : Nat) : Int := match cs[q]? with | some v => intOf v | none => 0
def stOf (cs : Array Value) : St := ⟨fun k => if k < 16 then valAt cs k else 0, valAt cs 16, valAt cs 17, valAt cs 18, valAt cs 19⟩

/-- A state's numbers are words. -/
structure Word1 (s : St) : Prop where
  r : ∀ k, 0 ≤ s.R k ∧ s.R k < 4294967296
  n : 0 ≤ s.n ∧ s.n < 4294967296
  z : 0 ≤ s.z ∧ s.z < 4294967296
  c : 0 ≤ s.c ∧ s.c < 4294967296
  v : 0 ≤ s.v ∧ s.v < 4294967296

set_option maxRecDepth 100000 in
theorem open_state {H : Type} {enc : TypeId × Value → H} {w : World} {base : Nat} {spare : Nat → Bool} {held : Bool} {r : Reach} {b0 : Nat} {v : Value} {d : DataW H} {p : List MemPlace}
    (hv : Value.okWide Tryz.prog w r b0 27 v) (h : DataW.Trod enc Tryz.prog w base spare held 27 v d p) :
    ∃ s : St, v = .agg (stv s) ∧ p = [] ∧ Word1 s := by
  obtain ⟨cs, rfl, hsz⟩ := okWide_struct Tryz.underlying27 hv
  obtain ⟨fuel, hf⟩ := h
  obtain ⟨xs, n, _, hx, hl, hlen, hfld⟩ := DataW.trod_struct Tryz.underlying27 hf
  rw [cells_st] at hsz
  have hlen' : xs.length = 5 := hlen
  have hg : ∀ i, i < 5 → ∃ x, xs[i]? = some x := fun i hi => ⟨xs[i], List.getElem?_eq_getElem (by omega)⟩
  -- the array
  obtain ⟨x0, g0⟩ := hg 0 (by decide)
  have t0 : DataW.trod enc Tryz.prog w base spare held n 25 (((Value.agg cs).cells.toList.drop 0).take (Tryz.prog.cellsOf 25)) = xs[0]? := hfld 0 _ rfl
  rw [g0] at t0
  obtain ⟨ys, m, _, hy, _, hyl, hye⟩ := DataW.trod_array Tryz.underlying25 t0
  have k0 : ∀ q, q < 16 → ∃ z, cs[q]? = some (.int .u32 z) ∧ (Lit.int .u32 z).wf = true ∧ ys[q]? = some (.lit (.int .u32 z), []) := by
    intro q hq
    have t := hye q hq
    rw [List.getElem?_eq_getElem (by omega)] at t
    obtain ⟨z, e1, e2, e3⟩ := DataW.trod_int Tryz.underlying24 t
    refine ⟨z, ?_, e3, by rw [List.getElem?_eq_getElem (by omega), e2]⟩
    rw [cells_u32, cells_r16] at e1
    have := congrArg (·[0]?) e1
    simpa [Value.cells, List.getElem?_take, List.getElem?_drop, hq] using this
  have k1 : ∀ i, 1 ≤ i → i < 5 → ∃ z, cs[15 + i]? = some (.int .u32 z) ∧ (Lit.int .u32 z).wf = true ∧ xs[i]? = some (.lit (.int .u32 z), []) := by
    intro i h1 h5
    obtain ⟨x, g⟩ := hg i h5
    rcases (show i = 1 ∨ i = 2 ∨ i = 3 ∨ i = 4 by omega) with rfl | rfl | rfl | rfl
    · have t : DataW.trod enc Tryz.prog w base spare held n 24 (((Value.agg cs).cells.toList.drop 16).take (Tryz.prog.cellsOf 24)) = xs[1]? := hfld 1 _ rfl
      rw [g] at t
      obtain ⟨z, e1, e2, e3⟩ := DataW.trod_int Tryz.underlying24 t
      refine ⟨z, ?_, e3, by rw [g, e2]⟩
      rw [cells_u32] at e1
      have := congrArg (·[0]?) e1
      simpa [Value.cells, List.getElem?_take, List.getElem?_drop] using this
    · have t : DataW.trod enc Tryz.prog w base spare held n 24 (((Value.agg cs).cells.toList.drop 17).take (Tryz.prog.cellsOf 24)) = xs[2]? := hfld 2 _ rfl
      rw [g] at t
      obtain ⟨z, e1, e2, e3⟩ := DataW.trod_int Tryz.underlying24 t
      refine ⟨z, ?_, e3, by rw [g, e2]⟩
      rw [cells_u32] at e1
      have := congrArg (·[0]?) e1
      simpa [Value.cells, List.getElem?_take, List.getElem?_drop] using this
    · have t : DataW.trod enc Tryz.prog w base spare held n 24 (((Value.agg cs).cells.toList.drop 18).take (Tryz.prog.cellsOf 24)) = xs[3]? := hfld 3 _ rfl
      rw [g] at t
      obtain ⟨z, e1, e2, e3⟩ := DataW.trod_int Tryz.underlying24 t
      refine ⟨z, ?_, e3, by rw [g, e2]⟩
      rw [cells_u32] at e1
      have := congrArg (·[0]?) e1
      simpa [Value.cells, List.getElem?_take, List.getElem?_drop] using this
    · have t : DataW.trod enc Tryz.prog w base spare held n 24 (((Value.agg cs).cells.toList.drop 19).take (Tryz.prog.cellsOf 24)) = xs[4]? := hfld 4 _ rfl
      rw [g] at t
      obtain ⟨z, e1, e2, e3⟩ := DataW.trod_int Tryz.underlying24 t
      refine ⟨z, ?_, e3, by rw [g, e2]⟩
      rw [cells_u32] at e1
      have := congrArg (·[0]?) e1
      simpa [Value.cells, List.getElem?_take, List.getElem?_drop] using this
  have key : ∀ q, q < 20 → ∃ z, cs[q]? = some (.int .u32 z) ∧ (Lit.int .u32 z).wf = true := by
    intro q hq
    by_cases h16 : q < 16
    · obtain ⟨z, a, b, _⟩ := k0 q h16; exact ⟨z, a, b⟩
    · obtain ⟨z, a, b, _⟩ := k1 (q - 15) (by omega) (by omega)
      rw [show 15 + (q - 15) = q by omega] at a
      exact ⟨z, a, b⟩
  have kv : ∀ q, q < 20 → cs[q]? = some (.int .u32 (valAt cs q)) ∧ 0 ≤ valAt cs q ∧ valAt cs q < 4294967296 := by
    intro q hq
    obtain ⟨z, a, b⟩ := key q hq
    have e : valAt cs q = z := by unfold valAt; rw [a]; rfl
    rw [e]
    have := bounds_u32 b
    exact ⟨a, by omega, by omega⟩
  refine ⟨stOf cs, ?_, ?_, ⟨?_, (kv 16 (by decide)).2, (kv 17 (by decide)).2, (kv 18 (by decide)).2, (kv 19 (by decide)).2⟩⟩
  · congr 1
    apply Array.ext_getElem?
    intro q
    by_cases hq : q < 20
    · rw [(kv q hq).1]
      rcases (show q = 0 ∨ q = 1 ∨ q = 2 ∨ q = 3 ∨ q = 4 ∨ q = 5 ∨ q = 6 ∨ q = 7 ∨ q = 8 ∨ q = 9 ∨ q = 10 ∨ q = 11 ∨ q = 12 ∨ q = 13 ∨ q = 14 ∨ q = 15 ∨ q = 16 ∨ q = 17 ∨ q = 18 ∨ q = 19 by omega) with rfl | rfl | rfl | rfl | rfl | rfl | rfl | rfl | rfl | rfl | rfl | rfl | rfl | rfl | rfl | rfl | rfl | rfl | rfl | rfl <;> rfl
    · rw [Array.getElem?_eq_none (by omega), Array.getElem?_eq_none (show (stv (stOf cs)).size ≤ q from by show 20 ≤ q; omega)]
  · have hp := congrArg Prod.snd hx
    simp only at hp
    rw [hp, List.flatMap_eq_nil_iff]
    intro y hy'
    obtain ⟨i, hi, rfl⟩ := List.mem_iff_getElem.1 hy'
    by_cases h0 : i = 0
    · subst h0
      rw [List.getElem?_eq_getElem hi, Option.some.injEq] at g0
      rw [g0, hy]
      show ys.flatMap (·.2) = []
      rw [List.flatMap_eq_nil_iff]
      intro u hu
      obtain ⟨j, hj, rfl⟩ := List.mem_iff_getElem.1 hu
      obtain ⟨z, _, _, e⟩ := k0 j (by omega)
      rw [List.getElem?_eq_getElem hj, Option.some.injEq] at e
      rw [e]
    · obtain ⟨z, _, _, e⟩ := k1 i (by omega) (by omega)
      rw [List.getElem?_eq_getElem hi, Option.some.injEq] at e
      rw [e]
  · intro k
    show 0 ≤ (if k < 16 then valAt cs k else 0) ∧ (if k < 16 then valAt cs k else 0) < 4294967296
    split
    · exact (kv k (by omega)).2
    · omega
end Go.Proofs.YtkkhofoaolgapaaGreatDoor.Core

