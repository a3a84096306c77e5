/- A step: package core. -/
import Derived.Test.YtfdnjoieolijcaaGreatDoorCoreComp
import Derived.Test.YtfdnjoieolijcaaGreatDoorCoreAt
import Derived.Test.YtfdnjoieolijcaaGreatDoorCoreMemOp
set_option linter.unusedVariables false
namespace Go.Proofs.YtfdnjoieolijcaaGreatDoor.Core
open Go.RowKit Go.Proofs.YtfdnjoieolijcaaGreatDoor.Mem Go.Proofs.YtfdnjoieolijcaaGreatDoor.Alu

/-- A form that goes to memory. -/
def toMem (f : Int) : Bool := f == 32 || f == 34 || f == 36 || f == 38 || f == 85 || f == 87 || f == 33 || f == 35 || f == 37 || f == 84 || f == 86 || f == 42 || f == 43

set_option maxHeartbeats 2000000 in
theorem execute_comp {w : World} {B : Nat} {W : Wo} (h : Wk w B W) (hL : Inst.Laid w) (hB : NoTab B) (ok : Ok W) (hne : W.i.f = 95 ∨ W.i.f = 96 → W.i.rd ≠ W.i.ra) (hm : toMem W.i.f = false) :
    Calls Tryz.prog 74 #[.pointer (some ⟨B, 0, none⟩)] w fun e w' => e = .returned (.int .i64 0) ∧ Wk w' B (compW W) ∧ Off [B] w w' := by
  have cf := h.cf
  have HN := hide hne
  clear hne
  simp only [toMem, Bool.or_eq_false_iff, beq_eq_false_iff_ne, ne_eq] at hm
  obtain ⟨⟨⟨⟨⟨⟨⟨⟨⟨⟨⟨⟨a1, a2⟩, a3⟩, a4⟩, a5⟩, a6⟩, a7⟩, a8⟩, a9⟩, a10⟩, a11⟩, a12⟩, a13⟩ := hm
  go_enter Tryz.func74, Tryz.ntmps74
  go_wp2_with fail
  refine (compute_any h hL hB ok (unhide HN)).mono ?_
  rintro e w1 ⟨rfl, h1, o1⟩
  go_wp2_with fail
  go_ret
  exact ⟨rfl, h1, o1⟩

/-- A machine. -/
structure Mc where
  m : Nat
  wait : Int
  s : St
  fl : Bool
  l : Int
  cy : Int
  hk : Int
  hc : Int
def mcc (M : Mc) : Array Value := #[.pointer (some ⟨M.m, 0, none⟩), .int .i64 M.wait, .int .u32 (M.s.R 0), .int .u32 (M.s.R 1), .int .u32 (M.s.R 2), .int .u32 (M.s.R 3), .int .u32 (M.s.R 4), .int .u32 (M.s.R 5), .int .u32 (M.s.R 6), .int .u32 (M.s.R 7), .int .u32 (M.s.R 8), .int .u32 (M.s.R 9), .int .u32 (M.s.R 10), .int .u32 (M.s.R 11), .int .u32 (M.s.R 12), .int .u32 (M.s.R 13), .int .u32 (M.s.R 14), .int .u32 (M.s.R 15), .int .u32 M.s.n, .int .u32 M.s.z, .int .u32 M.s.c, .int .u32 M.s.v,
  .bool M.fl, .int .u32 M.l, .int .i64 M.cy, .int .i64 M.hk, .int .i64 M.hc]
def Mx (w : World) (C : Nat) (M : Mc) : Prop := w.heap[C]? = some (.cells (mcc M) 95 (0, 0))
theorem Mx.cell {w : World} {C : Nat} {M : Mc} (h : Mx w C M) {k : Nat} {v : Value} (hk : (mcc M)[k]? = some v) : w.cell? ⟨C, k, none⟩ = some v := by simp [World.cell?, show w.heap[C]? = _ from h, hk]
theorem Mx.free {w : World} {C : Nat} {M : Mc} (h : Mx w C M) (i : Nat) : w.frozen? ⟨C, i, none⟩ = false := free_row h i
theorem Mx.lt {w : World} {C : Nat} {M : Mc} (h : Mx w C M) : C < w.heap.size := lt_of_heap h
theorem Mx.off {w w' : World} {C : Nat} {M : Mc} (h : Mx w C M) {S : List Nat} (ho : Off S w w') (hC : C ∉ S) : Mx w' C M := (ho.block C h.lt hC).trans h
theorem Mx.below {w w' : World} {C : Nat} {M : Mc} (h : Mx w C M) (hb : Below w.heap.size w w') : Mx w' C M := (hb.block C h.lt).trans h
theorem Mx.set {w : World} {C : Nat} {M M' : Mc} (h : Mx w C M) {k : Nat} {v : Value} (e : (mcc M).setIfInBounds k v = mcc M') : Mx (w.setCell ⟨C, k, none⟩ v) C M' := by
  show (w.setCell ⟨C, k, none⟩ v).heap[C]? = _
  rw [setRam_heap w k v h, e]
theorem Mx.range {w : World} {C : Nat} {M : Mc} (h : Mx w C M) : w.rangeAt C 2 (stv M.s).toList := fun j v hv => by
  have hj : j < (stv M.s).toList.length := (List.getElem?_eq_some_iff.1 hv).1
  refine h.cell ?_
  rw [← Array.getElem?_toList, show (mcc M).toList = [.pointer (some ⟨M.m, 0, none⟩), .int .i64 M.wait] ++ (stv M.s).toList ++ [.bool M.fl, .int .u32 M.l, .int .i64 M.cy, .int .i64 M.hk, .int .i64 M.hc] from rfl, List.getElem?_append_left (by simp at hj ⊢; omega), List.getElem?_append_right (by simp)]
  simpa using hv

end Go.Proofs.YtfdnjoieolijcaaGreatDoor.Core

