/- Rows of numbers in the heap. No function of the program is walked here. -/
import Derived.Test.YtegefbndpkbooaaDoorInsBase
import Derived.WalkKit
import Derived.Laws.CopyOwn
import Derived.Deep.OwnRows
set_option linter.unusedVariables false
namespace Go.Proofs.YtegefbndpkbooaaDoor.Asm
open Go.RowKit Go.Proofs.YtegefbndpkbooaaDoor.Core

/-- A row of n numbers. -/
def row (n : Nat) (f : Nat → Int) : Array Value := ((List.range n).map fun i => Value.int .i64 (f i)).toArray
theorem row_size (n : Nat) (f : Nat → Int) : (row n f).size = n := by simp [row]
theorem row_get (n : Nat) (f : Nat → Int) (i : Nat) (h : i < n) : (row n f)[i]? = some (.int .i64 (f i)) := by simp [row, h]
theorem row_ext (n : Nat) (f : Nat → Int) (a : Array Value) (hs : a.size = n) (h : ∀ i, i < n → a[i]? = some (.int .i64 (f i))) : a = row n f := by
  apply Array.ext
  · rw [row_size, hs]
  · intro i h1 h2
    have e1 := h i (by omega)
    have e2 := row_get n f i (by omega)
    rw [Array.getElem?_eq_getElem h1] at e1
    rw [Array.getElem?_eq_getElem h2] at e2
    exact Option.some.inj (e1.trans e2.symm)
/-- One of them is another one. -/
def put (f : Nat → Int) (i : Nat) (x : Int) : Nat → Int := fun j => if j = i then x else f j
theorem put_same (f : Nat → Int) (i : Nat) (x : Int) : put f i x i = x := if_pos rfl
theorem put_other (f : Nat → Int) (i : Nat) (x : Int) {j : Nat} (h : j ≠ i) : put f i x j = f j := if_neg h
theorem row_put (n : Nat) (f : Nat → Int) (i : Nat) (x : Int) : (row n f).setIfInBounds i (.int .i64 x) = row n (put f i x) := by
  refine row_ext n _ _ (by simp [row_size]) (fun j hj => ?_)
  rw [Array.getElem?_setIfInBounds, row_size]
  by_cases h : i = j
  · subst h; simp [hj, put]
  · rw [if_neg h, row_get n f j hj]; simp [put, show ¬ j = i from fun e => h e.symm]
theorem row_same (n : Nat) (f g : Nat → Int) (h : ∀ i, i < n → f i = g i) : row n f = row n g :=
  row_ext n g _ (row_size n f) (fun i hi => by rw [row_get n f i hi, h i hi])
theorem made_row (n : Nat) : madeCells #[.int .i64 0] n = row n (fun _ => 0) := by
  refine row_ext n _ _ (size_madeCells _ _) (fun i hi => ?_)
  simp [madeCells, hi, Nat.mod_one]

/-- Block g is a row. -/
def Rw (w : World) (g n : Nat) (f : Nat → Int) : Prop := w.heap[g]? = some (.cells (row n f) 3 (0, 0))
section
variable {w w' : World} {g n : Nat} {f : Nat → Int}
theorem lt_of_block {o : Obj} (h : w.heap[g]? = some o) : g < w.heap.size := (Array.getElem?_eq_some_iff.1 h).1
theorem free_block {c : Array Value} {t : TypeId} (h : w.heap[g]? = some (.cells c t (0, 0))) (i : Nat) : w.frozen? ⟨g, i, none⟩ = false := by simp [World.frozen?, h]
theorem set_block {c : Array Value} {t : TypeId} (i : Nat) (v : Value) (h : w.heap[g]? = some (.cells c t (0, 0))) : (w.setCell ⟨g, i, none⟩ v).heap[g]? = some (.cells (c.setIfInBounds i v) t (0, 0)) := by
  simp [World.setCell, Array.getElem?_modify, h]
theorem Rw.lt (h : Rw w g n f) : g < w.heap.size := lt_of_block h
theorem Rw.cell (h : Rw w g n f) (i : Nat) (hi : i < n) : w.cell? ⟨g, i, none⟩ = some (.int .i64 (f i)) := by simp [World.cell?, show w.heap[g]? = _ from h, row_get n f i hi]
theorem Rw.free (h : Rw w g n f) (i : Nat) : w.frozen? ⟨g, i, none⟩ = false := free_block h i
theorem Rw.below (h : Rw w g n f) (hb : Below w.heap.size w w') : Rw w' g n f := (hb.block g h.lt).trans h
theorem Rw.belowN {m : Nat} (h : Rw w g n f) (hb : Below m w w') (hg : g < m) : Rw w' g n f := (hb.block g hg).trans h
theorem Rw.off {S : List Nat} (h : Rw w g n f) (o : Off S w w') (hg : g ∉ S) : Rw w' g n f := (o.block g h.lt hg).trans h
theorem Rw.alloc (h : Rw w g n f) (o : Obj) : Rw (w.alloc o) g n f := h.below ((Below.refl _ _).alloc (Nat.le_refl _) o)
theorem Rw.set (h : Rw w g n f) (i : Nat) (x : Int) : Rw (w.setCell ⟨g, i, none⟩ (.int .i64 x)) g n (put f i x) := by
  show (w.setCell ⟨g, i, none⟩ (.int .i64 x)).heap[g]? = _
  rw [set_block i _ h, row_put]
theorem Rw.other (h : Rw w g n f) {p : Addr} (v : Value) (hp : p.block ≠ g) : Rw (w.setCell p v) g n f := (Below.heap_setCell _ _ _ _ (fun e => hp e.symm)).trans h
theorem Rw.same {f' : Nat → Int} (h : Rw w g n f) (he : ∀ i, i < n → f i = f' i) : Rw w g n f' := by
  show w.heap[g]? = _
  rw [← row_same n f f' he]; exact h
end
theorem infoI : (Tryd.prog.info? 3).map (fun i => (i.zero, i.size, i.bytes)) = some (some (.int .i64 0), 1, 8) := by kernel_rfl
theorem make_int (n : Nat) (hn : n ≤ 1000000) (w : World) : (Instr.makeSlice 28 (.int .i64 (n : Int)) (.int .i64 (n : Int))).run Tryd.prog w = .ok (.slice (some ⟨w.heap.size, 0, none⟩) n n) (w.alloc (.cells (row n (fun _ => 0)) 3)) := by
  rw [← made_row]
  exact run_make_row' (P := Tryd.prog) 28 3 (.int .i64 0) 8 Tryd.underlying28 infoI rfl .i64 .i64 n (by omega) (by omega) w
end Go.Proofs.YtegefbndpkbooaaDoor.Asm

