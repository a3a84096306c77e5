/- A memory in the heap: its box, its flash and its RAM, as rows of numbers by index. No function of the program is walked here. -/
import Derived.Test.YtiidicldbcabaaaChecked
import Derived.WalkKit
import Derived.Below
import Derived.Laws.CopyOwn
import Derived.Deep.OwnRows
set_option linter.unusedVariables false
namespace Go.Proofs.Ytiidicldbcabaaa.Mem
open Go.RowKit

/-- A row of n numbers of one kind. -/
def row (k : IntKind) (n : Nat) (f : Nat → Int) : Array Value := ((List.range n).map fun i => Value.int k (f i)).toArray
theorem row_size (k : IntKind) (n : Nat) (f : Nat → Int) : (row k n f).size = n := by simp [row]
theorem row_get (k : IntKind) (n : Nat) (f : Nat → Int) (i : Nat) (h : i < n) : (row k n f)[i]? = some (.int k (f i)) := by simp [row, h]
theorem row_list (k : IntKind) (n : Nat) (f : Nat → Int) : (row k n f).toList = (List.range n).map fun i => Value.int k (f i) := by simp [row]
theorem row_ext (k : IntKind) (n : Nat) (f : Nat → Int) (a : Array Value) (hs : a.size = n) (h : ∀ i, i < n → a[i]? = some (.int k (f i))) : a = row k n f := by
  apply Array.ext
  · rw [row_size, hs]
  · intro i h1 h2
    have e1 := h i (by omega)
    have e2 := row_get k n f i (by omega)
    rw [Array.getElem?_eq_getElem h1] at e1
    rw [Array.getElem?_eq_getElem h2] at e2
    exact Option.some.inj (e1.trans e2.symm)
/-- One of them is another one. -/
def put (f : Nat → Int) (i : Nat) (x : Int) : Nat → Int := fun j => if j = i then x else f j
theorem row_put (k : IntKind) (n : Nat) (f : Nat → Int) (i : Nat) (x : Int) : (row k n f).setIfInBounds i (.int k x) = row k n (put f i x) := by
  refine row_ext k n _ _ (by simp [row_size]) (fun j hj => ?_)
  rw [Array.getElem?_setIfInBounds, row_size]
  by_cases h : i = j
  · subst h; simp [hj, put]
  · rw [if_neg h, row_get k n f j hj]; simp [put, show ¬ j = i from fun e => h e.symm]
theorem row_same (k : IntKind) (n : Nat) (f g : Nat → Int) (h : ∀ i, i < n → f i = g i) : row k n f = row k n g :=
  row_ext k n g _ (row_size k n f) (fun i hi => by rw [row_get k n f i hi, h i hi])
theorem made_row (k : IntKind) (n : Nat) : madeCells #[.int k 0] n = row k n (fun _ => 0) := by
  refine row_ext k n _ _ (size_madeCells _ _) (fun i hi => ?_)
  simp [madeCells, hi, Nat.mod_one]

/-- A slice's first n numbers. -/
def Sl (w : World) (k : IntKind) (p : Option Addr) (n : Nat) (f : Nat → Int) : Prop :=
  n = 0 ∨ ∃ b off, p = some ⟨b, off, none⟩ ∧ b < w.heap.size ∧ ∀ i, i < n → w.cell? ⟨b, off + i, none⟩ = some (.int k (f i))
theorem Sl.zero (w : World) (k : IntKind) (p : Option Addr) (f : Nat → Int) : Sl w k p 0 f := .inl rfl
theorem Sl.below {w w' : World} {k : IntKind} {p : Option Addr} {n : Nat} {f : Nat → Int} (h : Sl w k p n f) (hb : Below w.heap.size w w') : Sl w' k p n f := by
  rcases h with h | ⟨b, off, rfl, hlt, hc⟩
  · exact .inl h
  · exact .inr ⟨b, off, rfl, Nat.lt_of_lt_of_le hlt hb.size, fun i hi => (hb.cell (p := ⟨b, off + i, none⟩) hlt).trans (hc i hi)⟩

/-- Block B is a memory's box: its flash is block F, of n bytes f, its RAM block R, of the words g. -/
structure Is (w : World) (B F R n : Nat) (f g : Nat → Int) : Prop where
  box : w.heap[B]? = some (.cells #[.slice (some ⟨F, 0, none⟩) n n, .slice (some ⟨R, 0, none⟩) 16384 16384] 58 (0, 0))
  fl : w.heap[F]? = some (.cells (row .u8 n f) 5 (0, 0))
  ram : w.heap[R]? = some (.cells (row .u32 16384 g) 33 (0, 0))

theorem lt_of_heap {w : World} {b : Nat} {o : Obj} (h : w.heap[b]? = some o) : b < w.heap.size := (Array.getElem?_eq_some_iff.1 h).1
theorem cell_row {w : World} {b n : Nat} {k : IntKind} {f : Nat → Int} {t : TypeId} {fr : Nat × Nat} (h : w.heap[b]? = some (.cells (row k n f) t fr)) (i : Nat) (hi : i < n) : w.cell? ⟨b, i, none⟩ = some (.int k (f i)) := by
  simp [World.cell?, h, row_get k n f i hi]
theorem free_row {w : World} {b : Nat} {c : Array Value} {t : TypeId} (h : w.heap[b]? = some (.cells c t (0, 0))) (i : Nat) : w.frozen? ⟨b, i, none⟩ = false := by simp [World.frozen?, h]

section
variable {w w' : World} {B F R n : Nat} {f g : Nat → Int}
theorem Is.ltB (h : Is w B F R n f g) : B < w.heap.size := lt_of_heap h.box
theorem Is.ltF (h : Is w B F R n f g) : F < w.heap.size := lt_of_heap h.fl
theorem Is.ltR (h : Is w B F R n f g) : R < w.heap.size := lt_of_heap h.ram
theorem Is.c0 (h : Is w B F R n f g) : w.cell? ⟨B, 0, none⟩ = some (.slice (some ⟨F, 0, none⟩) n n) := by simp [World.cell?, h.box]
theorem Is.c1 (h : Is w B F R n f g) : w.cell? ⟨B, 1, none⟩ = some (.slice (some ⟨R, 0, none⟩) 16384 16384) := by simp [World.cell?, h.box]
theorem Is.cf (h : Is w B F R n f g) (i : Nat) (hi : i < n) : w.cell? ⟨F, i, none⟩ = some (.int .u8 (f i)) := cell_row h.fl i hi
theorem Is.cr (h : Is w B F R n f g) (i : Nat) (hi : i < 16384) : w.cell? ⟨R, i, none⟩ = some (.int .u32 (g i)) := cell_row h.ram i hi
theorem Is.free (h : Is w B F R n f g) (i : Nat) : w.frozen? ⟨R, i, none⟩ = false := free_row h.ram i
theorem Is.kept (h : Is w B F R n f g) (hB : w'.heap[B]? = w.heap[B]?) (hF : w'.heap[F]? = w.heap[F]?) (hR : w'.heap[R]? = w.heap[R]?) : Is w' B F R n f g :=
  ⟨hB.trans h.box, hF.trans h.fl, hR.trans h.ram⟩
theorem Is.below (h : Is w B F R n f g) (hb : Below w.heap.size w w') : Is w' B F R n f g := h.kept (hb.block _ h.ltB) (hb.block _ h.ltF) (hb.block _ h.ltR)
theorem Is.below' {m : Nat} (h : Is w B F R n f g) (hb : Below m w w') (h1 : B < m) (h2 : F < m) (h3 : R < m) : Is w' B F R n f g := h.kept (hb.block _ h1) (hb.block _ h2) (hb.block _ h3)
theorem Is.alloc (h : Is w B F R n f g) (o : Obj) : Is (w.alloc o) B F R n f g := h.below ((Below.refl _ w).alloc (Nat.le_refl _) o)
/-- Blocks of other element types are other blocks. -/
theorem Is.apart (h : Is w B F R n f g) : B ≠ F ∧ B ≠ R ∧ F ≠ R := by
  refine ⟨fun e => ?_, fun e => ?_, fun e => ?_⟩
  · have := h.box; rw [e, h.fl] at this; simp at this
  · have := h.box; rw [e, h.ram] at this; simp at this
  · have := h.fl; rw [e, h.ram] at this; simp at this
theorem setRam_heap {c : Array Value} {t : TypeId} {b : Nat} (w : World) (i : Nat) (v : Value) (h : w.heap[b]? = some (.cells c t (0, 0))) : (w.setCell ⟨b, i, none⟩ v).heap[b]? = some (.cells (c.setIfInBounds i v) t (0, 0)) := by
  simp [World.setCell, Array.getElem?_modify, h]
theorem Is.store (h : Is w B F R n f g) (i : Nat) (x : Int) : Is (w.setCell ⟨R, i, none⟩ (.int .u32 x)) B F R n f (put g i x) := by
  obtain ⟨a1, a2, a3⟩ := h.apart
  refine ⟨?_, ?_, ?_⟩
  · rw [Below.heap_setCell _ _ _ _ (show B ≠ R from a2)]; exact h.box
  · rw [Below.heap_setCell _ _ _ _ (show F ≠ R from a3)]; exact h.fl
  · rw [setRam_heap w i _ h.ram, row_put]
/-- A store into another block's cell. -/
theorem Is.other (h : Is w B F R n f g) {p : Addr} (v : Value) (h1 : p.block ≠ B) (h2 : p.block ≠ F) (h3 : p.block ≠ R) : Is (w.setCell p v) B F R n f g :=
  h.kept (Below.heap_setCell _ _ _ _ (fun e => h1 e.symm)) (Below.heap_setCell _ _ _ _ (fun e => h2 e.symm)) (Below.heap_setCell _ _ _ _ (fun e => h3 e.symm))
end

theorem infoU8 : (Try.prog.info? 5).map (fun i => (i.zero, i.size, i.bytes)) = some (some (.int .u8 0), 1, 1) := by kernel_rfl
theorem infoU32 : (Try.prog.info? 33).map (fun i => (i.zero, i.size, i.bytes)) = some (some (.int .u32 0), 1, 4) := by kernel_rfl

theorem make_u8 (n : Nat) (hn : n ≤ 1000000) (w : World) : (Instr.makeSlice 22 (.int .i64 (n : Int)) (.int .i64 (n : Int))).run Try.prog w = .ok (.slice (some ⟨w.heap.size, 0, none⟩) n n) (w.alloc (.cells (row .u8 n (fun _ => 0)) 5)) := by
  rw [← made_row]
  exact run_make_row' (P := Try.prog) 22 5 (.int .u8 0) 1 Try.underlying22 infoU8 rfl .i64 .i64 n (by omega) (by omega) w
theorem make_ram (w : World) : (Instr.makeSlice 54 (.int .i64 16384) (.int .i64 16384)).run Try.prog w = .ok (.slice (some ⟨w.heap.size, 0, none⟩) 16384 16384) (w.alloc (.cells (row .u32 16384 (fun _ => 0)) 33)) := by
  rw [← made_row]
  exact run_make_row' (P := Try.prog) 54 33 (.int .u32 0) 4 Try.underlying54 infoU32 rfl .i64 .i64 16384 (by omega) (by omega) w

end Go.Proofs.Ytiidicldbcabaaa.Mem
