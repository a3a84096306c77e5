/- MemBase, MemNew, MemNewB, MemOps, MemLaws, joined. -/
import Derived.Test.YtfdnjoieolijcaaGreatDoorChecked
import Derived.WalkKit
import Derived.Below
import Derived.Laws.CopyOwn
import Derived.Deep.OwnRows
import Derived.Deep.RegionWith
import Derived.Deep.QuietTactic
import Derived.BigQuiet
import Derived.Deep.RegionHeld3
import Derived.Test.YtfdnjoieolijcaaGreatDoorBits64
import Derived.Test.YtfdnjoieolijcaaGreatDoorArgs
import Derived.Laws.BytesArg

/-! A memory in the heap: its box, its flash and its RAM, as rows of numbers by index. No function of the program is walked here. -/
set_option linter.unusedVariables false
namespace Go.Proofs.YtfdnjoieolijcaaGreatDoor.Mem
open Go.RowKit

/-- A row of n numbers of one kind. -/
def row (k : IntKind) (n : Nat) (f : Nat → Int) : Array Value := ((List.range n).map fun i => Value.int k (f i)).toArray
theorem row_size (k : IntKind) (n : Nat) (f : Nat → Int) : (row k n f).size = n := by simp [row]
theorem row_get (k : IntKind) (n : Nat) (f : Nat → Int) (i : Nat) (h : i < n) : (row k n f)[i]? = some (.int k (f i)) := by simp [row, h]
theorem row_list (k : IntKind) (n : Nat) (f : Nat → Int) : (row k n f).toList = (List.range n).map fun i => Value.int k (f i) := by simp [row]
theorem row_ext (k : IntKind) (n : Nat) (f : Nat → Int) (a : Array Value) (hs : a.size = n) (h : ∀ i, i < n → a[i]? = some (.int k (f i))) : a = row k n f := by
  apply Array.ext
  · rw [row_size, hs]
  · intro i h1 h2
    have e1 := h i (by omega)
    have e2 := row_get k n f i (by omega)
    rw [Array.getElem?_eq_getElem h1] at e1
    rw [Array.getElem?_eq_getElem h2] at e2
    exact Option.some.inj (e1.trans e2.symm)
/-- One of them is another one. -/
def put (f : Nat → Int) (i : Nat) (x : Int) : Nat → Int := fun j => if j = i then x else f j
theorem row_put (k : IntKind) (n : Nat) (f : Nat → Int) (i : Nat) (x : Int) : (row k n f).setIfInBounds i (.int k x) = row k n (put f i x) := by
  refine row_ext k n _ _ (by simp [row_size]) (fun j hj => ?_)
  rw [Array.getElem?_setIfInBounds, row_size]
  by_cases h : i = j
  · subst h; simp [hj, put]
  · rw [if_neg h, row_get k n f j hj]; simp [put, show ¬ j = i from fun e => h e.symm]
theorem row_same (k : IntKind) (n : Nat) (f g : Nat → Int) (h : ∀ i, i < n → f i = g i) : row k n f = row k n g :=
  row_ext k n g _ (row_size k n f) (fun i hi => by rw [row_get k n f i hi, h i hi])
theorem made_row (k : IntKind) (n : Nat) : madeCells #[.int k 0] n = row k n (fun _ => 0) := by
  refine row_ext k n _ _ (size_madeCells _ _) (fun i hi => ?_)
  simp [madeCells, hi, Nat.mod_one]

/-- A slice's first n numbers. -/
def Sl (w : World) (k : IntKind) (p : Option Addr) (n : Nat) (f : Nat → Int) : Prop :=
  n = 0 ∨ ∃ b off, p = some ⟨b, off, none⟩ ∧ b < w.heap.size ∧ ∀ i, i < n → w.cell? ⟨b, off + i, none⟩ = some (.int k (f i))
theorem Sl.zero (w : World) (k : IntKind) (p : Option Addr) (f : Nat → Int) : Sl w k p 0 f := .inl rfl
theorem Sl.below {w w' : World} {k : IntKind} {p : Option Addr} {n : Nat} {f : Nat → Int} (h : Sl w k p n f) (hb : Below w.heap.size w w') : Sl w' k p n f := by
  rcases h with h | ⟨b, off, rfl, hlt, hc⟩
  · exact .inl h
  · exact .inr ⟨b, off, rfl, Nat.lt_of_lt_of_le hlt hb.size, fun i hi => (hb.cell (p := ⟨b, off + i, none⟩) hlt).trans (hc i hi)⟩

/-- Block B is a memory's box: its flash is block F, of n bytes f, its RAM block R, of the words g. -/
structure Is (w : World) (B F R n : Nat) (f g : Nat → Int) : Prop where
  box : w.heap[B]? = some (.cells #[.slice (some ⟨F, 0, none⟩) n n, .slice (some ⟨R, 0, none⟩) 16384 16384] 119 (0, 0))
  fl : w.heap[F]? = some (.cells (row .u8 n f) 5 (0, 0))
  ram : w.heap[R]? = some (.cells (row .u32 16384 g) 24 (0, 0))

theorem lt_of_heap {w : World} {b : Nat} {o : Obj} (h : w.heap[b]? = some o) : b < w.heap.size := (Array.getElem?_eq_some_iff.1 h).1
theorem cell_row {w : World} {b n : Nat} {k : IntKind} {f : Nat → Int} {t : TypeId} {fr : Nat × Nat} (h : w.heap[b]? = some (.cells (row k n f) t fr)) (i : Nat) (hi : i < n) : w.cell? ⟨b, i, none⟩ = some (.int k (f i)) := by
  simp [World.cell?, h, row_get k n f i hi]
theorem free_row {w : World} {b : Nat} {c : Array Value} {t : TypeId} (h : w.heap[b]? = some (.cells c t (0, 0))) (i : Nat) : w.frozen? ⟨b, i, none⟩ = false := by simp [World.frozen?, h]

section
variable {w w' : World} {B F R n : Nat} {f g : Nat → Int}
theorem Is.ltB (h : Is w B F R n f g) : B < w.heap.size := lt_of_heap h.box
theorem Is.ltF (h : Is w B F R n f g) : F < w.heap.size := lt_of_heap h.fl
theorem Is.ltR (h : Is w B F R n f g) : R < w.heap.size := lt_of_heap h.ram
theorem Is.c0 (h : Is w B F R n f g) : w.cell? ⟨B, 0, none⟩ = some (.slice (some ⟨F, 0, none⟩) n n) := by simp [World.cell?, h.box]
theorem Is.c1 (h : Is w B F R n f g) : w.cell? ⟨B, 1, none⟩ = some (.slice (some ⟨R, 0, none⟩) 16384 16384) := by simp [World.cell?, h.box]
theorem Is.cf (h : Is w B F R n f g) (i : Nat) (hi : i < n) : w.cell? ⟨F, i, none⟩ = some (.int .u8 (f i)) := cell_row h.fl i hi
theorem Is.cr (h : Is w B F R n f g) (i : Nat) (hi : i < 16384) : w.cell? ⟨R, i, none⟩ = some (.int .u32 (g i)) := cell_row h.ram i hi
theorem Is.free (h : Is w B F R n f g) (i : Nat) : w.frozen? ⟨R, i, none⟩ = false := free_row h.ram i
theorem Is.kept (h : Is w B F R n f g) (hB : w'.heap[B]? = w.heap[B]?) (hF : w'.heap[F]? = w.heap[F]?) (hR : w'.heap[R]? = w.heap[R]?) : Is w' B F R n f g :=
  ⟨hB.trans h.box, hF.trans h.fl, hR.trans h.ram⟩
theorem Is.below (h : Is w B F R n f g) (hb : Below w.heap.size w w') : Is w' B F R n f g := h.kept (hb.block _ h.ltB) (hb.block _ h.ltF) (hb.block _ h.ltR)
theorem Is.below' {m : Nat} (h : Is w B F R n f g) (hb : Below m w w') (h1 : B < m) (h2 : F < m) (h3 : R < m) : Is w' B F R n f g := h.kept (hb.block _ h1) (hb.block _ h2) (hb.block _ h3)
theorem Is.alloc (h : Is w B F R n f g) (o : Obj) : Is (w.alloc o) B F R n f g := h.below ((Below.refl _ w).alloc (Nat.le_refl _) o)
/-- Blocks of other element types are other blocks. -/
theorem Is.apart (h : Is w B F R n f g) : B ≠ F ∧ B ≠ R ∧ F ≠ R := by
  refine ⟨fun e => ?_, fun e => ?_, fun e => ?_⟩
  · have := h.box; rw [e, h.fl] at this; simp at this
  · have := h.box; rw [e, h.ram] at this; simp at this
  · have := h.fl; rw [e, h.ram] at this; simp at this
theorem setRam_heap {c : Array Value} {t : TypeId} {b : Nat} (w : World) (i : Nat) (v : Value) (h : w.heap[b]? = some (.cells c t (0, 0))) : (w.setCell ⟨b, i, none⟩ v).heap[b]? = some (.cells (c.setIfInBounds i v) t (0, 0)) := by
  simp [World.setCell, Array.getElem?_modify, h]
theorem Is.store (h : Is w B F R n f g) (i : Nat) (x : Int) : Is (w.setCell ⟨R, i, none⟩ (.int .u32 x)) B F R n f (put g i x) := by
  obtain ⟨a1, a2, a3⟩ := h.apart
  refine ⟨?_, ?_, ?_⟩
  · rw [Below.heap_setCell _ _ _ _ (show B ≠ R from a2)]; exact h.box
  · rw [Below.heap_setCell _ _ _ _ (show F ≠ R from a3)]; exact h.fl
  · rw [setRam_heap w i _ h.ram, row_put]
/-- A store into another block's cell. -/
theorem Is.other (h : Is w B F R n f g) {p : Addr} (v : Value) (h1 : p.block ≠ B) (h2 : p.block ≠ F) (h3 : p.block ≠ R) : Is (w.setCell p v) B F R n f g :=
  h.kept (Below.heap_setCell _ _ _ _ (fun e => h1 e.symm)) (Below.heap_setCell _ _ _ _ (fun e => h2 e.symm)) (Below.heap_setCell _ _ _ _ (fun e => h3 e.symm))
end

theorem infoU8 : (Tryz.prog.info? 5).map (fun i => (i.zero, i.size, i.bytes)) = some (some (.int .u8 0), 1, 1) := by kernel_rfl
theorem infoU32 : (Tryz.prog.info? 24).map (fun i => (i.zero, i.size, i.bytes)) = some (some (.int .u32 0), 1, 4) := by kernel_rfl

theorem make_u8 (n : Nat) (hn : n ≤ 1000000) (w : World) : (Instr.makeSlice 23 (.int .i64 (n : Int)) (.int .i64 (n : Int))).run Tryz.prog w = .ok (.slice (some ⟨w.heap.size, 0, none⟩) n n) (w.alloc (.cells (row .u8 n (fun _ => 0)) 5)) := by
  rw [← made_row]
  exact run_make_row' (P := Tryz.prog) 23 5 (.int .u8 0) 1 Tryz.underlying23 infoU8 rfl .i64 .i64 n (by omega) (by omega) w
theorem make_ram (w : World) : (Instr.makeSlice 53 (.int .i64 16384) (.int .i64 16384)).run Tryz.prog w = .ok (.slice (some ⟨w.heap.size, 0, none⟩) 16384 16384) (w.alloc (.cells (row .u32 16384 (fun _ => 0)) 24)) := by
  rw [← made_row]
  exact run_make_row' (P := Tryz.prog) 53 24 (.int .u32 0) 4 Tryz.underlying53 infoU32 rfl .i64 .i64 16384 (by omega) (by omega) w

end Go.Proofs.YtfdnjoieolijcaaGreatDoor.Mem

/-! What copied, with, New, Copy and Flash of package mem answer: contracts. -/
set_option linter.unusedVariables false
namespace Go.Proofs.YtfdnjoieolijcaaGreatDoor.Mem
open Go.RowKit

/-- The cells of a list by index. -/
def cellsOf (k : IntKind) (n : Nat) (f : Nat → Int) : List Value := (List.range n).map fun i => Value.int k (f i)
theorem cells_len (k : IntKind) (n : Nat) (f : Nat → Int) : (cellsOf k n f).length = n := by simp [cellsOf]
theorem cells_get (k : IntKind) (n : Nat) (f : Nat → Int) (i : Nat) (h : i < n) : (cellsOf k n f)[i]? = some (.int k (f i)) := by simp [cellsOf, h]
theorem cells_one (k : IntKind) (n : Nat) (f : Nat → Int) : ∀ v ∈ cellsOf k n f, v.oneCell' = true := by
  intro v hv
  obtain ⟨i, _, rfl⟩ := List.mem_map.1 hv
  rfl
theorem cells_at {w : World} {k : IntKind} {b off n : Nat} {f : Nat → Int} (h : ∀ i, i < n → w.cell? ⟨b, off + i, none⟩ = some (.int k (f i))) (j : Nat) (v : Value) (hj : (cellsOf k n f)[j]? = some v) : w.cell? ((⟨b, off, none⟩ : Addr).add j) = some v := by
  have hlt : j < n := by
    rcases Nat.lt_or_ge j n with h | h
    · exact h
    · rw [List.getElem?_eq_none (by rw [cells_len]; exact h)] at hj; cases hj
  rw [cells_get k n f j hlt] at hj
  cases hj
  rw [show (⟨b, off, none⟩ : Addr).add j = ⟨b, off + j, none⟩ by unfold Addr.add; split <;> simp_all]
  exact h j hlt

/-- The first m of a row are others. -/
def over (m : Nat) (f z : Nat → Int) : Nat → Int := fun i => if i < m then f i else z i

/-- copy into a row of the call's own, from whatever slice that is no longer. -/
theorem copy_run (w : World) (dT sT ty elem t : TypeId) (hu : Tryz.prog.underlying dT = some (.slice elem)) (hsz : (Tryz.prog.info? elem).map (·.size) = some 1) (k : IntKind) (g N m cap : Nat) (sp : Option Addr) (f z : Nat → Int)
    (hg : w.heap[g]? = some (.cells (row k N z) t (0, 0))) (hs : Sl w k sp m f) (hm : m ≤ N) :
    ∃ w2, (Builtin.copy_ #[dT, sT] ty #[.slice (some ⟨g, 0, none⟩) N N, .slice sp m cap]).run Tryz.prog w = .ok (goInt m) w2 ∧ w2.heap[g]? = some (.cells (row k N (over m f z)) t (0, 0)) ∧
      (∀ B, B ≤ g → Below B w w2) ∧ (∀ j, j ≠ g → w2.heap[j]? = w.heap[j]?) ∧ w2.heap.size = w.heap.size := by
  rcases Nat.eq_zero_or_pos m with h0 | h0
  · subst h0
    refine ⟨w, run_copy_none (P := Tryz.prog) w dT sT ty elem _ _ _ _ _ _ hu hsz (by simp), ?_, fun B _ => Below.refl _ _, fun _ _ => rfl, rfl⟩
    rw [hg, row_same k N z (over 0 f z) (fun i _ => by simp [over])]
  · rcases hs with h | ⟨b, off, rfl, hlt, hc⟩
    · omega
    · have hr := run_copy_row (P := Tryz.prog) w dT sT ty elem g 0 N N ⟨b, off, none⟩ m cap (row k N z) t (cellsOf k m f) hu hsz hg (by rw [cells_len]; show m = min m N; omega) (cells_at hc) (by rw [cells_len, row_size]; omega) (cells_one _ _ _)
      rw [cells_len] at hr
      refine ⟨_, hr, ?_, fun B hB => below_setRow (Below.refl _ _) hB _, fun j hj => setRow_other w g j _ (by omega), by simp [World.setRow]⟩
      rw [setRow_heap w g _ _ t _ hg]
      refine congrArg (fun a => some (Obj.cells a t (0, 0))) ?_
      refine row_ext k N _ _ ?_ (fun i hi => ?_)
      · simp [cells_len, row_size]; omega
      · simp only [List.take_zero, List.nil_append, List.getElem?_toArray, Nat.zero_add]
        by_cases h : i < m
        · rw [List.getElem?_append_left (by rw [cells_len]; exact h), cells_get k m f i h]; simp [over, h]
        · rw [List.getElem?_append_right (by rw [cells_len]; omega), cells_len, List.getElem?_drop, show m + (i - m) = i by omega]
          have := row_get k N z i hi
          rw [Array.getElem?_toList, this]; simp [over, h]

theorem copied_any (p : Option Addr) (n cap : Nat) (f : Nat → Int) (w : World) (hs : Sl w .u8 p n f) (hn : n ≤ 1000000) :
    Calls Tryz.prog 116 #[.slice p n cap] w fun e w' => e = .returned (.slice (some ⟨w.heap.size, 0, none⟩) n n) ∧ w'.heap[w.heap.size]? = some (.cells (row .u8 n f) 5 (0, 0)) ∧ Below w.heap.size w w' := by
  have hmk := make_u8 n hn
  have hb0 := (Below.refl w.heap.size w).alloc (Nat.le_refl _) (.cells (row .u8 n (fun _ => 0)) 5)
  obtain ⟨w2, hr, hg, hb, _, _⟩ := copy_run (w.alloc (.cells (row .u8 n (fun _ => 0)) 5)) 23 23 3 5 5 Tryz.underlying23 (by kernel_rfl) .u8 w.heap.size n n cap p f _ (heap_alloc_new _ _) (hs.below hb0) (Nat.le_refl _)
  have HG : Hid (w2.heap[w.heap.size]? = some (.cells (row .u8 n f) 5 (0, 0))) := by show _ = _; rw [hg, row_same .u8 n _ f (fun i hi => by simp [over, hi])]
  have HB : Hid (Below w.heap.size w w2) := hb0.trans (hb _ (Nat.le_refl _))
  clear hg hb
  go_enter Tryz.func116, Tryz.ntmps116
  go_wp2
  go_ret
  exact ⟨rfl, HG.out, HB.out⟩

end Go.Proofs.YtfdnjoieolijcaaGreatDoor.Mem

/-! with, New, Copy and Flash of package mem: contracts. -/
set_option linter.unusedVariables false
namespace Go.Proofs.YtfdnjoieolijcaaGreatDoor.Mem
open Go.RowKit

theorem Sl.drew {w : World} {k : IntKind} {p : Option Addr} {n : Nat} {f : Nat → Int} (h : Sl w k p n f) : Sl w.drew k p n f := h
theorem Sl.alloc {w : World} {k : IntKind} {p : Option Addr} {n : Nat} {f : Nat → Int} (h : Sl w k p n f) (o : Obj) : Sl (w.alloc o) k p n f := h.below ((Below.refl _ w).alloc (Nat.le_refl _) o)

theorem is_box {w : World} {F R n : Nat} {f g : Nat → Int} (hF : w.heap[F]? = some (.cells (row .u8 n f) 5 (0, 0))) (hR : w.heap[R]? = some (.cells (row .u32 16384 g) 24 (0, 0))) :
    Is (w.alloc (.cells #[.slice (some ⟨F, 0, none⟩) n n, .slice (some ⟨R, 0, none⟩) 16384 16384] 119)) w.heap.size F R n f g :=
  ⟨heap_alloc_new _ _, (Below.heap_alloc _ _ _ (lt_of_heap hF)).trans hF, (Below.heap_alloc _ _ _ (lt_of_heap hR)).trans hR⟩
theorem is_new {w : World} {F n : Nat} {f : Nat → Int} (hF : w.heap[F]? = some (.cells (row .u8 n f) 5 (0, 0))) :
    Is ((w.alloc (.cells (row .u32 16384 (fun _ => 0)) 24)).alloc (.cells #[.slice (some ⟨F, 0, none⟩) n n, .slice (some ⟨w.heap.size, 0, none⟩) 16384 16384] 119)) (w.heap.size + 1) F w.heap.size n f (fun _ => 0) := by
  have := is_box (w := w.alloc (.cells (row .u32 16384 (fun _ => 0)) 24)) (F := F) (R := w.heap.size) (n := n) (f := f) (g := fun _ => 0) ((Below.heap_alloc _ _ _ (lt_of_heap hF)).trans hF) (heap_alloc_new _ _)
  rwa [World.size_alloc] at this
theorem copy_ram {W : World} {B F R n : Nat} {f z : Nat → Int} (hI : Is W B F R n f z) {q : Option Addr} {m : Nat} (cap' : Nat) {g : Nat → Int} (hr : Sl W .u32 q m g) (hm : m ≤ 16384) :
    ∃ w2, (Builtin.copy_ #[53, 53] 3 #[.slice (some ⟨R, 0, none⟩) 16384 16384, .slice q m cap']).run Tryz.prog W = .ok (goInt m) w2 ∧ Hid (Is w2 B F R n f (over m g z)) ∧ Hid (∀ N, N ≤ R → Below N W w2) := by
  obtain ⟨w2, h1, h2, h3, h4, _⟩ := copy_run W 53 53 3 24 24 Tryz.underlying53 (by kernel_rfl) .u32 R 16384 m cap' q g z hI.ram hr hm
  obtain ⟨_, a2, a3⟩ := hI.apart
  exact ⟨w2, h1, ⟨(h4 B a2).trans hI.box, (h4 F a3).trans hI.fl, h2⟩, h3⟩

theorem with_any (p : Option Addr) (n cap : Nat) (f : Nat → Int) (q : Option Addr) (m cap' : Nat) (g : Nat → Int) (w : World) (hs : Sl w .u8 p n f) (hr : Sl w .u32 q m g) (hn : n ≤ 1000000) (hm : m ≤ 16384) :
    Calls Tryz.prog 70 #[.slice p n cap, .slice q m cap'] w fun e w' => ∃ B F R, e = .returned (.pointer (some ⟨B, 0, none⟩)) ∧ Is w' B F R n f (over m g (fun _ => 0)) ∧ (w.heap.size ≤ B ∧ w.heap.size ≤ F ∧ w.heap.size ≤ R) ∧ Below w.heap.size w w' := by
  have hmk := make_ram
  go_enter Tryz.func70, Tryz.ntmps70
  go_wp2_with fail
  go_region_with (go_at_call 116; refine (copied_any _ _ _ f _ (by first | exact hs | exact hs.drew | exact hs.drew.alloc _ | exact (hs.alloc _).drew) hn).mono ?_; rintro e w1 ⟨rfl, hg1, hb1⟩)
  · have hb2 : Below w.heap.size w w1 := ((Below.refl _ w).drew).trans hb1
    have hb3 := (hb2.alloc hb2.size (.cells (row .u32 16384 (fun _ => 0)) 24)).alloc (by have := hb2.size; simp; omega) (.cells #[.slice (some ⟨w.heap.size, 0, none⟩) n n, .slice (some ⟨w1.heap.size, 0, none⟩) 16384 16384] 119)
    have hI := is_new (w := w1) (F := w.heap.size) (n := n) (f := f) hg1
    obtain ⟨w2, h1, h2, h3⟩ := copy_ram hI cap' (hr.below hb3) hm
    have HB : Hid (Below w.heap.size w w2 ∧ w.heap.size ≤ w1.heap.size) := ⟨hb3.trans (h3.out _ hb2.size), hb2.size⟩
    have c1 := hI.c1
    clear hI hb3 hb2 hg1 hb1 h3
    go_wp2
    go_ret
    have := HB.out.2
    exact ⟨_, _, _, rfl, h2.out, ⟨by omega, by omega, by omega⟩, HB.out.1⟩
  all_goals
    have hR1 : w1.heap[w.heap.size]? = some (.cells (row .u32 16384 (fun _ => 0)) 24 (0, 0)) := (hb1.block w.heap.size (by show _ < (w.alloc _).heap.size; simp)).trans (heap_alloc_new w _)
    have hF1 : w1.heap[w.heap.size + 1]? = some (.cells (row .u8 n f) 5 (0, 0)) := by
      have e : (w.alloc (.cells (row .u32 16384 (fun _ => 0)) 24)).drew.heap.size = w.heap.size + 1 := World.size_alloc _ _
      rw [e] at hg1; exact hg1
    have hb2 : Below w.heap.size w w1 := (((Below.refl _ w).alloc (Nat.le_refl _) _).drew).trans (hb1.mono (by show _ ≤ (w.alloc _).heap.size; simp))
    have hb3 := hb2.alloc hb2.size (.cells #[.slice (some ⟨w.heap.size + 1, 0, none⟩) n n, .slice (some ⟨w.heap.size, 0, none⟩) 16384 16384] 119)
    have hI := is_box hF1 hR1
    obtain ⟨w2, h1, h2, h3⟩ := copy_ram hI cap' (hr.below hb3) hm
    have HB : Hid (Below w.heap.size w w2 ∧ w.heap.size ≤ w1.heap.size) := ⟨hb3.trans (h3.out _ (Nat.le_refl _)), hb2.size⟩
    have c1 := hI.c1
    clear hI hb3 hb2 hg1 hb1 h3 hR1 hF1
    go_wp2
    go_ret
    have := HB.out.2
    exact ⟨_, _, _, rfl, h2.out, ⟨by omega, by omega, by omega⟩, HB.out.1⟩

/-- A new memory. -/
theorem New_ok (p : Option Addr) (n cap : Nat) (f : Nat → Int) (w : World) (hs : Sl w .u8 p n f) (hn : n ≤ 65536) :
    Calls Tryz.prog 34 #[.slice p n cap] w fun e w' => ∃ B F R, e = .returned (.tuple #[.pointer (some ⟨B, 0, none⟩), .int .i64 0]) ∧ Is w' B F R n f (fun _ => 0) ∧ (w.heap.size ≤ B ∧ w.heap.size ≤ F ∧ w.heap.size ≤ R) ∧ Below w.heap.size w w' := by
  have h0 : ¬ (65536 : Int) < (n : Int) := by omega
  go_enter Tryz.func34, Tryz.ntmps34
  go_wp2_with fail
  refine (with_any p n cap f none 0 0 (fun _ => 0) _ hs (Sl.zero _ _ _ _) (by omega) (by omega)).mono ?_
  rintro e w1 ⟨B, F, R, rfl, hI, hle, hb⟩
  go_wp2_with fail
  go_ret2
  exact ⟨B, F, R, rfl, hI, hle, hb⟩

theorem New_big (p : Option Addr) (n cap : Nat) (w : World) (hn : 65536 < n) :
    Calls Tryz.prog 34 #[.slice p n cap] w fun e w' => e = .returned (.tuple #[.pointer none, .int .i64 82]) ∧ w' = w := by
  have h0 : (65536 : Int) < (n : Int) := by omega
  go_enter Tryz.func34, Tryz.ntmps34
  go_wp2_with fail
  go_ret2
  exact ⟨rfl, rfl⟩

theorem Is.flash {w : World} {B F R n : Nat} {f g : Nat → Int} (h : Is w B F R n f g) : Sl w .u8 (some ⟨F, 0, none⟩) n f := .inr ⟨F, 0, rfl, h.ltF, fun i hi => by rw [Nat.zero_add]; exact h.cf i hi⟩
theorem Is.rams {w : World} {B F R n : Nat} {f g : Nat → Int} (h : Is w B F R n f g) : Sl w .u32 (some ⟨R, 0, none⟩) 16384 g := .inr ⟨R, 0, rfl, h.ltR, fun i hi => by rw [Nat.zero_add]; exact h.cr i hi⟩
theorem Is.same {w : World} {B F R n : Nat} {f g g' : Nat → Int} (h : Is w B F R n f g) (hg : ∀ i, i < 16384 → g i = g' i) : Is w B F R n f g' := ⟨h.box, h.fl, by rw [h.ram, row_same .u32 16384 g g' hg]⟩

end Go.Proofs.YtfdnjoieolijcaaGreatDoor.Mem

/-! flashPlace, ramPlace, ofFlash, Load, Store and Half of package mem: contracts. -/
set_option linter.unusedVariables false
namespace Go.Proofs.YtfdnjoieolijcaaGreatDoor.Mem
open Go.RowKit

/-- How far an address is behind the flash's first byte. -/
def fp (a : Int) : Int := (a - 134217728) % 4294967296
/-- Which word of RAM an address is. -/
def rp (a : Int) : Int := (a - 536870912) % 4294967296 / 4
theorem fp_range (a : Int) : 0 ≤ fp a ∧ fp a < 4294967296 := by unfold fp; omega
theorem rp_range (a : Int) : 0 ≤ rp a ∧ rp a < 1073741824 := by unfold rp; omega

theorem flashPlace_any (a : Int) (w : World) : Calls Tryz.prog 46 #[.int .u32 a] w fun e w' => e = .returned (.int .u32 (fp a)) ∧ w' = w := by
  go_enter Tryz.func46, Tryz.ntmps46
  go_wp2_with fail
  go_ret
  exact ⟨rfl, rfl⟩

theorem ramPlace_any (a : Int) (w : World) : Calls Tryz.prog 47 #[.int .u32 a] w fun e w' => e = .returned (.tuple #[.int .u32 (rp a), .bool (decide (rp a < 16384))]) ∧ w' = w := by
  go_enter Tryz.func47, Tryz.ntmps47
  go_wp2_with fail
  go_ret2
  exact ⟨rfl, rfl⟩

/-- The first k of so many bytes, the lowest one first. -/
def lsum (f : Nat → Int) (s : Nat) : Nat → Int
  | 0 => 0
  | k + 1 => lsum f s k + f (s + k) * 256 ^ k

theorem lsum_range (f : Nat → Int) (s k : Nat) (h : ∀ i, i < k → 0 ≤ f (s + i) ∧ f (s + i) < 256) : 0 ≤ lsum f s k ∧ lsum f s k < 256 ^ k := by
  induction k with
  | zero => simp [lsum]
  | succ k ih =>
    have h1 := ih (fun i hi => h i (by omega))
    have h2 := h k (by omega)
    have hp : (0 : Int) < 256 ^ k := Int.pow_pos (by decide)
    have e : (256 : Int) ^ (k + 1) = 256 ^ k * 256 := Int.pow_succ ..
    have h3 : f (s + k) * 256 ^ k ≤ 255 * 256 ^ k := Int.mul_le_mul_of_nonneg_right (by omega) (by omega)
    have h4 : 0 ≤ f (s + k) * 256 ^ k := Int.mul_nonneg h2.1 (by omega)
    simp only [lsum, e]
    omega
theorem u32_low (i : Nat) (a b : Int) (h1 : 0 ≤ a) (h2 : a < 4294967296) (h3 : 0 ≤ b) (h4 : b < 4294967296) (ha : a % 2 ^ i = 0) (hb : b < 2 ^ i) : bits .or .u32 b a = b + a := by
  rw [u32_or b a h3 h4 h1 h2, Nat.or_comm, ← u32_or a b h1 h2 h3 h4, Alu.u32_join i a b h1 h2 h3 h4 ha hb]; omega
theorem or_lsum (f : Nat → Int) (s k : Nat) (hk : k < 4) (h : ∀ i, i ≤ k → 0 ≤ f (s + i) ∧ f (s + i) < 256) :
    bits .or .u32 (lsum f s k) (f (s + k) % 4294967296 * 2 ^ (8 * k) % 4294967296) = lsum f s (k + 1) := by
  have h1 := lsum_range f s k (fun i hi => h i (by omega))
  have h2 := h k (Nat.le_refl _)
  show _ = lsum f s k + f (s + k) * 256 ^ k
  generalize lsum f s k = x at *
  generalize f (s + k) = b at *
  rcases (show k = 0 ∨ k = 1 ∨ k = 2 ∨ k = 3 by omega) with rfl | rfl | rfl | rfl
  · simp only [Nat.mul_zero, Int.pow_zero, Int.mul_one] at *
    rw [u32_low 0 _ x (by omega) (by omega) h1.1 (by omega) (by omega) (by omega)]; omega
  · simp only [Nat.reduceMul, Int.reducePow] at *
    rw [u32_low 8 _ x (by omega) (by omega) h1.1 (by omega) (by omega) (by omega)]; omega
  · simp only [Nat.reduceMul, Int.reducePow] at *
    rw [u32_low 16 _ x (by omega) (by omega) h1.1 (by omega) (by omega) (by omega)]; omega
  · simp only [Nat.reduceMul, Int.reducePow] at *
    rw [u32_low 24 _ x (by omega) (by omega) h1.1 (by omega) (by omega) (by omega)]; omega

set_option maxRecDepth 100000 in
theorem ofFlash_any {w : World} {B F R n : Nat} {f g : Nat → Int} (h : Is w B F R n f g) (hf : ∀ i, i < n → 0 ≤ f i ∧ f i < 256) (a : Int) (z : Nat) (hz0 : 0 < z) (hz : z ≤ 4) (hfit : fp a + z ≤ n) (hn : n ≤ 65536) :
    Calls Tryz.prog 151 #[.pointer (some ⟨B, 0, none⟩), .int .u32 a, .int .i64 z] w fun e w' => e = .returned (.tuple #[.int .u32 (lsum f (fp a).toNat z), .int .i64 0]) ∧ w' = w := by
  have c0 := h.c0
  obtain ⟨r1, r2⟩ := fp_range a
  obtain ⟨s, hs⟩ := Int.eq_ofNat_of_zero_le r1
  have hsn : s < n := by omega
  have hfit' : (s : Int) + z ≤ n := by omega
  go_enter Tryz.func151, Tryz.ntmps151
  go_wp2_with (go_at_call 46; refine (flashPlace_any _ _).mono ?_; rintro e w' ⟨rfl, rfl⟩; rw [hs])
  go_loop [9, 34] (fun x i => ∃ k : Nat, k ≤ z ∧ i = .int .i64 k ∧ x = .int .u32 (lsum f s k)) (fun _ i => z - (intOf i).toNat)
  case atStart => exact ⟨0, by omega, rfl, rfl⟩
  case round =>
    obtain ⟨k, hk, rfl, rfl⟩ := hrel
    by_cases hlt : k < z
    · have hc := h.cf (s + k) (by omega)
      have HO : Hid (bits .or .u32 (lsum f s k) (f (s + k) % 4294967296 * 2 ^ (8 * k) % 4294967296) = lsum f s (k + 1)) := or_lsum f s k (by omega) (fun i hi => hf _ (by omega))
      go_wp2
      go_round
      case rel => exact ⟨k + 1, by omega, by go_num, by rw [HO.out]⟩
      case measure => simp [intOf]; omega
    · obtain rfl : k = z := by omega
      have e : (fp a).toNat = s := by omega
      go_wp2
      go_ret2
      exact ⟨rfl, rfl⟩

set_option maxRecDepth 100000 in
theorem ofFlash_no {w : World} {B F R n : Nat} {f g : Nat → Int} (h : Is w B F R n f g) (a : Int) (z : Nat) (hz : z ≤ 4) (hfit : (n : Int) < fp a + z) (hn : n ≤ 65536) :
    Calls Tryz.prog 151 #[.pointer (some ⟨B, 0, none⟩), .int .u32 a, .int .i64 z] w fun e w' => e = .returned (.tuple #[.int .u32 0, .int .i64 61]) ∧ w' = w := by
  have c0 := h.c0
  obtain ⟨r1, r2⟩ := fp_range a
  obtain ⟨s, hs⟩ := Int.eq_ofNat_of_zero_le r1
  have hfit' : (n : Int) < s + z := by omega
  go_enter Tryz.func151, Tryz.ntmps151
  go_wp2_with (go_at_call 46; refine (flashPlace_any _ _).mono ?_; rintro e w' ⟨rfl, rfl⟩; rw [hs])
  go_ret2
  exact ⟨rfl, rfl⟩

/-- What Load tells: the word, and the error. -/
def ldE (n : Nat) (a : Int) : Int := if a % 4 = 0 then (if rp a < 16384 then 0 else if fp a + 4 ≤ n then 0 else 61) else 60
def ldV (n : Nat) (f g : Nat → Int) (a : Int) : Int := if a % 4 = 0 then (if rp a < 16384 then g (rp a).toNat else if fp a + 4 ≤ n then lsum f (fp a).toNat 4 else 0) else 0
/-- What Store tells. -/
def stE (a : Int) : Int := if a % 4 = 0 then (if fp a < 65536 then 62 else if rp a < 16384 then 0 else 61) else 60
/-- What Half tells. -/
def hfE (n : Nat) (a : Int) : Int := if a % 2 = 0 then (if fp a + 2 ≤ n then 0 else 61) else 60
def hfV (n : Nat) (f : Nat → Int) (a : Int) : Int := if a % 2 = 0 then (if fp a + 2 ≤ n then lsum f (fp a).toNat 2 else 0) else 0

set_option maxRecDepth 100000 in
theorem Load_any {w : World} {B F R n : Nat} {f g : Nat → Int} (h : Is w B F R n f g) (hf : ∀ i, i < n → 0 ≤ f i ∧ f i < 256) (hn : n ≤ 65536) (a : Int) (h0 : 0 ≤ a) (h1 : a < 4294967296) :
    Calls Tryz.prog 153 #[.pointer (some ⟨B, 0, none⟩), .int .u32 a] w fun e w' => e = .returned (.tuple #[.int .u32 (ldV n f g a), .int .i64 (ldE n a)]) ∧ w' = w := by
  have c1 := h.c1
  by_cases ha : a % 4 = 0
  · by_cases hr : rp a < 16384
    · obtain ⟨k, hk⟩ := Int.eq_ofNat_of_zero_le (rp_range a).1
      have hc := h.cr k (by omega)
      have hk' : (k : Int) < 16384 := by omega
      have eV : ldV n f g a = g k := by unfold ldV; rw [if_pos ha, if_pos hr, hk]; rfl
      have eE : ldE n a = 0 := by unfold ldE; rw [if_pos ha, if_pos hr]
      rw [eV, eE]
      go_enter Tryz.func153, Tryz.ntmps153
      go_wp2_with (go_at_call 47; refine (ramPlace_any _ _).mono ?_; rintro e w' ⟨rfl, rfl⟩; rw [hk])
      go_ret2
      exact ⟨rfl, rfl⟩
    · by_cases hf2 : fp a + 4 ≤ n
      · have eV : ldV n f g a = lsum f (fp a).toNat 4 := by unfold ldV; rw [if_pos ha, if_neg hr, if_pos hf2]
        have eE : ldE n a = 0 := by unfold ldE; rw [if_pos ha, if_neg hr, if_pos hf2]
        rw [eV, eE]
        go_enter Tryz.func153, Tryz.ntmps153
        go_wp2_with (first | (go_at_call 47; refine (ramPlace_any _ _).mono ?_; rintro e w' ⟨rfl, rfl⟩) | (go_at_call 151; refine (ofFlash_any h hf a 4 (by decide) (by decide) hf2 hn).mono ?_; rintro e w' ⟨rfl, rfl⟩))
        go_ret2
        exact ⟨rfl, rfl⟩
      · have eV : ldV n f g a = 0 := by unfold ldV; rw [if_pos ha, if_neg hr, if_neg hf2]
        have eE : ldE n a = 61 := by unfold ldE; rw [if_pos ha, if_neg hr, if_neg hf2]
        rw [eV, eE]
        go_enter Tryz.func153, Tryz.ntmps153
        go_wp2_with (first | (go_at_call 47; refine (ramPlace_any _ _).mono ?_; rintro e w' ⟨rfl, rfl⟩) | (go_at_call 151; refine (ofFlash_no h a 4 (by decide) (by show _ < fp a + (4 : Int); omega) hn).mono ?_; rintro e w' ⟨rfl, rfl⟩))
        go_ret2
        exact ⟨rfl, rfl⟩
  · have eV : ldV n f g a = 0 := by unfold ldV; rw [if_neg ha]
    have eE : ldE n a = 60 := by unfold ldE; rw [if_neg ha]
    rw [eV, eE]
    go_enter Tryz.func153, Tryz.ntmps153
    go_wp2_with fail
    all_goals go_ret2
    all_goals exact ⟨rfl, rfl⟩

set_option maxRecDepth 100000 in
theorem Store_any {w : World} {B F R n : Nat} {f g : Nat → Int} (h : Is w B F R n f g) (a x : Int) (h0 : 0 ≤ a) (h1 : a < 4294967296) :
    Calls Tryz.prog 17 #[.pointer (some ⟨B, 0, none⟩), .int .u32 a, .int .u32 x] w fun e w' => e = .returned (.int .i64 (stE a)) ∧ w' = if stE a = 0 then w.setCell ⟨R, (rp a).toNat, none⟩ (.int .u32 x) else w := by
  have c1 := h.c1
  by_cases ha : a % 4 = 0
  · by_cases hp : fp a < 65536
    · have eE : stE a = 62 := by unfold stE; rw [if_pos ha, if_pos hp]
      rw [eE, if_neg (by decide)]
      go_enter Tryz.func17, Tryz.ntmps17
      go_wp2_with (go_at_call 46; refine (flashPlace_any _ _).mono ?_; rintro e w' ⟨rfl, rfl⟩)
      go_ret
      exact ⟨rfl, rfl⟩
    · by_cases hr : rp a < 16384
      · obtain ⟨k, hk⟩ := Int.eq_ofNat_of_zero_le (rp_range a).1
        have hc := h.cr k (by omega)
        have hz := h.free k
        have hk' : (k : Int) < 16384 := by omega
        have eE : stE a = 0 := by unfold stE; rw [if_pos ha, if_neg hp, if_pos hr]
        rw [eE, if_pos rfl, hk, Int.toNat_natCast]
        go_enter Tryz.func17, Tryz.ntmps17
        go_wp2_with (first | (go_at_call 46; refine (flashPlace_any _ _).mono ?_; rintro e w' ⟨rfl, rfl⟩) | (go_at_call 47; refine (ramPlace_any _ _).mono ?_; rintro e w' ⟨rfl, rfl⟩; rw [hk]))
        go_ret
        exact ⟨rfl, rfl⟩
      · have eE : stE a = 61 := by unfold stE; rw [if_pos ha, if_neg hp, if_neg hr]
        have hd : decide (rp a < 16384) = false := decide_eq_false hr
        rw [eE, if_neg (by decide)]
        go_enter Tryz.func17, Tryz.ntmps17
        go_wp2_with (first | (go_at_call 46; refine (flashPlace_any _ _).mono ?_; rintro e w' ⟨rfl, rfl⟩) | (go_at_call 47; refine (ramPlace_any _ _).mono ?_; rintro e w' ⟨rfl, rfl⟩))
        go_ret
        exact ⟨rfl, rfl⟩
  · have eE : stE a = 60 := by unfold stE; rw [if_neg ha]
    rw [eE, if_neg (by decide)]
    go_enter Tryz.func17, Tryz.ntmps17
    go_wp2_with fail
    all_goals go_ret
    all_goals exact ⟨rfl, rfl⟩

set_option maxRecDepth 100000 in
theorem Half_any {w : World} {B F R n : Nat} {f g : Nat → Int} (h : Is w B F R n f g) (hf : ∀ i, i < n → 0 ≤ f i ∧ f i < 256) (hn : n ≤ 65536) (a : Int) (h0 : 0 ≤ a) (h1 : a < 4294967296) :
    Calls Tryz.prog 117 #[.pointer (some ⟨B, 0, none⟩), .int .u32 a] w fun e w' => e = .returned (.tuple #[.int .u32 (hfV n f a), .int .i64 (hfE n a)]) ∧ w' = w := by
  by_cases ha : a % 2 = 0
  · by_cases hf2 : fp a + 2 ≤ n
    · have eV : hfV n f a = lsum f (fp a).toNat 2 := by unfold hfV; rw [if_pos ha, if_pos hf2]
      have eE : hfE n a = 0 := by unfold hfE; rw [if_pos ha, if_pos hf2]
      rw [eV, eE]
      go_enter Tryz.func117, Tryz.ntmps117
      go_wp2_with (go_at_call 151; refine (ofFlash_any h hf a 2 (by decide) (by decide) hf2 hn).mono ?_; rintro e w' ⟨rfl, rfl⟩)
      go_ret2
      exact ⟨rfl, rfl⟩
    · have eV : hfV n f a = 0 := by unfold hfV; rw [if_pos ha, if_neg hf2]
      have eE : hfE n a = 61 := by unfold hfE; rw [if_pos ha, if_neg hf2]
      rw [eV, eE]
      go_enter Tryz.func117, Tryz.ntmps117
      go_wp2_with (go_at_call 151; refine (ofFlash_no h a 2 (by decide) (by show _ < fp a + (2 : Int); omega) hn).mono ?_; rintro e w' ⟨rfl, rfl⟩)
      go_ret2
      exact ⟨rfl, rfl⟩
  · have eV : hfV n f a = 0 := by unfold hfV; rw [if_neg ha]
    have eE : hfE n a = 60 := by unfold hfE; rw [if_neg ha]
    rw [eV, eE]
    go_enter Tryz.func117, Tryz.ntmps117
    go_wp2_with fail
    all_goals go_ret2
    all_goals exact ⟨rfl, rfl⟩

end Go.Proofs.YtfdnjoieolijcaaGreatDoor.Mem

/-! The anchor of the statements of layer 6; bytes as strings. -/
set_option linter.unusedVariables false
namespace Go.Proofs.YtfdnjoieolijcaaGreatDoor.Mem
open Go.RowKit

theorem Is.drew {w : World} {B F R n : Nat} {f g : Nat → Int} (h : Is w B F R n f g) : Is w.drew B F R n f g := ⟨h.box, h.fl, h.ram⟩

/-- Bytes as a string. -/
def strOf (n : Nat) (f : Nat → Int) : ByteArray := strOfNums ((List.range n).map f)
theorem conv_run (w : World) (p : Option Addr) (n cap : Nat) (f : Nat → Int) (hs : Sl w .u8 p n f) :
    (convert 23 9 (.slice p n cap)).run Tryz.prog w = .ok (.string (strOf n f)) w := by
  rcases hs with h | ⟨b, off, rfl, hlt, hc⟩
  · subst h
    cases p with
    | none => exact run_convert_bytes_nil w 23 5 Tryz.underlying23 Tryz.underlying5 0 cap 9 Tryz.underlying9
    | some a =>
      rw [run_convert_bytes_string w 23 9 5 _ 0 cap Tryz.underlying23 Tryz.underlying5 Tryz.underlying9, run_bytesToString w _ 0 cap [] (by rfl)]
      rfl
  · have := run_convert_bytes_arg w 23 5 Tryz.underlying23 Tryz.underlying5 b off n cap ((List.range n).map f) (by simp) (fun i hi => by rw [hc i hi]; simp [hi]) 9 Tryz.underlying9
    exact this

theorem Sl.ints {w : World} {k : IntKind} {p : Option Addr} {n cap : Nat} {z : List Int} (h : Args.Ints w k p n cap z) : Sl w k p n (fun i => z.getD i 0) := by
  rcases h.cells with h0 | ⟨b, off, rfl, hlt, hc⟩
  · exact .inl (by have := h.le; omega)
  · exact .inr ⟨b, off, rfl, hlt, fun i hi => hc i (by have := h.le; omega)⟩
theorem bytes_of {w : World} {p : Option Addr} {n cap : Nat} {z : List Int} (h : Args.Ints w .u8 p n cap z) : ∀ i, i < n → 0 ≤ z.getD i 0 ∧ z.getD i 0 < 256 := by
  intro i hi
  have hl : i < z.length := by have := h.len; have := h.le; omega
  have hm : z.getD i 0 ∈ z := by
    rw [List.getD_eq_getElem?_getD, List.getElem?_eq_getElem hl, Option.getD_some]; exact List.getElem_mem hl
  have := h.wf _ hm
  generalize z.getD i 0 = x at *
  simp [Lit.wf] at this
  have e1 : IntKind.u8.min = 0 := rfl
  have e2 : IntKind.u8.max = 255 := rfl
  omega

/-- A slice of bytes, opened. -/
theorem opened {w : World} {p : Option Addr} {n cap : Nat} {z : List Int} (h : Args.Ints w .u8 p n cap z) : ∃ f, Sl w .u8 p n f ∧ ∀ i, i < n → 0 ≤ f i ∧ f i < 256 := ⟨_, Sl.ints h, bytes_of h⟩
theorem wf32 {x : Int} (h : (Lit.int .u32 x).wf = true) : 0 ≤ x ∧ x < 4294967296 := by
  simp [Lit.wf] at h
  have e1 : IntKind.u32.min = 0 := rfl
  have e2 : IntKind.u32.max = 4294967295 := rfl
  omega

theorem Store_no {w : World} {B F R n : Nat} {f g : Nat → Int} (h : Is w B F R n f g) (a x : Int) (h0 : 0 ≤ a) (h1 : a < 4294967296) (hE : stE a ≠ 0) :
    Calls Tryz.prog 17 #[.pointer (some ⟨B, 0, none⟩), .int .u32 a, .int .u32 x] w fun e w' => e = .returned (.int .i64 (stE a)) ∧ w' = w :=
  (Store_any h a x h0 h1).mono fun e w' hh => ⟨hh.1, by rw [hh.2, if_neg hE]⟩
theorem Store_yes {w : World} {B F R n : Nat} {f g : Nat → Int} (h : Is w B F R n f g) (a x : Int) (h0 : 0 ≤ a) (h1 : a < 4294967296) (hE : stE a = 0) :
    Calls Tryz.prog 17 #[.pointer (some ⟨B, 0, none⟩), .int .u32 a, .int .u32 x] w fun e w' => e = .returned (.int .i64 0) ∧ w' = w.setCell ⟨R, (rp a).toNat, none⟩ (.int .u32 x) :=
  (Store_any h a x h0 h1).mono fun e w' hh => ⟨by rw [hh.1, hE], by rw [hh.2, if_pos hE]⟩

end Go.Proofs.YtfdnjoieolijcaaGreatDoor.Mem

