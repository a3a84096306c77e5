/- with, New, Copy and Flash of package mem: contracts. -/
import Derived.Test.YtiidicldbcabaaaMemNew
import Derived.Deep.RegionHeld3
set_option linter.unusedVariables false
namespace Go.Proofs.Ytiidicldbcabaaa.Mem
open Go.RowKit

theorem Sl.drew {w : World} {k : IntKind} {p : Option Addr} {n : Nat} {f : Nat → Int} (h : Sl w k p n f) : Sl w.drew k p n f := h
theorem Sl.alloc {w : World} {k : IntKind} {p : Option Addr} {n : Nat} {f : Nat → Int} (h : Sl w k p n f) (o : Obj) : Sl (w.alloc o) k p n f := h.below ((Below.refl _ w).alloc (Nat.le_refl _) o)

theorem is_box {w : World} {F R n : Nat} {f g : Nat → Int} (hF : w.heap[F]? = some (.cells (row .u8 n f) 5 (0, 0))) (hR : w.heap[R]? = some (.cells (row .u32 16384 g) 33 (0, 0))) :
    Is (w.alloc (.cells #[.slice (some ⟨F, 0, none⟩) n n, .slice (some ⟨R, 0, none⟩) 16384 16384] 58)) w.heap.size F R n f g :=
  ⟨heap_alloc_new _ _, (Below.heap_alloc _ _ _ (lt_of_heap hF)).trans hF, (Below.heap_alloc _ _ _ (lt_of_heap hR)).trans hR⟩
theorem is_new {w : World} {F n : Nat} {f : Nat → Int} (hF : w.heap[F]? = some (.cells (row .u8 n f) 5 (0, 0))) :
    Is ((w.alloc (.cells (row .u32 16384 (fun _ => 0)) 33)).alloc (.cells #[.slice (some ⟨F, 0, none⟩) n n, .slice (some ⟨w.heap.size, 0, none⟩) 16384 16384] 58)) (w.heap.size + 1) F w.heap.size n f (fun _ => 0) := by
  have := is_box (w := w.alloc (.cells (row .u32 16384 (fun _ => 0)) 33)) (F := F) (R := w.heap.size) (n := n) (f := f) (g := fun _ => 0) ((Below.heap_alloc _ _ _ (lt_of_heap hF)).trans hF) (heap_alloc_new _ _)
  rwa [World.size_alloc] at this
theorem copy_ram {W : World} {B F R n : Nat} {f z : Nat → Int} (hI : Is W B F R n f z) {q : Option Addr} {m : Nat} (cap' : Nat) {g : Nat → Int} (hr : Sl W .u32 q m g) (hm : m ≤ 16384) :
    ∃ w2, (Builtin.copy_ #[54, 54] 3 #[.slice (some ⟨R, 0, none⟩) 16384 16384, .slice q m cap']).run Try.prog W = .ok (goInt m) w2 ∧ Hid (Is w2 B F R n f (over m g z)) ∧ Hid (∀ N, N ≤ R → Below N W w2) := by
  obtain ⟨w2, h1, h2, h3, h4, _⟩ := copy_run W 54 54 3 33 33 Try.underlying54 (by kernel_rfl) .u32 R 16384 m cap' q g z hI.ram hr hm
  obtain ⟨_, a2, a3⟩ := hI.apart
  exact ⟨w2, h1, ⟨(h4 B a2).trans hI.box, (h4 F a3).trans hI.fl, h2⟩, h3⟩

theorem with_any (p : Option Addr) (n cap : Nat) (f : Nat → Int) (q : Option Addr) (m cap' : Nat) (g : Nat → Int) (w : World) (hs : Sl w .u8 p n f) (hr : Sl w .u32 q m g) (hn : n ≤ 1000000) (hm : m ≤ 16384) :
    Calls Try.prog 19 #[.slice p n cap, .slice q m cap'] w fun e w' => ∃ B F R, e = .returned (.pointer (some ⟨B, 0, none⟩)) ∧ Is w' B F R n f (over m g (fun _ => 0)) ∧ (w.heap.size ≤ B ∧ w.heap.size ≤ F ∧ w.heap.size ≤ R) ∧ Below w.heap.size w w' := by
  have hmk := make_ram
  go_enter Try.func19, Try.ntmps19
  go_wp2_with fail
  go_region_with (go_at_call 26; refine (copied_any _ _ _ f _ (by first | exact hs | exact hs.drew | exact hs.drew.alloc _ | exact (hs.alloc _).drew) hn).mono ?_; rintro e w1 ⟨rfl, hg1, hb1⟩)
  · have hb2 : Below w.heap.size w w1 := ((Below.refl _ w).drew).trans hb1
    have hb3 := (hb2.alloc hb2.size (.cells (row .u32 16384 (fun _ => 0)) 33)).alloc (by have := hb2.size; simp; omega) (.cells #[.slice (some ⟨w.heap.size, 0, none⟩) n n, .slice (some ⟨w1.heap.size, 0, none⟩) 16384 16384] 58)
    have hI := is_new (w := w1) (F := w.heap.size) (n := n) (f := f) hg1
    obtain ⟨w2, h1, h2, h3⟩ := copy_ram hI cap' (hr.below hb3) hm
    have HB : Hid (Below w.heap.size w w2 ∧ w.heap.size ≤ w1.heap.size) := ⟨hb3.trans (h3.out _ hb2.size), hb2.size⟩
    have c1 := hI.c1
    clear hI hb3 hb2 hg1 hb1 h3
    go_wp2
    go_ret
    have := HB.out.2
    exact ⟨_, _, _, rfl, h2.out, ⟨by omega, by omega, by omega⟩, HB.out.1⟩
  all_goals
    have hR1 : w1.heap[w.heap.size]? = some (.cells (row .u32 16384 (fun _ => 0)) 33 (0, 0)) := (hb1.block w.heap.size (by show _ < (w.alloc _).heap.size; simp)).trans (heap_alloc_new w _)
    have hF1 : w1.heap[w.heap.size + 1]? = some (.cells (row .u8 n f) 5 (0, 0)) := by
      have e : (w.alloc (.cells (row .u32 16384 (fun _ => 0)) 33)).drew.heap.size = w.heap.size + 1 := World.size_alloc _ _
      rw [e] at hg1; exact hg1
    have hb2 : Below w.heap.size w w1 := (((Below.refl _ w).alloc (Nat.le_refl _) _).drew).trans (hb1.mono (by show _ ≤ (w.alloc _).heap.size; simp))
    have hb3 := hb2.alloc hb2.size (.cells #[.slice (some ⟨w.heap.size + 1, 0, none⟩) n n, .slice (some ⟨w.heap.size, 0, none⟩) 16384 16384] 58)
    have hI := is_box hF1 hR1
    obtain ⟨w2, h1, h2, h3⟩ := copy_ram hI cap' (hr.below hb3) hm
    have HB : Hid (Below w.heap.size w w2 ∧ w.heap.size ≤ w1.heap.size) := ⟨hb3.trans (h3.out _ (Nat.le_refl _)), hb2.size⟩
    have c1 := hI.c1
    clear hI hb3 hb2 hg1 hb1 h3 hR1 hF1
    go_wp2
    go_ret
    have := HB.out.2
    exact ⟨_, _, _, rfl, h2.out, ⟨by omega, by omega, by omega⟩, HB.out.1⟩

/-- A new memory. -/
theorem New_ok (p : Option Addr) (n cap : Nat) (f : Nat → Int) (w : World) (hs : Sl w .u8 p n f) (hn : n ≤ 65536) :
    Calls Try.prog 9 #[.slice p n cap] w fun e w' => ∃ B F R, e = .returned (.tuple #[.pointer (some ⟨B, 0, none⟩), .int .i64 0]) ∧ Is w' B F R n f (fun _ => 0) ∧ (w.heap.size ≤ B ∧ w.heap.size ≤ F ∧ w.heap.size ≤ R) ∧ Below w.heap.size w w' := by
  have h0 : ¬ (65536 : Int) < (n : Int) := by omega
  go_enter Try.func9, Try.ntmps9
  go_wp2_with fail
  refine (with_any p n cap f none 0 0 (fun _ => 0) _ hs (Sl.zero _ _ _ _) (by omega) (by omega)).mono ?_
  rintro e w1 ⟨B, F, R, rfl, hI, hle, hb⟩
  go_wp2_with fail
  go_ret2
  exact ⟨B, F, R, rfl, hI, hle, hb⟩

theorem New_big (p : Option Addr) (n cap : Nat) (w : World) (hn : 65536 < n) :
    Calls Try.prog 9 #[.slice p n cap] w fun e w' => e = .returned (.tuple #[.pointer none, .int .i64 82]) ∧ w' = w := by
  have h0 : (65536 : Int) < (n : Int) := by omega
  go_enter Try.func9, Try.ntmps9
  go_wp2_with fail
  go_ret2
  exact ⟨rfl, rfl⟩

theorem Is.flash {w : World} {B F R n : Nat} {f g : Nat → Int} (h : Is w B F R n f g) : Sl w .u8 (some ⟨F, 0, none⟩) n f := .inr ⟨F, 0, rfl, h.ltF, fun i hi => by rw [Nat.zero_add]; exact h.cf i hi⟩
theorem Is.rams {w : World} {B F R n : Nat} {f g : Nat → Int} (h : Is w B F R n f g) : Sl w .u32 (some ⟨R, 0, none⟩) 16384 g := .inr ⟨R, 0, rfl, h.ltR, fun i hi => by rw [Nat.zero_add]; exact h.cr i hi⟩
theorem Is.same {w : World} {B F R n : Nat} {f g g' : Nat → Int} (h : Is w B F R n f g) (hg : ∀ i, i < 16384 → g i = g' i) : Is w B F R n f g' := ⟨h.box, h.fl, by rw [h.ram, row_same .u32 16384 g g' hg]⟩

theorem Flash_any {w : World} {B F R n : Nat} {f g : Nat → Int} (h : Is w B F R n f g) (hn : n ≤ 65536) :
    Calls Try.prog 18 #[.pointer (some ⟨B, 0, none⟩)] w fun e w' => e = .returned (.slice (some ⟨w.heap.size, 0, none⟩) n n) ∧ w'.heap[w.heap.size]? = some (.cells (row .u8 n f) 5 (0, 0)) ∧ Below w.heap.size w w' := by
  have c0 := h.c0
  go_enter Try.func18, Try.ntmps18
  go_wp2_with fail
  refine (copied_any _ n n f _ h.flash (by omega)).mono ?_
  rintro e w1 ⟨rfl, h1, h2⟩
  go_wp2_with fail
  go_ret
  exact ⟨rfl, h1, h2⟩

theorem Copy_any {w : World} {B F R n : Nat} {f g : Nat → Int} (h : Is w B F R n f g) (hn : n ≤ 65536) :
    Calls Try.prog 10 #[.pointer (some ⟨B, 0, none⟩)] w fun e w' => ∃ B' F' R', e = .returned (.pointer (some ⟨B', 0, none⟩)) ∧ Is w' B' F' R' n f g ∧ (w.heap.size ≤ B' ∧ w.heap.size ≤ F' ∧ w.heap.size ≤ R') ∧ Below w.heap.size w w' := by
  have c0 := h.c0
  have c1 := h.c1
  go_enter Try.func10, Try.ntmps10
  go_wp2_with fail
  go_region_with (go_at_call 19; refine (with_any _ n n f _ 16384 16384 g _ h.flash.drew h.rams.drew (by omega) (by omega)).mono ?_; rintro e w1 ⟨B', F', R', rfl, hI, hle, hb⟩)
  all_goals go_wp2_with fail
  all_goals go_ret
  all_goals exact ⟨B', F', R', rfl, hI.same (fun i hi => by simp [over, hi]), hle, ((Below.refl _ w).drew).trans hb⟩

end Go.Proofs.Ytiidicldbcabaaa.Mem
