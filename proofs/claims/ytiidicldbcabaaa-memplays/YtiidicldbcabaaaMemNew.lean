/- What copied, with, New, Copy and Flash of package mem answer: contracts. -/
import Derived.Test.YtiidicldbcabaaaMemBase
import Derived.Deep.RegionWith
import Derived.Deep.QuietTactic
import Derived.BigQuiet
set_option linter.unusedVariables false
namespace Go.Proofs.Ytiidicldbcabaaa.Mem
open Go.RowKit

/-- The cells of a list by index. -/
def cellsOf (k : IntKind) (n : Nat) (f : Nat → Int) : List Value := (List.range n).map fun i => Value.int k (f i)
theorem cells_len (k : IntKind) (n : Nat) (f : Nat → Int) : (cellsOf k n f).length = n := by simp [cellsOf]
theorem cells_get (k : IntKind) (n : Nat) (f : Nat → Int) (i : Nat) (h : i < n) : (cellsOf k n f)[i]? = some (.int k (f i)) := by simp [cellsOf, h]
theorem cells_one (k : IntKind) (n : Nat) (f : Nat → Int) : ∀ v ∈ cellsOf k n f, v.oneCell' = true := by
  intro v hv
  obtain ⟨i, _, rfl⟩ := List.mem_map.1 hv
  rfl
theorem cells_at {w : World} {k : IntKind} {b off n : Nat} {f : Nat → Int} (h : ∀ i, i < n → w.cell? ⟨b, off + i, none⟩ = some (.int k (f i))) (j : Nat) (v : Value) (hj : (cellsOf k n f)[j]? = some v) : w.cell? ((⟨b, off, none⟩ : Addr).add j) = some v := by
  have hlt : j < n := by
    rcases Nat.lt_or_ge j n with h | h
    · exact h
    · rw [List.getElem?_eq_none (by rw [cells_len]; exact h)] at hj; cases hj
  rw [cells_get k n f j hlt] at hj
  cases hj
  rw [show (⟨b, off, none⟩ : Addr).add j = ⟨b, off + j, none⟩ by unfold Addr.add; split <;> simp_all]
  exact h j hlt

/-- The first m of a row are others. -/
def over (m : Nat) (f z : Nat → Int) : Nat → Int := fun i => if i < m then f i else z i

/-- copy into a row of the call's own, from whatever slice that is no longer. -/
theorem copy_run (w : World) (dT sT ty elem t : TypeId) (hu : Try.prog.underlying dT = some (.slice elem)) (hsz : (Try.prog.info? elem).map (·.size) = some 1) (k : IntKind) (g N m cap : Nat) (sp : Option Addr) (f z : Nat → Int)
    (hg : w.heap[g]? = some (.cells (row k N z) t (0, 0))) (hs : Sl w k sp m f) (hm : m ≤ N) :
    ∃ w2, (Builtin.copy_ #[dT, sT] ty #[.slice (some ⟨g, 0, none⟩) N N, .slice sp m cap]).run Try.prog w = .ok (goInt m) w2 ∧ w2.heap[g]? = some (.cells (row k N (over m f z)) t (0, 0)) ∧
      (∀ B, B ≤ g → Below B w w2) ∧ (∀ j, j ≠ g → w2.heap[j]? = w.heap[j]?) ∧ w2.heap.size = w.heap.size := by
  rcases Nat.eq_zero_or_pos m with h0 | h0
  · subst h0
    refine ⟨w, run_copy_none (P := Try.prog) w dT sT ty elem _ _ _ _ _ _ hu hsz (by simp), ?_, fun B _ => Below.refl _ _, fun _ _ => rfl, rfl⟩
    rw [hg, row_same k N z (over 0 f z) (fun i _ => by simp [over])]
  · rcases hs with h | ⟨b, off, rfl, hlt, hc⟩
    · omega
    · have hr := run_copy_row (P := Try.prog) w dT sT ty elem g 0 N N ⟨b, off, none⟩ m cap (row k N z) t (cellsOf k m f) hu hsz hg (by rw [cells_len]; show m = min m N; omega) (cells_at hc) (by rw [cells_len, row_size]; omega) (cells_one _ _ _)
      rw [cells_len] at hr
      refine ⟨_, hr, ?_, fun B hB => below_setRow (Below.refl _ _) hB _, fun j hj => setRow_other w g j _ (by omega), by simp [World.setRow]⟩
      rw [setRow_heap w g _ _ t _ hg]
      congr 2
      refine row_ext k N _ _ ?_ (fun i hi => ?_)
      · simp [cells_len, row_size]; omega
      · simp only [List.take_zero, List.nil_append, List.getElem?_toArray, Nat.zero_add]
        by_cases h : i < m
        · rw [List.getElem?_append_left (by rw [cells_len]; exact h), cells_get k m f i h]; simp [over, h]
        · rw [List.getElem?_append_right (by rw [cells_len]; omega), cells_len, List.getElem?_drop, show m + (i - m) = i by omega]
          have := row_get k N z i hi
          rw [Array.getElem?_toList, this]; simp [over, h]

theorem copied_any (p : Option Addr) (n cap : Nat) (f : Nat → Int) (w : World) (hs : Sl w .u8 p n f) (hn : n ≤ 1000000) :
    Calls Try.prog 26 #[.slice p n cap] w fun e w' => e = .returned (.slice (some ⟨w.heap.size, 0, none⟩) n n) ∧ w'.heap[w.heap.size]? = some (.cells (row .u8 n f) 5 (0, 0)) ∧ Below w.heap.size w w' := by
  have hmk := make_u8 n hn
  have hb0 := (Below.refl w.heap.size w).alloc (Nat.le_refl _) (.cells (row .u8 n (fun _ => 0)) 5)
  obtain ⟨w2, hr, hg, hb, _, _⟩ := copy_run (w.alloc (.cells (row .u8 n (fun _ => 0)) 5)) 22 22 3 5 5 Try.underlying22 (by kernel_rfl) .u8 w.heap.size n n cap p f _ (heap_alloc_new _ _) (hs.below hb0) (Nat.le_refl _)
  have HG : Hid (w2.heap[w.heap.size]? = some (.cells (row .u8 n f) 5 (0, 0))) := by show _ = _; rw [hg, row_same .u8 n _ f (fun i hi => by simp [over, hi])]
  have HB : Hid (Below w.heap.size w w2) := hb0.trans (hb _ (Nat.le_refl _))
  clear hg hb
  go_enter Try.func26, Try.ntmps26
  go_wp2
  go_ret
  exact ⟨rfl, HG.out, HB.out⟩

end Go.Proofs.Ytiidicldbcabaaa.Mem
