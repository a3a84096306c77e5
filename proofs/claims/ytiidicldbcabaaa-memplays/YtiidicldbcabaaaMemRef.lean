/- The document's own memory: ram, byteAt, Half, Load of remontoireref06: contracts. -/
import Derived.Test.YtiidicldbcabaaaMemLaws
import Derived.Test.YtiidicldbcabaaaMemMath
set_option linter.unusedVariables false
namespace Go.Proofs.Ytiidicldbcabaaa.Mem
open Go.RowKit

theorem refram_any (a : Int) (w : World) : Calls Try.prog 20 #[.int .u32 a] w fun e w' => e = .returned (.bool (decide (536870912 ≤ a) && decide (a ≤ 536936444))) ∧ w' = w := by
  go_enter Try.func20, Try.ntmps20
  go_wp2
  · go_ret
    exact ⟨by have h : decide (536870912 ≤ a) = true := decide_eq_true (by assumption); rw [h]; rfl, rfl⟩
  · go_ret
    exact ⟨by have h : decide (536870912 ≤ a) = false := decide_eq_false (by omega); rw [h]; rfl, rfl⟩

theorem byteAt_yes (q : Option Addr) (n c : Nat) (lv : Value) (f : Nat → Int) (s : Nat) (a : Int) (ha : a = 134217728 + s) (w : World) (hS : Sl w .u8 q n f) (hs : s < n) (hn : n ≤ 300) (hf : ∀ i, i < n → 0 ≤ f i ∧ f i < 256) :
    Calls Try.prog 24 #[.agg #[.slice q n c, lv], .int .u32 a] w fun e w' => e = .returned (.tuple #[.int .u32 (f s), .bool true]) ∧ Below w.heap.size w w' := by
  obtain ⟨b, off, rfl, hb, hc⟩ : ∃ b off, q = some ⟨b, off, none⟩ ∧ b < w.heap.size ∧ ∀ i, i < n → w.cell? ⟨b, off + i, none⟩ = some (.int .u8 (f i)) := by
    rcases hS with h | h
    · omega
    · exact h
  have hck : (w.alloc (.cells #[.slice (some ⟨b, off, none⟩) n c, lv] 31)).cell? ⟨b, off + s, none⟩ = some (.int .u8 (f s)) := (World.cell?_alloc_lt _ _ _ hb).trans (hc s hs)
  have hf1 := (hf s hs).1
  have hf2 := (hf s hs).2
  have h1 : 134217728 ≤ a := by omega
  have h2 : a - 134217728 = s := by omega
  have h3 : a < 4294967296 := by omega
  have hs' : (s : Int) < n := by omega
  clear ha hc hf
  go_enter Try.func24, Try.ntmps24
  go_wp2
  go_ret2
  exact ⟨rfl, (Below.refl _ w).alloc (Nat.le_refl _) _⟩

theorem byteAt_no (q : Option Addr) (n c : Nat) (lv : Value) (a : Int) (ha : a < 134217728 ∨ (134217728 ≤ a ∧ (n : Int) ≤ a - 134217728)) (h0 : 0 ≤ a) (h3 : a < 4294967296) (w : World) (hn : n ≤ 300) :
    Calls Try.prog 24 #[.agg #[.slice q n c, lv], .int .u32 a] w fun e w' => e = .returned (.tuple #[.int .u32 0, .bool false]) ∧ Below w.heap.size w w' := by
  rcases ha with ha | ⟨ha, hb⟩
  · go_enter Try.func24, Try.ntmps24
    go_wp2
    go_ret2
    exact ⟨rfl, (Below.refl _ w).alloc (Nat.le_refl _) _⟩
  · obtain ⟨s, hs⟩ := Int.eq_ofNat_of_zero_le (show 0 ≤ a - 134217728 by omega)
    have hsn : (n : Int) ≤ s := by omega
    clear hb
    go_enter Try.func24, Try.ntmps24
    go_wp2
    go_ret2
    exact ⟨rfl, (Below.refl _ w).alloc (Nat.le_refl _) _⟩

/-- The box of the document's memory. -/
theorem mbox {w w' : World} {q lp : Option Addr} {n c ln lc : Nat} (hb : Below (w.heap.size + 1) (w.alloc (.cells #[.slice q n c, .slice lp ln lc] 31)) w') :
    w'.cell? ⟨w.heap.size, 0, none⟩ = some (.slice q n c) ∧ w'.cell? ⟨w.heap.size, 1, none⟩ = some (.slice lp ln lc) :=
  ⟨(hb.cell (p := ⟨w.heap.size, 0, none⟩) (Nat.lt_succ_self _)).trans (by unfold World.cell?; rw [heap_alloc_new]; rfl), (hb.cell (p := ⟨w.heap.size, 1, none⟩) (Nat.lt_succ_self _)).trans (by unfold World.cell?; rw [heap_alloc_new]; rfl)⟩

theorem refHalf_any (q lp : Option Addr) (n c ln lc : Nat) (f : Nat → Int) (a : Int) (w : World) (hS : Sl w .u8 q n f) (hn : n ≤ 300) (hf : ∀ i, i < n → 0 ≤ f i ∧ f i < 256) (h0 : 0 ≤ a) (h1 : a < 4294967296) :
    Calls Try.prog 16 #[.agg #[.slice q n c, .slice lp ln lc], .int .u32 a] w fun e w' => e = .returned (.tuple #[.int .u32 (hfV n f a), .int .i64 (hfE n a)]) ∧ Below w.heap.size w w' := by
  have hB := (Below.refl w.heap.size w).alloc (Nat.le_refl _) (.cells #[.slice q n c, .slice lp ln lc] 31)
  by_cases ha : a % 2 = 0
  · have h2 : a + 1 < 4294967296 := by omega
    by_cases hfit : fp a + 2 ≤ n
    · obtain ⟨s, hs⟩ := Int.eq_ofNat_of_zero_le (fp_range a).1
      have HAS : Hid (a = 134217728 + s) := by show _ = _; unfold fp at *; omega
      have eV : hfV n f a = f s + 256 * f (s + 1) := by unfold hfV; rw [if_pos ha, if_pos hfit, hs, Int.toNat_natCast]; simp only [lsum, Nat.add_zero]; omega
      have eE : hfE n a = 0 := by unfold hfE; rw [if_pos ha, if_pos hfit]
      have f1 := hf s (by omega)
      have f2 := hf (s + 1) (by omega)
      rw [eV, eE]
      go_enter Try.func16, Try.ntmps16
      go_wp2_with fail
      refine (byteAt_yes q n c _ f s a HAS.out _ (hS.alloc _) (by omega) hn hf).mono ?_
      rintro e w1 ⟨rfl, hb1⟩
      rw [World.size_alloc] at hb1
      obtain ⟨x0, x1⟩ := mbox hb1
      go_wp2_with fail
      refine (byteAt_yes q n c _ f (s + 1) (a + 1) (by have := HAS.out; omega) _ ((hS.alloc _).below (by rw [World.size_alloc]; exact hb1)) (by omega) hn hf).mono ?_
      rintro e w2 ⟨rfl, hb2⟩
      go_wp2_with fail
      go_ret2
      have hb3 := hB.trans (hb1.mono (by omega))
      exact ⟨rfl, hb3.trans (hb2.mono hb3.size)⟩
    · have eV : hfV n f a = 0 := by unfold hfV; rw [if_pos ha, if_neg hfit]
      have eE : hfE n a = 61 := by unfold hfE; rw [if_pos ha, if_neg hfit]
      have hno : a + 1 < 134217728 ∨ (134217728 ≤ a + 1 ∧ (n : Int) ≤ a + 1 - 134217728) := by unfold fp at *; omega
      rw [eV, eE]
      by_cases hy : 134217728 ≤ a ∧ a - 134217728 < n
      · obtain ⟨s, hs⟩ := Int.eq_ofNat_of_zero_le (show 0 ≤ a - 134217728 by omega)
        go_enter Try.func16, Try.ntmps16
        go_wp2_with fail
        refine (byteAt_yes q n c _ f s a (by omega) _ (hS.alloc _) (by omega) hn hf).mono ?_
        rintro e w1 ⟨rfl, hb1⟩
        rw [World.size_alloc] at hb1
        obtain ⟨x0, x1⟩ := mbox hb1
        go_wp2_with fail
        refine (byteAt_no q n c _ (a + 1) hno (by omega) h2 _ hn).mono ?_
        rintro e w2 ⟨rfl, hb2⟩
        go_wp2_with fail
        go_ret2
        have hb3 := hB.trans (hb1.mono (by omega))
        exact ⟨rfl, hb3.trans (hb2.mono hb3.size)⟩
      · go_enter Try.func16, Try.ntmps16
        go_wp2_with fail
        refine (byteAt_no q n c _ a (by omega) h0 h1 _ hn).mono ?_
        rintro e w1 ⟨rfl, hb1⟩
        rw [World.size_alloc] at hb1
        obtain ⟨x0, x1⟩ := mbox hb1
        go_wp2_with fail
        refine (byteAt_no q n c _ (a + 1) hno (by omega) h2 _ hn).mono ?_
        rintro e w2 ⟨rfl, hb2⟩
        go_wp2_with fail
        go_ret2
        have hb3 := hB.trans (hb1.mono (by omega))
        exact ⟨rfl, hb3.trans (hb2.mono hb3.size)⟩
  · have eV : hfV n f a = 0 := by unfold hfV; rw [if_neg ha]
    have eE : hfE n a = 60 := by unfold hfE; rw [if_neg ha]
    rw [eV, eE]
    go_enter Try.func16, Try.ntmps16
    go_wp2_with fail
    all_goals go_ret2
    all_goals exact ⟨rfl, hB⟩

end Go.Proofs.Ytiidicldbcabaaa.Mem

