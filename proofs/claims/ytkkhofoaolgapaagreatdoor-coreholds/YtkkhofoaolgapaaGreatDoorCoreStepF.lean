/- A step: package core. -/
import Derived.Test.YtkkhofoaolgapaaGreatDoorCoreMach
set_option linter.unusedVariables false
namespace Go.Proofs.YtkkhofoaolgapaaGreatDoor.Core
open Go.RowKit Go.Proofs.YtkkhofoaolgapaaGreatDoor.Mem Go.Proofs.YtkkhofoaolgapaaGreatDoor.Alu

def zE : Array Value := #[.int .u32 0, .int .u32 0, .int .i64 0, .int .i64 0, .int .i64 0]

set_option maxRecDepth 100000 in
set_option maxHeartbeats 4000000 in
theorem step_fault {w : World} {C F R n : Nat} {M : Mc} {f g : Nat → Int} (h : Mx w C M) (hm : Is w M.m F R n f g) (hf : ∀ i, i < n → 0 ≤ f i ∧ f i < 256) (hn : n ≤ 65536) (hg : Good M.s) (hL : Code.Laid w)
    (hA : ∀ j e, AtI n f (M.s.R 15) j e → e ≠ 0) :
    Calls Tryz.prog 32 #[.pointer (some ⟨C, 0, none⟩)] w fun e w' => ∃ en, (∃ j, AtI n f (M.s.R 15) j en) ∧ e = .returned (.tuple #[.agg #[.int .u32 0, .int .u32 0, .int .i64 0, .int .i64 0, .int .i64 0], .int .i64 en]) ∧ Below w.heap.size w w' := by
  have c0 : w.cell? ⟨C, 0, none⟩ = some (.pointer (some ⟨M.m, 0, none⟩)) := h.cell rfl
  have c17 : w.cell? ⟨C, 17, none⟩ = some (.int .u32 (M.s.R 15)) := h.cell rfl
  have hl := h.lt
  have b15 := hg.r 15
  have hB := (Below.refl w.heap.size w).alloc (Nat.le_refl _) (.cells #[.int .u32 0, .int .u32 0, .int .i64 0, .int .i64 0, .int .i64 0] 41)
  go_enter Tryz.func32, Tryz.ntmps32
  go_wp2_with fail
  refine (instAt_any (hm.below hB) hf hn _ b15.1 b15.2 (hL.below hB)).mono ?_
  rintro e w1 ⟨hb1, j, en, hj, rfl⟩
  have hne := hA j en hj
  obtain ⟨hc, hfz⟩ := Inst.bcell hb1
  have hz : w.heap.size < w1.heap.size := by have := hb1.size; simp at this; omega
  have hb2 : Below w.heap.size w w1 := hB.trans (hb1.mono hB.size)
  have hne' : (en == 0) = false := by simpa using hne
  clear hne
  dsimp only [inv]
  go_wp2_with fail
  refine bodyPost_ret (v := .tuple #[.agg #[.int .u32 0, .int .u32 0, .int .i64 0, .int .i64 0, .int .i64 0], .int .i64 en]) (by simp [results, Tryz.results32, go_sem, hc, hz]) rfl ⟨en, ⟨j, hj⟩, rfl, ?_⟩
  have hs1 : w.heap.size ≤ w1.heap.size := Nat.le_of_lt hz
  repeat (first | exact hb2 | refine Below.setCell ?_ (by first | exact Nat.le_refl _ | exact hs1) _ | refine Below.alloc ?_ (by first | exact hs1 | (simp; omega)) _)
end Go.Proofs.YtkkhofoaolgapaaGreatDoor.Core

