/- A machine's own small functions: package core. -/
import Derived.Test.YtfdnjoieolijcaaGreatDoorCoreMach
set_option linter.unusedVariables false
namespace Go.Proofs.YtfdnjoieolijcaaGreatDoor.Core
open Go.RowKit Go.Proofs.YtfdnjoieolijcaaGreatDoor.Mem Go.Proofs.YtfdnjoieolijcaaGreatDoor.Alu

theorem CyclesC_any {w : World} {C : Nat} {M : Mc} (h : Mx w C M) :
    Calls Tryz.prog 23 #[.pointer (some ⟨C, 0, none⟩)] w fun e w' => e = .returned (.int .i64 M.cy) ∧ w' = w := by
  have c : w.cell? ⟨C, 24, none⟩ = some (.int .i64 M.cy) := h.cell rfl
  go_enter Tryz.func23, Tryz.ntmps23
  go_wp2_with fail
  go_ret
  exact ⟨rfl, rfl⟩

theorem MemC_any {w : World} {C : Nat} {M : Mc} (h : Mx w C M) :
    Calls Tryz.prog 16 #[.pointer (some ⟨C, 0, none⟩)] w fun e w' => e = .returned (.pointer (some ⟨M.m, 0, none⟩)) ∧ w' = w := by
  have c : w.cell? ⟨C, 0, none⟩ = some (.pointer (some ⟨M.m, 0, none⟩)) := h.cell rfl
  go_enter Tryz.func16, Tryz.ntmps16
  go_wp2_with fail
  go_ret
  exact ⟨rfl, rfl⟩

theorem HaltC_any {w : World} {C : Nat} {M : Mc} (h : Mx w C M) :
    Calls Tryz.prog 24 #[.pointer (some ⟨C, 0, none⟩)] w fun e w' => e = .returned (.agg #[.int .i64 M.hk, .int .i64 M.hc]) ∧ Below w.heap.size w w' := by
  have c1 : w.cell? ⟨C, 25, none⟩ = some (.int .i64 M.hk) := h.cell rfl
  have c2 : w.cell? ⟨C, 26, none⟩ = some (.int .i64 M.hc) := h.cell rfl
  have hl := h.lt
  go_enter Tryz.func24, Tryz.ntmps24
  go_wp2_with fail
  exact bodyPost_ret (v := .agg #[.int .i64 M.hk, .int .i64 M.hc]) (by simp [results, Tryz.results24, go_sem]) rfl ⟨rfl, by first | exact ((Below.refl _ _).alloc (Nat.le_refl _) _) | exact (((Below.refl _ _).alloc (Nat.le_refl _) _).setCell (Nat.le_refl _) _).setCell (Nat.le_refl _) _⟩

set_option maxHeartbeats 2000000 in
theorem StateC_any {w : World} {C : Nat} {M : Mc} (h : Mx w C M) :
    Calls Tryz.prog 25 #[.pointer (some ⟨C, 0, none⟩)] w fun e w' => e = .returned (.agg (stv M.s)) ∧ Below w.heap.size w w' := by
  have hB := (Below.refl w.heap.size w).alloc (Nat.le_refl _) (.cells (stv zerS) 27)
  have HR := hide (Mx.range (h.below hB))
  have HN := hide (show (w.alloc (.cells (stv zerS) 27)).heap[w.heap.size]? = some (.cells (stv zerS) 27 (0, 0)) from heap_alloc_new _ _)
  have HB := hide (setRow_below (b := w.heap.size) hB (Nat.le_refl _) (stv M.s))
  have HL := hide (show Sx _ _ _ from (show Sx (w.alloc (.cells (stv zerS) 27)) w.heap.size zerS from HN.out).row M.s)
  clear hB
  go_enter Tryz.func25, Tryz.ntmps25
  go_wp2_with (first
    | (refine wpList_load_mid rfl 27 (.tmp 5) rfl C 2 rfl (stv M.s).toList _ (unhide HR) Tryz.underlying27 rfl info_st ?_)
    | (refine wpList_store_rowTo rfl 27 (.tmp 2) (.tmp 6) rfl rfl _ (stv M.s) rfl rfl 27 (stv zerS) (unhide HN) info_st rfl (one_st _) ?_))
  refine bodyPost_ret (v := .agg (stv M.s)) ?_ rfl ⟨rfl, HB.out⟩
  exact results_cell_row (fn := Tryz.f25) rfl _ _ w.heap.size 27 _ (0, 0) _ rfl HL.out Tryz.underlying27 rfl info_st

def newM (m : Nat) (wait : Int) : Mc := ⟨m, wait, zerS, false, 0, 0, 0, 0⟩
def badWait (wait : Int) : Bool := decide (wait < 0 ∨ 7 < wait)

theorem NewC_no (m : Nat) (wait : Int) (hb : wait < 0 ∨ 7 < wait) (w : World) :
    Calls Tryz.prog 35 #[.pointer (some ⟨m, 0, none⟩), .int .i64 wait] w fun e w' => e = .returned (.tuple #[.pointer none, .int .i64 11]) ∧ w' = w := by
  rcases hb with hb | hb
  · go_enter Tryz.func35, Tryz.ntmps35
    go_wp2_with fail
    go_ret2
    exact ⟨rfl, rfl⟩
  · have h' : ¬ wait < 0 := by omega
    go_enter Tryz.func35, Tryz.ntmps35
    go_wp2_with fail
    go_ret2
    exact ⟨rfl, rfl⟩

theorem NewC_yes (m : Nat) (wait : Int) (h0 : 0 ≤ wait) (h1 : wait ≤ 7) (w : World) :
    Calls Tryz.prog 35 #[.pointer (some ⟨m, 0, none⟩), .int .i64 wait] w fun e w' => e = .returned (.tuple #[.pointer (some ⟨w.heap.size, 0, none⟩), .int .i64 0]) ∧ w' = w.alloc (.cells (mcc (newM m wait)) 95) := by
  go_enter Tryz.func35, Tryz.ntmps35
  go_wp2_with fail
  go_ret2
  exact ⟨rfl, rfl⟩
end Go.Proofs.YtfdnjoieolijcaaGreatDoor.Core

