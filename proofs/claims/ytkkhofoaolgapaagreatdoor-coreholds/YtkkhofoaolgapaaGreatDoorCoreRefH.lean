/- The document's conditions: its Holds. -/
import Derived.Test.YtkkhofoaolgapaaGreatDoorCoreHold
import Derived.Great.BuildSlice
set_option linter.unusedVariables false
set_option linter.unusedSimpArgs false
namespace Go.Proofs.YtkkhofoaolgapaaGreatDoor.Core
open Go.RowKit Go.Proofs.YtkkhofoaolgapaaGreatDoor.Mem Go.Proofs.YtkkhofoaolgapaaGreatDoor.Alu

/-- The document's list of conditions. -/
def arrB (n z c v : Int) : Array Value := #[.bool (z == 1), .bool (z != 1), .bool (c == 1), .bool (c != 1), .bool (n == 1), .bool (n != 1), .bool (v == 1), .bool (v != 1), .bool (c == 1 && z == 0), .bool (c == 0 || z == 1), .bool (n == v), .bool (n != v), .bool (z == 0 && n == v), .bool (z == 1 || n != v)]
def zer14 : Array Value := Array.replicate 14 (.bool false)
def is01 (x : Int) : Prop := x = 0 ∨ x = 1
theorem arr_at (R : Nat → Int) (n z c v : Int) (hn : is01 n) (hz : is01 z) (hc : is01 c) (hv : is01 v) (k : Nat) (hk : k < 14) : (arrB n z c v)[k]? = some (.bool (holdsB ⟨R, n, z, c, v⟩ k)) := by
  rcases hn with rfl | rfl <;> rcases hz with rfl | rfl <;> rcases hc with rfl | rfl <;> rcases hv with rfl | rfl <;>
    (rcases (show k = 0 ∨ k = 1 ∨ k = 2 ∨ k = 3 ∨ k = 4 ∨ k = 5 ∨ k = 6 ∨ k = 7 ∨ k = 8 ∨ k = 9 ∨ k = 10 ∨ k = 11 ∨ k = 12 ∨ k = 13 by omega) with rfl | rfl | rfl | rfl | rfl | rfl | rfl | rfl | rfl | rfl | rfl | rfl | rfl | rfl <;> rfl)
theorem info_14 : (Tryz.prog.info? 107).map (·.size) = some 14 := by kernel_rfl
theorem one_14 (n z c v : Int) : (arrB n z c v).all (·.oneCell') = true := by simp [arrB, Value.oneCell']

set_option maxRecDepth 100000 in
set_option maxHeartbeats 4000000 in
theorem refH_00 (R : Nat → Int) (n v : Int) (hn : is01 n) (hv : is01 v) (k : Nat) (hk : k < 14) (w : World) :
    Calls Tryz.prog 19 #[.agg (stv ⟨R, n, 0, 0, v⟩), .int .i64 k] w fun e w' => e = .returned (.bool (holdsB ⟨R, n, 0, 0, v⟩ k)) ∧ Below w.heap.size w w' := by
  have hb := (Below.refl w.heap.size w).alloc (Nat.le_refl _) (.cells (stv ⟨R, n, 0, 0, v⟩) 33)
  have hx : (w.alloc (.cells (stv ⟨R, n, 0, 0, v⟩) 33)).heap[w.heap.size]? = some (.cells (stv ⟨R, n, 0, 0, v⟩) 33 (0, 0)) := heap_alloc_new _ _
  have c16 : (w.alloc (.cells (stv ⟨R, n, 0, 0, v⟩) 33)).cell? ⟨w.heap.size, 16, none⟩ = some (.int .u32 n) := by rw [cell_of_row _ _ _ _ _ _ hx]; rfl
  have c17 : (w.alloc (.cells (stv ⟨R, n, 0, 0, v⟩) 33)).cell? ⟨w.heap.size, 17, none⟩ = some (.int .u32 0) := by rw [cell_of_row _ _ _ _ _ _ hx]; rfl
  have c18 : (w.alloc (.cells (stv ⟨R, n, 0, 0, v⟩) 33)).cell? ⟨w.heap.size, 18, none⟩ = some (.int .u32 0) := by rw [cell_of_row _ _ _ _ _ _ hx]; rfl
  have c19 : (w.alloc (.cells (stv ⟨R, n, 0, 0, v⟩) 33)).cell? ⟨w.heap.size, 19, none⟩ = some (.int .u32 v) := by rw [cell_of_row _ _ _ _ _ _ hx]; rfl
  have hsz := hb.size
  replace hb := hide hb
  clear hx
  have hk' : (k : Int) < 14 := by omega
  have h0 : ¬ (k : Int) < 0 := by omega
  have h13 : ¬ (13 : Int) < k := by omega
  have hat := arr_at R n 0 0 v hn (by unfold is01; omega) (by unfold is01; omega) hv k hk
  generalize hH : holdsB ⟨R, n, 0, 0, v⟩ k = H at *
  clear hH hn hv
  replace hat := hide hat
  go_enter Tryz.func19, Tryz.ntmps19
  go_wp2_with (refine wpList_store_rowTo rfl 107 (.tmp 5) (.tmp 82) rfl rfl _ (arrB n 0 0 v) rfl rfl 107 zer14 (heap_alloc_last _ _) info_14 rfl (one_14 _ _ _ _) ?_; rw [World.setRow_alloc_new])
  refine bodyPost_ret (v := .bool H) ?_ rfl ⟨rfl, hb.out.alloc hb.out.size _⟩
  have hat := hat.out
  simp only [arrB] at hat
  simp [results, Tryz.results19]
  simpa [hk] using hat

set_option maxRecDepth 100000 in
set_option maxHeartbeats 4000000 in
theorem refH_01 (R : Nat → Int) (n v : Int) (hn : is01 n) (hv : is01 v) (k : Nat) (hk : k < 14) (w : World) :
    Calls Tryz.prog 19 #[.agg (stv ⟨R, n, 0, 1, v⟩), .int .i64 k] w fun e w' => e = .returned (.bool (holdsB ⟨R, n, 0, 1, v⟩ k)) ∧ Below w.heap.size w w' := by
  have hb := (Below.refl w.heap.size w).alloc (Nat.le_refl _) (.cells (stv ⟨R, n, 0, 1, v⟩) 33)
  have hx : (w.alloc (.cells (stv ⟨R, n, 0, 1, v⟩) 33)).heap[w.heap.size]? = some (.cells (stv ⟨R, n, 0, 1, v⟩) 33 (0, 0)) := heap_alloc_new _ _
  have c16 : (w.alloc (.cells (stv ⟨R, n, 0, 1, v⟩) 33)).cell? ⟨w.heap.size, 16, none⟩ = some (.int .u32 n) := by rw [cell_of_row _ _ _ _ _ _ hx]; rfl
  have c17 : (w.alloc (.cells (stv ⟨R, n, 0, 1, v⟩) 33)).cell? ⟨w.heap.size, 17, none⟩ = some (.int .u32 0) := by rw [cell_of_row _ _ _ _ _ _ hx]; rfl
  have c18 : (w.alloc (.cells (stv ⟨R, n, 0, 1, v⟩) 33)).cell? ⟨w.heap.size, 18, none⟩ = some (.int .u32 1) := by rw [cell_of_row _ _ _ _ _ _ hx]; rfl
  have c19 : (w.alloc (.cells (stv ⟨R, n, 0, 1, v⟩) 33)).cell? ⟨w.heap.size, 19, none⟩ = some (.int .u32 v) := by rw [cell_of_row _ _ _ _ _ _ hx]; rfl
  have hsz := hb.size
  replace hb := hide hb
  clear hx
  have hk' : (k : Int) < 14 := by omega
  have h0 : ¬ (k : Int) < 0 := by omega
  have h13 : ¬ (13 : Int) < k := by omega
  have hat := arr_at R n 0 1 v hn (by unfold is01; omega) (by unfold is01; omega) hv k hk
  generalize hH : holdsB ⟨R, n, 0, 1, v⟩ k = H at *
  clear hH hn hv
  replace hat := hide hat
  go_enter Tryz.func19, Tryz.ntmps19
  go_wp2_with (refine wpList_store_rowTo rfl 107 (.tmp 5) (.tmp 82) rfl rfl _ (arrB n 0 1 v) rfl rfl 107 zer14 (heap_alloc_last _ _) info_14 rfl (one_14 _ _ _ _) ?_; rw [World.setRow_alloc_new])
  refine bodyPost_ret (v := .bool H) ?_ rfl ⟨rfl, hb.out.alloc hb.out.size _⟩
  have hat := hat.out
  simp only [arrB] at hat
  simp [results, Tryz.results19]
  simpa [hk] using hat

set_option maxRecDepth 100000 in
set_option maxHeartbeats 4000000 in
theorem refH_10 (R : Nat → Int) (n v : Int) (hn : is01 n) (hv : is01 v) (k : Nat) (hk : k < 14) (w : World) :
    Calls Tryz.prog 19 #[.agg (stv ⟨R, n, 1, 0, v⟩), .int .i64 k] w fun e w' => e = .returned (.bool (holdsB ⟨R, n, 1, 0, v⟩ k)) ∧ Below w.heap.size w w' := by
  have hb := (Below.refl w.heap.size w).alloc (Nat.le_refl _) (.cells (stv ⟨R, n, 1, 0, v⟩) 33)
  have hx : (w.alloc (.cells (stv ⟨R, n, 1, 0, v⟩) 33)).heap[w.heap.size]? = some (.cells (stv ⟨R, n, 1, 0, v⟩) 33 (0, 0)) := heap_alloc_new _ _
  have c16 : (w.alloc (.cells (stv ⟨R, n, 1, 0, v⟩) 33)).cell? ⟨w.heap.size, 16, none⟩ = some (.int .u32 n) := by rw [cell_of_row _ _ _ _ _ _ hx]; rfl
  have c17 : (w.alloc (.cells (stv ⟨R, n, 1, 0, v⟩) 33)).cell? ⟨w.heap.size, 17, none⟩ = some (.int .u32 1) := by rw [cell_of_row _ _ _ _ _ _ hx]; rfl
  have c18 : (w.alloc (.cells (stv ⟨R, n, 1, 0, v⟩) 33)).cell? ⟨w.heap.size, 18, none⟩ = some (.int .u32 0) := by rw [cell_of_row _ _ _ _ _ _ hx]; rfl
  have c19 : (w.alloc (.cells (stv ⟨R, n, 1, 0, v⟩) 33)).cell? ⟨w.heap.size, 19, none⟩ = some (.int .u32 v) := by rw [cell_of_row _ _ _ _ _ _ hx]; rfl
  have hsz := hb.size
  replace hb := hide hb
  clear hx
  have hk' : (k : Int) < 14 := by omega
  have h0 : ¬ (k : Int) < 0 := by omega
  have h13 : ¬ (13 : Int) < k := by omega
  have hat := arr_at R n 1 0 v hn (by unfold is01; omega) (by unfold is01; omega) hv k hk
  generalize hH : holdsB ⟨R, n, 1, 0, v⟩ k = H at *
  clear hH hn hv
  replace hat := hide hat
  go_enter Tryz.func19, Tryz.ntmps19
  go_wp2_with (refine wpList_store_rowTo rfl 107 (.tmp 5) (.tmp 82) rfl rfl _ (arrB n 1 0 v) rfl rfl 107 zer14 (heap_alloc_last _ _) info_14 rfl (one_14 _ _ _ _) ?_; rw [World.setRow_alloc_new])
  refine bodyPost_ret (v := .bool H) ?_ rfl ⟨rfl, hb.out.alloc hb.out.size _⟩
  have hat := hat.out
  simp only [arrB] at hat
  simp [results, Tryz.results19]
  simpa [hk] using hat

set_option maxRecDepth 100000 in
set_option maxHeartbeats 4000000 in
theorem refH_11 (R : Nat → Int) (n v : Int) (hn : is01 n) (hv : is01 v) (k : Nat) (hk : k < 14) (w : World) :
    Calls Tryz.prog 19 #[.agg (stv ⟨R, n, 1, 1, v⟩), .int .i64 k] w fun e w' => e = .returned (.bool (holdsB ⟨R, n, 1, 1, v⟩ k)) ∧ Below w.heap.size w w' := by
  have hb := (Below.refl w.heap.size w).alloc (Nat.le_refl _) (.cells (stv ⟨R, n, 1, 1, v⟩) 33)
  have hx : (w.alloc (.cells (stv ⟨R, n, 1, 1, v⟩) 33)).heap[w.heap.size]? = some (.cells (stv ⟨R, n, 1, 1, v⟩) 33 (0, 0)) := heap_alloc_new _ _
  have c16 : (w.alloc (.cells (stv ⟨R, n, 1, 1, v⟩) 33)).cell? ⟨w.heap.size, 16, none⟩ = some (.int .u32 n) := by rw [cell_of_row _ _ _ _ _ _ hx]; rfl
  have c17 : (w.alloc (.cells (stv ⟨R, n, 1, 1, v⟩) 33)).cell? ⟨w.heap.size, 17, none⟩ = some (.int .u32 1) := by rw [cell_of_row _ _ _ _ _ _ hx]; rfl
  have c18 : (w.alloc (.cells (stv ⟨R, n, 1, 1, v⟩) 33)).cell? ⟨w.heap.size, 18, none⟩ = some (.int .u32 1) := by rw [cell_of_row _ _ _ _ _ _ hx]; rfl
  have c19 : (w.alloc (.cells (stv ⟨R, n, 1, 1, v⟩) 33)).cell? ⟨w.heap.size, 19, none⟩ = some (.int .u32 v) := by rw [cell_of_row _ _ _ _ _ _ hx]; rfl
  have hsz := hb.size
  replace hb := hide hb
  clear hx
  have hk' : (k : Int) < 14 := by omega
  have h0 : ¬ (k : Int) < 0 := by omega
  have h13 : ¬ (13 : Int) < k := by omega
  have hat := arr_at R n 1 1 v hn (by unfold is01; omega) (by unfold is01; omega) hv k hk
  generalize hH : holdsB ⟨R, n, 1, 1, v⟩ k = H at *
  clear hH hn hv
  replace hat := hide hat
  go_enter Tryz.func19, Tryz.ntmps19
  go_wp2_with (refine wpList_store_rowTo rfl 107 (.tmp 5) (.tmp 82) rfl rfl _ (arrB n 1 1 v) rfl rfl 107 zer14 (heap_alloc_last _ _) info_14 rfl (one_14 _ _ _ _) ?_; rw [World.setRow_alloc_new])
  refine bodyPost_ret (v := .bool H) ?_ rfl ⟨rfl, hb.out.alloc hb.out.size _⟩
  have hat := hat.out
  simp only [arrB] at hat
  simp [results, Tryz.results19]
  simpa [hk] using hat


theorem refHolds_any (R : Nat → Int) (n z c v : Int) (hn : is01 n) (hz : is01 z) (hc : is01 c) (hv : is01 v) (cd : Int) (w : World) :
    Calls Tryz.prog 19 #[.agg (stv ⟨R, n, z, c, v⟩), .int .i64 cd] w fun e w' => e = .returned (.bool (holdsB ⟨R, n, z, c, v⟩ cd)) ∧ Below w.heap.size w w' := by
  by_cases hcd : 0 ≤ cd ∧ cd ≤ 13
  · obtain ⟨k, rfl⟩ := Int.eq_ofNat_of_zero_le hcd.1
    have hk : k < 14 := by omega
    rcases hz with rfl | rfl <;> rcases hc with rfl | rfl
    · exact refH_00 R n v hn hv k hk w
    · exact refH_01 R n v hn hv k hk w
    · exact refH_10 R n v hn hv k hk w
    · exact refH_11 R n v hn hv k hk w
  · have hF : holdsB ⟨R, n, z, c, v⟩ cd = false := by unfold holdsB; rw [decide_eq_false hcd]; rfl
    rw [hF]
    have hb := (Below.refl w.heap.size w).alloc (Nat.le_refl _) (.cells (stv ⟨R, n, z, c, v⟩) 33)
    by_cases h0 : cd < 0
    · go_enter Tryz.func19, Tryz.ntmps19
      go_wp2_with fail
      go_ret
      exact ⟨rfl, hb⟩
    · have h13 : 13 < cd := by omega
      go_enter Tryz.func19, Tryz.ntmps19
      go_wp2_with fail
      go_ret
      exact ⟨rfl, hb⟩
end Go.Proofs.YtkkhofoaolgapaaGreatDoor.Core

