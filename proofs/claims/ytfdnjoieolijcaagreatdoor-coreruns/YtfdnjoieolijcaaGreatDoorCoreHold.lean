/- The conditions: package core. -/
import Derived.Test.YtfdnjoieolijcaaGreatDoorCoreBits
set_option linter.unusedVariables false
namespace Go.Proofs.YtfdnjoieolijcaaGreatDoor.Core
open Go.RowKit Go.Proofs.YtfdnjoieolijcaaGreatDoor.Mem Go.Proofs.YtfdnjoieolijcaaGreatDoor.Alu

/-- The first condition of a pair. -/
def evenB (s : St) (p : Int) : Bool :=
  if p = 0 then s.z == 1 else if p = 1 then s.c == 1 else if p = 2 then s.n == 1 else if p = 3 then s.v == 1
  else if p = 4 then s.c == 1 && s.z == 0 else if p = 5 then s.n == s.v else s.z == 0 && s.n == s.v

set_option maxHeartbeats 2000000 in
theorem holdsEven_any (s : St) (p : Int) (w : World) :
    Calls Tryz.prog 49 #[.agg (stv s), .int .i64 p] w fun e w' => e = .returned (.bool (evenB s p)) ∧ Below w.heap.size w w' := by
  have hx := Sx.new w s
  have hb := (Below.refl w.heap.size w).alloc (Nat.le_refl _) (.cells (stv s) 27)
  have hS := Nat.le_refl w.heap.size
  have c16 : (w.alloc (.cells (stv s) 27)).cell? ⟨w.heap.size, 16, none⟩ = some (.int .u32 s.n) := hx.cell rfl
  have c17 : (w.alloc (.cells (stv s) 27)).cell? ⟨w.heap.size, 17, none⟩ = some (.int .u32 s.z) := hx.cell rfl
  have c18 : (w.alloc (.cells (stv s) 27)).cell? ⟨w.heap.size, 18, none⟩ = some (.int .u32 s.c) := hx.cell rfl
  have c19 : (w.alloc (.cells (stv s) 27)).cell? ⟨w.heap.size, 19, none⟩ = some (.int .u32 s.v) := hx.cell rfl
  have HB := hide hb
  clear hx hb
  go_enter Tryz.func49, Tryz.ntmps49
  go_wp2_with fail
  all_goals
    go_ret
    exact ⟨by go_light; simp_all [evenB], HB.out⟩

/-- Does a condition hold? -/
def holdsB (s : St) (cd : Int) : Bool := decide (0 ≤ cd ∧ cd ≤ 13) && (evenB (bitsS s) (cd / 2) != decide (cd % 2 = 1))

set_option maxHeartbeats 2000000 in
theorem Holds_any (s : St) (cd : Int) (w : World) :
    Calls Tryz.prog 19 #[.agg (stv s), .int .i64 cd] w fun e w' => e = .returned (.bool (holdsB s cd)) ∧ Below w.heap.size w w' := by
  have hx := Sx.new w s
  have HX := hide hx
  have HB := hide ((Below.refl w.heap.size w).alloc (Nat.le_refl _) (.cells (stv s) 27))
  clear hx
  by_cases h0 : 0 ≤ cd
  · by_cases h1 : cd ≤ 13
    · have HQ : Hid (holdsB s cd = (evenB (bitsS s) (cd / 2) != decide (cd % 2 = 1))) := by unfold Hid holdsB; rw [decide_eq_true (show 0 ≤ cd ∧ cd ≤ 13 from ⟨h0, h1⟩)]; rfl
      go_enter Tryz.func19, Tryz.ntmps19
      go_wp2_with (first
        | (refine wpList_load_row rfl 27 (.tmp 2) rfl _ rfl 27 _ (0, 0) _ (unhide HX) Tryz.underlying27 rfl info_st ?_))
      refine (withBits_any s _).mono ?_
      rintro e w1 ⟨rfl, hb1⟩
      go_wp2_with fail
      refine (holdsEven_any (bitsS s) _ _).mono ?_
      rintro e w2 ⟨rfl, hb2⟩
      go_wp2_with fail
      go_ret
      exact ⟨ret_bool (by rw [HQ.out, show decide (cd % 2 = 1) = (cd % 2 == 1) by rw [Bool.eq_iff_iff]; simp]; cases evenB (bitsS s) (cd / 2) <;> cases (cd % 2 == 1) <;> rfl), (HB.out.trans (hb1.mono HB.out.size)).trans (hb2.mono (HB.out.trans (hb1.mono HB.out.size)).size)⟩
    · have HQ : Hid (holdsB s cd = false) := by unfold Hid holdsB; rw [decide_eq_false (by omega)]; rfl
      go_enter Tryz.func19, Tryz.ntmps19
      go_wp2_with fail
      go_ret
      exact ⟨ret_bool (by rw [HQ.out]), HB.out⟩
  · have HQ : Hid (holdsB s cd = false) := by unfold Hid holdsB; rw [decide_eq_false (by omega)]; rfl
    go_enter Tryz.func19, Tryz.ntmps19
    go_wp2_with fail
    go_ret
    exact ⟨ret_bool (by rw [HQ.out]), HB.out⟩

end Go.Proofs.YtfdnjoieolijcaaGreatDoor.Core

