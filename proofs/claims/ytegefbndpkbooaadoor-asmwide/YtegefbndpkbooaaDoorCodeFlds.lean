/- CodeFldA, CodeFldB, CodeFldC, CodeFldD, CodeWith, joined. -/
import Derived.Test.YtegefbndpkbooaaDoorCodeOwn
import Derived.Test.YtegefbndpkbooaaDoorCodeOrA
import Derived.Test.YtegefbndpkbooaaDoorInstForm
import Derived.Test.YtegefbndpkbooaaDoorCodeWord

/-! What the code reads out of bits, shape by shape: contracts. -/
set_option linter.unusedVariables false
namespace Go.Proofs.YtegefbndpkbooaaDoor.Code
open Go.RowKit Go.Proofs.YtegefbndpkbooaaDoor.Alu Go.Proofs.YtegefbndpkbooaaDoor.Imm Go.Proofs.YtegefbndpkbooaaDoor.Inst

set_option maxRecDepth 100000 in
theorem rf_1 (f x : Int) (hs : shp f = 1) (hx : 0 ≤ x) (hx2 : x < 4294967296) (w : World) (hL : Inst.Laid w) :
    Calls Tryd.prog 53 #[.int .i64 f, .int .u32 x] w fun e w' => e = .returned (.agg #[.int .i64 f, .int .i64 (x % 8), .int .i64 0, .int .i64 (x / 8 % 8), .int .i64 0, .int .i64 (fr (x / 64 % 32) (f == 1)), .int .i64 0, .int .i64 0, .int .i64 0, .int .i64 0, .int .i64 0]) ∧ Below w.heap.size w w' := by
  have e0 := ct_at x (h := 2) (l := 0) (by decide : pw 0 = 1) (by decide : pw (2 - 0 + 1) = 8)
  have e1 := ct_at x (h := 5) (l := 3) (by decide : pw 3 = 8) (by decide : pw (5 - 3 + 1) = 8)
  have e2 := ct_at x (h := 10) (l := 6) (by decide : pw 6 = 64) (by decide : pw (10 - 6 + 1) = 32)
  have hB := (Below.refl w.heap.size w).alloc (Nat.le_refl _) (.cells #[.int .i64 0, .int .i64 0, .int .i64 0, .int .i64 0, .int .i64 0, .int .i64 0, .int .i64 0, .int .i64 0, .int .i64 0, .int .i64 0, .int .i64 0] 36)
  have hLs := (hL.below hB).shs
  go_enter Tryd.func53, Tryd.ntmps53
  go_wp2_with (first | (go_at_call 55; refine (Shape_any _ _ hLs).mono ?_; rintro e w' ⟨rfl, rfl⟩) | (go_at_call 63; refine (field_any _ _ _ hx hx2 (by decide) (by decide) (by decide) _).mono ?_; rintro e w' ⟨rfl, rfl⟩) | (go_at_call 65; refine (far_any _ _ _).mono ?_; rintro e w' ⟨rfl, rfl⟩))
  exact bodyPost_ret (v := (.agg #[.int .i64 f, .int .i64 (x % 8), .int .i64 0, .int .i64 (x / 8 % 8), .int .i64 0, .int .i64 (fr (x / 64 % 32) (f == 1)), .int .i64 0, .int .i64 0, .int .i64 0, .int .i64 0, .int .i64 0])) (by simp [results, Tryd.results53, go_sem]) rfl ⟨rfl, ((Below.refl w.heap.size w).alloc (Nat.le_refl _) _).drew.drew.drew⟩

set_option maxRecDepth 100000 in
theorem rf_2 (f x : Int) (hs : shp f = 2) (hx : 0 ≤ x) (hx2 : x < 4294967296) (w : World) (hL : Inst.Laid w) :
    Calls Tryd.prog 53 #[.int .i64 f, .int .u32 x] w fun e w' => e = .returned (.agg #[.int .i64 f, .int .i64 (x % 8), .int .i64 (x / 8 % 8), .int .i64 (x / 64 % 8), .int .i64 0, .int .i64 0, .int .i64 0, .int .i64 0, .int .i64 0, .int .i64 0, .int .i64 0]) ∧ Below w.heap.size w w' := by
  have e0 := ct_at x (h := 2) (l := 0) (by decide : pw 0 = 1) (by decide : pw (2 - 0 + 1) = 8)
  have e1 := ct_at x (h := 5) (l := 3) (by decide : pw 3 = 8) (by decide : pw (5 - 3 + 1) = 8)
  have e2 := ct_at x (h := 8) (l := 6) (by decide : pw 6 = 64) (by decide : pw (8 - 6 + 1) = 8)
  have hB := (Below.refl w.heap.size w).alloc (Nat.le_refl _) (.cells #[.int .i64 0, .int .i64 0, .int .i64 0, .int .i64 0, .int .i64 0, .int .i64 0, .int .i64 0, .int .i64 0, .int .i64 0, .int .i64 0, .int .i64 0] 36)
  have hLs := (hL.below hB).shs
  go_enter Tryd.func53, Tryd.ntmps53
  go_wp2_with (first | (go_at_call 55; refine (Shape_any _ _ hLs).mono ?_; rintro e w' ⟨rfl, rfl⟩) | (go_at_call 63; refine (field_any _ _ _ hx hx2 (by decide) (by decide) (by decide) _).mono ?_; rintro e w' ⟨rfl, rfl⟩))
  exact bodyPost_ret (v := (.agg #[.int .i64 f, .int .i64 (x % 8), .int .i64 (x / 8 % 8), .int .i64 (x / 64 % 8), .int .i64 0, .int .i64 0, .int .i64 0, .int .i64 0, .int .i64 0, .int .i64 0, .int .i64 0])) (by simp [results, Tryd.results53, go_sem]) rfl ⟨rfl, ((Below.refl w.heap.size w).alloc (Nat.le_refl _) _).drew.drew.drew⟩

set_option maxRecDepth 100000 in
theorem rf_3 (f x : Int) (hs : shp f = 3) (hx : 0 ≤ x) (hx2 : x < 4294967296) (w : World) (hL : Inst.Laid w) :
    Calls Tryd.prog 53 #[.int .i64 f, .int .u32 x] w fun e w' => e = .returned (.agg #[.int .i64 f, .int .i64 (x % 8), .int .i64 (x / 8 % 8), .int .i64 0, .int .i64 0, .int .i64 (x / 64 % 8), .int .i64 0, .int .i64 0, .int .i64 0, .int .i64 0, .int .i64 0]) ∧ Below w.heap.size w w' := by
  have e0 := ct_at x (h := 2) (l := 0) (by decide : pw 0 = 1) (by decide : pw (2 - 0 + 1) = 8)
  have e1 := ct_at x (h := 5) (l := 3) (by decide : pw 3 = 8) (by decide : pw (5 - 3 + 1) = 8)
  have e2 := ct_at x (h := 8) (l := 6) (by decide : pw 6 = 64) (by decide : pw (8 - 6 + 1) = 8)
  have hB := (Below.refl w.heap.size w).alloc (Nat.le_refl _) (.cells #[.int .i64 0, .int .i64 0, .int .i64 0, .int .i64 0, .int .i64 0, .int .i64 0, .int .i64 0, .int .i64 0, .int .i64 0, .int .i64 0, .int .i64 0] 36)
  have hLs := (hL.below hB).shs
  go_enter Tryd.func53, Tryd.ntmps53
  go_wp2_with (first | (go_at_call 55; refine (Shape_any _ _ hLs).mono ?_; rintro e w' ⟨rfl, rfl⟩) | (go_at_call 63; refine (field_any _ _ _ hx hx2 (by decide) (by decide) (by decide) _).mono ?_; rintro e w' ⟨rfl, rfl⟩))
  exact bodyPost_ret (v := (.agg #[.int .i64 f, .int .i64 (x % 8), .int .i64 (x / 8 % 8), .int .i64 0, .int .i64 0, .int .i64 (x / 64 % 8), .int .i64 0, .int .i64 0, .int .i64 0, .int .i64 0, .int .i64 0])) (by simp [results, Tryd.results53, go_sem]) rfl ⟨rfl, ((Below.refl w.heap.size w).alloc (Nat.le_refl _) _).drew.drew.drew⟩

set_option maxRecDepth 100000 in
theorem rf_4 (f x : Int) (hs : shp f = 4) (hx : 0 ≤ x) (hx2 : x < 4294967296) (w : World) (hL : Inst.Laid w) :
    Calls Tryd.prog 53 #[.int .i64 f, .int .u32 x] w fun e w' => e = .returned (.agg #[.int .i64 f, .int .i64 (x / 256 % 8), .int .i64 0, .int .i64 0, .int .i64 0, .int .i64 (x % 256), .int .i64 0, .int .i64 0, .int .i64 0, .int .i64 0, .int .i64 0]) ∧ Below w.heap.size w w' := by
  have e0 := ct_at x (h := 10) (l := 8) (by decide : pw 8 = 256) (by decide : pw (10 - 8 + 1) = 8)
  have e1 := ct_at x (h := 7) (l := 0) (by decide : pw 0 = 1) (by decide : pw (7 - 0 + 1) = 256)
  have hB := (Below.refl w.heap.size w).alloc (Nat.le_refl _) (.cells #[.int .i64 0, .int .i64 0, .int .i64 0, .int .i64 0, .int .i64 0, .int .i64 0, .int .i64 0, .int .i64 0, .int .i64 0, .int .i64 0, .int .i64 0] 36)
  have hLs := (hL.below hB).shs
  go_enter Tryd.func53, Tryd.ntmps53
  go_wp2_with (first | (go_at_call 55; refine (Shape_any _ _ hLs).mono ?_; rintro e w' ⟨rfl, rfl⟩) | (go_at_call 63; refine (field_any _ _ _ hx hx2 (by decide) (by decide) (by decide) _).mono ?_; rintro e w' ⟨rfl, rfl⟩))
  exact bodyPost_ret (v := (.agg #[.int .i64 f, .int .i64 (x / 256 % 8), .int .i64 0, .int .i64 0, .int .i64 0, .int .i64 (x % 256), .int .i64 0, .int .i64 0, .int .i64 0, .int .i64 0, .int .i64 0])) (by simp [results, Tryd.results53, go_sem]) rfl ⟨rfl, ((Below.refl w.heap.size w).alloc (Nat.le_refl _) _).drew.drew⟩

set_option maxRecDepth 100000 in
theorem rf_5 (f x : Int) (hs : shp f = 5) (hx : 0 ≤ x) (hx2 : x < 4294967296) (w : World) (hL : Inst.Laid w) :
    Calls Tryd.prog 53 #[.int .i64 f, .int .u32 x] w fun e w' => e = .returned (.agg #[.int .i64 f, .int .i64 (x % 8), .int .i64 0, .int .i64 (x / 8 % 8), .int .i64 0, .int .i64 0, .int .i64 0, .int .i64 0, .int .i64 0, .int .i64 0, .int .i64 0]) ∧ Below w.heap.size w w' := by
  have e0 := ct_at x (h := 2) (l := 0) (by decide : pw 0 = 1) (by decide : pw (2 - 0 + 1) = 8)
  have e1 := ct_at x (h := 5) (l := 3) (by decide : pw 3 = 8) (by decide : pw (5 - 3 + 1) = 8)
  have hB := (Below.refl w.heap.size w).alloc (Nat.le_refl _) (.cells #[.int .i64 0, .int .i64 0, .int .i64 0, .int .i64 0, .int .i64 0, .int .i64 0, .int .i64 0, .int .i64 0, .int .i64 0, .int .i64 0, .int .i64 0] 36)
  have hLs := (hL.below hB).shs
  go_enter Tryd.func53, Tryd.ntmps53
  go_wp2_with (first | (go_at_call 55; refine (Shape_any _ _ hLs).mono ?_; rintro e w' ⟨rfl, rfl⟩) | (go_at_call 63; refine (field_any _ _ _ hx hx2 (by decide) (by decide) (by decide) _).mono ?_; rintro e w' ⟨rfl, rfl⟩))
  exact bodyPost_ret (v := (.agg #[.int .i64 f, .int .i64 (x % 8), .int .i64 0, .int .i64 (x / 8 % 8), .int .i64 0, .int .i64 0, .int .i64 0, .int .i64 0, .int .i64 0, .int .i64 0, .int .i64 0])) (by simp [results, Tryd.results53, go_sem]) rfl ⟨rfl, ((Below.refl w.heap.size w).alloc (Nat.le_refl _) _).drew.drew⟩

set_option maxRecDepth 100000 in
theorem rf_6 (f x : Int) (hs : shp f = 6) (hx : 0 ≤ x) (hx2 : x < 4294967296) (w : World) (hL : Inst.Laid w) :
    Calls Tryd.prog 53 #[.int .i64 f, .int .u32 x] w fun e w' => e = .returned (.agg #[.int .i64 f, .int .i64 (x / 128 % 2 * 8 + x % 8), .int .i64 0, .int .i64 (x / 8 % 16), .int .i64 0, .int .i64 0, .int .i64 0, .int .i64 0, .int .i64 0, .int .i64 0, .int .i64 0]) ∧ Below w.heap.size w w' := by
  have e0 := ct_at x (h := 7) (l := 7) (by decide : pw 7 = 128) (by decide : pw (7 - 7 + 1) = 2)
  have e1 := ct_at x (h := 2) (l := 0) (by decide : pw 0 = 1) (by decide : pw (2 - 0 + 1) = 8)
  have e2 := ct_at x (h := 6) (l := 3) (by decide : pw 3 = 8) (by decide : pw (6 - 3 + 1) = 16)
  have ho := (or_f6 (a := x / 128 % 2) (b := x % 8) (by omega) (by omega)).1
  have hB := (Below.refl w.heap.size w).alloc (Nat.le_refl _) (.cells #[.int .i64 0, .int .i64 0, .int .i64 0, .int .i64 0, .int .i64 0, .int .i64 0, .int .i64 0, .int .i64 0, .int .i64 0, .int .i64 0, .int .i64 0] 36)
  have hLs := (hL.below hB).shs
  go_enter Tryd.func53, Tryd.ntmps53
  go_wp2_with (first | (go_at_call 55; refine (Shape_any _ _ hLs).mono ?_; rintro e w' ⟨rfl, rfl⟩) | (go_at_call 63; refine (field_any _ _ _ hx hx2 (by decide) (by decide) (by decide) _).mono ?_; rintro e w' ⟨rfl, rfl⟩))
  exact bodyPost_ret (v := (.agg #[.int .i64 f, .int .i64 (x / 128 % 2 * 8 + x % 8), .int .i64 0, .int .i64 (x / 8 % 16), .int .i64 0, .int .i64 0, .int .i64 0, .int .i64 0, .int .i64 0, .int .i64 0, .int .i64 0])) (by simp [results, Tryd.results53, go_sem]) rfl ⟨rfl, ((Below.refl w.heap.size w).alloc (Nat.le_refl _) _).drew.drew.drew⟩

set_option maxRecDepth 100000 in
theorem rf_7 (f x : Int) (hs : shp f = 7) (hx : 0 ≤ x) (hx2 : x < 4294967296) (w : World) (hL : Inst.Laid w) :
    Calls Tryd.prog 53 #[.int .i64 f, .int .u32 x] w fun e w' => e = .returned (.agg #[.int .i64 f, .int .i64 0, .int .i64 0, .int .i64 (x / 8 % 16), .int .i64 0, .int .i64 0, .int .i64 0, .int .i64 0, .int .i64 0, .int .i64 0, .int .i64 0]) ∧ Below w.heap.size w w' := by
  have e0 := ct_at x (h := 6) (l := 3) (by decide : pw 3 = 8) (by decide : pw (6 - 3 + 1) = 16)
  have hB := (Below.refl w.heap.size w).alloc (Nat.le_refl _) (.cells #[.int .i64 0, .int .i64 0, .int .i64 0, .int .i64 0, .int .i64 0, .int .i64 0, .int .i64 0, .int .i64 0, .int .i64 0, .int .i64 0, .int .i64 0] 36)
  have hLs := (hL.below hB).shs
  go_enter Tryd.func53, Tryd.ntmps53
  go_wp2_with (first | (go_at_call 55; refine (Shape_any _ _ hLs).mono ?_; rintro e w' ⟨rfl, rfl⟩) | (go_at_call 63; refine (field_any _ _ _ hx hx2 (by decide) (by decide) (by decide) _).mono ?_; rintro e w' ⟨rfl, rfl⟩))
  exact bodyPost_ret (v := (.agg #[.int .i64 f, .int .i64 0, .int .i64 0, .int .i64 (x / 8 % 16), .int .i64 0, .int .i64 0, .int .i64 0, .int .i64 0, .int .i64 0, .int .i64 0, .int .i64 0])) (by simp [results, Tryd.results53, go_sem]) rfl ⟨rfl, ((Below.refl w.heap.size w).alloc (Nat.le_refl _) _).drew⟩

set_option maxRecDepth 100000 in
theorem rf_8 (f x : Int) (hs : shp f = 8) (hx : 0 ≤ x) (hx2 : x < 4294967296) (w : World) (hL : Inst.Laid w) :
    Calls Tryd.prog 53 #[.int .i64 f, .int .u32 x] w fun e w' => e = .returned (.agg #[.int .i64 f, .int .i64 (x / 256 % 8), .int .i64 0, .int .i64 0, .int .i64 0, .int .i64 (x % 256 * 4), .int .i64 0, .int .i64 0, .int .i64 0, .int .i64 0, .int .i64 0]) ∧ Below w.heap.size w w' := by
  have e0 := ct_at x (h := 10) (l := 8) (by decide : pw 8 = 256) (by decide : pw (10 - 8 + 1) = 8)
  have e1 := ct_at x (h := 7) (l := 0) (by decide : pw 0 = 1) (by decide : pw (7 - 0 + 1) = 256)
  have hB := (Below.refl w.heap.size w).alloc (Nat.le_refl _) (.cells #[.int .i64 0, .int .i64 0, .int .i64 0, .int .i64 0, .int .i64 0, .int .i64 0, .int .i64 0, .int .i64 0, .int .i64 0, .int .i64 0, .int .i64 0] 36)
  have hLs := (hL.below hB).shs
  go_enter Tryd.func53, Tryd.ntmps53
  go_wp2_with (first | (go_at_call 55; refine (Shape_any _ _ hLs).mono ?_; rintro e w' ⟨rfl, rfl⟩) | (go_at_call 63; refine (field_any _ _ _ hx hx2 (by decide) (by decide) (by decide) _).mono ?_; rintro e w' ⟨rfl, rfl⟩))
  exact bodyPost_ret (v := (.agg #[.int .i64 f, .int .i64 (x / 256 % 8), .int .i64 0, .int .i64 0, .int .i64 0, .int .i64 (x % 256 * 4), .int .i64 0, .int .i64 0, .int .i64 0, .int .i64 0, .int .i64 0])) (by simp [results, Tryd.results53, go_sem]) rfl ⟨rfl, ((Below.refl w.heap.size w).alloc (Nat.le_refl _) _).drew.drew⟩

set_option maxRecDepth 100000 in
theorem rf_9 (f x : Int) (hs : shp f = 9) (hx : 0 ≤ x) (hx2 : x < 4294967296) (w : World) (hL : Inst.Laid w) :
    Calls Tryd.prog 53 #[.int .i64 f, .int .u32 x] w fun e w' => e = .returned (.agg #[.int .i64 f, .int .i64 (x % 8), .int .i64 (x / 8 % 8), .int .i64 0, .int .i64 0, .int .i64 (x / 64 % 32 * 4), .int .i64 0, .int .i64 0, .int .i64 0, .int .i64 0, .int .i64 0]) ∧ Below w.heap.size w w' := by
  have e0 := ct_at x (h := 2) (l := 0) (by decide : pw 0 = 1) (by decide : pw (2 - 0 + 1) = 8)
  have e1 := ct_at x (h := 5) (l := 3) (by decide : pw 3 = 8) (by decide : pw (5 - 3 + 1) = 8)
  have e2 := ct_at x (h := 10) (l := 6) (by decide : pw 6 = 64) (by decide : pw (10 - 6 + 1) = 32)
  have hB := (Below.refl w.heap.size w).alloc (Nat.le_refl _) (.cells #[.int .i64 0, .int .i64 0, .int .i64 0, .int .i64 0, .int .i64 0, .int .i64 0, .int .i64 0, .int .i64 0, .int .i64 0, .int .i64 0, .int .i64 0] 36)
  have hLs := (hL.below hB).shs
  go_enter Tryd.func53, Tryd.ntmps53
  go_wp2_with (first | (go_at_call 55; refine (Shape_any _ _ hLs).mono ?_; rintro e w' ⟨rfl, rfl⟩) | (go_at_call 63; refine (field_any _ _ _ hx hx2 (by decide) (by decide) (by decide) _).mono ?_; rintro e w' ⟨rfl, rfl⟩))
  exact bodyPost_ret (v := (.agg #[.int .i64 f, .int .i64 (x % 8), .int .i64 (x / 8 % 8), .int .i64 0, .int .i64 0, .int .i64 (x / 64 % 32 * 4), .int .i64 0, .int .i64 0, .int .i64 0, .int .i64 0, .int .i64 0])) (by simp [results, Tryd.results53, go_sem]) rfl ⟨rfl, ((Below.refl w.heap.size w).alloc (Nat.le_refl _) _).drew.drew.drew⟩

end Go.Proofs.YtegefbndpkbooaaDoor.Code

/-! What the code reads out of bits, shape by shape: contracts. -/
set_option linter.unusedVariables false
namespace Go.Proofs.YtegefbndpkbooaaDoor.Code
open Go.RowKit Go.Proofs.YtegefbndpkbooaaDoor.Alu Go.Proofs.YtegefbndpkbooaaDoor.Imm Go.Proofs.YtegefbndpkbooaaDoor.Inst

set_option maxRecDepth 100000 in
theorem rf_10 (f x : Int) (hs : shp f = 10) (hx : 0 ≤ x) (hx2 : x < 4294967296) (w : World) (hL : Inst.Laid w) :
    Calls Tryd.prog 53 #[.int .i64 f, .int .u32 x] w fun e w' => e = .returned (.agg #[.int .i64 f, .int .i64 0, .int .i64 0, .int .i64 0, .int .i64 0, .int .i64 (x % 128 * 4), .int .i64 0, .int .i64 0, .int .i64 0, .int .i64 0, .int .i64 0]) ∧ Below w.heap.size w w' := by
  have e0 := ct_at x (h := 6) (l := 0) (by decide : pw 0 = 1) (by decide : pw (6 - 0 + 1) = 128)
  have hB := (Below.refl w.heap.size w).alloc (Nat.le_refl _) (.cells #[.int .i64 0, .int .i64 0, .int .i64 0, .int .i64 0, .int .i64 0, .int .i64 0, .int .i64 0, .int .i64 0, .int .i64 0, .int .i64 0, .int .i64 0] 36)
  have hLs := (hL.below hB).shs
  go_enter Tryd.func53, Tryd.ntmps53
  go_wp2_with (first | (go_at_call 55; refine (Shape_any _ _ hLs).mono ?_; rintro e w' ⟨rfl, rfl⟩) | (go_at_call 63; refine (field_any _ _ _ hx hx2 (by decide) (by decide) (by decide) _).mono ?_; rintro e w' ⟨rfl, rfl⟩))
  exact bodyPost_ret (v := (.agg #[.int .i64 f, .int .i64 0, .int .i64 0, .int .i64 0, .int .i64 0, .int .i64 (x % 128 * 4), .int .i64 0, .int .i64 0, .int .i64 0, .int .i64 0, .int .i64 0])) (by simp [results, Tryd.results53, go_sem]) rfl ⟨rfl, ((Below.refl w.heap.size w).alloc (Nat.le_refl _) _).drew⟩

set_option maxRecDepth 100000 in
theorem rf_11 (f x : Int) (hs : shp f = 11) (hx : 0 ≤ x) (hx2 : x < 4294967296) (w : World) (hL : Inst.Laid w) :
    Calls Tryd.prog 53 #[.int .i64 f, .int .u32 x] w fun e w' => e = .returned (.agg #[.int .i64 f, .int .i64 0, .int .i64 0, .int .i64 0, .int .i64 0, .int .i64 0, .int .i64 0, .int .i64 0, .int .i64 0, .int .i64 0, .int .i64 (x / 256 % 2 * 16384 + x % 256)]) ∧ Below w.heap.size w w' := by
  have e0 := ct_at x (h := 8) (l := 8) (by decide : pw 8 = 256) (by decide : pw (8 - 8 + 1) = 2)
  have e1 := ct_at x (h := 7) (l := 0) (by decide : pw 0 = 1) (by decide : pw (7 - 0 + 1) = 256)
  have ho := (or_f11 (a := x / 256 % 2) (b := x % 256) (by omega) (by omega)).1
  have hB := (Below.refl w.heap.size w).alloc (Nat.le_refl _) (.cells #[.int .i64 0, .int .i64 0, .int .i64 0, .int .i64 0, .int .i64 0, .int .i64 0, .int .i64 0, .int .i64 0, .int .i64 0, .int .i64 0, .int .i64 0] 36)
  have hLs := (hL.below hB).shs
  go_enter Tryd.func53, Tryd.ntmps53
  go_wp2_with (first | (go_at_call 55; refine (Shape_any _ _ hLs).mono ?_; rintro e w' ⟨rfl, rfl⟩) | (go_at_call 63; refine (field_any _ _ _ hx hx2 (by decide) (by decide) (by decide) _).mono ?_; rintro e w' ⟨rfl, rfl⟩))
  exact bodyPost_ret (v := (.agg #[.int .i64 f, .int .i64 0, .int .i64 0, .int .i64 0, .int .i64 0, .int .i64 0, .int .i64 0, .int .i64 0, .int .i64 0, .int .i64 0, .int .i64 (x / 256 % 2 * 16384 + x % 256)])) (by simp [results, Tryd.results53, go_sem]) rfl ⟨rfl, ((Below.refl w.heap.size w).alloc (Nat.le_refl _) _).drew.drew⟩

set_option maxRecDepth 100000 in
theorem rf_12 (f x : Int) (hs : shp f = 12) (hx : 0 ≤ x) (hx2 : x < 4294967296) (w : World) (hL : Inst.Laid w) :
    Calls Tryd.prog 53 #[.int .i64 f, .int .u32 x] w fun e w' => e = .returned (.agg #[.int .i64 f, .int .i64 0, .int .i64 0, .int .i64 0, .int .i64 0, .int .i64 0, .int .i64 0, .int .i64 0, .int .i64 0, .int .i64 0, .int .i64 (x / 256 % 2 * 32768 + x % 256)]) ∧ Below w.heap.size w w' := by
  have e0 := ct_at x (h := 8) (l := 8) (by decide : pw 8 = 256) (by decide : pw (8 - 8 + 1) = 2)
  have e1 := ct_at x (h := 7) (l := 0) (by decide : pw 0 = 1) (by decide : pw (7 - 0 + 1) = 256)
  have ho := (or_f12 (a := x / 256 % 2) (b := x % 256) (by omega) (by omega)).1
  have hB := (Below.refl w.heap.size w).alloc (Nat.le_refl _) (.cells #[.int .i64 0, .int .i64 0, .int .i64 0, .int .i64 0, .int .i64 0, .int .i64 0, .int .i64 0, .int .i64 0, .int .i64 0, .int .i64 0, .int .i64 0] 36)
  have hLs := (hL.below hB).shs
  go_enter Tryd.func53, Tryd.ntmps53
  go_wp2_with (first | (go_at_call 55; refine (Shape_any _ _ hLs).mono ?_; rintro e w' ⟨rfl, rfl⟩) | (go_at_call 63; refine (field_any _ _ _ hx hx2 (by decide) (by decide) (by decide) _).mono ?_; rintro e w' ⟨rfl, rfl⟩))
  exact bodyPost_ret (v := (.agg #[.int .i64 f, .int .i64 0, .int .i64 0, .int .i64 0, .int .i64 0, .int .i64 0, .int .i64 0, .int .i64 0, .int .i64 0, .int .i64 0, .int .i64 (x / 256 % 2 * 32768 + x % 256)])) (by simp [results, Tryd.results53, go_sem]) rfl ⟨rfl, ((Below.refl w.heap.size w).alloc (Nat.le_refl _) _).drew.drew⟩

set_option maxRecDepth 100000 in
theorem rf_13 (f x : Int) (hs : shp f = 13) (hx : 0 ≤ x) (hx2 : x < 4294967296) (w : World) (hL : Inst.Laid w) :
    Calls Tryd.prog 53 #[.int .i64 f, .int .u32 x] w fun e w' => e = .returned (.agg #[.int .i64 f, .int .i64 0, .int .i64 0, .int .i64 0, .int .i64 0, .int .i64 0, .int .i64 0, .int .i64 0, .int .i64 0, .int .i64 0, .int .i64 0]) ∧ Below w.heap.size w w' := by
  have hB := (Below.refl w.heap.size w).alloc (Nat.le_refl _) (.cells #[.int .i64 0, .int .i64 0, .int .i64 0, .int .i64 0, .int .i64 0, .int .i64 0, .int .i64 0, .int .i64 0, .int .i64 0, .int .i64 0, .int .i64 0] 36)
  have hLs := (hL.below hB).shs
  go_enter Tryd.func53, Tryd.ntmps53
  go_wp2_with (first | (go_at_call 55; refine (Shape_any _ _ hLs).mono ?_; rintro e w' ⟨rfl, rfl⟩) | (go_at_call 63; refine (field_any _ _ _ hx hx2 (by decide) (by decide) (by decide) _).mono ?_; rintro e w' ⟨rfl, rfl⟩))
  exact bodyPost_ret (v := (.agg #[.int .i64 f, .int .i64 0, .int .i64 0, .int .i64 0, .int .i64 0, .int .i64 0, .int .i64 0, .int .i64 0, .int .i64 0, .int .i64 0, .int .i64 0])) (by simp [results, Tryd.results53, go_sem]) rfl ⟨rfl, ((Below.refl w.heap.size w).alloc (Nat.le_refl _) _)⟩

set_option maxRecDepth 100000 in
theorem rf_14 (f x : Int) (hs : shp f = 14) (hx : 0 ≤ x) (hx2 : x < 4294967296) (w : World) (hL : Inst.Laid w) :
    Calls Tryd.prog 53 #[.int .i64 f, .int .u32 x] w fun e w' => e = .returned (.agg #[.int .i64 f, .int .i64 0, .int .i64 0, .int .i64 0, .int .i64 0, .int .i64 (x % 256), .int .i64 0, .int .i64 0, .int .i64 0, .int .i64 0, .int .i64 0]) ∧ Below w.heap.size w w' := by
  have e0 := ct_at x (h := 7) (l := 0) (by decide : pw 0 = 1) (by decide : pw (7 - 0 + 1) = 256)
  have hB := (Below.refl w.heap.size w).alloc (Nat.le_refl _) (.cells #[.int .i64 0, .int .i64 0, .int .i64 0, .int .i64 0, .int .i64 0, .int .i64 0, .int .i64 0, .int .i64 0, .int .i64 0, .int .i64 0, .int .i64 0] 36)
  have hLs := (hL.below hB).shs
  go_enter Tryd.func53, Tryd.ntmps53
  go_wp2_with (first | (go_at_call 55; refine (Shape_any _ _ hLs).mono ?_; rintro e w' ⟨rfl, rfl⟩) | (go_at_call 63; refine (field_any _ _ _ hx hx2 (by decide) (by decide) (by decide) _).mono ?_; rintro e w' ⟨rfl, rfl⟩))
  exact bodyPost_ret (v := (.agg #[.int .i64 f, .int .i64 0, .int .i64 0, .int .i64 0, .int .i64 0, .int .i64 (x % 256), .int .i64 0, .int .i64 0, .int .i64 0, .int .i64 0, .int .i64 0])) (by simp [results, Tryd.results53, go_sem]) rfl ⟨rfl, ((Below.refl w.heap.size w).alloc (Nat.le_refl _) _).drew⟩

set_option maxRecDepth 100000 in
theorem rf_15 (f x : Int) (hs : shp f = 15) (hx : 0 ≤ x) (hx2 : x < 4294967296) (w : World) (hL : Inst.Laid w) :
    Calls Tryd.prog 53 #[.int .i64 f, .int .u32 x] w fun e w' => e = .returned (.agg #[.int .i64 f, .int .i64 0, .int .i64 0, .int .i64 0, .int .i64 0, .int .i64 (sx (x % 256 * 2) 256), .int .i64 0, .int .i64 0, .int .i64 0, .int .i64 (x / 256 % 16), .int .i64 0]) ∧ Below w.heap.size w w' := by
  have e0 := ct_at x (h := 11) (l := 8) (by decide : pw 8 = 256) (by decide : pw (11 - 8 + 1) = 16)
  have e1 := ct_at x (h := 7) (l := 0) (by decide : pw 0 = 1) (by decide : pw (7 - 0 + 1) = 256)
  have hB := (Below.refl w.heap.size w).alloc (Nat.le_refl _) (.cells #[.int .i64 0, .int .i64 0, .int .i64 0, .int .i64 0, .int .i64 0, .int .i64 0, .int .i64 0, .int .i64 0, .int .i64 0, .int .i64 0, .int .i64 0] 36)
  have hLs := (hL.below hB).shs
  go_enter Tryd.func53, Tryd.ntmps53
  go_wp2_with (first | (go_at_call 55; refine (Shape_any _ _ hLs).mono ?_; rintro e w' ⟨rfl, rfl⟩) | (go_at_call 63; refine (field_any _ _ _ hx hx2 (by decide) (by decide) (by decide) _).mono ?_; rintro e w' ⟨rfl, rfl⟩) | (go_at_call 35; refine (cut_any _ _ _ hx hx2 (by decide) (by decide) (by decide) _).mono ?_; rintro e w' ⟨rfl, rfl⟩) | (go_at_call 68; refine (signed_any _ _ 256 (by omega) (by omega) (by decide) (by decide) (by decide) (by decide) _).mono ?_; rintro e w' ⟨rfl, rfl⟩))
  exact bodyPost_ret (v := (.agg #[.int .i64 f, .int .i64 0, .int .i64 0, .int .i64 0, .int .i64 0, .int .i64 (sx (x % 256 * 2) 256), .int .i64 0, .int .i64 0, .int .i64 0, .int .i64 (x / 256 % 16), .int .i64 0])) (by simp [results, Tryd.results53, go_sem]) rfl ⟨rfl, ((Below.refl w.heap.size w).alloc (Nat.le_refl _) _).drew.drew⟩

set_option maxRecDepth 100000 in
theorem rf_16 (f x : Int) (hs : shp f = 16) (hx : 0 ≤ x) (hx2 : x < 4294967296) (w : World) (hL : Inst.Laid w) :
    Calls Tryd.prog 53 #[.int .i64 f, .int .u32 x] w fun e w' => e = .returned (.agg #[.int .i64 f, .int .i64 0, .int .i64 0, .int .i64 0, .int .i64 0, .int .i64 (sx (x % 2048 * 2) 2048), .int .i64 0, .int .i64 0, .int .i64 0, .int .i64 0, .int .i64 0]) ∧ Below w.heap.size w w' := by
  have e0 := ct_at x (h := 10) (l := 0) (by decide : pw 0 = 1) (by decide : pw (10 - 0 + 1) = 2048)
  have hB := (Below.refl w.heap.size w).alloc (Nat.le_refl _) (.cells #[.int .i64 0, .int .i64 0, .int .i64 0, .int .i64 0, .int .i64 0, .int .i64 0, .int .i64 0, .int .i64 0, .int .i64 0, .int .i64 0, .int .i64 0] 36)
  have hLs := (hL.below hB).shs
  go_enter Tryd.func53, Tryd.ntmps53
  go_wp2_with (first | (go_at_call 55; refine (Shape_any _ _ hLs).mono ?_; rintro e w' ⟨rfl, rfl⟩) | (go_at_call 63; refine (field_any _ _ _ hx hx2 (by decide) (by decide) (by decide) _).mono ?_; rintro e w' ⟨rfl, rfl⟩) | (go_at_call 35; refine (cut_any _ _ _ hx hx2 (by decide) (by decide) (by decide) _).mono ?_; rintro e w' ⟨rfl, rfl⟩) | (go_at_call 68; refine (signed_any _ _ 2048 (by omega) (by omega) (by decide) (by decide) (by decide) (by decide) _).mono ?_; rintro e w' ⟨rfl, rfl⟩))
  exact bodyPost_ret (v := (.agg #[.int .i64 f, .int .i64 0, .int .i64 0, .int .i64 0, .int .i64 0, .int .i64 (sx (x % 2048 * 2) 2048), .int .i64 0, .int .i64 0, .int .i64 0, .int .i64 0, .int .i64 0])) (by simp [results, Tryd.results53, go_sem]) rfl ⟨rfl, ((Below.refl w.heap.size w).alloc (Nat.le_refl _) _).drew⟩

set_option maxRecDepth 100000 in
theorem rf_17 (f x : Int) (hs : shp f = 17) (hx : 0 ≤ x) (hx2 : x < 4294967296) (w : World) (hL : Inst.Laid w) :
    Calls Tryd.prog 52 #[.int .i64 f, .int .u32 x] w fun e w' => e = .returned (.agg #[.int .i64 f, .int .i64 (x / 256 % 16), .int .i64 0, .int .i64 0, .int .i64 0, .int .i64 (x / 65536 % 16 * 4096 + oft x), .int .i64 0, .int .i64 0, .int .i64 0, .int .i64 0, .int .i64 0]) ∧ Below w.heap.size w w' := by
  have e0 := ct_at x (h := 20) (l := 20) (by decide : pw 20 = 1048576) (by decide : pw (20 - 20 + 1) = 2)
  have e1 := ct_at x (h := 19) (l := 16) (by decide : pw 16 = 65536) (by decide : pw (19 - 16 + 1) = 16)
  have e2 := ct_at x (h := 3) (l := 0) (by decide : pw 0 = 1) (by decide : pw (3 - 0 + 1) = 16)
  have e3 := ct_at x (h := 15) (l := 12) (by decide : pw 12 = 4096) (by decide : pw (15 - 12 + 1) = 16)
  have e4 := ct_at x (h := 11) (l := 8) (by decide : pw 8 = 256) (by decide : pw (11 - 8 + 1) = 16)
  have hoft := oft_bd x
  have ho := (or_f17 (a := x / 65536 % 16) (b := oft x) (by omega) (by omega)).1
  have hB := (Below.refl w.heap.size w).alloc (Nat.le_refl _) (.cells #[.int .i64 0, .int .i64 0, .int .i64 0, .int .i64 0, .int .i64 0, .int .i64 0, .int .i64 0, .int .i64 0, .int .i64 0, .int .i64 0, .int .i64 0] 36)
  have hLs := (hL.below hB.drew.drew.drew.drew.drew).shs
  go_enter Tryd.func52, Tryd.ntmps52
  go_wp2_with (first | (go_at_call 55; refine (Shape_any _ _ hLs).mono ?_; rintro e w' ⟨rfl, rfl⟩) | (go_at_call 63; refine (field_any _ _ _ hx hx2 (by decide) (by decide) (by decide) _).mono ?_; rintro e w' ⟨rfl, rfl⟩) | (go_at_call 64; refine (ofTwelve_any _ hx hx2 _).mono ?_; rintro e w' ⟨rfl, rfl⟩))
  exact bodyPost_ret (v := (.agg #[.int .i64 f, .int .i64 (x / 256 % 16), .int .i64 0, .int .i64 0, .int .i64 0, .int .i64 (x / 65536 % 16 * 4096 + oft x), .int .i64 0, .int .i64 0, .int .i64 0, .int .i64 0, .int .i64 0])) (by simp [results, Tryd.results52, go_sem]) rfl ⟨rfl, ((Below.refl w.heap.size w).alloc (Nat.le_refl _) _).drew.drew.drew.drew.drew.drew.drew.drew.drew⟩

end Go.Proofs.YtegefbndpkbooaaDoor.Code

/-! What the code reads out of bits, shape by shape: contracts. -/
set_option linter.unusedVariables false
namespace Go.Proofs.YtegefbndpkbooaaDoor.Code
open Go.RowKit Go.Proofs.YtegefbndpkbooaaDoor.Alu Go.Proofs.YtegefbndpkbooaaDoor.Imm Go.Proofs.YtegefbndpkbooaaDoor.Inst

set_option maxRecDepth 100000 in
theorem rf_18 (f x : Int) (hs : shp f = 18) (hx : 0 ≤ x) (hx2 : x < 4294967296) (w : World) (hL : Inst.Laid w) :
    Calls Tryd.prog 52 #[.int .i64 f, .int .u32 x] w fun e w' => e = .returned (.agg #[.int .i64 f, .int .i64 (x / 256 % 16), .int .i64 (x / 65536 % 16), .int .i64 0, .int .i64 0, .int .i64 (oft x), .int .i64 0, .int .i64 0, .int .i64 (x / 1048576 % 2), .int .i64 0, .int .i64 0]) ∧ Below w.heap.size w w' := by
  have e0 := ct_at x (h := 20) (l := 20) (by decide : pw 20 = 1048576) (by decide : pw (20 - 20 + 1) = 2)
  have e1 := ct_at x (h := 19) (l := 16) (by decide : pw 16 = 65536) (by decide : pw (19 - 16 + 1) = 16)
  have e2 := ct_at x (h := 3) (l := 0) (by decide : pw 0 = 1) (by decide : pw (3 - 0 + 1) = 16)
  have e3 := ct_at x (h := 15) (l := 12) (by decide : pw 12 = 4096) (by decide : pw (15 - 12 + 1) = 16)
  have e4 := ct_at x (h := 11) (l := 8) (by decide : pw 8 = 256) (by decide : pw (11 - 8 + 1) = 16)
  have hB := (Below.refl w.heap.size w).alloc (Nat.le_refl _) (.cells #[.int .i64 0, .int .i64 0, .int .i64 0, .int .i64 0, .int .i64 0, .int .i64 0, .int .i64 0, .int .i64 0, .int .i64 0, .int .i64 0, .int .i64 0] 36)
  have hLs := (hL.below hB.drew.drew.drew.drew.drew).shs
  go_enter Tryd.func52, Tryd.ntmps52
  go_wp2_with (first | (go_at_call 55; refine (Shape_any _ _ hLs).mono ?_; rintro e w' ⟨rfl, rfl⟩) | (go_at_call 63; refine (field_any _ _ _ hx hx2 (by decide) (by decide) (by decide) _).mono ?_; rintro e w' ⟨rfl, rfl⟩) | (go_at_call 64; refine (ofTwelve_any _ hx hx2 _).mono ?_; rintro e w' ⟨rfl, rfl⟩))
  exact bodyPost_ret (v := (.agg #[.int .i64 f, .int .i64 (x / 256 % 16), .int .i64 (x / 65536 % 16), .int .i64 0, .int .i64 0, .int .i64 (oft x), .int .i64 0, .int .i64 0, .int .i64 (x / 1048576 % 2), .int .i64 0, .int .i64 0])) (by simp [results, Tryd.results52, go_sem]) rfl ⟨rfl, ((Below.refl w.heap.size w).alloc (Nat.le_refl _) _).drew.drew.drew.drew.drew.drew.drew.drew⟩

set_option maxRecDepth 100000 in
theorem rf_19 (f x : Int) (hs : shp f = 19) (hx : 0 ≤ x) (hx2 : x < 4294967296) (w : World) (hL : Inst.Laid w) :
    Calls Tryd.prog 52 #[.int .i64 f, .int .u32 x] w fun e w' => e = .returned (.agg #[.int .i64 f, .int .i64 (x / 256 % 16), .int .i64 (x / 65536 % 16), .int .i64 0, .int .i64 0, .int .i64 (oft x), .int .i64 0, .int .i64 0, .int .i64 (x / 1048576 % 2), .int .i64 0, .int .i64 0]) ∧ Below w.heap.size w w' := by
  have e0 := ct_at x (h := 20) (l := 20) (by decide : pw 20 = 1048576) (by decide : pw (20 - 20 + 1) = 2)
  have e1 := ct_at x (h := 19) (l := 16) (by decide : pw 16 = 65536) (by decide : pw (19 - 16 + 1) = 16)
  have e2 := ct_at x (h := 3) (l := 0) (by decide : pw 0 = 1) (by decide : pw (3 - 0 + 1) = 16)
  have e3 := ct_at x (h := 15) (l := 12) (by decide : pw 12 = 4096) (by decide : pw (15 - 12 + 1) = 16)
  have e4 := ct_at x (h := 11) (l := 8) (by decide : pw 8 = 256) (by decide : pw (11 - 8 + 1) = 16)
  have hB := (Below.refl w.heap.size w).alloc (Nat.le_refl _) (.cells #[.int .i64 0, .int .i64 0, .int .i64 0, .int .i64 0, .int .i64 0, .int .i64 0, .int .i64 0, .int .i64 0, .int .i64 0, .int .i64 0, .int .i64 0] 36)
  have hLs := (hL.below hB.drew.drew.drew.drew.drew).shs
  go_enter Tryd.func52, Tryd.ntmps52
  go_wp2_with (first | (go_at_call 55; refine (Shape_any _ _ hLs).mono ?_; rintro e w' ⟨rfl, rfl⟩) | (go_at_call 63; refine (field_any _ _ _ hx hx2 (by decide) (by decide) (by decide) _).mono ?_; rintro e w' ⟨rfl, rfl⟩) | (go_at_call 64; refine (ofTwelve_any _ hx hx2 _).mono ?_; rintro e w' ⟨rfl, rfl⟩))
  exact bodyPost_ret (v := (.agg #[.int .i64 f, .int .i64 (x / 256 % 16), .int .i64 (x / 65536 % 16), .int .i64 0, .int .i64 0, .int .i64 (oft x), .int .i64 0, .int .i64 0, .int .i64 (x / 1048576 % 2), .int .i64 0, .int .i64 0])) (by simp [results, Tryd.results52, go_sem]) rfl ⟨rfl, ((Below.refl w.heap.size w).alloc (Nat.le_refl _) _).drew.drew.drew.drew.drew.drew.drew.drew⟩

set_option maxRecDepth 100000 in
theorem rf_20 (f x : Int) (hs : shp f = 20) (hx : 0 ≤ x) (hx2 : x < 4294967296) (w : World) (hL : Inst.Laid w) :
    Calls Tryd.prog 52 #[.int .i64 f, .int .u32 x] w fun e w' => e = .returned (.agg #[.int .i64 f, .int .i64 (x / 256 % 16), .int .i64 (x / 65536 % 16), .int .i64 0, .int .i64 0, .int .i64 (oft x), .int .i64 0, .int .i64 0, .int .i64 (x / 1048576 % 2), .int .i64 0, .int .i64 0]) ∧ Below w.heap.size w w' := by
  have e0 := ct_at x (h := 20) (l := 20) (by decide : pw 20 = 1048576) (by decide : pw (20 - 20 + 1) = 2)
  have e1 := ct_at x (h := 19) (l := 16) (by decide : pw 16 = 65536) (by decide : pw (19 - 16 + 1) = 16)
  have e2 := ct_at x (h := 3) (l := 0) (by decide : pw 0 = 1) (by decide : pw (3 - 0 + 1) = 16)
  have e3 := ct_at x (h := 15) (l := 12) (by decide : pw 12 = 4096) (by decide : pw (15 - 12 + 1) = 16)
  have e4 := ct_at x (h := 11) (l := 8) (by decide : pw 8 = 256) (by decide : pw (11 - 8 + 1) = 16)
  have hB := (Below.refl w.heap.size w).alloc (Nat.le_refl _) (.cells #[.int .i64 0, .int .i64 0, .int .i64 0, .int .i64 0, .int .i64 0, .int .i64 0, .int .i64 0, .int .i64 0, .int .i64 0, .int .i64 0, .int .i64 0] 36)
  have hLs := (hL.below hB.drew.drew.drew.drew.drew).shs
  go_enter Tryd.func52, Tryd.ntmps52
  go_wp2_with (first | (go_at_call 55; refine (Shape_any _ _ hLs).mono ?_; rintro e w' ⟨rfl, rfl⟩) | (go_at_call 63; refine (field_any _ _ _ hx hx2 (by decide) (by decide) (by decide) _).mono ?_; rintro e w' ⟨rfl, rfl⟩) | (go_at_call 64; refine (ofTwelve_any _ hx hx2 _).mono ?_; rintro e w' ⟨rfl, rfl⟩))
  exact bodyPost_ret (v := (.agg #[.int .i64 f, .int .i64 (x / 256 % 16), .int .i64 (x / 65536 % 16), .int .i64 0, .int .i64 0, .int .i64 (oft x), .int .i64 0, .int .i64 0, .int .i64 (x / 1048576 % 2), .int .i64 0, .int .i64 0])) (by simp [results, Tryd.results52, go_sem]) rfl ⟨rfl, ((Below.refl w.heap.size w).alloc (Nat.le_refl _) _).drew.drew.drew.drew.drew.drew.drew.drew⟩

set_option maxRecDepth 100000 in
theorem rf_21 (f x : Int) (hs : shp f = 21) (hx : 0 ≤ x) (hx2 : x < 4294967296) (w : World) (hL : Inst.Laid w) :
    Calls Tryd.prog 52 #[.int .i64 f, .int .u32 x] w fun e w' => e = .returned (.agg #[.int .i64 f, .int .i64 (x / 256 % 16), .int .i64 (x / 65536 % 16), .int .i64 (x % 16), .int .i64 0, .int .i64 0, .int .i64 (x / 16 % 4), .int .i64 (fr (x / 4096 % 8 * 4 + x / 64 % 4) (x / 16 % 4 == 0)), .int .i64 (x / 1048576 % 2), .int .i64 0, .int .i64 0]) ∧ Below w.heap.size w w' := by
  have e0 := ct_at x (h := 20) (l := 20) (by decide : pw 20 = 1048576) (by decide : pw (20 - 20 + 1) = 2)
  have e1 := ct_at x (h := 19) (l := 16) (by decide : pw 16 = 65536) (by decide : pw (19 - 16 + 1) = 16)
  have e2 := ct_at x (h := 3) (l := 0) (by decide : pw 0 = 1) (by decide : pw (3 - 0 + 1) = 16)
  have e3 := ct_at x (h := 15) (l := 12) (by decide : pw 12 = 4096) (by decide : pw (15 - 12 + 1) = 16)
  have e4 := ct_at x (h := 11) (l := 8) (by decide : pw 8 = 256) (by decide : pw (11 - 8 + 1) = 16)
  have e5 := ct_at x (h := 5) (l := 4) (by decide : pw 4 = 16) (by decide : pw (5 - 4 + 1) = 4)
  have e6 := ct_at x (h := 14) (l := 12) (by decide : pw 12 = 4096) (by decide : pw (14 - 12 + 1) = 8)
  have e7 := ct_at x (h := 7) (l := 6) (by decide : pw 6 = 64) (by decide : pw (7 - 6 + 1) = 4)
  have ho := (or_f21 (a := x / 4096 % 8) (b := x / 64 % 4) (by omega) (by omega)).1
  have hB := (Below.refl w.heap.size w).alloc (Nat.le_refl _) (.cells #[.int .i64 0, .int .i64 0, .int .i64 0, .int .i64 0, .int .i64 0, .int .i64 0, .int .i64 0, .int .i64 0, .int .i64 0, .int .i64 0, .int .i64 0] 36)
  have hLs := (hL.below hB.drew.drew.drew.drew.drew).shs
  go_enter Tryd.func52, Tryd.ntmps52
  go_wp2_with (first | (go_at_call 55; refine (Shape_any _ _ hLs).mono ?_; rintro e w' ⟨rfl, rfl⟩) | (go_at_call 63; refine (field_any _ _ _ hx hx2 (by decide) (by decide) (by decide) _).mono ?_; rintro e w' ⟨rfl, rfl⟩) | (go_at_call 65; refine (far_any _ _ _).mono ?_; rintro e w' ⟨rfl, rfl⟩))
  exact bodyPost_ret (v := (.agg #[.int .i64 f, .int .i64 (x / 256 % 16), .int .i64 (x / 65536 % 16), .int .i64 (x % 16), .int .i64 0, .int .i64 0, .int .i64 (x / 16 % 4), .int .i64 (fr (x / 4096 % 8 * 4 + x / 64 % 4) (x / 16 % 4 == 0)), .int .i64 (x / 1048576 % 2), .int .i64 0, .int .i64 0])) (by simp [results, Tryd.results52, go_sem]) rfl ⟨rfl, ((Below.refl w.heap.size w).alloc (Nat.le_refl _) _).drew.drew.drew.drew.drew.drew.drew.drew⟩

set_option maxRecDepth 100000 in
theorem rf_22 (f x : Int) (hs : shp f = 22) (hx : 0 ≤ x) (hx2 : x < 4294967296) (w : World) (hL : Inst.Laid w) :
    Calls Tryd.prog 52 #[.int .i64 f, .int .u32 x] w fun e w' => e = .returned (.agg #[.int .i64 f, .int .i64 (x / 256 % 16), .int .i64 (x / 65536 % 16), .int .i64 (x % 16), .int .i64 0, .int .i64 0, .int .i64 (x / 16 % 4), .int .i64 (fr (x / 4096 % 8 * 4 + x / 64 % 4) (x / 16 % 4 == 0)), .int .i64 (x / 1048576 % 2), .int .i64 0, .int .i64 0]) ∧ Below w.heap.size w w' := by
  have e0 := ct_at x (h := 20) (l := 20) (by decide : pw 20 = 1048576) (by decide : pw (20 - 20 + 1) = 2)
  have e1 := ct_at x (h := 19) (l := 16) (by decide : pw 16 = 65536) (by decide : pw (19 - 16 + 1) = 16)
  have e2 := ct_at x (h := 3) (l := 0) (by decide : pw 0 = 1) (by decide : pw (3 - 0 + 1) = 16)
  have e3 := ct_at x (h := 15) (l := 12) (by decide : pw 12 = 4096) (by decide : pw (15 - 12 + 1) = 16)
  have e4 := ct_at x (h := 11) (l := 8) (by decide : pw 8 = 256) (by decide : pw (11 - 8 + 1) = 16)
  have e5 := ct_at x (h := 5) (l := 4) (by decide : pw 4 = 16) (by decide : pw (5 - 4 + 1) = 4)
  have e6 := ct_at x (h := 14) (l := 12) (by decide : pw 12 = 4096) (by decide : pw (14 - 12 + 1) = 8)
  have e7 := ct_at x (h := 7) (l := 6) (by decide : pw 6 = 64) (by decide : pw (7 - 6 + 1) = 4)
  have ho := (or_f21 (a := x / 4096 % 8) (b := x / 64 % 4) (by omega) (by omega)).1
  have hB := (Below.refl w.heap.size w).alloc (Nat.le_refl _) (.cells #[.int .i64 0, .int .i64 0, .int .i64 0, .int .i64 0, .int .i64 0, .int .i64 0, .int .i64 0, .int .i64 0, .int .i64 0, .int .i64 0, .int .i64 0] 36)
  have hLs := (hL.below hB.drew.drew.drew.drew.drew).shs
  go_enter Tryd.func52, Tryd.ntmps52
  go_wp2_with (first | (go_at_call 55; refine (Shape_any _ _ hLs).mono ?_; rintro e w' ⟨rfl, rfl⟩) | (go_at_call 63; refine (field_any _ _ _ hx hx2 (by decide) (by decide) (by decide) _).mono ?_; rintro e w' ⟨rfl, rfl⟩) | (go_at_call 65; refine (far_any _ _ _).mono ?_; rintro e w' ⟨rfl, rfl⟩))
  exact bodyPost_ret (v := (.agg #[.int .i64 f, .int .i64 (x / 256 % 16), .int .i64 (x / 65536 % 16), .int .i64 (x % 16), .int .i64 0, .int .i64 0, .int .i64 (x / 16 % 4), .int .i64 (fr (x / 4096 % 8 * 4 + x / 64 % 4) (x / 16 % 4 == 0)), .int .i64 (x / 1048576 % 2), .int .i64 0, .int .i64 0])) (by simp [results, Tryd.results52, go_sem]) rfl ⟨rfl, ((Below.refl w.heap.size w).alloc (Nat.le_refl _) _).drew.drew.drew.drew.drew.drew.drew.drew⟩

set_option maxRecDepth 100000 in
theorem rf_23 (f x : Int) (hs : shp f = 23) (hx : 0 ≤ x) (hx2 : x < 4294967296) (w : World) (hL : Inst.Laid w) :
    Calls Tryd.prog 52 #[.int .i64 f, .int .u32 x] w fun e w' => e = .returned (.agg #[.int .i64 f, .int .i64 (x / 256 % 16), .int .i64 (x / 65536 % 16), .int .i64 (x % 16), .int .i64 0, .int .i64 0, .int .i64 (x / 16 % 4), .int .i64 (fr (x / 4096 % 8 * 4 + x / 64 % 4) (x / 16 % 4 == 0)), .int .i64 (x / 1048576 % 2), .int .i64 0, .int .i64 0]) ∧ Below w.heap.size w w' := by
  have e0 := ct_at x (h := 20) (l := 20) (by decide : pw 20 = 1048576) (by decide : pw (20 - 20 + 1) = 2)
  have e1 := ct_at x (h := 19) (l := 16) (by decide : pw 16 = 65536) (by decide : pw (19 - 16 + 1) = 16)
  have e2 := ct_at x (h := 3) (l := 0) (by decide : pw 0 = 1) (by decide : pw (3 - 0 + 1) = 16)
  have e3 := ct_at x (h := 15) (l := 12) (by decide : pw 12 = 4096) (by decide : pw (15 - 12 + 1) = 16)
  have e4 := ct_at x (h := 11) (l := 8) (by decide : pw 8 = 256) (by decide : pw (11 - 8 + 1) = 16)
  have e5 := ct_at x (h := 5) (l := 4) (by decide : pw 4 = 16) (by decide : pw (5 - 4 + 1) = 4)
  have e6 := ct_at x (h := 14) (l := 12) (by decide : pw 12 = 4096) (by decide : pw (14 - 12 + 1) = 8)
  have e7 := ct_at x (h := 7) (l := 6) (by decide : pw 6 = 64) (by decide : pw (7 - 6 + 1) = 4)
  have ho := (or_f21 (a := x / 4096 % 8) (b := x / 64 % 4) (by omega) (by omega)).1
  have hB := (Below.refl w.heap.size w).alloc (Nat.le_refl _) (.cells #[.int .i64 0, .int .i64 0, .int .i64 0, .int .i64 0, .int .i64 0, .int .i64 0, .int .i64 0, .int .i64 0, .int .i64 0, .int .i64 0, .int .i64 0] 36)
  have hLs := (hL.below hB.drew.drew.drew.drew.drew).shs
  go_enter Tryd.func52, Tryd.ntmps52
  go_wp2_with (first | (go_at_call 55; refine (Shape_any _ _ hLs).mono ?_; rintro e w' ⟨rfl, rfl⟩) | (go_at_call 63; refine (field_any _ _ _ hx hx2 (by decide) (by decide) (by decide) _).mono ?_; rintro e w' ⟨rfl, rfl⟩) | (go_at_call 65; refine (far_any _ _ _).mono ?_; rintro e w' ⟨rfl, rfl⟩))
  exact bodyPost_ret (v := (.agg #[.int .i64 f, .int .i64 (x / 256 % 16), .int .i64 (x / 65536 % 16), .int .i64 (x % 16), .int .i64 0, .int .i64 0, .int .i64 (x / 16 % 4), .int .i64 (fr (x / 4096 % 8 * 4 + x / 64 % 4) (x / 16 % 4 == 0)), .int .i64 (x / 1048576 % 2), .int .i64 0, .int .i64 0])) (by simp [results, Tryd.results52, go_sem]) rfl ⟨rfl, ((Below.refl w.heap.size w).alloc (Nat.le_refl _) _).drew.drew.drew.drew.drew.drew.drew.drew⟩

set_option maxRecDepth 100000 in
theorem rf_24 (f x : Int) (hs : shp f = 24) (hx : 0 ≤ x) (hx2 : x < 4294967296) (w : World) (hL : Inst.Laid w) :
    Calls Tryd.prog 52 #[.int .i64 f, .int .u32 x] w fun e w' => e = .returned (.agg #[.int .i64 f, .int .i64 (x / 256 % 16), .int .i64 (x / 65536 % 16), .int .i64 0, .int .i64 0, .int .i64 (oft x), .int .i64 0, .int .i64 0, .int .i64 (x / 1048576 % 2), .int .i64 0, .int .i64 0]) ∧ Below w.heap.size w w' := by
  have e0 := ct_at x (h := 20) (l := 20) (by decide : pw 20 = 1048576) (by decide : pw (20 - 20 + 1) = 2)
  have e1 := ct_at x (h := 19) (l := 16) (by decide : pw 16 = 65536) (by decide : pw (19 - 16 + 1) = 16)
  have e2 := ct_at x (h := 3) (l := 0) (by decide : pw 0 = 1) (by decide : pw (3 - 0 + 1) = 16)
  have e3 := ct_at x (h := 15) (l := 12) (by decide : pw 12 = 4096) (by decide : pw (15 - 12 + 1) = 16)
  have e4 := ct_at x (h := 11) (l := 8) (by decide : pw 8 = 256) (by decide : pw (11 - 8 + 1) = 16)
  have hB := (Below.refl w.heap.size w).alloc (Nat.le_refl _) (.cells #[.int .i64 0, .int .i64 0, .int .i64 0, .int .i64 0, .int .i64 0, .int .i64 0, .int .i64 0, .int .i64 0, .int .i64 0, .int .i64 0, .int .i64 0] 36)
  have hLs := (hL.below hB.drew.drew.drew.drew.drew).shs
  go_enter Tryd.func52, Tryd.ntmps52
  go_wp2_with (first | (go_at_call 55; refine (Shape_any _ _ hLs).mono ?_; rintro e w' ⟨rfl, rfl⟩) | (go_at_call 63; refine (field_any _ _ _ hx hx2 (by decide) (by decide) (by decide) _).mono ?_; rintro e w' ⟨rfl, rfl⟩) | (go_at_call 64; refine (ofTwelve_any _ hx hx2 _).mono ?_; rintro e w' ⟨rfl, rfl⟩))
  exact bodyPost_ret (v := (.agg #[.int .i64 f, .int .i64 (x / 256 % 16), .int .i64 (x / 65536 % 16), .int .i64 0, .int .i64 0, .int .i64 (oft x), .int .i64 0, .int .i64 0, .int .i64 (x / 1048576 % 2), .int .i64 0, .int .i64 0])) (by simp [results, Tryd.results52, go_sem]) rfl ⟨rfl, ((Below.refl w.heap.size w).alloc (Nat.le_refl _) _).drew.drew.drew.drew.drew.drew.drew.drew⟩

set_option maxRecDepth 100000 in
theorem rf_25 (f x : Int) (hs : shp f = 25) (hx : 0 ≤ x) (hx2 : x < 4294967296) (w : World) (hL : Inst.Laid w) :
    Calls Tryd.prog 52 #[.int .i64 f, .int .u32 x] w fun e w' => e = .returned (.agg #[.int .i64 f, .int .i64 (x / 4096 % 16), .int .i64 (x / 65536 % 16), .int .i64 0, .int .i64 0, .int .i64 (x % 4096), .int .i64 0, .int .i64 0, .int .i64 0, .int .i64 0, .int .i64 0]) ∧ Below w.heap.size w w' := by
  have e0 := ct_at x (h := 20) (l := 20) (by decide : pw 20 = 1048576) (by decide : pw (20 - 20 + 1) = 2)
  have e1 := ct_at x (h := 19) (l := 16) (by decide : pw 16 = 65536) (by decide : pw (19 - 16 + 1) = 16)
  have e2 := ct_at x (h := 3) (l := 0) (by decide : pw 0 = 1) (by decide : pw (3 - 0 + 1) = 16)
  have e3 := ct_at x (h := 15) (l := 12) (by decide : pw 12 = 4096) (by decide : pw (15 - 12 + 1) = 16)
  have e4 := ct_at x (h := 11) (l := 8) (by decide : pw 8 = 256) (by decide : pw (11 - 8 + 1) = 16)
  have e5 := ct_at x (h := 11) (l := 0) (by decide : pw 0 = 1) (by decide : pw (11 - 0 + 1) = 4096)
  have hB := (Below.refl w.heap.size w).alloc (Nat.le_refl _) (.cells #[.int .i64 0, .int .i64 0, .int .i64 0, .int .i64 0, .int .i64 0, .int .i64 0, .int .i64 0, .int .i64 0, .int .i64 0, .int .i64 0, .int .i64 0] 36)
  have hLs := (hL.below hB.drew.drew.drew.drew.drew).shs
  go_enter Tryd.func52, Tryd.ntmps52
  go_wp2_with (first | (go_at_call 55; refine (Shape_any _ _ hLs).mono ?_; rintro e w' ⟨rfl, rfl⟩) | (go_at_call 63; refine (field_any _ _ _ hx hx2 (by decide) (by decide) (by decide) _).mono ?_; rintro e w' ⟨rfl, rfl⟩))
  exact bodyPost_ret (v := (.agg #[.int .i64 f, .int .i64 (x / 4096 % 16), .int .i64 (x / 65536 % 16), .int .i64 0, .int .i64 0, .int .i64 (x % 4096), .int .i64 0, .int .i64 0, .int .i64 0, .int .i64 0, .int .i64 0])) (by simp [results, Tryd.results52, go_sem]) rfl ⟨rfl, ((Below.refl w.heap.size w).alloc (Nat.le_refl _) _).drew.drew.drew.drew.drew.drew⟩

end Go.Proofs.YtegefbndpkbooaaDoor.Code

/-! What the code reads out of bits, shape by shape: contracts. -/
set_option linter.unusedVariables false
namespace Go.Proofs.YtegefbndpkbooaaDoor.Code
open Go.RowKit Go.Proofs.YtegefbndpkbooaaDoor.Alu Go.Proofs.YtegefbndpkbooaaDoor.Imm Go.Proofs.YtegefbndpkbooaaDoor.Inst

set_option maxRecDepth 100000 in
theorem rf_26 (f x : Int) (hs : shp f = 26) (hx : 0 ≤ x) (hx2 : x < 4294967296) (w : World) (hL : Inst.Laid w) :
    Calls Tryd.prog 52 #[.int .i64 f, .int .u32 x] w fun e w' => e = .returned (.agg #[.int .i64 f, .int .i64 (x / 4096 % 16), .int .i64 (x / 65536 % 16), .int .i64 (x % 16), .int .i64 0, .int .i64 0, .int .i64 0, .int .i64 (x / 16 % 4), .int .i64 0, .int .i64 0, .int .i64 0]) ∧ Below w.heap.size w w' := by
  have e0 := ct_at x (h := 20) (l := 20) (by decide : pw 20 = 1048576) (by decide : pw (20 - 20 + 1) = 2)
  have e1 := ct_at x (h := 19) (l := 16) (by decide : pw 16 = 65536) (by decide : pw (19 - 16 + 1) = 16)
  have e2 := ct_at x (h := 3) (l := 0) (by decide : pw 0 = 1) (by decide : pw (3 - 0 + 1) = 16)
  have e3 := ct_at x (h := 15) (l := 12) (by decide : pw 12 = 4096) (by decide : pw (15 - 12 + 1) = 16)
  have e4 := ct_at x (h := 11) (l := 8) (by decide : pw 8 = 256) (by decide : pw (11 - 8 + 1) = 16)
  have e5 := ct_at x (h := 5) (l := 4) (by decide : pw 4 = 16) (by decide : pw (5 - 4 + 1) = 4)
  have hB := (Below.refl w.heap.size w).alloc (Nat.le_refl _) (.cells #[.int .i64 0, .int .i64 0, .int .i64 0, .int .i64 0, .int .i64 0, .int .i64 0, .int .i64 0, .int .i64 0, .int .i64 0, .int .i64 0, .int .i64 0] 36)
  have hLs := (hL.below hB.drew.drew.drew.drew.drew).shs
  go_enter Tryd.func52, Tryd.ntmps52
  go_wp2_with (first | (go_at_call 55; refine (Shape_any _ _ hLs).mono ?_; rintro e w' ⟨rfl, rfl⟩) | (go_at_call 63; refine (field_any _ _ _ hx hx2 (by decide) (by decide) (by decide) _).mono ?_; rintro e w' ⟨rfl, rfl⟩))
  exact bodyPost_ret (v := (.agg #[.int .i64 f, .int .i64 (x / 4096 % 16), .int .i64 (x / 65536 % 16), .int .i64 (x % 16), .int .i64 0, .int .i64 0, .int .i64 0, .int .i64 (x / 16 % 4), .int .i64 0, .int .i64 0, .int .i64 0])) (by simp [results, Tryd.results52, go_sem]) rfl ⟨rfl, ((Below.refl w.heap.size w).alloc (Nat.le_refl _) _).drew.drew.drew.drew.drew.drew⟩

set_option maxRecDepth 100000 in
theorem rf_27 (f x : Int) (hs : shp f = 27) (hx : 0 ≤ x) (hx2 : x < 4294967296) (w : World) (hL : Inst.Laid w) :
    Calls Tryd.prog 52 #[.int .i64 f, .int .u32 x] w fun e w' => e = .returned (.agg #[.int .i64 f, .int .i64 (x / 256 % 16), .int .i64 (x / 65536 % 16), .int .i64 (x % 16), .int .i64 (x / 4096 % 16), .int .i64 0, .int .i64 0, .int .i64 0, .int .i64 (x / 1048576 % 2), .int .i64 0, .int .i64 0]) ∧ Below w.heap.size w w' := by
  have e0 := ct_at x (h := 20) (l := 20) (by decide : pw 20 = 1048576) (by decide : pw (20 - 20 + 1) = 2)
  have e1 := ct_at x (h := 19) (l := 16) (by decide : pw 16 = 65536) (by decide : pw (19 - 16 + 1) = 16)
  have e2 := ct_at x (h := 3) (l := 0) (by decide : pw 0 = 1) (by decide : pw (3 - 0 + 1) = 16)
  have e3 := ct_at x (h := 15) (l := 12) (by decide : pw 12 = 4096) (by decide : pw (15 - 12 + 1) = 16)
  have e4 := ct_at x (h := 11) (l := 8) (by decide : pw 8 = 256) (by decide : pw (11 - 8 + 1) = 16)
  have hB := (Below.refl w.heap.size w).alloc (Nat.le_refl _) (.cells #[.int .i64 0, .int .i64 0, .int .i64 0, .int .i64 0, .int .i64 0, .int .i64 0, .int .i64 0, .int .i64 0, .int .i64 0, .int .i64 0, .int .i64 0] 36)
  have hLs := (hL.below hB.drew.drew.drew.drew.drew).shs
  go_enter Tryd.func52, Tryd.ntmps52
  go_wp2_with (first | (go_at_call 55; refine (Shape_any _ _ hLs).mono ?_; rintro e w' ⟨rfl, rfl⟩) | (go_at_call 63; refine (field_any _ _ _ hx hx2 (by decide) (by decide) (by decide) _).mono ?_; rintro e w' ⟨rfl, rfl⟩))
  exact bodyPost_ret (v := (.agg #[.int .i64 f, .int .i64 (x / 256 % 16), .int .i64 (x / 65536 % 16), .int .i64 (x % 16), .int .i64 (x / 4096 % 16), .int .i64 0, .int .i64 0, .int .i64 0, .int .i64 (x / 1048576 % 2), .int .i64 0, .int .i64 0])) (by simp [results, Tryd.results52, go_sem]) rfl ⟨rfl, ((Below.refl w.heap.size w).alloc (Nat.le_refl _) _).drew.drew.drew.drew.drew⟩

set_option maxRecDepth 100000 in
theorem rf_28 (f x : Int) (hs : shp f = 28) (hx : 0 ≤ x) (hx2 : x < 4294967296) (w : World) (hL : Inst.Laid w) :
    Calls Tryd.prog 52 #[.int .i64 f, .int .u32 x] w fun e w' => e = .returned (.agg #[.int .i64 f, .int .i64 (x / 256 % 16), .int .i64 (x / 65536 % 16), .int .i64 (x % 16), .int .i64 (x / 4096 % 16), .int .i64 0, .int .i64 0, .int .i64 0, .int .i64 (x / 1048576 % 2), .int .i64 0, .int .i64 0]) ∧ Below w.heap.size w w' := by
  have e0 := ct_at x (h := 20) (l := 20) (by decide : pw 20 = 1048576) (by decide : pw (20 - 20 + 1) = 2)
  have e1 := ct_at x (h := 19) (l := 16) (by decide : pw 16 = 65536) (by decide : pw (19 - 16 + 1) = 16)
  have e2 := ct_at x (h := 3) (l := 0) (by decide : pw 0 = 1) (by decide : pw (3 - 0 + 1) = 16)
  have e3 := ct_at x (h := 15) (l := 12) (by decide : pw 12 = 4096) (by decide : pw (15 - 12 + 1) = 16)
  have e4 := ct_at x (h := 11) (l := 8) (by decide : pw 8 = 256) (by decide : pw (11 - 8 + 1) = 16)
  have hB := (Below.refl w.heap.size w).alloc (Nat.le_refl _) (.cells #[.int .i64 0, .int .i64 0, .int .i64 0, .int .i64 0, .int .i64 0, .int .i64 0, .int .i64 0, .int .i64 0, .int .i64 0, .int .i64 0, .int .i64 0] 36)
  have hLs := (hL.below hB.drew.drew.drew.drew.drew).shs
  go_enter Tryd.func52, Tryd.ntmps52
  go_wp2_with (first | (go_at_call 55; refine (Shape_any _ _ hLs).mono ?_; rintro e w' ⟨rfl, rfl⟩) | (go_at_call 63; refine (field_any _ _ _ hx hx2 (by decide) (by decide) (by decide) _).mono ?_; rintro e w' ⟨rfl, rfl⟩))
  exact bodyPost_ret (v := (.agg #[.int .i64 f, .int .i64 (x / 256 % 16), .int .i64 (x / 65536 % 16), .int .i64 (x % 16), .int .i64 (x / 4096 % 16), .int .i64 0, .int .i64 0, .int .i64 0, .int .i64 (x / 1048576 % 2), .int .i64 0, .int .i64 0])) (by simp [results, Tryd.results52, go_sem]) rfl ⟨rfl, ((Below.refl w.heap.size w).alloc (Nat.le_refl _) _).drew.drew.drew.drew.drew⟩

set_option maxRecDepth 100000 in
theorem rf_29 (f x : Int) (hs : shp f = 29) (hx : 0 ≤ x) (hx2 : x < 4294967296) (w : World) (hL : Inst.Laid w) :
    Calls Tryd.prog 52 #[.int .i64 f, .int .u32 x] w fun e w' => e = .returned (.agg #[.int .i64 f, .int .i64 (x / 256 % 16), .int .i64 (x / 65536 % 16), .int .i64 (x % 16), .int .i64 (x / 4096 % 16), .int .i64 0, .int .i64 0, .int .i64 0, .int .i64 (x / 1048576 % 2), .int .i64 0, .int .i64 0]) ∧ Below w.heap.size w w' := by
  have e0 := ct_at x (h := 20) (l := 20) (by decide : pw 20 = 1048576) (by decide : pw (20 - 20 + 1) = 2)
  have e1 := ct_at x (h := 19) (l := 16) (by decide : pw 16 = 65536) (by decide : pw (19 - 16 + 1) = 16)
  have e2 := ct_at x (h := 3) (l := 0) (by decide : pw 0 = 1) (by decide : pw (3 - 0 + 1) = 16)
  have e3 := ct_at x (h := 15) (l := 12) (by decide : pw 12 = 4096) (by decide : pw (15 - 12 + 1) = 16)
  have e4 := ct_at x (h := 11) (l := 8) (by decide : pw 8 = 256) (by decide : pw (11 - 8 + 1) = 16)
  have hB := (Below.refl w.heap.size w).alloc (Nat.le_refl _) (.cells #[.int .i64 0, .int .i64 0, .int .i64 0, .int .i64 0, .int .i64 0, .int .i64 0, .int .i64 0, .int .i64 0, .int .i64 0, .int .i64 0, .int .i64 0] 36)
  have hLs := (hL.below hB.drew.drew.drew.drew.drew).shs
  go_enter Tryd.func52, Tryd.ntmps52
  go_wp2_with (first | (go_at_call 55; refine (Shape_any _ _ hLs).mono ?_; rintro e w' ⟨rfl, rfl⟩) | (go_at_call 63; refine (field_any _ _ _ hx hx2 (by decide) (by decide) (by decide) _).mono ?_; rintro e w' ⟨rfl, rfl⟩))
  exact bodyPost_ret (v := (.agg #[.int .i64 f, .int .i64 (x / 256 % 16), .int .i64 (x / 65536 % 16), .int .i64 (x % 16), .int .i64 (x / 4096 % 16), .int .i64 0, .int .i64 0, .int .i64 0, .int .i64 (x / 1048576 % 2), .int .i64 0, .int .i64 0])) (by simp [results, Tryd.results52, go_sem]) rfl ⟨rfl, ((Below.refl w.heap.size w).alloc (Nat.le_refl _) _).drew.drew.drew.drew.drew⟩

set_option maxRecDepth 100000 in
theorem rf_30 (f x : Int) (hs : shp f = 30) (hx : 0 ≤ x) (hx2 : x < 4294967296) (w : World) (hL : Inst.Laid w) :
    Calls Tryd.prog 52 #[.int .i64 f, .int .u32 x] w fun e w' => e = .returned (.agg #[.int .i64 f, .int .i64 (x / 256 % 16), .int .i64 (x / 65536 % 16), .int .i64 (x % 16), .int .i64 (x / 4096 % 16), .int .i64 0, .int .i64 0, .int .i64 0, .int .i64 (x / 1048576 % 2), .int .i64 0, .int .i64 0]) ∧ Below w.heap.size w w' := by
  have e0 := ct_at x (h := 20) (l := 20) (by decide : pw 20 = 1048576) (by decide : pw (20 - 20 + 1) = 2)
  have e1 := ct_at x (h := 19) (l := 16) (by decide : pw 16 = 65536) (by decide : pw (19 - 16 + 1) = 16)
  have e2 := ct_at x (h := 3) (l := 0) (by decide : pw 0 = 1) (by decide : pw (3 - 0 + 1) = 16)
  have e3 := ct_at x (h := 15) (l := 12) (by decide : pw 12 = 4096) (by decide : pw (15 - 12 + 1) = 16)
  have e4 := ct_at x (h := 11) (l := 8) (by decide : pw 8 = 256) (by decide : pw (11 - 8 + 1) = 16)
  have hB := (Below.refl w.heap.size w).alloc (Nat.le_refl _) (.cells #[.int .i64 0, .int .i64 0, .int .i64 0, .int .i64 0, .int .i64 0, .int .i64 0, .int .i64 0, .int .i64 0, .int .i64 0, .int .i64 0, .int .i64 0] 36)
  have hLs := (hL.below hB.drew.drew.drew.drew.drew).shs
  go_enter Tryd.func52, Tryd.ntmps52
  go_wp2_with (first | (go_at_call 55; refine (Shape_any _ _ hLs).mono ?_; rintro e w' ⟨rfl, rfl⟩) | (go_at_call 63; refine (field_any _ _ _ hx hx2 (by decide) (by decide) (by decide) _).mono ?_; rintro e w' ⟨rfl, rfl⟩))
  exact bodyPost_ret (v := (.agg #[.int .i64 f, .int .i64 (x / 256 % 16), .int .i64 (x / 65536 % 16), .int .i64 (x % 16), .int .i64 (x / 4096 % 16), .int .i64 0, .int .i64 0, .int .i64 0, .int .i64 (x / 1048576 % 2), .int .i64 0, .int .i64 0])) (by simp [results, Tryd.results52, go_sem]) rfl ⟨rfl, ((Below.refl w.heap.size w).alloc (Nat.le_refl _) _).drew.drew.drew.drew.drew⟩

set_option maxRecDepth 100000 in
theorem rf_31 (f x : Int) (hs : shp f = 31) (hx : 0 ≤ x) (hx2 : x < 4294967296) (w : World) (hL : Inst.Laid w) :
    Calls Tryd.prog 52 #[.int .i64 f, .int .u32 x] w fun e w' => e = .returned (.agg #[.int .i64 f, .int .i64 (x / 4096 % 16), .int .i64 (x / 65536 % 16), .int .i64 (x % 16), .int .i64 (x / 256 % 16), .int .i64 0, .int .i64 0, .int .i64 0, .int .i64 0, .int .i64 0, .int .i64 0]) ∧ Below w.heap.size w w' := by
  have e0 := ct_at x (h := 20) (l := 20) (by decide : pw 20 = 1048576) (by decide : pw (20 - 20 + 1) = 2)
  have e1 := ct_at x (h := 19) (l := 16) (by decide : pw 16 = 65536) (by decide : pw (19 - 16 + 1) = 16)
  have e2 := ct_at x (h := 3) (l := 0) (by decide : pw 0 = 1) (by decide : pw (3 - 0 + 1) = 16)
  have e3 := ct_at x (h := 15) (l := 12) (by decide : pw 12 = 4096) (by decide : pw (15 - 12 + 1) = 16)
  have e4 := ct_at x (h := 11) (l := 8) (by decide : pw 8 = 256) (by decide : pw (11 - 8 + 1) = 16)
  have hB := (Below.refl w.heap.size w).alloc (Nat.le_refl _) (.cells #[.int .i64 0, .int .i64 0, .int .i64 0, .int .i64 0, .int .i64 0, .int .i64 0, .int .i64 0, .int .i64 0, .int .i64 0, .int .i64 0, .int .i64 0] 36)
  have hLs := (hL.below hB.drew.drew.drew.drew.drew).shs
  go_enter Tryd.func52, Tryd.ntmps52
  go_wp2_with (first | (go_at_call 55; refine (Shape_any _ _ hLs).mono ?_; rintro e w' ⟨rfl, rfl⟩) | (go_at_call 63; refine (field_any _ _ _ hx hx2 (by decide) (by decide) (by decide) _).mono ?_; rintro e w' ⟨rfl, rfl⟩))
  exact bodyPost_ret (v := (.agg #[.int .i64 f, .int .i64 (x / 4096 % 16), .int .i64 (x / 65536 % 16), .int .i64 (x % 16), .int .i64 (x / 256 % 16), .int .i64 0, .int .i64 0, .int .i64 0, .int .i64 0, .int .i64 0, .int .i64 0])) (by simp [results, Tryd.results52, go_sem]) rfl ⟨rfl, ((Below.refl w.heap.size w).alloc (Nat.le_refl _) _).drew.drew.drew.drew.drew⟩

set_option maxRecDepth 100000 in
theorem rf_32 (f x : Int) (hs : shp f = 32) (hx : 0 ≤ x) (hx2 : x < 4294967296) (w : World) (hL : Inst.Laid w) :
    Calls Tryd.prog 52 #[.int .i64 f, .int .u32 x] w fun e w' => e = .returned (.agg #[.int .i64 f, .int .i64 (x / 256 % 16), .int .i64 0, .int .i64 (x % 16), .int .i64 0, .int .i64 0, .int .i64 0, .int .i64 0, .int .i64 0, .int .i64 0, .int .i64 0]) ∧ Below w.heap.size w w' := by
  have e0 := ct_at x (h := 20) (l := 20) (by decide : pw 20 = 1048576) (by decide : pw (20 - 20 + 1) = 2)
  have e1 := ct_at x (h := 19) (l := 16) (by decide : pw 16 = 65536) (by decide : pw (19 - 16 + 1) = 16)
  have e2 := ct_at x (h := 3) (l := 0) (by decide : pw 0 = 1) (by decide : pw (3 - 0 + 1) = 16)
  have e3 := ct_at x (h := 15) (l := 12) (by decide : pw 12 = 4096) (by decide : pw (15 - 12 + 1) = 16)
  have e4 := ct_at x (h := 11) (l := 8) (by decide : pw 8 = 256) (by decide : pw (11 - 8 + 1) = 16)
  have hB := (Below.refl w.heap.size w).alloc (Nat.le_refl _) (.cells #[.int .i64 0, .int .i64 0, .int .i64 0, .int .i64 0, .int .i64 0, .int .i64 0, .int .i64 0, .int .i64 0, .int .i64 0, .int .i64 0, .int .i64 0] 36)
  have hLs := (hL.below hB.drew.drew.drew.drew.drew).shs
  go_enter Tryd.func52, Tryd.ntmps52
  go_wp2_with (first | (go_at_call 55; refine (Shape_any _ _ hLs).mono ?_; rintro e w' ⟨rfl, rfl⟩) | (go_at_call 63; refine (field_any _ _ _ hx hx2 (by decide) (by decide) (by decide) _).mono ?_; rintro e w' ⟨rfl, rfl⟩))
  exact bodyPost_ret (v := (.agg #[.int .i64 f, .int .i64 (x / 256 % 16), .int .i64 0, .int .i64 (x % 16), .int .i64 0, .int .i64 0, .int .i64 0, .int .i64 0, .int .i64 0, .int .i64 0, .int .i64 0])) (by simp [results, Tryd.results52, go_sem]) rfl ⟨rfl, ((Below.refl w.heap.size w).alloc (Nat.le_refl _) _).drew.drew.drew.drew.drew⟩

set_option maxRecDepth 100000 in
theorem rf_33 (f x : Int) (hs : shp f = 33) (hx : 0 ≤ x) (hx2 : x < 4294967296) (w : World) (hL : Inst.Laid w) :
    Calls Tryd.prog 52 #[.int .i64 f, .int .u32 x] w fun e w' => e = .returned (.agg #[.int .i64 f, .int .i64 0, .int .i64 0, .int .i64 0, .int .i64 0, .int .i64 (ofc x), .int .i64 0, .int .i64 0, .int .i64 0, .int .i64 (x / 4194304 % 16), .int .i64 0]) ∧ Below w.heap.size w w' := by
  have e0 := ct_at x (h := 20) (l := 20) (by decide : pw 20 = 1048576) (by decide : pw (20 - 20 + 1) = 2)
  have e1 := ct_at x (h := 19) (l := 16) (by decide : pw 16 = 65536) (by decide : pw (19 - 16 + 1) = 16)
  have e2 := ct_at x (h := 3) (l := 0) (by decide : pw 0 = 1) (by decide : pw (3 - 0 + 1) = 16)
  have e3 := ct_at x (h := 15) (l := 12) (by decide : pw 12 = 4096) (by decide : pw (15 - 12 + 1) = 16)
  have e4 := ct_at x (h := 11) (l := 8) (by decide : pw 8 = 256) (by decide : pw (11 - 8 + 1) = 16)
  have e5 := ct_at x (h := 25) (l := 22) (by decide : pw 22 = 4194304) (by decide : pw (25 - 22 + 1) = 16)
  have hB := (Below.refl w.heap.size w).alloc (Nat.le_refl _) (.cells #[.int .i64 0, .int .i64 0, .int .i64 0, .int .i64 0, .int .i64 0, .int .i64 0, .int .i64 0, .int .i64 0, .int .i64 0, .int .i64 0, .int .i64 0] 36)
  have hLs := (hL.below hB.drew.drew.drew.drew.drew).shs
  go_enter Tryd.func52, Tryd.ntmps52
  go_wp2_with (first | (go_at_call 55; refine (Shape_any _ _ hLs).mono ?_; rintro e w' ⟨rfl, rfl⟩) | (go_at_call 63; refine (field_any _ _ _ hx hx2 (by decide) (by decide) (by decide) _).mono ?_; rintro e w' ⟨rfl, rfl⟩) | (go_at_call 66; refine (ofCondWide_any _ hx hx2 _).mono ?_; rintro e w' ⟨rfl, rfl⟩))
  exact bodyPost_ret (v := (.agg #[.int .i64 f, .int .i64 0, .int .i64 0, .int .i64 0, .int .i64 0, .int .i64 (ofc x), .int .i64 0, .int .i64 0, .int .i64 0, .int .i64 (x / 4194304 % 16), .int .i64 0])) (by simp [results, Tryd.results52, go_sem]) rfl ⟨rfl, ((Below.refl w.heap.size w).alloc (Nat.le_refl _) _).drew.drew.drew.drew.drew.drew.drew.drew⟩

set_option maxRecDepth 100000 in
theorem rf_34 (f x : Int) (hs : shp f = 34) (hx : 0 ≤ x) (hx2 : x < 4294967296) (w : World) (hL : Inst.Laid w) :
    Calls Tryd.prog 52 #[.int .i64 f, .int .u32 x] w fun e w' => e = .returned (.agg #[.int .i64 f, .int .i64 0, .int .i64 0, .int .i64 0, .int .i64 0, .int .i64 (ofj x), .int .i64 0, .int .i64 0, .int .i64 0, .int .i64 0, .int .i64 0]) ∧ Below w.heap.size w w' := by
  have e0 := ct_at x (h := 20) (l := 20) (by decide : pw 20 = 1048576) (by decide : pw (20 - 20 + 1) = 2)
  have e1 := ct_at x (h := 19) (l := 16) (by decide : pw 16 = 65536) (by decide : pw (19 - 16 + 1) = 16)
  have e2 := ct_at x (h := 3) (l := 0) (by decide : pw 0 = 1) (by decide : pw (3 - 0 + 1) = 16)
  have e3 := ct_at x (h := 15) (l := 12) (by decide : pw 12 = 4096) (by decide : pw (15 - 12 + 1) = 16)
  have e4 := ct_at x (h := 11) (l := 8) (by decide : pw 8 = 256) (by decide : pw (11 - 8 + 1) = 16)
  have hB := (Below.refl w.heap.size w).alloc (Nat.le_refl _) (.cells #[.int .i64 0, .int .i64 0, .int .i64 0, .int .i64 0, .int .i64 0, .int .i64 0, .int .i64 0, .int .i64 0, .int .i64 0, .int .i64 0, .int .i64 0] 36)
  have hLs := (hL.below hB.drew.drew.drew.drew.drew).shs
  go_enter Tryd.func52, Tryd.ntmps52
  go_wp2_with (first | (go_at_call 55; refine (Shape_any _ _ hLs).mono ?_; rintro e w' ⟨rfl, rfl⟩) | (go_at_call 63; refine (field_any _ _ _ hx hx2 (by decide) (by decide) (by decide) _).mono ?_; rintro e w' ⟨rfl, rfl⟩) | (go_at_call 67; refine (ofJumpWide_any _ hx hx2 _).mono ?_; rintro e w' ⟨rfl, rfl⟩))
  exact bodyPost_ret (v := (.agg #[.int .i64 f, .int .i64 0, .int .i64 0, .int .i64 0, .int .i64 0, .int .i64 (ofj x), .int .i64 0, .int .i64 0, .int .i64 0, .int .i64 0, .int .i64 0])) (by simp [results, Tryd.results52, go_sem]) rfl ⟨rfl, ((Below.refl w.heap.size w).alloc (Nat.le_refl _) _).drew.drew.drew.drew.drew.drew.drew⟩

end Go.Proofs.YtegefbndpkbooaaDoor.Code

/-! What withFields of package code answers: a contract. -/
set_option linter.unusedVariables false
namespace Go.Proofs.YtegefbndpkbooaaDoor.Code
open Go.RowKit Go.Proofs.YtegefbndpkbooaaDoor.Alu Go.Proofs.YtegefbndpkbooaaDoor.Imm Go.Proofs.YtegefbndpkbooaaDoor.Inst

theorem narrowFields_any (f x : Int) (h0 : 1 ≤ f) (h1 : f ≤ 100) (hf : f ≤ 47) (hx : 0 ≤ x) (hx2 : x < 4294967296) (w : World) (hL : Inst.Laid w) :
    Calls Tryd.prog 53 #[.int .i64 f, .int .u32 x] w fun e w' => ∃ rd rn rm ra im kd bs st cd rg : Int, cF f (shp f) x = [rd, rn, rm, ra, im, kd, bs, st, cd, rg] ∧ e = .returned (.agg #[.int .i64 f, .int .i64 rd, .int .i64 rn, .int .i64 rm, .int .i64 ra, .int .i64 im, .int .i64 kd, .int .i64 bs, .int .i64 st, .int .i64 cd, .int .i64 rg]) ∧ Below w.heap.size w w' := by
  have hs := shp_yes (isF_yes ⟨h0, h1⟩)
  have hw := wide_shp h0 h1
  have hlo : 1 ≤ shp f := by omega
  have hhi : shp f ≤ 16 := by omega
  rcases (show shp f = 1 ∨ shp f = 2 ∨ shp f = 3 ∨ shp f = 4 ∨ shp f = 5 ∨ shp f = 6 ∨ shp f = 7 ∨ shp f = 8 ∨ shp f = 9 ∨ shp f = 10 ∨ shp f = 11 ∨ 12 ≤ shp f by omega) with e | e | e | e | e | e | e | e | e | e | e | hk11
  · exact (rf_1 f x e hx hx2 w hL).mono fun _ _ ⟨he, hb⟩ => ⟨_, _, _, _, _, _, _, _, _, _, (by rw [e]; exact cF_1 f x), he, hb⟩
  · exact (rf_2 f x e hx hx2 w hL).mono fun _ _ ⟨he, hb⟩ => ⟨_, _, _, _, _, _, _, _, _, _, (by rw [e]; exact cF_2 f x), he, hb⟩
  · exact (rf_3 f x e hx hx2 w hL).mono fun _ _ ⟨he, hb⟩ => ⟨_, _, _, _, _, _, _, _, _, _, (by rw [e]; exact cF_3 f x), he, hb⟩
  · exact (rf_4 f x e hx hx2 w hL).mono fun _ _ ⟨he, hb⟩ => ⟨_, _, _, _, _, _, _, _, _, _, (by rw [e]; exact cF_4 f x), he, hb⟩
  · exact (rf_5 f x e hx hx2 w hL).mono fun _ _ ⟨he, hb⟩ => ⟨_, _, _, _, _, _, _, _, _, _, (by rw [e]; exact cF_5 f x), he, hb⟩
  · exact (rf_6 f x e hx hx2 w hL).mono fun _ _ ⟨he, hb⟩ => ⟨_, _, _, _, _, _, _, _, _, _, (by rw [e]; exact cF_6 f x), he, hb⟩
  · exact (rf_7 f x e hx hx2 w hL).mono fun _ _ ⟨he, hb⟩ => ⟨_, _, _, _, _, _, _, _, _, _, (by rw [e]; exact cF_7 f x), he, hb⟩
  · exact (rf_8 f x e hx hx2 w hL).mono fun _ _ ⟨he, hb⟩ => ⟨_, _, _, _, _, _, _, _, _, _, (by rw [e]; exact cF_8 f x), he, hb⟩
  · exact (rf_9 f x e hx hx2 w hL).mono fun _ _ ⟨he, hb⟩ => ⟨_, _, _, _, _, _, _, _, _, _, (by rw [e]; exact cF_9 f x), he, hb⟩
  · exact (rf_10 f x e hx hx2 w hL).mono fun _ _ ⟨he, hb⟩ => ⟨_, _, _, _, _, _, _, _, _, _, (by rw [e]; exact cF_10 f x), he, hb⟩
  · exact (rf_11 f x e hx hx2 w hL).mono fun _ _ ⟨he, hb⟩ => ⟨_, _, _, _, _, _, _, _, _, _, (by rw [e]; exact cF_11 f x), he, hb⟩
  rcases (show shp f = 12 ∨ shp f = 13 ∨ shp f = 14 ∨ shp f = 15 ∨ shp f = 16 by omega) with e | e | e | e | e
  · exact (rf_12 f x e hx hx2 w hL).mono fun _ _ ⟨he, hb⟩ => ⟨_, _, _, _, _, _, _, _, _, _, (by rw [e]; exact cF_12 f x), he, hb⟩
  · exact (rf_13 f x e hx hx2 w hL).mono fun _ _ ⟨he, hb⟩ => ⟨_, _, _, _, _, _, _, _, _, _, (by rw [e]; exact cF_13 f x), he, hb⟩
  · exact (rf_14 f x e hx hx2 w hL).mono fun _ _ ⟨he, hb⟩ => ⟨_, _, _, _, _, _, _, _, _, _, (by rw [e]; exact cF_14 f x), he, hb⟩
  · exact (rf_15 f x e hx hx2 w hL).mono fun _ _ ⟨he, hb⟩ => ⟨_, _, _, _, _, _, _, _, _, _, (by rw [e]; exact cF_15 f x), he, hb⟩
  · exact (rf_16 f x e hx hx2 w hL).mono fun _ _ ⟨he, hb⟩ => ⟨_, _, _, _, _, _, _, _, _, _, (by rw [e]; exact cF_16 f x), he, hb⟩

theorem wideFields_any (f x : Int) (h0 : 1 ≤ f) (h1 : f ≤ 100) (hf : 48 ≤ f) (hx : 0 ≤ x) (hx2 : x < 4294967296) (w : World) (hL : Inst.Laid w) :
    Calls Tryd.prog 52 #[.int .i64 f, .int .u32 x] w fun e w' => ∃ rd rn rm ra im kd bs st cd rg : Int, cF f (shp f) x = [rd, rn, rm, ra, im, kd, bs, st, cd, rg] ∧ e = .returned (.agg #[.int .i64 f, .int .i64 rd, .int .i64 rn, .int .i64 rm, .int .i64 ra, .int .i64 im, .int .i64 kd, .int .i64 bs, .int .i64 st, .int .i64 cd, .int .i64 rg]) ∧ Below w.heap.size w w' := by
  have hs := shp_yes (isF_yes ⟨h0, h1⟩)
  have hw := wide_shp h0 h1
  have hlo : 17 ≤ shp f := by omega
  have hhi : shp f ≤ 34 := by omega
  rcases (show shp f = 17 ∨ shp f = 18 ∨ shp f = 19 ∨ shp f = 20 ∨ shp f = 21 ∨ shp f = 22 ∨ shp f = 23 ∨ shp f = 24 ∨ shp f = 25 ∨ shp f = 26 ∨ shp f = 27 ∨ 28 ≤ shp f by omega) with e | e | e | e | e | e | e | e | e | e | e | hk27
  · exact (rf_17 f x e hx hx2 w hL).mono fun _ _ ⟨he, hb⟩ => ⟨_, _, _, _, _, _, _, _, _, _, (by rw [e]; exact cF_17 f x), he, hb⟩
  · exact (rf_18 f x e hx hx2 w hL).mono fun _ _ ⟨he, hb⟩ => ⟨_, _, _, _, _, _, _, _, _, _, (by rw [e]; exact cF_18 f x), he, hb⟩
  · exact (rf_19 f x e hx hx2 w hL).mono fun _ _ ⟨he, hb⟩ => ⟨_, _, _, _, _, _, _, _, _, _, (by rw [e]; exact cF_19 f x), he, hb⟩
  · exact (rf_20 f x e hx hx2 w hL).mono fun _ _ ⟨he, hb⟩ => ⟨_, _, _, _, _, _, _, _, _, _, (by rw [e]; exact cF_20 f x), he, hb⟩
  · exact (rf_21 f x e hx hx2 w hL).mono fun _ _ ⟨he, hb⟩ => ⟨_, _, _, _, _, _, _, _, _, _, (by rw [e]; exact cF_21 f x), he, hb⟩
  · exact (rf_22 f x e hx hx2 w hL).mono fun _ _ ⟨he, hb⟩ => ⟨_, _, _, _, _, _, _, _, _, _, (by rw [e]; exact cF_22 f x), he, hb⟩
  · exact (rf_23 f x e hx hx2 w hL).mono fun _ _ ⟨he, hb⟩ => ⟨_, _, _, _, _, _, _, _, _, _, (by rw [e]; exact cF_23 f x), he, hb⟩
  · exact (rf_24 f x e hx hx2 w hL).mono fun _ _ ⟨he, hb⟩ => ⟨_, _, _, _, _, _, _, _, _, _, (by rw [e]; exact cF_24 f x), he, hb⟩
  · exact (rf_25 f x e hx hx2 w hL).mono fun _ _ ⟨he, hb⟩ => ⟨_, _, _, _, _, _, _, _, _, _, (by rw [e]; exact cF_25 f x), he, hb⟩
  · exact (rf_26 f x e hx hx2 w hL).mono fun _ _ ⟨he, hb⟩ => ⟨_, _, _, _, _, _, _, _, _, _, (by rw [e]; exact cF_26 f x), he, hb⟩
  · exact (rf_27 f x e hx hx2 w hL).mono fun _ _ ⟨he, hb⟩ => ⟨_, _, _, _, _, _, _, _, _, _, (by rw [e]; exact cF_27 f x), he, hb⟩
  rcases (show shp f = 28 ∨ shp f = 29 ∨ shp f = 30 ∨ shp f = 31 ∨ shp f = 32 ∨ shp f = 33 ∨ shp f = 34 by omega) with e | e | e | e | e | e | e
  · exact (rf_28 f x e hx hx2 w hL).mono fun _ _ ⟨he, hb⟩ => ⟨_, _, _, _, _, _, _, _, _, _, (by rw [e]; exact cF_28 f x), he, hb⟩
  · exact (rf_29 f x e hx hx2 w hL).mono fun _ _ ⟨he, hb⟩ => ⟨_, _, _, _, _, _, _, _, _, _, (by rw [e]; exact cF_29 f x), he, hb⟩
  · exact (rf_30 f x e hx hx2 w hL).mono fun _ _ ⟨he, hb⟩ => ⟨_, _, _, _, _, _, _, _, _, _, (by rw [e]; exact cF_30 f x), he, hb⟩
  · exact (rf_31 f x e hx hx2 w hL).mono fun _ _ ⟨he, hb⟩ => ⟨_, _, _, _, _, _, _, _, _, _, (by rw [e]; exact cF_31 f x), he, hb⟩
  · exact (rf_32 f x e hx hx2 w hL).mono fun _ _ ⟨he, hb⟩ => ⟨_, _, _, _, _, _, _, _, _, _, (by rw [e]; exact cF_32 f x), he, hb⟩
  · exact (rf_33 f x e hx hx2 w hL).mono fun _ _ ⟨he, hb⟩ => ⟨_, _, _, _, _, _, _, _, _, _, (by rw [e]; exact cF_33 f x), he, hb⟩
  · exact (rf_34 f x e hx hx2 w hL).mono fun _ _ ⟨he, hb⟩ => ⟨_, _, _, _, _, _, _, _, _, _, (by rw [e]; exact cF_34 f x), he, hb⟩

theorem set11 {w w1 : World} {v0 v1 v2 v3 v4 v5 v6 v7 v8 v9 v10 : Value} (h : Below w.heap.size w w1) : Below w.heap.size w (((((((((((w1.setCell ⟨w.heap.size, 0, none⟩ v0).setCell ⟨w.heap.size, 1, none⟩ v1).setCell ⟨w.heap.size, 2, none⟩ v2).setCell ⟨w.heap.size, 3, none⟩ v3).setCell ⟨w.heap.size, 4, none⟩ v4).setCell ⟨w.heap.size, 5, none⟩ v5).setCell ⟨w.heap.size, 6, none⟩ v6).setCell ⟨w.heap.size, 7, none⟩ v7).setCell ⟨w.heap.size, 8, none⟩ v8).setCell ⟨w.heap.size, 9, none⟩ v9).setCell ⟨w.heap.size, 10, none⟩ v10) :=
  ((((((((((h.setCell (Nat.le_refl _) _).setCell (Nat.le_refl _) _).setCell (Nat.le_refl _) _).setCell (Nat.le_refl _) _).setCell (Nat.le_refl _) _).setCell (Nat.le_refl _) _).setCell (Nat.le_refl _) _).setCell (Nat.le_refl _) _).setCell (Nat.le_refl _) _).setCell (Nat.le_refl _) _).setCell (Nat.le_refl _) _

theorem withFields_any (f x : Int) (h0 : 1 ≤ f) (h1 : f ≤ 100) (hx : 0 ≤ x) (hx2 : x < 4294967296) (w : World) (hL : Inst.Laid w) :
    Calls Tryd.prog 39 #[.int .i64 f, .int .u32 x] w fun e w' => ∃ rd rn rm ra im kd bs st cd rg : Int, cF f (shp f) x = [rd, rn, rm, ra, im, kd, bs, st, cd, rg] ∧ e = .returned (.agg #[.int .i64 f, .int .i64 rd, .int .i64 rn, .int .i64 rm, .int .i64 ra, .int .i64 im, .int .i64 kd, .int .i64 bs, .int .i64 st, .int .i64 cd, .int .i64 rg]) ∧ Below w.heap.size w w' := by
  have hB := (Below.refl w.heap.size w).alloc (Nat.le_refl _) (.cells #[.int .i64 0, .int .i64 0, .int .i64 0, .int .i64 0, .int .i64 0, .int .i64 0, .int .i64 0, .int .i64 0, .int .i64 0, .int .i64 0, .int .i64 0] 36)
  by_cases hf : f ≤ 47
  · have hwd : wdF f = false := by unfold wdF; rw [decide_eq_false_iff_not]; omega
    go_enter Tryd.func39, Tryd.ntmps39
    go_wp2_with (go_at_call 37; refine (Inst.Wide_any _ _).mono ?_; rintro e w' ⟨rfl, rfl⟩)
    refine (narrowFields_any f x h0 h1 hf hx hx2 _ (hL.below hB)).mono ?_
    rintro e w1 ⟨rd, rn, rm, ra, im, kd, bs, st, cd, rg, hcf, rfl, hb1⟩
    have HC := hide hcf
    clear hcf
    obtain ⟨hc, hfz⟩ := bcell hb1
    go_wp2_with fail
    exact bodyPost_ret (v := (.agg #[.int .i64 f, .int .i64 rd, .int .i64 rn, .int .i64 rm, .int .i64 ra, .int .i64 im, .int .i64 kd, .int .i64 bs, .int .i64 st, .int .i64 cd, .int .i64 rg])) (by simp [results, Tryd.results39, go_sem, hc]) rfl ⟨rd, rn, rm, ra, im, kd, bs, st, cd, rg, unhide HC, rfl, (set11 (hB.trans (hb1.mono hB.size)))⟩
  · have hwd : wdF f = true := by unfold wdF; rw [decide_eq_true_eq]; omega
    go_enter Tryd.func39, Tryd.ntmps39
    go_wp2_with (go_at_call 37; refine (Inst.Wide_any _ _).mono ?_; rintro e w' ⟨rfl, rfl⟩)
    refine (wideFields_any f x h0 h1 (by omega) hx hx2 _ (hL.below hB)).mono ?_
    rintro e w1 ⟨rd, rn, rm, ra, im, kd, bs, st, cd, rg, hcf, rfl, hb1⟩
    have HC := hide hcf
    clear hcf
    obtain ⟨hc, hfz⟩ := bcell hb1
    go_wp2_with fail
    exact bodyPost_ret (v := (.agg #[.int .i64 f, .int .i64 rd, .int .i64 rn, .int .i64 rm, .int .i64 ra, .int .i64 im, .int .i64 kd, .int .i64 bs, .int .i64 st, .int .i64 cd, .int .i64 rg])) (by simp [results, Tryd.results39, go_sem, hc]) rfl ⟨rd, rn, rm, ra, im, kd, bs, st, cd, rg, unhide HC, rfl, (set11 (hB.trans (hb1.mono hB.size)))⟩

end Go.Proofs.YtegefbndpkbooaaDoor.Code

