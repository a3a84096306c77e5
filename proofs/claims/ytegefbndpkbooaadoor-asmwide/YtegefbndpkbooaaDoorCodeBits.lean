/- CodeBitsA, CodeBitsB, CodeBitsC, CodeBitsD, joined. -/
import Derived.Test.YtegefbndpkbooaaDoorCodeCut
import Derived.Test.YtegefbndpkbooaaDoorCodeBacks
import Derived.Test.YtegefbndpkbooaaDoorInstForm
import Derived.BigQuiet
import Derived.Deep.QuietTactic

/-! What the code's bits of a right instruction's fields are, shape by shape: contracts. -/
set_option linter.unusedVariables false
namespace Go.Proofs.YtegefbndpkbooaaDoor.Code
open Go.RowKit Go.Proofs.YtegefbndpkbooaaDoor.Alu Go.Proofs.YtegefbndpkbooaaDoor.Imm Go.Proofs.YtegefbndpkbooaaDoor.Inst

theorem fb_1 (f rd rn rm ra im kd bs st cd rg : Int) (hs : shp f = 1) (l : (0 ≤ rd ∧ rd ≤ 7) ∧ (rn = 0) ∧ (0 ≤ rm ∧ rm ≤ 7) ∧ (ra = 0) ∧ (0 ≤ im ∧ im ≤ 32 ∧ (f = 1 → im ≤ 31) ∧ (¬ f = 1 → 1 ≤ im)) ∧ (kd = 0) ∧ (bs = 0) ∧ (st = 0) ∧ (cd = 0) ∧ (rg = 0)) (w : World) (hL : Inst.Laid w) :
    Calls Tryd.prog 70 #[.agg #[.int .i64 f, .int .i64 rd, .int .i64 rn, .int .i64 rm, .int .i64 ra, .int .i64 im, .int .i64 kd, .int .i64 bs, .int .i64 st, .int .i64 cd, .int .i64 rg]] w fun e w' => e = .returned (.int .u32 (add 1 rd rn rm ra im kd bs st cd rg)) ∧ Below w.heap.size w w' := by
  have b_rd : 0 ≤ rd ∧ rd ≤ 7 := by omega
  have b_rm : 0 ≤ rm ∧ rm ≤ 7 := by omega
  have b_im : 0 ≤ im ∧ im ≤ 32 := by omega
  clear l
  have e0 := ct_at im (h := 4) (l := 0) (by decide : pw 0 = 1) (by decide : pw (4 - 0 + 1) = 32)
  have hB := (Below.refl w.heap.size w).alloc (Nat.le_refl _) (.cells #[.int .i64 f, .int .i64 rd, .int .i64 rn, .int .i64 rm, .int .i64 ra, .int .i64 im, .int .i64 kd, .int .i64 bs, .int .i64 st, .int .i64 cd, .int .i64 rg] 36)
  have hLs := (hL.below hB.drew.drew).shs
  go_enter Tryd.func70, Tryd.ntmps70
  go_wp2_with fail
  go_region
  go_wp2_with fail
  go_region
  go_wp2_with (first | (go_at_call 55; refine (Shape_any _ _ hLs).mono ?_; rintro e w' ⟨rfl, rfl⟩) | (go_at_call 35; refine (cut_any _ _ _ (by omega) (by omega) (by decide) (by decide) (by decide) _).mono ?_; rintro e w' ⟨rfl, rfl⟩))
  go_ret
  exact ⟨ret_int ((or_1 (by omega) (by omega) (by omega)).1.trans (by rw [add_1] <;> omega)), hB.drew.drew.drew⟩

theorem fb_2 (f rd rn rm ra im kd bs st cd rg : Int) (hs : shp f = 2) (l : (0 ≤ rd ∧ rd ≤ 7) ∧ (0 ≤ rn ∧ rn ≤ 7) ∧ (0 ≤ rm ∧ rm ≤ 7) ∧ (ra = 0) ∧ (im = 0) ∧ (kd = 0) ∧ (bs = 0) ∧ (st = 0) ∧ (cd = 0) ∧ (rg = 0)) (w : World) (hL : Inst.Laid w) :
    Calls Tryd.prog 70 #[.agg #[.int .i64 f, .int .i64 rd, .int .i64 rn, .int .i64 rm, .int .i64 ra, .int .i64 im, .int .i64 kd, .int .i64 bs, .int .i64 st, .int .i64 cd, .int .i64 rg]] w fun e w' => e = .returned (.int .u32 (add 2 rd rn rm ra im kd bs st cd rg)) ∧ Below w.heap.size w w' := by
  have b_rd : 0 ≤ rd ∧ rd ≤ 7 := by omega
  have b_rn : 0 ≤ rn ∧ rn ≤ 7 := by omega
  have b_rm : 0 ≤ rm ∧ rm ≤ 7 := by omega
  clear l
  have hB := (Below.refl w.heap.size w).alloc (Nat.le_refl _) (.cells #[.int .i64 f, .int .i64 rd, .int .i64 rn, .int .i64 rm, .int .i64 ra, .int .i64 im, .int .i64 kd, .int .i64 bs, .int .i64 st, .int .i64 cd, .int .i64 rg] 36)
  have hLs := (hL.below hB.drew.drew).shs
  go_enter Tryd.func70, Tryd.ntmps70
  go_wp2_with fail
  go_region
  go_wp2_with fail
  go_region
  go_wp2_with (first | (go_at_call 55; refine (Shape_any _ _ hLs).mono ?_; rintro e w' ⟨rfl, rfl⟩))
  go_ret
  exact ⟨ret_int ((or_2 (by omega) (by omega) (by omega)).1.trans (by rw [add_2] <;> omega)), hB.drew.drew⟩

theorem fb_3 (f rd rn rm ra im kd bs st cd rg : Int) (hs : shp f = 3) (l : (0 ≤ rd ∧ rd ≤ 7) ∧ (0 ≤ rn ∧ rn ≤ 7) ∧ (rm = 0) ∧ (ra = 0) ∧ (0 ≤ im ∧ im ≤ 7) ∧ (kd = 0) ∧ (bs = 0) ∧ (st = 0) ∧ (cd = 0) ∧ (rg = 0)) (w : World) (hL : Inst.Laid w) :
    Calls Tryd.prog 70 #[.agg #[.int .i64 f, .int .i64 rd, .int .i64 rn, .int .i64 rm, .int .i64 ra, .int .i64 im, .int .i64 kd, .int .i64 bs, .int .i64 st, .int .i64 cd, .int .i64 rg]] w fun e w' => e = .returned (.int .u32 (add 3 rd rn rm ra im kd bs st cd rg)) ∧ Below w.heap.size w w' := by
  have b_rd : 0 ≤ rd ∧ rd ≤ 7 := by omega
  have b_rn : 0 ≤ rn ∧ rn ≤ 7 := by omega
  have b_im : 0 ≤ im ∧ im ≤ 7 := by omega
  clear l
  have hB := (Below.refl w.heap.size w).alloc (Nat.le_refl _) (.cells #[.int .i64 f, .int .i64 rd, .int .i64 rn, .int .i64 rm, .int .i64 ra, .int .i64 im, .int .i64 kd, .int .i64 bs, .int .i64 st, .int .i64 cd, .int .i64 rg] 36)
  have hLs := (hL.below hB.drew.drew).shs
  go_enter Tryd.func70, Tryd.ntmps70
  go_wp2_with fail
  go_region
  go_wp2_with fail
  go_region
  go_wp2_with (first | (go_at_call 55; refine (Shape_any _ _ hLs).mono ?_; rintro e w' ⟨rfl, rfl⟩))
  go_ret
  exact ⟨ret_int ((or_2 (by omega) (by omega) (by omega)).1.trans (by rw [add_3] <;> omega)), hB.drew.drew⟩

theorem fb_4 (f rd rn rm ra im kd bs st cd rg : Int) (hs : shp f = 4) (l : (0 ≤ rd ∧ rd ≤ 7) ∧ (rn = 0) ∧ (rm = 0) ∧ (ra = 0) ∧ (0 ≤ im ∧ im ≤ 255) ∧ (kd = 0) ∧ (bs = 0) ∧ (st = 0) ∧ (cd = 0) ∧ (rg = 0)) (w : World) (hL : Inst.Laid w) :
    Calls Tryd.prog 70 #[.agg #[.int .i64 f, .int .i64 rd, .int .i64 rn, .int .i64 rm, .int .i64 ra, .int .i64 im, .int .i64 kd, .int .i64 bs, .int .i64 st, .int .i64 cd, .int .i64 rg]] w fun e w' => e = .returned (.int .u32 (add 4 rd rn rm ra im kd bs st cd rg)) ∧ Below w.heap.size w w' := by
  have b_rd : 0 ≤ rd ∧ rd ≤ 7 := by omega
  have b_im : 0 ≤ im ∧ im ≤ 255 := by omega
  clear l
  have hB := (Below.refl w.heap.size w).alloc (Nat.le_refl _) (.cells #[.int .i64 f, .int .i64 rd, .int .i64 rn, .int .i64 rm, .int .i64 ra, .int .i64 im, .int .i64 kd, .int .i64 bs, .int .i64 st, .int .i64 cd, .int .i64 rg] 36)
  have hLs := (hL.below hB.drew.drew).shs
  go_enter Tryd.func70, Tryd.ntmps70
  go_wp2_with fail
  go_region
  go_wp2_with fail
  go_region
  go_wp2_with (first | (go_at_call 55; refine (Shape_any _ _ hLs).mono ?_; rintro e w' ⟨rfl, rfl⟩))
  go_ret
  exact ⟨ret_int ((or_4 (by omega) (by omega)).1.trans (by rw [add_4] <;> omega)), hB.drew.drew⟩

theorem fb_5 (f rd rn rm ra im kd bs st cd rg : Int) (hs : shp f = 5) (l : (0 ≤ rd ∧ rd ≤ 7) ∧ (rn = 0) ∧ (0 ≤ rm ∧ rm ≤ 7) ∧ (ra = 0) ∧ (im = 0) ∧ (kd = 0) ∧ (bs = 0) ∧ (st = 0) ∧ (cd = 0) ∧ (rg = 0)) (w : World) (hL : Inst.Laid w) :
    Calls Tryd.prog 70 #[.agg #[.int .i64 f, .int .i64 rd, .int .i64 rn, .int .i64 rm, .int .i64 ra, .int .i64 im, .int .i64 kd, .int .i64 bs, .int .i64 st, .int .i64 cd, .int .i64 rg]] w fun e w' => e = .returned (.int .u32 (add 5 rd rn rm ra im kd bs st cd rg)) ∧ Below w.heap.size w w' := by
  have b_rd : 0 ≤ rd ∧ rd ≤ 7 := by omega
  have b_rm : 0 ≤ rm ∧ rm ≤ 7 := by omega
  clear l
  have hB := (Below.refl w.heap.size w).alloc (Nat.le_refl _) (.cells #[.int .i64 f, .int .i64 rd, .int .i64 rn, .int .i64 rm, .int .i64 ra, .int .i64 im, .int .i64 kd, .int .i64 bs, .int .i64 st, .int .i64 cd, .int .i64 rg] 36)
  have hLs := (hL.below hB.drew.drew).shs
  go_enter Tryd.func70, Tryd.ntmps70
  go_wp2_with fail
  go_region
  go_wp2_with fail
  go_region
  go_wp2_with (first | (go_at_call 55; refine (Shape_any _ _ hLs).mono ?_; rintro e w' ⟨rfl, rfl⟩))
  go_ret
  exact ⟨ret_int ((or_5 (by omega) (by omega)).1.trans (by rw [add_5] <;> omega)), hB.drew.drew⟩

theorem fb_6 (f rd rn rm ra im kd bs st cd rg : Int) (hs : shp f = 6) (l : (0 ≤ rd ∧ rd ≤ 14) ∧ (rn = 0) ∧ (0 ≤ rm ∧ rm ≤ 14) ∧ (ra = 0) ∧ (im = 0) ∧ (kd = 0) ∧ (bs = 0) ∧ (st = 0) ∧ (cd = 0) ∧ (rg = 0)) (w : World) (hL : Inst.Laid w) :
    Calls Tryd.prog 70 #[.agg #[.int .i64 f, .int .i64 rd, .int .i64 rn, .int .i64 rm, .int .i64 ra, .int .i64 im, .int .i64 kd, .int .i64 bs, .int .i64 st, .int .i64 cd, .int .i64 rg]] w fun e w' => e = .returned (.int .u32 (add 6 rd rn rm ra im kd bs st cd rg)) ∧ Below w.heap.size w w' := by
  have b_rd : 0 ≤ rd ∧ rd ≤ 14 := by omega
  have b_rm : 0 ≤ rm ∧ rm ≤ 14 := by omega
  clear l
  have e0 := bit_at rd (k := 3) (by decide) (by decide) (by decide : pw 3 = 8)
  have e1 := ct_at rd (h := 2) (l := 0) (by decide : pw 0 = 1) (by decide : pw (2 - 0 + 1) = 8)
  have hB := (Below.refl w.heap.size w).alloc (Nat.le_refl _) (.cells #[.int .i64 f, .int .i64 rd, .int .i64 rn, .int .i64 rm, .int .i64 ra, .int .i64 im, .int .i64 kd, .int .i64 bs, .int .i64 st, .int .i64 cd, .int .i64 rg] 36)
  have hLs := (hL.below hB.drew.drew).shs
  go_enter Tryd.func70, Tryd.ntmps70
  go_wp2_with fail
  go_region
  go_wp2_with fail
  go_region
  go_wp2_with (first | (go_at_call 55; refine (Shape_any _ _ hLs).mono ?_; rintro e w' ⟨rfl, rfl⟩) | (go_at_call 73; refine (Bit_any _ _ (by omega) (by omega) _).mono ?_; rintro e w' ⟨rfl, rfl⟩) | (go_at_call 35; refine (cut_any _ _ _ (by omega) (by omega) (by decide) (by decide) (by decide) _).mono ?_; rintro e w' ⟨rfl, rfl⟩))
  go_ret
  exact ⟨ret_int ((or_6 (by omega) (by omega) (by omega)).1.trans (by rw [add_6] <;> omega)), hB.drew.drew.drew⟩

theorem fb_7 (f rd rn rm ra im kd bs st cd rg : Int) (hs : shp f = 7) (l : (rd = 0) ∧ (rn = 0) ∧ (0 ≤ rm ∧ rm ≤ 14) ∧ (ra = 0) ∧ (im = 0) ∧ (kd = 0) ∧ (bs = 0) ∧ (st = 0) ∧ (cd = 0) ∧ (rg = 0)) (w : World) (hL : Inst.Laid w) :
    Calls Tryd.prog 70 #[.agg #[.int .i64 f, .int .i64 rd, .int .i64 rn, .int .i64 rm, .int .i64 ra, .int .i64 im, .int .i64 kd, .int .i64 bs, .int .i64 st, .int .i64 cd, .int .i64 rg]] w fun e w' => e = .returned (.int .u32 (add 7 rd rn rm ra im kd bs st cd rg)) ∧ Below w.heap.size w w' := by
  have b_rm : 0 ≤ rm ∧ rm ≤ 14 := by omega
  clear l
  have hB := (Below.refl w.heap.size w).alloc (Nat.le_refl _) (.cells #[.int .i64 f, .int .i64 rd, .int .i64 rn, .int .i64 rm, .int .i64 ra, .int .i64 im, .int .i64 kd, .int .i64 bs, .int .i64 st, .int .i64 cd, .int .i64 rg] 36)
  have hLs := (hL.below hB.drew.drew).shs
  go_enter Tryd.func70, Tryd.ntmps70
  go_wp2_with fail
  go_region
  go_wp2_with fail
  go_region
  go_wp2_with (first | (go_at_call 55; refine (Shape_any _ _ hLs).mono ?_; rintro e w' ⟨rfl, rfl⟩))
  go_ret
  exact ⟨ret_int (by rw [add_7] <;> omega), hB.drew.drew⟩

theorem fb_8 (f rd rn rm ra im kd bs st cd rg : Int) (hs : shp f = 8) (l : (0 ≤ rd ∧ rd ≤ 7) ∧ (rn = 0) ∧ (rm = 0) ∧ (ra = 0) ∧ (0 ≤ im ∧ im ≤ 1020 ∧ im % 4 = 0) ∧ (kd = 0) ∧ (bs = 0) ∧ (st = 0) ∧ (cd = 0) ∧ (rg = 0)) (w : World) (hL : Inst.Laid w) :
    Calls Tryd.prog 70 #[.agg #[.int .i64 f, .int .i64 rd, .int .i64 rn, .int .i64 rm, .int .i64 ra, .int .i64 im, .int .i64 kd, .int .i64 bs, .int .i64 st, .int .i64 cd, .int .i64 rg]] w fun e w' => e = .returned (.int .u32 (add 8 rd rn rm ra im kd bs st cd rg)) ∧ Below w.heap.size w w' := by
  have b_rd : 0 ≤ rd ∧ rd ≤ 7 := by omega
  have b_im : 0 ≤ im ∧ im ≤ 1020 := by omega
  clear l
  have hB := (Below.refl w.heap.size w).alloc (Nat.le_refl _) (.cells #[.int .i64 f, .int .i64 rd, .int .i64 rn, .int .i64 rm, .int .i64 ra, .int .i64 im, .int .i64 kd, .int .i64 bs, .int .i64 st, .int .i64 cd, .int .i64 rg] 36)
  have hLs := (hL.below hB.drew.drew).shs
  go_enter Tryd.func70, Tryd.ntmps70
  go_wp2_with fail
  go_region
  go_wp2_with fail
  go_region
  go_wp2_with (first | (go_at_call 55; refine (Shape_any _ _ hLs).mono ?_; rintro e w' ⟨rfl, rfl⟩))
  go_ret
  exact ⟨ret_int ((or_4 (by omega) (by omega)).1.trans (by rw [add_8] <;> omega)), hB.drew.drew⟩

theorem fb_9 (f rd rn rm ra im kd bs st cd rg : Int) (hs : shp f = 9) (l : (0 ≤ rd ∧ rd ≤ 7) ∧ (0 ≤ rn ∧ rn ≤ 7) ∧ (rm = 0) ∧ (ra = 0) ∧ (0 ≤ im ∧ im ≤ 124 ∧ im % 4 = 0) ∧ (kd = 0) ∧ (bs = 0) ∧ (st = 0) ∧ (cd = 0) ∧ (rg = 0)) (w : World) (hL : Inst.Laid w) :
    Calls Tryd.prog 70 #[.agg #[.int .i64 f, .int .i64 rd, .int .i64 rn, .int .i64 rm, .int .i64 ra, .int .i64 im, .int .i64 kd, .int .i64 bs, .int .i64 st, .int .i64 cd, .int .i64 rg]] w fun e w' => e = .returned (.int .u32 (add 9 rd rn rm ra im kd bs st cd rg)) ∧ Below w.heap.size w w' := by
  have b_rd : 0 ≤ rd ∧ rd ≤ 7 := by omega
  have b_rn : 0 ≤ rn ∧ rn ≤ 7 := by omega
  have b_im : 0 ≤ im ∧ im ≤ 124 := by omega
  clear l
  have hB := (Below.refl w.heap.size w).alloc (Nat.le_refl _) (.cells #[.int .i64 f, .int .i64 rd, .int .i64 rn, .int .i64 rm, .int .i64 ra, .int .i64 im, .int .i64 kd, .int .i64 bs, .int .i64 st, .int .i64 cd, .int .i64 rg] 36)
  have hLs := (hL.below hB.drew.drew).shs
  go_enter Tryd.func70, Tryd.ntmps70
  go_wp2_with fail
  go_region
  go_wp2_with fail
  go_region
  go_wp2_with (first | (go_at_call 55; refine (Shape_any _ _ hLs).mono ?_; rintro e w' ⟨rfl, rfl⟩))
  go_ret
  exact ⟨ret_int ((or_1 (by omega) (by omega) (by omega)).1.trans (by rw [add_9] <;> omega)), hB.drew.drew⟩

end Go.Proofs.YtegefbndpkbooaaDoor.Code

/-! What the code's bits of a right instruction's fields are, shape by shape: contracts. -/
set_option linter.unusedVariables false
namespace Go.Proofs.YtegefbndpkbooaaDoor.Code
open Go.RowKit Go.Proofs.YtegefbndpkbooaaDoor.Alu Go.Proofs.YtegefbndpkbooaaDoor.Imm Go.Proofs.YtegefbndpkbooaaDoor.Inst

theorem below_drewN (w : World) (n : Nat) : Below w.heap.size w (w.drewN n) := ⟨rfl, rfl, rfl, Nat.le_refl _, fun _ _ => rfl⟩
theorem quiet_drew1 {P : Program} {f : FuncId} {args : Array Value} {w0 : World} {n : Nat} {v : Value} (h : Calls P f args (w0.drewN n) fun e w' => e = .returned v ∧ w' = (w0.drewN n).drew) : Calls P f args (w0.drewN n) fun e w' => e = .returned v ∧ ∃ m, w' = w0.drewN m :=
  h.mono fun e w' ⟨a, b⟩ => ⟨a, n + 1, b⟩
theorem quiet_drew2 {P : Program} {f : FuncId} {args : Array Value} {w0 : World} {n : Nat} {v : Value} (h : Calls P f args (w0.drewN n) fun e w' => e = .returned v ∧ w' = (w0.drewN n).drew.drew) : Calls P f args (w0.drewN n) fun e w' => e = .returned v ∧ ∃ m, w' = w0.drewN m :=
  h.mono fun e w' ⟨a, b⟩ => ⟨a, n + 2, b⟩
theorem fin_34 (rd rn rm ra im kd bs st cd rg : Int) : jwb (im % 4294967296) = add 34 rd rn rm ra im kd bs st cd rg := by
  rw [add_34]; unfold jwb sm j1 j2
  have a1 : im % 4294967296 / 16777216 % 2 = im / 16777216 % 2 := by omega
  have a2 : im % 4294967296 / 8388608 % 2 = im / 8388608 % 2 := by omega
  have a3 : im % 4294967296 / 4194304 % 2 = im / 4194304 % 2 := by omega
  rw [a1, a2, a3]
  congr 1
  · omega
  · omega
theorem fin_17 {a b t u v : Int} (ha : 0 ≤ a ∧ a ≤ 15) (hb : 0 ≤ b ∧ b ≤ 15) (ht : 0 ≤ t ∧ t ≤ 1) (hu : 0 ≤ u ∧ u ≤ 7) (hv : 0 ≤ v ∧ v ≤ 255) :
    bits .or .u32 (bits .or .u32 (a * 65536) (b * 256)) (t * 67108864 + u * 4096 + v) = a * 65536 + b * 256 + (t * 67108864 + u * 4096 + v) := by
  have h := (or_17 ha hb ht hu hv).1
  rw [(or_tw ht hu hv).1] at h
  exact h
theorem fin_18 {a b c t u v : Int} (ha : 0 ≤ a ∧ a ≤ 1) (hb : 0 ≤ b ∧ b ≤ 15) (hc : 0 ≤ c ∧ c ≤ 15) (ht : 0 ≤ t ∧ t ≤ 1) (hu : 0 ≤ u ∧ u ≤ 7) (hv : 0 ≤ v ∧ v ≤ 255) :
    bits .or .u32 (bits .or .u32 (bits .or .u32 (a * 1048576) (b * 65536)) (c * 256)) (t * 67108864 + u * 4096 + v) = a * 1048576 + b * 65536 + c * 256 + (t * 67108864 + u * 4096 + v) := by
  have h := (or_18 ha hb hc ht hu hv).1
  rw [(or_tw ht hu hv).1] at h
  exact h
theorem fin_33 {a b c d e g : Int} (ha : 0 ≤ a ∧ a ≤ 1) (hb : 0 ≤ b ∧ b ≤ 63) (hc : 0 ≤ c ∧ c ≤ 1) (hd : 0 ≤ d ∧ d ≤ 1) (he : 0 ≤ e ∧ e ≤ 2047) (hg : 0 ≤ g ∧ g ≤ 15) :
    bits .or .u32 (a * 67108864 + b * 65536 + c * 8192 + d * 2048 + e) (g * 4194304) = a * 67108864 + b * 65536 + c * 8192 + d * 2048 + e + g * 4194304 := by
  have h := (or_33 ha hb hc hd he hg).1
  rw [(or_cw ha hb hc hd he).1] at h
  exact h

theorem fb_10 (f rd rn rm ra im kd bs st cd rg : Int) (hs : shp f = 10) (l : (rd = 0) ∧ (rn = 0) ∧ (rm = 0) ∧ (ra = 0) ∧ (0 ≤ im ∧ im ≤ 508 ∧ im % 4 = 0) ∧ (kd = 0) ∧ (bs = 0) ∧ (st = 0) ∧ (cd = 0) ∧ (rg = 0)) (w : World) (hL : Inst.Laid w) :
    Calls Tryd.prog 70 #[.agg #[.int .i64 f, .int .i64 rd, .int .i64 rn, .int .i64 rm, .int .i64 ra, .int .i64 im, .int .i64 kd, .int .i64 bs, .int .i64 st, .int .i64 cd, .int .i64 rg]] w fun e w' => e = .returned (.int .u32 (add 10 rd rn rm ra im kd bs st cd rg)) ∧ Below w.heap.size w w' := by
  have b_im : 0 ≤ im ∧ im ≤ 508 := by omega
  clear l
  have hB := (Below.refl w.heap.size w).alloc (Nat.le_refl _) (.cells #[.int .i64 f, .int .i64 rd, .int .i64 rn, .int .i64 rm, .int .i64 ra, .int .i64 im, .int .i64 kd, .int .i64 bs, .int .i64 st, .int .i64 cd, .int .i64 rg] 36)
  have hLs := (hL.below hB.drew.drew).shs
  go_enter Tryd.func70, Tryd.ntmps70
  go_wp2_with fail
  go_region
  go_wp2_with fail
  go_region
  go_wp2_with (first | (go_at_call 55; refine (Shape_any _ _ hLs).mono ?_; rintro e w' ⟨rfl, rfl⟩))
  go_ret
  exact ⟨ret_int (by rw [add_10] <;> omega), hB.drew.drew⟩

theorem fb_11 (f rd rn rm ra im kd bs st cd rg : Int) (hs : shp f = 11) (l : (rd = 0) ∧ (rn = 0) ∧ (rm = 0) ∧ (ra = 0) ∧ (im = 0) ∧ (kd = 0) ∧ (bs = 0) ∧ (st = 0) ∧ (cd = 0) ∧ ((1 ≤ rg ∧ rg ≤ 255 ∨ 16384 ≤ rg ∧ rg ≤ 16639))) (w : World) (hL : Inst.Laid w) :
    Calls Tryd.prog 70 #[.agg #[.int .i64 f, .int .i64 rd, .int .i64 rn, .int .i64 rm, .int .i64 ra, .int .i64 im, .int .i64 kd, .int .i64 bs, .int .i64 st, .int .i64 cd, .int .i64 rg]] w fun e w' => e = .returned (.int .u32 (add 11 rd rn rm ra im kd bs st cd rg)) ∧ Below w.heap.size w w' := by
  have b_rg : 0 ≤ rg ∧ rg ≤ 65535 := by omega
  clear l
  have e0 := bit_at rg (k := 14) (by decide) (by decide) (by decide : pw 14 = 16384)
  have e1 := ct_at rg (h := 7) (l := 0) (by decide : pw 0 = 1) (by decide : pw (7 - 0 + 1) = 256)
  have hB := (Below.refl w.heap.size w).alloc (Nat.le_refl _) (.cells #[.int .i64 f, .int .i64 rd, .int .i64 rn, .int .i64 rm, .int .i64 ra, .int .i64 im, .int .i64 kd, .int .i64 bs, .int .i64 st, .int .i64 cd, .int .i64 rg] 36)
  have hLs := (hL.below hB.drew.drew).shs
  go_enter Tryd.func70, Tryd.ntmps70
  go_wp2_with fail
  go_region
  go_wp2_with fail
  go_region
  go_wp2_with (first | (go_at_call 55; refine (Shape_any _ _ hLs).mono ?_; rintro e w' ⟨rfl, rfl⟩) | (go_at_call 73; refine (Bit_any _ _ (by omega) (by omega) _).mono ?_; rintro e w' ⟨rfl, rfl⟩) | (go_at_call 35; refine (cut_any _ _ _ (by omega) (by omega) (by decide) (by decide) (by decide) _).mono ?_; rintro e w' ⟨rfl, rfl⟩))
  go_ret
  exact ⟨ret_int ((or_11 (by omega) (by omega)).1.trans (by rw [add_11] <;> omega)), hB.drew.drew.drew⟩

theorem fb_12 (f rd rn rm ra im kd bs st cd rg : Int) (hs : shp f = 12) (l : (rd = 0) ∧ (rn = 0) ∧ (rm = 0) ∧ (ra = 0) ∧ (im = 0) ∧ (kd = 0) ∧ (bs = 0) ∧ (st = 0) ∧ (cd = 0) ∧ ((1 ≤ rg ∧ rg ≤ 255 ∨ 32768 ≤ rg ∧ rg ≤ 33023))) (w : World) (hL : Inst.Laid w) :
    Calls Tryd.prog 70 #[.agg #[.int .i64 f, .int .i64 rd, .int .i64 rn, .int .i64 rm, .int .i64 ra, .int .i64 im, .int .i64 kd, .int .i64 bs, .int .i64 st, .int .i64 cd, .int .i64 rg]] w fun e w' => e = .returned (.int .u32 (add 12 rd rn rm ra im kd bs st cd rg)) ∧ Below w.heap.size w w' := by
  have b_rg : 0 ≤ rg ∧ rg ≤ 65535 := by omega
  clear l
  have e0 := bit_at rg (k := 15) (by decide) (by decide) (by decide : pw 15 = 32768)
  have e1 := ct_at rg (h := 7) (l := 0) (by decide : pw 0 = 1) (by decide : pw (7 - 0 + 1) = 256)
  have hB := (Below.refl w.heap.size w).alloc (Nat.le_refl _) (.cells #[.int .i64 f, .int .i64 rd, .int .i64 rn, .int .i64 rm, .int .i64 ra, .int .i64 im, .int .i64 kd, .int .i64 bs, .int .i64 st, .int .i64 cd, .int .i64 rg] 36)
  have hLs := (hL.below hB.drew.drew).shs
  go_enter Tryd.func70, Tryd.ntmps70
  go_wp2_with fail
  go_region
  go_wp2_with fail
  go_region
  go_wp2_with (first | (go_at_call 55; refine (Shape_any _ _ hLs).mono ?_; rintro e w' ⟨rfl, rfl⟩) | (go_at_call 73; refine (Bit_any _ _ (by omega) (by omega) _).mono ?_; rintro e w' ⟨rfl, rfl⟩) | (go_at_call 35; refine (cut_any _ _ _ (by omega) (by omega) (by decide) (by decide) (by decide) _).mono ?_; rintro e w' ⟨rfl, rfl⟩))
  go_ret
  exact ⟨ret_int ((or_11 (by omega) (by omega)).1.trans (by rw [add_12] <;> omega)), hB.drew.drew.drew⟩

theorem fb_13 (f rd rn rm ra im kd bs st cd rg : Int) (hs : shp f = 13) (l : (rd = 0) ∧ (rn = 0) ∧ (rm = 0) ∧ (ra = 0) ∧ (im = 0) ∧ (kd = 0) ∧ (bs = 0) ∧ (st = 0) ∧ (cd = 0) ∧ (rg = 0)) (w : World) (hL : Inst.Laid w) :
    Calls Tryd.prog 70 #[.agg #[.int .i64 f, .int .i64 rd, .int .i64 rn, .int .i64 rm, .int .i64 ra, .int .i64 im, .int .i64 kd, .int .i64 bs, .int .i64 st, .int .i64 cd, .int .i64 rg]] w fun e w' => e = .returned (.int .u32 (add 13 rd rn rm ra im kd bs st cd rg)) ∧ Below w.heap.size w w' := by
  clear l
  have hB := (Below.refl w.heap.size w).alloc (Nat.le_refl _) (.cells #[.int .i64 f, .int .i64 rd, .int .i64 rn, .int .i64 rm, .int .i64 ra, .int .i64 im, .int .i64 kd, .int .i64 bs, .int .i64 st, .int .i64 cd, .int .i64 rg] 36)
  have hLs := (hL.below hB.drew.drew).shs
  go_enter Tryd.func70, Tryd.ntmps70
  go_wp2_with fail
  go_region
  go_wp2_with fail
  go_region
  go_wp2_with (first | (go_at_call 55; refine (Shape_any _ _ hLs).mono ?_; rintro e w' ⟨rfl, rfl⟩))
  go_ret
  exact ⟨ret_int (by rw [add_13] <;> omega), hB.drew.drew⟩

theorem fb_14 (f rd rn rm ra im kd bs st cd rg : Int) (hs : shp f = 14) (l : (rd = 0) ∧ (rn = 0) ∧ (rm = 0) ∧ (ra = 0) ∧ (0 ≤ im ∧ im ≤ 255) ∧ (kd = 0) ∧ (bs = 0) ∧ (st = 0) ∧ (cd = 0) ∧ (rg = 0)) (w : World) (hL : Inst.Laid w) :
    Calls Tryd.prog 70 #[.agg #[.int .i64 f, .int .i64 rd, .int .i64 rn, .int .i64 rm, .int .i64 ra, .int .i64 im, .int .i64 kd, .int .i64 bs, .int .i64 st, .int .i64 cd, .int .i64 rg]] w fun e w' => e = .returned (.int .u32 (add 14 rd rn rm ra im kd bs st cd rg)) ∧ Below w.heap.size w w' := by
  have b_im : 0 ≤ im ∧ im ≤ 255 := by omega
  clear l
  have hB := (Below.refl w.heap.size w).alloc (Nat.le_refl _) (.cells #[.int .i64 f, .int .i64 rd, .int .i64 rn, .int .i64 rm, .int .i64 ra, .int .i64 im, .int .i64 kd, .int .i64 bs, .int .i64 st, .int .i64 cd, .int .i64 rg] 36)
  have hLs := (hL.below hB.drew.drew).shs
  go_enter Tryd.func70, Tryd.ntmps70
  go_wp2_with fail
  go_region
  go_wp2_with fail
  go_region
  go_wp2_with (first | (go_at_call 55; refine (Shape_any _ _ hLs).mono ?_; rintro e w' ⟨rfl, rfl⟩))
  go_ret
  exact ⟨ret_int (by rw [add_14] <;> omega), hB.drew.drew⟩

theorem fb_15 (f rd rn rm ra im kd bs st cd rg : Int) (hs : shp f = 15) (l : (rd = 0) ∧ (rn = 0) ∧ (rm = 0) ∧ (ra = 0) ∧ (-256 ≤ im ∧ im ≤ 254 ∧ im % 2 = 0) ∧ (kd = 0) ∧ (bs = 0) ∧ (st = 0) ∧ (0 ≤ cd ∧ cd ≤ 13) ∧ (rg = 0)) (w : World) (hL : Inst.Laid w) :
    Calls Tryd.prog 70 #[.agg #[.int .i64 f, .int .i64 rd, .int .i64 rn, .int .i64 rm, .int .i64 ra, .int .i64 im, .int .i64 kd, .int .i64 bs, .int .i64 st, .int .i64 cd, .int .i64 rg]] w fun e w' => e = .returned (.int .u32 (add 15 rd rn rm ra im kd bs st cd rg)) ∧ Below w.heap.size w w' := by
  have b_cd : 0 ≤ cd ∧ cd ≤ 13 := by omega
  have b_im : -256 ≤ im ∧ im ≤ 254 := by omega
  clear l
  have e0 := ct_at (im % 4294967296) (h := 8) (l := 1) (by decide : pw 1 = 2) (by decide : pw (8 - 1 + 1) = 256)
  have hB := (Below.refl w.heap.size w).alloc (Nat.le_refl _) (.cells #[.int .i64 f, .int .i64 rd, .int .i64 rn, .int .i64 rm, .int .i64 ra, .int .i64 im, .int .i64 kd, .int .i64 bs, .int .i64 st, .int .i64 cd, .int .i64 rg] 36)
  have hLs := (hL.below hB.drew.drew).shs
  go_enter Tryd.func70, Tryd.ntmps70
  go_wp2_with fail
  go_region
  go_wp2_with fail
  go_region
  go_wp2_with (first | (go_at_call 55; refine (Shape_any _ _ hLs).mono ?_; rintro e w' ⟨rfl, rfl⟩) | (go_at_call 35; refine (cut_any _ _ _ (by omega) (by omega) (by decide) (by decide) (by decide) _).mono ?_; rintro e w' ⟨rfl, rfl⟩))
  go_ret
  exact ⟨ret_int ((or_15 (by omega) (by omega)).1.trans (by rw [add_15] <;> omega)), hB.drew.drew.drew⟩

theorem fb_16 (f rd rn rm ra im kd bs st cd rg : Int) (hs : shp f = 16) (l : (rd = 0) ∧ (rn = 0) ∧ (rm = 0) ∧ (ra = 0) ∧ (-2048 ≤ im ∧ im ≤ 2046 ∧ im % 2 = 0) ∧ (kd = 0) ∧ (bs = 0) ∧ (st = 0) ∧ (cd = 0) ∧ (rg = 0)) (w : World) (hL : Inst.Laid w) :
    Calls Tryd.prog 70 #[.agg #[.int .i64 f, .int .i64 rd, .int .i64 rn, .int .i64 rm, .int .i64 ra, .int .i64 im, .int .i64 kd, .int .i64 bs, .int .i64 st, .int .i64 cd, .int .i64 rg]] w fun e w' => e = .returned (.int .u32 (add 16 rd rn rm ra im kd bs st cd rg)) ∧ Below w.heap.size w w' := by
  have b_im : -2048 ≤ im ∧ im ≤ 2046 := by omega
  clear l
  have e0 := ct_at (im % 4294967296) (h := 11) (l := 1) (by decide : pw 1 = 2) (by decide : pw (11 - 1 + 1) = 2048)
  have hB := (Below.refl w.heap.size w).alloc (Nat.le_refl _) (.cells #[.int .i64 f, .int .i64 rd, .int .i64 rn, .int .i64 rm, .int .i64 ra, .int .i64 im, .int .i64 kd, .int .i64 bs, .int .i64 st, .int .i64 cd, .int .i64 rg] 36)
  have hLs := (hL.below hB.drew.drew).shs
  go_enter Tryd.func70, Tryd.ntmps70
  go_wp2_with fail
  go_region
  go_wp2_with fail
  go_region
  go_wp2_with (first | (go_at_call 55; refine (Shape_any _ _ hLs).mono ?_; rintro e w' ⟨rfl, rfl⟩) | (go_at_call 35; refine (cut_any _ _ _ (by omega) (by omega) (by decide) (by decide) (by decide) _).mono ?_; rintro e w' ⟨rfl, rfl⟩))
  go_ret
  exact ⟨ret_int (by rw [add_16] <;> omega), hB.drew.drew.drew⟩

theorem fb_17 (f rd rn rm ra im kd bs st cd rg : Int) (hs : shp f = 17) (l : ((0 ≤ rd ∧ rd ≤ 12 ∨ rd = 14)) ∧ (rn = 0) ∧ (rm = 0) ∧ (ra = 0) ∧ (0 ≤ im ∧ im ≤ 65535) ∧ (kd = 0) ∧ (bs = 0) ∧ (st = 0) ∧ (cd = 0) ∧ (rg = 0)) (w : World) (hL : Inst.Laid w) :
    Calls Tryd.prog 69 #[.agg #[.int .i64 f, .int .i64 rd, .int .i64 rn, .int .i64 rm, .int .i64 ra, .int .i64 im, .int .i64 kd, .int .i64 bs, .int .i64 st, .int .i64 cd, .int .i64 rg]] w fun e w' => e = .returned (.int .u32 (add 17 rd rn rm ra im kd bs st cd rg)) ∧ Below w.heap.size w w' := by
  have b_rd : 0 ≤ rd ∧ rd ≤ 15 := by omega
  have b_im : 0 ≤ im ∧ im ≤ 65535 := by omega
  clear l
  have e0 := ct_at im (h := 15) (l := 12) (by decide : pw 12 = 4096) (by decide : pw (15 - 12 + 1) = 16)
  have e1 : tw im = im / 2048 % 2 * 67108864 + im / 256 % 8 * 4096 + im % 256 := rfl
  have o1 := (or_tw (a := im / 2048 % 2) (b := im / 256 % 8) (c := im % 256) (by omega) (by omega) (by omega)).1
  have hB := (Below.refl w.heap.size w).alloc (Nat.le_refl _) (.cells #[.int .i64 f, .int .i64 rd, .int .i64 rn, .int .i64 rm, .int .i64 ra, .int .i64 im, .int .i64 kd, .int .i64 bs, .int .i64 st, .int .i64 cd, .int .i64 rg] 36)
  have hLs := (hL.below hB.drew.drew).shs
  go_enter Tryd.func69, Tryd.ntmps69
  go_wp2_with fail
  go_region
  go_wp2_with fail
  go_region
  go_wp2_with (first | (go_at_call 55; refine (Shape_any _ _ hLs).mono ?_; rintro e w' ⟨rfl, rfl⟩) | (go_at_call 35; refine (cut_any _ _ _ (by omega) (by omega) (by decide) (by decide) (by decide) _).mono ?_; rintro e w' ⟨rfl, rfl⟩) | (go_at_call 75; refine (twelveBits_any _ (by omega) (by omega) _).mono ?_; rintro e w' ⟨rfl, rfl⟩))
  go_ret
  exact ⟨ret_int ((fin_17 (by omega) (by omega) (by omega) (by omega) (by omega)).trans (by rw [add_17] <;> omega)), hB.drew.drew.drew.drew.drew⟩

end Go.Proofs.YtegefbndpkbooaaDoor.Code

/-! What the code's bits of a right instruction's fields are, shape by shape: contracts. -/
set_option linter.unusedVariables false
namespace Go.Proofs.YtegefbndpkbooaaDoor.Code
open Go.RowKit Go.Proofs.YtegefbndpkbooaaDoor.Alu Go.Proofs.YtegefbndpkbooaaDoor.Imm Go.Proofs.YtegefbndpkbooaaDoor.Inst

theorem fb_18 (f rd rn rm ra im kd bs st cd rg : Int) (hs : shp f = 18) (l : ((0 ≤ rd ∧ rd ≤ 12 ∨ rd = 14)) ∧ ((0 ≤ rn ∧ rn ≤ 12 ∨ rn = 14)) ∧ (rm = 0) ∧ (ra = 0) ∧ (0 ≤ im ∧ im ≤ 4095) ∧ (kd = 0) ∧ (bs = 0) ∧ (0 ≤ st ∧ st ≤ 1) ∧ (cd = 0) ∧ (rg = 0)) (w : World) (hL : Inst.Laid w) :
    Calls Tryd.prog 69 #[.agg #[.int .i64 f, .int .i64 rd, .int .i64 rn, .int .i64 rm, .int .i64 ra, .int .i64 im, .int .i64 kd, .int .i64 bs, .int .i64 st, .int .i64 cd, .int .i64 rg]] w fun e w' => e = .returned (.int .u32 (add 18 rd rn rm ra im kd bs st cd rg)) ∧ Below w.heap.size w w' := by
  have b_rd : 0 ≤ rd ∧ rd ≤ 15 := by omega
  have b_rn : 0 ≤ rn ∧ rn ≤ 15 := by omega
  have b_st : 0 ≤ st ∧ st ≤ 1 := by omega
  have b_im : 0 ≤ im ∧ im ≤ 4095 := by omega
  clear l
  have e0 : tw im = im / 2048 % 2 * 67108864 + im / 256 % 8 * 4096 + im % 256 := rfl
  have o0 := (or_tw (a := im / 2048 % 2) (b := im / 256 % 8) (c := im % 256) (by omega) (by omega) (by omega)).1
  have hB := (Below.refl w.heap.size w).alloc (Nat.le_refl _) (.cells #[.int .i64 f, .int .i64 rd, .int .i64 rn, .int .i64 rm, .int .i64 ra, .int .i64 im, .int .i64 kd, .int .i64 bs, .int .i64 st, .int .i64 cd, .int .i64 rg] 36)
  have hLs := (hL.below hB.drew.drew).shs
  go_enter Tryd.func69, Tryd.ntmps69
  go_wp2_with fail
  go_region
  go_wp2_with fail
  go_region
  go_wp2_with (first | (go_at_call 55; refine (Shape_any _ _ hLs).mono ?_; rintro e w' ⟨rfl, rfl⟩) | (go_at_call 75; refine (twelveBits_any _ (by omega) (by omega) _).mono ?_; rintro e w' ⟨rfl, rfl⟩))
  go_ret
  exact ⟨ret_int ((fin_18 (by omega) (by omega) (by omega) (by omega) (by omega) (by omega)).trans (by rw [add_18] <;> omega)), hB.drew.drew.drew.drew⟩

theorem fb_19 (f rd rn rm ra im kd bs st cd rg : Int) (hs : shp f = 19) (l : ((0 ≤ rd ∧ rd ≤ 12 ∨ rd = 14)) ∧ (rn = 0) ∧ (rm = 0) ∧ (ra = 0) ∧ (0 ≤ im ∧ im ≤ 4095) ∧ (kd = 0) ∧ (bs = 0) ∧ (0 ≤ st ∧ st ≤ 1) ∧ (cd = 0) ∧ (rg = 0)) (w : World) (hL : Inst.Laid w) :
    Calls Tryd.prog 69 #[.agg #[.int .i64 f, .int .i64 rd, .int .i64 rn, .int .i64 rm, .int .i64 ra, .int .i64 im, .int .i64 kd, .int .i64 bs, .int .i64 st, .int .i64 cd, .int .i64 rg]] w fun e w' => e = .returned (.int .u32 (add 19 rd rn rm ra im kd bs st cd rg)) ∧ Below w.heap.size w w' := by
  have b_rd : 0 ≤ rd ∧ rd ≤ 15 := by omega
  have b_rn : 0 ≤ rn ∧ rn ≤ 0 := by omega
  have b_st : 0 ≤ st ∧ st ≤ 1 := by omega
  have b_im : 0 ≤ im ∧ im ≤ 4095 := by omega
  clear l
  have e0 : tw im = im / 2048 % 2 * 67108864 + im / 256 % 8 * 4096 + im % 256 := rfl
  have o0 := (or_tw (a := im / 2048 % 2) (b := im / 256 % 8) (c := im % 256) (by omega) (by omega) (by omega)).1
  have hB := (Below.refl w.heap.size w).alloc (Nat.le_refl _) (.cells #[.int .i64 f, .int .i64 rd, .int .i64 rn, .int .i64 rm, .int .i64 ra, .int .i64 im, .int .i64 kd, .int .i64 bs, .int .i64 st, .int .i64 cd, .int .i64 rg] 36)
  have hLs := (hL.below hB.drew.drew).shs
  go_enter Tryd.func69, Tryd.ntmps69
  go_wp2_with fail
  go_region
  go_wp2_with fail
  go_region
  go_wp2_with (first | (go_at_call 55; refine (Shape_any _ _ hLs).mono ?_; rintro e w' ⟨rfl, rfl⟩) | (go_at_call 75; refine (twelveBits_any _ (by omega) (by omega) _).mono ?_; rintro e w' ⟨rfl, rfl⟩))
  go_ret
  exact ⟨ret_int ((fin_18 (by omega) (by omega) (by omega) (by omega) (by omega) (by omega)).trans (by rw [add_19] <;> omega)), hB.drew.drew.drew.drew⟩

theorem fb_20 (f rd rn rm ra im kd bs st cd rg : Int) (hs : shp f = 20) (l : (rd = 0) ∧ ((0 ≤ rn ∧ rn ≤ 12 ∨ rn = 14)) ∧ (rm = 0) ∧ (ra = 0) ∧ (0 ≤ im ∧ im ≤ 4095) ∧ (kd = 0) ∧ (bs = 0) ∧ (st = 0) ∧ (cd = 0) ∧ (rg = 0)) (w : World) (hL : Inst.Laid w) :
    Calls Tryd.prog 69 #[.agg #[.int .i64 f, .int .i64 rd, .int .i64 rn, .int .i64 rm, .int .i64 ra, .int .i64 im, .int .i64 kd, .int .i64 bs, .int .i64 st, .int .i64 cd, .int .i64 rg]] w fun e w' => e = .returned (.int .u32 (add 20 rd rn rm ra im kd bs st cd rg)) ∧ Below w.heap.size w w' := by
  have b_rd : 0 ≤ rd ∧ rd ≤ 0 := by omega
  have b_rn : 0 ≤ rn ∧ rn ≤ 15 := by omega
  have b_st : 0 ≤ st ∧ st ≤ 0 := by omega
  have b_im : 0 ≤ im ∧ im ≤ 4095 := by omega
  clear l
  have e0 : tw im = im / 2048 % 2 * 67108864 + im / 256 % 8 * 4096 + im % 256 := rfl
  have o0 := (or_tw (a := im / 2048 % 2) (b := im / 256 % 8) (c := im % 256) (by omega) (by omega) (by omega)).1
  have hB := (Below.refl w.heap.size w).alloc (Nat.le_refl _) (.cells #[.int .i64 f, .int .i64 rd, .int .i64 rn, .int .i64 rm, .int .i64 ra, .int .i64 im, .int .i64 kd, .int .i64 bs, .int .i64 st, .int .i64 cd, .int .i64 rg] 36)
  have hLs := (hL.below hB.drew.drew).shs
  go_enter Tryd.func69, Tryd.ntmps69
  go_wp2_with fail
  go_region
  go_wp2_with fail
  go_region
  go_wp2_with (first | (go_at_call 55; refine (Shape_any _ _ hLs).mono ?_; rintro e w' ⟨rfl, rfl⟩) | (go_at_call 75; refine (twelveBits_any _ (by omega) (by omega) _).mono ?_; rintro e w' ⟨rfl, rfl⟩))
  go_ret
  exact ⟨ret_int ((fin_18 (by omega) (by omega) (by omega) (by omega) (by omega) (by omega)).trans (by rw [add_20] <;> omega)), hB.drew.drew.drew.drew⟩

set_option maxRecDepth 100000 in
set_option maxHeartbeats 2000000 in
theorem fb_21 (f rd rn rm ra im kd bs st cd rg : Int) (hs : shp f = 21) (l : ((0 ≤ rd ∧ rd ≤ 12 ∨ rd = 14)) ∧ ((0 ≤ rn ∧ rn ≤ 12 ∨ rn = 14)) ∧ ((0 ≤ rm ∧ rm ≤ 12 ∨ rm = 14)) ∧ (ra = 0) ∧ (im = 0) ∧ (0 ≤ st ∧ st ≤ 1) ∧ (cd = 0) ∧ (rg = 0) ∧ ((kd = 0 ∧ 0 ≤ bs ∧ bs ≤ 31) ∨ ((kd = 1 ∨ kd = 2) ∧ 1 ≤ bs ∧ bs ≤ 32) ∨ (kd = 3 ∧ 1 ≤ bs ∧ bs ≤ 31))) (w : World) (hL : Inst.Laid w) :
    Calls Tryd.prog 69 #[.agg #[.int .i64 f, .int .i64 rd, .int .i64 rn, .int .i64 rm, .int .i64 ra, .int .i64 im, .int .i64 kd, .int .i64 bs, .int .i64 st, .int .i64 cd, .int .i64 rg]] w fun e w' => e = .returned (.int .u32 (add 21 rd rn rm ra im kd bs st cd rg)) ∧ Below w.heap.size w w' := by
  have b_rd : 0 ≤ rd ∧ rd ≤ 15 := by omega
  have b_rn : 0 ≤ rn ∧ rn ≤ 15 := by omega
  have b_rm : 0 ≤ rm ∧ rm ≤ 15 := by omega
  have b_st : 0 ≤ st ∧ st ≤ 1 := by omega
  have b_kd : 0 ≤ kd ∧ kd ≤ 3 := by omega
  have b_bs : 0 ≤ bs ∧ bs ≤ 32 := by omega
  clear l
  have e0 := ct_at bs (h := 4) (l := 2) (by decide : pw 2 = 4) (by decide : pw (4 - 2 + 1) = 8)
  have e1 := ct_at bs (h := 1) (l := 0) (by decide : pw 0 = 1) (by decide : pw (1 - 0 + 1) = 4)
  have hB := (Below.refl w.heap.size w).alloc (Nat.le_refl _) (.cells #[.int .i64 f, .int .i64 rd, .int .i64 rn, .int .i64 rm, .int .i64 ra, .int .i64 im, .int .i64 kd, .int .i64 bs, .int .i64 st, .int .i64 cd, .int .i64 rg] 36)
  have hLs := (hL.below hB.drew.drew).shs
  go_enter Tryd.func69, Tryd.ntmps69
  go_wp2_with fail
  go_region
  go_wp2_with fail
  go_region
  go_wp2_with (first | (go_at_call 55; refine (Shape_any _ _ hLs).mono ?_; rintro e w' ⟨rfl, rfl⟩))
  have hk : ((w.alloc (.cells #[.int .i64 f, .int .i64 rd, .int .i64 rn, .int .i64 rm, .int .i64 ra, .int .i64 im, .int .i64 kd, .int .i64 bs, .int .i64 st, .int .i64 cd, .int .i64 rg] 36)).drew.drew).cell? ⟨w.heap.size, 6, none⟩ = some (.int .i64 kd) := World.cell?_alloc_mark w #[.int .i64 f, .int .i64 rd, .int .i64 rn, .int .i64 rm, .int .i64 ra, .int .i64 im, .int .i64 kd, .int .i64 bs, .int .i64 st, .int .i64 cd, .int .i64 rg] 36 (0, 0) 6
  have hB2 : Below w.heap.size w (w.alloc (.cells #[.int .i64 f, .int .i64 rd, .int .i64 rn, .int .i64 rm, .int .i64 ra, .int .i64 im, .int .i64 kd, .int .i64 bs, .int .i64 st, .int .i64 cd, .int .i64 rg] 36)).drew.drew := hB.drew.drew
  clear hB hLs
  generalize (w.alloc (.cells #[.int .i64 f, .int .i64 rd, .int .i64 rn, .int .i64 rm, .int .i64 ra, .int .i64 im, .int .i64 kd, .int .i64 bs, .int .i64 st, .int .i64 cd, .int .i64 rg] 36)).drew.drew = W at *
  go_quiet (first | (go_at_call 35; exact quiet_drew1 (cut_any _ _ _ (by omega) (by omega) (by decide) (by decide) (by decide) _)))
  go_wp2_with fail
  go_ret
  exact ⟨ret_int ((or_21 (by omega) (by omega) (by omega) (by omega) (by omega) (by omega) (by omega)).1.trans (by rw [add_21] <;> omega)), hB2.trans ((below_drewN _ _).mono hB2.size)⟩

set_option maxRecDepth 100000 in
set_option maxHeartbeats 2000000 in
theorem fb_22 (f rd rn rm ra im kd bs st cd rg : Int) (hs : shp f = 22) (l : ((0 ≤ rd ∧ rd ≤ 12 ∨ rd = 14)) ∧ (rn = 0) ∧ ((0 ≤ rm ∧ rm ≤ 12 ∨ rm = 14)) ∧ (ra = 0) ∧ (im = 0) ∧ (0 ≤ st ∧ st ≤ 1) ∧ (cd = 0) ∧ (rg = 0) ∧ ((kd = 0 ∧ 0 ≤ bs ∧ bs ≤ 31) ∨ ((kd = 1 ∨ kd = 2) ∧ 1 ≤ bs ∧ bs ≤ 32) ∨ (kd = 3 ∧ 1 ≤ bs ∧ bs ≤ 31))) (w : World) (hL : Inst.Laid w) :
    Calls Tryd.prog 69 #[.agg #[.int .i64 f, .int .i64 rd, .int .i64 rn, .int .i64 rm, .int .i64 ra, .int .i64 im, .int .i64 kd, .int .i64 bs, .int .i64 st, .int .i64 cd, .int .i64 rg]] w fun e w' => e = .returned (.int .u32 (add 22 rd rn rm ra im kd bs st cd rg)) ∧ Below w.heap.size w w' := by
  have b_rd : 0 ≤ rd ∧ rd ≤ 15 := by omega
  have b_rn : 0 ≤ rn ∧ rn ≤ 0 := by omega
  have b_rm : 0 ≤ rm ∧ rm ≤ 15 := by omega
  have b_st : 0 ≤ st ∧ st ≤ 1 := by omega
  have b_kd : 0 ≤ kd ∧ kd ≤ 3 := by omega
  have b_bs : 0 ≤ bs ∧ bs ≤ 32 := by omega
  clear l
  have e0 := ct_at bs (h := 4) (l := 2) (by decide : pw 2 = 4) (by decide : pw (4 - 2 + 1) = 8)
  have e1 := ct_at bs (h := 1) (l := 0) (by decide : pw 0 = 1) (by decide : pw (1 - 0 + 1) = 4)
  have hB := (Below.refl w.heap.size w).alloc (Nat.le_refl _) (.cells #[.int .i64 f, .int .i64 rd, .int .i64 rn, .int .i64 rm, .int .i64 ra, .int .i64 im, .int .i64 kd, .int .i64 bs, .int .i64 st, .int .i64 cd, .int .i64 rg] 36)
  have hLs := (hL.below hB.drew.drew).shs
  go_enter Tryd.func69, Tryd.ntmps69
  go_wp2_with fail
  go_region
  go_wp2_with fail
  go_region
  go_wp2_with (first | (go_at_call 55; refine (Shape_any _ _ hLs).mono ?_; rintro e w' ⟨rfl, rfl⟩))
  have hk : ((w.alloc (.cells #[.int .i64 f, .int .i64 rd, .int .i64 rn, .int .i64 rm, .int .i64 ra, .int .i64 im, .int .i64 kd, .int .i64 bs, .int .i64 st, .int .i64 cd, .int .i64 rg] 36)).drew.drew).cell? ⟨w.heap.size, 6, none⟩ = some (.int .i64 kd) := World.cell?_alloc_mark w #[.int .i64 f, .int .i64 rd, .int .i64 rn, .int .i64 rm, .int .i64 ra, .int .i64 im, .int .i64 kd, .int .i64 bs, .int .i64 st, .int .i64 cd, .int .i64 rg] 36 (0, 0) 6
  have hB2 : Below w.heap.size w (w.alloc (.cells #[.int .i64 f, .int .i64 rd, .int .i64 rn, .int .i64 rm, .int .i64 ra, .int .i64 im, .int .i64 kd, .int .i64 bs, .int .i64 st, .int .i64 cd, .int .i64 rg] 36)).drew.drew := hB.drew.drew
  clear hB hLs
  generalize (w.alloc (.cells #[.int .i64 f, .int .i64 rd, .int .i64 rn, .int .i64 rm, .int .i64 ra, .int .i64 im, .int .i64 kd, .int .i64 bs, .int .i64 st, .int .i64 cd, .int .i64 rg] 36)).drew.drew = W at *
  go_quiet (first | (go_at_call 35; exact quiet_drew1 (cut_any _ _ _ (by omega) (by omega) (by decide) (by decide) (by decide) _)))
  go_wp2_with fail
  go_ret
  exact ⟨ret_int ((or_21 (by omega) (by omega) (by omega) (by omega) (by omega) (by omega) (by omega)).1.trans (by rw [add_22] <;> omega)), hB2.trans ((below_drewN _ _).mono hB2.size)⟩

set_option maxRecDepth 100000 in
set_option maxHeartbeats 2000000 in
theorem fb_23 (f rd rn rm ra im kd bs st cd rg : Int) (hs : shp f = 23) (l : (rd = 0) ∧ ((0 ≤ rn ∧ rn ≤ 12 ∨ rn = 14)) ∧ ((0 ≤ rm ∧ rm ≤ 12 ∨ rm = 14)) ∧ (ra = 0) ∧ (im = 0) ∧ (st = 0) ∧ (cd = 0) ∧ (rg = 0) ∧ ((kd = 0 ∧ 0 ≤ bs ∧ bs ≤ 31) ∨ ((kd = 1 ∨ kd = 2) ∧ 1 ≤ bs ∧ bs ≤ 32) ∨ (kd = 3 ∧ 1 ≤ bs ∧ bs ≤ 31))) (w : World) (hL : Inst.Laid w) :
    Calls Tryd.prog 69 #[.agg #[.int .i64 f, .int .i64 rd, .int .i64 rn, .int .i64 rm, .int .i64 ra, .int .i64 im, .int .i64 kd, .int .i64 bs, .int .i64 st, .int .i64 cd, .int .i64 rg]] w fun e w' => e = .returned (.int .u32 (add 23 rd rn rm ra im kd bs st cd rg)) ∧ Below w.heap.size w w' := by
  have b_rd : 0 ≤ rd ∧ rd ≤ 0 := by omega
  have b_rn : 0 ≤ rn ∧ rn ≤ 15 := by omega
  have b_rm : 0 ≤ rm ∧ rm ≤ 15 := by omega
  have b_st : 0 ≤ st ∧ st ≤ 0 := by omega
  have b_kd : 0 ≤ kd ∧ kd ≤ 3 := by omega
  have b_bs : 0 ≤ bs ∧ bs ≤ 32 := by omega
  clear l
  have e0 := ct_at bs (h := 4) (l := 2) (by decide : pw 2 = 4) (by decide : pw (4 - 2 + 1) = 8)
  have e1 := ct_at bs (h := 1) (l := 0) (by decide : pw 0 = 1) (by decide : pw (1 - 0 + 1) = 4)
  have hB := (Below.refl w.heap.size w).alloc (Nat.le_refl _) (.cells #[.int .i64 f, .int .i64 rd, .int .i64 rn, .int .i64 rm, .int .i64 ra, .int .i64 im, .int .i64 kd, .int .i64 bs, .int .i64 st, .int .i64 cd, .int .i64 rg] 36)
  have hLs := (hL.below hB.drew.drew).shs
  go_enter Tryd.func69, Tryd.ntmps69
  go_wp2_with fail
  go_region
  go_wp2_with fail
  go_region
  go_wp2_with (first | (go_at_call 55; refine (Shape_any _ _ hLs).mono ?_; rintro e w' ⟨rfl, rfl⟩))
  have hk : ((w.alloc (.cells #[.int .i64 f, .int .i64 rd, .int .i64 rn, .int .i64 rm, .int .i64 ra, .int .i64 im, .int .i64 kd, .int .i64 bs, .int .i64 st, .int .i64 cd, .int .i64 rg] 36)).drew.drew).cell? ⟨w.heap.size, 6, none⟩ = some (.int .i64 kd) := World.cell?_alloc_mark w #[.int .i64 f, .int .i64 rd, .int .i64 rn, .int .i64 rm, .int .i64 ra, .int .i64 im, .int .i64 kd, .int .i64 bs, .int .i64 st, .int .i64 cd, .int .i64 rg] 36 (0, 0) 6
  have hB2 : Below w.heap.size w (w.alloc (.cells #[.int .i64 f, .int .i64 rd, .int .i64 rn, .int .i64 rm, .int .i64 ra, .int .i64 im, .int .i64 kd, .int .i64 bs, .int .i64 st, .int .i64 cd, .int .i64 rg] 36)).drew.drew := hB.drew.drew
  clear hB hLs
  generalize (w.alloc (.cells #[.int .i64 f, .int .i64 rd, .int .i64 rn, .int .i64 rm, .int .i64 ra, .int .i64 im, .int .i64 kd, .int .i64 bs, .int .i64 st, .int .i64 cd, .int .i64 rg] 36)).drew.drew = W at *
  go_quiet (first | (go_at_call 35; exact quiet_drew1 (cut_any _ _ _ (by omega) (by omega) (by decide) (by decide) (by decide) _)))
  go_wp2_with fail
  go_ret
  exact ⟨ret_int ((or_21 (by omega) (by omega) (by omega) (by omega) (by omega) (by omega) (by omega)).1.trans (by rw [add_23] <;> omega)), hB2.trans ((below_drewN _ _).mono hB2.size)⟩

theorem fb_24 (f rd rn rm ra im kd bs st cd rg : Int) (hs : shp f = 24) (l : ((0 ≤ rd ∧ rd ≤ 12 ∨ rd = 14)) ∧ ((0 ≤ rn ∧ rn ≤ 12 ∨ rn = 14)) ∧ (rm = 0) ∧ (ra = 0) ∧ (0 ≤ im ∧ im ≤ 4095) ∧ (kd = 0) ∧ (bs = 0) ∧ (st = 0) ∧ (cd = 0) ∧ (rg = 0)) (w : World) (hL : Inst.Laid w) :
    Calls Tryd.prog 69 #[.agg #[.int .i64 f, .int .i64 rd, .int .i64 rn, .int .i64 rm, .int .i64 ra, .int .i64 im, .int .i64 kd, .int .i64 bs, .int .i64 st, .int .i64 cd, .int .i64 rg]] w fun e w' => e = .returned (.int .u32 (add 24 rd rn rm ra im kd bs st cd rg)) ∧ Below w.heap.size w w' := by
  have b_rd : 0 ≤ rd ∧ rd ≤ 15 := by omega
  have b_rn : 0 ≤ rn ∧ rn ≤ 15 := by omega
  have b_st : 0 ≤ st ∧ st ≤ 0 := by omega
  have b_im : 0 ≤ im ∧ im ≤ 4095 := by omega
  clear l
  have e0 : tw im = im / 2048 % 2 * 67108864 + im / 256 % 8 * 4096 + im % 256 := rfl
  have o0 := (or_tw (a := im / 2048 % 2) (b := im / 256 % 8) (c := im % 256) (by omega) (by omega) (by omega)).1
  have hB := (Below.refl w.heap.size w).alloc (Nat.le_refl _) (.cells #[.int .i64 f, .int .i64 rd, .int .i64 rn, .int .i64 rm, .int .i64 ra, .int .i64 im, .int .i64 kd, .int .i64 bs, .int .i64 st, .int .i64 cd, .int .i64 rg] 36)
  have hLs := (hL.below hB.drew.drew).shs
  go_enter Tryd.func69, Tryd.ntmps69
  go_wp2_with fail
  go_region
  go_wp2_with fail
  go_region
  go_wp2_with (first | (go_at_call 55; refine (Shape_any _ _ hLs).mono ?_; rintro e w' ⟨rfl, rfl⟩) | (go_at_call 75; refine (twelveBits_any _ (by omega) (by omega) _).mono ?_; rintro e w' ⟨rfl, rfl⟩))
  go_ret
  exact ⟨ret_int ((fin_18 (by omega) (by omega) (by omega) (by omega) (by omega) (by omega)).trans (by rw [add_24] <;> omega)), hB.drew.drew.drew.drew⟩

theorem fb_25 (f rd rn rm ra im kd bs st cd rg : Int) (hs : shp f = 25) (l : ((0 ≤ rd ∧ rd ≤ 12 ∨ rd = 14)) ∧ (0 ≤ rn ∧ rn ≤ 14) ∧ (rm = 0) ∧ (ra = 0) ∧ (0 ≤ im ∧ im ≤ 4095) ∧ (kd = 0) ∧ (bs = 0) ∧ (st = 0) ∧ (cd = 0) ∧ (rg = 0)) (w : World) (hL : Inst.Laid w) :
    Calls Tryd.prog 69 #[.agg #[.int .i64 f, .int .i64 rd, .int .i64 rn, .int .i64 rm, .int .i64 ra, .int .i64 im, .int .i64 kd, .int .i64 bs, .int .i64 st, .int .i64 cd, .int .i64 rg]] w fun e w' => e = .returned (.int .u32 (add 25 rd rn rm ra im kd bs st cd rg)) ∧ Below w.heap.size w w' := by
  have b_rd : 0 ≤ rd ∧ rd ≤ 15 := by omega
  have b_rn : 0 ≤ rn ∧ rn ≤ 14 := by omega
  have b_im : 0 ≤ im ∧ im ≤ 4095 := by omega
  clear l
  have hB := (Below.refl w.heap.size w).alloc (Nat.le_refl _) (.cells #[.int .i64 f, .int .i64 rd, .int .i64 rn, .int .i64 rm, .int .i64 ra, .int .i64 im, .int .i64 kd, .int .i64 bs, .int .i64 st, .int .i64 cd, .int .i64 rg] 36)
  have hLs := (hL.below hB.drew.drew).shs
  go_enter Tryd.func69, Tryd.ntmps69
  go_wp2_with fail
  go_region
  go_wp2_with fail
  go_region
  go_wp2_with (first | (go_at_call 55; refine (Shape_any _ _ hLs).mono ?_; rintro e w' ⟨rfl, rfl⟩))
  go_ret
  exact ⟨ret_int ((or_25 (by omega) (by omega) (by omega)).1.trans (by rw [add_25] <;> omega)), hB.drew.drew⟩

end Go.Proofs.YtegefbndpkbooaaDoor.Code

/-! What the code's bits of a right instruction's fields are, shape by shape: contracts. -/
set_option linter.unusedVariables false
namespace Go.Proofs.YtegefbndpkbooaaDoor.Code
open Go.RowKit Go.Proofs.YtegefbndpkbooaaDoor.Alu Go.Proofs.YtegefbndpkbooaaDoor.Imm Go.Proofs.YtegefbndpkbooaaDoor.Inst

theorem fb_26 (f rd rn rm ra im kd bs st cd rg : Int) (hs : shp f = 26) (l : ((0 ≤ rd ∧ rd ≤ 12 ∨ rd = 14)) ∧ (0 ≤ rn ∧ rn ≤ 14) ∧ ((0 ≤ rm ∧ rm ≤ 12 ∨ rm = 14)) ∧ (ra = 0) ∧ (im = 0) ∧ (kd = 0) ∧ (0 ≤ bs ∧ bs ≤ 3) ∧ (st = 0) ∧ (cd = 0) ∧ (rg = 0)) (w : World) (hL : Inst.Laid w) :
    Calls Tryd.prog 69 #[.agg #[.int .i64 f, .int .i64 rd, .int .i64 rn, .int .i64 rm, .int .i64 ra, .int .i64 im, .int .i64 kd, .int .i64 bs, .int .i64 st, .int .i64 cd, .int .i64 rg]] w fun e w' => e = .returned (.int .u32 (add 26 rd rn rm ra im kd bs st cd rg)) ∧ Below w.heap.size w w' := by
  have b_rd : 0 ≤ rd ∧ rd ≤ 15 := by omega
  have b_rn : 0 ≤ rn ∧ rn ≤ 14 := by omega
  have b_rm : 0 ≤ rm ∧ rm ≤ 15 := by omega
  have b_bs : 0 ≤ bs ∧ bs ≤ 3 := by omega
  clear l
  have hB := (Below.refl w.heap.size w).alloc (Nat.le_refl _) (.cells #[.int .i64 f, .int .i64 rd, .int .i64 rn, .int .i64 rm, .int .i64 ra, .int .i64 im, .int .i64 kd, .int .i64 bs, .int .i64 st, .int .i64 cd, .int .i64 rg] 36)
  have hLs := (hL.below hB.drew.drew).shs
  go_enter Tryd.func69, Tryd.ntmps69
  go_wp2_with fail
  go_region
  go_wp2_with fail
  go_region
  go_wp2_with (first | (go_at_call 55; refine (Shape_any _ _ hLs).mono ?_; rintro e w' ⟨rfl, rfl⟩))
  go_ret
  exact ⟨ret_int ((or_26 (by omega) (by omega) (by omega) (by omega)).1.trans (by rw [add_26] <;> omega)), hB.drew.drew⟩

theorem fb_27 (f rd rn rm ra im kd bs st cd rg : Int) (hs : shp f = 27) (l : ((0 ≤ rd ∧ rd ≤ 12 ∨ rd = 14)) ∧ ((0 ≤ rn ∧ rn ≤ 12 ∨ rn = 14)) ∧ ((0 ≤ rm ∧ rm ≤ 12 ∨ rm = 14)) ∧ (ra = 0) ∧ (im = 0) ∧ (kd = 0) ∧ (bs = 0) ∧ (0 ≤ st ∧ st ≤ 1) ∧ (cd = 0) ∧ (rg = 0)) (w : World) (hL : Inst.Laid w) :
    Calls Tryd.prog 69 #[.agg #[.int .i64 f, .int .i64 rd, .int .i64 rn, .int .i64 rm, .int .i64 ra, .int .i64 im, .int .i64 kd, .int .i64 bs, .int .i64 st, .int .i64 cd, .int .i64 rg]] w fun e w' => e = .returned (.int .u32 (add 27 rd rn rm ra im kd bs st cd rg)) ∧ Below w.heap.size w w' := by
  have b_rd : 0 ≤ rd ∧ rd ≤ 15 := by omega
  have b_rn : 0 ≤ rn ∧ rn ≤ 15 := by omega
  have b_rm : 0 ≤ rm ∧ rm ≤ 15 := by omega
  have b_ra : 0 ≤ ra ∧ ra ≤ 0 := by omega
  have b_st : 0 ≤ st ∧ st ≤ 1 := by omega
  clear l
  have hB := (Below.refl w.heap.size w).alloc (Nat.le_refl _) (.cells #[.int .i64 f, .int .i64 rd, .int .i64 rn, .int .i64 rm, .int .i64 ra, .int .i64 im, .int .i64 kd, .int .i64 bs, .int .i64 st, .int .i64 cd, .int .i64 rg] 36)
  have hLs := (hL.below hB.drew.drew).shs
  go_enter Tryd.func69, Tryd.ntmps69
  go_wp2_with fail
  go_region
  go_wp2_with fail
  go_region
  go_wp2_with (first | (go_at_call 55; refine (Shape_any _ _ hLs).mono ?_; rintro e w' ⟨rfl, rfl⟩))
  go_ret
  exact ⟨ret_int ((or_27 (by omega) (by omega) (by omega) (by omega) (by omega)).1.trans (by rw [add_27] <;> omega)), hB.drew.drew⟩

theorem fb_28 (f rd rn rm ra im kd bs st cd rg : Int) (hs : shp f = 28) (l : ((0 ≤ rd ∧ rd ≤ 12 ∨ rd = 14)) ∧ ((0 ≤ rn ∧ rn ≤ 12 ∨ rn = 14)) ∧ ((0 ≤ rm ∧ rm ≤ 12 ∨ rm = 14)) ∧ (ra = 0) ∧ (im = 0) ∧ (kd = 0) ∧ (bs = 0) ∧ (st = 0) ∧ (cd = 0) ∧ (rg = 0)) (w : World) (hL : Inst.Laid w) :
    Calls Tryd.prog 69 #[.agg #[.int .i64 f, .int .i64 rd, .int .i64 rn, .int .i64 rm, .int .i64 ra, .int .i64 im, .int .i64 kd, .int .i64 bs, .int .i64 st, .int .i64 cd, .int .i64 rg]] w fun e w' => e = .returned (.int .u32 (add 28 rd rn rm ra im kd bs st cd rg)) ∧ Below w.heap.size w w' := by
  have b_rd : 0 ≤ rd ∧ rd ≤ 15 := by omega
  have b_rn : 0 ≤ rn ∧ rn ≤ 15 := by omega
  have b_rm : 0 ≤ rm ∧ rm ≤ 15 := by omega
  have b_ra : 0 ≤ ra ∧ ra ≤ 0 := by omega
  have b_st : 0 ≤ st ∧ st ≤ 0 := by omega
  clear l
  have hB := (Below.refl w.heap.size w).alloc (Nat.le_refl _) (.cells #[.int .i64 f, .int .i64 rd, .int .i64 rn, .int .i64 rm, .int .i64 ra, .int .i64 im, .int .i64 kd, .int .i64 bs, .int .i64 st, .int .i64 cd, .int .i64 rg] 36)
  have hLs := (hL.below hB.drew.drew).shs
  go_enter Tryd.func69, Tryd.ntmps69
  go_wp2_with fail
  go_region
  go_wp2_with fail
  go_region
  go_wp2_with (first | (go_at_call 55; refine (Shape_any _ _ hLs).mono ?_; rintro e w' ⟨rfl, rfl⟩))
  go_ret
  exact ⟨ret_int ((or_27 (by omega) (by omega) (by omega) (by omega) (by omega)).1.trans (by rw [add_28] <;> omega)), hB.drew.drew⟩

theorem fb_29 (f rd rn rm ra im kd bs st cd rg : Int) (hs : shp f = 29) (l : ((0 ≤ rd ∧ rd ≤ 12 ∨ rd = 14)) ∧ ((0 ≤ rn ∧ rn ≤ 12 ∨ rn = 14)) ∧ ((0 ≤ rm ∧ rm ≤ 12 ∨ rm = 14)) ∧ ((0 ≤ ra ∧ ra ≤ 12 ∨ ra = 14)) ∧ (im = 0) ∧ (kd = 0) ∧ (bs = 0) ∧ (st = 0) ∧ (cd = 0) ∧ (rg = 0)) (w : World) (hL : Inst.Laid w) :
    Calls Tryd.prog 69 #[.agg #[.int .i64 f, .int .i64 rd, .int .i64 rn, .int .i64 rm, .int .i64 ra, .int .i64 im, .int .i64 kd, .int .i64 bs, .int .i64 st, .int .i64 cd, .int .i64 rg]] w fun e w' => e = .returned (.int .u32 (add 29 rd rn rm ra im kd bs st cd rg)) ∧ Below w.heap.size w w' := by
  have b_rd : 0 ≤ rd ∧ rd ≤ 15 := by omega
  have b_rn : 0 ≤ rn ∧ rn ≤ 15 := by omega
  have b_rm : 0 ≤ rm ∧ rm ≤ 15 := by omega
  have b_ra : 0 ≤ ra ∧ ra ≤ 15 := by omega
  have b_st : 0 ≤ st ∧ st ≤ 0 := by omega
  clear l
  have hB := (Below.refl w.heap.size w).alloc (Nat.le_refl _) (.cells #[.int .i64 f, .int .i64 rd, .int .i64 rn, .int .i64 rm, .int .i64 ra, .int .i64 im, .int .i64 kd, .int .i64 bs, .int .i64 st, .int .i64 cd, .int .i64 rg] 36)
  have hLs := (hL.below hB.drew.drew).shs
  go_enter Tryd.func69, Tryd.ntmps69
  go_wp2_with fail
  go_region
  go_wp2_with fail
  go_region
  go_wp2_with (first | (go_at_call 55; refine (Shape_any _ _ hLs).mono ?_; rintro e w' ⟨rfl, rfl⟩))
  go_ret
  exact ⟨ret_int ((or_27 (by omega) (by omega) (by omega) (by omega) (by omega)).1.trans (by rw [add_29] <;> omega)), hB.drew.drew⟩

theorem fb_30 (f rd rn rm ra im kd bs st cd rg : Int) (hs : shp f = 30) (l : ((0 ≤ rd ∧ rd ≤ 12 ∨ rd = 14)) ∧ ((0 ≤ rn ∧ rn ≤ 12 ∨ rn = 14)) ∧ ((0 ≤ rm ∧ rm ≤ 12 ∨ rm = 14)) ∧ ((0 ≤ ra ∧ ra ≤ 12 ∨ ra = 14)) ∧ (im = 0) ∧ (kd = 0) ∧ (bs = 0) ∧ (st = 0) ∧ (cd = 0) ∧ (rg = 0)) (w : World) (hL : Inst.Laid w) :
    Calls Tryd.prog 69 #[.agg #[.int .i64 f, .int .i64 rd, .int .i64 rn, .int .i64 rm, .int .i64 ra, .int .i64 im, .int .i64 kd, .int .i64 bs, .int .i64 st, .int .i64 cd, .int .i64 rg]] w fun e w' => e = .returned (.int .u32 (add 30 rd rn rm ra im kd bs st cd rg)) ∧ Below w.heap.size w w' := by
  have b_rd : 0 ≤ rd ∧ rd ≤ 15 := by omega
  have b_rn : 0 ≤ rn ∧ rn ≤ 15 := by omega
  have b_rm : 0 ≤ rm ∧ rm ≤ 15 := by omega
  have b_ra : 0 ≤ ra ∧ ra ≤ 15 := by omega
  have b_st : 0 ≤ st ∧ st ≤ 0 := by omega
  clear l
  have hB := (Below.refl w.heap.size w).alloc (Nat.le_refl _) (.cells #[.int .i64 f, .int .i64 rd, .int .i64 rn, .int .i64 rm, .int .i64 ra, .int .i64 im, .int .i64 kd, .int .i64 bs, .int .i64 st, .int .i64 cd, .int .i64 rg] 36)
  have hLs := (hL.below hB.drew.drew).shs
  go_enter Tryd.func69, Tryd.ntmps69
  go_wp2_with fail
  go_region
  go_wp2_with fail
  go_region
  go_wp2_with (first | (go_at_call 55; refine (Shape_any _ _ hLs).mono ?_; rintro e w' ⟨rfl, rfl⟩))
  go_ret
  exact ⟨ret_int ((or_27 (by omega) (by omega) (by omega) (by omega) (by omega)).1.trans (by rw [add_30] <;> omega)), hB.drew.drew⟩

theorem fb_31 (f rd rn rm ra im kd bs st cd rg : Int) (hs : shp f = 31) (l : ((0 ≤ rd ∧ rd ≤ 12 ∨ rd = 14)) ∧ ((0 ≤ rn ∧ rn ≤ 12 ∨ rn = 14)) ∧ ((0 ≤ rm ∧ rm ≤ 12 ∨ rm = 14)) ∧ ((0 ≤ ra ∧ ra ≤ 12 ∨ ra = 14)) ∧ (im = 0) ∧ (kd = 0) ∧ (bs = 0) ∧ (st = 0) ∧ (cd = 0) ∧ (rg = 0)) (w : World) (hL : Inst.Laid w) :
    Calls Tryd.prog 69 #[.agg #[.int .i64 f, .int .i64 rd, .int .i64 rn, .int .i64 rm, .int .i64 ra, .int .i64 im, .int .i64 kd, .int .i64 bs, .int .i64 st, .int .i64 cd, .int .i64 rg]] w fun e w' => e = .returned (.int .u32 (add 31 rd rn rm ra im kd bs st cd rg)) ∧ Below w.heap.size w w' := by
  have b_rd : 0 ≤ rd ∧ rd ≤ 15 := by omega
  have b_rn : 0 ≤ rn ∧ rn ≤ 15 := by omega
  have b_rm : 0 ≤ rm ∧ rm ≤ 15 := by omega
  have b_ra : 0 ≤ ra ∧ ra ≤ 15 := by omega
  clear l
  have hB := (Below.refl w.heap.size w).alloc (Nat.le_refl _) (.cells #[.int .i64 f, .int .i64 rd, .int .i64 rn, .int .i64 rm, .int .i64 ra, .int .i64 im, .int .i64 kd, .int .i64 bs, .int .i64 st, .int .i64 cd, .int .i64 rg] 36)
  have hLs := (hL.below hB.drew.drew).shs
  go_enter Tryd.func69, Tryd.ntmps69
  go_wp2_with fail
  go_region
  go_wp2_with fail
  go_region
  go_wp2_with (first | (go_at_call 55; refine (Shape_any _ _ hLs).mono ?_; rintro e w' ⟨rfl, rfl⟩))
  go_ret
  exact ⟨ret_int ((or_31 (by omega) (by omega) (by omega) (by omega)).1.trans (by rw [add_31] <;> omega)), hB.drew.drew⟩

theorem fb_32 (f rd rn rm ra im kd bs st cd rg : Int) (hs : shp f = 32) (l : ((0 ≤ rd ∧ rd ≤ 12 ∨ rd = 14)) ∧ (rn = 0) ∧ ((0 ≤ rm ∧ rm ≤ 12 ∨ rm = 14)) ∧ (ra = 0) ∧ (im = 0) ∧ (kd = 0) ∧ (bs = 0) ∧ (st = 0) ∧ (cd = 0) ∧ (rg = 0)) (w : World) (hL : Inst.Laid w) :
    Calls Tryd.prog 69 #[.agg #[.int .i64 f, .int .i64 rd, .int .i64 rn, .int .i64 rm, .int .i64 ra, .int .i64 im, .int .i64 kd, .int .i64 bs, .int .i64 st, .int .i64 cd, .int .i64 rg]] w fun e w' => e = .returned (.int .u32 (add 32 rd rn rm ra im kd bs st cd rg)) ∧ Below w.heap.size w w' := by
  have b_rd : 0 ≤ rd ∧ rd ≤ 15 := by omega
  have b_rm : 0 ≤ rm ∧ rm ≤ 15 := by omega
  clear l
  have hB := (Below.refl w.heap.size w).alloc (Nat.le_refl _) (.cells #[.int .i64 f, .int .i64 rd, .int .i64 rn, .int .i64 rm, .int .i64 ra, .int .i64 im, .int .i64 kd, .int .i64 bs, .int .i64 st, .int .i64 cd, .int .i64 rg] 36)
  have hLs := (hL.below hB.drew.drew).shs
  go_enter Tryd.func69, Tryd.ntmps69
  go_wp2_with fail
  go_region
  go_wp2_with fail
  go_region
  go_wp2_with (first | (go_at_call 55; refine (Shape_any _ _ hLs).mono ?_; rintro e w' ⟨rfl, rfl⟩))
  go_ret
  exact ⟨ret_int ((or_32 (by omega) (by omega) (by omega)).1.trans (by rw [add_32] <;> omega)), hB.drew.drew⟩

set_option maxRecDepth 100000 in
set_option maxHeartbeats 2000000 in
theorem fb_33 (f rd rn rm ra im kd bs st cd rg : Int) (hs : shp f = 33) (l : (rd = 0) ∧ (rn = 0) ∧ (rm = 0) ∧ (ra = 0) ∧ (-1048576 ≤ im ∧ im ≤ 1048574 ∧ im % 2 = 0) ∧ (kd = 0) ∧ (bs = 0) ∧ (st = 0) ∧ (0 ≤ cd ∧ cd ≤ 13) ∧ (rg = 0)) (w : World) (hL : Inst.Laid w) :
    Calls Tryd.prog 69 #[.agg #[.int .i64 f, .int .i64 rd, .int .i64 rn, .int .i64 rm, .int .i64 ra, .int .i64 im, .int .i64 kd, .int .i64 bs, .int .i64 st, .int .i64 cd, .int .i64 rg]] w fun e w' => e = .returned (.int .u32 (add 33 rd rn rm ra im kd bs st cd rg)) ∧ Below w.heap.size w w' := by
  have b_im : -1048576 ≤ im ∧ im ≤ 1048574 := by omega
  have b_cd : 0 ≤ cd ∧ cd ≤ 13 := by omega
  clear l
  have e0 : cwb (im % 4294967296) = (im % 4294967296) / 1048576 % 2 * 67108864 + (im % 4294967296) / 4096 % 64 * 65536 + (im % 4294967296) / 262144 % 2 * 8192 + (im % 4294967296) / 524288 % 2 * 2048 + (im % 4294967296) / 2 % 2048 := rfl
  have hB := (Below.refl w.heap.size w).alloc (Nat.le_refl _) (.cells #[.int .i64 f, .int .i64 rd, .int .i64 rn, .int .i64 rm, .int .i64 ra, .int .i64 im, .int .i64 kd, .int .i64 bs, .int .i64 st, .int .i64 cd, .int .i64 rg] 36)
  have hLs := (hL.below hB.drew.drew).shs
  go_enter Tryd.func69, Tryd.ntmps69
  go_wp2_with fail
  go_region
  go_wp2_with fail
  go_region
  go_wp2_with (first | (go_at_call 55; refine (Shape_any _ _ hLs).mono ?_; rintro e w' ⟨rfl, rfl⟩))
  have hk : ((w.alloc (.cells #[.int .i64 f, .int .i64 rd, .int .i64 rn, .int .i64 rm, .int .i64 ra, .int .i64 im, .int .i64 kd, .int .i64 bs, .int .i64 st, .int .i64 cd, .int .i64 rg] 36)).drew.drew).cell? ⟨w.heap.size, 9, none⟩ = some (.int .i64 cd) := World.cell?_alloc_mark w #[.int .i64 f, .int .i64 rd, .int .i64 rn, .int .i64 rm, .int .i64 ra, .int .i64 im, .int .i64 kd, .int .i64 bs, .int .i64 st, .int .i64 cd, .int .i64 rg] 36 (0, 0) 9
  have hB2 : Below w.heap.size w (w.alloc (.cells #[.int .i64 f, .int .i64 rd, .int .i64 rn, .int .i64 rm, .int .i64 ra, .int .i64 im, .int .i64 kd, .int .i64 bs, .int .i64 st, .int .i64 cd, .int .i64 rg] 36)).drew.drew := hB.drew.drew
  clear hB hLs
  generalize (w.alloc (.cells #[.int .i64 f, .int .i64 rd, .int .i64 rn, .int .i64 rm, .int .i64 ra, .int .i64 im, .int .i64 kd, .int .i64 bs, .int .i64 st, .int .i64 cd, .int .i64 rg] 36)).drew.drew = W at *
  go_quiet (first | (go_at_call 76; exact quiet_drew2 (condWideBits_any _ (by omega) (by omega) _)))
  go_wp2_with fail
  go_ret
  exact ⟨ret_int ((fin_33 (by omega) (by omega) (by omega) (by omega) (by omega) (by omega)).trans (by rw [add_33] <;> omega)), hB2.trans ((below_drewN _ _).mono hB2.size)⟩

theorem fb_34 (f rd rn rm ra im kd bs st cd rg : Int) (hs : shp f = 34) (l : (rd = 0) ∧ (rn = 0) ∧ (rm = 0) ∧ (ra = 0) ∧ (-16777216 ≤ im ∧ im ≤ 16777214 ∧ im % 2 = 0) ∧ (kd = 0) ∧ (bs = 0) ∧ (st = 0) ∧ (cd = 0) ∧ (rg = 0)) (w : World) (hL : Inst.Laid w) :
    Calls Tryd.prog 69 #[.agg #[.int .i64 f, .int .i64 rd, .int .i64 rn, .int .i64 rm, .int .i64 ra, .int .i64 im, .int .i64 kd, .int .i64 bs, .int .i64 st, .int .i64 cd, .int .i64 rg]] w fun e w' => e = .returned (.int .u32 (add 34 rd rn rm ra im kd bs st cd rg)) ∧ Below w.heap.size w w' := by
  have b_im : -16777216 ≤ im ∧ im ≤ 16777214 := by omega
  clear l
  have hB := (Below.refl w.heap.size w).alloc (Nat.le_refl _) (.cells #[.int .i64 f, .int .i64 rd, .int .i64 rn, .int .i64 rm, .int .i64 ra, .int .i64 im, .int .i64 kd, .int .i64 bs, .int .i64 st, .int .i64 cd, .int .i64 rg] 36)
  have hLs := (hL.below hB.drew.drew).shs
  go_enter Tryd.func69, Tryd.ntmps69
  go_wp2_with fail
  go_region
  go_wp2_with fail
  go_region
  go_wp2_with (first | (go_at_call 55; refine (Shape_any _ _ hLs).mono ?_; rintro e w' ⟨rfl, rfl⟩) | (go_at_call 77; refine (jumpWideBits_any _ (by omega) (by omega) _).mono ?_; rintro e w' ⟨rfl, rfl⟩))
  go_ret
  exact ⟨ret_int (fin_34 rd rn rm ra im kd bs st cd rg), hB.drew.drew.drew.drew⟩

end Go.Proofs.YtegefbndpkbooaaDoor.Code

