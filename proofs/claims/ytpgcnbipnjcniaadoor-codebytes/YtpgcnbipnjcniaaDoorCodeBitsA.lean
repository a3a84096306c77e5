/- What the code's bits of a right instruction's fields are, shape by shape: contracts. -/
import Derived.Test.YtpgcnbipnjcniaaDoorCodeCut
import Derived.Test.YtpgcnbipnjcniaaDoorCodeLies
import Derived.Test.YtpgcnbipnjcniaaDoorInstForm
import Derived.BigQuiet
import Derived.Deep.QuietTactic
set_option linter.unusedVariables false
namespace Go.Proofs.YtpgcnbipnjcniaaDoor.Code
open Go.RowKit Go.Proofs.YtpgcnbipnjcniaaDoor.Alu Go.Proofs.YtpgcnbipnjcniaaDoor.Imm Go.Proofs.YtpgcnbipnjcniaaDoor.Inst

theorem fb_1 (f rd rn rm ra im kd bs st cd rg : Int) (hs : shp f = 1) (l : (0 ≤ rd ∧ rd ≤ 7) ∧ (rn = 0) ∧ (0 ≤ rm ∧ rm ≤ 7) ∧ (ra = 0) ∧ (0 ≤ im ∧ im ≤ 32 ∧ (f = 1 → im ≤ 31) ∧ (¬ f = 1 → 1 ≤ im)) ∧ (kd = 0) ∧ (bs = 0) ∧ (st = 0) ∧ (cd = 0) ∧ (rg = 0)) (w : World) (hL : Inst.Laid w) :
    Calls Tryd.prog 56 #[.agg #[.int .i64 f, .int .i64 rd, .int .i64 rn, .int .i64 rm, .int .i64 ra, .int .i64 im, .int .i64 kd, .int .i64 bs, .int .i64 st, .int .i64 cd, .int .i64 rg]] w fun e w' => e = .returned (.int .u32 (add 1 rd rn rm ra im kd bs st cd rg)) ∧ Below w.heap.size w w' := by
  have b_rd : 0 ≤ rd ∧ rd ≤ 7 := by omega
  have b_rm : 0 ≤ rm ∧ rm ≤ 7 := by omega
  have b_im : 0 ≤ im ∧ im ≤ 32 := by omega
  clear l
  have e0 := ct_at im (h := 4) (l := 0) (by decide : pw 0 = 1) (by decide : pw (4 - 0 + 1) = 32)
  have hB := (Below.refl w.heap.size w).alloc (Nat.le_refl _) (.cells #[.int .i64 f, .int .i64 rd, .int .i64 rn, .int .i64 rm, .int .i64 ra, .int .i64 im, .int .i64 kd, .int .i64 bs, .int .i64 st, .int .i64 cd, .int .i64 rg] 25)
  have hLs := (hL.below hB.drew.drew).shs
  go_enter Tryd.func56, Tryd.ntmps56
  go_wp2_with fail
  go_region
  go_wp2_with fail
  go_region
  go_wp2_with (first | (go_at_call 58; refine (Shape_any _ _ hLs).mono ?_; rintro e w' ⟨rfl, rfl⟩) | (go_at_call 22; refine (cut_any _ _ _ (by omega) (by omega) (by decide) (by decide) (by decide) _).mono ?_; rintro e w' ⟨rfl, rfl⟩))
  go_ret
  exact ⟨ret_int ((or_1 (by omega) (by omega) (by omega)).1.trans (by rw [add_1] <;> omega)), hB.drew.drew.drew⟩

theorem fb_2 (f rd rn rm ra im kd bs st cd rg : Int) (hs : shp f = 2) (l : (0 ≤ rd ∧ rd ≤ 7) ∧ (0 ≤ rn ∧ rn ≤ 7) ∧ (0 ≤ rm ∧ rm ≤ 7) ∧ (ra = 0) ∧ (im = 0) ∧ (kd = 0) ∧ (bs = 0) ∧ (st = 0) ∧ (cd = 0) ∧ (rg = 0)) (w : World) (hL : Inst.Laid w) :
    Calls Tryd.prog 56 #[.agg #[.int .i64 f, .int .i64 rd, .int .i64 rn, .int .i64 rm, .int .i64 ra, .int .i64 im, .int .i64 kd, .int .i64 bs, .int .i64 st, .int .i64 cd, .int .i64 rg]] w fun e w' => e = .returned (.int .u32 (add 2 rd rn rm ra im kd bs st cd rg)) ∧ Below w.heap.size w w' := by
  have b_rd : 0 ≤ rd ∧ rd ≤ 7 := by omega
  have b_rn : 0 ≤ rn ∧ rn ≤ 7 := by omega
  have b_rm : 0 ≤ rm ∧ rm ≤ 7 := by omega
  clear l
  have hB := (Below.refl w.heap.size w).alloc (Nat.le_refl _) (.cells #[.int .i64 f, .int .i64 rd, .int .i64 rn, .int .i64 rm, .int .i64 ra, .int .i64 im, .int .i64 kd, .int .i64 bs, .int .i64 st, .int .i64 cd, .int .i64 rg] 25)
  have hLs := (hL.below hB.drew.drew).shs
  go_enter Tryd.func56, Tryd.ntmps56
  go_wp2_with fail
  go_region
  go_wp2_with fail
  go_region
  go_wp2_with (first | (go_at_call 58; refine (Shape_any _ _ hLs).mono ?_; rintro e w' ⟨rfl, rfl⟩))
  go_ret
  exact ⟨ret_int ((or_2 (by omega) (by omega) (by omega)).1.trans (by rw [add_2] <;> omega)), hB.drew.drew⟩

theorem fb_3 (f rd rn rm ra im kd bs st cd rg : Int) (hs : shp f = 3) (l : (0 ≤ rd ∧ rd ≤ 7) ∧ (0 ≤ rn ∧ rn ≤ 7) ∧ (rm = 0) ∧ (ra = 0) ∧ (0 ≤ im ∧ im ≤ 7) ∧ (kd = 0) ∧ (bs = 0) ∧ (st = 0) ∧ (cd = 0) ∧ (rg = 0)) (w : World) (hL : Inst.Laid w) :
    Calls Tryd.prog 56 #[.agg #[.int .i64 f, .int .i64 rd, .int .i64 rn, .int .i64 rm, .int .i64 ra, .int .i64 im, .int .i64 kd, .int .i64 bs, .int .i64 st, .int .i64 cd, .int .i64 rg]] w fun e w' => e = .returned (.int .u32 (add 3 rd rn rm ra im kd bs st cd rg)) ∧ Below w.heap.size w w' := by
  have b_rd : 0 ≤ rd ∧ rd ≤ 7 := by omega
  have b_rn : 0 ≤ rn ∧ rn ≤ 7 := by omega
  have b_im : 0 ≤ im ∧ im ≤ 7 := by omega
  clear l
  have hB := (Below.refl w.heap.size w).alloc (Nat.le_refl _) (.cells #[.int .i64 f, .int .i64 rd, .int .i64 rn, .int .i64 rm, .int .i64 ra, .int .i64 im, .int .i64 kd, .int .i64 bs, .int .i64 st, .int .i64 cd, .int .i64 rg] 25)
  have hLs := (hL.below hB.drew.drew).shs
  go_enter Tryd.func56, Tryd.ntmps56
  go_wp2_with fail
  go_region
  go_wp2_with fail
  go_region
  go_wp2_with (first | (go_at_call 58; refine (Shape_any _ _ hLs).mono ?_; rintro e w' ⟨rfl, rfl⟩))
  go_ret
  exact ⟨ret_int ((or_2 (by omega) (by omega) (by omega)).1.trans (by rw [add_3] <;> omega)), hB.drew.drew⟩

theorem fb_4 (f rd rn rm ra im kd bs st cd rg : Int) (hs : shp f = 4) (l : (0 ≤ rd ∧ rd ≤ 7) ∧ (rn = 0) ∧ (rm = 0) ∧ (ra = 0) ∧ (0 ≤ im ∧ im ≤ 255) ∧ (kd = 0) ∧ (bs = 0) ∧ (st = 0) ∧ (cd = 0) ∧ (rg = 0)) (w : World) (hL : Inst.Laid w) :
    Calls Tryd.prog 56 #[.agg #[.int .i64 f, .int .i64 rd, .int .i64 rn, .int .i64 rm, .int .i64 ra, .int .i64 im, .int .i64 kd, .int .i64 bs, .int .i64 st, .int .i64 cd, .int .i64 rg]] w fun e w' => e = .returned (.int .u32 (add 4 rd rn rm ra im kd bs st cd rg)) ∧ Below w.heap.size w w' := by
  have b_rd : 0 ≤ rd ∧ rd ≤ 7 := by omega
  have b_im : 0 ≤ im ∧ im ≤ 255 := by omega
  clear l
  have hB := (Below.refl w.heap.size w).alloc (Nat.le_refl _) (.cells #[.int .i64 f, .int .i64 rd, .int .i64 rn, .int .i64 rm, .int .i64 ra, .int .i64 im, .int .i64 kd, .int .i64 bs, .int .i64 st, .int .i64 cd, .int .i64 rg] 25)
  have hLs := (hL.below hB.drew.drew).shs
  go_enter Tryd.func56, Tryd.ntmps56
  go_wp2_with fail
  go_region
  go_wp2_with fail
  go_region
  go_wp2_with (first | (go_at_call 58; refine (Shape_any _ _ hLs).mono ?_; rintro e w' ⟨rfl, rfl⟩))
  go_ret
  exact ⟨ret_int ((or_4 (by omega) (by omega)).1.trans (by rw [add_4] <;> omega)), hB.drew.drew⟩

theorem fb_5 (f rd rn rm ra im kd bs st cd rg : Int) (hs : shp f = 5) (l : (0 ≤ rd ∧ rd ≤ 7) ∧ (rn = 0) ∧ (0 ≤ rm ∧ rm ≤ 7) ∧ (ra = 0) ∧ (im = 0) ∧ (kd = 0) ∧ (bs = 0) ∧ (st = 0) ∧ (cd = 0) ∧ (rg = 0)) (w : World) (hL : Inst.Laid w) :
    Calls Tryd.prog 56 #[.agg #[.int .i64 f, .int .i64 rd, .int .i64 rn, .int .i64 rm, .int .i64 ra, .int .i64 im, .int .i64 kd, .int .i64 bs, .int .i64 st, .int .i64 cd, .int .i64 rg]] w fun e w' => e = .returned (.int .u32 (add 5 rd rn rm ra im kd bs st cd rg)) ∧ Below w.heap.size w w' := by
  have b_rd : 0 ≤ rd ∧ rd ≤ 7 := by omega
  have b_rm : 0 ≤ rm ∧ rm ≤ 7 := by omega
  clear l
  have hB := (Below.refl w.heap.size w).alloc (Nat.le_refl _) (.cells #[.int .i64 f, .int .i64 rd, .int .i64 rn, .int .i64 rm, .int .i64 ra, .int .i64 im, .int .i64 kd, .int .i64 bs, .int .i64 st, .int .i64 cd, .int .i64 rg] 25)
  have hLs := (hL.below hB.drew.drew).shs
  go_enter Tryd.func56, Tryd.ntmps56
  go_wp2_with fail
  go_region
  go_wp2_with fail
  go_region
  go_wp2_with (first | (go_at_call 58; refine (Shape_any _ _ hLs).mono ?_; rintro e w' ⟨rfl, rfl⟩))
  go_ret
  exact ⟨ret_int ((or_5 (by omega) (by omega)).1.trans (by rw [add_5] <;> omega)), hB.drew.drew⟩

theorem fb_6 (f rd rn rm ra im kd bs st cd rg : Int) (hs : shp f = 6) (l : (0 ≤ rd ∧ rd ≤ 14) ∧ (rn = 0) ∧ (0 ≤ rm ∧ rm ≤ 14) ∧ (ra = 0) ∧ (im = 0) ∧ (kd = 0) ∧ (bs = 0) ∧ (st = 0) ∧ (cd = 0) ∧ (rg = 0)) (w : World) (hL : Inst.Laid w) :
    Calls Tryd.prog 56 #[.agg #[.int .i64 f, .int .i64 rd, .int .i64 rn, .int .i64 rm, .int .i64 ra, .int .i64 im, .int .i64 kd, .int .i64 bs, .int .i64 st, .int .i64 cd, .int .i64 rg]] w fun e w' => e = .returned (.int .u32 (add 6 rd rn rm ra im kd bs st cd rg)) ∧ Below w.heap.size w w' := by
  have b_rd : 0 ≤ rd ∧ rd ≤ 14 := by omega
  have b_rm : 0 ≤ rm ∧ rm ≤ 14 := by omega
  clear l
  have e0 := bit_at rd (k := 3) (by decide) (by decide) (by decide : pw 3 = 8)
  have e1 := ct_at rd (h := 2) (l := 0) (by decide : pw 0 = 1) (by decide : pw (2 - 0 + 1) = 8)
  have hB := (Below.refl w.heap.size w).alloc (Nat.le_refl _) (.cells #[.int .i64 f, .int .i64 rd, .int .i64 rn, .int .i64 rm, .int .i64 ra, .int .i64 im, .int .i64 kd, .int .i64 bs, .int .i64 st, .int .i64 cd, .int .i64 rg] 25)
  have hLs := (hL.below hB.drew.drew).shs
  go_enter Tryd.func56, Tryd.ntmps56
  go_wp2_with fail
  go_region
  go_wp2_with fail
  go_region
  go_wp2_with (first | (go_at_call 58; refine (Shape_any _ _ hLs).mono ?_; rintro e w' ⟨rfl, rfl⟩) | (go_at_call 72; refine (Bit_any _ _ (by omega) (by omega) _).mono ?_; rintro e w' ⟨rfl, rfl⟩) | (go_at_call 22; refine (cut_any _ _ _ (by omega) (by omega) (by decide) (by decide) (by decide) _).mono ?_; rintro e w' ⟨rfl, rfl⟩))
  go_ret
  exact ⟨ret_int ((or_6 (by omega) (by omega) (by omega)).1.trans (by rw [add_6] <;> omega)), hB.drew.drew.drew⟩

theorem fb_7 (f rd rn rm ra im kd bs st cd rg : Int) (hs : shp f = 7) (l : (rd = 0) ∧ (rn = 0) ∧ (0 ≤ rm ∧ rm ≤ 14) ∧ (ra = 0) ∧ (im = 0) ∧ (kd = 0) ∧ (bs = 0) ∧ (st = 0) ∧ (cd = 0) ∧ (rg = 0)) (w : World) (hL : Inst.Laid w) :
    Calls Tryd.prog 56 #[.agg #[.int .i64 f, .int .i64 rd, .int .i64 rn, .int .i64 rm, .int .i64 ra, .int .i64 im, .int .i64 kd, .int .i64 bs, .int .i64 st, .int .i64 cd, .int .i64 rg]] w fun e w' => e = .returned (.int .u32 (add 7 rd rn rm ra im kd bs st cd rg)) ∧ Below w.heap.size w w' := by
  have b_rm : 0 ≤ rm ∧ rm ≤ 14 := by omega
  clear l
  have hB := (Below.refl w.heap.size w).alloc (Nat.le_refl _) (.cells #[.int .i64 f, .int .i64 rd, .int .i64 rn, .int .i64 rm, .int .i64 ra, .int .i64 im, .int .i64 kd, .int .i64 bs, .int .i64 st, .int .i64 cd, .int .i64 rg] 25)
  have hLs := (hL.below hB.drew.drew).shs
  go_enter Tryd.func56, Tryd.ntmps56
  go_wp2_with fail
  go_region
  go_wp2_with fail
  go_region
  go_wp2_with (first | (go_at_call 58; refine (Shape_any _ _ hLs).mono ?_; rintro e w' ⟨rfl, rfl⟩))
  go_ret
  exact ⟨ret_int (by rw [add_7] <;> omega), hB.drew.drew⟩

theorem fb_8 (f rd rn rm ra im kd bs st cd rg : Int) (hs : shp f = 8) (l : (0 ≤ rd ∧ rd ≤ 7) ∧ (rn = 0) ∧ (rm = 0) ∧ (ra = 0) ∧ (0 ≤ im ∧ im ≤ 1020 ∧ im % 4 = 0) ∧ (kd = 0) ∧ (bs = 0) ∧ (st = 0) ∧ (cd = 0) ∧ (rg = 0)) (w : World) (hL : Inst.Laid w) :
    Calls Tryd.prog 56 #[.agg #[.int .i64 f, .int .i64 rd, .int .i64 rn, .int .i64 rm, .int .i64 ra, .int .i64 im, .int .i64 kd, .int .i64 bs, .int .i64 st, .int .i64 cd, .int .i64 rg]] w fun e w' => e = .returned (.int .u32 (add 8 rd rn rm ra im kd bs st cd rg)) ∧ Below w.heap.size w w' := by
  have b_rd : 0 ≤ rd ∧ rd ≤ 7 := by omega
  have b_im : 0 ≤ im ∧ im ≤ 1020 := by omega
  clear l
  have hB := (Below.refl w.heap.size w).alloc (Nat.le_refl _) (.cells #[.int .i64 f, .int .i64 rd, .int .i64 rn, .int .i64 rm, .int .i64 ra, .int .i64 im, .int .i64 kd, .int .i64 bs, .int .i64 st, .int .i64 cd, .int .i64 rg] 25)
  have hLs := (hL.below hB.drew.drew).shs
  go_enter Tryd.func56, Tryd.ntmps56
  go_wp2_with fail
  go_region
  go_wp2_with fail
  go_region
  go_wp2_with (first | (go_at_call 58; refine (Shape_any _ _ hLs).mono ?_; rintro e w' ⟨rfl, rfl⟩))
  go_ret
  exact ⟨ret_int ((or_4 (by omega) (by omega)).1.trans (by rw [add_8] <;> omega)), hB.drew.drew⟩

theorem fb_9 (f rd rn rm ra im kd bs st cd rg : Int) (hs : shp f = 9) (l : (0 ≤ rd ∧ rd ≤ 7) ∧ (0 ≤ rn ∧ rn ≤ 7) ∧ (rm = 0) ∧ (ra = 0) ∧ (0 ≤ im ∧ im ≤ 124 ∧ im % 4 = 0) ∧ (kd = 0) ∧ (bs = 0) ∧ (st = 0) ∧ (cd = 0) ∧ (rg = 0)) (w : World) (hL : Inst.Laid w) :
    Calls Tryd.prog 56 #[.agg #[.int .i64 f, .int .i64 rd, .int .i64 rn, .int .i64 rm, .int .i64 ra, .int .i64 im, .int .i64 kd, .int .i64 bs, .int .i64 st, .int .i64 cd, .int .i64 rg]] w fun e w' => e = .returned (.int .u32 (add 9 rd rn rm ra im kd bs st cd rg)) ∧ Below w.heap.size w w' := by
  have b_rd : 0 ≤ rd ∧ rd ≤ 7 := by omega
  have b_rn : 0 ≤ rn ∧ rn ≤ 7 := by omega
  have b_im : 0 ≤ im ∧ im ≤ 124 := by omega
  clear l
  have hB := (Below.refl w.heap.size w).alloc (Nat.le_refl _) (.cells #[.int .i64 f, .int .i64 rd, .int .i64 rn, .int .i64 rm, .int .i64 ra, .int .i64 im, .int .i64 kd, .int .i64 bs, .int .i64 st, .int .i64 cd, .int .i64 rg] 25)
  have hLs := (hL.below hB.drew.drew).shs
  go_enter Tryd.func56, Tryd.ntmps56
  go_wp2_with fail
  go_region
  go_wp2_with fail
  go_region
  go_wp2_with (first | (go_at_call 58; refine (Shape_any _ _ hLs).mono ?_; rintro e w' ⟨rfl, rfl⟩))
  go_ret
  exact ⟨ret_int ((or_1 (by omega) (by omega) (by omega)).1.trans (by rw [add_9] <;> omega)), hB.drew.drew⟩

end Go.Proofs.YtpgcnbipnjcniaaDoor.Code
