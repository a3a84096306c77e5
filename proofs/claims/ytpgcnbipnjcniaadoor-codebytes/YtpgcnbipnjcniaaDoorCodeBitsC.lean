/- What the code's bits of a right instruction's fields are, shape by shape: contracts. -/
import Derived.Test.YtpgcnbipnjcniaaDoorCodeCut
import Derived.Test.YtpgcnbipnjcniaaDoorCodeLies
import Derived.Test.YtpgcnbipnjcniaaDoorInstForm
import Derived.BigQuiet
import Derived.Deep.QuietTactic
import Derived.Test.YtpgcnbipnjcniaaDoorCodeBitsB
set_option linter.unusedVariables false
namespace Go.Proofs.YtpgcnbipnjcniaaDoor.Code
open Go.RowKit Go.Proofs.YtpgcnbipnjcniaaDoor.Alu Go.Proofs.YtpgcnbipnjcniaaDoor.Imm Go.Proofs.YtpgcnbipnjcniaaDoor.Inst

theorem fb_18 (f rd rn rm ra im kd bs st cd rg : Int) (hs : shp f = 18) (l : ((0 ≤ rd ∧ rd ≤ 12 ∨ rd = 14)) ∧ ((0 ≤ rn ∧ rn ≤ 12 ∨ rn = 14)) ∧ (rm = 0) ∧ (ra = 0) ∧ (0 ≤ im ∧ im ≤ 4095) ∧ (kd = 0) ∧ (bs = 0) ∧ (0 ≤ st ∧ st ≤ 1) ∧ (cd = 0) ∧ (rg = 0)) (w : World) (hL : Inst.Laid w) :
    Calls Tryd.prog 55 #[.agg #[.int .i64 f, .int .i64 rd, .int .i64 rn, .int .i64 rm, .int .i64 ra, .int .i64 im, .int .i64 kd, .int .i64 bs, .int .i64 st, .int .i64 cd, .int .i64 rg]] w fun e w' => e = .returned (.int .u32 (add 18 rd rn rm ra im kd bs st cd rg)) ∧ Below w.heap.size w w' := by
  have b_rd : 0 ≤ rd ∧ rd ≤ 15 := by omega
  have b_rn : 0 ≤ rn ∧ rn ≤ 15 := by omega
  have b_st : 0 ≤ st ∧ st ≤ 1 := by omega
  have b_im : 0 ≤ im ∧ im ≤ 4095 := by omega
  clear l
  have e0 : tw im = im / 2048 % 2 * 67108864 + im / 256 % 8 * 4096 + im % 256 := rfl
  have o0 := (or_tw (a := im / 2048 % 2) (b := im / 256 % 8) (c := im % 256) (by omega) (by omega) (by omega)).1
  have hB := (Below.refl w.heap.size w).alloc (Nat.le_refl _) (.cells #[.int .i64 f, .int .i64 rd, .int .i64 rn, .int .i64 rm, .int .i64 ra, .int .i64 im, .int .i64 kd, .int .i64 bs, .int .i64 st, .int .i64 cd, .int .i64 rg] 25)
  have hLs := (hL.below hB.drew.drew).shs
  go_enter Tryd.func55, Tryd.ntmps55
  go_wp2_with fail
  go_region
  go_wp2_with fail
  go_region
  go_wp2_with (first | (go_at_call 58; refine (Shape_any _ _ hLs).mono ?_; rintro e w' ⟨rfl, rfl⟩) | (go_at_call 74; refine (twelveBits_any _ (by omega) (by omega) _).mono ?_; rintro e w' ⟨rfl, rfl⟩))
  go_ret
  exact ⟨ret_int ((fin_18 (by omega) (by omega) (by omega) (by omega) (by omega) (by omega)).trans (by rw [add_18] <;> omega)), hB.drew.drew.drew.drew⟩

theorem fb_19 (f rd rn rm ra im kd bs st cd rg : Int) (hs : shp f = 19) (l : ((0 ≤ rd ∧ rd ≤ 12 ∨ rd = 14)) ∧ (rn = 0) ∧ (rm = 0) ∧ (ra = 0) ∧ (0 ≤ im ∧ im ≤ 4095) ∧ (kd = 0) ∧ (bs = 0) ∧ (0 ≤ st ∧ st ≤ 1) ∧ (cd = 0) ∧ (rg = 0)) (w : World) (hL : Inst.Laid w) :
    Calls Tryd.prog 55 #[.agg #[.int .i64 f, .int .i64 rd, .int .i64 rn, .int .i64 rm, .int .i64 ra, .int .i64 im, .int .i64 kd, .int .i64 bs, .int .i64 st, .int .i64 cd, .int .i64 rg]] w fun e w' => e = .returned (.int .u32 (add 19 rd rn rm ra im kd bs st cd rg)) ∧ Below w.heap.size w w' := by
  have b_rd : 0 ≤ rd ∧ rd ≤ 15 := by omega
  have b_rn : 0 ≤ rn ∧ rn ≤ 0 := by omega
  have b_st : 0 ≤ st ∧ st ≤ 1 := by omega
  have b_im : 0 ≤ im ∧ im ≤ 4095 := by omega
  clear l
  have e0 : tw im = im / 2048 % 2 * 67108864 + im / 256 % 8 * 4096 + im % 256 := rfl
  have o0 := (or_tw (a := im / 2048 % 2) (b := im / 256 % 8) (c := im % 256) (by omega) (by omega) (by omega)).1
  have hB := (Below.refl w.heap.size w).alloc (Nat.le_refl _) (.cells #[.int .i64 f, .int .i64 rd, .int .i64 rn, .int .i64 rm, .int .i64 ra, .int .i64 im, .int .i64 kd, .int .i64 bs, .int .i64 st, .int .i64 cd, .int .i64 rg] 25)
  have hLs := (hL.below hB.drew.drew).shs
  go_enter Tryd.func55, Tryd.ntmps55
  go_wp2_with fail
  go_region
  go_wp2_with fail
  go_region
  go_wp2_with (first | (go_at_call 58; refine (Shape_any _ _ hLs).mono ?_; rintro e w' ⟨rfl, rfl⟩) | (go_at_call 74; refine (twelveBits_any _ (by omega) (by omega) _).mono ?_; rintro e w' ⟨rfl, rfl⟩))
  go_ret
  exact ⟨ret_int ((fin_18 (by omega) (by omega) (by omega) (by omega) (by omega) (by omega)).trans (by rw [add_19] <;> omega)), hB.drew.drew.drew.drew⟩

theorem fb_20 (f rd rn rm ra im kd bs st cd rg : Int) (hs : shp f = 20) (l : (rd = 0) ∧ ((0 ≤ rn ∧ rn ≤ 12 ∨ rn = 14)) ∧ (rm = 0) ∧ (ra = 0) ∧ (0 ≤ im ∧ im ≤ 4095) ∧ (kd = 0) ∧ (bs = 0) ∧ (st = 0) ∧ (cd = 0) ∧ (rg = 0)) (w : World) (hL : Inst.Laid w) :
    Calls Tryd.prog 55 #[.agg #[.int .i64 f, .int .i64 rd, .int .i64 rn, .int .i64 rm, .int .i64 ra, .int .i64 im, .int .i64 kd, .int .i64 bs, .int .i64 st, .int .i64 cd, .int .i64 rg]] w fun e w' => e = .returned (.int .u32 (add 20 rd rn rm ra im kd bs st cd rg)) ∧ Below w.heap.size w w' := by
  have b_rd : 0 ≤ rd ∧ rd ≤ 0 := by omega
  have b_rn : 0 ≤ rn ∧ rn ≤ 15 := by omega
  have b_st : 0 ≤ st ∧ st ≤ 0 := by omega
  have b_im : 0 ≤ im ∧ im ≤ 4095 := by omega
  clear l
  have e0 : tw im = im / 2048 % 2 * 67108864 + im / 256 % 8 * 4096 + im % 256 := rfl
  have o0 := (or_tw (a := im / 2048 % 2) (b := im / 256 % 8) (c := im % 256) (by omega) (by omega) (by omega)).1
  have hB := (Below.refl w.heap.size w).alloc (Nat.le_refl _) (.cells #[.int .i64 f, .int .i64 rd, .int .i64 rn, .int .i64 rm, .int .i64 ra, .int .i64 im, .int .i64 kd, .int .i64 bs, .int .i64 st, .int .i64 cd, .int .i64 rg] 25)
  have hLs := (hL.below hB.drew.drew).shs
  go_enter Tryd.func55, Tryd.ntmps55
  go_wp2_with fail
  go_region
  go_wp2_with fail
  go_region
  go_wp2_with (first | (go_at_call 58; refine (Shape_any _ _ hLs).mono ?_; rintro e w' ⟨rfl, rfl⟩) | (go_at_call 74; refine (twelveBits_any _ (by omega) (by omega) _).mono ?_; rintro e w' ⟨rfl, rfl⟩))
  go_ret
  exact ⟨ret_int ((fin_18 (by omega) (by omega) (by omega) (by omega) (by omega) (by omega)).trans (by rw [add_20] <;> omega)), hB.drew.drew.drew.drew⟩

set_option maxRecDepth 100000 in
set_option maxHeartbeats 2000000 in
theorem fb_21 (f rd rn rm ra im kd bs st cd rg : Int) (hs : shp f = 21) (l : ((0 ≤ rd ∧ rd ≤ 12 ∨ rd = 14)) ∧ ((0 ≤ rn ∧ rn ≤ 12 ∨ rn = 14)) ∧ ((0 ≤ rm ∧ rm ≤ 12 ∨ rm = 14)) ∧ (ra = 0) ∧ (im = 0) ∧ (0 ≤ st ∧ st ≤ 1) ∧ (cd = 0) ∧ (rg = 0) ∧ ((kd = 0 ∧ 0 ≤ bs ∧ bs ≤ 31) ∨ ((kd = 1 ∨ kd = 2) ∧ 1 ≤ bs ∧ bs ≤ 32) ∨ (kd = 3 ∧ 1 ≤ bs ∧ bs ≤ 31))) (w : World) (hL : Inst.Laid w) :
    Calls Tryd.prog 55 #[.agg #[.int .i64 f, .int .i64 rd, .int .i64 rn, .int .i64 rm, .int .i64 ra, .int .i64 im, .int .i64 kd, .int .i64 bs, .int .i64 st, .int .i64 cd, .int .i64 rg]] w fun e w' => e = .returned (.int .u32 (add 21 rd rn rm ra im kd bs st cd rg)) ∧ Below w.heap.size w w' := by
  have b_rd : 0 ≤ rd ∧ rd ≤ 15 := by omega
  have b_rn : 0 ≤ rn ∧ rn ≤ 15 := by omega
  have b_rm : 0 ≤ rm ∧ rm ≤ 15 := by omega
  have b_st : 0 ≤ st ∧ st ≤ 1 := by omega
  have b_kd : 0 ≤ kd ∧ kd ≤ 3 := by omega
  have b_bs : 0 ≤ bs ∧ bs ≤ 32 := by omega
  clear l
  have e0 := ct_at bs (h := 4) (l := 2) (by decide : pw 2 = 4) (by decide : pw (4 - 2 + 1) = 8)
  have e1 := ct_at bs (h := 1) (l := 0) (by decide : pw 0 = 1) (by decide : pw (1 - 0 + 1) = 4)
  have hB := (Below.refl w.heap.size w).alloc (Nat.le_refl _) (.cells #[.int .i64 f, .int .i64 rd, .int .i64 rn, .int .i64 rm, .int .i64 ra, .int .i64 im, .int .i64 kd, .int .i64 bs, .int .i64 st, .int .i64 cd, .int .i64 rg] 25)
  have hLs := (hL.below hB.drew.drew).shs
  go_enter Tryd.func55, Tryd.ntmps55
  go_wp2_with fail
  go_region
  go_wp2_with fail
  go_region
  go_wp2_with (first | (go_at_call 58; refine (Shape_any _ _ hLs).mono ?_; rintro e w' ⟨rfl, rfl⟩))
  have hk : ((w.alloc (.cells #[.int .i64 f, .int .i64 rd, .int .i64 rn, .int .i64 rm, .int .i64 ra, .int .i64 im, .int .i64 kd, .int .i64 bs, .int .i64 st, .int .i64 cd, .int .i64 rg] 25)).drew.drew).cell? ⟨w.heap.size, 6, none⟩ = some (.int .i64 kd) := World.cell?_alloc_mark w #[.int .i64 f, .int .i64 rd, .int .i64 rn, .int .i64 rm, .int .i64 ra, .int .i64 im, .int .i64 kd, .int .i64 bs, .int .i64 st, .int .i64 cd, .int .i64 rg] 25 (0, 0) 6
  have hB2 : Below w.heap.size w (w.alloc (.cells #[.int .i64 f, .int .i64 rd, .int .i64 rn, .int .i64 rm, .int .i64 ra, .int .i64 im, .int .i64 kd, .int .i64 bs, .int .i64 st, .int .i64 cd, .int .i64 rg] 25)).drew.drew := hB.drew.drew
  clear hB hLs
  generalize (w.alloc (.cells #[.int .i64 f, .int .i64 rd, .int .i64 rn, .int .i64 rm, .int .i64 ra, .int .i64 im, .int .i64 kd, .int .i64 bs, .int .i64 st, .int .i64 cd, .int .i64 rg] 25)).drew.drew = W at *
  go_quiet (first | (go_at_call 22; exact quiet_drew1 (cut_any _ _ _ (by omega) (by omega) (by decide) (by decide) (by decide) _)))
  go_wp2_with fail
  go_ret
  exact ⟨ret_int ((or_21 (by omega) (by omega) (by omega) (by omega) (by omega) (by omega) (by omega)).1.trans (by rw [add_21] <;> omega)), hB2.trans ((below_drewN _ _).mono hB2.size)⟩

set_option maxRecDepth 100000 in
set_option maxHeartbeats 2000000 in
theorem fb_22 (f rd rn rm ra im kd bs st cd rg : Int) (hs : shp f = 22) (l : ((0 ≤ rd ∧ rd ≤ 12 ∨ rd = 14)) ∧ (rn = 0) ∧ ((0 ≤ rm ∧ rm ≤ 12 ∨ rm = 14)) ∧ (ra = 0) ∧ (im = 0) ∧ (0 ≤ st ∧ st ≤ 1) ∧ (cd = 0) ∧ (rg = 0) ∧ ((kd = 0 ∧ 0 ≤ bs ∧ bs ≤ 31) ∨ ((kd = 1 ∨ kd = 2) ∧ 1 ≤ bs ∧ bs ≤ 32) ∨ (kd = 3 ∧ 1 ≤ bs ∧ bs ≤ 31))) (w : World) (hL : Inst.Laid w) :
    Calls Tryd.prog 55 #[.agg #[.int .i64 f, .int .i64 rd, .int .i64 rn, .int .i64 rm, .int .i64 ra, .int .i64 im, .int .i64 kd, .int .i64 bs, .int .i64 st, .int .i64 cd, .int .i64 rg]] w fun e w' => e = .returned (.int .u32 (add 22 rd rn rm ra im kd bs st cd rg)) ∧ Below w.heap.size w w' := by
  have b_rd : 0 ≤ rd ∧ rd ≤ 15 := by omega
  have b_rn : 0 ≤ rn ∧ rn ≤ 0 := by omega
  have b_rm : 0 ≤ rm ∧ rm ≤ 15 := by omega
  have b_st : 0 ≤ st ∧ st ≤ 1 := by omega
  have b_kd : 0 ≤ kd ∧ kd ≤ 3 := by omega
  have b_bs : 0 ≤ bs ∧ bs ≤ 32 := by omega
  clear l
  have e0 := ct_at bs (h := 4) (l := 2) (by decide : pw 2 = 4) (by decide : pw (4 - 2 + 1) = 8)
  have e1 := ct_at bs (h := 1) (l := 0) (by decide : pw 0 = 1) (by decide : pw (1 - 0 + 1) = 4)
  have hB := (Below.refl w.heap.size w).alloc (Nat.le_refl _) (.cells #[.int .i64 f, .int .i64 rd, .int .i64 rn, .int .i64 rm, .int .i64 ra, .int .i64 im, .int .i64 kd, .int .i64 bs, .int .i64 st, .int .i64 cd, .int .i64 rg] 25)
  have hLs := (hL.below hB.drew.drew).shs
  go_enter Tryd.func55, Tryd.ntmps55
  go_wp2_with fail
  go_region
  go_wp2_with fail
  go_region
  go_wp2_with (first | (go_at_call 58; refine (Shape_any _ _ hLs).mono ?_; rintro e w' ⟨rfl, rfl⟩))
  have hk : ((w.alloc (.cells #[.int .i64 f, .int .i64 rd, .int .i64 rn, .int .i64 rm, .int .i64 ra, .int .i64 im, .int .i64 kd, .int .i64 bs, .int .i64 st, .int .i64 cd, .int .i64 rg] 25)).drew.drew).cell? ⟨w.heap.size, 6, none⟩ = some (.int .i64 kd) := World.cell?_alloc_mark w #[.int .i64 f, .int .i64 rd, .int .i64 rn, .int .i64 rm, .int .i64 ra, .int .i64 im, .int .i64 kd, .int .i64 bs, .int .i64 st, .int .i64 cd, .int .i64 rg] 25 (0, 0) 6
  have hB2 : Below w.heap.size w (w.alloc (.cells #[.int .i64 f, .int .i64 rd, .int .i64 rn, .int .i64 rm, .int .i64 ra, .int .i64 im, .int .i64 kd, .int .i64 bs, .int .i64 st, .int .i64 cd, .int .i64 rg] 25)).drew.drew := hB.drew.drew
  clear hB hLs
  generalize (w.alloc (.cells #[.int .i64 f, .int .i64 rd, .int .i64 rn, .int .i64 rm, .int .i64 ra, .int .i64 im, .int .i64 kd, .int .i64 bs, .int .i64 st, .int .i64 cd, .int .i64 rg] 25)).drew.drew = W at *
  go_quiet (first | (go_at_call 22; exact quiet_drew1 (cut_any _ _ _ (by omega) (by omega) (by decide) (by decide) (by decide) _)))
  go_wp2_with fail
  go_ret
  exact ⟨ret_int ((or_21 (by omega) (by omega) (by omega) (by omega) (by omega) (by omega) (by omega)).1.trans (by rw [add_22] <;> omega)), hB2.trans ((below_drewN _ _).mono hB2.size)⟩

set_option maxRecDepth 100000 in
set_option maxHeartbeats 2000000 in
theorem fb_23 (f rd rn rm ra im kd bs st cd rg : Int) (hs : shp f = 23) (l : (rd = 0) ∧ ((0 ≤ rn ∧ rn ≤ 12 ∨ rn = 14)) ∧ ((0 ≤ rm ∧ rm ≤ 12 ∨ rm = 14)) ∧ (ra = 0) ∧ (im = 0) ∧ (st = 0) ∧ (cd = 0) ∧ (rg = 0) ∧ ((kd = 0 ∧ 0 ≤ bs ∧ bs ≤ 31) ∨ ((kd = 1 ∨ kd = 2) ∧ 1 ≤ bs ∧ bs ≤ 32) ∨ (kd = 3 ∧ 1 ≤ bs ∧ bs ≤ 31))) (w : World) (hL : Inst.Laid w) :
    Calls Tryd.prog 55 #[.agg #[.int .i64 f, .int .i64 rd, .int .i64 rn, .int .i64 rm, .int .i64 ra, .int .i64 im, .int .i64 kd, .int .i64 bs, .int .i64 st, .int .i64 cd, .int .i64 rg]] w fun e w' => e = .returned (.int .u32 (add 23 rd rn rm ra im kd bs st cd rg)) ∧ Below w.heap.size w w' := by
  have b_rd : 0 ≤ rd ∧ rd ≤ 0 := by omega
  have b_rn : 0 ≤ rn ∧ rn ≤ 15 := by omega
  have b_rm : 0 ≤ rm ∧ rm ≤ 15 := by omega
  have b_st : 0 ≤ st ∧ st ≤ 0 := by omega
  have b_kd : 0 ≤ kd ∧ kd ≤ 3 := by omega
  have b_bs : 0 ≤ bs ∧ bs ≤ 32 := by omega
  clear l
  have e0 := ct_at bs (h := 4) (l := 2) (by decide : pw 2 = 4) (by decide : pw (4 - 2 + 1) = 8)
  have e1 := ct_at bs (h := 1) (l := 0) (by decide : pw 0 = 1) (by decide : pw (1 - 0 + 1) = 4)
  have hB := (Below.refl w.heap.size w).alloc (Nat.le_refl _) (.cells #[.int .i64 f, .int .i64 rd, .int .i64 rn, .int .i64 rm, .int .i64 ra, .int .i64 im, .int .i64 kd, .int .i64 bs, .int .i64 st, .int .i64 cd, .int .i64 rg] 25)
  have hLs := (hL.below hB.drew.drew).shs
  go_enter Tryd.func55, Tryd.ntmps55
  go_wp2_with fail
  go_region
  go_wp2_with fail
  go_region
  go_wp2_with (first | (go_at_call 58; refine (Shape_any _ _ hLs).mono ?_; rintro e w' ⟨rfl, rfl⟩))
  have hk : ((w.alloc (.cells #[.int .i64 f, .int .i64 rd, .int .i64 rn, .int .i64 rm, .int .i64 ra, .int .i64 im, .int .i64 kd, .int .i64 bs, .int .i64 st, .int .i64 cd, .int .i64 rg] 25)).drew.drew).cell? ⟨w.heap.size, 6, none⟩ = some (.int .i64 kd) := World.cell?_alloc_mark w #[.int .i64 f, .int .i64 rd, .int .i64 rn, .int .i64 rm, .int .i64 ra, .int .i64 im, .int .i64 kd, .int .i64 bs, .int .i64 st, .int .i64 cd, .int .i64 rg] 25 (0, 0) 6
  have hB2 : Below w.heap.size w (w.alloc (.cells #[.int .i64 f, .int .i64 rd, .int .i64 rn, .int .i64 rm, .int .i64 ra, .int .i64 im, .int .i64 kd, .int .i64 bs, .int .i64 st, .int .i64 cd, .int .i64 rg] 25)).drew.drew := hB.drew.drew
  clear hB hLs
  generalize (w.alloc (.cells #[.int .i64 f, .int .i64 rd, .int .i64 rn, .int .i64 rm, .int .i64 ra, .int .i64 im, .int .i64 kd, .int .i64 bs, .int .i64 st, .int .i64 cd, .int .i64 rg] 25)).drew.drew = W at *
  go_quiet (first | (go_at_call 22; exact quiet_drew1 (cut_any _ _ _ (by omega) (by omega) (by decide) (by decide) (by decide) _)))
  go_wp2_with fail
  go_ret
  exact ⟨ret_int ((or_21 (by omega) (by omega) (by omega) (by omega) (by omega) (by omega) (by omega)).1.trans (by rw [add_23] <;> omega)), hB2.trans ((below_drewN _ _).mono hB2.size)⟩

theorem fb_24 (f rd rn rm ra im kd bs st cd rg : Int) (hs : shp f = 24) (l : ((0 ≤ rd ∧ rd ≤ 12 ∨ rd = 14)) ∧ ((0 ≤ rn ∧ rn ≤ 12 ∨ rn = 14)) ∧ (rm = 0) ∧ (ra = 0) ∧ (0 ≤ im ∧ im ≤ 4095) ∧ (kd = 0) ∧ (bs = 0) ∧ (st = 0) ∧ (cd = 0) ∧ (rg = 0)) (w : World) (hL : Inst.Laid w) :
    Calls Tryd.prog 55 #[.agg #[.int .i64 f, .int .i64 rd, .int .i64 rn, .int .i64 rm, .int .i64 ra, .int .i64 im, .int .i64 kd, .int .i64 bs, .int .i64 st, .int .i64 cd, .int .i64 rg]] w fun e w' => e = .returned (.int .u32 (add 24 rd rn rm ra im kd bs st cd rg)) ∧ Below w.heap.size w w' := by
  have b_rd : 0 ≤ rd ∧ rd ≤ 15 := by omega
  have b_rn : 0 ≤ rn ∧ rn ≤ 15 := by omega
  have b_st : 0 ≤ st ∧ st ≤ 0 := by omega
  have b_im : 0 ≤ im ∧ im ≤ 4095 := by omega
  clear l
  have e0 : tw im = im / 2048 % 2 * 67108864 + im / 256 % 8 * 4096 + im % 256 := rfl
  have o0 := (or_tw (a := im / 2048 % 2) (b := im / 256 % 8) (c := im % 256) (by omega) (by omega) (by omega)).1
  have hB := (Below.refl w.heap.size w).alloc (Nat.le_refl _) (.cells #[.int .i64 f, .int .i64 rd, .int .i64 rn, .int .i64 rm, .int .i64 ra, .int .i64 im, .int .i64 kd, .int .i64 bs, .int .i64 st, .int .i64 cd, .int .i64 rg] 25)
  have hLs := (hL.below hB.drew.drew).shs
  go_enter Tryd.func55, Tryd.ntmps55
  go_wp2_with fail
  go_region
  go_wp2_with fail
  go_region
  go_wp2_with (first | (go_at_call 58; refine (Shape_any _ _ hLs).mono ?_; rintro e w' ⟨rfl, rfl⟩) | (go_at_call 74; refine (twelveBits_any _ (by omega) (by omega) _).mono ?_; rintro e w' ⟨rfl, rfl⟩))
  go_ret
  exact ⟨ret_int ((fin_18 (by omega) (by omega) (by omega) (by omega) (by omega) (by omega)).trans (by rw [add_24] <;> omega)), hB.drew.drew.drew.drew⟩

theorem fb_25 (f rd rn rm ra im kd bs st cd rg : Int) (hs : shp f = 25) (l : ((0 ≤ rd ∧ rd ≤ 12 ∨ rd = 14)) ∧ (0 ≤ rn ∧ rn ≤ 14) ∧ (rm = 0) ∧ (ra = 0) ∧ (0 ≤ im ∧ im ≤ 4095) ∧ (kd = 0) ∧ (bs = 0) ∧ (st = 0) ∧ (cd = 0) ∧ (rg = 0)) (w : World) (hL : Inst.Laid w) :
    Calls Tryd.prog 55 #[.agg #[.int .i64 f, .int .i64 rd, .int .i64 rn, .int .i64 rm, .int .i64 ra, .int .i64 im, .int .i64 kd, .int .i64 bs, .int .i64 st, .int .i64 cd, .int .i64 rg]] w fun e w' => e = .returned (.int .u32 (add 25 rd rn rm ra im kd bs st cd rg)) ∧ Below w.heap.size w w' := by
  have b_rd : 0 ≤ rd ∧ rd ≤ 15 := by omega
  have b_rn : 0 ≤ rn ∧ rn ≤ 14 := by omega
  have b_im : 0 ≤ im ∧ im ≤ 4095 := by omega
  clear l
  have hB := (Below.refl w.heap.size w).alloc (Nat.le_refl _) (.cells #[.int .i64 f, .int .i64 rd, .int .i64 rn, .int .i64 rm, .int .i64 ra, .int .i64 im, .int .i64 kd, .int .i64 bs, .int .i64 st, .int .i64 cd, .int .i64 rg] 25)
  have hLs := (hL.below hB.drew.drew).shs
  go_enter Tryd.func55, Tryd.ntmps55
  go_wp2_with fail
  go_region
  go_wp2_with fail
  go_region
  go_wp2_with (first | (go_at_call 58; refine (Shape_any _ _ hLs).mono ?_; rintro e w' ⟨rfl, rfl⟩))
  go_ret
  exact ⟨ret_int ((or_25 (by omega) (by omega) (by omega)).1.trans (by rw [add_25] <;> omega)), hB.drew.drew⟩

end Go.Proofs.YtpgcnbipnjcniaaDoor.Code
