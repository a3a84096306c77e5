/- What the code's bits of a right instruction's fields are, shape by shape: contracts. -/
import Derived.Test.YtpgcnbipnjcniaaDoorCodeCut
import Derived.Test.YtpgcnbipnjcniaaDoorCodeLies
import Derived.Test.YtpgcnbipnjcniaaDoorInstForm
import Derived.BigQuiet
import Derived.Deep.QuietTactic
import Derived.Test.YtpgcnbipnjcniaaDoorCodeBitsB
set_option linter.unusedVariables false
namespace Go.Proofs.YtpgcnbipnjcniaaDoor.Code
open Go.RowKit Go.Proofs.YtpgcnbipnjcniaaDoor.Alu Go.Proofs.YtpgcnbipnjcniaaDoor.Imm Go.Proofs.YtpgcnbipnjcniaaDoor.Inst

theorem fb_26 (f rd rn rm ra im kd bs st cd rg : Int) (hs : shp f = 26) (l : ((0 ≤ rd ∧ rd ≤ 12 ∨ rd = 14)) ∧ (0 ≤ rn ∧ rn ≤ 14) ∧ ((0 ≤ rm ∧ rm ≤ 12 ∨ rm = 14)) ∧ (ra = 0) ∧ (im = 0) ∧ (kd = 0) ∧ (0 ≤ bs ∧ bs ≤ 3) ∧ (st = 0) ∧ (cd = 0) ∧ (rg = 0)) (w : World) (hL : Inst.Laid w) :
    Calls Tryd.prog 55 #[.agg #[.int .i64 f, .int .i64 rd, .int .i64 rn, .int .i64 rm, .int .i64 ra, .int .i64 im, .int .i64 kd, .int .i64 bs, .int .i64 st, .int .i64 cd, .int .i64 rg]] w fun e w' => e = .returned (.int .u32 (add 26 rd rn rm ra im kd bs st cd rg)) ∧ Below w.heap.size w w' := by
  have b_rd : 0 ≤ rd ∧ rd ≤ 15 := by omega
  have b_rn : 0 ≤ rn ∧ rn ≤ 14 := by omega
  have b_rm : 0 ≤ rm ∧ rm ≤ 15 := by omega
  have b_bs : 0 ≤ bs ∧ bs ≤ 3 := by omega
  clear l
  have hB := (Below.refl w.heap.size w).alloc (Nat.le_refl _) (.cells #[.int .i64 f, .int .i64 rd, .int .i64 rn, .int .i64 rm, .int .i64 ra, .int .i64 im, .int .i64 kd, .int .i64 bs, .int .i64 st, .int .i64 cd, .int .i64 rg] 25)
  have hLs := (hL.below hB.drew.drew).shs
  go_enter Tryd.func55, Tryd.ntmps55
  go_wp2_with fail
  go_region
  go_wp2_with fail
  go_region
  go_wp2_with (first | (go_at_call 58; refine (Shape_any _ _ hLs).mono ?_; rintro e w' ⟨rfl, rfl⟩))
  go_ret
  exact ⟨ret_int ((or_26 (by omega) (by omega) (by omega) (by omega)).1.trans (by rw [add_26] <;> omega)), hB.drew.drew⟩

theorem fb_27 (f rd rn rm ra im kd bs st cd rg : Int) (hs : shp f = 27) (l : ((0 ≤ rd ∧ rd ≤ 12 ∨ rd = 14)) ∧ ((0 ≤ rn ∧ rn ≤ 12 ∨ rn = 14)) ∧ ((0 ≤ rm ∧ rm ≤ 12 ∨ rm = 14)) ∧ (ra = 0) ∧ (im = 0) ∧ (kd = 0) ∧ (bs = 0) ∧ (0 ≤ st ∧ st ≤ 1) ∧ (cd = 0) ∧ (rg = 0)) (w : World) (hL : Inst.Laid w) :
    Calls Tryd.prog 55 #[.agg #[.int .i64 f, .int .i64 rd, .int .i64 rn, .int .i64 rm, .int .i64 ra, .int .i64 im, .int .i64 kd, .int .i64 bs, .int .i64 st, .int .i64 cd, .int .i64 rg]] w fun e w' => e = .returned (.int .u32 (add 27 rd rn rm ra im kd bs st cd rg)) ∧ Below w.heap.size w w' := by
  have b_rd : 0 ≤ rd ∧ rd ≤ 15 := by omega
  have b_rn : 0 ≤ rn ∧ rn ≤ 15 := by omega
  have b_rm : 0 ≤ rm ∧ rm ≤ 15 := by omega
  have b_ra : 0 ≤ ra ∧ ra ≤ 0 := by omega
  have b_st : 0 ≤ st ∧ st ≤ 1 := by omega
  clear l
  have hB := (Below.refl w.heap.size w).alloc (Nat.le_refl _) (.cells #[.int .i64 f, .int .i64 rd, .int .i64 rn, .int .i64 rm, .int .i64 ra, .int .i64 im, .int .i64 kd, .int .i64 bs, .int .i64 st, .int .i64 cd, .int .i64 rg] 25)
  have hLs := (hL.below hB.drew.drew).shs
  go_enter Tryd.func55, Tryd.ntmps55
  go_wp2_with fail
  go_region
  go_wp2_with fail
  go_region
  go_wp2_with (first | (go_at_call 58; refine (Shape_any _ _ hLs).mono ?_; rintro e w' ⟨rfl, rfl⟩))
  go_ret
  exact ⟨ret_int ((or_27 (by omega) (by omega) (by omega) (by omega) (by omega)).1.trans (by rw [add_27] <;> omega)), hB.drew.drew⟩

theorem fb_28 (f rd rn rm ra im kd bs st cd rg : Int) (hs : shp f = 28) (l : ((0 ≤ rd ∧ rd ≤ 12 ∨ rd = 14)) ∧ ((0 ≤ rn ∧ rn ≤ 12 ∨ rn = 14)) ∧ ((0 ≤ rm ∧ rm ≤ 12 ∨ rm = 14)) ∧ (ra = 0) ∧ (im = 0) ∧ (kd = 0) ∧ (bs = 0) ∧ (st = 0) ∧ (cd = 0) ∧ (rg = 0)) (w : World) (hL : Inst.Laid w) :
    Calls Tryd.prog 55 #[.agg #[.int .i64 f, .int .i64 rd, .int .i64 rn, .int .i64 rm, .int .i64 ra, .int .i64 im, .int .i64 kd, .int .i64 bs, .int .i64 st, .int .i64 cd, .int .i64 rg]] w fun e w' => e = .returned (.int .u32 (add 28 rd rn rm ra im kd bs st cd rg)) ∧ Below w.heap.size w w' := by
  have b_rd : 0 ≤ rd ∧ rd ≤ 15 := by omega
  have b_rn : 0 ≤ rn ∧ rn ≤ 15 := by omega
  have b_rm : 0 ≤ rm ∧ rm ≤ 15 := by omega
  have b_ra : 0 ≤ ra ∧ ra ≤ 0 := by omega
  have b_st : 0 ≤ st ∧ st ≤ 0 := by omega
  clear l
  have hB := (Below.refl w.heap.size w).alloc (Nat.le_refl _) (.cells #[.int .i64 f, .int .i64 rd, .int .i64 rn, .int .i64 rm, .int .i64 ra, .int .i64 im, .int .i64 kd, .int .i64 bs, .int .i64 st, .int .i64 cd, .int .i64 rg] 25)
  have hLs := (hL.below hB.drew.drew).shs
  go_enter Tryd.func55, Tryd.ntmps55
  go_wp2_with fail
  go_region
  go_wp2_with fail
  go_region
  go_wp2_with (first | (go_at_call 58; refine (Shape_any _ _ hLs).mono ?_; rintro e w' ⟨rfl, rfl⟩))
  go_ret
  exact ⟨ret_int ((or_27 (by omega) (by omega) (by omega) (by omega) (by omega)).1.trans (by rw [add_28] <;> omega)), hB.drew.drew⟩

theorem fb_29 (f rd rn rm ra im kd bs st cd rg : Int) (hs : shp f = 29) (l : ((0 ≤ rd ∧ rd ≤ 12 ∨ rd = 14)) ∧ ((0 ≤ rn ∧ rn ≤ 12 ∨ rn = 14)) ∧ ((0 ≤ rm ∧ rm ≤ 12 ∨ rm = 14)) ∧ ((0 ≤ ra ∧ ra ≤ 12 ∨ ra = 14)) ∧ (im = 0) ∧ (kd = 0) ∧ (bs = 0) ∧ (st = 0) ∧ (cd = 0) ∧ (rg = 0)) (w : World) (hL : Inst.Laid w) :
    Calls Tryd.prog 55 #[.agg #[.int .i64 f, .int .i64 rd, .int .i64 rn, .int .i64 rm, .int .i64 ra, .int .i64 im, .int .i64 kd, .int .i64 bs, .int .i64 st, .int .i64 cd, .int .i64 rg]] w fun e w' => e = .returned (.int .u32 (add 29 rd rn rm ra im kd bs st cd rg)) ∧ Below w.heap.size w w' := by
  have b_rd : 0 ≤ rd ∧ rd ≤ 15 := by omega
  have b_rn : 0 ≤ rn ∧ rn ≤ 15 := by omega
  have b_rm : 0 ≤ rm ∧ rm ≤ 15 := by omega
  have b_ra : 0 ≤ ra ∧ ra ≤ 15 := by omega
  have b_st : 0 ≤ st ∧ st ≤ 0 := by omega
  clear l
  have hB := (Below.refl w.heap.size w).alloc (Nat.le_refl _) (.cells #[.int .i64 f, .int .i64 rd, .int .i64 rn, .int .i64 rm, .int .i64 ra, .int .i64 im, .int .i64 kd, .int .i64 bs, .int .i64 st, .int .i64 cd, .int .i64 rg] 25)
  have hLs := (hL.below hB.drew.drew).shs
  go_enter Tryd.func55, Tryd.ntmps55
  go_wp2_with fail
  go_region
  go_wp2_with fail
  go_region
  go_wp2_with (first | (go_at_call 58; refine (Shape_any _ _ hLs).mono ?_; rintro e w' ⟨rfl, rfl⟩))
  go_ret
  exact ⟨ret_int ((or_27 (by omega) (by omega) (by omega) (by omega) (by omega)).1.trans (by rw [add_29] <;> omega)), hB.drew.drew⟩

theorem fb_30 (f rd rn rm ra im kd bs st cd rg : Int) (hs : shp f = 30) (l : ((0 ≤ rd ∧ rd ≤ 12 ∨ rd = 14)) ∧ ((0 ≤ rn ∧ rn ≤ 12 ∨ rn = 14)) ∧ ((0 ≤ rm ∧ rm ≤ 12 ∨ rm = 14)) ∧ ((0 ≤ ra ∧ ra ≤ 12 ∨ ra = 14)) ∧ (im = 0) ∧ (kd = 0) ∧ (bs = 0) ∧ (st = 0) ∧ (cd = 0) ∧ (rg = 0)) (w : World) (hL : Inst.Laid w) :
    Calls Tryd.prog 55 #[.agg #[.int .i64 f, .int .i64 rd, .int .i64 rn, .int .i64 rm, .int .i64 ra, .int .i64 im, .int .i64 kd, .int .i64 bs, .int .i64 st, .int .i64 cd, .int .i64 rg]] w fun e w' => e = .returned (.int .u32 (add 30 rd rn rm ra im kd bs st cd rg)) ∧ Below w.heap.size w w' := by
  have b_rd : 0 ≤ rd ∧ rd ≤ 15 := by omega
  have b_rn : 0 ≤ rn ∧ rn ≤ 15 := by omega
  have b_rm : 0 ≤ rm ∧ rm ≤ 15 := by omega
  have b_ra : 0 ≤ ra ∧ ra ≤ 15 := by omega
  have b_st : 0 ≤ st ∧ st ≤ 0 := by omega
  clear l
  have hB := (Below.refl w.heap.size w).alloc (Nat.le_refl _) (.cells #[.int .i64 f, .int .i64 rd, .int .i64 rn, .int .i64 rm, .int .i64 ra, .int .i64 im, .int .i64 kd, .int .i64 bs, .int .i64 st, .int .i64 cd, .int .i64 rg] 25)
  have hLs := (hL.below hB.drew.drew).shs
  go_enter Tryd.func55, Tryd.ntmps55
  go_wp2_with fail
  go_region
  go_wp2_with fail
  go_region
  go_wp2_with (first | (go_at_call 58; refine (Shape_any _ _ hLs).mono ?_; rintro e w' ⟨rfl, rfl⟩))
  go_ret
  exact ⟨ret_int ((or_27 (by omega) (by omega) (by omega) (by omega) (by omega)).1.trans (by rw [add_30] <;> omega)), hB.drew.drew⟩

theorem fb_31 (f rd rn rm ra im kd bs st cd rg : Int) (hs : shp f = 31) (l : ((0 ≤ rd ∧ rd ≤ 12 ∨ rd = 14)) ∧ ((0 ≤ rn ∧ rn ≤ 12 ∨ rn = 14)) ∧ ((0 ≤ rm ∧ rm ≤ 12 ∨ rm = 14)) ∧ ((0 ≤ ra ∧ ra ≤ 12 ∨ ra = 14)) ∧ (im = 0) ∧ (kd = 0) ∧ (bs = 0) ∧ (st = 0) ∧ (cd = 0) ∧ (rg = 0)) (w : World) (hL : Inst.Laid w) :
    Calls Tryd.prog 55 #[.agg #[.int .i64 f, .int .i64 rd, .int .i64 rn, .int .i64 rm, .int .i64 ra, .int .i64 im, .int .i64 kd, .int .i64 bs, .int .i64 st, .int .i64 cd, .int .i64 rg]] w fun e w' => e = .returned (.int .u32 (add 31 rd rn rm ra im kd bs st cd rg)) ∧ Below w.heap.size w w' := by
  have b_rd : 0 ≤ rd ∧ rd ≤ 15 := by omega
  have b_rn : 0 ≤ rn ∧ rn ≤ 15 := by omega
  have b_rm : 0 ≤ rm ∧ rm ≤ 15 := by omega
  have b_ra : 0 ≤ ra ∧ ra ≤ 15 := by omega
  clear l
  have hB := (Below.refl w.heap.size w).alloc (Nat.le_refl _) (.cells #[.int .i64 f, .int .i64 rd, .int .i64 rn, .int .i64 rm, .int .i64 ra, .int .i64 im, .int .i64 kd, .int .i64 bs, .int .i64 st, .int .i64 cd, .int .i64 rg] 25)
  have hLs := (hL.below hB.drew.drew).shs
  go_enter Tryd.func55, Tryd.ntmps55
  go_wp2_with fail
  go_region
  go_wp2_with fail
  go_region
  go_wp2_with (first | (go_at_call 58; refine (Shape_any _ _ hLs).mono ?_; rintro e w' ⟨rfl, rfl⟩))
  go_ret
  exact ⟨ret_int ((or_31 (by omega) (by omega) (by omega) (by omega)).1.trans (by rw [add_31] <;> omega)), hB.drew.drew⟩

theorem fb_32 (f rd rn rm ra im kd bs st cd rg : Int) (hs : shp f = 32) (l : ((0 ≤ rd ∧ rd ≤ 12 ∨ rd = 14)) ∧ (rn = 0) ∧ ((0 ≤ rm ∧ rm ≤ 12 ∨ rm = 14)) ∧ (ra = 0) ∧ (im = 0) ∧ (kd = 0) ∧ (bs = 0) ∧ (st = 0) ∧ (cd = 0) ∧ (rg = 0)) (w : World) (hL : Inst.Laid w) :
    Calls Tryd.prog 55 #[.agg #[.int .i64 f, .int .i64 rd, .int .i64 rn, .int .i64 rm, .int .i64 ra, .int .i64 im, .int .i64 kd, .int .i64 bs, .int .i64 st, .int .i64 cd, .int .i64 rg]] w fun e w' => e = .returned (.int .u32 (add 32 rd rn rm ra im kd bs st cd rg)) ∧ Below w.heap.size w w' := by
  have b_rd : 0 ≤ rd ∧ rd ≤ 15 := by omega
  have b_rm : 0 ≤ rm ∧ rm ≤ 15 := by omega
  clear l
  have hB := (Below.refl w.heap.size w).alloc (Nat.le_refl _) (.cells #[.int .i64 f, .int .i64 rd, .int .i64 rn, .int .i64 rm, .int .i64 ra, .int .i64 im, .int .i64 kd, .int .i64 bs, .int .i64 st, .int .i64 cd, .int .i64 rg] 25)
  have hLs := (hL.below hB.drew.drew).shs
  go_enter Tryd.func55, Tryd.ntmps55
  go_wp2_with fail
  go_region
  go_wp2_with fail
  go_region
  go_wp2_with (first | (go_at_call 58; refine (Shape_any _ _ hLs).mono ?_; rintro e w' ⟨rfl, rfl⟩))
  go_ret
  exact ⟨ret_int ((or_32 (by omega) (by omega) (by omega)).1.trans (by rw [add_32] <;> omega)), hB.drew.drew⟩

set_option maxRecDepth 100000 in
set_option maxHeartbeats 2000000 in
theorem fb_33 (f rd rn rm ra im kd bs st cd rg : Int) (hs : shp f = 33) (l : (rd = 0) ∧ (rn = 0) ∧ (rm = 0) ∧ (ra = 0) ∧ (-1048576 ≤ im ∧ im ≤ 1048574 ∧ im % 2 = 0) ∧ (kd = 0) ∧ (bs = 0) ∧ (st = 0) ∧ (0 ≤ cd ∧ cd ≤ 13) ∧ (rg = 0)) (w : World) (hL : Inst.Laid w) :
    Calls Tryd.prog 55 #[.agg #[.int .i64 f, .int .i64 rd, .int .i64 rn, .int .i64 rm, .int .i64 ra, .int .i64 im, .int .i64 kd, .int .i64 bs, .int .i64 st, .int .i64 cd, .int .i64 rg]] w fun e w' => e = .returned (.int .u32 (add 33 rd rn rm ra im kd bs st cd rg)) ∧ Below w.heap.size w w' := by
  have b_im : -1048576 ≤ im ∧ im ≤ 1048574 := by omega
  have b_cd : 0 ≤ cd ∧ cd ≤ 13 := by omega
  clear l
  have e0 : cwb (im % 4294967296) = (im % 4294967296) / 1048576 % 2 * 67108864 + (im % 4294967296) / 4096 % 64 * 65536 + (im % 4294967296) / 262144 % 2 * 8192 + (im % 4294967296) / 524288 % 2 * 2048 + (im % 4294967296) / 2 % 2048 := rfl
  have hB := (Below.refl w.heap.size w).alloc (Nat.le_refl _) (.cells #[.int .i64 f, .int .i64 rd, .int .i64 rn, .int .i64 rm, .int .i64 ra, .int .i64 im, .int .i64 kd, .int .i64 bs, .int .i64 st, .int .i64 cd, .int .i64 rg] 25)
  have hLs := (hL.below hB.drew.drew).shs
  go_enter Tryd.func55, Tryd.ntmps55
  go_wp2_with fail
  go_region
  go_wp2_with fail
  go_region
  go_wp2_with (first | (go_at_call 58; refine (Shape_any _ _ hLs).mono ?_; rintro e w' ⟨rfl, rfl⟩))
  have hk : ((w.alloc (.cells #[.int .i64 f, .int .i64 rd, .int .i64 rn, .int .i64 rm, .int .i64 ra, .int .i64 im, .int .i64 kd, .int .i64 bs, .int .i64 st, .int .i64 cd, .int .i64 rg] 25)).drew.drew).cell? ⟨w.heap.size, 9, none⟩ = some (.int .i64 cd) := World.cell?_alloc_mark w #[.int .i64 f, .int .i64 rd, .int .i64 rn, .int .i64 rm, .int .i64 ra, .int .i64 im, .int .i64 kd, .int .i64 bs, .int .i64 st, .int .i64 cd, .int .i64 rg] 25 (0, 0) 9
  have hB2 : Below w.heap.size w (w.alloc (.cells #[.int .i64 f, .int .i64 rd, .int .i64 rn, .int .i64 rm, .int .i64 ra, .int .i64 im, .int .i64 kd, .int .i64 bs, .int .i64 st, .int .i64 cd, .int .i64 rg] 25)).drew.drew := hB.drew.drew
  clear hB hLs
  generalize (w.alloc (.cells #[.int .i64 f, .int .i64 rd, .int .i64 rn, .int .i64 rm, .int .i64 ra, .int .i64 im, .int .i64 kd, .int .i64 bs, .int .i64 st, .int .i64 cd, .int .i64 rg] 25)).drew.drew = W at *
  go_quiet (first | (go_at_call 75; exact quiet_drew2 (condWideBits_any _ (by omega) (by omega) _)))
  go_wp2_with fail
  go_ret
  exact ⟨ret_int ((fin_33 (by omega) (by omega) (by omega) (by omega) (by omega) (by omega)).trans (by rw [add_33] <;> omega)), hB2.trans ((below_drewN _ _).mono hB2.size)⟩

theorem fb_34 (f rd rn rm ra im kd bs st cd rg : Int) (hs : shp f = 34) (l : (rd = 0) ∧ (rn = 0) ∧ (rm = 0) ∧ (ra = 0) ∧ (-16777216 ≤ im ∧ im ≤ 16777214 ∧ im % 2 = 0) ∧ (kd = 0) ∧ (bs = 0) ∧ (st = 0) ∧ (cd = 0) ∧ (rg = 0)) (w : World) (hL : Inst.Laid w) :
    Calls Tryd.prog 55 #[.agg #[.int .i64 f, .int .i64 rd, .int .i64 rn, .int .i64 rm, .int .i64 ra, .int .i64 im, .int .i64 kd, .int .i64 bs, .int .i64 st, .int .i64 cd, .int .i64 rg]] w fun e w' => e = .returned (.int .u32 (add 34 rd rn rm ra im kd bs st cd rg)) ∧ Below w.heap.size w w' := by
  have b_im : -16777216 ≤ im ∧ im ≤ 16777214 := by omega
  clear l
  have hB := (Below.refl w.heap.size w).alloc (Nat.le_refl _) (.cells #[.int .i64 f, .int .i64 rd, .int .i64 rn, .int .i64 rm, .int .i64 ra, .int .i64 im, .int .i64 kd, .int .i64 bs, .int .i64 st, .int .i64 cd, .int .i64 rg] 25)
  have hLs := (hL.below hB.drew.drew).shs
  go_enter Tryd.func55, Tryd.ntmps55
  go_wp2_with fail
  go_region
  go_wp2_with fail
  go_region
  go_wp2_with (first | (go_at_call 58; refine (Shape_any _ _ hLs).mono ?_; rintro e w' ⟨rfl, rfl⟩) | (go_at_call 76; refine (jumpWideBits_any _ (by omega) (by omega) _).mono ?_; rintro e w' ⟨rfl, rfl⟩))
  go_ret
  exact ⟨ret_int (fin_34 rd rn rm ra im kd bs st cd rg), hB.drew.drew.drew.drew⟩

end Go.Proofs.YtpgcnbipnjcniaaDoor.Code
