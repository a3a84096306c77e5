/- What a right instruction's fields may be, shape by shape, as plain bounds; its word as a sum; the fields out of a word. -/
import Derived.Test.YtpgcnbipnjcniaaDoorInstEq
set_option linter.unusedVariables false
set_option linter.unusedSimpArgs false
namespace Go.Proofs.YtpgcnbipnjcniaaDoor.Code
open Go.Proofs.YtpgcnbipnjcniaaDoor.Alu Go.Proofs.YtpgcnbipnjcniaaDoor.Imm Go.Proofs.YtpgcnbipnjcniaaDoor.Inst

theorem lin_1 {f rd rn rm ra im kd bs st cd rg : Int} (h : (if (1 : Int) < 17 then narrowB f 1 rd rn rm ra im kd bs st cd rg else wideB 1 rd rn rm ra im kd bs st cd rg) = true) : (0 ≤ rd ∧ rd ≤ 7) ∧ (rn = 0) ∧ (0 ≤ rm ∧ rm ≤ 7) ∧ (ra = 0) ∧ (0 ≤ im ∧ im ≤ 32 ∧ (f = 1 → im ≤ 31) ∧ (¬ f = 1 → 1 ≤ im)) ∧ (kd = 0) ∧ (bs = 0) ∧ (st = 0) ∧ (cd = 0) ∧ (rg = 0) := by
  simp only [narrowB, plainB, wideB, moreB, only, may, wid, brf, wrf] at h
  simp +decide only [if_true, if_false, wi, Bool.and_eq_true, Bool.or_eq_true, Bool.not_eq_true', decide_eq_true_eq, decide_eq_false_iff_not, Bool.false_eq_true, false_and, and_false, or_false, false_or, true_or, or_true, true_and, and_true, not_true, not_false_iff, ne_eq] at h
  omega
theorem lin_2 {f rd rn rm ra im kd bs st cd rg : Int} (h : (if (2 : Int) < 17 then narrowB f 2 rd rn rm ra im kd bs st cd rg else wideB 2 rd rn rm ra im kd bs st cd rg) = true) : (0 ≤ rd ∧ rd ≤ 7) ∧ (0 ≤ rn ∧ rn ≤ 7) ∧ (0 ≤ rm ∧ rm ≤ 7) ∧ (ra = 0) ∧ (im = 0) ∧ (kd = 0) ∧ (bs = 0) ∧ (st = 0) ∧ (cd = 0) ∧ (rg = 0) := by
  simp only [narrowB, plainB, wideB, moreB, only, may, wid, brf, wrf] at h
  simp +decide only [if_true, if_false, wi, Bool.and_eq_true, Bool.or_eq_true, Bool.not_eq_true', decide_eq_true_eq, decide_eq_false_iff_not, Bool.false_eq_true, false_and, and_false, or_false, false_or, true_or, or_true, true_and, and_true, not_true, not_false_iff, ne_eq] at h
  omega
theorem lin_3 {f rd rn rm ra im kd bs st cd rg : Int} (h : (if (3 : Int) < 17 then narrowB f 3 rd rn rm ra im kd bs st cd rg else wideB 3 rd rn rm ra im kd bs st cd rg) = true) : (0 ≤ rd ∧ rd ≤ 7) ∧ (0 ≤ rn ∧ rn ≤ 7) ∧ (rm = 0) ∧ (ra = 0) ∧ (0 ≤ im ∧ im ≤ 7) ∧ (kd = 0) ∧ (bs = 0) ∧ (st = 0) ∧ (cd = 0) ∧ (rg = 0) := by
  simp only [narrowB, plainB, wideB, moreB, only, may, wid, brf, wrf] at h
  simp +decide only [if_true, if_false, wi, Bool.and_eq_true, Bool.or_eq_true, Bool.not_eq_true', decide_eq_true_eq, decide_eq_false_iff_not, Bool.false_eq_true, false_and, and_false, or_false, false_or, true_or, or_true, true_and, and_true, not_true, not_false_iff, ne_eq] at h
  omega
theorem lin_4 {f rd rn rm ra im kd bs st cd rg : Int} (h : (if (4 : Int) < 17 then narrowB f 4 rd rn rm ra im kd bs st cd rg else wideB 4 rd rn rm ra im kd bs st cd rg) = true) : (0 ≤ rd ∧ rd ≤ 7) ∧ (rn = 0) ∧ (rm = 0) ∧ (ra = 0) ∧ (0 ≤ im ∧ im ≤ 255) ∧ (kd = 0) ∧ (bs = 0) ∧ (st = 0) ∧ (cd = 0) ∧ (rg = 0) := by
  simp only [narrowB, plainB, wideB, moreB, only, may, wid, brf, wrf] at h
  simp +decide only [if_true, if_false, wi, Bool.and_eq_true, Bool.or_eq_true, Bool.not_eq_true', decide_eq_true_eq, decide_eq_false_iff_not, Bool.false_eq_true, false_and, and_false, or_false, false_or, true_or, or_true, true_and, and_true, not_true, not_false_iff, ne_eq] at h
  omega
theorem lin_5 {f rd rn rm ra im kd bs st cd rg : Int} (h : (if (5 : Int) < 17 then narrowB f 5 rd rn rm ra im kd bs st cd rg else wideB 5 rd rn rm ra im kd bs st cd rg) = true) : (0 ≤ rd ∧ rd ≤ 7) ∧ (rn = 0) ∧ (0 ≤ rm ∧ rm ≤ 7) ∧ (ra = 0) ∧ (im = 0) ∧ (kd = 0) ∧ (bs = 0) ∧ (st = 0) ∧ (cd = 0) ∧ (rg = 0) := by
  simp only [narrowB, plainB, wideB, moreB, only, may, wid, brf, wrf] at h
  simp +decide only [if_true, if_false, wi, Bool.and_eq_true, Bool.or_eq_true, Bool.not_eq_true', decide_eq_true_eq, decide_eq_false_iff_not, Bool.false_eq_true, false_and, and_false, or_false, false_or, true_or, or_true, true_and, and_true, not_true, not_false_iff, ne_eq] at h
  omega
theorem lin_6 {f rd rn rm ra im kd bs st cd rg : Int} (h : (if (6 : Int) < 17 then narrowB f 6 rd rn rm ra im kd bs st cd rg else wideB 6 rd rn rm ra im kd bs st cd rg) = true) : (0 ≤ rd ∧ rd ≤ 14) ∧ (rn = 0) ∧ (0 ≤ rm ∧ rm ≤ 14) ∧ (ra = 0) ∧ (im = 0) ∧ (kd = 0) ∧ (bs = 0) ∧ (st = 0) ∧ (cd = 0) ∧ (rg = 0) := by
  simp only [narrowB, plainB, wideB, moreB, only, may, wid, brf, wrf] at h
  simp +decide only [if_true, if_false, wi, Bool.and_eq_true, Bool.or_eq_true, Bool.not_eq_true', decide_eq_true_eq, decide_eq_false_iff_not, Bool.false_eq_true, false_and, and_false, or_false, false_or, true_or, or_true, true_and, and_true, not_true, not_false_iff, ne_eq] at h
  omega
theorem lin_7 {f rd rn rm ra im kd bs st cd rg : Int} (h : (if (7 : Int) < 17 then narrowB f 7 rd rn rm ra im kd bs st cd rg else wideB 7 rd rn rm ra im kd bs st cd rg) = true) : (rd = 0) ∧ (rn = 0) ∧ (0 ≤ rm ∧ rm ≤ 14) ∧ (ra = 0) ∧ (im = 0) ∧ (kd = 0) ∧ (bs = 0) ∧ (st = 0) ∧ (cd = 0) ∧ (rg = 0) := by
  simp only [narrowB, plainB, wideB, moreB, only, may, wid, brf, wrf] at h
  simp +decide only [if_true, if_false, wi, Bool.and_eq_true, Bool.or_eq_true, Bool.not_eq_true', decide_eq_true_eq, decide_eq_false_iff_not, Bool.false_eq_true, false_and, and_false, or_false, false_or, true_or, or_true, true_and, and_true, not_true, not_false_iff, ne_eq] at h
  omega
theorem lin_8 {f rd rn rm ra im kd bs st cd rg : Int} (h : (if (8 : Int) < 17 then narrowB f 8 rd rn rm ra im kd bs st cd rg else wideB 8 rd rn rm ra im kd bs st cd rg) = true) : (0 ≤ rd ∧ rd ≤ 7) ∧ (rn = 0) ∧ (rm = 0) ∧ (ra = 0) ∧ (0 ≤ im ∧ im ≤ 1020 ∧ im % 4 = 0) ∧ (kd = 0) ∧ (bs = 0) ∧ (st = 0) ∧ (cd = 0) ∧ (rg = 0) := by
  simp only [narrowB, plainB, wideB, moreB, only, may, wid, brf, wrf] at h
  simp +decide only [if_true, if_false, wi, Bool.and_eq_true, Bool.or_eq_true, Bool.not_eq_true', decide_eq_true_eq, decide_eq_false_iff_not, Bool.false_eq_true, false_and, and_false, or_false, false_or, true_or, or_true, true_and, and_true, not_true, not_false_iff, ne_eq] at h
  omega
theorem lin_9 {f rd rn rm ra im kd bs st cd rg : Int} (h : (if (9 : Int) < 17 then narrowB f 9 rd rn rm ra im kd bs st cd rg else wideB 9 rd rn rm ra im kd bs st cd rg) = true) : (0 ≤ rd ∧ rd ≤ 7) ∧ (0 ≤ rn ∧ rn ≤ 7) ∧ (rm = 0) ∧ (ra = 0) ∧ (0 ≤ im ∧ im ≤ 124 ∧ im % 4 = 0) ∧ (kd = 0) ∧ (bs = 0) ∧ (st = 0) ∧ (cd = 0) ∧ (rg = 0) := by
  simp only [narrowB, plainB, wideB, moreB, only, may, wid, brf, wrf] at h
  simp +decide only [if_true, if_false, wi, Bool.and_eq_true, Bool.or_eq_true, Bool.not_eq_true', decide_eq_true_eq, decide_eq_false_iff_not, Bool.false_eq_true, false_and, and_false, or_false, false_or, true_or, or_true, true_and, and_true, not_true, not_false_iff, ne_eq] at h
  omega
theorem lin_10 {f rd rn rm ra im kd bs st cd rg : Int} (h : (if (10 : Int) < 17 then narrowB f 10 rd rn rm ra im kd bs st cd rg else wideB 10 rd rn rm ra im kd bs st cd rg) = true) : (rd = 0) ∧ (rn = 0) ∧ (rm = 0) ∧ (ra = 0) ∧ (0 ≤ im ∧ im ≤ 508 ∧ im % 4 = 0) ∧ (kd = 0) ∧ (bs = 0) ∧ (st = 0) ∧ (cd = 0) ∧ (rg = 0) := by
  simp only [narrowB, plainB, wideB, moreB, only, may, wid, brf, wrf] at h
  simp +decide only [if_true, if_false, wi, Bool.and_eq_true, Bool.or_eq_true, Bool.not_eq_true', decide_eq_true_eq, decide_eq_false_iff_not, Bool.false_eq_true, false_and, and_false, or_false, false_or, true_or, or_true, true_and, and_true, not_true, not_false_iff, ne_eq] at h
  omega
theorem lin_11 {f rd rn rm ra im kd bs st cd rg : Int} (h : (if (11 : Int) < 17 then narrowB f 11 rd rn rm ra im kd bs st cd rg else wideB 11 rd rn rm ra im kd bs st cd rg) = true) : (rd = 0) ∧ (rn = 0) ∧ (rm = 0) ∧ (ra = 0) ∧ (im = 0) ∧ (kd = 0) ∧ (bs = 0) ∧ (st = 0) ∧ (cd = 0) ∧ ((1 ≤ rg ∧ rg ≤ 255 ∨ 16384 ≤ rg ∧ rg ≤ 16639)) := by
  simp only [narrowB, plainB, wideB, moreB, only, may, wid, brf, wrf] at h
  simp +decide only [if_true, if_false, wi, Bool.and_eq_true, Bool.or_eq_true, Bool.not_eq_true', decide_eq_true_eq, decide_eq_false_iff_not, Bool.false_eq_true, false_and, and_false, or_false, false_or, true_or, or_true, true_and, and_true, not_true, not_false_iff, ne_eq] at h
  omega
theorem lin_12 {f rd rn rm ra im kd bs st cd rg : Int} (h : (if (12 : Int) < 17 then narrowB f 12 rd rn rm ra im kd bs st cd rg else wideB 12 rd rn rm ra im kd bs st cd rg) = true) : (rd = 0) ∧ (rn = 0) ∧ (rm = 0) ∧ (ra = 0) ∧ (im = 0) ∧ (kd = 0) ∧ (bs = 0) ∧ (st = 0) ∧ (cd = 0) ∧ ((1 ≤ rg ∧ rg ≤ 255 ∨ 32768 ≤ rg ∧ rg ≤ 33023)) := by
  simp only [narrowB, plainB, wideB, moreB, only, may, wid, brf, wrf] at h
  simp +decide only [if_true, if_false, wi, Bool.and_eq_true, Bool.or_eq_true, Bool.not_eq_true', decide_eq_true_eq, decide_eq_false_iff_not, Bool.false_eq_true, false_and, and_false, or_false, false_or, true_or, or_true, true_and, and_true, not_true, not_false_iff, ne_eq] at h
  omega
theorem lin_13 {f rd rn rm ra im kd bs st cd rg : Int} (h : (if (13 : Int) < 17 then narrowB f 13 rd rn rm ra im kd bs st cd rg else wideB 13 rd rn rm ra im kd bs st cd rg) = true) : (rd = 0) ∧ (rn = 0) ∧ (rm = 0) ∧ (ra = 0) ∧ (im = 0) ∧ (kd = 0) ∧ (bs = 0) ∧ (st = 0) ∧ (cd = 0) ∧ (rg = 0) := by
  simp only [narrowB, plainB, wideB, moreB, only, may, wid, brf, wrf] at h
  simp +decide only [if_true, if_false, wi, Bool.and_eq_true, Bool.or_eq_true, Bool.not_eq_true', decide_eq_true_eq, decide_eq_false_iff_not, Bool.false_eq_true, false_and, and_false, or_false, false_or, true_or, or_true, true_and, and_true, not_true, not_false_iff, ne_eq] at h
  omega
theorem lin_14 {f rd rn rm ra im kd bs st cd rg : Int} (h : (if (14 : Int) < 17 then narrowB f 14 rd rn rm ra im kd bs st cd rg else wideB 14 rd rn rm ra im kd bs st cd rg) = true) : (rd = 0) ∧ (rn = 0) ∧ (rm = 0) ∧ (ra = 0) ∧ (0 ≤ im ∧ im ≤ 255) ∧ (kd = 0) ∧ (bs = 0) ∧ (st = 0) ∧ (cd = 0) ∧ (rg = 0) := by
  simp only [narrowB, plainB, wideB, moreB, only, may, wid, brf, wrf] at h
  simp +decide only [if_true, if_false, wi, Bool.and_eq_true, Bool.or_eq_true, Bool.not_eq_true', decide_eq_true_eq, decide_eq_false_iff_not, Bool.false_eq_true, false_and, and_false, or_false, false_or, true_or, or_true, true_and, and_true, not_true, not_false_iff, ne_eq] at h
  omega
theorem lin_15 {f rd rn rm ra im kd bs st cd rg : Int} (h : (if (15 : Int) < 17 then narrowB f 15 rd rn rm ra im kd bs st cd rg else wideB 15 rd rn rm ra im kd bs st cd rg) = true) : (rd = 0) ∧ (rn = 0) ∧ (rm = 0) ∧ (ra = 0) ∧ (-256 ≤ im ∧ im ≤ 254 ∧ im % 2 = 0) ∧ (kd = 0) ∧ (bs = 0) ∧ (st = 0) ∧ (0 ≤ cd ∧ cd ≤ 13) ∧ (rg = 0) := by
  simp only [narrowB, plainB, wideB, moreB, only, may, wid, brf, wrf] at h
  simp +decide only [if_true, if_false, wi, Bool.and_eq_true, Bool.or_eq_true, Bool.not_eq_true', decide_eq_true_eq, decide_eq_false_iff_not, Bool.false_eq_true, false_and, and_false, or_false, false_or, true_or, or_true, true_and, and_true, not_true, not_false_iff, ne_eq] at h
  omega
theorem lin_16 {f rd rn rm ra im kd bs st cd rg : Int} (h : (if (16 : Int) < 17 then narrowB f 16 rd rn rm ra im kd bs st cd rg else wideB 16 rd rn rm ra im kd bs st cd rg) = true) : (rd = 0) ∧ (rn = 0) ∧ (rm = 0) ∧ (ra = 0) ∧ (-2048 ≤ im ∧ im ≤ 2046 ∧ im % 2 = 0) ∧ (kd = 0) ∧ (bs = 0) ∧ (st = 0) ∧ (cd = 0) ∧ (rg = 0) := by
  simp only [narrowB, plainB, wideB, moreB, only, may, wid, brf, wrf] at h
  simp +decide only [if_true, if_false, wi, Bool.and_eq_true, Bool.or_eq_true, Bool.not_eq_true', decide_eq_true_eq, decide_eq_false_iff_not, Bool.false_eq_true, false_and, and_false, or_false, false_or, true_or, or_true, true_and, and_true, not_true, not_false_iff, ne_eq] at h
  omega
theorem lin_17 {f rd rn rm ra im kd bs st cd rg : Int} (h : (if (17 : Int) < 17 then narrowB f 17 rd rn rm ra im kd bs st cd rg else wideB 17 rd rn rm ra im kd bs st cd rg) = true) : ((0 ≤ rd ∧ rd ≤ 12 ∨ rd = 14)) ∧ (rn = 0) ∧ (rm = 0) ∧ (ra = 0) ∧ (0 ≤ im ∧ im ≤ 65535) ∧ (kd = 0) ∧ (bs = 0) ∧ (st = 0) ∧ (cd = 0) ∧ (rg = 0) := by
  simp only [narrowB, plainB, wideB, moreB, only, may, wid, brf, wrf] at h
  simp +decide only [if_true, if_false, wi, Bool.and_eq_true, Bool.or_eq_true, Bool.not_eq_true', decide_eq_true_eq, decide_eq_false_iff_not, Bool.false_eq_true, false_and, and_false, or_false, false_or, true_or, or_true, true_and, and_true, not_true, not_false_iff, ne_eq] at h
  omega
theorem lin_18 {f rd rn rm ra im kd bs st cd rg : Int} (h : (if (18 : Int) < 17 then narrowB f 18 rd rn rm ra im kd bs st cd rg else wideB 18 rd rn rm ra im kd bs st cd rg) = true) : ((0 ≤ rd ∧ rd ≤ 12 ∨ rd = 14)) ∧ ((0 ≤ rn ∧ rn ≤ 12 ∨ rn = 14)) ∧ (rm = 0) ∧ (ra = 0) ∧ (0 ≤ im ∧ im ≤ 4095) ∧ (kd = 0) ∧ (bs = 0) ∧ (0 ≤ st ∧ st ≤ 1) ∧ (cd = 0) ∧ (rg = 0) := by
  simp only [narrowB, plainB, wideB, moreB, only, may, wid, brf, wrf] at h
  simp +decide only [if_true, if_false, wi, Bool.and_eq_true, Bool.or_eq_true, Bool.not_eq_true', decide_eq_true_eq, decide_eq_false_iff_not, Bool.false_eq_true, false_and, and_false, or_false, false_or, true_or, or_true, true_and, and_true, not_true, not_false_iff, ne_eq] at h
  omega
theorem lin_19 {f rd rn rm ra im kd bs st cd rg : Int} (h : (if (19 : Int) < 17 then narrowB f 19 rd rn rm ra im kd bs st cd rg else wideB 19 rd rn rm ra im kd bs st cd rg) = true) : ((0 ≤ rd ∧ rd ≤ 12 ∨ rd = 14)) ∧ (rn = 0) ∧ (rm = 0) ∧ (ra = 0) ∧ (0 ≤ im ∧ im ≤ 4095) ∧ (kd = 0) ∧ (bs = 0) ∧ (0 ≤ st ∧ st ≤ 1) ∧ (cd = 0) ∧ (rg = 0) := by
  simp only [narrowB, plainB, wideB, moreB, only, may, wid, brf, wrf] at h
  simp +decide only [if_true, if_false, wi, Bool.and_eq_true, Bool.or_eq_true, Bool.not_eq_true', decide_eq_true_eq, decide_eq_false_iff_not, Bool.false_eq_true, false_and, and_false, or_false, false_or, true_or, or_true, true_and, and_true, not_true, not_false_iff, ne_eq] at h
  omega
theorem lin_20 {f rd rn rm ra im kd bs st cd rg : Int} (h : (if (20 : Int) < 17 then narrowB f 20 rd rn rm ra im kd bs st cd rg else wideB 20 rd rn rm ra im kd bs st cd rg) = true) : (rd = 0) ∧ ((0 ≤ rn ∧ rn ≤ 12 ∨ rn = 14)) ∧ (rm = 0) ∧ (ra = 0) ∧ (0 ≤ im ∧ im ≤ 4095) ∧ (kd = 0) ∧ (bs = 0) ∧ (st = 0) ∧ (cd = 0) ∧ (rg = 0) := by
  simp only [narrowB, plainB, wideB, moreB, only, may, wid, brf, wrf] at h
  simp +decide only [if_true, if_false, wi, Bool.and_eq_true, Bool.or_eq_true, Bool.not_eq_true', decide_eq_true_eq, decide_eq_false_iff_not, Bool.false_eq_true, false_and, and_false, or_false, false_or, true_or, or_true, true_and, and_true, not_true, not_false_iff, ne_eq] at h
  omega
theorem lin_21 {f rd rn rm ra im kd bs st cd rg : Int} (h : (if (21 : Int) < 17 then narrowB f 21 rd rn rm ra im kd bs st cd rg else wideB 21 rd rn rm ra im kd bs st cd rg) = true) : ((0 ≤ rd ∧ rd ≤ 12 ∨ rd = 14)) ∧ ((0 ≤ rn ∧ rn ≤ 12 ∨ rn = 14)) ∧ ((0 ≤ rm ∧ rm ≤ 12 ∨ rm = 14)) ∧ (ra = 0) ∧ (im = 0) ∧ (0 ≤ st ∧ st ≤ 1) ∧ (cd = 0) ∧ (rg = 0) ∧ ((kd = 0 ∧ 0 ≤ bs ∧ bs ≤ 31) ∨ ((kd = 1 ∨ kd = 2) ∧ 1 ≤ bs ∧ bs ≤ 32) ∨ (kd = 3 ∧ 1 ≤ bs ∧ bs ≤ 31)) := by
  simp only [narrowB, plainB, wideB, moreB, only, may, wid, brf, wrf] at h
  simp +decide only [if_true, if_false, wi, Bool.and_eq_true, Bool.or_eq_true, Bool.not_eq_true', decide_eq_true_eq, decide_eq_false_iff_not, Bool.false_eq_true, false_and, and_false, or_false, false_or, true_or, or_true, true_and, and_true, not_true, not_false_iff, ne_eq] at h
  split at h <;> (try split at h) <;> simp only [Bool.and_eq_true, decide_eq_true_eq] at h <;> omega
theorem lin_22 {f rd rn rm ra im kd bs st cd rg : Int} (h : (if (22 : Int) < 17 then narrowB f 22 rd rn rm ra im kd bs st cd rg else wideB 22 rd rn rm ra im kd bs st cd rg) = true) : ((0 ≤ rd ∧ rd ≤ 12 ∨ rd = 14)) ∧ (rn = 0) ∧ ((0 ≤ rm ∧ rm ≤ 12 ∨ rm = 14)) ∧ (ra = 0) ∧ (im = 0) ∧ (0 ≤ st ∧ st ≤ 1) ∧ (cd = 0) ∧ (rg = 0) ∧ ((kd = 0 ∧ 0 ≤ bs ∧ bs ≤ 31) ∨ ((kd = 1 ∨ kd = 2) ∧ 1 ≤ bs ∧ bs ≤ 32) ∨ (kd = 3 ∧ 1 ≤ bs ∧ bs ≤ 31)) := by
  simp only [narrowB, plainB, wideB, moreB, only, may, wid, brf, wrf] at h
  simp +decide only [if_true, if_false, wi, Bool.and_eq_true, Bool.or_eq_true, Bool.not_eq_true', decide_eq_true_eq, decide_eq_false_iff_not, Bool.false_eq_true, false_and, and_false, or_false, false_or, true_or, or_true, true_and, and_true, not_true, not_false_iff, ne_eq] at h
  split at h <;> (try split at h) <;> simp only [Bool.and_eq_true, decide_eq_true_eq] at h <;> omega
theorem lin_23 {f rd rn rm ra im kd bs st cd rg : Int} (h : (if (23 : Int) < 17 then narrowB f 23 rd rn rm ra im kd bs st cd rg else wideB 23 rd rn rm ra im kd bs st cd rg) = true) : (rd = 0) ∧ ((0 ≤ rn ∧ rn ≤ 12 ∨ rn = 14)) ∧ ((0 ≤ rm ∧ rm ≤ 12 ∨ rm = 14)) ∧ (ra = 0) ∧ (im = 0) ∧ (st = 0) ∧ (cd = 0) ∧ (rg = 0) ∧ ((kd = 0 ∧ 0 ≤ bs ∧ bs ≤ 31) ∨ ((kd = 1 ∨ kd = 2) ∧ 1 ≤ bs ∧ bs ≤ 32) ∨ (kd = 3 ∧ 1 ≤ bs ∧ bs ≤ 31)) := by
  simp only [narrowB, plainB, wideB, moreB, only, may, wid, brf, wrf] at h
  simp +decide only [if_true, if_false, wi, Bool.and_eq_true, Bool.or_eq_true, Bool.not_eq_true', decide_eq_true_eq, decide_eq_false_iff_not, Bool.false_eq_true, false_and, and_false, or_false, false_or, true_or, or_true, true_and, and_true, not_true, not_false_iff, ne_eq] at h
  split at h <;> (try split at h) <;> simp only [Bool.and_eq_true, decide_eq_true_eq] at h <;> omega
theorem lin_24 {f rd rn rm ra im kd bs st cd rg : Int} (h : (if (24 : Int) < 17 then narrowB f 24 rd rn rm ra im kd bs st cd rg else wideB 24 rd rn rm ra im kd bs st cd rg) = true) : ((0 ≤ rd ∧ rd ≤ 12 ∨ rd = 14)) ∧ ((0 ≤ rn ∧ rn ≤ 12 ∨ rn = 14)) ∧ (rm = 0) ∧ (ra = 0) ∧ (0 ≤ im ∧ im ≤ 4095) ∧ (kd = 0) ∧ (bs = 0) ∧ (st = 0) ∧ (cd = 0) ∧ (rg = 0) := by
  simp only [narrowB, plainB, wideB, moreB, only, may, wid, brf, wrf] at h
  simp +decide only [if_true, if_false, wi, Bool.and_eq_true, Bool.or_eq_true, Bool.not_eq_true', decide_eq_true_eq, decide_eq_false_iff_not, Bool.false_eq_true, false_and, and_false, or_false, false_or, true_or, or_true, true_and, and_true, not_true, not_false_iff, ne_eq] at h
  omega
theorem lin_25 {f rd rn rm ra im kd bs st cd rg : Int} (h : (if (25 : Int) < 17 then narrowB f 25 rd rn rm ra im kd bs st cd rg else wideB 25 rd rn rm ra im kd bs st cd rg) = true) : ((0 ≤ rd ∧ rd ≤ 12 ∨ rd = 14)) ∧ (0 ≤ rn ∧ rn ≤ 14) ∧ (rm = 0) ∧ (ra = 0) ∧ (0 ≤ im ∧ im ≤ 4095) ∧ (kd = 0) ∧ (bs = 0) ∧ (st = 0) ∧ (cd = 0) ∧ (rg = 0) := by
  simp only [narrowB, plainB, wideB, moreB, only, may, wid, brf, wrf] at h
  simp +decide only [if_true, if_false, wi, Bool.and_eq_true, Bool.or_eq_true, Bool.not_eq_true', decide_eq_true_eq, decide_eq_false_iff_not, Bool.false_eq_true, false_and, and_false, or_false, false_or, true_or, or_true, true_and, and_true, not_true, not_false_iff, ne_eq] at h
  omega
theorem lin_26 {f rd rn rm ra im kd bs st cd rg : Int} (h : (if (26 : Int) < 17 then narrowB f 26 rd rn rm ra im kd bs st cd rg else wideB 26 rd rn rm ra im kd bs st cd rg) = true) : ((0 ≤ rd ∧ rd ≤ 12 ∨ rd = 14)) ∧ (0 ≤ rn ∧ rn ≤ 14) ∧ ((0 ≤ rm ∧ rm ≤ 12 ∨ rm = 14)) ∧ (ra = 0) ∧ (im = 0) ∧ (kd = 0) ∧ (0 ≤ bs ∧ bs ≤ 3) ∧ (st = 0) ∧ (cd = 0) ∧ (rg = 0) := by
  simp only [narrowB, plainB, wideB, moreB, only, may, wid, brf, wrf] at h
  simp +decide only [if_true, if_false, wi, Bool.and_eq_true, Bool.or_eq_true, Bool.not_eq_true', decide_eq_true_eq, decide_eq_false_iff_not, Bool.false_eq_true, false_and, and_false, or_false, false_or, true_or, or_true, true_and, and_true, not_true, not_false_iff, ne_eq] at h
  omega
theorem lin_27 {f rd rn rm ra im kd bs st cd rg : Int} (h : (if (27 : Int) < 17 then narrowB f 27 rd rn rm ra im kd bs st cd rg else wideB 27 rd rn rm ra im kd bs st cd rg) = true) : ((0 ≤ rd ∧ rd ≤ 12 ∨ rd = 14)) ∧ ((0 ≤ rn ∧ rn ≤ 12 ∨ rn = 14)) ∧ ((0 ≤ rm ∧ rm ≤ 12 ∨ rm = 14)) ∧ (ra = 0) ∧ (im = 0) ∧ (kd = 0) ∧ (bs = 0) ∧ (0 ≤ st ∧ st ≤ 1) ∧ (cd = 0) ∧ (rg = 0) := by
  simp only [narrowB, plainB, wideB, moreB, only, may, wid, brf, wrf] at h
  simp +decide only [if_true, if_false, wi, Bool.and_eq_true, Bool.or_eq_true, Bool.not_eq_true', decide_eq_true_eq, decide_eq_false_iff_not, Bool.false_eq_true, false_and, and_false, or_false, false_or, true_or, or_true, true_and, and_true, not_true, not_false_iff, ne_eq] at h
  omega
theorem lin_28 {f rd rn rm ra im kd bs st cd rg : Int} (h : (if (28 : Int) < 17 then narrowB f 28 rd rn rm ra im kd bs st cd rg else wideB 28 rd rn rm ra im kd bs st cd rg) = true) : ((0 ≤ rd ∧ rd ≤ 12 ∨ rd = 14)) ∧ ((0 ≤ rn ∧ rn ≤ 12 ∨ rn = 14)) ∧ ((0 ≤ rm ∧ rm ≤ 12 ∨ rm = 14)) ∧ (ra = 0) ∧ (im = 0) ∧ (kd = 0) ∧ (bs = 0) ∧ (st = 0) ∧ (cd = 0) ∧ (rg = 0) := by
  simp only [narrowB, plainB, wideB, moreB, only, may, wid, brf, wrf] at h
  simp +decide only [if_true, if_false, wi, Bool.and_eq_true, Bool.or_eq_true, Bool.not_eq_true', decide_eq_true_eq, decide_eq_false_iff_not, Bool.false_eq_true, false_and, and_false, or_false, false_or, true_or, or_true, true_and, and_true, not_true, not_false_iff, ne_eq] at h
  omega
theorem lin_29 {f rd rn rm ra im kd bs st cd rg : Int} (h : (if (29 : Int) < 17 then narrowB f 29 rd rn rm ra im kd bs st cd rg else wideB 29 rd rn rm ra im kd bs st cd rg) = true) : ((0 ≤ rd ∧ rd ≤ 12 ∨ rd = 14)) ∧ ((0 ≤ rn ∧ rn ≤ 12 ∨ rn = 14)) ∧ ((0 ≤ rm ∧ rm ≤ 12 ∨ rm = 14)) ∧ ((0 ≤ ra ∧ ra ≤ 12 ∨ ra = 14)) ∧ (im = 0) ∧ (kd = 0) ∧ (bs = 0) ∧ (st = 0) ∧ (cd = 0) ∧ (rg = 0) := by
  simp only [narrowB, plainB, wideB, moreB, only, may, wid, brf, wrf] at h
  simp +decide only [if_true, if_false, wi, Bool.and_eq_true, Bool.or_eq_true, Bool.not_eq_true', decide_eq_true_eq, decide_eq_false_iff_not, Bool.false_eq_true, false_and, and_false, or_false, false_or, true_or, or_true, true_and, and_true, not_true, not_false_iff, ne_eq] at h
  omega
theorem lin_30 {f rd rn rm ra im kd bs st cd rg : Int} (h : (if (30 : Int) < 17 then narrowB f 30 rd rn rm ra im kd bs st cd rg else wideB 30 rd rn rm ra im kd bs st cd rg) = true) : ((0 ≤ rd ∧ rd ≤ 12 ∨ rd = 14)) ∧ ((0 ≤ rn ∧ rn ≤ 12 ∨ rn = 14)) ∧ ((0 ≤ rm ∧ rm ≤ 12 ∨ rm = 14)) ∧ ((0 ≤ ra ∧ ra ≤ 12 ∨ ra = 14)) ∧ (im = 0) ∧ (kd = 0) ∧ (bs = 0) ∧ (st = 0) ∧ (cd = 0) ∧ (rg = 0) := by
  simp only [narrowB, plainB, wideB, moreB, only, may, wid, brf, wrf] at h
  simp +decide only [if_true, if_false, wi, Bool.and_eq_true, Bool.or_eq_true, Bool.not_eq_true', decide_eq_true_eq, decide_eq_false_iff_not, Bool.false_eq_true, false_and, and_false, or_false, false_or, true_or, or_true, true_and, and_true, not_true, not_false_iff, ne_eq] at h
  omega
theorem lin_31 {f rd rn rm ra im kd bs st cd rg : Int} (h : (if (31 : Int) < 17 then narrowB f 31 rd rn rm ra im kd bs st cd rg else wideB 31 rd rn rm ra im kd bs st cd rg) = true) : ((0 ≤ rd ∧ rd ≤ 12 ∨ rd = 14)) ∧ ((0 ≤ rn ∧ rn ≤ 12 ∨ rn = 14)) ∧ ((0 ≤ rm ∧ rm ≤ 12 ∨ rm = 14)) ∧ ((0 ≤ ra ∧ ra ≤ 12 ∨ ra = 14)) ∧ (im = 0) ∧ (kd = 0) ∧ (bs = 0) ∧ (st = 0) ∧ (cd = 0) ∧ (rg = 0) := by
  simp only [narrowB, plainB, wideB, moreB, only, may, wid, brf, wrf] at h
  simp +decide only [if_true, if_false, wi, Bool.and_eq_true, Bool.or_eq_true, Bool.not_eq_true', decide_eq_true_eq, decide_eq_false_iff_not, Bool.false_eq_true, false_and, and_false, or_false, false_or, true_or, or_true, true_and, and_true, not_true, not_false_iff, ne_eq] at h
  omega
theorem lin_32 {f rd rn rm ra im kd bs st cd rg : Int} (h : (if (32 : Int) < 17 then narrowB f 32 rd rn rm ra im kd bs st cd rg else wideB 32 rd rn rm ra im kd bs st cd rg) = true) : ((0 ≤ rd ∧ rd ≤ 12 ∨ rd = 14)) ∧ (rn = 0) ∧ ((0 ≤ rm ∧ rm ≤ 12 ∨ rm = 14)) ∧ (ra = 0) ∧ (im = 0) ∧ (kd = 0) ∧ (bs = 0) ∧ (st = 0) ∧ (cd = 0) ∧ (rg = 0) := by
  simp only [narrowB, plainB, wideB, moreB, only, may, wid, brf, wrf] at h
  simp +decide only [if_true, if_false, wi, Bool.and_eq_true, Bool.or_eq_true, Bool.not_eq_true', decide_eq_true_eq, decide_eq_false_iff_not, Bool.false_eq_true, false_and, and_false, or_false, false_or, true_or, or_true, true_and, and_true, not_true, not_false_iff, ne_eq] at h
  omega
theorem lin_33 {f rd rn rm ra im kd bs st cd rg : Int} (h : (if (33 : Int) < 17 then narrowB f 33 rd rn rm ra im kd bs st cd rg else wideB 33 rd rn rm ra im kd bs st cd rg) = true) : (rd = 0) ∧ (rn = 0) ∧ (rm = 0) ∧ (ra = 0) ∧ (-1048576 ≤ im ∧ im ≤ 1048574 ∧ im % 2 = 0) ∧ (kd = 0) ∧ (bs = 0) ∧ (st = 0) ∧ (0 ≤ cd ∧ cd ≤ 13) ∧ (rg = 0) := by
  simp only [narrowB, plainB, wideB, moreB, only, may, wid, brf, wrf] at h
  simp +decide only [if_true, if_false, wi, Bool.and_eq_true, Bool.or_eq_true, Bool.not_eq_true', decide_eq_true_eq, decide_eq_false_iff_not, Bool.false_eq_true, false_and, and_false, or_false, false_or, true_or, or_true, true_and, and_true, not_true, not_false_iff, ne_eq] at h
  omega
theorem lin_34 {f rd rn rm ra im kd bs st cd rg : Int} (h : (if (34 : Int) < 17 then narrowB f 34 rd rn rm ra im kd bs st cd rg else wideB 34 rd rn rm ra im kd bs st cd rg) = true) : (rd = 0) ∧ (rn = 0) ∧ (rm = 0) ∧ (ra = 0) ∧ (-16777216 ≤ im ∧ im ≤ 16777214 ∧ im % 2 = 0) ∧ (kd = 0) ∧ (bs = 0) ∧ (st = 0) ∧ (cd = 0) ∧ (rg = 0) := by
  simp only [narrowB, plainB, wideB, moreB, only, may, wid, brf, wrf] at h
  simp +decide only [if_true, if_false, wi, Bool.and_eq_true, Bool.or_eq_true, Bool.not_eq_true', decide_eq_true_eq, decide_eq_false_iff_not, Bool.false_eq_true, false_and, and_false, or_false, false_or, true_or, or_true, true_and, and_true, not_true, not_false_iff, ne_eq] at h
  omega

end Go.Proofs.YtpgcnbipnjcniaaDoor.Code
