/- CodeLin, CodeSum, CodeDecA, CodeDecB, CodeDecC, CodeDecD, CodeDec, joined. -/
import Derived.Test.YtegefbndpkbooaaDoorInstPre

/-! What a right instruction's fields may be, shape by shape, as plain bounds; its word as a sum; the fields out of a word. -/
set_option linter.unusedVariables false
set_option linter.unusedSimpArgs false
namespace Go.Proofs.YtegefbndpkbooaaDoor.Code
open Go.Proofs.YtegefbndpkbooaaDoor.Alu Go.Proofs.YtegefbndpkbooaaDoor.Imm Go.Proofs.YtegefbndpkbooaaDoor.Inst

theorem lin_1 {f rd rn rm ra im kd bs st cd rg : Int} (h : (if (1 : Int) < 17 then narrowB f 1 rd rn rm ra im kd bs st cd rg else wideB 1 rd rn rm ra im kd bs st cd rg) = true) : (0 ≤ rd ∧ rd ≤ 7) ∧ (rn = 0) ∧ (0 ≤ rm ∧ rm ≤ 7) ∧ (ra = 0) ∧ (0 ≤ im ∧ im ≤ 32 ∧ (f = 1 → im ≤ 31) ∧ (¬ f = 1 → 1 ≤ im)) ∧ (kd = 0) ∧ (bs = 0) ∧ (st = 0) ∧ (cd = 0) ∧ (rg = 0) := by
  simp only [narrowB, plainB, wideB, moreB, only, may, wid, brf, wrf] at h
  simp +decide only [if_true, if_false, wi, Bool.and_eq_true, Bool.or_eq_true, Bool.not_eq_true', decide_eq_true_eq, decide_eq_false_iff_not, Bool.false_eq_true, false_and, and_false, or_false, false_or, true_or, or_true, true_and, and_true, not_true, not_false_iff, ne_eq] at h
  omega
theorem lin_2 {f rd rn rm ra im kd bs st cd rg : Int} (h : (if (2 : Int) < 17 then narrowB f 2 rd rn rm ra im kd bs st cd rg else wideB 2 rd rn rm ra im kd bs st cd rg) = true) : (0 ≤ rd ∧ rd ≤ 7) ∧ (0 ≤ rn ∧ rn ≤ 7) ∧ (0 ≤ rm ∧ rm ≤ 7) ∧ (ra = 0) ∧ (im = 0) ∧ (kd = 0) ∧ (bs = 0) ∧ (st = 0) ∧ (cd = 0) ∧ (rg = 0) := by
  simp only [narrowB, plainB, wideB, moreB, only, may, wid, brf, wrf] at h
  simp +decide only [if_true, if_false, wi, Bool.and_eq_true, Bool.or_eq_true, Bool.not_eq_true', decide_eq_true_eq, decide_eq_false_iff_not, Bool.false_eq_true, false_and, and_false, or_false, false_or, true_or, or_true, true_and, and_true, not_true, not_false_iff, ne_eq] at h
  omega
theorem lin_3 {f rd rn rm ra im kd bs st cd rg : Int} (h : (if (3 : Int) < 17 then narrowB f 3 rd rn rm ra im kd bs st cd rg else wideB 3 rd rn rm ra im kd bs st cd rg) = true) : (0 ≤ rd ∧ rd ≤ 7) ∧ (0 ≤ rn ∧ rn ≤ 7) ∧ (rm = 0) ∧ (ra = 0) ∧ (0 ≤ im ∧ im ≤ 7) ∧ (kd = 0) ∧ (bs = 0) ∧ (st = 0) ∧ (cd = 0) ∧ (rg = 0) := by
  simp only [narrowB, plainB, wideB, moreB, only, may, wid, brf, wrf] at h
  simp +decide only [if_true, if_false, wi, Bool.and_eq_true, Bool.or_eq_true, Bool.not_eq_true', decide_eq_true_eq, decide_eq_false_iff_not, Bool.false_eq_true, false_and, and_false, or_false, false_or, true_or, or_true, true_and, and_true, not_true, not_false_iff, ne_eq] at h
  omega
theorem lin_4 {f rd rn rm ra im kd bs st cd rg : Int} (h : (if (4 : Int) < 17 then narrowB f 4 rd rn rm ra im kd bs st cd rg else wideB 4 rd rn rm ra im kd bs st cd rg) = true) : (0 ≤ rd ∧ rd ≤ 7) ∧ (rn = 0) ∧ (rm = 0) ∧ (ra = 0) ∧ (0 ≤ im ∧ im ≤ 255) ∧ (kd = 0) ∧ (bs = 0) ∧ (st = 0) ∧ (cd = 0) ∧ (rg = 0) := by
  simp only [narrowB, plainB, wideB, moreB, only, may, wid, brf, wrf] at h
  simp +decide only [if_true, if_false, wi, Bool.and_eq_true, Bool.or_eq_true, Bool.not_eq_true', decide_eq_true_eq, decide_eq_false_iff_not, Bool.false_eq_true, false_and, and_false, or_false, false_or, true_or, or_true, true_and, and_true, not_true, not_false_iff, ne_eq] at h
  omega
theorem lin_5 {f rd rn rm ra im kd bs st cd rg : Int} (h : (if (5 : Int) < 17 then narrowB f 5 rd rn rm ra im kd bs st cd rg else wideB 5 rd rn rm ra im kd bs st cd rg) = true) : (0 ≤ rd ∧ rd ≤ 7) ∧ (rn = 0) ∧ (0 ≤ rm ∧ rm ≤ 7) ∧ (ra = 0) ∧ (im = 0) ∧ (kd = 0) ∧ (bs = 0) ∧ (st = 0) ∧ (cd = 0) ∧ (rg = 0) := by
  simp only [narrowB, plainB, wideB, moreB, only, may, wid, brf, wrf] at h
  simp +decide only [if_true, if_false, wi, Bool.and_eq_true, Bool.or_eq_true, Bool.not_eq_true', decide_eq_true_eq, decide_eq_false_iff_not, Bool.false_eq_true, false_and, and_false, or_false, false_or, true_or, or_true, true_and, and_true, not_true, not_false_iff, ne_eq] at h
  omega
theorem lin_6 {f rd rn rm ra im kd bs st cd rg : Int} (h : (if (6 : Int) < 17 then narrowB f 6 rd rn rm ra im kd bs st cd rg else wideB 6 rd rn rm ra im kd bs st cd rg) = true) : (0 ≤ rd ∧ rd ≤ 14) ∧ (rn = 0) ∧ (0 ≤ rm ∧ rm ≤ 14) ∧ (ra = 0) ∧ (im = 0) ∧ (kd = 0) ∧ (bs = 0) ∧ (st = 0) ∧ (cd = 0) ∧ (rg = 0) := by
  simp only [narrowB, plainB, wideB, moreB, only, may, wid, brf, wrf] at h
  simp +decide only [if_true, if_false, wi, Bool.and_eq_true, Bool.or_eq_true, Bool.not_eq_true', decide_eq_true_eq, decide_eq_false_iff_not, Bool.false_eq_true, false_and, and_false, or_false, false_or, true_or, or_true, true_and, and_true, not_true, not_false_iff, ne_eq] at h
  omega
theorem lin_7 {f rd rn rm ra im kd bs st cd rg : Int} (h : (if (7 : Int) < 17 then narrowB f 7 rd rn rm ra im kd bs st cd rg else wideB 7 rd rn rm ra im kd bs st cd rg) = true) : (rd = 0) ∧ (rn = 0) ∧ (0 ≤ rm ∧ rm ≤ 14) ∧ (ra = 0) ∧ (im = 0) ∧ (kd = 0) ∧ (bs = 0) ∧ (st = 0) ∧ (cd = 0) ∧ (rg = 0) := by
  simp only [narrowB, plainB, wideB, moreB, only, may, wid, brf, wrf] at h
  simp +decide only [if_true, if_false, wi, Bool.and_eq_true, Bool.or_eq_true, Bool.not_eq_true', decide_eq_true_eq, decide_eq_false_iff_not, Bool.false_eq_true, false_and, and_false, or_false, false_or, true_or, or_true, true_and, and_true, not_true, not_false_iff, ne_eq] at h
  omega
theorem lin_8 {f rd rn rm ra im kd bs st cd rg : Int} (h : (if (8 : Int) < 17 then narrowB f 8 rd rn rm ra im kd bs st cd rg else wideB 8 rd rn rm ra im kd bs st cd rg) = true) : (0 ≤ rd ∧ rd ≤ 7) ∧ (rn = 0) ∧ (rm = 0) ∧ (ra = 0) ∧ (0 ≤ im ∧ im ≤ 1020 ∧ im % 4 = 0) ∧ (kd = 0) ∧ (bs = 0) ∧ (st = 0) ∧ (cd = 0) ∧ (rg = 0) := by
  simp only [narrowB, plainB, wideB, moreB, only, may, wid, brf, wrf] at h
  simp +decide only [if_true, if_false, wi, Bool.and_eq_true, Bool.or_eq_true, Bool.not_eq_true', decide_eq_true_eq, decide_eq_false_iff_not, Bool.false_eq_true, false_and, and_false, or_false, false_or, true_or, or_true, true_and, and_true, not_true, not_false_iff, ne_eq] at h
  omega
theorem lin_9 {f rd rn rm ra im kd bs st cd rg : Int} (h : (if (9 : Int) < 17 then narrowB f 9 rd rn rm ra im kd bs st cd rg else wideB 9 rd rn rm ra im kd bs st cd rg) = true) : (0 ≤ rd ∧ rd ≤ 7) ∧ (0 ≤ rn ∧ rn ≤ 7) ∧ (rm = 0) ∧ (ra = 0) ∧ (0 ≤ im ∧ im ≤ 124 ∧ im % 4 = 0) ∧ (kd = 0) ∧ (bs = 0) ∧ (st = 0) ∧ (cd = 0) ∧ (rg = 0) := by
  simp only [narrowB, plainB, wideB, moreB, only, may, wid, brf, wrf] at h
  simp +decide only [if_true, if_false, wi, Bool.and_eq_true, Bool.or_eq_true, Bool.not_eq_true', decide_eq_true_eq, decide_eq_false_iff_not, Bool.false_eq_true, false_and, and_false, or_false, false_or, true_or, or_true, true_and, and_true, not_true, not_false_iff, ne_eq] at h
  omega
theorem lin_10 {f rd rn rm ra im kd bs st cd rg : Int} (h : (if (10 : Int) < 17 then narrowB f 10 rd rn rm ra im kd bs st cd rg else wideB 10 rd rn rm ra im kd bs st cd rg) = true) : (rd = 0) ∧ (rn = 0) ∧ (rm = 0) ∧ (ra = 0) ∧ (0 ≤ im ∧ im ≤ 508 ∧ im % 4 = 0) ∧ (kd = 0) ∧ (bs = 0) ∧ (st = 0) ∧ (cd = 0) ∧ (rg = 0) := by
  simp only [narrowB, plainB, wideB, moreB, only, may, wid, brf, wrf] at h
  simp +decide only [if_true, if_false, wi, Bool.and_eq_true, Bool.or_eq_true, Bool.not_eq_true', decide_eq_true_eq, decide_eq_false_iff_not, Bool.false_eq_true, false_and, and_false, or_false, false_or, true_or, or_true, true_and, and_true, not_true, not_false_iff, ne_eq] at h
  omega
theorem lin_11 {f rd rn rm ra im kd bs st cd rg : Int} (h : (if (11 : Int) < 17 then narrowB f 11 rd rn rm ra im kd bs st cd rg else wideB 11 rd rn rm ra im kd bs st cd rg) = true) : (rd = 0) ∧ (rn = 0) ∧ (rm = 0) ∧ (ra = 0) ∧ (im = 0) ∧ (kd = 0) ∧ (bs = 0) ∧ (st = 0) ∧ (cd = 0) ∧ ((1 ≤ rg ∧ rg ≤ 255 ∨ 16384 ≤ rg ∧ rg ≤ 16639)) := by
  simp only [narrowB, plainB, wideB, moreB, only, may, wid, brf, wrf] at h
  simp +decide only [if_true, if_false, wi, Bool.and_eq_true, Bool.or_eq_true, Bool.not_eq_true', decide_eq_true_eq, decide_eq_false_iff_not, Bool.false_eq_true, false_and, and_false, or_false, false_or, true_or, or_true, true_and, and_true, not_true, not_false_iff, ne_eq] at h
  omega
theorem lin_12 {f rd rn rm ra im kd bs st cd rg : Int} (h : (if (12 : Int) < 17 then narrowB f 12 rd rn rm ra im kd bs st cd rg else wideB 12 rd rn rm ra im kd bs st cd rg) = true) : (rd = 0) ∧ (rn = 0) ∧ (rm = 0) ∧ (ra = 0) ∧ (im = 0) ∧ (kd = 0) ∧ (bs = 0) ∧ (st = 0) ∧ (cd = 0) ∧ ((1 ≤ rg ∧ rg ≤ 255 ∨ 32768 ≤ rg ∧ rg ≤ 33023)) := by
  simp only [narrowB, plainB, wideB, moreB, only, may, wid, brf, wrf] at h
  simp +decide only [if_true, if_false, wi, Bool.and_eq_true, Bool.or_eq_true, Bool.not_eq_true', decide_eq_true_eq, decide_eq_false_iff_not, Bool.false_eq_true, false_and, and_false, or_false, false_or, true_or, or_true, true_and, and_true, not_true, not_false_iff, ne_eq] at h
  omega
theorem lin_13 {f rd rn rm ra im kd bs st cd rg : Int} (h : (if (13 : Int) < 17 then narrowB f 13 rd rn rm ra im kd bs st cd rg else wideB 13 rd rn rm ra im kd bs st cd rg) = true) : (rd = 0) ∧ (rn = 0) ∧ (rm = 0) ∧ (ra = 0) ∧ (im = 0) ∧ (kd = 0) ∧ (bs = 0) ∧ (st = 0) ∧ (cd = 0) ∧ (rg = 0) := by
  simp only [narrowB, plainB, wideB, moreB, only, may, wid, brf, wrf] at h
  simp +decide only [if_true, if_false, wi, Bool.and_eq_true, Bool.or_eq_true, Bool.not_eq_true', decide_eq_true_eq, decide_eq_false_iff_not, Bool.false_eq_true, false_and, and_false, or_false, false_or, true_or, or_true, true_and, and_true, not_true, not_false_iff, ne_eq] at h
  omega
theorem lin_14 {f rd rn rm ra im kd bs st cd rg : Int} (h : (if (14 : Int) < 17 then narrowB f 14 rd rn rm ra im kd bs st cd rg else wideB 14 rd rn rm ra im kd bs st cd rg) = true) : (rd = 0) ∧ (rn = 0) ∧ (rm = 0) ∧ (ra = 0) ∧ (0 ≤ im ∧ im ≤ 255) ∧ (kd = 0) ∧ (bs = 0) ∧ (st = 0) ∧ (cd = 0) ∧ (rg = 0) := by
  simp only [narrowB, plainB, wideB, moreB, only, may, wid, brf, wrf] at h
  simp +decide only [if_true, if_false, wi, Bool.and_eq_true, Bool.or_eq_true, Bool.not_eq_true', decide_eq_true_eq, decide_eq_false_iff_not, Bool.false_eq_true, false_and, and_false, or_false, false_or, true_or, or_true, true_and, and_true, not_true, not_false_iff, ne_eq] at h
  omega
theorem lin_15 {f rd rn rm ra im kd bs st cd rg : Int} (h : (if (15 : Int) < 17 then narrowB f 15 rd rn rm ra im kd bs st cd rg else wideB 15 rd rn rm ra im kd bs st cd rg) = true) : (rd = 0) ∧ (rn = 0) ∧ (rm = 0) ∧ (ra = 0) ∧ (-256 ≤ im ∧ im ≤ 254 ∧ im % 2 = 0) ∧ (kd = 0) ∧ (bs = 0) ∧ (st = 0) ∧ (0 ≤ cd ∧ cd ≤ 13) ∧ (rg = 0) := by
  simp only [narrowB, plainB, wideB, moreB, only, may, wid, brf, wrf] at h
  simp +decide only [if_true, if_false, wi, Bool.and_eq_true, Bool.or_eq_true, Bool.not_eq_true', decide_eq_true_eq, decide_eq_false_iff_not, Bool.false_eq_true, false_and, and_false, or_false, false_or, true_or, or_true, true_and, and_true, not_true, not_false_iff, ne_eq] at h
  omega
theorem lin_16 {f rd rn rm ra im kd bs st cd rg : Int} (h : (if (16 : Int) < 17 then narrowB f 16 rd rn rm ra im kd bs st cd rg else wideB 16 rd rn rm ra im kd bs st cd rg) = true) : (rd = 0) ∧ (rn = 0) ∧ (rm = 0) ∧ (ra = 0) ∧ (-2048 ≤ im ∧ im ≤ 2046 ∧ im % 2 = 0) ∧ (kd = 0) ∧ (bs = 0) ∧ (st = 0) ∧ (cd = 0) ∧ (rg = 0) := by
  simp only [narrowB, plainB, wideB, moreB, only, may, wid, brf, wrf] at h
  simp +decide only [if_true, if_false, wi, Bool.and_eq_true, Bool.or_eq_true, Bool.not_eq_true', decide_eq_true_eq, decide_eq_false_iff_not, Bool.false_eq_true, false_and, and_false, or_false, false_or, true_or, or_true, true_and, and_true, not_true, not_false_iff, ne_eq] at h
  omega
theorem lin_17 {f rd rn rm ra im kd bs st cd rg : Int} (h : (if (17 : Int) < 17 then narrowB f 17 rd rn rm ra im kd bs st cd rg else wideB 17 rd rn rm ra im kd bs st cd rg) = true) : ((0 ≤ rd ∧ rd ≤ 12 ∨ rd = 14)) ∧ (rn = 0) ∧ (rm = 0) ∧ (ra = 0) ∧ (0 ≤ im ∧ im ≤ 65535) ∧ (kd = 0) ∧ (bs = 0) ∧ (st = 0) ∧ (cd = 0) ∧ (rg = 0) := by
  simp only [narrowB, plainB, wideB, moreB, only, may, wid, brf, wrf] at h
  simp +decide only [if_true, if_false, wi, Bool.and_eq_true, Bool.or_eq_true, Bool.not_eq_true', decide_eq_true_eq, decide_eq_false_iff_not, Bool.false_eq_true, false_and, and_false, or_false, false_or, true_or, or_true, true_and, and_true, not_true, not_false_iff, ne_eq] at h
  omega
theorem lin_18 {f rd rn rm ra im kd bs st cd rg : Int} (h : (if (18 : Int) < 17 then narrowB f 18 rd rn rm ra im kd bs st cd rg else wideB 18 rd rn rm ra im kd bs st cd rg) = true) : ((0 ≤ rd ∧ rd ≤ 12 ∨ rd = 14)) ∧ ((0 ≤ rn ∧ rn ≤ 12 ∨ rn = 14)) ∧ (rm = 0) ∧ (ra = 0) ∧ (0 ≤ im ∧ im ≤ 4095) ∧ (kd = 0) ∧ (bs = 0) ∧ (0 ≤ st ∧ st ≤ 1) ∧ (cd = 0) ∧ (rg = 0) := by
  simp only [narrowB, plainB, wideB, moreB, only, may, wid, brf, wrf] at h
  simp +decide only [if_true, if_false, wi, Bool.and_eq_true, Bool.or_eq_true, Bool.not_eq_true', decide_eq_true_eq, decide_eq_false_iff_not, Bool.false_eq_true, false_and, and_false, or_false, false_or, true_or, or_true, true_and, and_true, not_true, not_false_iff, ne_eq] at h
  omega
theorem lin_19 {f rd rn rm ra im kd bs st cd rg : Int} (h : (if (19 : Int) < 17 then narrowB f 19 rd rn rm ra im kd bs st cd rg else wideB 19 rd rn rm ra im kd bs st cd rg) = true) : ((0 ≤ rd ∧ rd ≤ 12 ∨ rd = 14)) ∧ (rn = 0) ∧ (rm = 0) ∧ (ra = 0) ∧ (0 ≤ im ∧ im ≤ 4095) ∧ (kd = 0) ∧ (bs = 0) ∧ (0 ≤ st ∧ st ≤ 1) ∧ (cd = 0) ∧ (rg = 0) := by
  simp only [narrowB, plainB, wideB, moreB, only, may, wid, brf, wrf] at h
  simp +decide only [if_true, if_false, wi, Bool.and_eq_true, Bool.or_eq_true, Bool.not_eq_true', decide_eq_true_eq, decide_eq_false_iff_not, Bool.false_eq_true, false_and, and_false, or_false, false_or, true_or, or_true, true_and, and_true, not_true, not_false_iff, ne_eq] at h
  omega
theorem lin_20 {f rd rn rm ra im kd bs st cd rg : Int} (h : (if (20 : Int) < 17 then narrowB f 20 rd rn rm ra im kd bs st cd rg else wideB 20 rd rn rm ra im kd bs st cd rg) = true) : (rd = 0) ∧ ((0 ≤ rn ∧ rn ≤ 12 ∨ rn = 14)) ∧ (rm = 0) ∧ (ra = 0) ∧ (0 ≤ im ∧ im ≤ 4095) ∧ (kd = 0) ∧ (bs = 0) ∧ (st = 0) ∧ (cd = 0) ∧ (rg = 0) := by
  simp only [narrowB, plainB, wideB, moreB, only, may, wid, brf, wrf] at h
  simp +decide only [if_true, if_false, wi, Bool.and_eq_true, Bool.or_eq_true, Bool.not_eq_true', decide_eq_true_eq, decide_eq_false_iff_not, Bool.false_eq_true, false_and, and_false, or_false, false_or, true_or, or_true, true_and, and_true, not_true, not_false_iff, ne_eq] at h
  omega
theorem lin_21 {f rd rn rm ra im kd bs st cd rg : Int} (h : (if (21 : Int) < 17 then narrowB f 21 rd rn rm ra im kd bs st cd rg else wideB 21 rd rn rm ra im kd bs st cd rg) = true) : ((0 ≤ rd ∧ rd ≤ 12 ∨ rd = 14)) ∧ ((0 ≤ rn ∧ rn ≤ 12 ∨ rn = 14)) ∧ ((0 ≤ rm ∧ rm ≤ 12 ∨ rm = 14)) ∧ (ra = 0) ∧ (im = 0) ∧ (0 ≤ st ∧ st ≤ 1) ∧ (cd = 0) ∧ (rg = 0) ∧ ((kd = 0 ∧ 0 ≤ bs ∧ bs ≤ 31) ∨ ((kd = 1 ∨ kd = 2) ∧ 1 ≤ bs ∧ bs ≤ 32) ∨ (kd = 3 ∧ 1 ≤ bs ∧ bs ≤ 31)) := by
  simp only [narrowB, plainB, wideB, moreB, only, may, wid, brf, wrf] at h
  simp +decide only [if_true, if_false, wi, Bool.and_eq_true, Bool.or_eq_true, Bool.not_eq_true', decide_eq_true_eq, decide_eq_false_iff_not, Bool.false_eq_true, false_and, and_false, or_false, false_or, true_or, or_true, true_and, and_true, not_true, not_false_iff, ne_eq] at h
  split at h <;> (try split at h) <;> simp only [Bool.and_eq_true, decide_eq_true_eq] at h <;> omega
theorem lin_22 {f rd rn rm ra im kd bs st cd rg : Int} (h : (if (22 : Int) < 17 then narrowB f 22 rd rn rm ra im kd bs st cd rg else wideB 22 rd rn rm ra im kd bs st cd rg) = true) : ((0 ≤ rd ∧ rd ≤ 12 ∨ rd = 14)) ∧ (rn = 0) ∧ ((0 ≤ rm ∧ rm ≤ 12 ∨ rm = 14)) ∧ (ra = 0) ∧ (im = 0) ∧ (0 ≤ st ∧ st ≤ 1) ∧ (cd = 0) ∧ (rg = 0) ∧ ((kd = 0 ∧ 0 ≤ bs ∧ bs ≤ 31) ∨ ((kd = 1 ∨ kd = 2) ∧ 1 ≤ bs ∧ bs ≤ 32) ∨ (kd = 3 ∧ 1 ≤ bs ∧ bs ≤ 31)) := by
  simp only [narrowB, plainB, wideB, moreB, only, may, wid, brf, wrf] at h
  simp +decide only [if_true, if_false, wi, Bool.and_eq_true, Bool.or_eq_true, Bool.not_eq_true', decide_eq_true_eq, decide_eq_false_iff_not, Bool.false_eq_true, false_and, and_false, or_false, false_or, true_or, or_true, true_and, and_true, not_true, not_false_iff, ne_eq] at h
  split at h <;> (try split at h) <;> simp only [Bool.and_eq_true, decide_eq_true_eq] at h <;> omega
theorem lin_23 {f rd rn rm ra im kd bs st cd rg : Int} (h : (if (23 : Int) < 17 then narrowB f 23 rd rn rm ra im kd bs st cd rg else wideB 23 rd rn rm ra im kd bs st cd rg) = true) : (rd = 0) ∧ ((0 ≤ rn ∧ rn ≤ 12 ∨ rn = 14)) ∧ ((0 ≤ rm ∧ rm ≤ 12 ∨ rm = 14)) ∧ (ra = 0) ∧ (im = 0) ∧ (st = 0) ∧ (cd = 0) ∧ (rg = 0) ∧ ((kd = 0 ∧ 0 ≤ bs ∧ bs ≤ 31) ∨ ((kd = 1 ∨ kd = 2) ∧ 1 ≤ bs ∧ bs ≤ 32) ∨ (kd = 3 ∧ 1 ≤ bs ∧ bs ≤ 31)) := by
  simp only [narrowB, plainB, wideB, moreB, only, may, wid, brf, wrf] at h
  simp +decide only [if_true, if_false, wi, Bool.and_eq_true, Bool.or_eq_true, Bool.not_eq_true', decide_eq_true_eq, decide_eq_false_iff_not, Bool.false_eq_true, false_and, and_false, or_false, false_or, true_or, or_true, true_and, and_true, not_true, not_false_iff, ne_eq] at h
  split at h <;> (try split at h) <;> simp only [Bool.and_eq_true, decide_eq_true_eq] at h <;> omega
theorem lin_24 {f rd rn rm ra im kd bs st cd rg : Int} (h : (if (24 : Int) < 17 then narrowB f 24 rd rn rm ra im kd bs st cd rg else wideB 24 rd rn rm ra im kd bs st cd rg) = true) : ((0 ≤ rd ∧ rd ≤ 12 ∨ rd = 14)) ∧ ((0 ≤ rn ∧ rn ≤ 12 ∨ rn = 14)) ∧ (rm = 0) ∧ (ra = 0) ∧ (0 ≤ im ∧ im ≤ 4095) ∧ (kd = 0) ∧ (bs = 0) ∧ (st = 0) ∧ (cd = 0) ∧ (rg = 0) := by
  simp only [narrowB, plainB, wideB, moreB, only, may, wid, brf, wrf] at h
  simp +decide only [if_true, if_false, wi, Bool.and_eq_true, Bool.or_eq_true, Bool.not_eq_true', decide_eq_true_eq, decide_eq_false_iff_not, Bool.false_eq_true, false_and, and_false, or_false, false_or, true_or, or_true, true_and, and_true, not_true, not_false_iff, ne_eq] at h
  omega
theorem lin_25 {f rd rn rm ra im kd bs st cd rg : Int} (h : (if (25 : Int) < 17 then narrowB f 25 rd rn rm ra im kd bs st cd rg else wideB 25 rd rn rm ra im kd bs st cd rg) = true) : ((0 ≤ rd ∧ rd ≤ 12 ∨ rd = 14)) ∧ (0 ≤ rn ∧ rn ≤ 14) ∧ (rm = 0) ∧ (ra = 0) ∧ (0 ≤ im ∧ im ≤ 4095) ∧ (kd = 0) ∧ (bs = 0) ∧ (st = 0) ∧ (cd = 0) ∧ (rg = 0) := by
  simp only [narrowB, plainB, wideB, moreB, only, may, wid, brf, wrf] at h
  simp +decide only [if_true, if_false, wi, Bool.and_eq_true, Bool.or_eq_true, Bool.not_eq_true', decide_eq_true_eq, decide_eq_false_iff_not, Bool.false_eq_true, false_and, and_false, or_false, false_or, true_or, or_true, true_and, and_true, not_true, not_false_iff, ne_eq] at h
  omega
theorem lin_26 {f rd rn rm ra im kd bs st cd rg : Int} (h : (if (26 : Int) < 17 then narrowB f 26 rd rn rm ra im kd bs st cd rg else wideB 26 rd rn rm ra im kd bs st cd rg) = true) : ((0 ≤ rd ∧ rd ≤ 12 ∨ rd = 14)) ∧ (0 ≤ rn ∧ rn ≤ 14) ∧ ((0 ≤ rm ∧ rm ≤ 12 ∨ rm = 14)) ∧ (ra = 0) ∧ (im = 0) ∧ (kd = 0) ∧ (0 ≤ bs ∧ bs ≤ 3) ∧ (st = 0) ∧ (cd = 0) ∧ (rg = 0) := by
  simp only [narrowB, plainB, wideB, moreB, only, may, wid, brf, wrf] at h
  simp +decide only [if_true, if_false, wi, Bool.and_eq_true, Bool.or_eq_true, Bool.not_eq_true', decide_eq_true_eq, decide_eq_false_iff_not, Bool.false_eq_true, false_and, and_false, or_false, false_or, true_or, or_true, true_and, and_true, not_true, not_false_iff, ne_eq] at h
  omega
theorem lin_27 {f rd rn rm ra im kd bs st cd rg : Int} (h : (if (27 : Int) < 17 then narrowB f 27 rd rn rm ra im kd bs st cd rg else wideB 27 rd rn rm ra im kd bs st cd rg) = true) : ((0 ≤ rd ∧ rd ≤ 12 ∨ rd = 14)) ∧ ((0 ≤ rn ∧ rn ≤ 12 ∨ rn = 14)) ∧ ((0 ≤ rm ∧ rm ≤ 12 ∨ rm = 14)) ∧ (ra = 0) ∧ (im = 0) ∧ (kd = 0) ∧ (bs = 0) ∧ (0 ≤ st ∧ st ≤ 1) ∧ (cd = 0) ∧ (rg = 0) := by
  simp only [narrowB, plainB, wideB, moreB, only, may, wid, brf, wrf] at h
  simp +decide only [if_true, if_false, wi, Bool.and_eq_true, Bool.or_eq_true, Bool.not_eq_true', decide_eq_true_eq, decide_eq_false_iff_not, Bool.false_eq_true, false_and, and_false, or_false, false_or, true_or, or_true, true_and, and_true, not_true, not_false_iff, ne_eq] at h
  omega
theorem lin_28 {f rd rn rm ra im kd bs st cd rg : Int} (h : (if (28 : Int) < 17 then narrowB f 28 rd rn rm ra im kd bs st cd rg else wideB 28 rd rn rm ra im kd bs st cd rg) = true) : ((0 ≤ rd ∧ rd ≤ 12 ∨ rd = 14)) ∧ ((0 ≤ rn ∧ rn ≤ 12 ∨ rn = 14)) ∧ ((0 ≤ rm ∧ rm ≤ 12 ∨ rm = 14)) ∧ (ra = 0) ∧ (im = 0) ∧ (kd = 0) ∧ (bs = 0) ∧ (st = 0) ∧ (cd = 0) ∧ (rg = 0) := by
  simp only [narrowB, plainB, wideB, moreB, only, may, wid, brf, wrf] at h
  simp +decide only [if_true, if_false, wi, Bool.and_eq_true, Bool.or_eq_true, Bool.not_eq_true', decide_eq_true_eq, decide_eq_false_iff_not, Bool.false_eq_true, false_and, and_false, or_false, false_or, true_or, or_true, true_and, and_true, not_true, not_false_iff, ne_eq] at h
  omega
theorem lin_29 {f rd rn rm ra im kd bs st cd rg : Int} (h : (if (29 : Int) < 17 then narrowB f 29 rd rn rm ra im kd bs st cd rg else wideB 29 rd rn rm ra im kd bs st cd rg) = true) : ((0 ≤ rd ∧ rd ≤ 12 ∨ rd = 14)) ∧ ((0 ≤ rn ∧ rn ≤ 12 ∨ rn = 14)) ∧ ((0 ≤ rm ∧ rm ≤ 12 ∨ rm = 14)) ∧ ((0 ≤ ra ∧ ra ≤ 12 ∨ ra = 14)) ∧ (im = 0) ∧ (kd = 0) ∧ (bs = 0) ∧ (st = 0) ∧ (cd = 0) ∧ (rg = 0) := by
  simp only [narrowB, plainB, wideB, moreB, only, may, wid, brf, wrf] at h
  simp +decide only [if_true, if_false, wi, Bool.and_eq_true, Bool.or_eq_true, Bool.not_eq_true', decide_eq_true_eq, decide_eq_false_iff_not, Bool.false_eq_true, false_and, and_false, or_false, false_or, true_or, or_true, true_and, and_true, not_true, not_false_iff, ne_eq] at h
  omega
theorem lin_30 {f rd rn rm ra im kd bs st cd rg : Int} (h : (if (30 : Int) < 17 then narrowB f 30 rd rn rm ra im kd bs st cd rg else wideB 30 rd rn rm ra im kd bs st cd rg) = true) : ((0 ≤ rd ∧ rd ≤ 12 ∨ rd = 14)) ∧ ((0 ≤ rn ∧ rn ≤ 12 ∨ rn = 14)) ∧ ((0 ≤ rm ∧ rm ≤ 12 ∨ rm = 14)) ∧ ((0 ≤ ra ∧ ra ≤ 12 ∨ ra = 14)) ∧ (im = 0) ∧ (kd = 0) ∧ (bs = 0) ∧ (st = 0) ∧ (cd = 0) ∧ (rg = 0) := by
  simp only [narrowB, plainB, wideB, moreB, only, may, wid, brf, wrf] at h
  simp +decide only [if_true, if_false, wi, Bool.and_eq_true, Bool.or_eq_true, Bool.not_eq_true', decide_eq_true_eq, decide_eq_false_iff_not, Bool.false_eq_true, false_and, and_false, or_false, false_or, true_or, or_true, true_and, and_true, not_true, not_false_iff, ne_eq] at h
  omega
theorem lin_31 {f rd rn rm ra im kd bs st cd rg : Int} (h : (if (31 : Int) < 17 then narrowB f 31 rd rn rm ra im kd bs st cd rg else wideB 31 rd rn rm ra im kd bs st cd rg) = true) : ((0 ≤ rd ∧ rd ≤ 12 ∨ rd = 14)) ∧ ((0 ≤ rn ∧ rn ≤ 12 ∨ rn = 14)) ∧ ((0 ≤ rm ∧ rm ≤ 12 ∨ rm = 14)) ∧ ((0 ≤ ra ∧ ra ≤ 12 ∨ ra = 14)) ∧ (im = 0) ∧ (kd = 0) ∧ (bs = 0) ∧ (st = 0) ∧ (cd = 0) ∧ (rg = 0) := by
  simp only [narrowB, plainB, wideB, moreB, only, may, wid, brf, wrf] at h
  simp +decide only [if_true, if_false, wi, Bool.and_eq_true, Bool.or_eq_true, Bool.not_eq_true', decide_eq_true_eq, decide_eq_false_iff_not, Bool.false_eq_true, false_and, and_false, or_false, false_or, true_or, or_true, true_and, and_true, not_true, not_false_iff, ne_eq] at h
  omega
theorem lin_32 {f rd rn rm ra im kd bs st cd rg : Int} (h : (if (32 : Int) < 17 then narrowB f 32 rd rn rm ra im kd bs st cd rg else wideB 32 rd rn rm ra im kd bs st cd rg) = true) : ((0 ≤ rd ∧ rd ≤ 12 ∨ rd = 14)) ∧ (rn = 0) ∧ ((0 ≤ rm ∧ rm ≤ 12 ∨ rm = 14)) ∧ (ra = 0) ∧ (im = 0) ∧ (kd = 0) ∧ (bs = 0) ∧ (st = 0) ∧ (cd = 0) ∧ (rg = 0) := by
  simp only [narrowB, plainB, wideB, moreB, only, may, wid, brf, wrf] at h
  simp +decide only [if_true, if_false, wi, Bool.and_eq_true, Bool.or_eq_true, Bool.not_eq_true', decide_eq_true_eq, decide_eq_false_iff_not, Bool.false_eq_true, false_and, and_false, or_false, false_or, true_or, or_true, true_and, and_true, not_true, not_false_iff, ne_eq] at h
  omega
theorem lin_33 {f rd rn rm ra im kd bs st cd rg : Int} (h : (if (33 : Int) < 17 then narrowB f 33 rd rn rm ra im kd bs st cd rg else wideB 33 rd rn rm ra im kd bs st cd rg) = true) : (rd = 0) ∧ (rn = 0) ∧ (rm = 0) ∧ (ra = 0) ∧ (-1048576 ≤ im ∧ im ≤ 1048574 ∧ im % 2 = 0) ∧ (kd = 0) ∧ (bs = 0) ∧ (st = 0) ∧ (0 ≤ cd ∧ cd ≤ 13) ∧ (rg = 0) := by
  simp only [narrowB, plainB, wideB, moreB, only, may, wid, brf, wrf] at h
  simp +decide only [if_true, if_false, wi, Bool.and_eq_true, Bool.or_eq_true, Bool.not_eq_true', decide_eq_true_eq, decide_eq_false_iff_not, Bool.false_eq_true, false_and, and_false, or_false, false_or, true_or, or_true, true_and, and_true, not_true, not_false_iff, ne_eq] at h
  omega
theorem lin_34 {f rd rn rm ra im kd bs st cd rg : Int} (h : (if (34 : Int) < 17 then narrowB f 34 rd rn rm ra im kd bs st cd rg else wideB 34 rd rn rm ra im kd bs st cd rg) = true) : (rd = 0) ∧ (rn = 0) ∧ (rm = 0) ∧ (ra = 0) ∧ (-16777216 ≤ im ∧ im ≤ 16777214 ∧ im % 2 = 0) ∧ (kd = 0) ∧ (bs = 0) ∧ (st = 0) ∧ (cd = 0) ∧ (rg = 0) := by
  simp only [narrowB, plainB, wideB, moreB, only, may, wid, brf, wrf] at h
  simp +decide only [if_true, if_false, wi, Bool.and_eq_true, Bool.or_eq_true, Bool.not_eq_true', decide_eq_true_eq, decide_eq_false_iff_not, Bool.false_eq_true, false_and, and_false, or_false, false_or, true_or, or_true, true_and, and_true, not_true, not_false_iff, ne_eq] at h
  omega

end Go.Proofs.YtegefbndpkbooaaDoor.Code

/-! The word of a right instruction as a sum; its form out of its word. -/
set_option linter.unusedVariables false
set_option linter.unusedSimpArgs false
namespace Go.Proofs.YtegefbndpkbooaaDoor.Code
open Go.Proofs.YtegefbndpkbooaaDoor.Alu Go.Proofs.YtegefbndpkbooaaDoor.Imm Go.Proofs.YtegefbndpkbooaaDoor.Inst

/-- The bits 23 and 22 of how far a wide jump goes, as they stand in its word. -/
def j1 (n : Int) : Int := if n / 8388608 % 2 = n / 16777216 % 2 then 1 else 0
def j2 (n : Int) : Int := if n / 4194304 % 2 = n / 16777216 % 2 then 1 else 0
theorem j1_bd (n : Int) : 0 ≤ j1 n ∧ j1 n ≤ 1 := by unfold j1; split <;> omega
theorem j2_bd (n : Int) : 0 ≤ j2 n ∧ j2 n ≤ 1 := by unfold j2; split <;> omega

/-- What is added to a form's bits, by its shape. -/
def add (s rd rn rm ra im kd bs st cd rg : Int) : Int :=
  if s = 1 then im % 32 * 64 + rm * 8 + rd
  else if s = 2 then rm * 64 + rn * 8 + rd
  else if s = 3 then im * 64 + rn * 8 + rd
  else if s = 4 then rd * 256 + im
  else if s = 5 then rm * 8 + rd
  else if s = 6 then rd / 8 * 128 + rm * 8 + rd % 8
  else if s = 7 then rm * 8
  else if s = 8 then rd * 256 + im / 4
  else if s = 9 then im / 4 * 64 + rn * 8 + rd
  else if s = 10 then im / 4
  else if s = 11 then rg / 16384 % 2 * 256 + rg % 256
  else if s = 12 then rg / 32768 % 2 * 256 + rg % 256
  else if s = 13 then 0
  else if s = 14 then im
  else if s = 15 then cd * 256 + im / 2 % 256
  else if s = 16 then im / 2 % 2048
  else if s = 17 then im / 2048 % 2 * 67108864 + im / 4096 * 65536 + im / 256 % 8 * 4096 + rd * 256 + im % 256
  else if s = 18 ∨ s = 19 ∨ s = 20 ∨ s = 24 then im / 2048 * 67108864 + st * 1048576 + rn * 65536 + im / 256 % 8 * 4096 + rd * 256 + im % 256
  else if s = 21 ∨ s = 22 ∨ s = 23 then st * 1048576 + rn * 65536 + bs / 4 % 8 * 4096 + rd * 256 + bs % 4 * 64 + kd * 16 + rm
  else if s = 25 then rn * 65536 + rd * 4096 + im
  else if s = 26 then rn * 65536 + rd * 4096 + bs * 16 + rm
  else if s = 27 ∨ s = 28 ∨ s = 29 ∨ s = 30 then st * 1048576 + rn * 65536 + ra * 4096 + rd * 256 + rm
  else if s = 31 then rn * 65536 + rd * 4096 + ra * 256 + rm
  else if s = 32 then rm * 65536 + rd * 256 + rm
  else if s = 33 then im / 1048576 % 2 * 67108864 + cd * 4194304 + im / 4096 % 64 * 65536 + im / 262144 % 2 * 8192 + im / 524288 % 2 * 2048 + im / 2 % 2048
  else if s = 34 then im / 16777216 % 2 * 67108864 + im / 4096 % 1024 * 65536 + j1 im * 8192 + j2 im * 2048 + im / 2 % 2048
  else 0
/-- The word of an instruction. -/
def wd (f rd rn rm ra im kd bs st cd rg : Int) : Int := bts f + add (shp f) rd rn rm ra im kd bs st cd rg

/-- The narrow form that a word can be of. -/
def decN (w : Int) : Int :=
  if w / 2048 ≤ 2 then w / 2048 + 1
  else if w / 2048 = 3 then 4 + w / 512 % 4
  else if w / 2048 ≤ 7 then w / 2048 + 4
  else if w / 1024 = 16 then 12 + w / 64 % 16
  else if w / 1024 = 17 then 28 + w / 256 % 4
  else if w / 2048 = 9 then 32
  else if w / 2048 = 10 then 33
  else if w / 2048 = 11 then 34
  else if w / 2048 = 12 then 35
  else if w / 2048 = 13 then 36
  else if w / 2048 = 18 then 37
  else if w / 2048 = 19 then 38
  else if w / 2048 = 21 then 39
  else if w / 256 = 176 then 40 + w / 128 % 2
  else if w / 512 = 90 then 42
  else if w / 512 = 94 then 43
  else if w / 256 = 191 then 44
  else if w / 256 = 190 then 45
  else if w / 4096 = 13 then 46
  else 47
def decO (o rd rn d : Int) : Int :=
  d + (if o = 0 then (if rd = 15 then 62 else 50) else if o = 1 then 51 else if o = 2 then (if rn = 15 then 60 else 52) else if o = 3 then (if rn = 15 then 61 else 53)
    else if o = 4 then (if rd = 15 then 63 else 54) else if o = 8 then (if rd = 15 then 64 else 55) else if o = 10 then 56 else if o = 11 then 57 else if o = 13 then (if rd = 15 then 65 else 58) else 59)
/-- The wide form that a word can be of, by its upper and its lower half. -/
def decHL (h l : Int) : Int :=
  if h / 2048 = 29 then decO (h / 32 % 16) (l / 256 % 16) (h % 16) 16
  else if h / 2048 = 30 then
    (if l / 32768 = 1 then (if l / 4096 % 2 = 1 then 100 else 99)
     else if h / 512 % 2 = 0 then decO (h / 32 % 16) (l / 256 % 16) (h % 16) 0
     else if h / 16 % 32 = 4 then 48 else if h / 16 % 32 = 12 then 49 else if h / 16 % 32 = 0 then 82 else 83)
  else if h / 16 = 3980 then 84 else if h / 16 = 3981 then 85 else if h / 16 = 3972 then 86 else if h / 16 = 3973 then 87
  else if h / 32 = 2000 then 88 else if h / 32 = 2001 then 89 else if h / 32 = 2002 then 90 else if h / 32 = 2003 then 91
  else if h / 16 = 4016 then (if l / 16 % 16 = 1 then 94 else if l / 4096 % 16 = 15 then 92 else 93)
  else if h / 16 = 4026 then 95 else if h / 16 = 4030 then 96 else if h / 16 = 4027 then 97 else 98
def decW (w : Int) : Int := decHL (w / 65536) (w % 65536)

theorem hl_imm {h l o r n : Int} (h1 : h / 2048 = 30) (h2 : l / 32768 = 0) (h3 : h / 512 % 2 = 0) (h4 : h / 32 % 16 = o) (h5 : l / 256 % 16 = r) (h6 : h % 16 = n) : decHL h l = decO o r n 0 := by
  unfold decHL; rw [if_neg (by omega), if_pos h1, if_neg (by omega), if_pos h3, h4, h5, h6]
theorem hl_shift {h l o r n : Int} (h1 : h / 2048 = 29) (h4 : h / 32 % 16 = o) (h5 : l / 256 % 16 = r) (h6 : h % 16 = n) : decHL h l = decO o r n 16 := by
  unfold decHL; rw [if_pos h1, h4, h5, h6]
theorem hl_plain {h l c : Int} (h1 : h / 2048 = 30) (h2 : l / 32768 = 0) (h3 : h / 512 % 2 = 1) (h4 : h / 16 % 32 = c) : decHL h l = if c = 4 then 48 else if c = 12 then 49 else if c = 0 then 82 else 83 := by
  unfold decHL; rw [if_neg (by omega), if_pos h1, if_neg (by omega), if_neg (by omega), h4]
theorem hl_jump {h l c : Int} (h1 : h / 2048 = 30) (h2 : l / 32768 = 1) (h3 : l / 4096 % 2 = c) : decHL h l = if c = 1 then 100 else 99 := by
  unfold decHL; rw [if_neg (by omega), if_pos h1, if_pos h2, h3]
theorem hl_more {h l c d e g : Int} (h1 : h / 2048 = 31) (h2 : h / 16 = c) (h3 : h / 32 = d) (h4 : l / 16 % 16 = e) (h5 : l / 4096 % 16 = g) : decHL h l =
    if c = 3980 then 84 else if c = 3981 then 85 else if c = 3972 then 86 else if c = 3973 then 87 else if d = 2000 then 88 else if d = 2001 then 89 else if d = 2002 then 90 else if d = 2003 then 91
    else if c = 4016 then (if e = 1 then 94 else if g = 15 then 92 else 93) else if c = 4026 then 95 else if c = 4030 then 96 else if c = 4027 then 97 else 98 := by
  unfold decHL; rw [if_neg (by omega), if_neg (by omega), h2, h3, h4, h5]

theorem n_shift {w c : Int} (h : w / 2048 = c) (h0 : c ≤ 2) : decN w = c + 1 := by
  unfold decN; rw [if_pos (by omega), h]
theorem n_three {w d : Int} (h : w / 2048 = 3) (h0 : w / 512 % 4 = d) : decN w = 4 + d := by
  unfold decN; rw [if_neg (by omega), if_pos h, h0]
theorem n_byte {w c : Int} (h : w / 2048 = c) (h0 : 4 ≤ c) (h1 : c ≤ 7) : decN w = c + 4 := by
  unfold decN; rw [if_neg (by omega), if_neg (by omega), if_pos (by omega), h]
theorem n_two {w d : Int} (h : w / 1024 = 16) (h0 : w / 64 % 16 = d) : decN w = 12 + d := by
  unfold decN; rw [if_neg (by omega), if_neg (by omega), if_neg (by omega), if_pos h, h0]
theorem n_high {w d : Int} (h : w / 1024 = 17) (h0 : w / 256 % 4 = d) : decN w = 28 + d := by
  unfold decN; rw [if_neg (by omega), if_neg (by omega), if_neg (by omega), if_neg (by omega), if_pos h, h0]
theorem n_32 {w : Int} (h : w / 2048 = 9) : decN w = 32 := by
  unfold decN; rw [if_neg (by omega), if_neg (by omega), if_neg (by omega), if_neg (by omega), if_neg (by omega), if_pos h]
theorem n_33 {w : Int} (h : w / 2048 = 10) : decN w = 33 := by
  unfold decN; rw [if_neg (by omega), if_neg (by omega), if_neg (by omega), if_neg (by omega), if_neg (by omega), if_neg (by omega), if_pos h]
theorem n_34 {w : Int} (h : w / 2048 = 11) : decN w = 34 := by
  unfold decN; rw [if_neg (by omega), if_neg (by omega), if_neg (by omega), if_neg (by omega), if_neg (by omega), if_neg (by omega), if_neg (by omega), if_pos h]
theorem n_35 {w : Int} (h : w / 2048 = 12) : decN w = 35 := by
  unfold decN; rw [if_neg (by omega), if_neg (by omega), if_neg (by omega), if_neg (by omega), if_neg (by omega), if_neg (by omega), if_neg (by omega), if_neg (by omega), if_pos h]
theorem n_36 {w : Int} (h : w / 2048 = 13) : decN w = 36 := by
  unfold decN; rw [if_neg (by omega), if_neg (by omega), if_neg (by omega), if_neg (by omega), if_neg (by omega), if_neg (by omega), if_neg (by omega), if_neg (by omega), if_neg (by omega), if_pos h]
theorem n_37 {w : Int} (h : w / 2048 = 18) : decN w = 37 := by
  unfold decN; rw [if_neg (by omega), if_neg (by omega), if_neg (by omega), if_neg (by omega), if_neg (by omega), if_neg (by omega), if_neg (by omega), if_neg (by omega), if_neg (by omega), if_neg (by omega), if_pos h]
theorem n_38 {w : Int} (h : w / 2048 = 19) : decN w = 38 := by
  unfold decN; rw [if_neg (by omega), if_neg (by omega), if_neg (by omega), if_neg (by omega), if_neg (by omega), if_neg (by omega), if_neg (by omega), if_neg (by omega), if_neg (by omega), if_neg (by omega), if_neg (by omega), if_pos h]
theorem n_39 {w : Int} (h : w / 2048 = 21) : decN w = 39 := by
  unfold decN; rw [if_neg (by omega), if_neg (by omega), if_neg (by omega), if_neg (by omega), if_neg (by omega), if_neg (by omega), if_neg (by omega), if_neg (by omega), if_neg (by omega), if_neg (by omega), if_neg (by omega), if_neg (by omega), if_pos h]
theorem n_inc {w d : Int} (h : w / 256 = 176) (h0 : w / 128 % 2 = d) : decN w = 40 + d := by
  unfold decN; rw [if_neg (by omega), if_neg (by omega), if_neg (by omega), if_neg (by omega), if_neg (by omega), if_neg (by omega), if_neg (by omega), if_neg (by omega), if_neg (by omega), if_neg (by omega), if_neg (by omega), if_neg (by omega), if_neg (by omega), if_pos h, h0]
theorem n_42 {w : Int} (h : w / 512 = 90) : decN w = 42 := by
  unfold decN; rw [if_neg (by omega), if_neg (by omega), if_neg (by omega), if_neg (by omega), if_neg (by omega), if_neg (by omega), if_neg (by omega), if_neg (by omega), if_neg (by omega), if_neg (by omega), if_neg (by omega), if_neg (by omega), if_neg (by omega), if_neg (by omega), if_pos h]
theorem n_43 {w : Int} (h : w / 512 = 94) : decN w = 43 := by
  unfold decN; rw [if_neg (by omega), if_neg (by omega), if_neg (by omega), if_neg (by omega), if_neg (by omega), if_neg (by omega), if_neg (by omega), if_neg (by omega), if_neg (by omega), if_neg (by omega), if_neg (by omega), if_neg (by omega), if_neg (by omega), if_neg (by omega), if_neg (by omega), if_pos h]
theorem n_44 {w : Int} (h : w / 256 = 191) : decN w = 44 := by
  unfold decN; rw [if_neg (by omega), if_neg (by omega), if_neg (by omega), if_neg (by omega), if_neg (by omega), if_neg (by omega), if_neg (by omega), if_neg (by omega), if_neg (by omega), if_neg (by omega), if_neg (by omega), if_neg (by omega), if_neg (by omega), if_neg (by omega), if_neg (by omega), if_neg (by omega), if_pos h]
theorem n_45 {w : Int} (h : w / 256 = 190) : decN w = 45 := by
  unfold decN; rw [if_neg (by omega), if_neg (by omega), if_neg (by omega), if_neg (by omega), if_neg (by omega), if_neg (by omega), if_neg (by omega), if_neg (by omega), if_neg (by omega), if_neg (by omega), if_neg (by omega), if_neg (by omega), if_neg (by omega), if_neg (by omega), if_neg (by omega), if_neg (by omega), if_neg (by omega), if_pos h]
theorem n_46 {w : Int} (h : w / 4096 = 13) : decN w = 46 := by
  unfold decN; rw [if_neg (by omega), if_neg (by omega), if_neg (by omega), if_neg (by omega), if_neg (by omega), if_neg (by omega), if_neg (by omega), if_neg (by omega), if_neg (by omega), if_neg (by omega), if_neg (by omega), if_neg (by omega), if_neg (by omega), if_neg (by omega), if_neg (by omega), if_neg (by omega), if_neg (by omega), if_neg (by omega), if_pos h]
theorem n_47 {w : Int} (h : w / 2048 = 28) : decN w = 47 := by
  unfold decN; rw [if_neg (by omega), if_neg (by omega), if_neg (by omega), if_neg (by omega), if_neg (by omega), if_neg (by omega), if_neg (by omega), if_neg (by omega), if_neg (by omega), if_neg (by omega), if_neg (by omega), if_neg (by omega), if_neg (by omega), if_neg (by omega), if_neg (by omega), if_neg (by omega), if_neg (by omega), if_neg (by omega), if_neg (by omega)]

end Go.Proofs.YtegefbndpkbooaaDoor.Code

/-! The form of a right instruction is told by its word: forms 1 to 47. -/
set_option linter.unusedVariables false
set_option linter.unusedSimpArgs false
namespace Go.Proofs.YtegefbndpkbooaaDoor.Code
open Go.Proofs.YtegefbndpkbooaaDoor.Alu Go.Proofs.YtegefbndpkbooaaDoor.Imm Go.Proofs.YtegefbndpkbooaaDoor.Inst

theorem dec_1 {f rd rn rm ra im kd bs st cd rg : Int} (hf : f = 1) (h : (0 ≤ rd ∧ rd ≤ 7) ∧ (rn = 0) ∧ (0 ≤ rm ∧ rm ≤ 7) ∧ (ra = 0) ∧ (0 ≤ im ∧ im ≤ 32 ∧ (f = 1 → im ≤ 31) ∧ (¬ f = 1 → 1 ≤ im)) ∧ (kd = 0) ∧ (bs = 0) ∧ (st = 0) ∧ (cd = 0) ∧ (rg = 0)) : decN (0 + (im % 32 * 64 + rm * 8 + rd)) = 1 := by
  obtain ⟨h1, h2, h3, h4, h5, h6, h7, h8, h9, h10⟩ := h
  have g0 : 0 ≤ im % 32 ∧ im % 32 ≤ 31 := by omega
  generalize im % 32 = y0 at g0 ⊢
  clear h5
  exact (n_shift (c := 0) (by omega) (by omega))
theorem dec_2 {f rd rn rm ra im kd bs st cd rg : Int} (hf : f = 2) (h : (0 ≤ rd ∧ rd ≤ 7) ∧ (rn = 0) ∧ (0 ≤ rm ∧ rm ≤ 7) ∧ (ra = 0) ∧ (0 ≤ im ∧ im ≤ 32 ∧ (f = 1 → im ≤ 31) ∧ (¬ f = 1 → 1 ≤ im)) ∧ (kd = 0) ∧ (bs = 0) ∧ (st = 0) ∧ (cd = 0) ∧ (rg = 0)) : decN (2048 + (im % 32 * 64 + rm * 8 + rd)) = 2 := by
  obtain ⟨h1, h2, h3, h4, h5, h6, h7, h8, h9, h10⟩ := h
  have g0 : 0 ≤ im % 32 ∧ im % 32 ≤ 31 := by omega
  generalize im % 32 = y0 at g0 ⊢
  clear h5
  exact (n_shift (c := 1) (by omega) (by omega))
theorem dec_3 {f rd rn rm ra im kd bs st cd rg : Int} (hf : f = 3) (h : (0 ≤ rd ∧ rd ≤ 7) ∧ (rn = 0) ∧ (0 ≤ rm ∧ rm ≤ 7) ∧ (ra = 0) ∧ (0 ≤ im ∧ im ≤ 32 ∧ (f = 1 → im ≤ 31) ∧ (¬ f = 1 → 1 ≤ im)) ∧ (kd = 0) ∧ (bs = 0) ∧ (st = 0) ∧ (cd = 0) ∧ (rg = 0)) : decN (4096 + (im % 32 * 64 + rm * 8 + rd)) = 3 := by
  obtain ⟨h1, h2, h3, h4, h5, h6, h7, h8, h9, h10⟩ := h
  have g0 : 0 ≤ im % 32 ∧ im % 32 ≤ 31 := by omega
  generalize im % 32 = y0 at g0 ⊢
  clear h5
  exact (n_shift (c := 2) (by omega) (by omega))
theorem dec_4 {f rd rn rm ra im kd bs st cd rg : Int} (hf : f = 4) (h : (0 ≤ rd ∧ rd ≤ 7) ∧ (0 ≤ rn ∧ rn ≤ 7) ∧ (0 ≤ rm ∧ rm ≤ 7) ∧ (ra = 0) ∧ (im = 0) ∧ (kd = 0) ∧ (bs = 0) ∧ (st = 0) ∧ (cd = 0) ∧ (rg = 0)) : decN (6144 + (rm * 64 + rn * 8 + rd)) = 4 := by
  obtain ⟨h1, h2, h3, h4, h5, h6, h7, h8, h9, h10⟩ := h
  exact (n_three (d := 0) (by omega) (by omega))
theorem dec_5 {f rd rn rm ra im kd bs st cd rg : Int} (hf : f = 5) (h : (0 ≤ rd ∧ rd ≤ 7) ∧ (0 ≤ rn ∧ rn ≤ 7) ∧ (0 ≤ rm ∧ rm ≤ 7) ∧ (ra = 0) ∧ (im = 0) ∧ (kd = 0) ∧ (bs = 0) ∧ (st = 0) ∧ (cd = 0) ∧ (rg = 0)) : decN (6656 + (rm * 64 + rn * 8 + rd)) = 5 := by
  obtain ⟨h1, h2, h3, h4, h5, h6, h7, h8, h9, h10⟩ := h
  exact (n_three (d := 1) (by omega) (by omega))
theorem dec_6 {f rd rn rm ra im kd bs st cd rg : Int} (hf : f = 6) (h : (0 ≤ rd ∧ rd ≤ 7) ∧ (0 ≤ rn ∧ rn ≤ 7) ∧ (rm = 0) ∧ (ra = 0) ∧ (0 ≤ im ∧ im ≤ 7) ∧ (kd = 0) ∧ (bs = 0) ∧ (st = 0) ∧ (cd = 0) ∧ (rg = 0)) : decN (7168 + (im * 64 + rn * 8 + rd)) = 6 := by
  obtain ⟨h1, h2, h3, h4, h5, h6, h7, h8, h9, h10⟩ := h
  exact (n_three (d := 2) (by omega) (by omega))
theorem dec_7 {f rd rn rm ra im kd bs st cd rg : Int} (hf : f = 7) (h : (0 ≤ rd ∧ rd ≤ 7) ∧ (0 ≤ rn ∧ rn ≤ 7) ∧ (rm = 0) ∧ (ra = 0) ∧ (0 ≤ im ∧ im ≤ 7) ∧ (kd = 0) ∧ (bs = 0) ∧ (st = 0) ∧ (cd = 0) ∧ (rg = 0)) : decN (7680 + (im * 64 + rn * 8 + rd)) = 7 := by
  obtain ⟨h1, h2, h3, h4, h5, h6, h7, h8, h9, h10⟩ := h
  exact (n_three (d := 3) (by omega) (by omega))
theorem dec_8 {f rd rn rm ra im kd bs st cd rg : Int} (hf : f = 8) (h : (0 ≤ rd ∧ rd ≤ 7) ∧ (rn = 0) ∧ (rm = 0) ∧ (ra = 0) ∧ (0 ≤ im ∧ im ≤ 255) ∧ (kd = 0) ∧ (bs = 0) ∧ (st = 0) ∧ (cd = 0) ∧ (rg = 0)) : decN (8192 + (rd * 256 + im)) = 8 := by
  obtain ⟨h1, h2, h3, h4, h5, h6, h7, h8, h9, h10⟩ := h
  exact (n_byte (c := 4) (by omega) (by omega) (by omega))
theorem dec_9 {f rd rn rm ra im kd bs st cd rg : Int} (hf : f = 9) (h : (0 ≤ rd ∧ rd ≤ 7) ∧ (rn = 0) ∧ (rm = 0) ∧ (ra = 0) ∧ (0 ≤ im ∧ im ≤ 255) ∧ (kd = 0) ∧ (bs = 0) ∧ (st = 0) ∧ (cd = 0) ∧ (rg = 0)) : decN (10240 + (rd * 256 + im)) = 9 := by
  obtain ⟨h1, h2, h3, h4, h5, h6, h7, h8, h9, h10⟩ := h
  exact (n_byte (c := 5) (by omega) (by omega) (by omega))
theorem dec_10 {f rd rn rm ra im kd bs st cd rg : Int} (hf : f = 10) (h : (0 ≤ rd ∧ rd ≤ 7) ∧ (rn = 0) ∧ (rm = 0) ∧ (ra = 0) ∧ (0 ≤ im ∧ im ≤ 255) ∧ (kd = 0) ∧ (bs = 0) ∧ (st = 0) ∧ (cd = 0) ∧ (rg = 0)) : decN (12288 + (rd * 256 + im)) = 10 := by
  obtain ⟨h1, h2, h3, h4, h5, h6, h7, h8, h9, h10⟩ := h
  exact (n_byte (c := 6) (by omega) (by omega) (by omega))
theorem dec_11 {f rd rn rm ra im kd bs st cd rg : Int} (hf : f = 11) (h : (0 ≤ rd ∧ rd ≤ 7) ∧ (rn = 0) ∧ (rm = 0) ∧ (ra = 0) ∧ (0 ≤ im ∧ im ≤ 255) ∧ (kd = 0) ∧ (bs = 0) ∧ (st = 0) ∧ (cd = 0) ∧ (rg = 0)) : decN (14336 + (rd * 256 + im)) = 11 := by
  obtain ⟨h1, h2, h3, h4, h5, h6, h7, h8, h9, h10⟩ := h
  exact (n_byte (c := 7) (by omega) (by omega) (by omega))
theorem dec_12 {f rd rn rm ra im kd bs st cd rg : Int} (hf : f = 12) (h : (0 ≤ rd ∧ rd ≤ 7) ∧ (rn = 0) ∧ (0 ≤ rm ∧ rm ≤ 7) ∧ (ra = 0) ∧ (im = 0) ∧ (kd = 0) ∧ (bs = 0) ∧ (st = 0) ∧ (cd = 0) ∧ (rg = 0)) : decN (16384 + (rm * 8 + rd)) = 12 := by
  obtain ⟨h1, h2, h3, h4, h5, h6, h7, h8, h9, h10⟩ := h
  exact (n_two (d := 0) (by omega) (by omega))
theorem dec_13 {f rd rn rm ra im kd bs st cd rg : Int} (hf : f = 13) (h : (0 ≤ rd ∧ rd ≤ 7) ∧ (rn = 0) ∧ (0 ≤ rm ∧ rm ≤ 7) ∧ (ra = 0) ∧ (im = 0) ∧ (kd = 0) ∧ (bs = 0) ∧ (st = 0) ∧ (cd = 0) ∧ (rg = 0)) : decN (16448 + (rm * 8 + rd)) = 13 := by
  obtain ⟨h1, h2, h3, h4, h5, h6, h7, h8, h9, h10⟩ := h
  exact (n_two (d := 1) (by omega) (by omega))
theorem dec_14 {f rd rn rm ra im kd bs st cd rg : Int} (hf : f = 14) (h : (0 ≤ rd ∧ rd ≤ 7) ∧ (rn = 0) ∧ (0 ≤ rm ∧ rm ≤ 7) ∧ (ra = 0) ∧ (im = 0) ∧ (kd = 0) ∧ (bs = 0) ∧ (st = 0) ∧ (cd = 0) ∧ (rg = 0)) : decN (16512 + (rm * 8 + rd)) = 14 := by
  obtain ⟨h1, h2, h3, h4, h5, h6, h7, h8, h9, h10⟩ := h
  exact (n_two (d := 2) (by omega) (by omega))
theorem dec_15 {f rd rn rm ra im kd bs st cd rg : Int} (hf : f = 15) (h : (0 ≤ rd ∧ rd ≤ 7) ∧ (rn = 0) ∧ (0 ≤ rm ∧ rm ≤ 7) ∧ (ra = 0) ∧ (im = 0) ∧ (kd = 0) ∧ (bs = 0) ∧ (st = 0) ∧ (cd = 0) ∧ (rg = 0)) : decN (16576 + (rm * 8 + rd)) = 15 := by
  obtain ⟨h1, h2, h3, h4, h5, h6, h7, h8, h9, h10⟩ := h
  exact (n_two (d := 3) (by omega) (by omega))
theorem dec_16 {f rd rn rm ra im kd bs st cd rg : Int} (hf : f = 16) (h : (0 ≤ rd ∧ rd ≤ 7) ∧ (rn = 0) ∧ (0 ≤ rm ∧ rm ≤ 7) ∧ (ra = 0) ∧ (im = 0) ∧ (kd = 0) ∧ (bs = 0) ∧ (st = 0) ∧ (cd = 0) ∧ (rg = 0)) : decN (16640 + (rm * 8 + rd)) = 16 := by
  obtain ⟨h1, h2, h3, h4, h5, h6, h7, h8, h9, h10⟩ := h
  exact (n_two (d := 4) (by omega) (by omega))
theorem dec_17 {f rd rn rm ra im kd bs st cd rg : Int} (hf : f = 17) (h : (0 ≤ rd ∧ rd ≤ 7) ∧ (rn = 0) ∧ (0 ≤ rm ∧ rm ≤ 7) ∧ (ra = 0) ∧ (im = 0) ∧ (kd = 0) ∧ (bs = 0) ∧ (st = 0) ∧ (cd = 0) ∧ (rg = 0)) : decN (16704 + (rm * 8 + rd)) = 17 := by
  obtain ⟨h1, h2, h3, h4, h5, h6, h7, h8, h9, h10⟩ := h
  exact (n_two (d := 5) (by omega) (by omega))
theorem dec_18 {f rd rn rm ra im kd bs st cd rg : Int} (hf : f = 18) (h : (0 ≤ rd ∧ rd ≤ 7) ∧ (rn = 0) ∧ (0 ≤ rm ∧ rm ≤ 7) ∧ (ra = 0) ∧ (im = 0) ∧ (kd = 0) ∧ (bs = 0) ∧ (st = 0) ∧ (cd = 0) ∧ (rg = 0)) : decN (16768 + (rm * 8 + rd)) = 18 := by
  obtain ⟨h1, h2, h3, h4, h5, h6, h7, h8, h9, h10⟩ := h
  exact (n_two (d := 6) (by omega) (by omega))
theorem dec_19 {f rd rn rm ra im kd bs st cd rg : Int} (hf : f = 19) (h : (0 ≤ rd ∧ rd ≤ 7) ∧ (rn = 0) ∧ (0 ≤ rm ∧ rm ≤ 7) ∧ (ra = 0) ∧ (im = 0) ∧ (kd = 0) ∧ (bs = 0) ∧ (st = 0) ∧ (cd = 0) ∧ (rg = 0)) : decN (16832 + (rm * 8 + rd)) = 19 := by
  obtain ⟨h1, h2, h3, h4, h5, h6, h7, h8, h9, h10⟩ := h
  exact (n_two (d := 7) (by omega) (by omega))
theorem dec_20 {f rd rn rm ra im kd bs st cd rg : Int} (hf : f = 20) (h : (0 ≤ rd ∧ rd ≤ 7) ∧ (rn = 0) ∧ (0 ≤ rm ∧ rm ≤ 7) ∧ (ra = 0) ∧ (im = 0) ∧ (kd = 0) ∧ (bs = 0) ∧ (st = 0) ∧ (cd = 0) ∧ (rg = 0)) : decN (16896 + (rm * 8 + rd)) = 20 := by
  obtain ⟨h1, h2, h3, h4, h5, h6, h7, h8, h9, h10⟩ := h
  exact (n_two (d := 8) (by omega) (by omega))
theorem dec_21 {f rd rn rm ra im kd bs st cd rg : Int} (hf : f = 21) (h : (0 ≤ rd ∧ rd ≤ 7) ∧ (rn = 0) ∧ (0 ≤ rm ∧ rm ≤ 7) ∧ (ra = 0) ∧ (im = 0) ∧ (kd = 0) ∧ (bs = 0) ∧ (st = 0) ∧ (cd = 0) ∧ (rg = 0)) : decN (16960 + (rm * 8 + rd)) = 21 := by
  obtain ⟨h1, h2, h3, h4, h5, h6, h7, h8, h9, h10⟩ := h
  exact (n_two (d := 9) (by omega) (by omega))
theorem dec_22 {f rd rn rm ra im kd bs st cd rg : Int} (hf : f = 22) (h : (0 ≤ rd ∧ rd ≤ 7) ∧ (rn = 0) ∧ (0 ≤ rm ∧ rm ≤ 7) ∧ (ra = 0) ∧ (im = 0) ∧ (kd = 0) ∧ (bs = 0) ∧ (st = 0) ∧ (cd = 0) ∧ (rg = 0)) : decN (17024 + (rm * 8 + rd)) = 22 := by
  obtain ⟨h1, h2, h3, h4, h5, h6, h7, h8, h9, h10⟩ := h
  exact (n_two (d := 10) (by omega) (by omega))
theorem dec_23 {f rd rn rm ra im kd bs st cd rg : Int} (hf : f = 23) (h : (0 ≤ rd ∧ rd ≤ 7) ∧ (rn = 0) ∧ (0 ≤ rm ∧ rm ≤ 7) ∧ (ra = 0) ∧ (im = 0) ∧ (kd = 0) ∧ (bs = 0) ∧ (st = 0) ∧ (cd = 0) ∧ (rg = 0)) : decN (17088 + (rm * 8 + rd)) = 23 := by
  obtain ⟨h1, h2, h3, h4, h5, h6, h7, h8, h9, h10⟩ := h
  exact (n_two (d := 11) (by omega) (by omega))
theorem dec_24 {f rd rn rm ra im kd bs st cd rg : Int} (hf : f = 24) (h : (0 ≤ rd ∧ rd ≤ 7) ∧ (rn = 0) ∧ (0 ≤ rm ∧ rm ≤ 7) ∧ (ra = 0) ∧ (im = 0) ∧ (kd = 0) ∧ (bs = 0) ∧ (st = 0) ∧ (cd = 0) ∧ (rg = 0)) : decN (17152 + (rm * 8 + rd)) = 24 := by
  obtain ⟨h1, h2, h3, h4, h5, h6, h7, h8, h9, h10⟩ := h
  exact (n_two (d := 12) (by omega) (by omega))
theorem dec_25 {f rd rn rm ra im kd bs st cd rg : Int} (hf : f = 25) (h : (0 ≤ rd ∧ rd ≤ 7) ∧ (rn = 0) ∧ (0 ≤ rm ∧ rm ≤ 7) ∧ (ra = 0) ∧ (im = 0) ∧ (kd = 0) ∧ (bs = 0) ∧ (st = 0) ∧ (cd = 0) ∧ (rg = 0)) : decN (17216 + (rm * 8 + rd)) = 25 := by
  obtain ⟨h1, h2, h3, h4, h5, h6, h7, h8, h9, h10⟩ := h
  exact (n_two (d := 13) (by omega) (by omega))
theorem dec_26 {f rd rn rm ra im kd bs st cd rg : Int} (hf : f = 26) (h : (0 ≤ rd ∧ rd ≤ 7) ∧ (rn = 0) ∧ (0 ≤ rm ∧ rm ≤ 7) ∧ (ra = 0) ∧ (im = 0) ∧ (kd = 0) ∧ (bs = 0) ∧ (st = 0) ∧ (cd = 0) ∧ (rg = 0)) : decN (17280 + (rm * 8 + rd)) = 26 := by
  obtain ⟨h1, h2, h3, h4, h5, h6, h7, h8, h9, h10⟩ := h
  exact (n_two (d := 14) (by omega) (by omega))
theorem dec_27 {f rd rn rm ra im kd bs st cd rg : Int} (hf : f = 27) (h : (0 ≤ rd ∧ rd ≤ 7) ∧ (rn = 0) ∧ (0 ≤ rm ∧ rm ≤ 7) ∧ (ra = 0) ∧ (im = 0) ∧ (kd = 0) ∧ (bs = 0) ∧ (st = 0) ∧ (cd = 0) ∧ (rg = 0)) : decN (17344 + (rm * 8 + rd)) = 27 := by
  obtain ⟨h1, h2, h3, h4, h5, h6, h7, h8, h9, h10⟩ := h
  exact (n_two (d := 15) (by omega) (by omega))
theorem dec_28 {f rd rn rm ra im kd bs st cd rg : Int} (hf : f = 28) (h : (0 ≤ rd ∧ rd ≤ 14) ∧ (rn = 0) ∧ (0 ≤ rm ∧ rm ≤ 14) ∧ (ra = 0) ∧ (im = 0) ∧ (kd = 0) ∧ (bs = 0) ∧ (st = 0) ∧ (cd = 0) ∧ (rg = 0)) : decN (17408 + (rd / 8 * 128 + rm * 8 + rd % 8)) = 28 := by
  obtain ⟨h1, h2, h3, h4, h5, h6, h7, h8, h9, h10⟩ := h
  have g0 : 0 ≤ rd / 8 ∧ rd / 8 ≤ 1 := by omega
  have g1 : 0 ≤ rd % 8 ∧ rd % 8 ≤ 7 := by omega
  generalize rd / 8 = y0 at g0 ⊢
  generalize rd % 8 = y1 at g1 ⊢
  exact (n_high (d := 0) (by omega) (by omega))
theorem dec_29 {f rd rn rm ra im kd bs st cd rg : Int} (hf : f = 29) (h : (0 ≤ rd ∧ rd ≤ 14) ∧ (rn = 0) ∧ (0 ≤ rm ∧ rm ≤ 14) ∧ (ra = 0) ∧ (im = 0) ∧ (kd = 0) ∧ (bs = 0) ∧ (st = 0) ∧ (cd = 0) ∧ (rg = 0)) : decN (17664 + (rd / 8 * 128 + rm * 8 + rd % 8)) = 29 := by
  obtain ⟨h1, h2, h3, h4, h5, h6, h7, h8, h9, h10⟩ := h
  have g0 : 0 ≤ rd / 8 ∧ rd / 8 ≤ 1 := by omega
  have g1 : 0 ≤ rd % 8 ∧ rd % 8 ≤ 7 := by omega
  generalize rd / 8 = y0 at g0 ⊢
  generalize rd % 8 = y1 at g1 ⊢
  exact (n_high (d := 1) (by omega) (by omega))
theorem dec_30 {f rd rn rm ra im kd bs st cd rg : Int} (hf : f = 30) (h : (0 ≤ rd ∧ rd ≤ 14) ∧ (rn = 0) ∧ (0 ≤ rm ∧ rm ≤ 14) ∧ (ra = 0) ∧ (im = 0) ∧ (kd = 0) ∧ (bs = 0) ∧ (st = 0) ∧ (cd = 0) ∧ (rg = 0)) : decN (17920 + (rd / 8 * 128 + rm * 8 + rd % 8)) = 30 := by
  obtain ⟨h1, h2, h3, h4, h5, h6, h7, h8, h9, h10⟩ := h
  have g0 : 0 ≤ rd / 8 ∧ rd / 8 ≤ 1 := by omega
  have g1 : 0 ≤ rd % 8 ∧ rd % 8 ≤ 7 := by omega
  generalize rd / 8 = y0 at g0 ⊢
  generalize rd % 8 = y1 at g1 ⊢
  exact (n_high (d := 2) (by omega) (by omega))
theorem dec_31 {f rd rn rm ra im kd bs st cd rg : Int} (hf : f = 31) (h : (rd = 0) ∧ (rn = 0) ∧ (0 ≤ rm ∧ rm ≤ 14) ∧ (ra = 0) ∧ (im = 0) ∧ (kd = 0) ∧ (bs = 0) ∧ (st = 0) ∧ (cd = 0) ∧ (rg = 0)) : decN (18176 + (rm * 8)) = 31 := by
  obtain ⟨h1, h2, h3, h4, h5, h6, h7, h8, h9, h10⟩ := h
  exact (n_high (d := 3) (by omega) (by omega))
theorem dec_32 {f rd rn rm ra im kd bs st cd rg : Int} (hf : f = 32) (h : (0 ≤ rd ∧ rd ≤ 7) ∧ (rn = 0) ∧ (rm = 0) ∧ (ra = 0) ∧ (0 ≤ im ∧ im ≤ 1020 ∧ im % 4 = 0) ∧ (kd = 0) ∧ (bs = 0) ∧ (st = 0) ∧ (cd = 0) ∧ (rg = 0)) : decN (18432 + (rd * 256 + im / 4)) = 32 := by
  obtain ⟨h1, h2, h3, h4, h5, h6, h7, h8, h9, h10⟩ := h
  have g0 : 0 ≤ im / 4 ∧ im / 4 ≤ 255 := by omega
  generalize im / 4 = y0 at g0 ⊢
  clear h5
  exact (n_32 (by omega))
theorem dec_33 {f rd rn rm ra im kd bs st cd rg : Int} (hf : f = 33) (h : (0 ≤ rd ∧ rd ≤ 7) ∧ (0 ≤ rn ∧ rn ≤ 7) ∧ (0 ≤ rm ∧ rm ≤ 7) ∧ (ra = 0) ∧ (im = 0) ∧ (kd = 0) ∧ (bs = 0) ∧ (st = 0) ∧ (cd = 0) ∧ (rg = 0)) : decN (20480 + (rm * 64 + rn * 8 + rd)) = 33 := by
  obtain ⟨h1, h2, h3, h4, h5, h6, h7, h8, h9, h10⟩ := h
  exact (n_33 (by omega))
theorem dec_34 {f rd rn rm ra im kd bs st cd rg : Int} (hf : f = 34) (h : (0 ≤ rd ∧ rd ≤ 7) ∧ (0 ≤ rn ∧ rn ≤ 7) ∧ (0 ≤ rm ∧ rm ≤ 7) ∧ (ra = 0) ∧ (im = 0) ∧ (kd = 0) ∧ (bs = 0) ∧ (st = 0) ∧ (cd = 0) ∧ (rg = 0)) : decN (22528 + (rm * 64 + rn * 8 + rd)) = 34 := by
  obtain ⟨h1, h2, h3, h4, h5, h6, h7, h8, h9, h10⟩ := h
  exact (n_34 (by omega))
theorem dec_35 {f rd rn rm ra im kd bs st cd rg : Int} (hf : f = 35) (h : (0 ≤ rd ∧ rd ≤ 7) ∧ (0 ≤ rn ∧ rn ≤ 7) ∧ (rm = 0) ∧ (ra = 0) ∧ (0 ≤ im ∧ im ≤ 124 ∧ im % 4 = 0) ∧ (kd = 0) ∧ (bs = 0) ∧ (st = 0) ∧ (cd = 0) ∧ (rg = 0)) : decN (24576 + (im / 4 * 64 + rn * 8 + rd)) = 35 := by
  obtain ⟨h1, h2, h3, h4, h5, h6, h7, h8, h9, h10⟩ := h
  have g0 : 0 ≤ im / 4 ∧ im / 4 ≤ 31 := by omega
  generalize im / 4 = y0 at g0 ⊢
  clear h5
  exact (n_35 (by omega))
theorem dec_36 {f rd rn rm ra im kd bs st cd rg : Int} (hf : f = 36) (h : (0 ≤ rd ∧ rd ≤ 7) ∧ (0 ≤ rn ∧ rn ≤ 7) ∧ (rm = 0) ∧ (ra = 0) ∧ (0 ≤ im ∧ im ≤ 124 ∧ im % 4 = 0) ∧ (kd = 0) ∧ (bs = 0) ∧ (st = 0) ∧ (cd = 0) ∧ (rg = 0)) : decN (26624 + (im / 4 * 64 + rn * 8 + rd)) = 36 := by
  obtain ⟨h1, h2, h3, h4, h5, h6, h7, h8, h9, h10⟩ := h
  have g0 : 0 ≤ im / 4 ∧ im / 4 ≤ 31 := by omega
  generalize im / 4 = y0 at g0 ⊢
  clear h5
  exact (n_36 (by omega))
theorem dec_37 {f rd rn rm ra im kd bs st cd rg : Int} (hf : f = 37) (h : (0 ≤ rd ∧ rd ≤ 7) ∧ (rn = 0) ∧ (rm = 0) ∧ (ra = 0) ∧ (0 ≤ im ∧ im ≤ 1020 ∧ im % 4 = 0) ∧ (kd = 0) ∧ (bs = 0) ∧ (st = 0) ∧ (cd = 0) ∧ (rg = 0)) : decN (36864 + (rd * 256 + im / 4)) = 37 := by
  obtain ⟨h1, h2, h3, h4, h5, h6, h7, h8, h9, h10⟩ := h
  have g0 : 0 ≤ im / 4 ∧ im / 4 ≤ 255 := by omega
  generalize im / 4 = y0 at g0 ⊢
  clear h5
  exact (n_37 (by omega))
theorem dec_38 {f rd rn rm ra im kd bs st cd rg : Int} (hf : f = 38) (h : (0 ≤ rd ∧ rd ≤ 7) ∧ (rn = 0) ∧ (rm = 0) ∧ (ra = 0) ∧ (0 ≤ im ∧ im ≤ 1020 ∧ im % 4 = 0) ∧ (kd = 0) ∧ (bs = 0) ∧ (st = 0) ∧ (cd = 0) ∧ (rg = 0)) : decN (38912 + (rd * 256 + im / 4)) = 38 := by
  obtain ⟨h1, h2, h3, h4, h5, h6, h7, h8, h9, h10⟩ := h
  have g0 : 0 ≤ im / 4 ∧ im / 4 ≤ 255 := by omega
  generalize im / 4 = y0 at g0 ⊢
  clear h5
  exact (n_38 (by omega))
theorem dec_39 {f rd rn rm ra im kd bs st cd rg : Int} (hf : f = 39) (h : (0 ≤ rd ∧ rd ≤ 7) ∧ (rn = 0) ∧ (rm = 0) ∧ (ra = 0) ∧ (0 ≤ im ∧ im ≤ 1020 ∧ im % 4 = 0) ∧ (kd = 0) ∧ (bs = 0) ∧ (st = 0) ∧ (cd = 0) ∧ (rg = 0)) : decN (43008 + (rd * 256 + im / 4)) = 39 := by
  obtain ⟨h1, h2, h3, h4, h5, h6, h7, h8, h9, h10⟩ := h
  have g0 : 0 ≤ im / 4 ∧ im / 4 ≤ 255 := by omega
  generalize im / 4 = y0 at g0 ⊢
  clear h5
  exact (n_39 (by omega))
theorem dec_40 {f rd rn rm ra im kd bs st cd rg : Int} (hf : f = 40) (h : (rd = 0) ∧ (rn = 0) ∧ (rm = 0) ∧ (ra = 0) ∧ (0 ≤ im ∧ im ≤ 508 ∧ im % 4 = 0) ∧ (kd = 0) ∧ (bs = 0) ∧ (st = 0) ∧ (cd = 0) ∧ (rg = 0)) : decN (45056 + (im / 4)) = 40 := by
  obtain ⟨h1, h2, h3, h4, h5, h6, h7, h8, h9, h10⟩ := h
  have g0 : 0 ≤ im / 4 ∧ im / 4 ≤ 127 := by omega
  generalize im / 4 = y0 at g0 ⊢
  clear h5
  exact (n_inc (d := 0) (by omega) (by omega))
theorem dec_41 {f rd rn rm ra im kd bs st cd rg : Int} (hf : f = 41) (h : (rd = 0) ∧ (rn = 0) ∧ (rm = 0) ∧ (ra = 0) ∧ (0 ≤ im ∧ im ≤ 508 ∧ im % 4 = 0) ∧ (kd = 0) ∧ (bs = 0) ∧ (st = 0) ∧ (cd = 0) ∧ (rg = 0)) : decN (45184 + (im / 4)) = 41 := by
  obtain ⟨h1, h2, h3, h4, h5, h6, h7, h8, h9, h10⟩ := h
  have g0 : 0 ≤ im / 4 ∧ im / 4 ≤ 127 := by omega
  generalize im / 4 = y0 at g0 ⊢
  clear h5
  exact (n_inc (d := 1) (by omega) (by omega))
theorem dec_42 {f rd rn rm ra im kd bs st cd rg : Int} (hf : f = 42) (h : (rd = 0) ∧ (rn = 0) ∧ (rm = 0) ∧ (ra = 0) ∧ (im = 0) ∧ (kd = 0) ∧ (bs = 0) ∧ (st = 0) ∧ (cd = 0) ∧ ((1 ≤ rg ∧ rg ≤ 255 ∨ 16384 ≤ rg ∧ rg ≤ 16639))) : decN (46080 + (rg / 16384 % 2 * 256 + rg % 256)) = 42 := by
  obtain ⟨h1, h2, h3, h4, h5, h6, h7, h8, h9, h10⟩ := h
  have g0 : 0 ≤ rg / 16384 % 2 ∧ rg / 16384 % 2 ≤ 1 := by omega
  have g1 : 0 ≤ rg % 256 ∧ rg % 256 ≤ 255 := by omega
  generalize rg / 16384 % 2 = y0 at g0 ⊢
  generalize rg % 256 = y1 at g1 ⊢
  clear h10
  exact (n_42 (by omega))
theorem dec_43 {f rd rn rm ra im kd bs st cd rg : Int} (hf : f = 43) (h : (rd = 0) ∧ (rn = 0) ∧ (rm = 0) ∧ (ra = 0) ∧ (im = 0) ∧ (kd = 0) ∧ (bs = 0) ∧ (st = 0) ∧ (cd = 0) ∧ ((1 ≤ rg ∧ rg ≤ 255 ∨ 32768 ≤ rg ∧ rg ≤ 33023))) : decN (48128 + (rg / 32768 % 2 * 256 + rg % 256)) = 43 := by
  obtain ⟨h1, h2, h3, h4, h5, h6, h7, h8, h9, h10⟩ := h
  have g0 : 0 ≤ rg / 32768 % 2 ∧ rg / 32768 % 2 ≤ 1 := by omega
  have g1 : 0 ≤ rg % 256 ∧ rg % 256 ≤ 255 := by omega
  generalize rg / 32768 % 2 = y0 at g0 ⊢
  generalize rg % 256 = y1 at g1 ⊢
  clear h10
  exact (n_43 (by omega))
theorem dec_44 {f rd rn rm ra im kd bs st cd rg : Int} (hf : f = 44) (h : (rd = 0) ∧ (rn = 0) ∧ (rm = 0) ∧ (ra = 0) ∧ (im = 0) ∧ (kd = 0) ∧ (bs = 0) ∧ (st = 0) ∧ (cd = 0) ∧ (rg = 0)) : decN (48896 + (0)) = 44 := by
  obtain ⟨h1, h2, h3, h4, h5, h6, h7, h8, h9, h10⟩ := h
  exact (n_44 (by omega))
theorem dec_45 {f rd rn rm ra im kd bs st cd rg : Int} (hf : f = 45) (h : (rd = 0) ∧ (rn = 0) ∧ (rm = 0) ∧ (ra = 0) ∧ (0 ≤ im ∧ im ≤ 255) ∧ (kd = 0) ∧ (bs = 0) ∧ (st = 0) ∧ (cd = 0) ∧ (rg = 0)) : decN (48640 + (im)) = 45 := by
  obtain ⟨h1, h2, h3, h4, h5, h6, h7, h8, h9, h10⟩ := h
  exact (n_45 (by omega))
theorem dec_46 {f rd rn rm ra im kd bs st cd rg : Int} (hf : f = 46) (h : (rd = 0) ∧ (rn = 0) ∧ (rm = 0) ∧ (ra = 0) ∧ (-256 ≤ im ∧ im ≤ 254 ∧ im % 2 = 0) ∧ (kd = 0) ∧ (bs = 0) ∧ (st = 0) ∧ (0 ≤ cd ∧ cd ≤ 13) ∧ (rg = 0)) : decN (53248 + (cd * 256 + im / 2 % 256)) = 46 := by
  obtain ⟨h1, h2, h3, h4, h5, h6, h7, h8, h9, h10⟩ := h
  have g0 : 0 ≤ im / 2 % 256 ∧ im / 2 % 256 ≤ 255 := by omega
  generalize im / 2 % 256 = y0 at g0 ⊢
  clear h5
  exact (n_46 (by omega))
theorem dec_47 {f rd rn rm ra im kd bs st cd rg : Int} (hf : f = 47) (h : (rd = 0) ∧ (rn = 0) ∧ (rm = 0) ∧ (ra = 0) ∧ (-2048 ≤ im ∧ im ≤ 2046 ∧ im % 2 = 0) ∧ (kd = 0) ∧ (bs = 0) ∧ (st = 0) ∧ (cd = 0) ∧ (rg = 0)) : decN (57344 + (im / 2 % 2048)) = 47 := by
  obtain ⟨h1, h2, h3, h4, h5, h6, h7, h8, h9, h10⟩ := h
  have g0 : 0 ≤ im / 2 % 2048 ∧ im / 2 % 2048 ≤ 2047 := by omega
  generalize im / 2 % 2048 = y0 at g0 ⊢
  clear h5
  exact (n_47 (by omega))

end Go.Proofs.YtegefbndpkbooaaDoor.Code

/-! The form of a right instruction is told by its word: forms 48 to 65. -/
set_option linter.unusedVariables false
set_option linter.unusedSimpArgs false
namespace Go.Proofs.YtegefbndpkbooaaDoor.Code
open Go.Proofs.YtegefbndpkbooaaDoor.Alu Go.Proofs.YtegefbndpkbooaaDoor.Imm Go.Proofs.YtegefbndpkbooaaDoor.Inst

theorem dec_48 {f rd rn rm ra im kd bs st cd rg : Int} (hf : f = 48) (h : ((0 ≤ rd ∧ rd ≤ 12 ∨ rd = 14)) ∧ (rn = 0) ∧ (rm = 0) ∧ (ra = 0) ∧ (0 ≤ im ∧ im ≤ 65535) ∧ (kd = 0) ∧ (bs = 0) ∧ (st = 0) ∧ (cd = 0) ∧ (rg = 0)) : decW (4064280576 + (im / 2048 % 2 * 67108864 + im / 4096 * 65536 + im / 256 % 8 * 4096 + rd * 256 + im % 256)) = 48 := by
  obtain ⟨h1, h2, h3, h4, h5, h6, h7, h8, h9, h10⟩ := h
  have g0 : 0 ≤ im / 2048 % 2 ∧ im / 2048 % 2 ≤ 1 := by omega
  have g1 : 0 ≤ im / 4096 ∧ im / 4096 ≤ 15 := by omega
  have g2 : 0 ≤ im / 256 % 8 ∧ im / 256 % 8 ≤ 7 := by omega
  have g3 : 0 ≤ im % 256 ∧ im % 256 ≤ 255 := by omega
  generalize im / 2048 % 2 = y0 at g0 ⊢
  generalize im / 4096 = y1 at g1 ⊢
  generalize im / 256 % 8 = y2 at g2 ⊢
  generalize im % 256 = y3 at g3 ⊢
  clear h5
  have e1 : (4064280576 + (y0 * 67108864 + y1 * 65536 + y2 * 4096 + rd * 256 + y3)) / 65536 = 62016 + y0 * 1024 + y1 := by omega
  have e2 : (4064280576 + (y0 * 67108864 + y1 * 65536 + y2 * 4096 + rd * 256 + y3)) % 65536 = 0 + y2 * 4096 + rd * 256 + y3 := by omega
  unfold decW
  rw [e1, e2]
  clear e1 e2
  rw [hl_plain (c := 4) (by omega) (by omega) (by omega) (by omega)]
  simp
theorem dec_49 {f rd rn rm ra im kd bs st cd rg : Int} (hf : f = 49) (h : ((0 ≤ rd ∧ rd ≤ 12 ∨ rd = 14)) ∧ (rn = 0) ∧ (rm = 0) ∧ (ra = 0) ∧ (0 ≤ im ∧ im ≤ 65535) ∧ (kd = 0) ∧ (bs = 0) ∧ (st = 0) ∧ (cd = 0) ∧ (rg = 0)) : decW (4072669184 + (im / 2048 % 2 * 67108864 + im / 4096 * 65536 + im / 256 % 8 * 4096 + rd * 256 + im % 256)) = 49 := by
  obtain ⟨h1, h2, h3, h4, h5, h6, h7, h8, h9, h10⟩ := h
  have g0 : 0 ≤ im / 2048 % 2 ∧ im / 2048 % 2 ≤ 1 := by omega
  have g1 : 0 ≤ im / 4096 ∧ im / 4096 ≤ 15 := by omega
  have g2 : 0 ≤ im / 256 % 8 ∧ im / 256 % 8 ≤ 7 := by omega
  have g3 : 0 ≤ im % 256 ∧ im % 256 ≤ 255 := by omega
  generalize im / 2048 % 2 = y0 at g0 ⊢
  generalize im / 4096 = y1 at g1 ⊢
  generalize im / 256 % 8 = y2 at g2 ⊢
  generalize im % 256 = y3 at g3 ⊢
  clear h5
  have e1 : (4072669184 + (y0 * 67108864 + y1 * 65536 + y2 * 4096 + rd * 256 + y3)) / 65536 = 62144 + y0 * 1024 + y1 := by omega
  have e2 : (4072669184 + (y0 * 67108864 + y1 * 65536 + y2 * 4096 + rd * 256 + y3)) % 65536 = 0 + y2 * 4096 + rd * 256 + y3 := by omega
  unfold decW
  rw [e1, e2]
  clear e1 e2
  rw [hl_plain (c := 12) (by omega) (by omega) (by omega) (by omega)]
  simp
theorem dec_50 {f rd rn rm ra im kd bs st cd rg : Int} (hf : f = 50) (h : ((0 ≤ rd ∧ rd ≤ 12 ∨ rd = 14)) ∧ ((0 ≤ rn ∧ rn ≤ 12 ∨ rn = 14)) ∧ (rm = 0) ∧ (ra = 0) ∧ (0 ≤ im ∧ im ≤ 4095) ∧ (kd = 0) ∧ (bs = 0) ∧ (0 ≤ st ∧ st ≤ 1) ∧ (cd = 0) ∧ (rg = 0)) : decW (4026531840 + (im / 2048 * 67108864 + st * 1048576 + rn * 65536 + im / 256 % 8 * 4096 + rd * 256 + im % 256)) = 50 := by
  obtain ⟨h1, h2, h3, h4, h5, h6, h7, h8, h9, h10⟩ := h
  have g0 : 0 ≤ im / 2048 ∧ im / 2048 ≤ 1 := by omega
  have g1 : 0 ≤ im / 256 % 8 ∧ im / 256 % 8 ≤ 7 := by omega
  have g2 : 0 ≤ im % 256 ∧ im % 256 ≤ 255 := by omega
  generalize im / 2048 = y0 at g0 ⊢
  generalize im / 256 % 8 = y1 at g1 ⊢
  generalize im % 256 = y2 at g2 ⊢
  clear h5
  have e1 : (4026531840 + (y0 * 67108864 + st * 1048576 + rn * 65536 + y1 * 4096 + rd * 256 + y2)) / 65536 = 61440 + y0 * 1024 + st * 16 + rn := by omega
  have e2 : (4026531840 + (y0 * 67108864 + st * 1048576 + rn * 65536 + y1 * 4096 + rd * 256 + y2)) % 65536 = 0 + y1 * 4096 + rd * 256 + y2 := by omega
  unfold decW
  rw [e1, e2]
  clear e1 e2
  rw [hl_imm (o := 0) (r := rd) (n := rn) (by omega) (by omega) (by omega) (by omega) (by omega) (by omega)]
  unfold decO
  have hr : ¬ rd = 15 := by omega
  simp [hr]
theorem dec_51 {f rd rn rm ra im kd bs st cd rg : Int} (hf : f = 51) (h : ((0 ≤ rd ∧ rd ≤ 12 ∨ rd = 14)) ∧ ((0 ≤ rn ∧ rn ≤ 12 ∨ rn = 14)) ∧ (rm = 0) ∧ (ra = 0) ∧ (0 ≤ im ∧ im ≤ 4095) ∧ (kd = 0) ∧ (bs = 0) ∧ (0 ≤ st ∧ st ≤ 1) ∧ (cd = 0) ∧ (rg = 0)) : decW (4028628992 + (im / 2048 * 67108864 + st * 1048576 + rn * 65536 + im / 256 % 8 * 4096 + rd * 256 + im % 256)) = 51 := by
  obtain ⟨h1, h2, h3, h4, h5, h6, h7, h8, h9, h10⟩ := h
  have g0 : 0 ≤ im / 2048 ∧ im / 2048 ≤ 1 := by omega
  have g1 : 0 ≤ im / 256 % 8 ∧ im / 256 % 8 ≤ 7 := by omega
  have g2 : 0 ≤ im % 256 ∧ im % 256 ≤ 255 := by omega
  generalize im / 2048 = y0 at g0 ⊢
  generalize im / 256 % 8 = y1 at g1 ⊢
  generalize im % 256 = y2 at g2 ⊢
  clear h5
  have e1 : (4028628992 + (y0 * 67108864 + st * 1048576 + rn * 65536 + y1 * 4096 + rd * 256 + y2)) / 65536 = 61472 + y0 * 1024 + st * 16 + rn := by omega
  have e2 : (4028628992 + (y0 * 67108864 + st * 1048576 + rn * 65536 + y1 * 4096 + rd * 256 + y2)) % 65536 = 0 + y1 * 4096 + rd * 256 + y2 := by omega
  unfold decW
  rw [e1, e2]
  clear e1 e2
  rw [hl_imm (o := 1) (r := rd) (n := rn) (by omega) (by omega) (by omega) (by omega) (by omega) (by omega)]
  unfold decO
  simp
theorem dec_52 {f rd rn rm ra im kd bs st cd rg : Int} (hf : f = 52) (h : ((0 ≤ rd ∧ rd ≤ 12 ∨ rd = 14)) ∧ ((0 ≤ rn ∧ rn ≤ 12 ∨ rn = 14)) ∧ (rm = 0) ∧ (ra = 0) ∧ (0 ≤ im ∧ im ≤ 4095) ∧ (kd = 0) ∧ (bs = 0) ∧ (0 ≤ st ∧ st ≤ 1) ∧ (cd = 0) ∧ (rg = 0)) : decW (4030726144 + (im / 2048 * 67108864 + st * 1048576 + rn * 65536 + im / 256 % 8 * 4096 + rd * 256 + im % 256)) = 52 := by
  obtain ⟨h1, h2, h3, h4, h5, h6, h7, h8, h9, h10⟩ := h
  have g0 : 0 ≤ im / 2048 ∧ im / 2048 ≤ 1 := by omega
  have g1 : 0 ≤ im / 256 % 8 ∧ im / 256 % 8 ≤ 7 := by omega
  have g2 : 0 ≤ im % 256 ∧ im % 256 ≤ 255 := by omega
  generalize im / 2048 = y0 at g0 ⊢
  generalize im / 256 % 8 = y1 at g1 ⊢
  generalize im % 256 = y2 at g2 ⊢
  clear h5
  have e1 : (4030726144 + (y0 * 67108864 + st * 1048576 + rn * 65536 + y1 * 4096 + rd * 256 + y2)) / 65536 = 61504 + y0 * 1024 + st * 16 + rn := by omega
  have e2 : (4030726144 + (y0 * 67108864 + st * 1048576 + rn * 65536 + y1 * 4096 + rd * 256 + y2)) % 65536 = 0 + y1 * 4096 + rd * 256 + y2 := by omega
  unfold decW
  rw [e1, e2]
  clear e1 e2
  rw [hl_imm (o := 2) (r := rd) (n := rn) (by omega) (by omega) (by omega) (by omega) (by omega) (by omega)]
  unfold decO
  have hr : ¬ rn = 15 := by omega
  simp [hr]
theorem dec_53 {f rd rn rm ra im kd bs st cd rg : Int} (hf : f = 53) (h : ((0 ≤ rd ∧ rd ≤ 12 ∨ rd = 14)) ∧ ((0 ≤ rn ∧ rn ≤ 12 ∨ rn = 14)) ∧ (rm = 0) ∧ (ra = 0) ∧ (0 ≤ im ∧ im ≤ 4095) ∧ (kd = 0) ∧ (bs = 0) ∧ (0 ≤ st ∧ st ≤ 1) ∧ (cd = 0) ∧ (rg = 0)) : decW (4032823296 + (im / 2048 * 67108864 + st * 1048576 + rn * 65536 + im / 256 % 8 * 4096 + rd * 256 + im % 256)) = 53 := by
  obtain ⟨h1, h2, h3, h4, h5, h6, h7, h8, h9, h10⟩ := h
  have g0 : 0 ≤ im / 2048 ∧ im / 2048 ≤ 1 := by omega
  have g1 : 0 ≤ im / 256 % 8 ∧ im / 256 % 8 ≤ 7 := by omega
  have g2 : 0 ≤ im % 256 ∧ im % 256 ≤ 255 := by omega
  generalize im / 2048 = y0 at g0 ⊢
  generalize im / 256 % 8 = y1 at g1 ⊢
  generalize im % 256 = y2 at g2 ⊢
  clear h5
  have e1 : (4032823296 + (y0 * 67108864 + st * 1048576 + rn * 65536 + y1 * 4096 + rd * 256 + y2)) / 65536 = 61536 + y0 * 1024 + st * 16 + rn := by omega
  have e2 : (4032823296 + (y0 * 67108864 + st * 1048576 + rn * 65536 + y1 * 4096 + rd * 256 + y2)) % 65536 = 0 + y1 * 4096 + rd * 256 + y2 := by omega
  unfold decW
  rw [e1, e2]
  clear e1 e2
  rw [hl_imm (o := 3) (r := rd) (n := rn) (by omega) (by omega) (by omega) (by omega) (by omega) (by omega)]
  unfold decO
  have hr : ¬ rn = 15 := by omega
  simp [hr]
theorem dec_54 {f rd rn rm ra im kd bs st cd rg : Int} (hf : f = 54) (h : ((0 ≤ rd ∧ rd ≤ 12 ∨ rd = 14)) ∧ ((0 ≤ rn ∧ rn ≤ 12 ∨ rn = 14)) ∧ (rm = 0) ∧ (ra = 0) ∧ (0 ≤ im ∧ im ≤ 4095) ∧ (kd = 0) ∧ (bs = 0) ∧ (0 ≤ st ∧ st ≤ 1) ∧ (cd = 0) ∧ (rg = 0)) : decW (4034920448 + (im / 2048 * 67108864 + st * 1048576 + rn * 65536 + im / 256 % 8 * 4096 + rd * 256 + im % 256)) = 54 := by
  obtain ⟨h1, h2, h3, h4, h5, h6, h7, h8, h9, h10⟩ := h
  have g0 : 0 ≤ im / 2048 ∧ im / 2048 ≤ 1 := by omega
  have g1 : 0 ≤ im / 256 % 8 ∧ im / 256 % 8 ≤ 7 := by omega
  have g2 : 0 ≤ im % 256 ∧ im % 256 ≤ 255 := by omega
  generalize im / 2048 = y0 at g0 ⊢
  generalize im / 256 % 8 = y1 at g1 ⊢
  generalize im % 256 = y2 at g2 ⊢
  clear h5
  have e1 : (4034920448 + (y0 * 67108864 + st * 1048576 + rn * 65536 + y1 * 4096 + rd * 256 + y2)) / 65536 = 61568 + y0 * 1024 + st * 16 + rn := by omega
  have e2 : (4034920448 + (y0 * 67108864 + st * 1048576 + rn * 65536 + y1 * 4096 + rd * 256 + y2)) % 65536 = 0 + y1 * 4096 + rd * 256 + y2 := by omega
  unfold decW
  rw [e1, e2]
  clear e1 e2
  rw [hl_imm (o := 4) (r := rd) (n := rn) (by omega) (by omega) (by omega) (by omega) (by omega) (by omega)]
  unfold decO
  have hr : ¬ rd = 15 := by omega
  simp [hr]
theorem dec_55 {f rd rn rm ra im kd bs st cd rg : Int} (hf : f = 55) (h : ((0 ≤ rd ∧ rd ≤ 12 ∨ rd = 14)) ∧ ((0 ≤ rn ∧ rn ≤ 12 ∨ rn = 14)) ∧ (rm = 0) ∧ (ra = 0) ∧ (0 ≤ im ∧ im ≤ 4095) ∧ (kd = 0) ∧ (bs = 0) ∧ (0 ≤ st ∧ st ≤ 1) ∧ (cd = 0) ∧ (rg = 0)) : decW (4043309056 + (im / 2048 * 67108864 + st * 1048576 + rn * 65536 + im / 256 % 8 * 4096 + rd * 256 + im % 256)) = 55 := by
  obtain ⟨h1, h2, h3, h4, h5, h6, h7, h8, h9, h10⟩ := h
  have g0 : 0 ≤ im / 2048 ∧ im / 2048 ≤ 1 := by omega
  have g1 : 0 ≤ im / 256 % 8 ∧ im / 256 % 8 ≤ 7 := by omega
  have g2 : 0 ≤ im % 256 ∧ im % 256 ≤ 255 := by omega
  generalize im / 2048 = y0 at g0 ⊢
  generalize im / 256 % 8 = y1 at g1 ⊢
  generalize im % 256 = y2 at g2 ⊢
  clear h5
  have e1 : (4043309056 + (y0 * 67108864 + st * 1048576 + rn * 65536 + y1 * 4096 + rd * 256 + y2)) / 65536 = 61696 + y0 * 1024 + st * 16 + rn := by omega
  have e2 : (4043309056 + (y0 * 67108864 + st * 1048576 + rn * 65536 + y1 * 4096 + rd * 256 + y2)) % 65536 = 0 + y1 * 4096 + rd * 256 + y2 := by omega
  unfold decW
  rw [e1, e2]
  clear e1 e2
  rw [hl_imm (o := 8) (r := rd) (n := rn) (by omega) (by omega) (by omega) (by omega) (by omega) (by omega)]
  unfold decO
  have hr : ¬ rd = 15 := by omega
  simp [hr]
theorem dec_56 {f rd rn rm ra im kd bs st cd rg : Int} (hf : f = 56) (h : ((0 ≤ rd ∧ rd ≤ 12 ∨ rd = 14)) ∧ ((0 ≤ rn ∧ rn ≤ 12 ∨ rn = 14)) ∧ (rm = 0) ∧ (ra = 0) ∧ (0 ≤ im ∧ im ≤ 4095) ∧ (kd = 0) ∧ (bs = 0) ∧ (0 ≤ st ∧ st ≤ 1) ∧ (cd = 0) ∧ (rg = 0)) : decW (4047503360 + (im / 2048 * 67108864 + st * 1048576 + rn * 65536 + im / 256 % 8 * 4096 + rd * 256 + im % 256)) = 56 := by
  obtain ⟨h1, h2, h3, h4, h5, h6, h7, h8, h9, h10⟩ := h
  have g0 : 0 ≤ im / 2048 ∧ im / 2048 ≤ 1 := by omega
  have g1 : 0 ≤ im / 256 % 8 ∧ im / 256 % 8 ≤ 7 := by omega
  have g2 : 0 ≤ im % 256 ∧ im % 256 ≤ 255 := by omega
  generalize im / 2048 = y0 at g0 ⊢
  generalize im / 256 % 8 = y1 at g1 ⊢
  generalize im % 256 = y2 at g2 ⊢
  clear h5
  have e1 : (4047503360 + (y0 * 67108864 + st * 1048576 + rn * 65536 + y1 * 4096 + rd * 256 + y2)) / 65536 = 61760 + y0 * 1024 + st * 16 + rn := by omega
  have e2 : (4047503360 + (y0 * 67108864 + st * 1048576 + rn * 65536 + y1 * 4096 + rd * 256 + y2)) % 65536 = 0 + y1 * 4096 + rd * 256 + y2 := by omega
  unfold decW
  rw [e1, e2]
  clear e1 e2
  rw [hl_imm (o := 10) (r := rd) (n := rn) (by omega) (by omega) (by omega) (by omega) (by omega) (by omega)]
  unfold decO
  simp
theorem dec_57 {f rd rn rm ra im kd bs st cd rg : Int} (hf : f = 57) (h : ((0 ≤ rd ∧ rd ≤ 12 ∨ rd = 14)) ∧ ((0 ≤ rn ∧ rn ≤ 12 ∨ rn = 14)) ∧ (rm = 0) ∧ (ra = 0) ∧ (0 ≤ im ∧ im ≤ 4095) ∧ (kd = 0) ∧ (bs = 0) ∧ (0 ≤ st ∧ st ≤ 1) ∧ (cd = 0) ∧ (rg = 0)) : decW (4049600512 + (im / 2048 * 67108864 + st * 1048576 + rn * 65536 + im / 256 % 8 * 4096 + rd * 256 + im % 256)) = 57 := by
  obtain ⟨h1, h2, h3, h4, h5, h6, h7, h8, h9, h10⟩ := h
  have g0 : 0 ≤ im / 2048 ∧ im / 2048 ≤ 1 := by omega
  have g1 : 0 ≤ im / 256 % 8 ∧ im / 256 % 8 ≤ 7 := by omega
  have g2 : 0 ≤ im % 256 ∧ im % 256 ≤ 255 := by omega
  generalize im / 2048 = y0 at g0 ⊢
  generalize im / 256 % 8 = y1 at g1 ⊢
  generalize im % 256 = y2 at g2 ⊢
  clear h5
  have e1 : (4049600512 + (y0 * 67108864 + st * 1048576 + rn * 65536 + y1 * 4096 + rd * 256 + y2)) / 65536 = 61792 + y0 * 1024 + st * 16 + rn := by omega
  have e2 : (4049600512 + (y0 * 67108864 + st * 1048576 + rn * 65536 + y1 * 4096 + rd * 256 + y2)) % 65536 = 0 + y1 * 4096 + rd * 256 + y2 := by omega
  unfold decW
  rw [e1, e2]
  clear e1 e2
  rw [hl_imm (o := 11) (r := rd) (n := rn) (by omega) (by omega) (by omega) (by omega) (by omega) (by omega)]
  unfold decO
  simp
theorem dec_58 {f rd rn rm ra im kd bs st cd rg : Int} (hf : f = 58) (h : ((0 ≤ rd ∧ rd ≤ 12 ∨ rd = 14)) ∧ ((0 ≤ rn ∧ rn ≤ 12 ∨ rn = 14)) ∧ (rm = 0) ∧ (ra = 0) ∧ (0 ≤ im ∧ im ≤ 4095) ∧ (kd = 0) ∧ (bs = 0) ∧ (0 ≤ st ∧ st ≤ 1) ∧ (cd = 0) ∧ (rg = 0)) : decW (4053794816 + (im / 2048 * 67108864 + st * 1048576 + rn * 65536 + im / 256 % 8 * 4096 + rd * 256 + im % 256)) = 58 := by
  obtain ⟨h1, h2, h3, h4, h5, h6, h7, h8, h9, h10⟩ := h
  have g0 : 0 ≤ im / 2048 ∧ im / 2048 ≤ 1 := by omega
  have g1 : 0 ≤ im / 256 % 8 ∧ im / 256 % 8 ≤ 7 := by omega
  have g2 : 0 ≤ im % 256 ∧ im % 256 ≤ 255 := by omega
  generalize im / 2048 = y0 at g0 ⊢
  generalize im / 256 % 8 = y1 at g1 ⊢
  generalize im % 256 = y2 at g2 ⊢
  clear h5
  have e1 : (4053794816 + (y0 * 67108864 + st * 1048576 + rn * 65536 + y1 * 4096 + rd * 256 + y2)) / 65536 = 61856 + y0 * 1024 + st * 16 + rn := by omega
  have e2 : (4053794816 + (y0 * 67108864 + st * 1048576 + rn * 65536 + y1 * 4096 + rd * 256 + y2)) % 65536 = 0 + y1 * 4096 + rd * 256 + y2 := by omega
  unfold decW
  rw [e1, e2]
  clear e1 e2
  rw [hl_imm (o := 13) (r := rd) (n := rn) (by omega) (by omega) (by omega) (by omega) (by omega) (by omega)]
  unfold decO
  have hr : ¬ rd = 15 := by omega
  simp [hr]
theorem dec_59 {f rd rn rm ra im kd bs st cd rg : Int} (hf : f = 59) (h : ((0 ≤ rd ∧ rd ≤ 12 ∨ rd = 14)) ∧ ((0 ≤ rn ∧ rn ≤ 12 ∨ rn = 14)) ∧ (rm = 0) ∧ (ra = 0) ∧ (0 ≤ im ∧ im ≤ 4095) ∧ (kd = 0) ∧ (bs = 0) ∧ (0 ≤ st ∧ st ≤ 1) ∧ (cd = 0) ∧ (rg = 0)) : decW (4055891968 + (im / 2048 * 67108864 + st * 1048576 + rn * 65536 + im / 256 % 8 * 4096 + rd * 256 + im % 256)) = 59 := by
  obtain ⟨h1, h2, h3, h4, h5, h6, h7, h8, h9, h10⟩ := h
  have g0 : 0 ≤ im / 2048 ∧ im / 2048 ≤ 1 := by omega
  have g1 : 0 ≤ im / 256 % 8 ∧ im / 256 % 8 ≤ 7 := by omega
  have g2 : 0 ≤ im % 256 ∧ im % 256 ≤ 255 := by omega
  generalize im / 2048 = y0 at g0 ⊢
  generalize im / 256 % 8 = y1 at g1 ⊢
  generalize im % 256 = y2 at g2 ⊢
  clear h5
  have e1 : (4055891968 + (y0 * 67108864 + st * 1048576 + rn * 65536 + y1 * 4096 + rd * 256 + y2)) / 65536 = 61888 + y0 * 1024 + st * 16 + rn := by omega
  have e2 : (4055891968 + (y0 * 67108864 + st * 1048576 + rn * 65536 + y1 * 4096 + rd * 256 + y2)) % 65536 = 0 + y1 * 4096 + rd * 256 + y2 := by omega
  unfold decW
  rw [e1, e2]
  clear e1 e2
  rw [hl_imm (o := 14) (r := rd) (n := rn) (by omega) (by omega) (by omega) (by omega) (by omega) (by omega)]
  unfold decO
  simp
theorem dec_60 {f rd rn rm ra im kd bs st cd rg : Int} (hf : f = 60) (h : ((0 ≤ rd ∧ rd ≤ 12 ∨ rd = 14)) ∧ (rn = 0) ∧ (rm = 0) ∧ (ra = 0) ∧ (0 ≤ im ∧ im ≤ 4095) ∧ (kd = 0) ∧ (bs = 0) ∧ (0 ≤ st ∧ st ≤ 1) ∧ (cd = 0) ∧ (rg = 0)) : decW (4031709184 + (im / 2048 * 67108864 + st * 1048576 + rn * 65536 + im / 256 % 8 * 4096 + rd * 256 + im % 256)) = 60 := by
  obtain ⟨h1, h2, h3, h4, h5, h6, h7, h8, h9, h10⟩ := h
  have g0 : 0 ≤ im / 2048 ∧ im / 2048 ≤ 1 := by omega
  have g1 : 0 ≤ im / 256 % 8 ∧ im / 256 % 8 ≤ 7 := by omega
  have g2 : 0 ≤ im % 256 ∧ im % 256 ≤ 255 := by omega
  generalize im / 2048 = y0 at g0 ⊢
  generalize im / 256 % 8 = y1 at g1 ⊢
  generalize im % 256 = y2 at g2 ⊢
  clear h5
  have e1 : (4031709184 + (y0 * 67108864 + st * 1048576 + rn * 65536 + y1 * 4096 + rd * 256 + y2)) / 65536 = 61519 + y0 * 1024 + st * 16 + rn := by omega
  have e2 : (4031709184 + (y0 * 67108864 + st * 1048576 + rn * 65536 + y1 * 4096 + rd * 256 + y2)) % 65536 = 0 + y1 * 4096 + rd * 256 + y2 := by omega
  unfold decW
  rw [e1, e2]
  clear e1 e2
  rw [hl_imm (o := 2) (r := rd) (n := 15) (by omega) (by omega) (by omega) (by omega) (by omega) (by omega)]
  unfold decO
  simp
theorem dec_61 {f rd rn rm ra im kd bs st cd rg : Int} (hf : f = 61) (h : ((0 ≤ rd ∧ rd ≤ 12 ∨ rd = 14)) ∧ (rn = 0) ∧ (rm = 0) ∧ (ra = 0) ∧ (0 ≤ im ∧ im ≤ 4095) ∧ (kd = 0) ∧ (bs = 0) ∧ (0 ≤ st ∧ st ≤ 1) ∧ (cd = 0) ∧ (rg = 0)) : decW (4033806336 + (im / 2048 * 67108864 + st * 1048576 + rn * 65536 + im / 256 % 8 * 4096 + rd * 256 + im % 256)) = 61 := by
  obtain ⟨h1, h2, h3, h4, h5, h6, h7, h8, h9, h10⟩ := h
  have g0 : 0 ≤ im / 2048 ∧ im / 2048 ≤ 1 := by omega
  have g1 : 0 ≤ im / 256 % 8 ∧ im / 256 % 8 ≤ 7 := by omega
  have g2 : 0 ≤ im % 256 ∧ im % 256 ≤ 255 := by omega
  generalize im / 2048 = y0 at g0 ⊢
  generalize im / 256 % 8 = y1 at g1 ⊢
  generalize im % 256 = y2 at g2 ⊢
  clear h5
  have e1 : (4033806336 + (y0 * 67108864 + st * 1048576 + rn * 65536 + y1 * 4096 + rd * 256 + y2)) / 65536 = 61551 + y0 * 1024 + st * 16 + rn := by omega
  have e2 : (4033806336 + (y0 * 67108864 + st * 1048576 + rn * 65536 + y1 * 4096 + rd * 256 + y2)) % 65536 = 0 + y1 * 4096 + rd * 256 + y2 := by omega
  unfold decW
  rw [e1, e2]
  clear e1 e2
  rw [hl_imm (o := 3) (r := rd) (n := 15) (by omega) (by omega) (by omega) (by omega) (by omega) (by omega)]
  unfold decO
  simp
theorem dec_62 {f rd rn rm ra im kd bs st cd rg : Int} (hf : f = 62) (h : (rd = 0) ∧ ((0 ≤ rn ∧ rn ≤ 12 ∨ rn = 14)) ∧ (rm = 0) ∧ (ra = 0) ∧ (0 ≤ im ∧ im ≤ 4095) ∧ (kd = 0) ∧ (bs = 0) ∧ (st = 0) ∧ (cd = 0) ∧ (rg = 0)) : decW (4027584256 + (im / 2048 * 67108864 + st * 1048576 + rn * 65536 + im / 256 % 8 * 4096 + rd * 256 + im % 256)) = 62 := by
  obtain ⟨h1, h2, h3, h4, h5, h6, h7, h8, h9, h10⟩ := h
  have g0 : 0 ≤ im / 2048 ∧ im / 2048 ≤ 1 := by omega
  have g1 : 0 ≤ im / 256 % 8 ∧ im / 256 % 8 ≤ 7 := by omega
  have g2 : 0 ≤ im % 256 ∧ im % 256 ≤ 255 := by omega
  generalize im / 2048 = y0 at g0 ⊢
  generalize im / 256 % 8 = y1 at g1 ⊢
  generalize im % 256 = y2 at g2 ⊢
  clear h5
  have e1 : (4027584256 + (y0 * 67108864 + st * 1048576 + rn * 65536 + y1 * 4096 + rd * 256 + y2)) / 65536 = 61456 + y0 * 1024 + st * 16 + rn := by omega
  have e2 : (4027584256 + (y0 * 67108864 + st * 1048576 + rn * 65536 + y1 * 4096 + rd * 256 + y2)) % 65536 = 3840 + y1 * 4096 + rd * 256 + y2 := by omega
  unfold decW
  rw [e1, e2]
  clear e1 e2
  rw [hl_imm (o := 0) (r := 15) (n := rn) (by omega) (by omega) (by omega) (by omega) (by omega) (by omega)]
  unfold decO
  simp
theorem dec_63 {f rd rn rm ra im kd bs st cd rg : Int} (hf : f = 63) (h : (rd = 0) ∧ ((0 ≤ rn ∧ rn ≤ 12 ∨ rn = 14)) ∧ (rm = 0) ∧ (ra = 0) ∧ (0 ≤ im ∧ im ≤ 4095) ∧ (kd = 0) ∧ (bs = 0) ∧ (st = 0) ∧ (cd = 0) ∧ (rg = 0)) : decW (4035972864 + (im / 2048 * 67108864 + st * 1048576 + rn * 65536 + im / 256 % 8 * 4096 + rd * 256 + im % 256)) = 63 := by
  obtain ⟨h1, h2, h3, h4, h5, h6, h7, h8, h9, h10⟩ := h
  have g0 : 0 ≤ im / 2048 ∧ im / 2048 ≤ 1 := by omega
  have g1 : 0 ≤ im / 256 % 8 ∧ im / 256 % 8 ≤ 7 := by omega
  have g2 : 0 ≤ im % 256 ∧ im % 256 ≤ 255 := by omega
  generalize im / 2048 = y0 at g0 ⊢
  generalize im / 256 % 8 = y1 at g1 ⊢
  generalize im % 256 = y2 at g2 ⊢
  clear h5
  have e1 : (4035972864 + (y0 * 67108864 + st * 1048576 + rn * 65536 + y1 * 4096 + rd * 256 + y2)) / 65536 = 61584 + y0 * 1024 + st * 16 + rn := by omega
  have e2 : (4035972864 + (y0 * 67108864 + st * 1048576 + rn * 65536 + y1 * 4096 + rd * 256 + y2)) % 65536 = 3840 + y1 * 4096 + rd * 256 + y2 := by omega
  unfold decW
  rw [e1, e2]
  clear e1 e2
  rw [hl_imm (o := 4) (r := 15) (n := rn) (by omega) (by omega) (by omega) (by omega) (by omega) (by omega)]
  unfold decO
  simp
theorem dec_64 {f rd rn rm ra im kd bs st cd rg : Int} (hf : f = 64) (h : (rd = 0) ∧ ((0 ≤ rn ∧ rn ≤ 12 ∨ rn = 14)) ∧ (rm = 0) ∧ (ra = 0) ∧ (0 ≤ im ∧ im ≤ 4095) ∧ (kd = 0) ∧ (bs = 0) ∧ (st = 0) ∧ (cd = 0) ∧ (rg = 0)) : decW (4044361472 + (im / 2048 * 67108864 + st * 1048576 + rn * 65536 + im / 256 % 8 * 4096 + rd * 256 + im % 256)) = 64 := by
  obtain ⟨h1, h2, h3, h4, h5, h6, h7, h8, h9, h10⟩ := h
  have g0 : 0 ≤ im / 2048 ∧ im / 2048 ≤ 1 := by omega
  have g1 : 0 ≤ im / 256 % 8 ∧ im / 256 % 8 ≤ 7 := by omega
  have g2 : 0 ≤ im % 256 ∧ im % 256 ≤ 255 := by omega
  generalize im / 2048 = y0 at g0 ⊢
  generalize im / 256 % 8 = y1 at g1 ⊢
  generalize im % 256 = y2 at g2 ⊢
  clear h5
  have e1 : (4044361472 + (y0 * 67108864 + st * 1048576 + rn * 65536 + y1 * 4096 + rd * 256 + y2)) / 65536 = 61712 + y0 * 1024 + st * 16 + rn := by omega
  have e2 : (4044361472 + (y0 * 67108864 + st * 1048576 + rn * 65536 + y1 * 4096 + rd * 256 + y2)) % 65536 = 3840 + y1 * 4096 + rd * 256 + y2 := by omega
  unfold decW
  rw [e1, e2]
  clear e1 e2
  rw [hl_imm (o := 8) (r := 15) (n := rn) (by omega) (by omega) (by omega) (by omega) (by omega) (by omega)]
  unfold decO
  simp
theorem dec_65 {f rd rn rm ra im kd bs st cd rg : Int} (hf : f = 65) (h : (rd = 0) ∧ ((0 ≤ rn ∧ rn ≤ 12 ∨ rn = 14)) ∧ (rm = 0) ∧ (ra = 0) ∧ (0 ≤ im ∧ im ≤ 4095) ∧ (kd = 0) ∧ (bs = 0) ∧ (st = 0) ∧ (cd = 0) ∧ (rg = 0)) : decW (4054847232 + (im / 2048 * 67108864 + st * 1048576 + rn * 65536 + im / 256 % 8 * 4096 + rd * 256 + im % 256)) = 65 := by
  obtain ⟨h1, h2, h3, h4, h5, h6, h7, h8, h9, h10⟩ := h
  have g0 : 0 ≤ im / 2048 ∧ im / 2048 ≤ 1 := by omega
  have g1 : 0 ≤ im / 256 % 8 ∧ im / 256 % 8 ≤ 7 := by omega
  have g2 : 0 ≤ im % 256 ∧ im % 256 ≤ 255 := by omega
  generalize im / 2048 = y0 at g0 ⊢
  generalize im / 256 % 8 = y1 at g1 ⊢
  generalize im % 256 = y2 at g2 ⊢
  clear h5
  have e1 : (4054847232 + (y0 * 67108864 + st * 1048576 + rn * 65536 + y1 * 4096 + rd * 256 + y2)) / 65536 = 61872 + y0 * 1024 + st * 16 + rn := by omega
  have e2 : (4054847232 + (y0 * 67108864 + st * 1048576 + rn * 65536 + y1 * 4096 + rd * 256 + y2)) % 65536 = 3840 + y1 * 4096 + rd * 256 + y2 := by omega
  unfold decW
  rw [e1, e2]
  clear e1 e2
  rw [hl_imm (o := 13) (r := 15) (n := rn) (by omega) (by omega) (by omega) (by omega) (by omega) (by omega)]
  unfold decO
  simp

end Go.Proofs.YtegefbndpkbooaaDoor.Code

/-! The form of a right instruction is told by its word: forms 66 to 81. -/
set_option linter.unusedVariables false
set_option linter.unusedSimpArgs false
namespace Go.Proofs.YtegefbndpkbooaaDoor.Code
open Go.Proofs.YtegefbndpkbooaaDoor.Alu Go.Proofs.YtegefbndpkbooaaDoor.Imm Go.Proofs.YtegefbndpkbooaaDoor.Inst

theorem dec_66 {f rd rn rm ra im kd bs st cd rg : Int} (hf : f = 66) (h : ((0 ≤ rd ∧ rd ≤ 12 ∨ rd = 14)) ∧ ((0 ≤ rn ∧ rn ≤ 12 ∨ rn = 14)) ∧ ((0 ≤ rm ∧ rm ≤ 12 ∨ rm = 14)) ∧ (ra = 0) ∧ (im = 0) ∧ (0 ≤ st ∧ st ≤ 1) ∧ (cd = 0) ∧ (rg = 0) ∧ ((kd = 0 ∧ 0 ≤ bs ∧ bs ≤ 31) ∨ ((kd = 1 ∨ kd = 2) ∧ 1 ≤ bs ∧ bs ≤ 32) ∨ (kd = 3 ∧ 1 ≤ bs ∧ bs ≤ 31))) : decW (3925868544 + (st * 1048576 + rn * 65536 + bs / 4 % 8 * 4096 + rd * 256 + bs % 4 * 64 + kd * 16 + rm)) = 66 := by
  obtain ⟨h1, h2, h3, h4, h5, h6, h7, h8, h9⟩ := h
  have g0 : 0 ≤ bs / 4 % 8 ∧ bs / 4 % 8 ≤ 7 := by omega
  have g1 : 0 ≤ bs % 4 ∧ bs % 4 ≤ 3 := by omega
  generalize bs / 4 % 8 = y0 at g0 ⊢
  generalize bs % 4 = y1 at g1 ⊢
  have e1 : (3925868544 + (st * 1048576 + rn * 65536 + y0 * 4096 + rd * 256 + y1 * 64 + kd * 16 + rm)) / 65536 = 59904 + st * 16 + rn := by omega
  have e2 : (3925868544 + (st * 1048576 + rn * 65536 + y0 * 4096 + rd * 256 + y1 * 64 + kd * 16 + rm)) % 65536 = 0 + y0 * 4096 + rd * 256 + y1 * 64 + kd * 16 + rm := by omega
  unfold decW
  rw [e1, e2]
  clear e1 e2
  rw [hl_shift (o := 0) (r := rd) (n := rn) (by omega) (by omega) (by omega) (by omega)]
  unfold decO
  have hr : ¬ rd = 15 := by omega
  simp [hr]
theorem dec_67 {f rd rn rm ra im kd bs st cd rg : Int} (hf : f = 67) (h : ((0 ≤ rd ∧ rd ≤ 12 ∨ rd = 14)) ∧ ((0 ≤ rn ∧ rn ≤ 12 ∨ rn = 14)) ∧ ((0 ≤ rm ∧ rm ≤ 12 ∨ rm = 14)) ∧ (ra = 0) ∧ (im = 0) ∧ (0 ≤ st ∧ st ≤ 1) ∧ (cd = 0) ∧ (rg = 0) ∧ ((kd = 0 ∧ 0 ≤ bs ∧ bs ≤ 31) ∨ ((kd = 1 ∨ kd = 2) ∧ 1 ≤ bs ∧ bs ≤ 32) ∨ (kd = 3 ∧ 1 ≤ bs ∧ bs ≤ 31))) : decW (3927965696 + (st * 1048576 + rn * 65536 + bs / 4 % 8 * 4096 + rd * 256 + bs % 4 * 64 + kd * 16 + rm)) = 67 := by
  obtain ⟨h1, h2, h3, h4, h5, h6, h7, h8, h9⟩ := h
  have g0 : 0 ≤ bs / 4 % 8 ∧ bs / 4 % 8 ≤ 7 := by omega
  have g1 : 0 ≤ bs % 4 ∧ bs % 4 ≤ 3 := by omega
  generalize bs / 4 % 8 = y0 at g0 ⊢
  generalize bs % 4 = y1 at g1 ⊢
  have e1 : (3927965696 + (st * 1048576 + rn * 65536 + y0 * 4096 + rd * 256 + y1 * 64 + kd * 16 + rm)) / 65536 = 59936 + st * 16 + rn := by omega
  have e2 : (3927965696 + (st * 1048576 + rn * 65536 + y0 * 4096 + rd * 256 + y1 * 64 + kd * 16 + rm)) % 65536 = 0 + y0 * 4096 + rd * 256 + y1 * 64 + kd * 16 + rm := by omega
  unfold decW
  rw [e1, e2]
  clear e1 e2
  rw [hl_shift (o := 1) (r := rd) (n := rn) (by omega) (by omega) (by omega) (by omega)]
  unfold decO
  simp
theorem dec_68 {f rd rn rm ra im kd bs st cd rg : Int} (hf : f = 68) (h : ((0 ≤ rd ∧ rd ≤ 12 ∨ rd = 14)) ∧ ((0 ≤ rn ∧ rn ≤ 12 ∨ rn = 14)) ∧ ((0 ≤ rm ∧ rm ≤ 12 ∨ rm = 14)) ∧ (ra = 0) ∧ (im = 0) ∧ (0 ≤ st ∧ st ≤ 1) ∧ (cd = 0) ∧ (rg = 0) ∧ ((kd = 0 ∧ 0 ≤ bs ∧ bs ≤ 31) ∨ ((kd = 1 ∨ kd = 2) ∧ 1 ≤ bs ∧ bs ≤ 32) ∨ (kd = 3 ∧ 1 ≤ bs ∧ bs ≤ 31))) : decW (3930062848 + (st * 1048576 + rn * 65536 + bs / 4 % 8 * 4096 + rd * 256 + bs % 4 * 64 + kd * 16 + rm)) = 68 := by
  obtain ⟨h1, h2, h3, h4, h5, h6, h7, h8, h9⟩ := h
  have g0 : 0 ≤ bs / 4 % 8 ∧ bs / 4 % 8 ≤ 7 := by omega
  have g1 : 0 ≤ bs % 4 ∧ bs % 4 ≤ 3 := by omega
  generalize bs / 4 % 8 = y0 at g0 ⊢
  generalize bs % 4 = y1 at g1 ⊢
  have e1 : (3930062848 + (st * 1048576 + rn * 65536 + y0 * 4096 + rd * 256 + y1 * 64 + kd * 16 + rm)) / 65536 = 59968 + st * 16 + rn := by omega
  have e2 : (3930062848 + (st * 1048576 + rn * 65536 + y0 * 4096 + rd * 256 + y1 * 64 + kd * 16 + rm)) % 65536 = 0 + y0 * 4096 + rd * 256 + y1 * 64 + kd * 16 + rm := by omega
  unfold decW
  rw [e1, e2]
  clear e1 e2
  rw [hl_shift (o := 2) (r := rd) (n := rn) (by omega) (by omega) (by omega) (by omega)]
  unfold decO
  have hr : ¬ rn = 15 := by omega
  simp [hr]
theorem dec_69 {f rd rn rm ra im kd bs st cd rg : Int} (hf : f = 69) (h : ((0 ≤ rd ∧ rd ≤ 12 ∨ rd = 14)) ∧ ((0 ≤ rn ∧ rn ≤ 12 ∨ rn = 14)) ∧ ((0 ≤ rm ∧ rm ≤ 12 ∨ rm = 14)) ∧ (ra = 0) ∧ (im = 0) ∧ (0 ≤ st ∧ st ≤ 1) ∧ (cd = 0) ∧ (rg = 0) ∧ ((kd = 0 ∧ 0 ≤ bs ∧ bs ≤ 31) ∨ ((kd = 1 ∨ kd = 2) ∧ 1 ≤ bs ∧ bs ≤ 32) ∨ (kd = 3 ∧ 1 ≤ bs ∧ bs ≤ 31))) : decW (3932160000 + (st * 1048576 + rn * 65536 + bs / 4 % 8 * 4096 + rd * 256 + bs % 4 * 64 + kd * 16 + rm)) = 69 := by
  obtain ⟨h1, h2, h3, h4, h5, h6, h7, h8, h9⟩ := h
  have g0 : 0 ≤ bs / 4 % 8 ∧ bs / 4 % 8 ≤ 7 := by omega
  have g1 : 0 ≤ bs % 4 ∧ bs % 4 ≤ 3 := by omega
  generalize bs / 4 % 8 = y0 at g0 ⊢
  generalize bs % 4 = y1 at g1 ⊢
  have e1 : (3932160000 + (st * 1048576 + rn * 65536 + y0 * 4096 + rd * 256 + y1 * 64 + kd * 16 + rm)) / 65536 = 60000 + st * 16 + rn := by omega
  have e2 : (3932160000 + (st * 1048576 + rn * 65536 + y0 * 4096 + rd * 256 + y1 * 64 + kd * 16 + rm)) % 65536 = 0 + y0 * 4096 + rd * 256 + y1 * 64 + kd * 16 + rm := by omega
  unfold decW
  rw [e1, e2]
  clear e1 e2
  rw [hl_shift (o := 3) (r := rd) (n := rn) (by omega) (by omega) (by omega) (by omega)]
  unfold decO
  have hr : ¬ rn = 15 := by omega
  simp [hr]
theorem dec_70 {f rd rn rm ra im kd bs st cd rg : Int} (hf : f = 70) (h : ((0 ≤ rd ∧ rd ≤ 12 ∨ rd = 14)) ∧ ((0 ≤ rn ∧ rn ≤ 12 ∨ rn = 14)) ∧ ((0 ≤ rm ∧ rm ≤ 12 ∨ rm = 14)) ∧ (ra = 0) ∧ (im = 0) ∧ (0 ≤ st ∧ st ≤ 1) ∧ (cd = 0) ∧ (rg = 0) ∧ ((kd = 0 ∧ 0 ≤ bs ∧ bs ≤ 31) ∨ ((kd = 1 ∨ kd = 2) ∧ 1 ≤ bs ∧ bs ≤ 32) ∨ (kd = 3 ∧ 1 ≤ bs ∧ bs ≤ 31))) : decW (3934257152 + (st * 1048576 + rn * 65536 + bs / 4 % 8 * 4096 + rd * 256 + bs % 4 * 64 + kd * 16 + rm)) = 70 := by
  obtain ⟨h1, h2, h3, h4, h5, h6, h7, h8, h9⟩ := h
  have g0 : 0 ≤ bs / 4 % 8 ∧ bs / 4 % 8 ≤ 7 := by omega
  have g1 : 0 ≤ bs % 4 ∧ bs % 4 ≤ 3 := by omega
  generalize bs / 4 % 8 = y0 at g0 ⊢
  generalize bs % 4 = y1 at g1 ⊢
  have e1 : (3934257152 + (st * 1048576 + rn * 65536 + y0 * 4096 + rd * 256 + y1 * 64 + kd * 16 + rm)) / 65536 = 60032 + st * 16 + rn := by omega
  have e2 : (3934257152 + (st * 1048576 + rn * 65536 + y0 * 4096 + rd * 256 + y1 * 64 + kd * 16 + rm)) % 65536 = 0 + y0 * 4096 + rd * 256 + y1 * 64 + kd * 16 + rm := by omega
  unfold decW
  rw [e1, e2]
  clear e1 e2
  rw [hl_shift (o := 4) (r := rd) (n := rn) (by omega) (by omega) (by omega) (by omega)]
  unfold decO
  have hr : ¬ rd = 15 := by omega
  simp [hr]
theorem dec_71 {f rd rn rm ra im kd bs st cd rg : Int} (hf : f = 71) (h : ((0 ≤ rd ∧ rd ≤ 12 ∨ rd = 14)) ∧ ((0 ≤ rn ∧ rn ≤ 12 ∨ rn = 14)) ∧ ((0 ≤ rm ∧ rm ≤ 12 ∨ rm = 14)) ∧ (ra = 0) ∧ (im = 0) ∧ (0 ≤ st ∧ st ≤ 1) ∧ (cd = 0) ∧ (rg = 0) ∧ ((kd = 0 ∧ 0 ≤ bs ∧ bs ≤ 31) ∨ ((kd = 1 ∨ kd = 2) ∧ 1 ≤ bs ∧ bs ≤ 32) ∨ (kd = 3 ∧ 1 ≤ bs ∧ bs ≤ 31))) : decW (3942645760 + (st * 1048576 + rn * 65536 + bs / 4 % 8 * 4096 + rd * 256 + bs % 4 * 64 + kd * 16 + rm)) = 71 := by
  obtain ⟨h1, h2, h3, h4, h5, h6, h7, h8, h9⟩ := h
  have g0 : 0 ≤ bs / 4 % 8 ∧ bs / 4 % 8 ≤ 7 := by omega
  have g1 : 0 ≤ bs % 4 ∧ bs % 4 ≤ 3 := by omega
  generalize bs / 4 % 8 = y0 at g0 ⊢
  generalize bs % 4 = y1 at g1 ⊢
  have e1 : (3942645760 + (st * 1048576 + rn * 65536 + y0 * 4096 + rd * 256 + y1 * 64 + kd * 16 + rm)) / 65536 = 60160 + st * 16 + rn := by omega
  have e2 : (3942645760 + (st * 1048576 + rn * 65536 + y0 * 4096 + rd * 256 + y1 * 64 + kd * 16 + rm)) % 65536 = 0 + y0 * 4096 + rd * 256 + y1 * 64 + kd * 16 + rm := by omega
  unfold decW
  rw [e1, e2]
  clear e1 e2
  rw [hl_shift (o := 8) (r := rd) (n := rn) (by omega) (by omega) (by omega) (by omega)]
  unfold decO
  have hr : ¬ rd = 15 := by omega
  simp [hr]
theorem dec_72 {f rd rn rm ra im kd bs st cd rg : Int} (hf : f = 72) (h : ((0 ≤ rd ∧ rd ≤ 12 ∨ rd = 14)) ∧ ((0 ≤ rn ∧ rn ≤ 12 ∨ rn = 14)) ∧ ((0 ≤ rm ∧ rm ≤ 12 ∨ rm = 14)) ∧ (ra = 0) ∧ (im = 0) ∧ (0 ≤ st ∧ st ≤ 1) ∧ (cd = 0) ∧ (rg = 0) ∧ ((kd = 0 ∧ 0 ≤ bs ∧ bs ≤ 31) ∨ ((kd = 1 ∨ kd = 2) ∧ 1 ≤ bs ∧ bs ≤ 32) ∨ (kd = 3 ∧ 1 ≤ bs ∧ bs ≤ 31))) : decW (3946840064 + (st * 1048576 + rn * 65536 + bs / 4 % 8 * 4096 + rd * 256 + bs % 4 * 64 + kd * 16 + rm)) = 72 := by
  obtain ⟨h1, h2, h3, h4, h5, h6, h7, h8, h9⟩ := h
  have g0 : 0 ≤ bs / 4 % 8 ∧ bs / 4 % 8 ≤ 7 := by omega
  have g1 : 0 ≤ bs % 4 ∧ bs % 4 ≤ 3 := by omega
  generalize bs / 4 % 8 = y0 at g0 ⊢
  generalize bs % 4 = y1 at g1 ⊢
  have e1 : (3946840064 + (st * 1048576 + rn * 65536 + y0 * 4096 + rd * 256 + y1 * 64 + kd * 16 + rm)) / 65536 = 60224 + st * 16 + rn := by omega
  have e2 : (3946840064 + (st * 1048576 + rn * 65536 + y0 * 4096 + rd * 256 + y1 * 64 + kd * 16 + rm)) % 65536 = 0 + y0 * 4096 + rd * 256 + y1 * 64 + kd * 16 + rm := by omega
  unfold decW
  rw [e1, e2]
  clear e1 e2
  rw [hl_shift (o := 10) (r := rd) (n := rn) (by omega) (by omega) (by omega) (by omega)]
  unfold decO
  simp
theorem dec_73 {f rd rn rm ra im kd bs st cd rg : Int} (hf : f = 73) (h : ((0 ≤ rd ∧ rd ≤ 12 ∨ rd = 14)) ∧ ((0 ≤ rn ∧ rn ≤ 12 ∨ rn = 14)) ∧ ((0 ≤ rm ∧ rm ≤ 12 ∨ rm = 14)) ∧ (ra = 0) ∧ (im = 0) ∧ (0 ≤ st ∧ st ≤ 1) ∧ (cd = 0) ∧ (rg = 0) ∧ ((kd = 0 ∧ 0 ≤ bs ∧ bs ≤ 31) ∨ ((kd = 1 ∨ kd = 2) ∧ 1 ≤ bs ∧ bs ≤ 32) ∨ (kd = 3 ∧ 1 ≤ bs ∧ bs ≤ 31))) : decW (3948937216 + (st * 1048576 + rn * 65536 + bs / 4 % 8 * 4096 + rd * 256 + bs % 4 * 64 + kd * 16 + rm)) = 73 := by
  obtain ⟨h1, h2, h3, h4, h5, h6, h7, h8, h9⟩ := h
  have g0 : 0 ≤ bs / 4 % 8 ∧ bs / 4 % 8 ≤ 7 := by omega
  have g1 : 0 ≤ bs % 4 ∧ bs % 4 ≤ 3 := by omega
  generalize bs / 4 % 8 = y0 at g0 ⊢
  generalize bs % 4 = y1 at g1 ⊢
  have e1 : (3948937216 + (st * 1048576 + rn * 65536 + y0 * 4096 + rd * 256 + y1 * 64 + kd * 16 + rm)) / 65536 = 60256 + st * 16 + rn := by omega
  have e2 : (3948937216 + (st * 1048576 + rn * 65536 + y0 * 4096 + rd * 256 + y1 * 64 + kd * 16 + rm)) % 65536 = 0 + y0 * 4096 + rd * 256 + y1 * 64 + kd * 16 + rm := by omega
  unfold decW
  rw [e1, e2]
  clear e1 e2
  rw [hl_shift (o := 11) (r := rd) (n := rn) (by omega) (by omega) (by omega) (by omega)]
  unfold decO
  simp
theorem dec_74 {f rd rn rm ra im kd bs st cd rg : Int} (hf : f = 74) (h : ((0 ≤ rd ∧ rd ≤ 12 ∨ rd = 14)) ∧ ((0 ≤ rn ∧ rn ≤ 12 ∨ rn = 14)) ∧ ((0 ≤ rm ∧ rm ≤ 12 ∨ rm = 14)) ∧ (ra = 0) ∧ (im = 0) ∧ (0 ≤ st ∧ st ≤ 1) ∧ (cd = 0) ∧ (rg = 0) ∧ ((kd = 0 ∧ 0 ≤ bs ∧ bs ≤ 31) ∨ ((kd = 1 ∨ kd = 2) ∧ 1 ≤ bs ∧ bs ≤ 32) ∨ (kd = 3 ∧ 1 ≤ bs ∧ bs ≤ 31))) : decW (3953131520 + (st * 1048576 + rn * 65536 + bs / 4 % 8 * 4096 + rd * 256 + bs % 4 * 64 + kd * 16 + rm)) = 74 := by
  obtain ⟨h1, h2, h3, h4, h5, h6, h7, h8, h9⟩ := h
  have g0 : 0 ≤ bs / 4 % 8 ∧ bs / 4 % 8 ≤ 7 := by omega
  have g1 : 0 ≤ bs % 4 ∧ bs % 4 ≤ 3 := by omega
  generalize bs / 4 % 8 = y0 at g0 ⊢
  generalize bs % 4 = y1 at g1 ⊢
  have e1 : (3953131520 + (st * 1048576 + rn * 65536 + y0 * 4096 + rd * 256 + y1 * 64 + kd * 16 + rm)) / 65536 = 60320 + st * 16 + rn := by omega
  have e2 : (3953131520 + (st * 1048576 + rn * 65536 + y0 * 4096 + rd * 256 + y1 * 64 + kd * 16 + rm)) % 65536 = 0 + y0 * 4096 + rd * 256 + y1 * 64 + kd * 16 + rm := by omega
  unfold decW
  rw [e1, e2]
  clear e1 e2
  rw [hl_shift (o := 13) (r := rd) (n := rn) (by omega) (by omega) (by omega) (by omega)]
  unfold decO
  have hr : ¬ rd = 15 := by omega
  simp [hr]
theorem dec_75 {f rd rn rm ra im kd bs st cd rg : Int} (hf : f = 75) (h : ((0 ≤ rd ∧ rd ≤ 12 ∨ rd = 14)) ∧ ((0 ≤ rn ∧ rn ≤ 12 ∨ rn = 14)) ∧ ((0 ≤ rm ∧ rm ≤ 12 ∨ rm = 14)) ∧ (ra = 0) ∧ (im = 0) ∧ (0 ≤ st ∧ st ≤ 1) ∧ (cd = 0) ∧ (rg = 0) ∧ ((kd = 0 ∧ 0 ≤ bs ∧ bs ≤ 31) ∨ ((kd = 1 ∨ kd = 2) ∧ 1 ≤ bs ∧ bs ≤ 32) ∨ (kd = 3 ∧ 1 ≤ bs ∧ bs ≤ 31))) : decW (3955228672 + (st * 1048576 + rn * 65536 + bs / 4 % 8 * 4096 + rd * 256 + bs % 4 * 64 + kd * 16 + rm)) = 75 := by
  obtain ⟨h1, h2, h3, h4, h5, h6, h7, h8, h9⟩ := h
  have g0 : 0 ≤ bs / 4 % 8 ∧ bs / 4 % 8 ≤ 7 := by omega
  have g1 : 0 ≤ bs % 4 ∧ bs % 4 ≤ 3 := by omega
  generalize bs / 4 % 8 = y0 at g0 ⊢
  generalize bs % 4 = y1 at g1 ⊢
  have e1 : (3955228672 + (st * 1048576 + rn * 65536 + y0 * 4096 + rd * 256 + y1 * 64 + kd * 16 + rm)) / 65536 = 60352 + st * 16 + rn := by omega
  have e2 : (3955228672 + (st * 1048576 + rn * 65536 + y0 * 4096 + rd * 256 + y1 * 64 + kd * 16 + rm)) % 65536 = 0 + y0 * 4096 + rd * 256 + y1 * 64 + kd * 16 + rm := by omega
  unfold decW
  rw [e1, e2]
  clear e1 e2
  rw [hl_shift (o := 14) (r := rd) (n := rn) (by omega) (by omega) (by omega) (by omega)]
  unfold decO
  simp
theorem dec_76 {f rd rn rm ra im kd bs st cd rg : Int} (hf : f = 76) (h : ((0 ≤ rd ∧ rd ≤ 12 ∨ rd = 14)) ∧ (rn = 0) ∧ ((0 ≤ rm ∧ rm ≤ 12 ∨ rm = 14)) ∧ (ra = 0) ∧ (im = 0) ∧ (0 ≤ st ∧ st ≤ 1) ∧ (cd = 0) ∧ (rg = 0) ∧ ((kd = 0 ∧ 0 ≤ bs ∧ bs ≤ 31) ∨ ((kd = 1 ∨ kd = 2) ∧ 1 ≤ bs ∧ bs ≤ 32) ∨ (kd = 3 ∧ 1 ≤ bs ∧ bs ≤ 31))) : decW (3931045888 + (st * 1048576 + rn * 65536 + bs / 4 % 8 * 4096 + rd * 256 + bs % 4 * 64 + kd * 16 + rm)) = 76 := by
  obtain ⟨h1, h2, h3, h4, h5, h6, h7, h8, h9⟩ := h
  have g0 : 0 ≤ bs / 4 % 8 ∧ bs / 4 % 8 ≤ 7 := by omega
  have g1 : 0 ≤ bs % 4 ∧ bs % 4 ≤ 3 := by omega
  generalize bs / 4 % 8 = y0 at g0 ⊢
  generalize bs % 4 = y1 at g1 ⊢
  have e1 : (3931045888 + (st * 1048576 + rn * 65536 + y0 * 4096 + rd * 256 + y1 * 64 + kd * 16 + rm)) / 65536 = 59983 + st * 16 + rn := by omega
  have e2 : (3931045888 + (st * 1048576 + rn * 65536 + y0 * 4096 + rd * 256 + y1 * 64 + kd * 16 + rm)) % 65536 = 0 + y0 * 4096 + rd * 256 + y1 * 64 + kd * 16 + rm := by omega
  unfold decW
  rw [e1, e2]
  clear e1 e2
  rw [hl_shift (o := 2) (r := rd) (n := 15) (by omega) (by omega) (by omega) (by omega)]
  unfold decO
  simp
theorem dec_77 {f rd rn rm ra im kd bs st cd rg : Int} (hf : f = 77) (h : ((0 ≤ rd ∧ rd ≤ 12 ∨ rd = 14)) ∧ (rn = 0) ∧ ((0 ≤ rm ∧ rm ≤ 12 ∨ rm = 14)) ∧ (ra = 0) ∧ (im = 0) ∧ (0 ≤ st ∧ st ≤ 1) ∧ (cd = 0) ∧ (rg = 0) ∧ ((kd = 0 ∧ 0 ≤ bs ∧ bs ≤ 31) ∨ ((kd = 1 ∨ kd = 2) ∧ 1 ≤ bs ∧ bs ≤ 32) ∨ (kd = 3 ∧ 1 ≤ bs ∧ bs ≤ 31))) : decW (3933143040 + (st * 1048576 + rn * 65536 + bs / 4 % 8 * 4096 + rd * 256 + bs % 4 * 64 + kd * 16 + rm)) = 77 := by
  obtain ⟨h1, h2, h3, h4, h5, h6, h7, h8, h9⟩ := h
  have g0 : 0 ≤ bs / 4 % 8 ∧ bs / 4 % 8 ≤ 7 := by omega
  have g1 : 0 ≤ bs % 4 ∧ bs % 4 ≤ 3 := by omega
  generalize bs / 4 % 8 = y0 at g0 ⊢
  generalize bs % 4 = y1 at g1 ⊢
  have e1 : (3933143040 + (st * 1048576 + rn * 65536 + y0 * 4096 + rd * 256 + y1 * 64 + kd * 16 + rm)) / 65536 = 60015 + st * 16 + rn := by omega
  have e2 : (3933143040 + (st * 1048576 + rn * 65536 + y0 * 4096 + rd * 256 + y1 * 64 + kd * 16 + rm)) % 65536 = 0 + y0 * 4096 + rd * 256 + y1 * 64 + kd * 16 + rm := by omega
  unfold decW
  rw [e1, e2]
  clear e1 e2
  rw [hl_shift (o := 3) (r := rd) (n := 15) (by omega) (by omega) (by omega) (by omega)]
  unfold decO
  simp
theorem dec_78 {f rd rn rm ra im kd bs st cd rg : Int} (hf : f = 78) (h : (rd = 0) ∧ ((0 ≤ rn ∧ rn ≤ 12 ∨ rn = 14)) ∧ ((0 ≤ rm ∧ rm ≤ 12 ∨ rm = 14)) ∧ (ra = 0) ∧ (im = 0) ∧ (st = 0) ∧ (cd = 0) ∧ (rg = 0) ∧ ((kd = 0 ∧ 0 ≤ bs ∧ bs ≤ 31) ∨ ((kd = 1 ∨ kd = 2) ∧ 1 ≤ bs ∧ bs ≤ 32) ∨ (kd = 3 ∧ 1 ≤ bs ∧ bs ≤ 31))) : decW (3926920960 + (st * 1048576 + rn * 65536 + bs / 4 % 8 * 4096 + rd * 256 + bs % 4 * 64 + kd * 16 + rm)) = 78 := by
  obtain ⟨h1, h2, h3, h4, h5, h6, h7, h8, h9⟩ := h
  have g0 : 0 ≤ bs / 4 % 8 ∧ bs / 4 % 8 ≤ 7 := by omega
  have g1 : 0 ≤ bs % 4 ∧ bs % 4 ≤ 3 := by omega
  generalize bs / 4 % 8 = y0 at g0 ⊢
  generalize bs % 4 = y1 at g1 ⊢
  have e1 : (3926920960 + (st * 1048576 + rn * 65536 + y0 * 4096 + rd * 256 + y1 * 64 + kd * 16 + rm)) / 65536 = 59920 + st * 16 + rn := by omega
  have e2 : (3926920960 + (st * 1048576 + rn * 65536 + y0 * 4096 + rd * 256 + y1 * 64 + kd * 16 + rm)) % 65536 = 3840 + y0 * 4096 + rd * 256 + y1 * 64 + kd * 16 + rm := by omega
  unfold decW
  rw [e1, e2]
  clear e1 e2
  rw [hl_shift (o := 0) (r := 15) (n := rn) (by omega) (by omega) (by omega) (by omega)]
  unfold decO
  simp
theorem dec_79 {f rd rn rm ra im kd bs st cd rg : Int} (hf : f = 79) (h : (rd = 0) ∧ ((0 ≤ rn ∧ rn ≤ 12 ∨ rn = 14)) ∧ ((0 ≤ rm ∧ rm ≤ 12 ∨ rm = 14)) ∧ (ra = 0) ∧ (im = 0) ∧ (st = 0) ∧ (cd = 0) ∧ (rg = 0) ∧ ((kd = 0 ∧ 0 ≤ bs ∧ bs ≤ 31) ∨ ((kd = 1 ∨ kd = 2) ∧ 1 ≤ bs ∧ bs ≤ 32) ∨ (kd = 3 ∧ 1 ≤ bs ∧ bs ≤ 31))) : decW (3935309568 + (st * 1048576 + rn * 65536 + bs / 4 % 8 * 4096 + rd * 256 + bs % 4 * 64 + kd * 16 + rm)) = 79 := by
  obtain ⟨h1, h2, h3, h4, h5, h6, h7, h8, h9⟩ := h
  have g0 : 0 ≤ bs / 4 % 8 ∧ bs / 4 % 8 ≤ 7 := by omega
  have g1 : 0 ≤ bs % 4 ∧ bs % 4 ≤ 3 := by omega
  generalize bs / 4 % 8 = y0 at g0 ⊢
  generalize bs % 4 = y1 at g1 ⊢
  have e1 : (3935309568 + (st * 1048576 + rn * 65536 + y0 * 4096 + rd * 256 + y1 * 64 + kd * 16 + rm)) / 65536 = 60048 + st * 16 + rn := by omega
  have e2 : (3935309568 + (st * 1048576 + rn * 65536 + y0 * 4096 + rd * 256 + y1 * 64 + kd * 16 + rm)) % 65536 = 3840 + y0 * 4096 + rd * 256 + y1 * 64 + kd * 16 + rm := by omega
  unfold decW
  rw [e1, e2]
  clear e1 e2
  rw [hl_shift (o := 4) (r := 15) (n := rn) (by omega) (by omega) (by omega) (by omega)]
  unfold decO
  simp
theorem dec_80 {f rd rn rm ra im kd bs st cd rg : Int} (hf : f = 80) (h : (rd = 0) ∧ ((0 ≤ rn ∧ rn ≤ 12 ∨ rn = 14)) ∧ ((0 ≤ rm ∧ rm ≤ 12 ∨ rm = 14)) ∧ (ra = 0) ∧ (im = 0) ∧ (st = 0) ∧ (cd = 0) ∧ (rg = 0) ∧ ((kd = 0 ∧ 0 ≤ bs ∧ bs ≤ 31) ∨ ((kd = 1 ∨ kd = 2) ∧ 1 ≤ bs ∧ bs ≤ 32) ∨ (kd = 3 ∧ 1 ≤ bs ∧ bs ≤ 31))) : decW (3943698176 + (st * 1048576 + rn * 65536 + bs / 4 % 8 * 4096 + rd * 256 + bs % 4 * 64 + kd * 16 + rm)) = 80 := by
  obtain ⟨h1, h2, h3, h4, h5, h6, h7, h8, h9⟩ := h
  have g0 : 0 ≤ bs / 4 % 8 ∧ bs / 4 % 8 ≤ 7 := by omega
  have g1 : 0 ≤ bs % 4 ∧ bs % 4 ≤ 3 := by omega
  generalize bs / 4 % 8 = y0 at g0 ⊢
  generalize bs % 4 = y1 at g1 ⊢
  have e1 : (3943698176 + (st * 1048576 + rn * 65536 + y0 * 4096 + rd * 256 + y1 * 64 + kd * 16 + rm)) / 65536 = 60176 + st * 16 + rn := by omega
  have e2 : (3943698176 + (st * 1048576 + rn * 65536 + y0 * 4096 + rd * 256 + y1 * 64 + kd * 16 + rm)) % 65536 = 3840 + y0 * 4096 + rd * 256 + y1 * 64 + kd * 16 + rm := by omega
  unfold decW
  rw [e1, e2]
  clear e1 e2
  rw [hl_shift (o := 8) (r := 15) (n := rn) (by omega) (by omega) (by omega) (by omega)]
  unfold decO
  simp
theorem dec_81 {f rd rn rm ra im kd bs st cd rg : Int} (hf : f = 81) (h : (rd = 0) ∧ ((0 ≤ rn ∧ rn ≤ 12 ∨ rn = 14)) ∧ ((0 ≤ rm ∧ rm ≤ 12 ∨ rm = 14)) ∧ (ra = 0) ∧ (im = 0) ∧ (st = 0) ∧ (cd = 0) ∧ (rg = 0) ∧ ((kd = 0 ∧ 0 ≤ bs ∧ bs ≤ 31) ∨ ((kd = 1 ∨ kd = 2) ∧ 1 ≤ bs ∧ bs ≤ 32) ∨ (kd = 3 ∧ 1 ≤ bs ∧ bs ≤ 31))) : decW (3954183936 + (st * 1048576 + rn * 65536 + bs / 4 % 8 * 4096 + rd * 256 + bs % 4 * 64 + kd * 16 + rm)) = 81 := by
  obtain ⟨h1, h2, h3, h4, h5, h6, h7, h8, h9⟩ := h
  have g0 : 0 ≤ bs / 4 % 8 ∧ bs / 4 % 8 ≤ 7 := by omega
  have g1 : 0 ≤ bs % 4 ∧ bs % 4 ≤ 3 := by omega
  generalize bs / 4 % 8 = y0 at g0 ⊢
  generalize bs % 4 = y1 at g1 ⊢
  have e1 : (3954183936 + (st * 1048576 + rn * 65536 + y0 * 4096 + rd * 256 + y1 * 64 + kd * 16 + rm)) / 65536 = 60336 + st * 16 + rn := by omega
  have e2 : (3954183936 + (st * 1048576 + rn * 65536 + y0 * 4096 + rd * 256 + y1 * 64 + kd * 16 + rm)) % 65536 = 3840 + y0 * 4096 + rd * 256 + y1 * 64 + kd * 16 + rm := by omega
  unfold decW
  rw [e1, e2]
  clear e1 e2
  rw [hl_shift (o := 13) (r := 15) (n := rn) (by omega) (by omega) (by omega) (by omega)]
  unfold decO
  simp

end Go.Proofs.YtegefbndpkbooaaDoor.Code

/-! The form of a right instruction is told by its word: forms 82 to 100. -/
set_option linter.unusedVariables false
set_option linter.unusedSimpArgs false
namespace Go.Proofs.YtegefbndpkbooaaDoor.Code
open Go.Proofs.YtegefbndpkbooaaDoor.Alu Go.Proofs.YtegefbndpkbooaaDoor.Imm Go.Proofs.YtegefbndpkbooaaDoor.Inst

theorem dec_82 {f rd rn rm ra im kd bs st cd rg : Int} (hf : f = 82) (h : ((0 ≤ rd ∧ rd ≤ 12 ∨ rd = 14)) ∧ ((0 ≤ rn ∧ rn ≤ 12 ∨ rn = 14)) ∧ (rm = 0) ∧ (ra = 0) ∧ (0 ≤ im ∧ im ≤ 4095) ∧ (kd = 0) ∧ (bs = 0) ∧ (st = 0) ∧ (cd = 0) ∧ (rg = 0)) : decW (4060086272 + (im / 2048 * 67108864 + st * 1048576 + rn * 65536 + im / 256 % 8 * 4096 + rd * 256 + im % 256)) = 82 := by
  obtain ⟨h1, h2, h3, h4, h5, h6, h7, h8, h9, h10⟩ := h
  have g0 : 0 ≤ im / 2048 ∧ im / 2048 ≤ 1 := by omega
  have g1 : 0 ≤ im / 256 % 8 ∧ im / 256 % 8 ≤ 7 := by omega
  have g2 : 0 ≤ im % 256 ∧ im % 256 ≤ 255 := by omega
  generalize im / 2048 = y0 at g0 ⊢
  generalize im / 256 % 8 = y1 at g1 ⊢
  generalize im % 256 = y2 at g2 ⊢
  clear h5
  have e1 : (4060086272 + (y0 * 67108864 + st * 1048576 + rn * 65536 + y1 * 4096 + rd * 256 + y2)) / 65536 = 61952 + y0 * 1024 + st * 16 + rn := by omega
  have e2 : (4060086272 + (y0 * 67108864 + st * 1048576 + rn * 65536 + y1 * 4096 + rd * 256 + y2)) % 65536 = 0 + y1 * 4096 + rd * 256 + y2 := by omega
  unfold decW
  rw [e1, e2]
  clear e1 e2
  rw [hl_plain (c := 0) (by omega) (by omega) (by omega) (by omega)]
  simp
theorem dec_83 {f rd rn rm ra im kd bs st cd rg : Int} (hf : f = 83) (h : ((0 ≤ rd ∧ rd ≤ 12 ∨ rd = 14)) ∧ ((0 ≤ rn ∧ rn ≤ 12 ∨ rn = 14)) ∧ (rm = 0) ∧ (ra = 0) ∧ (0 ≤ im ∧ im ≤ 4095) ∧ (kd = 0) ∧ (bs = 0) ∧ (st = 0) ∧ (cd = 0) ∧ (rg = 0)) : decW (4070572032 + (im / 2048 * 67108864 + st * 1048576 + rn * 65536 + im / 256 % 8 * 4096 + rd * 256 + im % 256)) = 83 := by
  obtain ⟨h1, h2, h3, h4, h5, h6, h7, h8, h9, h10⟩ := h
  have g0 : 0 ≤ im / 2048 ∧ im / 2048 ≤ 1 := by omega
  have g1 : 0 ≤ im / 256 % 8 ∧ im / 256 % 8 ≤ 7 := by omega
  have g2 : 0 ≤ im % 256 ∧ im % 256 ≤ 255 := by omega
  generalize im / 2048 = y0 at g0 ⊢
  generalize im / 256 % 8 = y1 at g1 ⊢
  generalize im % 256 = y2 at g2 ⊢
  clear h5
  have e1 : (4070572032 + (y0 * 67108864 + st * 1048576 + rn * 65536 + y1 * 4096 + rd * 256 + y2)) / 65536 = 62112 + y0 * 1024 + st * 16 + rn := by omega
  have e2 : (4070572032 + (y0 * 67108864 + st * 1048576 + rn * 65536 + y1 * 4096 + rd * 256 + y2)) % 65536 = 0 + y1 * 4096 + rd * 256 + y2 := by omega
  unfold decW
  rw [e1, e2]
  clear e1 e2
  rw [hl_plain (c := 10) (by omega) (by omega) (by omega) (by omega)]
  simp
theorem dec_84 {f rd rn rm ra im kd bs st cd rg : Int} (hf : f = 84) (h : ((0 ≤ rd ∧ rd ≤ 12 ∨ rd = 14)) ∧ (0 ≤ rn ∧ rn ≤ 14) ∧ (rm = 0) ∧ (ra = 0) ∧ (0 ≤ im ∧ im ≤ 4095) ∧ (kd = 0) ∧ (bs = 0) ∧ (st = 0) ∧ (cd = 0) ∧ (rg = 0)) : decW (4173332480 + (rn * 65536 + rd * 4096 + im)) = 84 := by
  obtain ⟨h1, h2, h3, h4, h5, h6, h7, h8, h9, h10⟩ := h
  have e1 : (4173332480 + (rn * 65536 + rd * 4096 + im)) / 65536 = 63680 + rn := by omega
  have e2 : (4173332480 + (rn * 65536 + rd * 4096 + im)) % 65536 = 0 + rd * 4096 + im := by omega
  unfold decW
  rw [e1, e2]
  clear e1 e2
  rw [hl_more (c := 3980) (d := 1990) (by omega) (by omega) (by omega) rfl rfl]
  repeat (first | rw [if_pos (by omega)] | rw [if_neg (by omega)])
theorem dec_85 {f rd rn rm ra im kd bs st cd rg : Int} (hf : f = 85) (h : ((0 ≤ rd ∧ rd ≤ 12 ∨ rd = 14)) ∧ (0 ≤ rn ∧ rn ≤ 14) ∧ (rm = 0) ∧ (ra = 0) ∧ (0 ≤ im ∧ im ≤ 4095) ∧ (kd = 0) ∧ (bs = 0) ∧ (st = 0) ∧ (cd = 0) ∧ (rg = 0)) : decW (4174381056 + (rn * 65536 + rd * 4096 + im)) = 85 := by
  obtain ⟨h1, h2, h3, h4, h5, h6, h7, h8, h9, h10⟩ := h
  have e1 : (4174381056 + (rn * 65536 + rd * 4096 + im)) / 65536 = 63696 + rn := by omega
  have e2 : (4174381056 + (rn * 65536 + rd * 4096 + im)) % 65536 = 0 + rd * 4096 + im := by omega
  unfold decW
  rw [e1, e2]
  clear e1 e2
  rw [hl_more (c := 3981) (d := 1990) (by omega) (by omega) (by omega) rfl rfl]
  repeat (first | rw [if_pos (by omega)] | rw [if_neg (by omega)])
theorem dec_86 {f rd rn rm ra im kd bs st cd rg : Int} (hf : f = 86) (h : ((0 ≤ rd ∧ rd ≤ 12 ∨ rd = 14)) ∧ (0 ≤ rn ∧ rn ≤ 14) ∧ ((0 ≤ rm ∧ rm ≤ 12 ∨ rm = 14)) ∧ (ra = 0) ∧ (im = 0) ∧ (kd = 0) ∧ (0 ≤ bs ∧ bs ≤ 3) ∧ (st = 0) ∧ (cd = 0) ∧ (rg = 0)) : decW (4164943872 + (rn * 65536 + rd * 4096 + bs * 16 + rm)) = 86 := by
  obtain ⟨h1, h2, h3, h4, h5, h6, h7, h8, h9, h10⟩ := h
  have e1 : (4164943872 + (rn * 65536 + rd * 4096 + bs * 16 + rm)) / 65536 = 63552 + rn := by omega
  have e2 : (4164943872 + (rn * 65536 + rd * 4096 + bs * 16 + rm)) % 65536 = 0 + rd * 4096 + bs * 16 + rm := by omega
  unfold decW
  rw [e1, e2]
  clear e1 e2
  rw [hl_more (c := 3972) (d := 1986) (by omega) (by omega) (by omega) rfl rfl]
  repeat (first | rw [if_pos (by omega)] | rw [if_neg (by omega)])
theorem dec_87 {f rd rn rm ra im kd bs st cd rg : Int} (hf : f = 87) (h : ((0 ≤ rd ∧ rd ≤ 12 ∨ rd = 14)) ∧ (0 ≤ rn ∧ rn ≤ 14) ∧ ((0 ≤ rm ∧ rm ≤ 12 ∨ rm = 14)) ∧ (ra = 0) ∧ (im = 0) ∧ (kd = 0) ∧ (0 ≤ bs ∧ bs ≤ 3) ∧ (st = 0) ∧ (cd = 0) ∧ (rg = 0)) : decW (4165992448 + (rn * 65536 + rd * 4096 + bs * 16 + rm)) = 87 := by
  obtain ⟨h1, h2, h3, h4, h5, h6, h7, h8, h9, h10⟩ := h
  have e1 : (4165992448 + (rn * 65536 + rd * 4096 + bs * 16 + rm)) / 65536 = 63568 + rn := by omega
  have e2 : (4165992448 + (rn * 65536 + rd * 4096 + bs * 16 + rm)) % 65536 = 0 + rd * 4096 + bs * 16 + rm := by omega
  unfold decW
  rw [e1, e2]
  clear e1 e2
  rw [hl_more (c := 3973) (d := 1986) (by omega) (by omega) (by omega) rfl rfl]
  repeat (first | rw [if_pos (by omega)] | rw [if_neg (by omega)])
theorem dec_88 {f rd rn rm ra im kd bs st cd rg : Int} (hf : f = 88) (h : ((0 ≤ rd ∧ rd ≤ 12 ∨ rd = 14)) ∧ ((0 ≤ rn ∧ rn ≤ 12 ∨ rn = 14)) ∧ ((0 ≤ rm ∧ rm ≤ 12 ∨ rm = 14)) ∧ (ra = 0) ∧ (im = 0) ∧ (kd = 0) ∧ (bs = 0) ∧ (0 ≤ st ∧ st ≤ 1) ∧ (cd = 0) ∧ (rg = 0)) : decW (4194365440 + (st * 1048576 + rn * 65536 + ra * 4096 + rd * 256 + rm)) = 88 := by
  obtain ⟨h1, h2, h3, h4, h5, h6, h7, h8, h9, h10⟩ := h
  have e1 : (4194365440 + (st * 1048576 + rn * 65536 + ra * 4096 + rd * 256 + rm)) / 65536 = 64000 + st * 16 + rn := by omega
  have e2 : (4194365440 + (st * 1048576 + rn * 65536 + ra * 4096 + rd * 256 + rm)) % 65536 = 61440 + ra * 4096 + rd * 256 + rm := by omega
  unfold decW
  rw [e1, e2]
  clear e1 e2
  rw [hl_more (c := 4000 + st) (d := 2000) (by omega) (by omega) (by omega) rfl rfl]
  repeat (first | rw [if_pos (by omega)] | rw [if_neg (by omega)])
theorem dec_89 {f rd rn rm ra im kd bs st cd rg : Int} (hf : f = 89) (h : ((0 ≤ rd ∧ rd ≤ 12 ∨ rd = 14)) ∧ ((0 ≤ rn ∧ rn ≤ 12 ∨ rn = 14)) ∧ ((0 ≤ rm ∧ rm ≤ 12 ∨ rm = 14)) ∧ (ra = 0) ∧ (im = 0) ∧ (kd = 0) ∧ (bs = 0) ∧ (0 ≤ st ∧ st ≤ 1) ∧ (cd = 0) ∧ (rg = 0)) : decW (4196462592 + (st * 1048576 + rn * 65536 + ra * 4096 + rd * 256 + rm)) = 89 := by
  obtain ⟨h1, h2, h3, h4, h5, h6, h7, h8, h9, h10⟩ := h
  have e1 : (4196462592 + (st * 1048576 + rn * 65536 + ra * 4096 + rd * 256 + rm)) / 65536 = 64032 + st * 16 + rn := by omega
  have e2 : (4196462592 + (st * 1048576 + rn * 65536 + ra * 4096 + rd * 256 + rm)) % 65536 = 61440 + ra * 4096 + rd * 256 + rm := by omega
  unfold decW
  rw [e1, e2]
  clear e1 e2
  rw [hl_more (c := 4002 + st) (d := 2001) (by omega) (by omega) (by omega) rfl rfl]
  repeat (first | rw [if_pos (by omega)] | rw [if_neg (by omega)])
theorem dec_90 {f rd rn rm ra im kd bs st cd rg : Int} (hf : f = 90) (h : ((0 ≤ rd ∧ rd ≤ 12 ∨ rd = 14)) ∧ ((0 ≤ rn ∧ rn ≤ 12 ∨ rn = 14)) ∧ ((0 ≤ rm ∧ rm ≤ 12 ∨ rm = 14)) ∧ (ra = 0) ∧ (im = 0) ∧ (kd = 0) ∧ (bs = 0) ∧ (0 ≤ st ∧ st ≤ 1) ∧ (cd = 0) ∧ (rg = 0)) : decW (4198559744 + (st * 1048576 + rn * 65536 + ra * 4096 + rd * 256 + rm)) = 90 := by
  obtain ⟨h1, h2, h3, h4, h5, h6, h7, h8, h9, h10⟩ := h
  have e1 : (4198559744 + (st * 1048576 + rn * 65536 + ra * 4096 + rd * 256 + rm)) / 65536 = 64064 + st * 16 + rn := by omega
  have e2 : (4198559744 + (st * 1048576 + rn * 65536 + ra * 4096 + rd * 256 + rm)) % 65536 = 61440 + ra * 4096 + rd * 256 + rm := by omega
  unfold decW
  rw [e1, e2]
  clear e1 e2
  rw [hl_more (c := 4004 + st) (d := 2002) (by omega) (by omega) (by omega) rfl rfl]
  repeat (first | rw [if_pos (by omega)] | rw [if_neg (by omega)])
theorem dec_91 {f rd rn rm ra im kd bs st cd rg : Int} (hf : f = 91) (h : ((0 ≤ rd ∧ rd ≤ 12 ∨ rd = 14)) ∧ ((0 ≤ rn ∧ rn ≤ 12 ∨ rn = 14)) ∧ ((0 ≤ rm ∧ rm ≤ 12 ∨ rm = 14)) ∧ (ra = 0) ∧ (im = 0) ∧ (kd = 0) ∧ (bs = 0) ∧ (0 ≤ st ∧ st ≤ 1) ∧ (cd = 0) ∧ (rg = 0)) : decW (4200656896 + (st * 1048576 + rn * 65536 + ra * 4096 + rd * 256 + rm)) = 91 := by
  obtain ⟨h1, h2, h3, h4, h5, h6, h7, h8, h9, h10⟩ := h
  have e1 : (4200656896 + (st * 1048576 + rn * 65536 + ra * 4096 + rd * 256 + rm)) / 65536 = 64096 + st * 16 + rn := by omega
  have e2 : (4200656896 + (st * 1048576 + rn * 65536 + ra * 4096 + rd * 256 + rm)) % 65536 = 61440 + ra * 4096 + rd * 256 + rm := by omega
  unfold decW
  rw [e1, e2]
  clear e1 e2
  rw [hl_more (c := 4006 + st) (d := 2003) (by omega) (by omega) (by omega) rfl rfl]
  repeat (first | rw [if_pos (by omega)] | rw [if_neg (by omega)])
theorem dec_92 {f rd rn rm ra im kd bs st cd rg : Int} (hf : f = 92) (h : ((0 ≤ rd ∧ rd ≤ 12 ∨ rd = 14)) ∧ ((0 ≤ rn ∧ rn ≤ 12 ∨ rn = 14)) ∧ ((0 ≤ rm ∧ rm ≤ 12 ∨ rm = 14)) ∧ (ra = 0) ∧ (im = 0) ∧ (kd = 0) ∧ (bs = 0) ∧ (st = 0) ∧ (cd = 0) ∧ (rg = 0)) : decW (4211142656 + (st * 1048576 + rn * 65536 + ra * 4096 + rd * 256 + rm)) = 92 := by
  obtain ⟨h1, h2, h3, h4, h5, h6, h7, h8, h9, h10⟩ := h
  have e1 : (4211142656 + (st * 1048576 + rn * 65536 + ra * 4096 + rd * 256 + rm)) / 65536 = 64256 + st * 16 + rn := by omega
  have e2 : (4211142656 + (st * 1048576 + rn * 65536 + ra * 4096 + rd * 256 + rm)) % 65536 = 61440 + ra * 4096 + rd * 256 + rm := by omega
  unfold decW
  rw [e1, e2]
  clear e1 e2
  rw [hl_more (c := 4016) (d := 2008) (by omega) (by omega) (by omega) (show _ = (0 : Int) by omega) (show _ = (15 : Int) by omega)]
  repeat (first | rw [if_pos (by omega)] | rw [if_neg (by omega)])
theorem dec_93 {f rd rn rm ra im kd bs st cd rg : Int} (hf : f = 93) (h : ((0 ≤ rd ∧ rd ≤ 12 ∨ rd = 14)) ∧ ((0 ≤ rn ∧ rn ≤ 12 ∨ rn = 14)) ∧ ((0 ≤ rm ∧ rm ≤ 12 ∨ rm = 14)) ∧ ((0 ≤ ra ∧ ra ≤ 12 ∨ ra = 14)) ∧ (im = 0) ∧ (kd = 0) ∧ (bs = 0) ∧ (st = 0) ∧ (cd = 0) ∧ (rg = 0)) : decW (4211081216 + (st * 1048576 + rn * 65536 + ra * 4096 + rd * 256 + rm)) = 93 := by
  obtain ⟨h1, h2, h3, h4, h5, h6, h7, h8, h9, h10⟩ := h
  have e1 : (4211081216 + (st * 1048576 + rn * 65536 + ra * 4096 + rd * 256 + rm)) / 65536 = 64256 + st * 16 + rn := by omega
  have e2 : (4211081216 + (st * 1048576 + rn * 65536 + ra * 4096 + rd * 256 + rm)) % 65536 = 0 + ra * 4096 + rd * 256 + rm := by omega
  unfold decW
  rw [e1, e2]
  clear e1 e2
  rw [hl_more (c := 4016) (d := 2008) (by omega) (by omega) (by omega) (show _ = (0 : Int) by omega) (show _ = (ra : Int) by omega)]
  repeat (first | rw [if_pos (by omega)] | rw [if_neg (by omega)])
theorem dec_94 {f rd rn rm ra im kd bs st cd rg : Int} (hf : f = 94) (h : ((0 ≤ rd ∧ rd ≤ 12 ∨ rd = 14)) ∧ ((0 ≤ rn ∧ rn ≤ 12 ∨ rn = 14)) ∧ ((0 ≤ rm ∧ rm ≤ 12 ∨ rm = 14)) ∧ ((0 ≤ ra ∧ ra ≤ 12 ∨ ra = 14)) ∧ (im = 0) ∧ (kd = 0) ∧ (bs = 0) ∧ (st = 0) ∧ (cd = 0) ∧ (rg = 0)) : decW (4211081232 + (st * 1048576 + rn * 65536 + ra * 4096 + rd * 256 + rm)) = 94 := by
  obtain ⟨h1, h2, h3, h4, h5, h6, h7, h8, h9, h10⟩ := h
  have e1 : (4211081232 + (st * 1048576 + rn * 65536 + ra * 4096 + rd * 256 + rm)) / 65536 = 64256 + st * 16 + rn := by omega
  have e2 : (4211081232 + (st * 1048576 + rn * 65536 + ra * 4096 + rd * 256 + rm)) % 65536 = 16 + ra * 4096 + rd * 256 + rm := by omega
  unfold decW
  rw [e1, e2]
  clear e1 e2
  rw [hl_more (c := 4016) (d := 2008) (by omega) (by omega) (by omega) (show _ = (1 : Int) by omega) (show _ = (ra : Int) by omega)]
  repeat (first | rw [if_pos (by omega)] | rw [if_neg (by omega)])
theorem dec_95 {f rd rn rm ra im kd bs st cd rg : Int} (hf : f = 95) (h : ((0 ≤ rd ∧ rd ≤ 12 ∨ rd = 14)) ∧ ((0 ≤ rn ∧ rn ≤ 12 ∨ rn = 14)) ∧ ((0 ≤ rm ∧ rm ≤ 12 ∨ rm = 14)) ∧ ((0 ≤ ra ∧ ra ≤ 12 ∨ ra = 14)) ∧ (im = 0) ∧ (kd = 0) ∧ (bs = 0) ∧ (st = 0) ∧ (cd = 0) ∧ (rg = 0)) : decW (4221566976 + (rn * 65536 + rd * 4096 + ra * 256 + rm)) = 95 := by
  obtain ⟨h1, h2, h3, h4, h5, h6, h7, h8, h9, h10⟩ := h
  have e1 : (4221566976 + (rn * 65536 + rd * 4096 + ra * 256 + rm)) / 65536 = 64416 + rn := by omega
  have e2 : (4221566976 + (rn * 65536 + rd * 4096 + ra * 256 + rm)) % 65536 = 0 + rd * 4096 + ra * 256 + rm := by omega
  unfold decW
  rw [e1, e2]
  clear e1 e2
  rw [hl_more (c := 4026) (d := 2013) (by omega) (by omega) (by omega) rfl rfl]
  repeat (first | rw [if_pos (by omega)] | rw [if_neg (by omega)])
theorem dec_96 {f rd rn rm ra im kd bs st cd rg : Int} (hf : f = 96) (h : ((0 ≤ rd ∧ rd ≤ 12 ∨ rd = 14)) ∧ ((0 ≤ rn ∧ rn ≤ 12 ∨ rn = 14)) ∧ ((0 ≤ rm ∧ rm ≤ 12 ∨ rm = 14)) ∧ ((0 ≤ ra ∧ ra ≤ 12 ∨ ra = 14)) ∧ (im = 0) ∧ (kd = 0) ∧ (bs = 0) ∧ (st = 0) ∧ (cd = 0) ∧ (rg = 0)) : decW (4225761280 + (rn * 65536 + rd * 4096 + ra * 256 + rm)) = 96 := by
  obtain ⟨h1, h2, h3, h4, h5, h6, h7, h8, h9, h10⟩ := h
  have e1 : (4225761280 + (rn * 65536 + rd * 4096 + ra * 256 + rm)) / 65536 = 64480 + rn := by omega
  have e2 : (4225761280 + (rn * 65536 + rd * 4096 + ra * 256 + rm)) % 65536 = 0 + rd * 4096 + ra * 256 + rm := by omega
  unfold decW
  rw [e1, e2]
  clear e1 e2
  rw [hl_more (c := 4030) (d := 2015) (by omega) (by omega) (by omega) rfl rfl]
  repeat (first | rw [if_pos (by omega)] | rw [if_neg (by omega)])
theorem dec_97 {f rd rn rm ra im kd bs st cd rg : Int} (hf : f = 97) (h : ((0 ≤ rd ∧ rd ≤ 12 ∨ rd = 14)) ∧ ((0 ≤ rn ∧ rn ≤ 12 ∨ rn = 14)) ∧ ((0 ≤ rm ∧ rm ≤ 12 ∨ rm = 14)) ∧ (ra = 0) ∧ (im = 0) ∧ (kd = 0) ∧ (bs = 0) ∧ (st = 0) ∧ (cd = 0) ∧ (rg = 0)) : decW (4222677232 + (st * 1048576 + rn * 65536 + ra * 4096 + rd * 256 + rm)) = 97 := by
  obtain ⟨h1, h2, h3, h4, h5, h6, h7, h8, h9, h10⟩ := h
  have e1 : (4222677232 + (st * 1048576 + rn * 65536 + ra * 4096 + rd * 256 + rm)) / 65536 = 64432 + st * 16 + rn := by omega
  have e2 : (4222677232 + (st * 1048576 + rn * 65536 + ra * 4096 + rd * 256 + rm)) % 65536 = 61680 + ra * 4096 + rd * 256 + rm := by omega
  unfold decW
  rw [e1, e2]
  clear e1 e2
  rw [hl_more (c := 4027) (d := 2013) (by omega) (by omega) (by omega) (show _ = (15 : Int) by omega) (show _ = (15 : Int) by omega)]
  repeat (first | rw [if_pos (by omega)] | rw [if_neg (by omega)])
theorem dec_98 {f rd rn rm ra im kd bs st cd rg : Int} (hf : f = 98) (h : ((0 ≤ rd ∧ rd ≤ 12 ∨ rd = 14)) ∧ (rn = 0) ∧ ((0 ≤ rm ∧ rm ≤ 12 ∨ rm = 14)) ∧ (ra = 0) ∧ (im = 0) ∧ (kd = 0) ∧ (bs = 0) ∧ (st = 0) ∧ (cd = 0) ∧ (rg = 0)) : decW (4205899904 + (rm * 65536 + rd * 256 + rm)) = 98 := by
  obtain ⟨h1, h2, h3, h4, h5, h6, h7, h8, h9, h10⟩ := h
  have e1 : (4205899904 + (rm * 65536 + rd * 256 + rm)) / 65536 = 64176 + rm := by omega
  have e2 : (4205899904 + (rm * 65536 + rd * 256 + rm)) % 65536 = 61568 + rd * 256 + rm := by omega
  unfold decW
  rw [e1, e2]
  clear e1 e2
  rw [hl_more (c := 4011) (d := 2005) (by omega) (by omega) (by omega) rfl rfl]
  repeat (first | rw [if_pos (by omega)] | rw [if_neg (by omega)])
theorem dec_99 {f rd rn rm ra im kd bs st cd rg : Int} (hf : f = 99) (h : (rd = 0) ∧ (rn = 0) ∧ (rm = 0) ∧ (ra = 0) ∧ (-1048576 ≤ im ∧ im ≤ 1048574 ∧ im % 2 = 0) ∧ (kd = 0) ∧ (bs = 0) ∧ (st = 0) ∧ (0 ≤ cd ∧ cd ≤ 13) ∧ (rg = 0)) : decW (4026564608 + (im / 1048576 % 2 * 67108864 + cd * 4194304 + im / 4096 % 64 * 65536 + im / 262144 % 2 * 8192 + im / 524288 % 2 * 2048 + im / 2 % 2048)) = 99 := by
  obtain ⟨h1, h2, h3, h4, h5, h6, h7, h8, h9, h10⟩ := h
  have g0 : 0 ≤ im / 1048576 % 2 ∧ im / 1048576 % 2 ≤ 1 := by omega
  have g1 : 0 ≤ im / 4096 % 64 ∧ im / 4096 % 64 ≤ 63 := by omega
  have g2 : 0 ≤ im / 262144 % 2 ∧ im / 262144 % 2 ≤ 1 := by omega
  have g3 : 0 ≤ im / 524288 % 2 ∧ im / 524288 % 2 ≤ 1 := by omega
  have g4 : 0 ≤ im / 2 % 2048 ∧ im / 2 % 2048 ≤ 2047 := by omega
  generalize im / 1048576 % 2 = y0 at g0 ⊢
  generalize im / 4096 % 64 = y1 at g1 ⊢
  generalize im / 262144 % 2 = y2 at g2 ⊢
  generalize im / 524288 % 2 = y3 at g3 ⊢
  generalize im / 2 % 2048 = y4 at g4 ⊢
  clear h5
  have e1 : (4026564608 + (y0 * 67108864 + cd * 4194304 + y1 * 65536 + y2 * 8192 + y3 * 2048 + y4)) / 65536 = 61440 + y0 * 1024 + cd * 64 + y1 := by omega
  have e2 : (4026564608 + (y0 * 67108864 + cd * 4194304 + y1 * 65536 + y2 * 8192 + y3 * 2048 + y4)) % 65536 = 32768 + y2 * 8192 + y3 * 2048 + y4 := by omega
  unfold decW
  rw [e1, e2]
  clear e1 e2
  rw [hl_jump (c := 0) (by omega) (by omega) (by omega)]
  simp
theorem dec_100 {f rd rn rm ra im kd bs st cd rg : Int} (hf : f = 100) (h : (rd = 0) ∧ (rn = 0) ∧ (rm = 0) ∧ (ra = 0) ∧ (-16777216 ≤ im ∧ im ≤ 16777214 ∧ im % 2 = 0) ∧ (kd = 0) ∧ (bs = 0) ∧ (st = 0) ∧ (cd = 0) ∧ (rg = 0)) : decW (4026568704 + (im / 16777216 % 2 * 67108864 + im / 4096 % 1024 * 65536 + j1 im * 8192 + j2 im * 2048 + im / 2 % 2048)) = 100 := by
  obtain ⟨h1, h2, h3, h4, h5, h6, h7, h8, h9, h10⟩ := h
  have g0 : 0 ≤ im / 16777216 % 2 ∧ im / 16777216 % 2 ≤ 1 := by omega
  have g1 : 0 ≤ im / 4096 % 1024 ∧ im / 4096 % 1024 ≤ 1023 := by omega
  have g2 : 0 ≤ j1 im ∧ j1 im ≤ 1 := j1_bd im
  have g3 : 0 ≤ j2 im ∧ j2 im ≤ 1 := j2_bd im
  have g4 : 0 ≤ im / 2 % 2048 ∧ im / 2 % 2048 ≤ 2047 := by omega
  generalize im / 16777216 % 2 = y0 at g0 ⊢
  generalize im / 4096 % 1024 = y1 at g1 ⊢
  generalize j1 im = y2 at g2 ⊢
  generalize j2 im = y3 at g3 ⊢
  generalize im / 2 % 2048 = y4 at g4 ⊢
  clear h5
  have e1 : (4026568704 + (y0 * 67108864 + y1 * 65536 + y2 * 8192 + y3 * 2048 + y4)) / 65536 = 61440 + y0 * 1024 + y1 := by omega
  have e2 : (4026568704 + (y0 * 67108864 + y1 * 65536 + y2 * 8192 + y3 * 2048 + y4)) % 65536 = 36864 + y2 * 8192 + y3 * 2048 + y4 := by omega
  unfold decW
  rw [e1, e2]
  clear e1 e2
  rw [hl_jump (c := 1) (by omega) (by omega) (by omega)]
  simp

end Go.Proofs.YtegefbndpkbooaaDoor.Code

/-! The form of any right instruction is told by its word. -/
set_option linter.unusedVariables false
set_option linter.unusedSimpArgs false
namespace Go.Proofs.YtegefbndpkbooaaDoor.Code
open Go.Proofs.YtegefbndpkbooaaDoor.Alu Go.Proofs.YtegefbndpkbooaaDoor.Imm Go.Proofs.YtegefbndpkbooaaDoor.Inst

theorem add_1 (rd rn rm ra im kd bs st cd rg : Int) : add 1 rd rn rm ra im kd bs st cd rg = im % 32 * 64 + rm * 8 + rd := by simp +decide only [add, if_true, if_false]
theorem add_2 (rd rn rm ra im kd bs st cd rg : Int) : add 2 rd rn rm ra im kd bs st cd rg = rm * 64 + rn * 8 + rd := by simp +decide only [add, if_true, if_false]
theorem add_3 (rd rn rm ra im kd bs st cd rg : Int) : add 3 rd rn rm ra im kd bs st cd rg = im * 64 + rn * 8 + rd := by simp +decide only [add, if_true, if_false]
theorem add_4 (rd rn rm ra im kd bs st cd rg : Int) : add 4 rd rn rm ra im kd bs st cd rg = rd * 256 + im := by simp +decide only [add, if_true, if_false]
theorem add_5 (rd rn rm ra im kd bs st cd rg : Int) : add 5 rd rn rm ra im kd bs st cd rg = rm * 8 + rd := by simp +decide only [add, if_true, if_false]
theorem add_6 (rd rn rm ra im kd bs st cd rg : Int) : add 6 rd rn rm ra im kd bs st cd rg = rd / 8 * 128 + rm * 8 + rd % 8 := by simp +decide only [add, if_true, if_false]
theorem add_7 (rd rn rm ra im kd bs st cd rg : Int) : add 7 rd rn rm ra im kd bs st cd rg = rm * 8 := by simp +decide only [add, if_true, if_false]
theorem add_8 (rd rn rm ra im kd bs st cd rg : Int) : add 8 rd rn rm ra im kd bs st cd rg = rd * 256 + im / 4 := by simp +decide only [add, if_true, if_false]
theorem add_9 (rd rn rm ra im kd bs st cd rg : Int) : add 9 rd rn rm ra im kd bs st cd rg = im / 4 * 64 + rn * 8 + rd := by simp +decide only [add, if_true, if_false]
theorem add_10 (rd rn rm ra im kd bs st cd rg : Int) : add 10 rd rn rm ra im kd bs st cd rg = im / 4 := by simp +decide only [add, if_true, if_false]
theorem add_11 (rd rn rm ra im kd bs st cd rg : Int) : add 11 rd rn rm ra im kd bs st cd rg = rg / 16384 % 2 * 256 + rg % 256 := by simp +decide only [add, if_true, if_false]
theorem add_12 (rd rn rm ra im kd bs st cd rg : Int) : add 12 rd rn rm ra im kd bs st cd rg = rg / 32768 % 2 * 256 + rg % 256 := by simp +decide only [add, if_true, if_false]
theorem add_13 (rd rn rm ra im kd bs st cd rg : Int) : add 13 rd rn rm ra im kd bs st cd rg = 0 := by simp +decide only [add, if_true, if_false]
theorem add_14 (rd rn rm ra im kd bs st cd rg : Int) : add 14 rd rn rm ra im kd bs st cd rg = im := by simp +decide only [add, if_true, if_false]
theorem add_15 (rd rn rm ra im kd bs st cd rg : Int) : add 15 rd rn rm ra im kd bs st cd rg = cd * 256 + im / 2 % 256 := by simp +decide only [add, if_true, if_false]
theorem add_16 (rd rn rm ra im kd bs st cd rg : Int) : add 16 rd rn rm ra im kd bs st cd rg = im / 2 % 2048 := by simp +decide only [add, if_true, if_false]
theorem add_17 (rd rn rm ra im kd bs st cd rg : Int) : add 17 rd rn rm ra im kd bs st cd rg = im / 2048 % 2 * 67108864 + im / 4096 * 65536 + im / 256 % 8 * 4096 + rd * 256 + im % 256 := by simp +decide only [add, if_true, if_false]
theorem add_18 (rd rn rm ra im kd bs st cd rg : Int) : add 18 rd rn rm ra im kd bs st cd rg = im / 2048 * 67108864 + st * 1048576 + rn * 65536 + im / 256 % 8 * 4096 + rd * 256 + im % 256 := by simp +decide only [add, if_true, if_false]
theorem add_19 (rd rn rm ra im kd bs st cd rg : Int) : add 19 rd rn rm ra im kd bs st cd rg = im / 2048 * 67108864 + st * 1048576 + rn * 65536 + im / 256 % 8 * 4096 + rd * 256 + im % 256 := by simp +decide only [add, if_true, if_false]
theorem add_20 (rd rn rm ra im kd bs st cd rg : Int) : add 20 rd rn rm ra im kd bs st cd rg = im / 2048 * 67108864 + st * 1048576 + rn * 65536 + im / 256 % 8 * 4096 + rd * 256 + im % 256 := by simp +decide only [add, if_true, if_false]
theorem add_21 (rd rn rm ra im kd bs st cd rg : Int) : add 21 rd rn rm ra im kd bs st cd rg = st * 1048576 + rn * 65536 + bs / 4 % 8 * 4096 + rd * 256 + bs % 4 * 64 + kd * 16 + rm := by simp +decide only [add, if_true, if_false]
theorem add_22 (rd rn rm ra im kd bs st cd rg : Int) : add 22 rd rn rm ra im kd bs st cd rg = st * 1048576 + rn * 65536 + bs / 4 % 8 * 4096 + rd * 256 + bs % 4 * 64 + kd * 16 + rm := by simp +decide only [add, if_true, if_false]
theorem add_23 (rd rn rm ra im kd bs st cd rg : Int) : add 23 rd rn rm ra im kd bs st cd rg = st * 1048576 + rn * 65536 + bs / 4 % 8 * 4096 + rd * 256 + bs % 4 * 64 + kd * 16 + rm := by simp +decide only [add, if_true, if_false]
theorem add_24 (rd rn rm ra im kd bs st cd rg : Int) : add 24 rd rn rm ra im kd bs st cd rg = im / 2048 * 67108864 + st * 1048576 + rn * 65536 + im / 256 % 8 * 4096 + rd * 256 + im % 256 := by simp +decide only [add, if_true, if_false]
theorem add_25 (rd rn rm ra im kd bs st cd rg : Int) : add 25 rd rn rm ra im kd bs st cd rg = rn * 65536 + rd * 4096 + im := by simp +decide only [add, if_true, if_false]
theorem add_26 (rd rn rm ra im kd bs st cd rg : Int) : add 26 rd rn rm ra im kd bs st cd rg = rn * 65536 + rd * 4096 + bs * 16 + rm := by simp +decide only [add, if_true, if_false]
theorem add_27 (rd rn rm ra im kd bs st cd rg : Int) : add 27 rd rn rm ra im kd bs st cd rg = st * 1048576 + rn * 65536 + ra * 4096 + rd * 256 + rm := by simp +decide only [add, if_true, if_false]
theorem add_28 (rd rn rm ra im kd bs st cd rg : Int) : add 28 rd rn rm ra im kd bs st cd rg = st * 1048576 + rn * 65536 + ra * 4096 + rd * 256 + rm := by simp +decide only [add, if_true, if_false]
theorem add_29 (rd rn rm ra im kd bs st cd rg : Int) : add 29 rd rn rm ra im kd bs st cd rg = st * 1048576 + rn * 65536 + ra * 4096 + rd * 256 + rm := by simp +decide only [add, if_true, if_false]
theorem add_30 (rd rn rm ra im kd bs st cd rg : Int) : add 30 rd rn rm ra im kd bs st cd rg = st * 1048576 + rn * 65536 + ra * 4096 + rd * 256 + rm := by simp +decide only [add, if_true, if_false]
theorem add_31 (rd rn rm ra im kd bs st cd rg : Int) : add 31 rd rn rm ra im kd bs st cd rg = rn * 65536 + rd * 4096 + ra * 256 + rm := by simp +decide only [add, if_true, if_false]
theorem add_32 (rd rn rm ra im kd bs st cd rg : Int) : add 32 rd rn rm ra im kd bs st cd rg = rm * 65536 + rd * 256 + rm := by simp +decide only [add, if_true, if_false]
theorem add_33 (rd rn rm ra im kd bs st cd rg : Int) : add 33 rd rn rm ra im kd bs st cd rg = im / 1048576 % 2 * 67108864 + cd * 4194304 + im / 4096 % 64 * 65536 + im / 262144 % 2 * 8192 + im / 524288 % 2 * 2048 + im / 2 % 2048 := by simp +decide only [add, if_true, if_false]
theorem add_34 (rd rn rm ra im kd bs st cd rg : Int) : add 34 rd rn rm ra im kd bs st cd rg = im / 16777216 % 2 * 67108864 + im / 4096 % 1024 * 65536 + j1 im * 8192 + j2 im * 2048 + im / 2 % 2048 := by simp +decide only [add, if_true, if_false]

/-- A right instruction, by the document's way, at its own shape. -/
theorem at_own {f rd rn rm ra im kd bs st cd rg : Int} (h : right f rd rn rm ra im kd bs st cd rg = true) (g0 : -9223372036854775808 ≤ rg) (g1 : rg ≤ 9223372036854775807) :
    (1 ≤ f ∧ f ≤ 100) ∧ (if shp f < 17 then narrowB f (shp f) rd rn rm ra im kd bs st cd rg else wideB (shp f) rd rn rm ra im kd bs st cd rg) = true := by
  rw [right_eq f rd rn rm ra im kd bs st cd rg g0 g1] at h
  unfold refR at h
  cases hi : isF f
  · rw [shp_no hi] at h; simp at h
  · refine ⟨isF_iff.1 hi, ?_⟩
    have := shp_yes hi
    rwa [if_neg (by omega)] at h

theorem own_1 {rd rn rm ra im kd bs st cd rg : Int} (h : (if shp 1 < 17 then narrowB 1 (shp 1) rd rn rm ra im kd bs st cd rg else wideB (shp 1) rd rn rm ra im kd bs st cd rg) = true) : decN (wd 1 rd rn rm ra im kd bs st cd rg) = 1 := by
  have hs : shp 1 = 1 := by decide +kernel
  have hb : bts 1 = 0 := by decide +kernel
  rw [hs] at h
  unfold wd
  rw [hs, hb, add_1]
  exact dec_1 rfl (lin_1 h)
theorem own_2 {rd rn rm ra im kd bs st cd rg : Int} (h : (if shp 2 < 17 then narrowB 2 (shp 2) rd rn rm ra im kd bs st cd rg else wideB (shp 2) rd rn rm ra im kd bs st cd rg) = true) : decN (wd 2 rd rn rm ra im kd bs st cd rg) = 2 := by
  have hs : shp 2 = 1 := by decide +kernel
  have hb : bts 2 = 2048 := by decide +kernel
  rw [hs] at h
  unfold wd
  rw [hs, hb, add_1]
  exact dec_2 rfl (lin_1 h)
theorem own_3 {rd rn rm ra im kd bs st cd rg : Int} (h : (if shp 3 < 17 then narrowB 3 (shp 3) rd rn rm ra im kd bs st cd rg else wideB (shp 3) rd rn rm ra im kd bs st cd rg) = true) : decN (wd 3 rd rn rm ra im kd bs st cd rg) = 3 := by
  have hs : shp 3 = 1 := by decide +kernel
  have hb : bts 3 = 4096 := by decide +kernel
  rw [hs] at h
  unfold wd
  rw [hs, hb, add_1]
  exact dec_3 rfl (lin_1 h)
theorem own_4 {rd rn rm ra im kd bs st cd rg : Int} (h : (if shp 4 < 17 then narrowB 4 (shp 4) rd rn rm ra im kd bs st cd rg else wideB (shp 4) rd rn rm ra im kd bs st cd rg) = true) : decN (wd 4 rd rn rm ra im kd bs st cd rg) = 4 := by
  have hs : shp 4 = 2 := by decide +kernel
  have hb : bts 4 = 6144 := by decide +kernel
  rw [hs] at h
  unfold wd
  rw [hs, hb, add_2]
  exact dec_4 rfl (lin_2 h)
theorem own_5 {rd rn rm ra im kd bs st cd rg : Int} (h : (if shp 5 < 17 then narrowB 5 (shp 5) rd rn rm ra im kd bs st cd rg else wideB (shp 5) rd rn rm ra im kd bs st cd rg) = true) : decN (wd 5 rd rn rm ra im kd bs st cd rg) = 5 := by
  have hs : shp 5 = 2 := by decide +kernel
  have hb : bts 5 = 6656 := by decide +kernel
  rw [hs] at h
  unfold wd
  rw [hs, hb, add_2]
  exact dec_5 rfl (lin_2 h)
theorem own_6 {rd rn rm ra im kd bs st cd rg : Int} (h : (if shp 6 < 17 then narrowB 6 (shp 6) rd rn rm ra im kd bs st cd rg else wideB (shp 6) rd rn rm ra im kd bs st cd rg) = true) : decN (wd 6 rd rn rm ra im kd bs st cd rg) = 6 := by
  have hs : shp 6 = 3 := by decide +kernel
  have hb : bts 6 = 7168 := by decide +kernel
  rw [hs] at h
  unfold wd
  rw [hs, hb, add_3]
  exact dec_6 rfl (lin_3 h)
theorem own_7 {rd rn rm ra im kd bs st cd rg : Int} (h : (if shp 7 < 17 then narrowB 7 (shp 7) rd rn rm ra im kd bs st cd rg else wideB (shp 7) rd rn rm ra im kd bs st cd rg) = true) : decN (wd 7 rd rn rm ra im kd bs st cd rg) = 7 := by
  have hs : shp 7 = 3 := by decide +kernel
  have hb : bts 7 = 7680 := by decide +kernel
  rw [hs] at h
  unfold wd
  rw [hs, hb, add_3]
  exact dec_7 rfl (lin_3 h)
theorem own_8 {rd rn rm ra im kd bs st cd rg : Int} (h : (if shp 8 < 17 then narrowB 8 (shp 8) rd rn rm ra im kd bs st cd rg else wideB (shp 8) rd rn rm ra im kd bs st cd rg) = true) : decN (wd 8 rd rn rm ra im kd bs st cd rg) = 8 := by
  have hs : shp 8 = 4 := by decide +kernel
  have hb : bts 8 = 8192 := by decide +kernel
  rw [hs] at h
  unfold wd
  rw [hs, hb, add_4]
  exact dec_8 rfl (lin_4 h)
theorem own_9 {rd rn rm ra im kd bs st cd rg : Int} (h : (if shp 9 < 17 then narrowB 9 (shp 9) rd rn rm ra im kd bs st cd rg else wideB (shp 9) rd rn rm ra im kd bs st cd rg) = true) : decN (wd 9 rd rn rm ra im kd bs st cd rg) = 9 := by
  have hs : shp 9 = 4 := by decide +kernel
  have hb : bts 9 = 10240 := by decide +kernel
  rw [hs] at h
  unfold wd
  rw [hs, hb, add_4]
  exact dec_9 rfl (lin_4 h)
theorem own_10 {rd rn rm ra im kd bs st cd rg : Int} (h : (if shp 10 < 17 then narrowB 10 (shp 10) rd rn rm ra im kd bs st cd rg else wideB (shp 10) rd rn rm ra im kd bs st cd rg) = true) : decN (wd 10 rd rn rm ra im kd bs st cd rg) = 10 := by
  have hs : shp 10 = 4 := by decide +kernel
  have hb : bts 10 = 12288 := by decide +kernel
  rw [hs] at h
  unfold wd
  rw [hs, hb, add_4]
  exact dec_10 rfl (lin_4 h)
theorem own_11 {rd rn rm ra im kd bs st cd rg : Int} (h : (if shp 11 < 17 then narrowB 11 (shp 11) rd rn rm ra im kd bs st cd rg else wideB (shp 11) rd rn rm ra im kd bs st cd rg) = true) : decN (wd 11 rd rn rm ra im kd bs st cd rg) = 11 := by
  have hs : shp 11 = 4 := by decide +kernel
  have hb : bts 11 = 14336 := by decide +kernel
  rw [hs] at h
  unfold wd
  rw [hs, hb, add_4]
  exact dec_11 rfl (lin_4 h)
theorem own_12 {rd rn rm ra im kd bs st cd rg : Int} (h : (if shp 12 < 17 then narrowB 12 (shp 12) rd rn rm ra im kd bs st cd rg else wideB (shp 12) rd rn rm ra im kd bs st cd rg) = true) : decN (wd 12 rd rn rm ra im kd bs st cd rg) = 12 := by
  have hs : shp 12 = 5 := by decide +kernel
  have hb : bts 12 = 16384 := by decide +kernel
  rw [hs] at h
  unfold wd
  rw [hs, hb, add_5]
  exact dec_12 rfl (lin_5 h)
theorem own_13 {rd rn rm ra im kd bs st cd rg : Int} (h : (if shp 13 < 17 then narrowB 13 (shp 13) rd rn rm ra im kd bs st cd rg else wideB (shp 13) rd rn rm ra im kd bs st cd rg) = true) : decN (wd 13 rd rn rm ra im kd bs st cd rg) = 13 := by
  have hs : shp 13 = 5 := by decide +kernel
  have hb : bts 13 = 16448 := by decide +kernel
  rw [hs] at h
  unfold wd
  rw [hs, hb, add_5]
  exact dec_13 rfl (lin_5 h)
theorem own_14 {rd rn rm ra im kd bs st cd rg : Int} (h : (if shp 14 < 17 then narrowB 14 (shp 14) rd rn rm ra im kd bs st cd rg else wideB (shp 14) rd rn rm ra im kd bs st cd rg) = true) : decN (wd 14 rd rn rm ra im kd bs st cd rg) = 14 := by
  have hs : shp 14 = 5 := by decide +kernel
  have hb : bts 14 = 16512 := by decide +kernel
  rw [hs] at h
  unfold wd
  rw [hs, hb, add_5]
  exact dec_14 rfl (lin_5 h)
theorem own_15 {rd rn rm ra im kd bs st cd rg : Int} (h : (if shp 15 < 17 then narrowB 15 (shp 15) rd rn rm ra im kd bs st cd rg else wideB (shp 15) rd rn rm ra im kd bs st cd rg) = true) : decN (wd 15 rd rn rm ra im kd bs st cd rg) = 15 := by
  have hs : shp 15 = 5 := by decide +kernel
  have hb : bts 15 = 16576 := by decide +kernel
  rw [hs] at h
  unfold wd
  rw [hs, hb, add_5]
  exact dec_15 rfl (lin_5 h)
theorem own_16 {rd rn rm ra im kd bs st cd rg : Int} (h : (if shp 16 < 17 then narrowB 16 (shp 16) rd rn rm ra im kd bs st cd rg else wideB (shp 16) rd rn rm ra im kd bs st cd rg) = true) : decN (wd 16 rd rn rm ra im kd bs st cd rg) = 16 := by
  have hs : shp 16 = 5 := by decide +kernel
  have hb : bts 16 = 16640 := by decide +kernel
  rw [hs] at h
  unfold wd
  rw [hs, hb, add_5]
  exact dec_16 rfl (lin_5 h)
theorem own_17 {rd rn rm ra im kd bs st cd rg : Int} (h : (if shp 17 < 17 then narrowB 17 (shp 17) rd rn rm ra im kd bs st cd rg else wideB (shp 17) rd rn rm ra im kd bs st cd rg) = true) : decN (wd 17 rd rn rm ra im kd bs st cd rg) = 17 := by
  have hs : shp 17 = 5 := by decide +kernel
  have hb : bts 17 = 16704 := by decide +kernel
  rw [hs] at h
  unfold wd
  rw [hs, hb, add_5]
  exact dec_17 rfl (lin_5 h)
theorem own_18 {rd rn rm ra im kd bs st cd rg : Int} (h : (if shp 18 < 17 then narrowB 18 (shp 18) rd rn rm ra im kd bs st cd rg else wideB (shp 18) rd rn rm ra im kd bs st cd rg) = true) : decN (wd 18 rd rn rm ra im kd bs st cd rg) = 18 := by
  have hs : shp 18 = 5 := by decide +kernel
  have hb : bts 18 = 16768 := by decide +kernel
  rw [hs] at h
  unfold wd
  rw [hs, hb, add_5]
  exact dec_18 rfl (lin_5 h)
theorem own_19 {rd rn rm ra im kd bs st cd rg : Int} (h : (if shp 19 < 17 then narrowB 19 (shp 19) rd rn rm ra im kd bs st cd rg else wideB (shp 19) rd rn rm ra im kd bs st cd rg) = true) : decN (wd 19 rd rn rm ra im kd bs st cd rg) = 19 := by
  have hs : shp 19 = 5 := by decide +kernel
  have hb : bts 19 = 16832 := by decide +kernel
  rw [hs] at h
  unfold wd
  rw [hs, hb, add_5]
  exact dec_19 rfl (lin_5 h)
theorem own_20 {rd rn rm ra im kd bs st cd rg : Int} (h : (if shp 20 < 17 then narrowB 20 (shp 20) rd rn rm ra im kd bs st cd rg else wideB (shp 20) rd rn rm ra im kd bs st cd rg) = true) : decN (wd 20 rd rn rm ra im kd bs st cd rg) = 20 := by
  have hs : shp 20 = 5 := by decide +kernel
  have hb : bts 20 = 16896 := by decide +kernel
  rw [hs] at h
  unfold wd
  rw [hs, hb, add_5]
  exact dec_20 rfl (lin_5 h)
theorem own_21 {rd rn rm ra im kd bs st cd rg : Int} (h : (if shp 21 < 17 then narrowB 21 (shp 21) rd rn rm ra im kd bs st cd rg else wideB (shp 21) rd rn rm ra im kd bs st cd rg) = true) : decN (wd 21 rd rn rm ra im kd bs st cd rg) = 21 := by
  have hs : shp 21 = 5 := by decide +kernel
  have hb : bts 21 = 16960 := by decide +kernel
  rw [hs] at h
  unfold wd
  rw [hs, hb, add_5]
  exact dec_21 rfl (lin_5 h)
theorem own_22 {rd rn rm ra im kd bs st cd rg : Int} (h : (if shp 22 < 17 then narrowB 22 (shp 22) rd rn rm ra im kd bs st cd rg else wideB (shp 22) rd rn rm ra im kd bs st cd rg) = true) : decN (wd 22 rd rn rm ra im kd bs st cd rg) = 22 := by
  have hs : shp 22 = 5 := by decide +kernel
  have hb : bts 22 = 17024 := by decide +kernel
  rw [hs] at h
  unfold wd
  rw [hs, hb, add_5]
  exact dec_22 rfl (lin_5 h)
theorem own_23 {rd rn rm ra im kd bs st cd rg : Int} (h : (if shp 23 < 17 then narrowB 23 (shp 23) rd rn rm ra im kd bs st cd rg else wideB (shp 23) rd rn rm ra im kd bs st cd rg) = true) : decN (wd 23 rd rn rm ra im kd bs st cd rg) = 23 := by
  have hs : shp 23 = 5 := by decide +kernel
  have hb : bts 23 = 17088 := by decide +kernel
  rw [hs] at h
  unfold wd
  rw [hs, hb, add_5]
  exact dec_23 rfl (lin_5 h)
theorem own_24 {rd rn rm ra im kd bs st cd rg : Int} (h : (if shp 24 < 17 then narrowB 24 (shp 24) rd rn rm ra im kd bs st cd rg else wideB (shp 24) rd rn rm ra im kd bs st cd rg) = true) : decN (wd 24 rd rn rm ra im kd bs st cd rg) = 24 := by
  have hs : shp 24 = 5 := by decide +kernel
  have hb : bts 24 = 17152 := by decide +kernel
  rw [hs] at h
  unfold wd
  rw [hs, hb, add_5]
  exact dec_24 rfl (lin_5 h)
theorem own_25 {rd rn rm ra im kd bs st cd rg : Int} (h : (if shp 25 < 17 then narrowB 25 (shp 25) rd rn rm ra im kd bs st cd rg else wideB (shp 25) rd rn rm ra im kd bs st cd rg) = true) : decN (wd 25 rd rn rm ra im kd bs st cd rg) = 25 := by
  have hs : shp 25 = 5 := by decide +kernel
  have hb : bts 25 = 17216 := by decide +kernel
  rw [hs] at h
  unfold wd
  rw [hs, hb, add_5]
  exact dec_25 rfl (lin_5 h)
theorem own_26 {rd rn rm ra im kd bs st cd rg : Int} (h : (if shp 26 < 17 then narrowB 26 (shp 26) rd rn rm ra im kd bs st cd rg else wideB (shp 26) rd rn rm ra im kd bs st cd rg) = true) : decN (wd 26 rd rn rm ra im kd bs st cd rg) = 26 := by
  have hs : shp 26 = 5 := by decide +kernel
  have hb : bts 26 = 17280 := by decide +kernel
  rw [hs] at h
  unfold wd
  rw [hs, hb, add_5]
  exact dec_26 rfl (lin_5 h)
theorem own_27 {rd rn rm ra im kd bs st cd rg : Int} (h : (if shp 27 < 17 then narrowB 27 (shp 27) rd rn rm ra im kd bs st cd rg else wideB (shp 27) rd rn rm ra im kd bs st cd rg) = true) : decN (wd 27 rd rn rm ra im kd bs st cd rg) = 27 := by
  have hs : shp 27 = 5 := by decide +kernel
  have hb : bts 27 = 17344 := by decide +kernel
  rw [hs] at h
  unfold wd
  rw [hs, hb, add_5]
  exact dec_27 rfl (lin_5 h)
theorem own_28 {rd rn rm ra im kd bs st cd rg : Int} (h : (if shp 28 < 17 then narrowB 28 (shp 28) rd rn rm ra im kd bs st cd rg else wideB (shp 28) rd rn rm ra im kd bs st cd rg) = true) : decN (wd 28 rd rn rm ra im kd bs st cd rg) = 28 := by
  have hs : shp 28 = 6 := by decide +kernel
  have hb : bts 28 = 17408 := by decide +kernel
  rw [hs] at h
  unfold wd
  rw [hs, hb, add_6]
  exact dec_28 rfl (lin_6 h)
theorem own_29 {rd rn rm ra im kd bs st cd rg : Int} (h : (if shp 29 < 17 then narrowB 29 (shp 29) rd rn rm ra im kd bs st cd rg else wideB (shp 29) rd rn rm ra im kd bs st cd rg) = true) : decN (wd 29 rd rn rm ra im kd bs st cd rg) = 29 := by
  have hs : shp 29 = 6 := by decide +kernel
  have hb : bts 29 = 17664 := by decide +kernel
  rw [hs] at h
  unfold wd
  rw [hs, hb, add_6]
  exact dec_29 rfl (lin_6 h)
theorem own_30 {rd rn rm ra im kd bs st cd rg : Int} (h : (if shp 30 < 17 then narrowB 30 (shp 30) rd rn rm ra im kd bs st cd rg else wideB (shp 30) rd rn rm ra im kd bs st cd rg) = true) : decN (wd 30 rd rn rm ra im kd bs st cd rg) = 30 := by
  have hs : shp 30 = 6 := by decide +kernel
  have hb : bts 30 = 17920 := by decide +kernel
  rw [hs] at h
  unfold wd
  rw [hs, hb, add_6]
  exact dec_30 rfl (lin_6 h)
theorem own_31 {rd rn rm ra im kd bs st cd rg : Int} (h : (if shp 31 < 17 then narrowB 31 (shp 31) rd rn rm ra im kd bs st cd rg else wideB (shp 31) rd rn rm ra im kd bs st cd rg) = true) : decN (wd 31 rd rn rm ra im kd bs st cd rg) = 31 := by
  have hs : shp 31 = 7 := by decide +kernel
  have hb : bts 31 = 18176 := by decide +kernel
  rw [hs] at h
  unfold wd
  rw [hs, hb, add_7]
  exact dec_31 rfl (lin_7 h)
theorem own_32 {rd rn rm ra im kd bs st cd rg : Int} (h : (if shp 32 < 17 then narrowB 32 (shp 32) rd rn rm ra im kd bs st cd rg else wideB (shp 32) rd rn rm ra im kd bs st cd rg) = true) : decN (wd 32 rd rn rm ra im kd bs st cd rg) = 32 := by
  have hs : shp 32 = 8 := by decide +kernel
  have hb : bts 32 = 18432 := by decide +kernel
  rw [hs] at h
  unfold wd
  rw [hs, hb, add_8]
  exact dec_32 rfl (lin_8 h)
theorem own_33 {rd rn rm ra im kd bs st cd rg : Int} (h : (if shp 33 < 17 then narrowB 33 (shp 33) rd rn rm ra im kd bs st cd rg else wideB (shp 33) rd rn rm ra im kd bs st cd rg) = true) : decN (wd 33 rd rn rm ra im kd bs st cd rg) = 33 := by
  have hs : shp 33 = 2 := by decide +kernel
  have hb : bts 33 = 20480 := by decide +kernel
  rw [hs] at h
  unfold wd
  rw [hs, hb, add_2]
  exact dec_33 rfl (lin_2 h)
theorem own_34 {rd rn rm ra im kd bs st cd rg : Int} (h : (if shp 34 < 17 then narrowB 34 (shp 34) rd rn rm ra im kd bs st cd rg else wideB (shp 34) rd rn rm ra im kd bs st cd rg) = true) : decN (wd 34 rd rn rm ra im kd bs st cd rg) = 34 := by
  have hs : shp 34 = 2 := by decide +kernel
  have hb : bts 34 = 22528 := by decide +kernel
  rw [hs] at h
  unfold wd
  rw [hs, hb, add_2]
  exact dec_34 rfl (lin_2 h)
theorem own_35 {rd rn rm ra im kd bs st cd rg : Int} (h : (if shp 35 < 17 then narrowB 35 (shp 35) rd rn rm ra im kd bs st cd rg else wideB (shp 35) rd rn rm ra im kd bs st cd rg) = true) : decN (wd 35 rd rn rm ra im kd bs st cd rg) = 35 := by
  have hs : shp 35 = 9 := by decide +kernel
  have hb : bts 35 = 24576 := by decide +kernel
  rw [hs] at h
  unfold wd
  rw [hs, hb, add_9]
  exact dec_35 rfl (lin_9 h)
theorem own_36 {rd rn rm ra im kd bs st cd rg : Int} (h : (if shp 36 < 17 then narrowB 36 (shp 36) rd rn rm ra im kd bs st cd rg else wideB (shp 36) rd rn rm ra im kd bs st cd rg) = true) : decN (wd 36 rd rn rm ra im kd bs st cd rg) = 36 := by
  have hs : shp 36 = 9 := by decide +kernel
  have hb : bts 36 = 26624 := by decide +kernel
  rw [hs] at h
  unfold wd
  rw [hs, hb, add_9]
  exact dec_36 rfl (lin_9 h)
theorem own_37 {rd rn rm ra im kd bs st cd rg : Int} (h : (if shp 37 < 17 then narrowB 37 (shp 37) rd rn rm ra im kd bs st cd rg else wideB (shp 37) rd rn rm ra im kd bs st cd rg) = true) : decN (wd 37 rd rn rm ra im kd bs st cd rg) = 37 := by
  have hs : shp 37 = 8 := by decide +kernel
  have hb : bts 37 = 36864 := by decide +kernel
  rw [hs] at h
  unfold wd
  rw [hs, hb, add_8]
  exact dec_37 rfl (lin_8 h)
theorem own_38 {rd rn rm ra im kd bs st cd rg : Int} (h : (if shp 38 < 17 then narrowB 38 (shp 38) rd rn rm ra im kd bs st cd rg else wideB (shp 38) rd rn rm ra im kd bs st cd rg) = true) : decN (wd 38 rd rn rm ra im kd bs st cd rg) = 38 := by
  have hs : shp 38 = 8 := by decide +kernel
  have hb : bts 38 = 38912 := by decide +kernel
  rw [hs] at h
  unfold wd
  rw [hs, hb, add_8]
  exact dec_38 rfl (lin_8 h)
theorem own_39 {rd rn rm ra im kd bs st cd rg : Int} (h : (if shp 39 < 17 then narrowB 39 (shp 39) rd rn rm ra im kd bs st cd rg else wideB (shp 39) rd rn rm ra im kd bs st cd rg) = true) : decN (wd 39 rd rn rm ra im kd bs st cd rg) = 39 := by
  have hs : shp 39 = 8 := by decide +kernel
  have hb : bts 39 = 43008 := by decide +kernel
  rw [hs] at h
  unfold wd
  rw [hs, hb, add_8]
  exact dec_39 rfl (lin_8 h)
theorem own_40 {rd rn rm ra im kd bs st cd rg : Int} (h : (if shp 40 < 17 then narrowB 40 (shp 40) rd rn rm ra im kd bs st cd rg else wideB (shp 40) rd rn rm ra im kd bs st cd rg) = true) : decN (wd 40 rd rn rm ra im kd bs st cd rg) = 40 := by
  have hs : shp 40 = 10 := by decide +kernel
  have hb : bts 40 = 45056 := by decide +kernel
  rw [hs] at h
  unfold wd
  rw [hs, hb, add_10]
  exact dec_40 rfl (lin_10 h)
theorem own_41 {rd rn rm ra im kd bs st cd rg : Int} (h : (if shp 41 < 17 then narrowB 41 (shp 41) rd rn rm ra im kd bs st cd rg else wideB (shp 41) rd rn rm ra im kd bs st cd rg) = true) : decN (wd 41 rd rn rm ra im kd bs st cd rg) = 41 := by
  have hs : shp 41 = 10 := by decide +kernel
  have hb : bts 41 = 45184 := by decide +kernel
  rw [hs] at h
  unfold wd
  rw [hs, hb, add_10]
  exact dec_41 rfl (lin_10 h)
theorem own_42 {rd rn rm ra im kd bs st cd rg : Int} (h : (if shp 42 < 17 then narrowB 42 (shp 42) rd rn rm ra im kd bs st cd rg else wideB (shp 42) rd rn rm ra im kd bs st cd rg) = true) : decN (wd 42 rd rn rm ra im kd bs st cd rg) = 42 := by
  have hs : shp 42 = 11 := by decide +kernel
  have hb : bts 42 = 46080 := by decide +kernel
  rw [hs] at h
  unfold wd
  rw [hs, hb, add_11]
  exact dec_42 rfl (lin_11 h)
theorem own_43 {rd rn rm ra im kd bs st cd rg : Int} (h : (if shp 43 < 17 then narrowB 43 (shp 43) rd rn rm ra im kd bs st cd rg else wideB (shp 43) rd rn rm ra im kd bs st cd rg) = true) : decN (wd 43 rd rn rm ra im kd bs st cd rg) = 43 := by
  have hs : shp 43 = 12 := by decide +kernel
  have hb : bts 43 = 48128 := by decide +kernel
  rw [hs] at h
  unfold wd
  rw [hs, hb, add_12]
  exact dec_43 rfl (lin_12 h)
theorem own_44 {rd rn rm ra im kd bs st cd rg : Int} (h : (if shp 44 < 17 then narrowB 44 (shp 44) rd rn rm ra im kd bs st cd rg else wideB (shp 44) rd rn rm ra im kd bs st cd rg) = true) : decN (wd 44 rd rn rm ra im kd bs st cd rg) = 44 := by
  have hs : shp 44 = 13 := by decide +kernel
  have hb : bts 44 = 48896 := by decide +kernel
  rw [hs] at h
  unfold wd
  rw [hs, hb, add_13]
  exact dec_44 rfl (lin_13 h)
theorem own_45 {rd rn rm ra im kd bs st cd rg : Int} (h : (if shp 45 < 17 then narrowB 45 (shp 45) rd rn rm ra im kd bs st cd rg else wideB (shp 45) rd rn rm ra im kd bs st cd rg) = true) : decN (wd 45 rd rn rm ra im kd bs st cd rg) = 45 := by
  have hs : shp 45 = 14 := by decide +kernel
  have hb : bts 45 = 48640 := by decide +kernel
  rw [hs] at h
  unfold wd
  rw [hs, hb, add_14]
  exact dec_45 rfl (lin_14 h)
theorem own_46 {rd rn rm ra im kd bs st cd rg : Int} (h : (if shp 46 < 17 then narrowB 46 (shp 46) rd rn rm ra im kd bs st cd rg else wideB (shp 46) rd rn rm ra im kd bs st cd rg) = true) : decN (wd 46 rd rn rm ra im kd bs st cd rg) = 46 := by
  have hs : shp 46 = 15 := by decide +kernel
  have hb : bts 46 = 53248 := by decide +kernel
  rw [hs] at h
  unfold wd
  rw [hs, hb, add_15]
  exact dec_46 rfl (lin_15 h)
theorem own_47 {rd rn rm ra im kd bs st cd rg : Int} (h : (if shp 47 < 17 then narrowB 47 (shp 47) rd rn rm ra im kd bs st cd rg else wideB (shp 47) rd rn rm ra im kd bs st cd rg) = true) : decN (wd 47 rd rn rm ra im kd bs st cd rg) = 47 := by
  have hs : shp 47 = 16 := by decide +kernel
  have hb : bts 47 = 57344 := by decide +kernel
  rw [hs] at h
  unfold wd
  rw [hs, hb, add_16]
  exact dec_47 rfl (lin_16 h)
theorem own_48 {rd rn rm ra im kd bs st cd rg : Int} (h : (if shp 48 < 17 then narrowB 48 (shp 48) rd rn rm ra im kd bs st cd rg else wideB (shp 48) rd rn rm ra im kd bs st cd rg) = true) : decW (wd 48 rd rn rm ra im kd bs st cd rg) = 48 := by
  have hs : shp 48 = 17 := by decide +kernel
  have hb : bts 48 = 4064280576 := by decide +kernel
  rw [hs] at h
  unfold wd
  rw [hs, hb, add_17]
  exact dec_48 rfl (lin_17 h)
theorem own_49 {rd rn rm ra im kd bs st cd rg : Int} (h : (if shp 49 < 17 then narrowB 49 (shp 49) rd rn rm ra im kd bs st cd rg else wideB (shp 49) rd rn rm ra im kd bs st cd rg) = true) : decW (wd 49 rd rn rm ra im kd bs st cd rg) = 49 := by
  have hs : shp 49 = 17 := by decide +kernel
  have hb : bts 49 = 4072669184 := by decide +kernel
  rw [hs] at h
  unfold wd
  rw [hs, hb, add_17]
  exact dec_49 rfl (lin_17 h)
theorem own_50 {rd rn rm ra im kd bs st cd rg : Int} (h : (if shp 50 < 17 then narrowB 50 (shp 50) rd rn rm ra im kd bs st cd rg else wideB (shp 50) rd rn rm ra im kd bs st cd rg) = true) : decW (wd 50 rd rn rm ra im kd bs st cd rg) = 50 := by
  have hs : shp 50 = 18 := by decide +kernel
  have hb : bts 50 = 4026531840 := by decide +kernel
  rw [hs] at h
  unfold wd
  rw [hs, hb, add_18]
  exact dec_50 rfl (lin_18 h)
theorem own_51 {rd rn rm ra im kd bs st cd rg : Int} (h : (if shp 51 < 17 then narrowB 51 (shp 51) rd rn rm ra im kd bs st cd rg else wideB (shp 51) rd rn rm ra im kd bs st cd rg) = true) : decW (wd 51 rd rn rm ra im kd bs st cd rg) = 51 := by
  have hs : shp 51 = 18 := by decide +kernel
  have hb : bts 51 = 4028628992 := by decide +kernel
  rw [hs] at h
  unfold wd
  rw [hs, hb, add_18]
  exact dec_51 rfl (lin_18 h)
theorem own_52 {rd rn rm ra im kd bs st cd rg : Int} (h : (if shp 52 < 17 then narrowB 52 (shp 52) rd rn rm ra im kd bs st cd rg else wideB (shp 52) rd rn rm ra im kd bs st cd rg) = true) : decW (wd 52 rd rn rm ra im kd bs st cd rg) = 52 := by
  have hs : shp 52 = 18 := by decide +kernel
  have hb : bts 52 = 4030726144 := by decide +kernel
  rw [hs] at h
  unfold wd
  rw [hs, hb, add_18]
  exact dec_52 rfl (lin_18 h)
theorem own_53 {rd rn rm ra im kd bs st cd rg : Int} (h : (if shp 53 < 17 then narrowB 53 (shp 53) rd rn rm ra im kd bs st cd rg else wideB (shp 53) rd rn rm ra im kd bs st cd rg) = true) : decW (wd 53 rd rn rm ra im kd bs st cd rg) = 53 := by
  have hs : shp 53 = 18 := by decide +kernel
  have hb : bts 53 = 4032823296 := by decide +kernel
  rw [hs] at h
  unfold wd
  rw [hs, hb, add_18]
  exact dec_53 rfl (lin_18 h)
theorem own_54 {rd rn rm ra im kd bs st cd rg : Int} (h : (if shp 54 < 17 then narrowB 54 (shp 54) rd rn rm ra im kd bs st cd rg else wideB (shp 54) rd rn rm ra im kd bs st cd rg) = true) : decW (wd 54 rd rn rm ra im kd bs st cd rg) = 54 := by
  have hs : shp 54 = 18 := by decide +kernel
  have hb : bts 54 = 4034920448 := by decide +kernel
  rw [hs] at h
  unfold wd
  rw [hs, hb, add_18]
  exact dec_54 rfl (lin_18 h)
theorem own_55 {rd rn rm ra im kd bs st cd rg : Int} (h : (if shp 55 < 17 then narrowB 55 (shp 55) rd rn rm ra im kd bs st cd rg else wideB (shp 55) rd rn rm ra im kd bs st cd rg) = true) : decW (wd 55 rd rn rm ra im kd bs st cd rg) = 55 := by
  have hs : shp 55 = 18 := by decide +kernel
  have hb : bts 55 = 4043309056 := by decide +kernel
  rw [hs] at h
  unfold wd
  rw [hs, hb, add_18]
  exact dec_55 rfl (lin_18 h)
theorem own_56 {rd rn rm ra im kd bs st cd rg : Int} (h : (if shp 56 < 17 then narrowB 56 (shp 56) rd rn rm ra im kd bs st cd rg else wideB (shp 56) rd rn rm ra im kd bs st cd rg) = true) : decW (wd 56 rd rn rm ra im kd bs st cd rg) = 56 := by
  have hs : shp 56 = 18 := by decide +kernel
  have hb : bts 56 = 4047503360 := by decide +kernel
  rw [hs] at h
  unfold wd
  rw [hs, hb, add_18]
  exact dec_56 rfl (lin_18 h)
theorem own_57 {rd rn rm ra im kd bs st cd rg : Int} (h : (if shp 57 < 17 then narrowB 57 (shp 57) rd rn rm ra im kd bs st cd rg else wideB (shp 57) rd rn rm ra im kd bs st cd rg) = true) : decW (wd 57 rd rn rm ra im kd bs st cd rg) = 57 := by
  have hs : shp 57 = 18 := by decide +kernel
  have hb : bts 57 = 4049600512 := by decide +kernel
  rw [hs] at h
  unfold wd
  rw [hs, hb, add_18]
  exact dec_57 rfl (lin_18 h)
theorem own_58 {rd rn rm ra im kd bs st cd rg : Int} (h : (if shp 58 < 17 then narrowB 58 (shp 58) rd rn rm ra im kd bs st cd rg else wideB (shp 58) rd rn rm ra im kd bs st cd rg) = true) : decW (wd 58 rd rn rm ra im kd bs st cd rg) = 58 := by
  have hs : shp 58 = 18 := by decide +kernel
  have hb : bts 58 = 4053794816 := by decide +kernel
  rw [hs] at h
  unfold wd
  rw [hs, hb, add_18]
  exact dec_58 rfl (lin_18 h)
theorem own_59 {rd rn rm ra im kd bs st cd rg : Int} (h : (if shp 59 < 17 then narrowB 59 (shp 59) rd rn rm ra im kd bs st cd rg else wideB (shp 59) rd rn rm ra im kd bs st cd rg) = true) : decW (wd 59 rd rn rm ra im kd bs st cd rg) = 59 := by
  have hs : shp 59 = 18 := by decide +kernel
  have hb : bts 59 = 4055891968 := by decide +kernel
  rw [hs] at h
  unfold wd
  rw [hs, hb, add_18]
  exact dec_59 rfl (lin_18 h)
theorem own_60 {rd rn rm ra im kd bs st cd rg : Int} (h : (if shp 60 < 17 then narrowB 60 (shp 60) rd rn rm ra im kd bs st cd rg else wideB (shp 60) rd rn rm ra im kd bs st cd rg) = true) : decW (wd 60 rd rn rm ra im kd bs st cd rg) = 60 := by
  have hs : shp 60 = 19 := by decide +kernel
  have hb : bts 60 = 4031709184 := by decide +kernel
  rw [hs] at h
  unfold wd
  rw [hs, hb, add_19]
  exact dec_60 rfl (lin_19 h)
theorem own_61 {rd rn rm ra im kd bs st cd rg : Int} (h : (if shp 61 < 17 then narrowB 61 (shp 61) rd rn rm ra im kd bs st cd rg else wideB (shp 61) rd rn rm ra im kd bs st cd rg) = true) : decW (wd 61 rd rn rm ra im kd bs st cd rg) = 61 := by
  have hs : shp 61 = 19 := by decide +kernel
  have hb : bts 61 = 4033806336 := by decide +kernel
  rw [hs] at h
  unfold wd
  rw [hs, hb, add_19]
  exact dec_61 rfl (lin_19 h)
theorem own_62 {rd rn rm ra im kd bs st cd rg : Int} (h : (if shp 62 < 17 then narrowB 62 (shp 62) rd rn rm ra im kd bs st cd rg else wideB (shp 62) rd rn rm ra im kd bs st cd rg) = true) : decW (wd 62 rd rn rm ra im kd bs st cd rg) = 62 := by
  have hs : shp 62 = 20 := by decide +kernel
  have hb : bts 62 = 4027584256 := by decide +kernel
  rw [hs] at h
  unfold wd
  rw [hs, hb, add_20]
  exact dec_62 rfl (lin_20 h)
theorem own_63 {rd rn rm ra im kd bs st cd rg : Int} (h : (if shp 63 < 17 then narrowB 63 (shp 63) rd rn rm ra im kd bs st cd rg else wideB (shp 63) rd rn rm ra im kd bs st cd rg) = true) : decW (wd 63 rd rn rm ra im kd bs st cd rg) = 63 := by
  have hs : shp 63 = 20 := by decide +kernel
  have hb : bts 63 = 4035972864 := by decide +kernel
  rw [hs] at h
  unfold wd
  rw [hs, hb, add_20]
  exact dec_63 rfl (lin_20 h)
theorem own_64 {rd rn rm ra im kd bs st cd rg : Int} (h : (if shp 64 < 17 then narrowB 64 (shp 64) rd rn rm ra im kd bs st cd rg else wideB (shp 64) rd rn rm ra im kd bs st cd rg) = true) : decW (wd 64 rd rn rm ra im kd bs st cd rg) = 64 := by
  have hs : shp 64 = 20 := by decide +kernel
  have hb : bts 64 = 4044361472 := by decide +kernel
  rw [hs] at h
  unfold wd
  rw [hs, hb, add_20]
  exact dec_64 rfl (lin_20 h)
theorem own_65 {rd rn rm ra im kd bs st cd rg : Int} (h : (if shp 65 < 17 then narrowB 65 (shp 65) rd rn rm ra im kd bs st cd rg else wideB (shp 65) rd rn rm ra im kd bs st cd rg) = true) : decW (wd 65 rd rn rm ra im kd bs st cd rg) = 65 := by
  have hs : shp 65 = 20 := by decide +kernel
  have hb : bts 65 = 4054847232 := by decide +kernel
  rw [hs] at h
  unfold wd
  rw [hs, hb, add_20]
  exact dec_65 rfl (lin_20 h)
theorem own_66 {rd rn rm ra im kd bs st cd rg : Int} (h : (if shp 66 < 17 then narrowB 66 (shp 66) rd rn rm ra im kd bs st cd rg else wideB (shp 66) rd rn rm ra im kd bs st cd rg) = true) : decW (wd 66 rd rn rm ra im kd bs st cd rg) = 66 := by
  have hs : shp 66 = 21 := by decide +kernel
  have hb : bts 66 = 3925868544 := by decide +kernel
  rw [hs] at h
  unfold wd
  rw [hs, hb, add_21]
  exact dec_66 rfl (lin_21 h)
theorem own_67 {rd rn rm ra im kd bs st cd rg : Int} (h : (if shp 67 < 17 then narrowB 67 (shp 67) rd rn rm ra im kd bs st cd rg else wideB (shp 67) rd rn rm ra im kd bs st cd rg) = true) : decW (wd 67 rd rn rm ra im kd bs st cd rg) = 67 := by
  have hs : shp 67 = 21 := by decide +kernel
  have hb : bts 67 = 3927965696 := by decide +kernel
  rw [hs] at h
  unfold wd
  rw [hs, hb, add_21]
  exact dec_67 rfl (lin_21 h)
theorem own_68 {rd rn rm ra im kd bs st cd rg : Int} (h : (if shp 68 < 17 then narrowB 68 (shp 68) rd rn rm ra im kd bs st cd rg else wideB (shp 68) rd rn rm ra im kd bs st cd rg) = true) : decW (wd 68 rd rn rm ra im kd bs st cd rg) = 68 := by
  have hs : shp 68 = 21 := by decide +kernel
  have hb : bts 68 = 3930062848 := by decide +kernel
  rw [hs] at h
  unfold wd
  rw [hs, hb, add_21]
  exact dec_68 rfl (lin_21 h)
theorem own_69 {rd rn rm ra im kd bs st cd rg : Int} (h : (if shp 69 < 17 then narrowB 69 (shp 69) rd rn rm ra im kd bs st cd rg else wideB (shp 69) rd rn rm ra im kd bs st cd rg) = true) : decW (wd 69 rd rn rm ra im kd bs st cd rg) = 69 := by
  have hs : shp 69 = 21 := by decide +kernel
  have hb : bts 69 = 3932160000 := by decide +kernel
  rw [hs] at h
  unfold wd
  rw [hs, hb, add_21]
  exact dec_69 rfl (lin_21 h)
theorem own_70 {rd rn rm ra im kd bs st cd rg : Int} (h : (if shp 70 < 17 then narrowB 70 (shp 70) rd rn rm ra im kd bs st cd rg else wideB (shp 70) rd rn rm ra im kd bs st cd rg) = true) : decW (wd 70 rd rn rm ra im kd bs st cd rg) = 70 := by
  have hs : shp 70 = 21 := by decide +kernel
  have hb : bts 70 = 3934257152 := by decide +kernel
  rw [hs] at h
  unfold wd
  rw [hs, hb, add_21]
  exact dec_70 rfl (lin_21 h)
theorem own_71 {rd rn rm ra im kd bs st cd rg : Int} (h : (if shp 71 < 17 then narrowB 71 (shp 71) rd rn rm ra im kd bs st cd rg else wideB (shp 71) rd rn rm ra im kd bs st cd rg) = true) : decW (wd 71 rd rn rm ra im kd bs st cd rg) = 71 := by
  have hs : shp 71 = 21 := by decide +kernel
  have hb : bts 71 = 3942645760 := by decide +kernel
  rw [hs] at h
  unfold wd
  rw [hs, hb, add_21]
  exact dec_71 rfl (lin_21 h)
theorem own_72 {rd rn rm ra im kd bs st cd rg : Int} (h : (if shp 72 < 17 then narrowB 72 (shp 72) rd rn rm ra im kd bs st cd rg else wideB (shp 72) rd rn rm ra im kd bs st cd rg) = true) : decW (wd 72 rd rn rm ra im kd bs st cd rg) = 72 := by
  have hs : shp 72 = 21 := by decide +kernel
  have hb : bts 72 = 3946840064 := by decide +kernel
  rw [hs] at h
  unfold wd
  rw [hs, hb, add_21]
  exact dec_72 rfl (lin_21 h)
theorem own_73 {rd rn rm ra im kd bs st cd rg : Int} (h : (if shp 73 < 17 then narrowB 73 (shp 73) rd rn rm ra im kd bs st cd rg else wideB (shp 73) rd rn rm ra im kd bs st cd rg) = true) : decW (wd 73 rd rn rm ra im kd bs st cd rg) = 73 := by
  have hs : shp 73 = 21 := by decide +kernel
  have hb : bts 73 = 3948937216 := by decide +kernel
  rw [hs] at h
  unfold wd
  rw [hs, hb, add_21]
  exact dec_73 rfl (lin_21 h)
theorem own_74 {rd rn rm ra im kd bs st cd rg : Int} (h : (if shp 74 < 17 then narrowB 74 (shp 74) rd rn rm ra im kd bs st cd rg else wideB (shp 74) rd rn rm ra im kd bs st cd rg) = true) : decW (wd 74 rd rn rm ra im kd bs st cd rg) = 74 := by
  have hs : shp 74 = 21 := by decide +kernel
  have hb : bts 74 = 3953131520 := by decide +kernel
  rw [hs] at h
  unfold wd
  rw [hs, hb, add_21]
  exact dec_74 rfl (lin_21 h)
theorem own_75 {rd rn rm ra im kd bs st cd rg : Int} (h : (if shp 75 < 17 then narrowB 75 (shp 75) rd rn rm ra im kd bs st cd rg else wideB (shp 75) rd rn rm ra im kd bs st cd rg) = true) : decW (wd 75 rd rn rm ra im kd bs st cd rg) = 75 := by
  have hs : shp 75 = 21 := by decide +kernel
  have hb : bts 75 = 3955228672 := by decide +kernel
  rw [hs] at h
  unfold wd
  rw [hs, hb, add_21]
  exact dec_75 rfl (lin_21 h)
theorem own_76 {rd rn rm ra im kd bs st cd rg : Int} (h : (if shp 76 < 17 then narrowB 76 (shp 76) rd rn rm ra im kd bs st cd rg else wideB (shp 76) rd rn rm ra im kd bs st cd rg) = true) : decW (wd 76 rd rn rm ra im kd bs st cd rg) = 76 := by
  have hs : shp 76 = 22 := by decide +kernel
  have hb : bts 76 = 3931045888 := by decide +kernel
  rw [hs] at h
  unfold wd
  rw [hs, hb, add_22]
  exact dec_76 rfl (lin_22 h)
theorem own_77 {rd rn rm ra im kd bs st cd rg : Int} (h : (if shp 77 < 17 then narrowB 77 (shp 77) rd rn rm ra im kd bs st cd rg else wideB (shp 77) rd rn rm ra im kd bs st cd rg) = true) : decW (wd 77 rd rn rm ra im kd bs st cd rg) = 77 := by
  have hs : shp 77 = 22 := by decide +kernel
  have hb : bts 77 = 3933143040 := by decide +kernel
  rw [hs] at h
  unfold wd
  rw [hs, hb, add_22]
  exact dec_77 rfl (lin_22 h)
theorem own_78 {rd rn rm ra im kd bs st cd rg : Int} (h : (if shp 78 < 17 then narrowB 78 (shp 78) rd rn rm ra im kd bs st cd rg else wideB (shp 78) rd rn rm ra im kd bs st cd rg) = true) : decW (wd 78 rd rn rm ra im kd bs st cd rg) = 78 := by
  have hs : shp 78 = 23 := by decide +kernel
  have hb : bts 78 = 3926920960 := by decide +kernel
  rw [hs] at h
  unfold wd
  rw [hs, hb, add_23]
  exact dec_78 rfl (lin_23 h)
theorem own_79 {rd rn rm ra im kd bs st cd rg : Int} (h : (if shp 79 < 17 then narrowB 79 (shp 79) rd rn rm ra im kd bs st cd rg else wideB (shp 79) rd rn rm ra im kd bs st cd rg) = true) : decW (wd 79 rd rn rm ra im kd bs st cd rg) = 79 := by
  have hs : shp 79 = 23 := by decide +kernel
  have hb : bts 79 = 3935309568 := by decide +kernel
  rw [hs] at h
  unfold wd
  rw [hs, hb, add_23]
  exact dec_79 rfl (lin_23 h)
theorem own_80 {rd rn rm ra im kd bs st cd rg : Int} (h : (if shp 80 < 17 then narrowB 80 (shp 80) rd rn rm ra im kd bs st cd rg else wideB (shp 80) rd rn rm ra im kd bs st cd rg) = true) : decW (wd 80 rd rn rm ra im kd bs st cd rg) = 80 := by
  have hs : shp 80 = 23 := by decide +kernel
  have hb : bts 80 = 3943698176 := by decide +kernel
  rw [hs] at h
  unfold wd
  rw [hs, hb, add_23]
  exact dec_80 rfl (lin_23 h)
theorem own_81 {rd rn rm ra im kd bs st cd rg : Int} (h : (if shp 81 < 17 then narrowB 81 (shp 81) rd rn rm ra im kd bs st cd rg else wideB (shp 81) rd rn rm ra im kd bs st cd rg) = true) : decW (wd 81 rd rn rm ra im kd bs st cd rg) = 81 := by
  have hs : shp 81 = 23 := by decide +kernel
  have hb : bts 81 = 3954183936 := by decide +kernel
  rw [hs] at h
  unfold wd
  rw [hs, hb, add_23]
  exact dec_81 rfl (lin_23 h)
theorem own_82 {rd rn rm ra im kd bs st cd rg : Int} (h : (if shp 82 < 17 then narrowB 82 (shp 82) rd rn rm ra im kd bs st cd rg else wideB (shp 82) rd rn rm ra im kd bs st cd rg) = true) : decW (wd 82 rd rn rm ra im kd bs st cd rg) = 82 := by
  have hs : shp 82 = 24 := by decide +kernel
  have hb : bts 82 = 4060086272 := by decide +kernel
  rw [hs] at h
  unfold wd
  rw [hs, hb, add_24]
  exact dec_82 rfl (lin_24 h)
theorem own_83 {rd rn rm ra im kd bs st cd rg : Int} (h : (if shp 83 < 17 then narrowB 83 (shp 83) rd rn rm ra im kd bs st cd rg else wideB (shp 83) rd rn rm ra im kd bs st cd rg) = true) : decW (wd 83 rd rn rm ra im kd bs st cd rg) = 83 := by
  have hs : shp 83 = 24 := by decide +kernel
  have hb : bts 83 = 4070572032 := by decide +kernel
  rw [hs] at h
  unfold wd
  rw [hs, hb, add_24]
  exact dec_83 rfl (lin_24 h)
theorem own_84 {rd rn rm ra im kd bs st cd rg : Int} (h : (if shp 84 < 17 then narrowB 84 (shp 84) rd rn rm ra im kd bs st cd rg else wideB (shp 84) rd rn rm ra im kd bs st cd rg) = true) : decW (wd 84 rd rn rm ra im kd bs st cd rg) = 84 := by
  have hs : shp 84 = 25 := by decide +kernel
  have hb : bts 84 = 4173332480 := by decide +kernel
  rw [hs] at h
  unfold wd
  rw [hs, hb, add_25]
  exact dec_84 rfl (lin_25 h)
theorem own_85 {rd rn rm ra im kd bs st cd rg : Int} (h : (if shp 85 < 17 then narrowB 85 (shp 85) rd rn rm ra im kd bs st cd rg else wideB (shp 85) rd rn rm ra im kd bs st cd rg) = true) : decW (wd 85 rd rn rm ra im kd bs st cd rg) = 85 := by
  have hs : shp 85 = 25 := by decide +kernel
  have hb : bts 85 = 4174381056 := by decide +kernel
  rw [hs] at h
  unfold wd
  rw [hs, hb, add_25]
  exact dec_85 rfl (lin_25 h)
theorem own_86 {rd rn rm ra im kd bs st cd rg : Int} (h : (if shp 86 < 17 then narrowB 86 (shp 86) rd rn rm ra im kd bs st cd rg else wideB (shp 86) rd rn rm ra im kd bs st cd rg) = true) : decW (wd 86 rd rn rm ra im kd bs st cd rg) = 86 := by
  have hs : shp 86 = 26 := by decide +kernel
  have hb : bts 86 = 4164943872 := by decide +kernel
  rw [hs] at h
  unfold wd
  rw [hs, hb, add_26]
  exact dec_86 rfl (lin_26 h)
theorem own_87 {rd rn rm ra im kd bs st cd rg : Int} (h : (if shp 87 < 17 then narrowB 87 (shp 87) rd rn rm ra im kd bs st cd rg else wideB (shp 87) rd rn rm ra im kd bs st cd rg) = true) : decW (wd 87 rd rn rm ra im kd bs st cd rg) = 87 := by
  have hs : shp 87 = 26 := by decide +kernel
  have hb : bts 87 = 4165992448 := by decide +kernel
  rw [hs] at h
  unfold wd
  rw [hs, hb, add_26]
  exact dec_87 rfl (lin_26 h)
theorem own_88 {rd rn rm ra im kd bs st cd rg : Int} (h : (if shp 88 < 17 then narrowB 88 (shp 88) rd rn rm ra im kd bs st cd rg else wideB (shp 88) rd rn rm ra im kd bs st cd rg) = true) : decW (wd 88 rd rn rm ra im kd bs st cd rg) = 88 := by
  have hs : shp 88 = 27 := by decide +kernel
  have hb : bts 88 = 4194365440 := by decide +kernel
  rw [hs] at h
  unfold wd
  rw [hs, hb, add_27]
  exact dec_88 rfl (lin_27 h)
theorem own_89 {rd rn rm ra im kd bs st cd rg : Int} (h : (if shp 89 < 17 then narrowB 89 (shp 89) rd rn rm ra im kd bs st cd rg else wideB (shp 89) rd rn rm ra im kd bs st cd rg) = true) : decW (wd 89 rd rn rm ra im kd bs st cd rg) = 89 := by
  have hs : shp 89 = 27 := by decide +kernel
  have hb : bts 89 = 4196462592 := by decide +kernel
  rw [hs] at h
  unfold wd
  rw [hs, hb, add_27]
  exact dec_89 rfl (lin_27 h)
theorem own_90 {rd rn rm ra im kd bs st cd rg : Int} (h : (if shp 90 < 17 then narrowB 90 (shp 90) rd rn rm ra im kd bs st cd rg else wideB (shp 90) rd rn rm ra im kd bs st cd rg) = true) : decW (wd 90 rd rn rm ra im kd bs st cd rg) = 90 := by
  have hs : shp 90 = 27 := by decide +kernel
  have hb : bts 90 = 4198559744 := by decide +kernel
  rw [hs] at h
  unfold wd
  rw [hs, hb, add_27]
  exact dec_90 rfl (lin_27 h)
theorem own_91 {rd rn rm ra im kd bs st cd rg : Int} (h : (if shp 91 < 17 then narrowB 91 (shp 91) rd rn rm ra im kd bs st cd rg else wideB (shp 91) rd rn rm ra im kd bs st cd rg) = true) : decW (wd 91 rd rn rm ra im kd bs st cd rg) = 91 := by
  have hs : shp 91 = 27 := by decide +kernel
  have hb : bts 91 = 4200656896 := by decide +kernel
  rw [hs] at h
  unfold wd
  rw [hs, hb, add_27]
  exact dec_91 rfl (lin_27 h)
theorem own_92 {rd rn rm ra im kd bs st cd rg : Int} (h : (if shp 92 < 17 then narrowB 92 (shp 92) rd rn rm ra im kd bs st cd rg else wideB (shp 92) rd rn rm ra im kd bs st cd rg) = true) : decW (wd 92 rd rn rm ra im kd bs st cd rg) = 92 := by
  have hs : shp 92 = 28 := by decide +kernel
  have hb : bts 92 = 4211142656 := by decide +kernel
  rw [hs] at h
  unfold wd
  rw [hs, hb, add_28]
  exact dec_92 rfl (lin_28 h)
theorem own_93 {rd rn rm ra im kd bs st cd rg : Int} (h : (if shp 93 < 17 then narrowB 93 (shp 93) rd rn rm ra im kd bs st cd rg else wideB (shp 93) rd rn rm ra im kd bs st cd rg) = true) : decW (wd 93 rd rn rm ra im kd bs st cd rg) = 93 := by
  have hs : shp 93 = 29 := by decide +kernel
  have hb : bts 93 = 4211081216 := by decide +kernel
  rw [hs] at h
  unfold wd
  rw [hs, hb, add_29]
  exact dec_93 rfl (lin_29 h)
theorem own_94 {rd rn rm ra im kd bs st cd rg : Int} (h : (if shp 94 < 17 then narrowB 94 (shp 94) rd rn rm ra im kd bs st cd rg else wideB (shp 94) rd rn rm ra im kd bs st cd rg) = true) : decW (wd 94 rd rn rm ra im kd bs st cd rg) = 94 := by
  have hs : shp 94 = 30 := by decide +kernel
  have hb : bts 94 = 4211081232 := by decide +kernel
  rw [hs] at h
  unfold wd
  rw [hs, hb, add_30]
  exact dec_94 rfl (lin_30 h)
theorem own_95 {rd rn rm ra im kd bs st cd rg : Int} (h : (if shp 95 < 17 then narrowB 95 (shp 95) rd rn rm ra im kd bs st cd rg else wideB (shp 95) rd rn rm ra im kd bs st cd rg) = true) : decW (wd 95 rd rn rm ra im kd bs st cd rg) = 95 := by
  have hs : shp 95 = 31 := by decide +kernel
  have hb : bts 95 = 4221566976 := by decide +kernel
  rw [hs] at h
  unfold wd
  rw [hs, hb, add_31]
  exact dec_95 rfl (lin_31 h)
theorem own_96 {rd rn rm ra im kd bs st cd rg : Int} (h : (if shp 96 < 17 then narrowB 96 (shp 96) rd rn rm ra im kd bs st cd rg else wideB (shp 96) rd rn rm ra im kd bs st cd rg) = true) : decW (wd 96 rd rn rm ra im kd bs st cd rg) = 96 := by
  have hs : shp 96 = 31 := by decide +kernel
  have hb : bts 96 = 4225761280 := by decide +kernel
  rw [hs] at h
  unfold wd
  rw [hs, hb, add_31]
  exact dec_96 rfl (lin_31 h)
theorem own_97 {rd rn rm ra im kd bs st cd rg : Int} (h : (if shp 97 < 17 then narrowB 97 (shp 97) rd rn rm ra im kd bs st cd rg else wideB (shp 97) rd rn rm ra im kd bs st cd rg) = true) : decW (wd 97 rd rn rm ra im kd bs st cd rg) = 97 := by
  have hs : shp 97 = 28 := by decide +kernel
  have hb : bts 97 = 4222677232 := by decide +kernel
  rw [hs] at h
  unfold wd
  rw [hs, hb, add_28]
  exact dec_97 rfl (lin_28 h)
theorem own_98 {rd rn rm ra im kd bs st cd rg : Int} (h : (if shp 98 < 17 then narrowB 98 (shp 98) rd rn rm ra im kd bs st cd rg else wideB (shp 98) rd rn rm ra im kd bs st cd rg) = true) : decW (wd 98 rd rn rm ra im kd bs st cd rg) = 98 := by
  have hs : shp 98 = 32 := by decide +kernel
  have hb : bts 98 = 4205899904 := by decide +kernel
  rw [hs] at h
  unfold wd
  rw [hs, hb, add_32]
  exact dec_98 rfl (lin_32 h)
theorem own_99 {rd rn rm ra im kd bs st cd rg : Int} (h : (if shp 99 < 17 then narrowB 99 (shp 99) rd rn rm ra im kd bs st cd rg else wideB (shp 99) rd rn rm ra im kd bs st cd rg) = true) : decW (wd 99 rd rn rm ra im kd bs st cd rg) = 99 := by
  have hs : shp 99 = 33 := by decide +kernel
  have hb : bts 99 = 4026564608 := by decide +kernel
  rw [hs] at h
  unfold wd
  rw [hs, hb, add_33]
  exact dec_99 rfl (lin_33 h)
theorem own_100 {rd rn rm ra im kd bs st cd rg : Int} (h : (if shp 100 < 17 then narrowB 100 (shp 100) rd rn rm ra im kd bs st cd rg else wideB (shp 100) rd rn rm ra im kd bs st cd rg) = true) : decW (wd 100 rd rn rm ra im kd bs st cd rg) = 100 := by
  have hs : shp 100 = 34 := by decide +kernel
  have hb : bts 100 = 4026568704 := by decide +kernel
  rw [hs] at h
  unfold wd
  rw [hs, hb, add_34]
  exact dec_100 rfl (lin_34 h)

theorem narrow_dec {f rd rn rm ra im kd bs st cd rg : Int} (h : right f rd rn rm ra im kd bs st cd rg = true) (g0 : -9223372036854775808 ≤ rg) (g1 : rg ≤ 9223372036854775807) (hf : f ≤ 47) : decN (wd f rd rn rm ra im kd bs st cd rg) = f := by
  obtain ⟨⟨i0, _⟩, h⟩ := at_own h g0 g1
  rcases (show f = 1 ∨ f = 2 ∨ f = 3 ∨ f = 4 ∨ f = 5 ∨ f = 6 ∨ f = 7 ∨ f = 8 ∨ f = 9 ∨ f = 10 ∨ 11 ≤ f by omega) with rfl | rfl | rfl | rfl | rfl | rfl | rfl | rfl | rfl | rfl | hk
  · exact own_1 h
  · exact own_2 h
  · exact own_3 h
  · exact own_4 h
  · exact own_5 h
  · exact own_6 h
  · exact own_7 h
  · exact own_8 h
  · exact own_9 h
  · exact own_10 h
  rcases (show f = 11 ∨ f = 12 ∨ f = 13 ∨ f = 14 ∨ f = 15 ∨ f = 16 ∨ f = 17 ∨ f = 18 ∨ f = 19 ∨ f = 20 ∨ 21 ≤ f by omega) with rfl | rfl | rfl | rfl | rfl | rfl | rfl | rfl | rfl | rfl | hk
  · exact own_11 h
  · exact own_12 h
  · exact own_13 h
  · exact own_14 h
  · exact own_15 h
  · exact own_16 h
  · exact own_17 h
  · exact own_18 h
  · exact own_19 h
  · exact own_20 h
  rcases (show f = 21 ∨ f = 22 ∨ f = 23 ∨ f = 24 ∨ f = 25 ∨ f = 26 ∨ f = 27 ∨ f = 28 ∨ f = 29 ∨ f = 30 ∨ 31 ≤ f by omega) with rfl | rfl | rfl | rfl | rfl | rfl | rfl | rfl | rfl | rfl | hk
  · exact own_21 h
  · exact own_22 h
  · exact own_23 h
  · exact own_24 h
  · exact own_25 h
  · exact own_26 h
  · exact own_27 h
  · exact own_28 h
  · exact own_29 h
  · exact own_30 h
  rcases (show f = 31 ∨ f = 32 ∨ f = 33 ∨ f = 34 ∨ f = 35 ∨ f = 36 ∨ f = 37 ∨ f = 38 ∨ f = 39 ∨ f = 40 ∨ 41 ≤ f by omega) with rfl | rfl | rfl | rfl | rfl | rfl | rfl | rfl | rfl | rfl | hk
  · exact own_31 h
  · exact own_32 h
  · exact own_33 h
  · exact own_34 h
  · exact own_35 h
  · exact own_36 h
  · exact own_37 h
  · exact own_38 h
  · exact own_39 h
  · exact own_40 h
  rcases (show f = 41 ∨ f = 42 ∨ f = 43 ∨ f = 44 ∨ f = 45 ∨ f = 46 ∨ f = 47 by omega) with rfl | rfl | rfl | rfl | rfl | rfl | rfl
  · exact own_41 h
  · exact own_42 h
  · exact own_43 h
  · exact own_44 h
  · exact own_45 h
  · exact own_46 h
  · exact own_47 h

theorem wide_dec {f rd rn rm ra im kd bs st cd rg : Int} (h : right f rd rn rm ra im kd bs st cd rg = true) (g0 : -9223372036854775808 ≤ rg) (g1 : rg ≤ 9223372036854775807) (hf : 48 ≤ f) : decW (wd f rd rn rm ra im kd bs st cd rg) = f := by
  obtain ⟨⟨_, i1⟩, h⟩ := at_own h g0 g1
  rcases (show f = 48 ∨ f = 49 ∨ f = 50 ∨ f = 51 ∨ f = 52 ∨ f = 53 ∨ f = 54 ∨ f = 55 ∨ f = 56 ∨ f = 57 ∨ 58 ≤ f by omega) with rfl | rfl | rfl | rfl | rfl | rfl | rfl | rfl | rfl | rfl | hk
  · exact own_48 h
  · exact own_49 h
  · exact own_50 h
  · exact own_51 h
  · exact own_52 h
  · exact own_53 h
  · exact own_54 h
  · exact own_55 h
  · exact own_56 h
  · exact own_57 h
  rcases (show f = 58 ∨ f = 59 ∨ f = 60 ∨ f = 61 ∨ f = 62 ∨ f = 63 ∨ f = 64 ∨ f = 65 ∨ f = 66 ∨ f = 67 ∨ 68 ≤ f by omega) with rfl | rfl | rfl | rfl | rfl | rfl | rfl | rfl | rfl | rfl | hk
  · exact own_58 h
  · exact own_59 h
  · exact own_60 h
  · exact own_61 h
  · exact own_62 h
  · exact own_63 h
  · exact own_64 h
  · exact own_65 h
  · exact own_66 h
  · exact own_67 h
  rcases (show f = 68 ∨ f = 69 ∨ f = 70 ∨ f = 71 ∨ f = 72 ∨ f = 73 ∨ f = 74 ∨ f = 75 ∨ f = 76 ∨ f = 77 ∨ 78 ≤ f by omega) with rfl | rfl | rfl | rfl | rfl | rfl | rfl | rfl | rfl | rfl | hk
  · exact own_68 h
  · exact own_69 h
  · exact own_70 h
  · exact own_71 h
  · exact own_72 h
  · exact own_73 h
  · exact own_74 h
  · exact own_75 h
  · exact own_76 h
  · exact own_77 h
  rcases (show f = 78 ∨ f = 79 ∨ f = 80 ∨ f = 81 ∨ f = 82 ∨ f = 83 ∨ f = 84 ∨ f = 85 ∨ f = 86 ∨ f = 87 ∨ 88 ≤ f by omega) with rfl | rfl | rfl | rfl | rfl | rfl | rfl | rfl | rfl | rfl | hk
  · exact own_78 h
  · exact own_79 h
  · exact own_80 h
  · exact own_81 h
  · exact own_82 h
  · exact own_83 h
  · exact own_84 h
  · exact own_85 h
  · exact own_86 h
  · exact own_87 h
  rcases (show f = 88 ∨ f = 89 ∨ f = 90 ∨ f = 91 ∨ f = 92 ∨ f = 93 ∨ f = 94 ∨ f = 95 ∨ f = 96 ∨ f = 97 ∨ 98 ≤ f by omega) with rfl | rfl | rfl | rfl | rfl | rfl | rfl | rfl | rfl | rfl | hk
  · exact own_88 h
  · exact own_89 h
  · exact own_90 h
  · exact own_91 h
  · exact own_92 h
  · exact own_93 h
  · exact own_94 h
  · exact own_95 h
  · exact own_96 h
  · exact own_97 h
  rcases (show f = 98 ∨ f = 99 ∨ f = 100 by omega) with rfl | rfl | rfl
  · exact own_98 h
  · exact own_99 h
  · exact own_100 h

end Go.Proofs.YtegefbndpkbooaaDoor.Code

