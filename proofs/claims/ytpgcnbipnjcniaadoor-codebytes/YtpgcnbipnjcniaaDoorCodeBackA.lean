/- Fields out of words: forms 1 to 47. -/
import Derived.Test.YtpgcnbipnjcniaaDoorCodeRead
set_option linter.unusedVariables false
set_option linter.unusedSimpArgs false
namespace Go.Proofs.YtpgcnbipnjcniaaDoor.Code
open Go.Proofs.YtpgcnbipnjcniaaDoor.Alu Go.Proofs.YtpgcnbipnjcniaaDoor.Imm Go.Proofs.YtpgcnbipnjcniaaDoor.Inst

theorem back_1 {f rd rn rm ra im kd bs st cd rg : Int} (hf : f = 1) (h : (0 ≤ rd ∧ rd ≤ 7) ∧ (rn = 0) ∧ (0 ≤ rm ∧ rm ≤ 7) ∧ (ra = 0) ∧ (0 ≤ im ∧ im ≤ 32 ∧ (f = 1 → im ≤ 31) ∧ (¬ f = 1 → 1 ≤ im)) ∧ (kd = 0) ∧ (bs = 0) ∧ (st = 0) ∧ (cd = 0) ∧ (rg = 0)) (w : Int) (hw : w = 0 + (im % 32 * 64 + rm * 8 + rd)) : rdOf f 1 w = rd ∧ rnOf f 1 w = rn ∧ rmOf f 1 w = rm ∧ raOf f 1 w = ra ∧ imOf f 1 w = im ∧ kdOf f 1 w = kd ∧ bsOf f 1 w = bs ∧ stOf f 1 w = st ∧ cdOf f 1 w = cd ∧ rgOf f 1 w = rg := by
  obtain ⟨h1, h2, h3, h4, h5, h6, h7, h8, h9, h10⟩ := h
  rw [rd_1, rn_1, rm_1, ra_1, im_1, kd_1, bs_1, st_1, cd_1, rg_1]
  have g0 : 0 ≤ im % 32 ∧ im % 32 ≤ 31 := by omega
  exact ⟨by omega, by omega, by omega, by omega, by first | omega | (split <;> omega), by omega, by omega, by omega, by omega, by omega⟩
theorem back_2 {f rd rn rm ra im kd bs st cd rg : Int} (hf : f = 2) (h : (0 ≤ rd ∧ rd ≤ 7) ∧ (rn = 0) ∧ (0 ≤ rm ∧ rm ≤ 7) ∧ (ra = 0) ∧ (0 ≤ im ∧ im ≤ 32 ∧ (f = 1 → im ≤ 31) ∧ (¬ f = 1 → 1 ≤ im)) ∧ (kd = 0) ∧ (bs = 0) ∧ (st = 0) ∧ (cd = 0) ∧ (rg = 0)) (w : Int) (hw : w = 2048 + (im % 32 * 64 + rm * 8 + rd)) : rdOf f 1 w = rd ∧ rnOf f 1 w = rn ∧ rmOf f 1 w = rm ∧ raOf f 1 w = ra ∧ imOf f 1 w = im ∧ kdOf f 1 w = kd ∧ bsOf f 1 w = bs ∧ stOf f 1 w = st ∧ cdOf f 1 w = cd ∧ rgOf f 1 w = rg := by
  obtain ⟨h1, h2, h3, h4, h5, h6, h7, h8, h9, h10⟩ := h
  rw [rd_1, rn_1, rm_1, ra_1, im_1, kd_1, bs_1, st_1, cd_1, rg_1]
  have g0 : 0 ≤ im % 32 ∧ im % 32 ≤ 31 := by omega
  exact ⟨by omega, by omega, by omega, by omega, by first | omega | (split <;> omega), by omega, by omega, by omega, by omega, by omega⟩
theorem back_3 {f rd rn rm ra im kd bs st cd rg : Int} (hf : f = 3) (h : (0 ≤ rd ∧ rd ≤ 7) ∧ (rn = 0) ∧ (0 ≤ rm ∧ rm ≤ 7) ∧ (ra = 0) ∧ (0 ≤ im ∧ im ≤ 32 ∧ (f = 1 → im ≤ 31) ∧ (¬ f = 1 → 1 ≤ im)) ∧ (kd = 0) ∧ (bs = 0) ∧ (st = 0) ∧ (cd = 0) ∧ (rg = 0)) (w : Int) (hw : w = 4096 + (im % 32 * 64 + rm * 8 + rd)) : rdOf f 1 w = rd ∧ rnOf f 1 w = rn ∧ rmOf f 1 w = rm ∧ raOf f 1 w = ra ∧ imOf f 1 w = im ∧ kdOf f 1 w = kd ∧ bsOf f 1 w = bs ∧ stOf f 1 w = st ∧ cdOf f 1 w = cd ∧ rgOf f 1 w = rg := by
  obtain ⟨h1, h2, h3, h4, h5, h6, h7, h8, h9, h10⟩ := h
  rw [rd_1, rn_1, rm_1, ra_1, im_1, kd_1, bs_1, st_1, cd_1, rg_1]
  have g0 : 0 ≤ im % 32 ∧ im % 32 ≤ 31 := by omega
  exact ⟨by omega, by omega, by omega, by omega, by first | omega | (split <;> omega), by omega, by omega, by omega, by omega, by omega⟩
theorem back_4 {f rd rn rm ra im kd bs st cd rg : Int} (hf : f = 4) (h : (0 ≤ rd ∧ rd ≤ 7) ∧ (0 ≤ rn ∧ rn ≤ 7) ∧ (0 ≤ rm ∧ rm ≤ 7) ∧ (ra = 0) ∧ (im = 0) ∧ (kd = 0) ∧ (bs = 0) ∧ (st = 0) ∧ (cd = 0) ∧ (rg = 0)) (w : Int) (hw : w = 6144 + (rm * 64 + rn * 8 + rd)) : rdOf f 2 w = rd ∧ rnOf f 2 w = rn ∧ rmOf f 2 w = rm ∧ raOf f 2 w = ra ∧ imOf f 2 w = im ∧ kdOf f 2 w = kd ∧ bsOf f 2 w = bs ∧ stOf f 2 w = st ∧ cdOf f 2 w = cd ∧ rgOf f 2 w = rg := by
  obtain ⟨h1, h2, h3, h4, h5, h6, h7, h8, h9, h10⟩ := h
  rw [rd_2, rn_2, rm_2, ra_2, im_2, kd_2, bs_2, st_2, cd_2, rg_2]
  exact ⟨by omega, by omega, by omega, by omega, by omega, by omega, by omega, by omega, by omega, by omega⟩
theorem back_5 {f rd rn rm ra im kd bs st cd rg : Int} (hf : f = 5) (h : (0 ≤ rd ∧ rd ≤ 7) ∧ (0 ≤ rn ∧ rn ≤ 7) ∧ (0 ≤ rm ∧ rm ≤ 7) ∧ (ra = 0) ∧ (im = 0) ∧ (kd = 0) ∧ (bs = 0) ∧ (st = 0) ∧ (cd = 0) ∧ (rg = 0)) (w : Int) (hw : w = 6656 + (rm * 64 + rn * 8 + rd)) : rdOf f 2 w = rd ∧ rnOf f 2 w = rn ∧ rmOf f 2 w = rm ∧ raOf f 2 w = ra ∧ imOf f 2 w = im ∧ kdOf f 2 w = kd ∧ bsOf f 2 w = bs ∧ stOf f 2 w = st ∧ cdOf f 2 w = cd ∧ rgOf f 2 w = rg := by
  obtain ⟨h1, h2, h3, h4, h5, h6, h7, h8, h9, h10⟩ := h
  rw [rd_2, rn_2, rm_2, ra_2, im_2, kd_2, bs_2, st_2, cd_2, rg_2]
  exact ⟨by omega, by omega, by omega, by omega, by omega, by omega, by omega, by omega, by omega, by omega⟩
theorem back_6 {f rd rn rm ra im kd bs st cd rg : Int} (hf : f = 6) (h : (0 ≤ rd ∧ rd ≤ 7) ∧ (0 ≤ rn ∧ rn ≤ 7) ∧ (rm = 0) ∧ (ra = 0) ∧ (0 ≤ im ∧ im ≤ 7) ∧ (kd = 0) ∧ (bs = 0) ∧ (st = 0) ∧ (cd = 0) ∧ (rg = 0)) (w : Int) (hw : w = 7168 + (im * 64 + rn * 8 + rd)) : rdOf f 3 w = rd ∧ rnOf f 3 w = rn ∧ rmOf f 3 w = rm ∧ raOf f 3 w = ra ∧ imOf f 3 w = im ∧ kdOf f 3 w = kd ∧ bsOf f 3 w = bs ∧ stOf f 3 w = st ∧ cdOf f 3 w = cd ∧ rgOf f 3 w = rg := by
  obtain ⟨h1, h2, h3, h4, h5, h6, h7, h8, h9, h10⟩ := h
  rw [rd_3, rn_3, rm_3, ra_3, im_3, kd_3, bs_3, st_3, cd_3, rg_3]
  exact ⟨by omega, by omega, by omega, by omega, by omega, by omega, by omega, by omega, by omega, by omega⟩
theorem back_7 {f rd rn rm ra im kd bs st cd rg : Int} (hf : f = 7) (h : (0 ≤ rd ∧ rd ≤ 7) ∧ (0 ≤ rn ∧ rn ≤ 7) ∧ (rm = 0) ∧ (ra = 0) ∧ (0 ≤ im ∧ im ≤ 7) ∧ (kd = 0) ∧ (bs = 0) ∧ (st = 0) ∧ (cd = 0) ∧ (rg = 0)) (w : Int) (hw : w = 7680 + (im * 64 + rn * 8 + rd)) : rdOf f 3 w = rd ∧ rnOf f 3 w = rn ∧ rmOf f 3 w = rm ∧ raOf f 3 w = ra ∧ imOf f 3 w = im ∧ kdOf f 3 w = kd ∧ bsOf f 3 w = bs ∧ stOf f 3 w = st ∧ cdOf f 3 w = cd ∧ rgOf f 3 w = rg := by
  obtain ⟨h1, h2, h3, h4, h5, h6, h7, h8, h9, h10⟩ := h
  rw [rd_3, rn_3, rm_3, ra_3, im_3, kd_3, bs_3, st_3, cd_3, rg_3]
  exact ⟨by omega, by omega, by omega, by omega, by omega, by omega, by omega, by omega, by omega, by omega⟩
theorem back_8 {f rd rn rm ra im kd bs st cd rg : Int} (hf : f = 8) (h : (0 ≤ rd ∧ rd ≤ 7) ∧ (rn = 0) ∧ (rm = 0) ∧ (ra = 0) ∧ (0 ≤ im ∧ im ≤ 255) ∧ (kd = 0) ∧ (bs = 0) ∧ (st = 0) ∧ (cd = 0) ∧ (rg = 0)) (w : Int) (hw : w = 8192 + (rd * 256 + im)) : rdOf f 4 w = rd ∧ rnOf f 4 w = rn ∧ rmOf f 4 w = rm ∧ raOf f 4 w = ra ∧ imOf f 4 w = im ∧ kdOf f 4 w = kd ∧ bsOf f 4 w = bs ∧ stOf f 4 w = st ∧ cdOf f 4 w = cd ∧ rgOf f 4 w = rg := by
  obtain ⟨h1, h2, h3, h4, h5, h6, h7, h8, h9, h10⟩ := h
  rw [rd_4, rn_4, rm_4, ra_4, im_4, kd_4, bs_4, st_4, cd_4, rg_4]
  exact ⟨by omega, by omega, by omega, by omega, by omega, by omega, by omega, by omega, by omega, by omega⟩
theorem back_9 {f rd rn rm ra im kd bs st cd rg : Int} (hf : f = 9) (h : (0 ≤ rd ∧ rd ≤ 7) ∧ (rn = 0) ∧ (rm = 0) ∧ (ra = 0) ∧ (0 ≤ im ∧ im ≤ 255) ∧ (kd = 0) ∧ (bs = 0) ∧ (st = 0) ∧ (cd = 0) ∧ (rg = 0)) (w : Int) (hw : w = 10240 + (rd * 256 + im)) : rdOf f 4 w = rd ∧ rnOf f 4 w = rn ∧ rmOf f 4 w = rm ∧ raOf f 4 w = ra ∧ imOf f 4 w = im ∧ kdOf f 4 w = kd ∧ bsOf f 4 w = bs ∧ stOf f 4 w = st ∧ cdOf f 4 w = cd ∧ rgOf f 4 w = rg := by
  obtain ⟨h1, h2, h3, h4, h5, h6, h7, h8, h9, h10⟩ := h
  rw [rd_4, rn_4, rm_4, ra_4, im_4, kd_4, bs_4, st_4, cd_4, rg_4]
  exact ⟨by omega, by omega, by omega, by omega, by omega, by omega, by omega, by omega, by omega, by omega⟩
theorem back_10 {f rd rn rm ra im kd bs st cd rg : Int} (hf : f = 10) (h : (0 ≤ rd ∧ rd ≤ 7) ∧ (rn = 0) ∧ (rm = 0) ∧ (ra = 0) ∧ (0 ≤ im ∧ im ≤ 255) ∧ (kd = 0) ∧ (bs = 0) ∧ (st = 0) ∧ (cd = 0) ∧ (rg = 0)) (w : Int) (hw : w = 12288 + (rd * 256 + im)) : rdOf f 4 w = rd ∧ rnOf f 4 w = rn ∧ rmOf f 4 w = rm ∧ raOf f 4 w = ra ∧ imOf f 4 w = im ∧ kdOf f 4 w = kd ∧ bsOf f 4 w = bs ∧ stOf f 4 w = st ∧ cdOf f 4 w = cd ∧ rgOf f 4 w = rg := by
  obtain ⟨h1, h2, h3, h4, h5, h6, h7, h8, h9, h10⟩ := h
  rw [rd_4, rn_4, rm_4, ra_4, im_4, kd_4, bs_4, st_4, cd_4, rg_4]
  exact ⟨by omega, by omega, by omega, by omega, by omega, by omega, by omega, by omega, by omega, by omega⟩
theorem back_11 {f rd rn rm ra im kd bs st cd rg : Int} (hf : f = 11) (h : (0 ≤ rd ∧ rd ≤ 7) ∧ (rn = 0) ∧ (rm = 0) ∧ (ra = 0) ∧ (0 ≤ im ∧ im ≤ 255) ∧ (kd = 0) ∧ (bs = 0) ∧ (st = 0) ∧ (cd = 0) ∧ (rg = 0)) (w : Int) (hw : w = 14336 + (rd * 256 + im)) : rdOf f 4 w = rd ∧ rnOf f 4 w = rn ∧ rmOf f 4 w = rm ∧ raOf f 4 w = ra ∧ imOf f 4 w = im ∧ kdOf f 4 w = kd ∧ bsOf f 4 w = bs ∧ stOf f 4 w = st ∧ cdOf f 4 w = cd ∧ rgOf f 4 w = rg := by
  obtain ⟨h1, h2, h3, h4, h5, h6, h7, h8, h9, h10⟩ := h
  rw [rd_4, rn_4, rm_4, ra_4, im_4, kd_4, bs_4, st_4, cd_4, rg_4]
  exact ⟨by omega, by omega, by omega, by omega, by omega, by omega, by omega, by omega, by omega, by omega⟩
theorem back_12 {f rd rn rm ra im kd bs st cd rg : Int} (hf : f = 12) (h : (0 ≤ rd ∧ rd ≤ 7) ∧ (rn = 0) ∧ (0 ≤ rm ∧ rm ≤ 7) ∧ (ra = 0) ∧ (im = 0) ∧ (kd = 0) ∧ (bs = 0) ∧ (st = 0) ∧ (cd = 0) ∧ (rg = 0)) (w : Int) (hw : w = 16384 + (rm * 8 + rd)) : rdOf f 5 w = rd ∧ rnOf f 5 w = rn ∧ rmOf f 5 w = rm ∧ raOf f 5 w = ra ∧ imOf f 5 w = im ∧ kdOf f 5 w = kd ∧ bsOf f 5 w = bs ∧ stOf f 5 w = st ∧ cdOf f 5 w = cd ∧ rgOf f 5 w = rg := by
  obtain ⟨h1, h2, h3, h4, h5, h6, h7, h8, h9, h10⟩ := h
  rw [rd_5, rn_5, rm_5, ra_5, im_5, kd_5, bs_5, st_5, cd_5, rg_5]
  exact ⟨by omega, by omega, by omega, by omega, by omega, by omega, by omega, by omega, by omega, by omega⟩
theorem back_13 {f rd rn rm ra im kd bs st cd rg : Int} (hf : f = 13) (h : (0 ≤ rd ∧ rd ≤ 7) ∧ (rn = 0) ∧ (0 ≤ rm ∧ rm ≤ 7) ∧ (ra = 0) ∧ (im = 0) ∧ (kd = 0) ∧ (bs = 0) ∧ (st = 0) ∧ (cd = 0) ∧ (rg = 0)) (w : Int) (hw : w = 16448 + (rm * 8 + rd)) : rdOf f 5 w = rd ∧ rnOf f 5 w = rn ∧ rmOf f 5 w = rm ∧ raOf f 5 w = ra ∧ imOf f 5 w = im ∧ kdOf f 5 w = kd ∧ bsOf f 5 w = bs ∧ stOf f 5 w = st ∧ cdOf f 5 w = cd ∧ rgOf f 5 w = rg := by
  obtain ⟨h1, h2, h3, h4, h5, h6, h7, h8, h9, h10⟩ := h
  rw [rd_5, rn_5, rm_5, ra_5, im_5, kd_5, bs_5, st_5, cd_5, rg_5]
  exact ⟨by omega, by omega, by omega, by omega, by omega, by omega, by omega, by omega, by omega, by omega⟩
theorem back_14 {f rd rn rm ra im kd bs st cd rg : Int} (hf : f = 14) (h : (0 ≤ rd ∧ rd ≤ 7) ∧ (rn = 0) ∧ (0 ≤ rm ∧ rm ≤ 7) ∧ (ra = 0) ∧ (im = 0) ∧ (kd = 0) ∧ (bs = 0) ∧ (st = 0) ∧ (cd = 0) ∧ (rg = 0)) (w : Int) (hw : w = 16512 + (rm * 8 + rd)) : rdOf f 5 w = rd ∧ rnOf f 5 w = rn ∧ rmOf f 5 w = rm ∧ raOf f 5 w = ra ∧ imOf f 5 w = im ∧ kdOf f 5 w = kd ∧ bsOf f 5 w = bs ∧ stOf f 5 w = st ∧ cdOf f 5 w = cd ∧ rgOf f 5 w = rg := by
  obtain ⟨h1, h2, h3, h4, h5, h6, h7, h8, h9, h10⟩ := h
  rw [rd_5, rn_5, rm_5, ra_5, im_5, kd_5, bs_5, st_5, cd_5, rg_5]
  exact ⟨by omega, by omega, by omega, by omega, by omega, by omega, by omega, by omega, by omega, by omega⟩
theorem back_15 {f rd rn rm ra im kd bs st cd rg : Int} (hf : f = 15) (h : (0 ≤ rd ∧ rd ≤ 7) ∧ (rn = 0) ∧ (0 ≤ rm ∧ rm ≤ 7) ∧ (ra = 0) ∧ (im = 0) ∧ (kd = 0) ∧ (bs = 0) ∧ (st = 0) ∧ (cd = 0) ∧ (rg = 0)) (w : Int) (hw : w = 16576 + (rm * 8 + rd)) : rdOf f 5 w = rd ∧ rnOf f 5 w = rn ∧ rmOf f 5 w = rm ∧ raOf f 5 w = ra ∧ imOf f 5 w = im ∧ kdOf f 5 w = kd ∧ bsOf f 5 w = bs ∧ stOf f 5 w = st ∧ cdOf f 5 w = cd ∧ rgOf f 5 w = rg := by
  obtain ⟨h1, h2, h3, h4, h5, h6, h7, h8, h9, h10⟩ := h
  rw [rd_5, rn_5, rm_5, ra_5, im_5, kd_5, bs_5, st_5, cd_5, rg_5]
  exact ⟨by omega, by omega, by omega, by omega, by omega, by omega, by omega, by omega, by omega, by omega⟩
theorem back_16 {f rd rn rm ra im kd bs st cd rg : Int} (hf : f = 16) (h : (0 ≤ rd ∧ rd ≤ 7) ∧ (rn = 0) ∧ (0 ≤ rm ∧ rm ≤ 7) ∧ (ra = 0) ∧ (im = 0) ∧ (kd = 0) ∧ (bs = 0) ∧ (st = 0) ∧ (cd = 0) ∧ (rg = 0)) (w : Int) (hw : w = 16640 + (rm * 8 + rd)) : rdOf f 5 w = rd ∧ rnOf f 5 w = rn ∧ rmOf f 5 w = rm ∧ raOf f 5 w = ra ∧ imOf f 5 w = im ∧ kdOf f 5 w = kd ∧ bsOf f 5 w = bs ∧ stOf f 5 w = st ∧ cdOf f 5 w = cd ∧ rgOf f 5 w = rg := by
  obtain ⟨h1, h2, h3, h4, h5, h6, h7, h8, h9, h10⟩ := h
  rw [rd_5, rn_5, rm_5, ra_5, im_5, kd_5, bs_5, st_5, cd_5, rg_5]
  exact ⟨by omega, by omega, by omega, by omega, by omega, by omega, by omega, by omega, by omega, by omega⟩
theorem back_17 {f rd rn rm ra im kd bs st cd rg : Int} (hf : f = 17) (h : (0 ≤ rd ∧ rd ≤ 7) ∧ (rn = 0) ∧ (0 ≤ rm ∧ rm ≤ 7) ∧ (ra = 0) ∧ (im = 0) ∧ (kd = 0) ∧ (bs = 0) ∧ (st = 0) ∧ (cd = 0) ∧ (rg = 0)) (w : Int) (hw : w = 16704 + (rm * 8 + rd)) : rdOf f 5 w = rd ∧ rnOf f 5 w = rn ∧ rmOf f 5 w = rm ∧ raOf f 5 w = ra ∧ imOf f 5 w = im ∧ kdOf f 5 w = kd ∧ bsOf f 5 w = bs ∧ stOf f 5 w = st ∧ cdOf f 5 w = cd ∧ rgOf f 5 w = rg := by
  obtain ⟨h1, h2, h3, h4, h5, h6, h7, h8, h9, h10⟩ := h
  rw [rd_5, rn_5, rm_5, ra_5, im_5, kd_5, bs_5, st_5, cd_5, rg_5]
  exact ⟨by omega, by omega, by omega, by omega, by omega, by omega, by omega, by omega, by omega, by omega⟩
theorem back_18 {f rd rn rm ra im kd bs st cd rg : Int} (hf : f = 18) (h : (0 ≤ rd ∧ rd ≤ 7) ∧ (rn = 0) ∧ (0 ≤ rm ∧ rm ≤ 7) ∧ (ra = 0) ∧ (im = 0) ∧ (kd = 0) ∧ (bs = 0) ∧ (st = 0) ∧ (cd = 0) ∧ (rg = 0)) (w : Int) (hw : w = 16768 + (rm * 8 + rd)) : rdOf f 5 w = rd ∧ rnOf f 5 w = rn ∧ rmOf f 5 w = rm ∧ raOf f 5 w = ra ∧ imOf f 5 w = im ∧ kdOf f 5 w = kd ∧ bsOf f 5 w = bs ∧ stOf f 5 w = st ∧ cdOf f 5 w = cd ∧ rgOf f 5 w = rg := by
  obtain ⟨h1, h2, h3, h4, h5, h6, h7, h8, h9, h10⟩ := h
  rw [rd_5, rn_5, rm_5, ra_5, im_5, kd_5, bs_5, st_5, cd_5, rg_5]
  exact ⟨by omega, by omega, by omega, by omega, by omega, by omega, by omega, by omega, by omega, by omega⟩
theorem back_19 {f rd rn rm ra im kd bs st cd rg : Int} (hf : f = 19) (h : (0 ≤ rd ∧ rd ≤ 7) ∧ (rn = 0) ∧ (0 ≤ rm ∧ rm ≤ 7) ∧ (ra = 0) ∧ (im = 0) ∧ (kd = 0) ∧ (bs = 0) ∧ (st = 0) ∧ (cd = 0) ∧ (rg = 0)) (w : Int) (hw : w = 16832 + (rm * 8 + rd)) : rdOf f 5 w = rd ∧ rnOf f 5 w = rn ∧ rmOf f 5 w = rm ∧ raOf f 5 w = ra ∧ imOf f 5 w = im ∧ kdOf f 5 w = kd ∧ bsOf f 5 w = bs ∧ stOf f 5 w = st ∧ cdOf f 5 w = cd ∧ rgOf f 5 w = rg := by
  obtain ⟨h1, h2, h3, h4, h5, h6, h7, h8, h9, h10⟩ := h
  rw [rd_5, rn_5, rm_5, ra_5, im_5, kd_5, bs_5, st_5, cd_5, rg_5]
  exact ⟨by omega, by omega, by omega, by omega, by omega, by omega, by omega, by omega, by omega, by omega⟩
theorem back_20 {f rd rn rm ra im kd bs st cd rg : Int} (hf : f = 20) (h : (0 ≤ rd ∧ rd ≤ 7) ∧ (rn = 0) ∧ (0 ≤ rm ∧ rm ≤ 7) ∧ (ra = 0) ∧ (im = 0) ∧ (kd = 0) ∧ (bs = 0) ∧ (st = 0) ∧ (cd = 0) ∧ (rg = 0)) (w : Int) (hw : w = 16896 + (rm * 8 + rd)) : rdOf f 5 w = rd ∧ rnOf f 5 w = rn ∧ rmOf f 5 w = rm ∧ raOf f 5 w = ra ∧ imOf f 5 w = im ∧ kdOf f 5 w = kd ∧ bsOf f 5 w = bs ∧ stOf f 5 w = st ∧ cdOf f 5 w = cd ∧ rgOf f 5 w = rg := by
  obtain ⟨h1, h2, h3, h4, h5, h6, h7, h8, h9, h10⟩ := h
  rw [rd_5, rn_5, rm_5, ra_5, im_5, kd_5, bs_5, st_5, cd_5, rg_5]
  exact ⟨by omega, by omega, by omega, by omega, by omega, by omega, by omega, by omega, by omega, by omega⟩
theorem back_21 {f rd rn rm ra im kd bs st cd rg : Int} (hf : f = 21) (h : (0 ≤ rd ∧ rd ≤ 7) ∧ (rn = 0) ∧ (0 ≤ rm ∧ rm ≤ 7) ∧ (ra = 0) ∧ (im = 0) ∧ (kd = 0) ∧ (bs = 0) ∧ (st = 0) ∧ (cd = 0) ∧ (rg = 0)) (w : Int) (hw : w = 16960 + (rm * 8 + rd)) : rdOf f 5 w = rd ∧ rnOf f 5 w = rn ∧ rmOf f 5 w = rm ∧ raOf f 5 w = ra ∧ imOf f 5 w = im ∧ kdOf f 5 w = kd ∧ bsOf f 5 w = bs ∧ stOf f 5 w = st ∧ cdOf f 5 w = cd ∧ rgOf f 5 w = rg := by
  obtain ⟨h1, h2, h3, h4, h5, h6, h7, h8, h9, h10⟩ := h
  rw [rd_5, rn_5, rm_5, ra_5, im_5, kd_5, bs_5, st_5, cd_5, rg_5]
  exact ⟨by omega, by omega, by omega, by omega, by omega, by omega, by omega, by omega, by omega, by omega⟩
theorem back_22 {f rd rn rm ra im kd bs st cd rg : Int} (hf : f = 22) (h : (0 ≤ rd ∧ rd ≤ 7) ∧ (rn = 0) ∧ (0 ≤ rm ∧ rm ≤ 7) ∧ (ra = 0) ∧ (im = 0) ∧ (kd = 0) ∧ (bs = 0) ∧ (st = 0) ∧ (cd = 0) ∧ (rg = 0)) (w : Int) (hw : w = 17024 + (rm * 8 + rd)) : rdOf f 5 w = rd ∧ rnOf f 5 w = rn ∧ rmOf f 5 w = rm ∧ raOf f 5 w = ra ∧ imOf f 5 w = im ∧ kdOf f 5 w = kd ∧ bsOf f 5 w = bs ∧ stOf f 5 w = st ∧ cdOf f 5 w = cd ∧ rgOf f 5 w = rg := by
  obtain ⟨h1, h2, h3, h4, h5, h6, h7, h8, h9, h10⟩ := h
  rw [rd_5, rn_5, rm_5, ra_5, im_5, kd_5, bs_5, st_5, cd_5, rg_5]
  exact ⟨by omega, by omega, by omega, by omega, by omega, by omega, by omega, by omega, by omega, by omega⟩
theorem back_23 {f rd rn rm ra im kd bs st cd rg : Int} (hf : f = 23) (h : (0 ≤ rd ∧ rd ≤ 7) ∧ (rn = 0) ∧ (0 ≤ rm ∧ rm ≤ 7) ∧ (ra = 0) ∧ (im = 0) ∧ (kd = 0) ∧ (bs = 0) ∧ (st = 0) ∧ (cd = 0) ∧ (rg = 0)) (w : Int) (hw : w = 17088 + (rm * 8 + rd)) : rdOf f 5 w = rd ∧ rnOf f 5 w = rn ∧ rmOf f 5 w = rm ∧ raOf f 5 w = ra ∧ imOf f 5 w = im ∧ kdOf f 5 w = kd ∧ bsOf f 5 w = bs ∧ stOf f 5 w = st ∧ cdOf f 5 w = cd ∧ rgOf f 5 w = rg := by
  obtain ⟨h1, h2, h3, h4, h5, h6, h7, h8, h9, h10⟩ := h
  rw [rd_5, rn_5, rm_5, ra_5, im_5, kd_5, bs_5, st_5, cd_5, rg_5]
  exact ⟨by omega, by omega, by omega, by omega, by omega, by omega, by omega, by omega, by omega, by omega⟩
theorem back_24 {f rd rn rm ra im kd bs st cd rg : Int} (hf : f = 24) (h : (0 ≤ rd ∧ rd ≤ 7) ∧ (rn = 0) ∧ (0 ≤ rm ∧ rm ≤ 7) ∧ (ra = 0) ∧ (im = 0) ∧ (kd = 0) ∧ (bs = 0) ∧ (st = 0) ∧ (cd = 0) ∧ (rg = 0)) (w : Int) (hw : w = 17152 + (rm * 8 + rd)) : rdOf f 5 w = rd ∧ rnOf f 5 w = rn ∧ rmOf f 5 w = rm ∧ raOf f 5 w = ra ∧ imOf f 5 w = im ∧ kdOf f 5 w = kd ∧ bsOf f 5 w = bs ∧ stOf f 5 w = st ∧ cdOf f 5 w = cd ∧ rgOf f 5 w = rg := by
  obtain ⟨h1, h2, h3, h4, h5, h6, h7, h8, h9, h10⟩ := h
  rw [rd_5, rn_5, rm_5, ra_5, im_5, kd_5, bs_5, st_5, cd_5, rg_5]
  exact ⟨by omega, by omega, by omega, by omega, by omega, by omega, by omega, by omega, by omega, by omega⟩
theorem back_25 {f rd rn rm ra im kd bs st cd rg : Int} (hf : f = 25) (h : (0 ≤ rd ∧ rd ≤ 7) ∧ (rn = 0) ∧ (0 ≤ rm ∧ rm ≤ 7) ∧ (ra = 0) ∧ (im = 0) ∧ (kd = 0) ∧ (bs = 0) ∧ (st = 0) ∧ (cd = 0) ∧ (rg = 0)) (w : Int) (hw : w = 17216 + (rm * 8 + rd)) : rdOf f 5 w = rd ∧ rnOf f 5 w = rn ∧ rmOf f 5 w = rm ∧ raOf f 5 w = ra ∧ imOf f 5 w = im ∧ kdOf f 5 w = kd ∧ bsOf f 5 w = bs ∧ stOf f 5 w = st ∧ cdOf f 5 w = cd ∧ rgOf f 5 w = rg := by
  obtain ⟨h1, h2, h3, h4, h5, h6, h7, h8, h9, h10⟩ := h
  rw [rd_5, rn_5, rm_5, ra_5, im_5, kd_5, bs_5, st_5, cd_5, rg_5]
  exact ⟨by omega, by omega, by omega, by omega, by omega, by omega, by omega, by omega, by omega, by omega⟩
theorem back_26 {f rd rn rm ra im kd bs st cd rg : Int} (hf : f = 26) (h : (0 ≤ rd ∧ rd ≤ 7) ∧ (rn = 0) ∧ (0 ≤ rm ∧ rm ≤ 7) ∧ (ra = 0) ∧ (im = 0) ∧ (kd = 0) ∧ (bs = 0) ∧ (st = 0) ∧ (cd = 0) ∧ (rg = 0)) (w : Int) (hw : w = 17280 + (rm * 8 + rd)) : rdOf f 5 w = rd ∧ rnOf f 5 w = rn ∧ rmOf f 5 w = rm ∧ raOf f 5 w = ra ∧ imOf f 5 w = im ∧ kdOf f 5 w = kd ∧ bsOf f 5 w = bs ∧ stOf f 5 w = st ∧ cdOf f 5 w = cd ∧ rgOf f 5 w = rg := by
  obtain ⟨h1, h2, h3, h4, h5, h6, h7, h8, h9, h10⟩ := h
  rw [rd_5, rn_5, rm_5, ra_5, im_5, kd_5, bs_5, st_5, cd_5, rg_5]
  exact ⟨by omega, by omega, by omega, by omega, by omega, by omega, by omega, by omega, by omega, by omega⟩
theorem back_27 {f rd rn rm ra im kd bs st cd rg : Int} (hf : f = 27) (h : (0 ≤ rd ∧ rd ≤ 7) ∧ (rn = 0) ∧ (0 ≤ rm ∧ rm ≤ 7) ∧ (ra = 0) ∧ (im = 0) ∧ (kd = 0) ∧ (bs = 0) ∧ (st = 0) ∧ (cd = 0) ∧ (rg = 0)) (w : Int) (hw : w = 17344 + (rm * 8 + rd)) : rdOf f 5 w = rd ∧ rnOf f 5 w = rn ∧ rmOf f 5 w = rm ∧ raOf f 5 w = ra ∧ imOf f 5 w = im ∧ kdOf f 5 w = kd ∧ bsOf f 5 w = bs ∧ stOf f 5 w = st ∧ cdOf f 5 w = cd ∧ rgOf f 5 w = rg := by
  obtain ⟨h1, h2, h3, h4, h5, h6, h7, h8, h9, h10⟩ := h
  rw [rd_5, rn_5, rm_5, ra_5, im_5, kd_5, bs_5, st_5, cd_5, rg_5]
  exact ⟨by omega, by omega, by omega, by omega, by omega, by omega, by omega, by omega, by omega, by omega⟩
theorem back_28 {f rd rn rm ra im kd bs st cd rg : Int} (hf : f = 28) (h : (0 ≤ rd ∧ rd ≤ 14) ∧ (rn = 0) ∧ (0 ≤ rm ∧ rm ≤ 14) ∧ (ra = 0) ∧ (im = 0) ∧ (kd = 0) ∧ (bs = 0) ∧ (st = 0) ∧ (cd = 0) ∧ (rg = 0)) (w : Int) (hw : w = 17408 + (rd / 8 * 128 + rm * 8 + rd % 8)) : rdOf f 6 w = rd ∧ rnOf f 6 w = rn ∧ rmOf f 6 w = rm ∧ raOf f 6 w = ra ∧ imOf f 6 w = im ∧ kdOf f 6 w = kd ∧ bsOf f 6 w = bs ∧ stOf f 6 w = st ∧ cdOf f 6 w = cd ∧ rgOf f 6 w = rg := by
  obtain ⟨h1, h2, h3, h4, h5, h6, h7, h8, h9, h10⟩ := h
  rw [rd_6, rn_6, rm_6, ra_6, im_6, kd_6, bs_6, st_6, cd_6, rg_6]
  have g0 : 0 ≤ rd / 8 ∧ rd / 8 ≤ 1 := by omega
  have g1 : 0 ≤ rd % 8 ∧ rd % 8 ≤ 7 := by omega
  exact ⟨by omega, by omega, by omega, by omega, by omega, by omega, by omega, by omega, by omega, by omega⟩
theorem back_29 {f rd rn rm ra im kd bs st cd rg : Int} (hf : f = 29) (h : (0 ≤ rd ∧ rd ≤ 14) ∧ (rn = 0) ∧ (0 ≤ rm ∧ rm ≤ 14) ∧ (ra = 0) ∧ (im = 0) ∧ (kd = 0) ∧ (bs = 0) ∧ (st = 0) ∧ (cd = 0) ∧ (rg = 0)) (w : Int) (hw : w = 17664 + (rd / 8 * 128 + rm * 8 + rd % 8)) : rdOf f 6 w = rd ∧ rnOf f 6 w = rn ∧ rmOf f 6 w = rm ∧ raOf f 6 w = ra ∧ imOf f 6 w = im ∧ kdOf f 6 w = kd ∧ bsOf f 6 w = bs ∧ stOf f 6 w = st ∧ cdOf f 6 w = cd ∧ rgOf f 6 w = rg := by
  obtain ⟨h1, h2, h3, h4, h5, h6, h7, h8, h9, h10⟩ := h
  rw [rd_6, rn_6, rm_6, ra_6, im_6, kd_6, bs_6, st_6, cd_6, rg_6]
  have g0 : 0 ≤ rd / 8 ∧ rd / 8 ≤ 1 := by omega
  have g1 : 0 ≤ rd % 8 ∧ rd % 8 ≤ 7 := by omega
  exact ⟨by omega, by omega, by omega, by omega, by omega, by omega, by omega, by omega, by omega, by omega⟩
theorem back_30 {f rd rn rm ra im kd bs st cd rg : Int} (hf : f = 30) (h : (0 ≤ rd ∧ rd ≤ 14) ∧ (rn = 0) ∧ (0 ≤ rm ∧ rm ≤ 14) ∧ (ra = 0) ∧ (im = 0) ∧ (kd = 0) ∧ (bs = 0) ∧ (st = 0) ∧ (cd = 0) ∧ (rg = 0)) (w : Int) (hw : w = 17920 + (rd / 8 * 128 + rm * 8 + rd % 8)) : rdOf f 6 w = rd ∧ rnOf f 6 w = rn ∧ rmOf f 6 w = rm ∧ raOf f 6 w = ra ∧ imOf f 6 w = im ∧ kdOf f 6 w = kd ∧ bsOf f 6 w = bs ∧ stOf f 6 w = st ∧ cdOf f 6 w = cd ∧ rgOf f 6 w = rg := by
  obtain ⟨h1, h2, h3, h4, h5, h6, h7, h8, h9, h10⟩ := h
  rw [rd_6, rn_6, rm_6, ra_6, im_6, kd_6, bs_6, st_6, cd_6, rg_6]
  have g0 : 0 ≤ rd / 8 ∧ rd / 8 ≤ 1 := by omega
  have g1 : 0 ≤ rd % 8 ∧ rd % 8 ≤ 7 := by omega
  exact ⟨by omega, by omega, by omega, by omega, by omega, by omega, by omega, by omega, by omega, by omega⟩
theorem back_31 {f rd rn rm ra im kd bs st cd rg : Int} (hf : f = 31) (h : (rd = 0) ∧ (rn = 0) ∧ (0 ≤ rm ∧ rm ≤ 14) ∧ (ra = 0) ∧ (im = 0) ∧ (kd = 0) ∧ (bs = 0) ∧ (st = 0) ∧ (cd = 0) ∧ (rg = 0)) (w : Int) (hw : w = 18176 + (rm * 8)) : rdOf f 7 w = rd ∧ rnOf f 7 w = rn ∧ rmOf f 7 w = rm ∧ raOf f 7 w = ra ∧ imOf f 7 w = im ∧ kdOf f 7 w = kd ∧ bsOf f 7 w = bs ∧ stOf f 7 w = st ∧ cdOf f 7 w = cd ∧ rgOf f 7 w = rg := by
  obtain ⟨h1, h2, h3, h4, h5, h6, h7, h8, h9, h10⟩ := h
  rw [rd_7, rn_7, rm_7, ra_7, im_7, kd_7, bs_7, st_7, cd_7, rg_7]
  exact ⟨by omega, by omega, by omega, by omega, by omega, by omega, by omega, by omega, by omega, by omega⟩
theorem back_32 {f rd rn rm ra im kd bs st cd rg : Int} (hf : f = 32) (h : (0 ≤ rd ∧ rd ≤ 7) ∧ (rn = 0) ∧ (rm = 0) ∧ (ra = 0) ∧ (0 ≤ im ∧ im ≤ 1020 ∧ im % 4 = 0) ∧ (kd = 0) ∧ (bs = 0) ∧ (st = 0) ∧ (cd = 0) ∧ (rg = 0)) (w : Int) (hw : w = 18432 + (rd * 256 + im / 4)) : rdOf f 8 w = rd ∧ rnOf f 8 w = rn ∧ rmOf f 8 w = rm ∧ raOf f 8 w = ra ∧ imOf f 8 w = im ∧ kdOf f 8 w = kd ∧ bsOf f 8 w = bs ∧ stOf f 8 w = st ∧ cdOf f 8 w = cd ∧ rgOf f 8 w = rg := by
  obtain ⟨h1, h2, h3, h4, h5, h6, h7, h8, h9, h10⟩ := h
  rw [rd_8, rn_8, rm_8, ra_8, im_8, kd_8, bs_8, st_8, cd_8, rg_8]
  have g0 : 0 ≤ im / 4 ∧ im / 4 ≤ 255 := by omega
  exact ⟨by omega, by omega, by omega, by omega, by omega, by omega, by omega, by omega, by omega, by omega⟩
theorem back_33 {f rd rn rm ra im kd bs st cd rg : Int} (hf : f = 33) (h : (0 ≤ rd ∧ rd ≤ 7) ∧ (0 ≤ rn ∧ rn ≤ 7) ∧ (0 ≤ rm ∧ rm ≤ 7) ∧ (ra = 0) ∧ (im = 0) ∧ (kd = 0) ∧ (bs = 0) ∧ (st = 0) ∧ (cd = 0) ∧ (rg = 0)) (w : Int) (hw : w = 20480 + (rm * 64 + rn * 8 + rd)) : rdOf f 2 w = rd ∧ rnOf f 2 w = rn ∧ rmOf f 2 w = rm ∧ raOf f 2 w = ra ∧ imOf f 2 w = im ∧ kdOf f 2 w = kd ∧ bsOf f 2 w = bs ∧ stOf f 2 w = st ∧ cdOf f 2 w = cd ∧ rgOf f 2 w = rg := by
  obtain ⟨h1, h2, h3, h4, h5, h6, h7, h8, h9, h10⟩ := h
  rw [rd_2, rn_2, rm_2, ra_2, im_2, kd_2, bs_2, st_2, cd_2, rg_2]
  exact ⟨by omega, by omega, by omega, by omega, by omega, by omega, by omega, by omega, by omega, by omega⟩
theorem back_34 {f rd rn rm ra im kd bs st cd rg : Int} (hf : f = 34) (h : (0 ≤ rd ∧ rd ≤ 7) ∧ (0 ≤ rn ∧ rn ≤ 7) ∧ (0 ≤ rm ∧ rm ≤ 7) ∧ (ra = 0) ∧ (im = 0) ∧ (kd = 0) ∧ (bs = 0) ∧ (st = 0) ∧ (cd = 0) ∧ (rg = 0)) (w : Int) (hw : w = 22528 + (rm * 64 + rn * 8 + rd)) : rdOf f 2 w = rd ∧ rnOf f 2 w = rn ∧ rmOf f 2 w = rm ∧ raOf f 2 w = ra ∧ imOf f 2 w = im ∧ kdOf f 2 w = kd ∧ bsOf f 2 w = bs ∧ stOf f 2 w = st ∧ cdOf f 2 w = cd ∧ rgOf f 2 w = rg := by
  obtain ⟨h1, h2, h3, h4, h5, h6, h7, h8, h9, h10⟩ := h
  rw [rd_2, rn_2, rm_2, ra_2, im_2, kd_2, bs_2, st_2, cd_2, rg_2]
  exact ⟨by omega, by omega, by omega, by omega, by omega, by omega, by omega, by omega, by omega, by omega⟩
theorem back_35 {f rd rn rm ra im kd bs st cd rg : Int} (hf : f = 35) (h : (0 ≤ rd ∧ rd ≤ 7) ∧ (0 ≤ rn ∧ rn ≤ 7) ∧ (rm = 0) ∧ (ra = 0) ∧ (0 ≤ im ∧ im ≤ 124 ∧ im % 4 = 0) ∧ (kd = 0) ∧ (bs = 0) ∧ (st = 0) ∧ (cd = 0) ∧ (rg = 0)) (w : Int) (hw : w = 24576 + (im / 4 * 64 + rn * 8 + rd)) : rdOf f 9 w = rd ∧ rnOf f 9 w = rn ∧ rmOf f 9 w = rm ∧ raOf f 9 w = ra ∧ imOf f 9 w = im ∧ kdOf f 9 w = kd ∧ bsOf f 9 w = bs ∧ stOf f 9 w = st ∧ cdOf f 9 w = cd ∧ rgOf f 9 w = rg := by
  obtain ⟨h1, h2, h3, h4, h5, h6, h7, h8, h9, h10⟩ := h
  rw [rd_9, rn_9, rm_9, ra_9, im_9, kd_9, bs_9, st_9, cd_9, rg_9]
  have g0 : 0 ≤ im / 4 ∧ im / 4 ≤ 31 := by omega
  exact ⟨by omega, by omega, by omega, by omega, by omega, by omega, by omega, by omega, by omega, by omega⟩
theorem back_36 {f rd rn rm ra im kd bs st cd rg : Int} (hf : f = 36) (h : (0 ≤ rd ∧ rd ≤ 7) ∧ (0 ≤ rn ∧ rn ≤ 7) ∧ (rm = 0) ∧ (ra = 0) ∧ (0 ≤ im ∧ im ≤ 124 ∧ im % 4 = 0) ∧ (kd = 0) ∧ (bs = 0) ∧ (st = 0) ∧ (cd = 0) ∧ (rg = 0)) (w : Int) (hw : w = 26624 + (im / 4 * 64 + rn * 8 + rd)) : rdOf f 9 w = rd ∧ rnOf f 9 w = rn ∧ rmOf f 9 w = rm ∧ raOf f 9 w = ra ∧ imOf f 9 w = im ∧ kdOf f 9 w = kd ∧ bsOf f 9 w = bs ∧ stOf f 9 w = st ∧ cdOf f 9 w = cd ∧ rgOf f 9 w = rg := by
  obtain ⟨h1, h2, h3, h4, h5, h6, h7, h8, h9, h10⟩ := h
  rw [rd_9, rn_9, rm_9, ra_9, im_9, kd_9, bs_9, st_9, cd_9, rg_9]
  have g0 : 0 ≤ im / 4 ∧ im / 4 ≤ 31 := by omega
  exact ⟨by omega, by omega, by omega, by omega, by omega, by omega, by omega, by omega, by omega, by omega⟩
theorem back_37 {f rd rn rm ra im kd bs st cd rg : Int} (hf : f = 37) (h : (0 ≤ rd ∧ rd ≤ 7) ∧ (rn = 0) ∧ (rm = 0) ∧ (ra = 0) ∧ (0 ≤ im ∧ im ≤ 1020 ∧ im % 4 = 0) ∧ (kd = 0) ∧ (bs = 0) ∧ (st = 0) ∧ (cd = 0) ∧ (rg = 0)) (w : Int) (hw : w = 36864 + (rd * 256 + im / 4)) : rdOf f 8 w = rd ∧ rnOf f 8 w = rn ∧ rmOf f 8 w = rm ∧ raOf f 8 w = ra ∧ imOf f 8 w = im ∧ kdOf f 8 w = kd ∧ bsOf f 8 w = bs ∧ stOf f 8 w = st ∧ cdOf f 8 w = cd ∧ rgOf f 8 w = rg := by
  obtain ⟨h1, h2, h3, h4, h5, h6, h7, h8, h9, h10⟩ := h
  rw [rd_8, rn_8, rm_8, ra_8, im_8, kd_8, bs_8, st_8, cd_8, rg_8]
  have g0 : 0 ≤ im / 4 ∧ im / 4 ≤ 255 := by omega
  exact ⟨by omega, by omega, by omega, by omega, by omega, by omega, by omega, by omega, by omega, by omega⟩
theorem back_38 {f rd rn rm ra im kd bs st cd rg : Int} (hf : f = 38) (h : (0 ≤ rd ∧ rd ≤ 7) ∧ (rn = 0) ∧ (rm = 0) ∧ (ra = 0) ∧ (0 ≤ im ∧ im ≤ 1020 ∧ im % 4 = 0) ∧ (kd = 0) ∧ (bs = 0) ∧ (st = 0) ∧ (cd = 0) ∧ (rg = 0)) (w : Int) (hw : w = 38912 + (rd * 256 + im / 4)) : rdOf f 8 w = rd ∧ rnOf f 8 w = rn ∧ rmOf f 8 w = rm ∧ raOf f 8 w = ra ∧ imOf f 8 w = im ∧ kdOf f 8 w = kd ∧ bsOf f 8 w = bs ∧ stOf f 8 w = st ∧ cdOf f 8 w = cd ∧ rgOf f 8 w = rg := by
  obtain ⟨h1, h2, h3, h4, h5, h6, h7, h8, h9, h10⟩ := h
  rw [rd_8, rn_8, rm_8, ra_8, im_8, kd_8, bs_8, st_8, cd_8, rg_8]
  have g0 : 0 ≤ im / 4 ∧ im / 4 ≤ 255 := by omega
  exact ⟨by omega, by omega, by omega, by omega, by omega, by omega, by omega, by omega, by omega, by omega⟩
theorem back_39 {f rd rn rm ra im kd bs st cd rg : Int} (hf : f = 39) (h : (0 ≤ rd ∧ rd ≤ 7) ∧ (rn = 0) ∧ (rm = 0) ∧ (ra = 0) ∧ (0 ≤ im ∧ im ≤ 1020 ∧ im % 4 = 0) ∧ (kd = 0) ∧ (bs = 0) ∧ (st = 0) ∧ (cd = 0) ∧ (rg = 0)) (w : Int) (hw : w = 43008 + (rd * 256 + im / 4)) : rdOf f 8 w = rd ∧ rnOf f 8 w = rn ∧ rmOf f 8 w = rm ∧ raOf f 8 w = ra ∧ imOf f 8 w = im ∧ kdOf f 8 w = kd ∧ bsOf f 8 w = bs ∧ stOf f 8 w = st ∧ cdOf f 8 w = cd ∧ rgOf f 8 w = rg := by
  obtain ⟨h1, h2, h3, h4, h5, h6, h7, h8, h9, h10⟩ := h
  rw [rd_8, rn_8, rm_8, ra_8, im_8, kd_8, bs_8, st_8, cd_8, rg_8]
  have g0 : 0 ≤ im / 4 ∧ im / 4 ≤ 255 := by omega
  exact ⟨by omega, by omega, by omega, by omega, by omega, by omega, by omega, by omega, by omega, by omega⟩
theorem back_40 {f rd rn rm ra im kd bs st cd rg : Int} (hf : f = 40) (h : (rd = 0) ∧ (rn = 0) ∧ (rm = 0) ∧ (ra = 0) ∧ (0 ≤ im ∧ im ≤ 508 ∧ im % 4 = 0) ∧ (kd = 0) ∧ (bs = 0) ∧ (st = 0) ∧ (cd = 0) ∧ (rg = 0)) (w : Int) (hw : w = 45056 + (im / 4)) : rdOf f 10 w = rd ∧ rnOf f 10 w = rn ∧ rmOf f 10 w = rm ∧ raOf f 10 w = ra ∧ imOf f 10 w = im ∧ kdOf f 10 w = kd ∧ bsOf f 10 w = bs ∧ stOf f 10 w = st ∧ cdOf f 10 w = cd ∧ rgOf f 10 w = rg := by
  obtain ⟨h1, h2, h3, h4, h5, h6, h7, h8, h9, h10⟩ := h
  rw [rd_10, rn_10, rm_10, ra_10, im_10, kd_10, bs_10, st_10, cd_10, rg_10]
  have g0 : 0 ≤ im / 4 ∧ im / 4 ≤ 127 := by omega
  exact ⟨by omega, by omega, by omega, by omega, by omega, by omega, by omega, by omega, by omega, by omega⟩
theorem back_41 {f rd rn rm ra im kd bs st cd rg : Int} (hf : f = 41) (h : (rd = 0) ∧ (rn = 0) ∧ (rm = 0) ∧ (ra = 0) ∧ (0 ≤ im ∧ im ≤ 508 ∧ im % 4 = 0) ∧ (kd = 0) ∧ (bs = 0) ∧ (st = 0) ∧ (cd = 0) ∧ (rg = 0)) (w : Int) (hw : w = 45184 + (im / 4)) : rdOf f 10 w = rd ∧ rnOf f 10 w = rn ∧ rmOf f 10 w = rm ∧ raOf f 10 w = ra ∧ imOf f 10 w = im ∧ kdOf f 10 w = kd ∧ bsOf f 10 w = bs ∧ stOf f 10 w = st ∧ cdOf f 10 w = cd ∧ rgOf f 10 w = rg := by
  obtain ⟨h1, h2, h3, h4, h5, h6, h7, h8, h9, h10⟩ := h
  rw [rd_10, rn_10, rm_10, ra_10, im_10, kd_10, bs_10, st_10, cd_10, rg_10]
  have g0 : 0 ≤ im / 4 ∧ im / 4 ≤ 127 := by omega
  exact ⟨by omega, by omega, by omega, by omega, by omega, by omega, by omega, by omega, by omega, by omega⟩
theorem back_42 {f rd rn rm ra im kd bs st cd rg : Int} (hf : f = 42) (h : (rd = 0) ∧ (rn = 0) ∧ (rm = 0) ∧ (ra = 0) ∧ (im = 0) ∧ (kd = 0) ∧ (bs = 0) ∧ (st = 0) ∧ (cd = 0) ∧ ((1 ≤ rg ∧ rg ≤ 255 ∨ 16384 ≤ rg ∧ rg ≤ 16639))) (w : Int) (hw : w = 46080 + (rg / 16384 % 2 * 256 + rg % 256)) : rdOf f 11 w = rd ∧ rnOf f 11 w = rn ∧ rmOf f 11 w = rm ∧ raOf f 11 w = ra ∧ imOf f 11 w = im ∧ kdOf f 11 w = kd ∧ bsOf f 11 w = bs ∧ stOf f 11 w = st ∧ cdOf f 11 w = cd ∧ rgOf f 11 w = rg := by
  obtain ⟨h1, h2, h3, h4, h5, h6, h7, h8, h9, h10⟩ := h
  rw [rd_11, rn_11, rm_11, ra_11, im_11, kd_11, bs_11, st_11, cd_11, rg_11]
  have g0 : 0 ≤ rg / 16384 % 2 ∧ rg / 16384 % 2 ≤ 1 := by omega
  have g1 : 0 ≤ rg % 256 ∧ rg % 256 ≤ 255 := by omega
  exact ⟨by omega, by omega, by omega, by omega, by omega, by omega, by omega, by omega, by omega, by omega⟩
theorem back_43 {f rd rn rm ra im kd bs st cd rg : Int} (hf : f = 43) (h : (rd = 0) ∧ (rn = 0) ∧ (rm = 0) ∧ (ra = 0) ∧ (im = 0) ∧ (kd = 0) ∧ (bs = 0) ∧ (st = 0) ∧ (cd = 0) ∧ ((1 ≤ rg ∧ rg ≤ 255 ∨ 32768 ≤ rg ∧ rg ≤ 33023))) (w : Int) (hw : w = 48128 + (rg / 32768 % 2 * 256 + rg % 256)) : rdOf f 12 w = rd ∧ rnOf f 12 w = rn ∧ rmOf f 12 w = rm ∧ raOf f 12 w = ra ∧ imOf f 12 w = im ∧ kdOf f 12 w = kd ∧ bsOf f 12 w = bs ∧ stOf f 12 w = st ∧ cdOf f 12 w = cd ∧ rgOf f 12 w = rg := by
  obtain ⟨h1, h2, h3, h4, h5, h6, h7, h8, h9, h10⟩ := h
  rw [rd_12, rn_12, rm_12, ra_12, im_12, kd_12, bs_12, st_12, cd_12, rg_12]
  have g0 : 0 ≤ rg / 32768 % 2 ∧ rg / 32768 % 2 ≤ 1 := by omega
  have g1 : 0 ≤ rg % 256 ∧ rg % 256 ≤ 255 := by omega
  exact ⟨by omega, by omega, by omega, by omega, by omega, by omega, by omega, by omega, by omega, by omega⟩
theorem back_44 {f rd rn rm ra im kd bs st cd rg : Int} (hf : f = 44) (h : (rd = 0) ∧ (rn = 0) ∧ (rm = 0) ∧ (ra = 0) ∧ (im = 0) ∧ (kd = 0) ∧ (bs = 0) ∧ (st = 0) ∧ (cd = 0) ∧ (rg = 0)) (w : Int) (hw : w = 48896 + (0)) : rdOf f 13 w = rd ∧ rnOf f 13 w = rn ∧ rmOf f 13 w = rm ∧ raOf f 13 w = ra ∧ imOf f 13 w = im ∧ kdOf f 13 w = kd ∧ bsOf f 13 w = bs ∧ stOf f 13 w = st ∧ cdOf f 13 w = cd ∧ rgOf f 13 w = rg := by
  obtain ⟨h1, h2, h3, h4, h5, h6, h7, h8, h9, h10⟩ := h
  rw [rd_13, rn_13, rm_13, ra_13, im_13, kd_13, bs_13, st_13, cd_13, rg_13]
  exact ⟨by omega, by omega, by omega, by omega, by omega, by omega, by omega, by omega, by omega, by omega⟩
theorem back_45 {f rd rn rm ra im kd bs st cd rg : Int} (hf : f = 45) (h : (rd = 0) ∧ (rn = 0) ∧ (rm = 0) ∧ (ra = 0) ∧ (0 ≤ im ∧ im ≤ 255) ∧ (kd = 0) ∧ (bs = 0) ∧ (st = 0) ∧ (cd = 0) ∧ (rg = 0)) (w : Int) (hw : w = 48640 + (im)) : rdOf f 14 w = rd ∧ rnOf f 14 w = rn ∧ rmOf f 14 w = rm ∧ raOf f 14 w = ra ∧ imOf f 14 w = im ∧ kdOf f 14 w = kd ∧ bsOf f 14 w = bs ∧ stOf f 14 w = st ∧ cdOf f 14 w = cd ∧ rgOf f 14 w = rg := by
  obtain ⟨h1, h2, h3, h4, h5, h6, h7, h8, h9, h10⟩ := h
  rw [rd_14, rn_14, rm_14, ra_14, im_14, kd_14, bs_14, st_14, cd_14, rg_14]
  exact ⟨by omega, by omega, by omega, by omega, by omega, by omega, by omega, by omega, by omega, by omega⟩
theorem back_46 {f rd rn rm ra im kd bs st cd rg : Int} (hf : f = 46) (h : (rd = 0) ∧ (rn = 0) ∧ (rm = 0) ∧ (ra = 0) ∧ (-256 ≤ im ∧ im ≤ 254 ∧ im % 2 = 0) ∧ (kd = 0) ∧ (bs = 0) ∧ (st = 0) ∧ (0 ≤ cd ∧ cd ≤ 13) ∧ (rg = 0)) (w : Int) (hw : w = 53248 + (cd * 256 + im / 2 % 256)) : rdOf f 15 w = rd ∧ rnOf f 15 w = rn ∧ rmOf f 15 w = rm ∧ raOf f 15 w = ra ∧ imOf f 15 w = im ∧ kdOf f 15 w = kd ∧ bsOf f 15 w = bs ∧ stOf f 15 w = st ∧ cdOf f 15 w = cd ∧ rgOf f 15 w = rg := by
  obtain ⟨h1, h2, h3, h4, h5, h6, h7, h8, h9, h10⟩ := h
  rw [rd_15, rn_15, rm_15, ra_15, im_15, kd_15, bs_15, st_15, cd_15, rg_15]
  have g0 : 0 ≤ im / 2 % 256 ∧ im / 2 % 256 ≤ 255 := by omega
  exact ⟨by omega, by omega, by omega, by omega, by unfold sgn; first | omega | (split <;> omega), by omega, by omega, by omega, by omega, by omega⟩
theorem back_47 {f rd rn rm ra im kd bs st cd rg : Int} (hf : f = 47) (h : (rd = 0) ∧ (rn = 0) ∧ (rm = 0) ∧ (ra = 0) ∧ (-2048 ≤ im ∧ im ≤ 2046 ∧ im % 2 = 0) ∧ (kd = 0) ∧ (bs = 0) ∧ (st = 0) ∧ (cd = 0) ∧ (rg = 0)) (w : Int) (hw : w = 57344 + (im / 2 % 2048)) : rdOf f 16 w = rd ∧ rnOf f 16 w = rn ∧ rmOf f 16 w = rm ∧ raOf f 16 w = ra ∧ imOf f 16 w = im ∧ kdOf f 16 w = kd ∧ bsOf f 16 w = bs ∧ stOf f 16 w = st ∧ cdOf f 16 w = cd ∧ rgOf f 16 w = rg := by
  obtain ⟨h1, h2, h3, h4, h5, h6, h7, h8, h9, h10⟩ := h
  rw [rd_16, rn_16, rm_16, ra_16, im_16, kd_16, bs_16, st_16, cd_16, rg_16]
  have g0 : 0 ≤ im / 2 % 2048 ∧ im / 2 % 2048 ≤ 2047 := by omega
  exact ⟨by omega, by omega, by omega, by omega, by unfold sgn; first | omega | (split <;> omega), by omega, by omega, by omega, by omega, by omega⟩

end Go.Proofs.YtpgcnbipnjcniaaDoor.Code
