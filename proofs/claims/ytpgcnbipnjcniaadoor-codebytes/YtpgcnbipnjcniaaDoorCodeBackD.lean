/- Fields out of words: forms 82 to 100. -/
import Derived.Test.YtpgcnbipnjcniaaDoorCodeRead
set_option linter.unusedVariables false
set_option linter.unusedSimpArgs false
namespace Go.Proofs.YtpgcnbipnjcniaaDoor.Code
open Go.Proofs.YtpgcnbipnjcniaaDoor.Alu Go.Proofs.YtpgcnbipnjcniaaDoor.Imm Go.Proofs.YtpgcnbipnjcniaaDoor.Inst

theorem cut_82 {y0 st rn y1 rd y2 : Int} (b0 : 0 ≤ y0 ∧ y0 ≤ 1) (b1 : 0 ≤ st ∧ st ≤ 0) (b2 : 0 ≤ rn ∧ rn ≤ 15) (b3 : 0 ≤ y1 ∧ y1 ≤ 7) (b4 : 0 ≤ rd ∧ rd ≤ 15) (b5 : 0 ≤ y2 ∧ y2 ≤ 255) (w : Int) (hw : w = 4060086272 + (y0 * 67108864 + st * 1048576 + rn * 65536 + y1 * 4096 + rd * 256 + y2)) : w / 256 % 16 = rd ∧ w / 65536 % 16 = rn ∧ w / 67108864 % 2 = y0 ∧ w / 4096 % 8 = y1 ∧ w % 256 = y2 := by
  have e1 : w / 65536 = 61952 + y0 * 1024 + st * 16 + rn := by omega
  have e2 : w % 65536 = 0 + y1 * 4096 + rd * 256 + y2 := by omega
  rw [half_256_16 w, half_65536_16 w, half_67108864_2 w, half_4096_8 w, half_1_256 w, e1, e2]
  clear e1 e2 hw
  exact ⟨by omega, by omega, by omega, by omega, by omega⟩
theorem back_82 {f rd rn rm ra im kd bs st cd rg : Int} (hf : f = 82) (h : ((0 ≤ rd ∧ rd ≤ 12 ∨ rd = 14)) ∧ ((0 ≤ rn ∧ rn ≤ 12 ∨ rn = 14)) ∧ (rm = 0) ∧ (ra = 0) ∧ (0 ≤ im ∧ im ≤ 4095) ∧ (kd = 0) ∧ (bs = 0) ∧ (st = 0) ∧ (cd = 0) ∧ (rg = 0)) (w : Int) (hw : w = 4060086272 + (im / 2048 * 67108864 + st * 1048576 + rn * 65536 + im / 256 % 8 * 4096 + rd * 256 + im % 256)) : rdOf f 24 w = rd ∧ rnOf f 24 w = rn ∧ rmOf f 24 w = rm ∧ raOf f 24 w = ra ∧ imOf f 24 w = im ∧ kdOf f 24 w = kd ∧ bsOf f 24 w = bs ∧ stOf f 24 w = st ∧ cdOf f 24 w = cd ∧ rgOf f 24 w = rg := by
  obtain ⟨h1, h2, h3, h4, h5, h6, h7, h8, h9, h10⟩ := h
  obtain ⟨q0, q1, q2, q3, q4⟩ := cut_82 (y0 := im / 2048) (y1 := im / 256 % 8) (y2 := im % 256) (by omega) (by omega) (by omega) (by omega) (by omega) (by omega) w hw
  clear hw
  rw [rd_24, rn_24, rm_24, ra_24, im_24, kd_24, bs_24, st_24, cd_24, rg_24]
  rw [q0, q1, q2, q3, q4]
  clear q0 q1 q2 q3 q4
  exact ⟨by omega, by omega, by omega, by omega, by omega, by omega, by omega, by omega, by omega, by omega⟩
theorem cut_83 {y0 st rn y1 rd y2 : Int} (b0 : 0 ≤ y0 ∧ y0 ≤ 1) (b1 : 0 ≤ st ∧ st ≤ 0) (b2 : 0 ≤ rn ∧ rn ≤ 15) (b3 : 0 ≤ y1 ∧ y1 ≤ 7) (b4 : 0 ≤ rd ∧ rd ≤ 15) (b5 : 0 ≤ y2 ∧ y2 ≤ 255) (w : Int) (hw : w = 4070572032 + (y0 * 67108864 + st * 1048576 + rn * 65536 + y1 * 4096 + rd * 256 + y2)) : w / 256 % 16 = rd ∧ w / 65536 % 16 = rn ∧ w / 67108864 % 2 = y0 ∧ w / 4096 % 8 = y1 ∧ w % 256 = y2 := by
  have e1 : w / 65536 = 62112 + y0 * 1024 + st * 16 + rn := by omega
  have e2 : w % 65536 = 0 + y1 * 4096 + rd * 256 + y2 := by omega
  rw [half_256_16 w, half_65536_16 w, half_67108864_2 w, half_4096_8 w, half_1_256 w, e1, e2]
  clear e1 e2 hw
  exact ⟨by omega, by omega, by omega, by omega, by omega⟩
theorem back_83 {f rd rn rm ra im kd bs st cd rg : Int} (hf : f = 83) (h : ((0 ≤ rd ∧ rd ≤ 12 ∨ rd = 14)) ∧ ((0 ≤ rn ∧ rn ≤ 12 ∨ rn = 14)) ∧ (rm = 0) ∧ (ra = 0) ∧ (0 ≤ im ∧ im ≤ 4095) ∧ (kd = 0) ∧ (bs = 0) ∧ (st = 0) ∧ (cd = 0) ∧ (rg = 0)) (w : Int) (hw : w = 4070572032 + (im / 2048 * 67108864 + st * 1048576 + rn * 65536 + im / 256 % 8 * 4096 + rd * 256 + im % 256)) : rdOf f 24 w = rd ∧ rnOf f 24 w = rn ∧ rmOf f 24 w = rm ∧ raOf f 24 w = ra ∧ imOf f 24 w = im ∧ kdOf f 24 w = kd ∧ bsOf f 24 w = bs ∧ stOf f 24 w = st ∧ cdOf f 24 w = cd ∧ rgOf f 24 w = rg := by
  obtain ⟨h1, h2, h3, h4, h5, h6, h7, h8, h9, h10⟩ := h
  obtain ⟨q0, q1, q2, q3, q4⟩ := cut_83 (y0 := im / 2048) (y1 := im / 256 % 8) (y2 := im % 256) (by omega) (by omega) (by omega) (by omega) (by omega) (by omega) w hw
  clear hw
  rw [rd_24, rn_24, rm_24, ra_24, im_24, kd_24, bs_24, st_24, cd_24, rg_24]
  rw [q0, q1, q2, q3, q4]
  clear q0 q1 q2 q3 q4
  exact ⟨by omega, by omega, by omega, by omega, by omega, by omega, by omega, by omega, by omega, by omega⟩
theorem cut_84 {rn rd im : Int} (b0 : 0 ≤ rn ∧ rn ≤ 15) (b1 : 0 ≤ rd ∧ rd ≤ 15) (b2 : 0 ≤ im ∧ im ≤ 4095) (w : Int) (hw : w = 4173332480 + (rn * 65536 + rd * 4096 + im)) : w / 4096 % 16 = rd ∧ w / 65536 % 16 = rn ∧ w % 4096 = im := by
  have e1 : w / 65536 = 63680 + rn := by omega
  have e2 : w % 65536 = 0 + rd * 4096 + im := by omega
  rw [half_4096_16 w, half_65536_16 w, half_1_4096 w, e1, e2]
  clear e1 e2 hw
  exact ⟨by omega, by omega, by omega⟩
theorem back_84 {f rd rn rm ra im kd bs st cd rg : Int} (hf : f = 84) (h : ((0 ≤ rd ∧ rd ≤ 12 ∨ rd = 14)) ∧ (0 ≤ rn ∧ rn ≤ 14) ∧ (rm = 0) ∧ (ra = 0) ∧ (0 ≤ im ∧ im ≤ 4095) ∧ (kd = 0) ∧ (bs = 0) ∧ (st = 0) ∧ (cd = 0) ∧ (rg = 0)) (w : Int) (hw : w = 4173332480 + (rn * 65536 + rd * 4096 + im)) : rdOf f 25 w = rd ∧ rnOf f 25 w = rn ∧ rmOf f 25 w = rm ∧ raOf f 25 w = ra ∧ imOf f 25 w = im ∧ kdOf f 25 w = kd ∧ bsOf f 25 w = bs ∧ stOf f 25 w = st ∧ cdOf f 25 w = cd ∧ rgOf f 25 w = rg := by
  obtain ⟨h1, h2, h3, h4, h5, h6, h7, h8, h9, h10⟩ := h
  obtain ⟨q0, q1, q2⟩ := cut_84  (by omega) (by omega) (by omega) w hw
  clear hw
  rw [rd_25, rn_25, rm_25, ra_25, im_25, kd_25, bs_25, st_25, cd_25, rg_25]
  rw [q0, q1, q2]
  clear q0 q1 q2
  exact ⟨by omega, by omega, by omega, by omega, by omega, by omega, by omega, by omega, by omega, by omega⟩
theorem cut_85 {rn rd im : Int} (b0 : 0 ≤ rn ∧ rn ≤ 15) (b1 : 0 ≤ rd ∧ rd ≤ 15) (b2 : 0 ≤ im ∧ im ≤ 4095) (w : Int) (hw : w = 4174381056 + (rn * 65536 + rd * 4096 + im)) : w / 4096 % 16 = rd ∧ w / 65536 % 16 = rn ∧ w % 4096 = im := by
  have e1 : w / 65536 = 63696 + rn := by omega
  have e2 : w % 65536 = 0 + rd * 4096 + im := by omega
  rw [half_4096_16 w, half_65536_16 w, half_1_4096 w, e1, e2]
  clear e1 e2 hw
  exact ⟨by omega, by omega, by omega⟩
theorem back_85 {f rd rn rm ra im kd bs st cd rg : Int} (hf : f = 85) (h : ((0 ≤ rd ∧ rd ≤ 12 ∨ rd = 14)) ∧ (0 ≤ rn ∧ rn ≤ 14) ∧ (rm = 0) ∧ (ra = 0) ∧ (0 ≤ im ∧ im ≤ 4095) ∧ (kd = 0) ∧ (bs = 0) ∧ (st = 0) ∧ (cd = 0) ∧ (rg = 0)) (w : Int) (hw : w = 4174381056 + (rn * 65536 + rd * 4096 + im)) : rdOf f 25 w = rd ∧ rnOf f 25 w = rn ∧ rmOf f 25 w = rm ∧ raOf f 25 w = ra ∧ imOf f 25 w = im ∧ kdOf f 25 w = kd ∧ bsOf f 25 w = bs ∧ stOf f 25 w = st ∧ cdOf f 25 w = cd ∧ rgOf f 25 w = rg := by
  obtain ⟨h1, h2, h3, h4, h5, h6, h7, h8, h9, h10⟩ := h
  obtain ⟨q0, q1, q2⟩ := cut_85  (by omega) (by omega) (by omega) w hw
  clear hw
  rw [rd_25, rn_25, rm_25, ra_25, im_25, kd_25, bs_25, st_25, cd_25, rg_25]
  rw [q0, q1, q2]
  clear q0 q1 q2
  exact ⟨by omega, by omega, by omega, by omega, by omega, by omega, by omega, by omega, by omega, by omega⟩
theorem cut_86 {rn rd bs rm : Int} (b0 : 0 ≤ rn ∧ rn ≤ 15) (b1 : 0 ≤ rd ∧ rd ≤ 15) (b2 : 0 ≤ bs ∧ bs ≤ 3) (b3 : 0 ≤ rm ∧ rm ≤ 15) (w : Int) (hw : w = 4164943872 + (rn * 65536 + rd * 4096 + bs * 16 + rm)) : w / 4096 % 16 = rd ∧ w / 65536 % 16 = rn ∧ w % 16 = rm ∧ w / 16 % 4 = bs := by
  have e1 : w / 65536 = 63552 + rn := by omega
  have e2 : w % 65536 = 0 + rd * 4096 + bs * 16 + rm := by omega
  rw [half_4096_16 w, half_65536_16 w, half_1_16 w, half_16_4 w, e1, e2]
  clear e1 e2 hw
  exact ⟨by omega, by omega, by omega, by omega⟩
theorem back_86 {f rd rn rm ra im kd bs st cd rg : Int} (hf : f = 86) (h : ((0 ≤ rd ∧ rd ≤ 12 ∨ rd = 14)) ∧ (0 ≤ rn ∧ rn ≤ 14) ∧ ((0 ≤ rm ∧ rm ≤ 12 ∨ rm = 14)) ∧ (ra = 0) ∧ (im = 0) ∧ (kd = 0) ∧ (0 ≤ bs ∧ bs ≤ 3) ∧ (st = 0) ∧ (cd = 0) ∧ (rg = 0)) (w : Int) (hw : w = 4164943872 + (rn * 65536 + rd * 4096 + bs * 16 + rm)) : rdOf f 26 w = rd ∧ rnOf f 26 w = rn ∧ rmOf f 26 w = rm ∧ raOf f 26 w = ra ∧ imOf f 26 w = im ∧ kdOf f 26 w = kd ∧ bsOf f 26 w = bs ∧ stOf f 26 w = st ∧ cdOf f 26 w = cd ∧ rgOf f 26 w = rg := by
  obtain ⟨h1, h2, h3, h4, h5, h6, h7, h8, h9, h10⟩ := h
  obtain ⟨q0, q1, q2, q3⟩ := cut_86  (by omega) (by omega) (by omega) (by omega) w hw
  clear hw
  rw [rd_26, rn_26, rm_26, ra_26, im_26, kd_26, bs_26, st_26, cd_26, rg_26]
  rw [q0, q1, q2, q3]
  clear q0 q1 q2 q3
  exact ⟨by omega, by omega, by omega, by omega, by omega, by omega, by omega, by omega, by omega, by omega⟩
theorem cut_87 {rn rd bs rm : Int} (b0 : 0 ≤ rn ∧ rn ≤ 15) (b1 : 0 ≤ rd ∧ rd ≤ 15) (b2 : 0 ≤ bs ∧ bs ≤ 3) (b3 : 0 ≤ rm ∧ rm ≤ 15) (w : Int) (hw : w = 4165992448 + (rn * 65536 + rd * 4096 + bs * 16 + rm)) : w / 4096 % 16 = rd ∧ w / 65536 % 16 = rn ∧ w % 16 = rm ∧ w / 16 % 4 = bs := by
  have e1 : w / 65536 = 63568 + rn := by omega
  have e2 : w % 65536 = 0 + rd * 4096 + bs * 16 + rm := by omega
  rw [half_4096_16 w, half_65536_16 w, half_1_16 w, half_16_4 w, e1, e2]
  clear e1 e2 hw
  exact ⟨by omega, by omega, by omega, by omega⟩
theorem back_87 {f rd rn rm ra im kd bs st cd rg : Int} (hf : f = 87) (h : ((0 ≤ rd ∧ rd ≤ 12 ∨ rd = 14)) ∧ (0 ≤ rn ∧ rn ≤ 14) ∧ ((0 ≤ rm ∧ rm ≤ 12 ∨ rm = 14)) ∧ (ra = 0) ∧ (im = 0) ∧ (kd = 0) ∧ (0 ≤ bs ∧ bs ≤ 3) ∧ (st = 0) ∧ (cd = 0) ∧ (rg = 0)) (w : Int) (hw : w = 4165992448 + (rn * 65536 + rd * 4096 + bs * 16 + rm)) : rdOf f 26 w = rd ∧ rnOf f 26 w = rn ∧ rmOf f 26 w = rm ∧ raOf f 26 w = ra ∧ imOf f 26 w = im ∧ kdOf f 26 w = kd ∧ bsOf f 26 w = bs ∧ stOf f 26 w = st ∧ cdOf f 26 w = cd ∧ rgOf f 26 w = rg := by
  obtain ⟨h1, h2, h3, h4, h5, h6, h7, h8, h9, h10⟩ := h
  obtain ⟨q0, q1, q2, q3⟩ := cut_87  (by omega) (by omega) (by omega) (by omega) w hw
  clear hw
  rw [rd_26, rn_26, rm_26, ra_26, im_26, kd_26, bs_26, st_26, cd_26, rg_26]
  rw [q0, q1, q2, q3]
  clear q0 q1 q2 q3
  exact ⟨by omega, by omega, by omega, by omega, by omega, by omega, by omega, by omega, by omega, by omega⟩
theorem cut_88 {st rn ra rd rm : Int} (b0 : 0 ≤ st ∧ st ≤ 1) (b1 : 0 ≤ rn ∧ rn ≤ 15) (b2 : 0 ≤ ra ∧ ra ≤ 0) (b3 : 0 ≤ rd ∧ rd ≤ 15) (b4 : 0 ≤ rm ∧ rm ≤ 15) (w : Int) (hw : w = 4194365440 + (st * 1048576 + rn * 65536 + ra * 4096 + rd * 256 + rm)) : w / 256 % 16 = rd ∧ w / 65536 % 16 = rn ∧ w % 16 = rm ∧ w / 1048576 % 2 = st := by
  have e1 : w / 65536 = 64000 + st * 16 + rn := by omega
  have e2 : w % 65536 = 61440 + ra * 4096 + rd * 256 + rm := by omega
  rw [half_256_16 w, half_65536_16 w, half_1_16 w, half_1048576_2 w, e1, e2]
  clear e1 e2 hw
  exact ⟨by omega, by omega, by omega, by omega⟩
theorem back_88 {f rd rn rm ra im kd bs st cd rg : Int} (hf : f = 88) (h : ((0 ≤ rd ∧ rd ≤ 12 ∨ rd = 14)) ∧ ((0 ≤ rn ∧ rn ≤ 12 ∨ rn = 14)) ∧ ((0 ≤ rm ∧ rm ≤ 12 ∨ rm = 14)) ∧ (ra = 0) ∧ (im = 0) ∧ (kd = 0) ∧ (bs = 0) ∧ (0 ≤ st ∧ st ≤ 1) ∧ (cd = 0) ∧ (rg = 0)) (w : Int) (hw : w = 4194365440 + (st * 1048576 + rn * 65536 + ra * 4096 + rd * 256 + rm)) : rdOf f 27 w = rd ∧ rnOf f 27 w = rn ∧ rmOf f 27 w = rm ∧ raOf f 27 w = ra ∧ imOf f 27 w = im ∧ kdOf f 27 w = kd ∧ bsOf f 27 w = bs ∧ stOf f 27 w = st ∧ cdOf f 27 w = cd ∧ rgOf f 27 w = rg := by
  obtain ⟨h1, h2, h3, h4, h5, h6, h7, h8, h9, h10⟩ := h
  obtain ⟨q0, q1, q2, q3⟩ := cut_88  (by omega) (by omega) (by omega) (by omega) (by omega) w hw
  clear hw
  rw [rd_27, rn_27, rm_27, ra_27, im_27, kd_27, bs_27, st_27, cd_27, rg_27]
  rw [q0, q1, q2, q3]
  clear q0 q1 q2 q3
  exact ⟨by omega, by omega, by omega, by omega, by omega, by omega, by omega, by omega, by omega, by omega⟩
theorem cut_89 {st rn ra rd rm : Int} (b0 : 0 ≤ st ∧ st ≤ 1) (b1 : 0 ≤ rn ∧ rn ≤ 15) (b2 : 0 ≤ ra ∧ ra ≤ 0) (b3 : 0 ≤ rd ∧ rd ≤ 15) (b4 : 0 ≤ rm ∧ rm ≤ 15) (w : Int) (hw : w = 4196462592 + (st * 1048576 + rn * 65536 + ra * 4096 + rd * 256 + rm)) : w / 256 % 16 = rd ∧ w / 65536 % 16 = rn ∧ w % 16 = rm ∧ w / 1048576 % 2 = st := by
  have e1 : w / 65536 = 64032 + st * 16 + rn := by omega
  have e2 : w % 65536 = 61440 + ra * 4096 + rd * 256 + rm := by omega
  rw [half_256_16 w, half_65536_16 w, half_1_16 w, half_1048576_2 w, e1, e2]
  clear e1 e2 hw
  exact ⟨by omega, by omega, by omega, by omega⟩
theorem back_89 {f rd rn rm ra im kd bs st cd rg : Int} (hf : f = 89) (h : ((0 ≤ rd ∧ rd ≤ 12 ∨ rd = 14)) ∧ ((0 ≤ rn ∧ rn ≤ 12 ∨ rn = 14)) ∧ ((0 ≤ rm ∧ rm ≤ 12 ∨ rm = 14)) ∧ (ra = 0) ∧ (im = 0) ∧ (kd = 0) ∧ (bs = 0) ∧ (0 ≤ st ∧ st ≤ 1) ∧ (cd = 0) ∧ (rg = 0)) (w : Int) (hw : w = 4196462592 + (st * 1048576 + rn * 65536 + ra * 4096 + rd * 256 + rm)) : rdOf f 27 w = rd ∧ rnOf f 27 w = rn ∧ rmOf f 27 w = rm ∧ raOf f 27 w = ra ∧ imOf f 27 w = im ∧ kdOf f 27 w = kd ∧ bsOf f 27 w = bs ∧ stOf f 27 w = st ∧ cdOf f 27 w = cd ∧ rgOf f 27 w = rg := by
  obtain ⟨h1, h2, h3, h4, h5, h6, h7, h8, h9, h10⟩ := h
  obtain ⟨q0, q1, q2, q3⟩ := cut_89  (by omega) (by omega) (by omega) (by omega) (by omega) w hw
  clear hw
  rw [rd_27, rn_27, rm_27, ra_27, im_27, kd_27, bs_27, st_27, cd_27, rg_27]
  rw [q0, q1, q2, q3]
  clear q0 q1 q2 q3
  exact ⟨by omega, by omega, by omega, by omega, by omega, by omega, by omega, by omega, by omega, by omega⟩
theorem cut_90 {st rn ra rd rm : Int} (b0 : 0 ≤ st ∧ st ≤ 1) (b1 : 0 ≤ rn ∧ rn ≤ 15) (b2 : 0 ≤ ra ∧ ra ≤ 0) (b3 : 0 ≤ rd ∧ rd ≤ 15) (b4 : 0 ≤ rm ∧ rm ≤ 15) (w : Int) (hw : w = 4198559744 + (st * 1048576 + rn * 65536 + ra * 4096 + rd * 256 + rm)) : w / 256 % 16 = rd ∧ w / 65536 % 16 = rn ∧ w % 16 = rm ∧ w / 1048576 % 2 = st := by
  have e1 : w / 65536 = 64064 + st * 16 + rn := by omega
  have e2 : w % 65536 = 61440 + ra * 4096 + rd * 256 + rm := by omega
  rw [half_256_16 w, half_65536_16 w, half_1_16 w, half_1048576_2 w, e1, e2]
  clear e1 e2 hw
  exact ⟨by omega, by omega, by omega, by omega⟩
theorem back_90 {f rd rn rm ra im kd bs st cd rg : Int} (hf : f = 90) (h : ((0 ≤ rd ∧ rd ≤ 12 ∨ rd = 14)) ∧ ((0 ≤ rn ∧ rn ≤ 12 ∨ rn = 14)) ∧ ((0 ≤ rm ∧ rm ≤ 12 ∨ rm = 14)) ∧ (ra = 0) ∧ (im = 0) ∧ (kd = 0) ∧ (bs = 0) ∧ (0 ≤ st ∧ st ≤ 1) ∧ (cd = 0) ∧ (rg = 0)) (w : Int) (hw : w = 4198559744 + (st * 1048576 + rn * 65536 + ra * 4096 + rd * 256 + rm)) : rdOf f 27 w = rd ∧ rnOf f 27 w = rn ∧ rmOf f 27 w = rm ∧ raOf f 27 w = ra ∧ imOf f 27 w = im ∧ kdOf f 27 w = kd ∧ bsOf f 27 w = bs ∧ stOf f 27 w = st ∧ cdOf f 27 w = cd ∧ rgOf f 27 w = rg := by
  obtain ⟨h1, h2, h3, h4, h5, h6, h7, h8, h9, h10⟩ := h
  obtain ⟨q0, q1, q2, q3⟩ := cut_90  (by omega) (by omega) (by omega) (by omega) (by omega) w hw
  clear hw
  rw [rd_27, rn_27, rm_27, ra_27, im_27, kd_27, bs_27, st_27, cd_27, rg_27]
  rw [q0, q1, q2, q3]
  clear q0 q1 q2 q3
  exact ⟨by omega, by omega, by omega, by omega, by omega, by omega, by omega, by omega, by omega, by omega⟩
theorem cut_91 {st rn ra rd rm : Int} (b0 : 0 ≤ st ∧ st ≤ 1) (b1 : 0 ≤ rn ∧ rn ≤ 15) (b2 : 0 ≤ ra ∧ ra ≤ 0) (b3 : 0 ≤ rd ∧ rd ≤ 15) (b4 : 0 ≤ rm ∧ rm ≤ 15) (w : Int) (hw : w = 4200656896 + (st * 1048576 + rn * 65536 + ra * 4096 + rd * 256 + rm)) : w / 256 % 16 = rd ∧ w / 65536 % 16 = rn ∧ w % 16 = rm ∧ w / 1048576 % 2 = st := by
  have e1 : w / 65536 = 64096 + st * 16 + rn := by omega
  have e2 : w % 65536 = 61440 + ra * 4096 + rd * 256 + rm := by omega
  rw [half_256_16 w, half_65536_16 w, half_1_16 w, half_1048576_2 w, e1, e2]
  clear e1 e2 hw
  exact ⟨by omega, by omega, by omega, by omega⟩
theorem back_91 {f rd rn rm ra im kd bs st cd rg : Int} (hf : f = 91) (h : ((0 ≤ rd ∧ rd ≤ 12 ∨ rd = 14)) ∧ ((0 ≤ rn ∧ rn ≤ 12 ∨ rn = 14)) ∧ ((0 ≤ rm ∧ rm ≤ 12 ∨ rm = 14)) ∧ (ra = 0) ∧ (im = 0) ∧ (kd = 0) ∧ (bs = 0) ∧ (0 ≤ st ∧ st ≤ 1) ∧ (cd = 0) ∧ (rg = 0)) (w : Int) (hw : w = 4200656896 + (st * 1048576 + rn * 65536 + ra * 4096 + rd * 256 + rm)) : rdOf f 27 w = rd ∧ rnOf f 27 w = rn ∧ rmOf f 27 w = rm ∧ raOf f 27 w = ra ∧ imOf f 27 w = im ∧ kdOf f 27 w = kd ∧ bsOf f 27 w = bs ∧ stOf f 27 w = st ∧ cdOf f 27 w = cd ∧ rgOf f 27 w = rg := by
  obtain ⟨h1, h2, h3, h4, h5, h6, h7, h8, h9, h10⟩ := h
  obtain ⟨q0, q1, q2, q3⟩ := cut_91  (by omega) (by omega) (by omega) (by omega) (by omega) w hw
  clear hw
  rw [rd_27, rn_27, rm_27, ra_27, im_27, kd_27, bs_27, st_27, cd_27, rg_27]
  rw [q0, q1, q2, q3]
  clear q0 q1 q2 q3
  exact ⟨by omega, by omega, by omega, by omega, by omega, by omega, by omega, by omega, by omega, by omega⟩
theorem cut_92 {st rn ra rd rm : Int} (b0 : 0 ≤ st ∧ st ≤ 0) (b1 : 0 ≤ rn ∧ rn ≤ 15) (b2 : 0 ≤ ra ∧ ra ≤ 0) (b3 : 0 ≤ rd ∧ rd ≤ 15) (b4 : 0 ≤ rm ∧ rm ≤ 15) (w : Int) (hw : w = 4211142656 + (st * 1048576 + rn * 65536 + ra * 4096 + rd * 256 + rm)) : w / 256 % 16 = rd ∧ w / 65536 % 16 = rn ∧ w % 16 = rm := by
  have e1 : w / 65536 = 64256 + st * 16 + rn := by omega
  have e2 : w % 65536 = 61440 + ra * 4096 + rd * 256 + rm := by omega
  rw [half_256_16 w, half_65536_16 w, half_1_16 w, e1, e2]
  clear e1 e2 hw
  exact ⟨by omega, by omega, by omega⟩
theorem back_92 {f rd rn rm ra im kd bs st cd rg : Int} (hf : f = 92) (h : ((0 ≤ rd ∧ rd ≤ 12 ∨ rd = 14)) ∧ ((0 ≤ rn ∧ rn ≤ 12 ∨ rn = 14)) ∧ ((0 ≤ rm ∧ rm ≤ 12 ∨ rm = 14)) ∧ (ra = 0) ∧ (im = 0) ∧ (kd = 0) ∧ (bs = 0) ∧ (st = 0) ∧ (cd = 0) ∧ (rg = 0)) (w : Int) (hw : w = 4211142656 + (st * 1048576 + rn * 65536 + ra * 4096 + rd * 256 + rm)) : rdOf f 28 w = rd ∧ rnOf f 28 w = rn ∧ rmOf f 28 w = rm ∧ raOf f 28 w = ra ∧ imOf f 28 w = im ∧ kdOf f 28 w = kd ∧ bsOf f 28 w = bs ∧ stOf f 28 w = st ∧ cdOf f 28 w = cd ∧ rgOf f 28 w = rg := by
  obtain ⟨h1, h2, h3, h4, h5, h6, h7, h8, h9, h10⟩ := h
  obtain ⟨q0, q1, q2⟩ := cut_92  (by omega) (by omega) (by omega) (by omega) (by omega) w hw
  clear hw
  rw [rd_28, rn_28, rm_28, ra_28, im_28, kd_28, bs_28, st_28, cd_28, rg_28]
  rw [q0, q1, q2]
  clear q0 q1 q2
  exact ⟨by omega, by omega, by omega, by omega, by omega, by omega, by omega, by omega, by omega, by omega⟩
theorem cut_93 {st rn ra rd rm : Int} (b0 : 0 ≤ st ∧ st ≤ 0) (b1 : 0 ≤ rn ∧ rn ≤ 15) (b2 : 0 ≤ ra ∧ ra ≤ 15) (b3 : 0 ≤ rd ∧ rd ≤ 15) (b4 : 0 ≤ rm ∧ rm ≤ 15) (w : Int) (hw : w = 4211081216 + (st * 1048576 + rn * 65536 + ra * 4096 + rd * 256 + rm)) : w / 256 % 16 = rd ∧ w / 65536 % 16 = rn ∧ w % 16 = rm ∧ w / 4096 % 16 = ra := by
  have e1 : w / 65536 = 64256 + st * 16 + rn := by omega
  have e2 : w % 65536 = 0 + ra * 4096 + rd * 256 + rm := by omega
  rw [half_256_16 w, half_65536_16 w, half_1_16 w, half_4096_16 w, e1, e2]
  clear e1 e2 hw
  exact ⟨by omega, by omega, by omega, by omega⟩
theorem back_93 {f rd rn rm ra im kd bs st cd rg : Int} (hf : f = 93) (h : ((0 ≤ rd ∧ rd ≤ 12 ∨ rd = 14)) ∧ ((0 ≤ rn ∧ rn ≤ 12 ∨ rn = 14)) ∧ ((0 ≤ rm ∧ rm ≤ 12 ∨ rm = 14)) ∧ ((0 ≤ ra ∧ ra ≤ 12 ∨ ra = 14)) ∧ (im = 0) ∧ (kd = 0) ∧ (bs = 0) ∧ (st = 0) ∧ (cd = 0) ∧ (rg = 0)) (w : Int) (hw : w = 4211081216 + (st * 1048576 + rn * 65536 + ra * 4096 + rd * 256 + rm)) : rdOf f 29 w = rd ∧ rnOf f 29 w = rn ∧ rmOf f 29 w = rm ∧ raOf f 29 w = ra ∧ imOf f 29 w = im ∧ kdOf f 29 w = kd ∧ bsOf f 29 w = bs ∧ stOf f 29 w = st ∧ cdOf f 29 w = cd ∧ rgOf f 29 w = rg := by
  obtain ⟨h1, h2, h3, h4, h5, h6, h7, h8, h9, h10⟩ := h
  obtain ⟨q0, q1, q2, q3⟩ := cut_93  (by omega) (by omega) (by omega) (by omega) (by omega) w hw
  clear hw
  rw [rd_29, rn_29, rm_29, ra_29, im_29, kd_29, bs_29, st_29, cd_29, rg_29]
  rw [q0, q1, q2, q3]
  clear q0 q1 q2 q3
  exact ⟨by omega, by omega, by omega, by omega, by omega, by omega, by omega, by omega, by omega, by omega⟩
theorem cut_94 {st rn ra rd rm : Int} (b0 : 0 ≤ st ∧ st ≤ 0) (b1 : 0 ≤ rn ∧ rn ≤ 15) (b2 : 0 ≤ ra ∧ ra ≤ 15) (b3 : 0 ≤ rd ∧ rd ≤ 15) (b4 : 0 ≤ rm ∧ rm ≤ 15) (w : Int) (hw : w = 4211081232 + (st * 1048576 + rn * 65536 + ra * 4096 + rd * 256 + rm)) : w / 256 % 16 = rd ∧ w / 65536 % 16 = rn ∧ w % 16 = rm ∧ w / 4096 % 16 = ra := by
  have e1 : w / 65536 = 64256 + st * 16 + rn := by omega
  have e2 : w % 65536 = 16 + ra * 4096 + rd * 256 + rm := by omega
  rw [half_256_16 w, half_65536_16 w, half_1_16 w, half_4096_16 w, e1, e2]
  clear e1 e2 hw
  exact ⟨by omega, by omega, by omega, by omega⟩
theorem back_94 {f rd rn rm ra im kd bs st cd rg : Int} (hf : f = 94) (h : ((0 ≤ rd ∧ rd ≤ 12 ∨ rd = 14)) ∧ ((0 ≤ rn ∧ rn ≤ 12 ∨ rn = 14)) ∧ ((0 ≤ rm ∧ rm ≤ 12 ∨ rm = 14)) ∧ ((0 ≤ ra ∧ ra ≤ 12 ∨ ra = 14)) ∧ (im = 0) ∧ (kd = 0) ∧ (bs = 0) ∧ (st = 0) ∧ (cd = 0) ∧ (rg = 0)) (w : Int) (hw : w = 4211081232 + (st * 1048576 + rn * 65536 + ra * 4096 + rd * 256 + rm)) : rdOf f 30 w = rd ∧ rnOf f 30 w = rn ∧ rmOf f 30 w = rm ∧ raOf f 30 w = ra ∧ imOf f 30 w = im ∧ kdOf f 30 w = kd ∧ bsOf f 30 w = bs ∧ stOf f 30 w = st ∧ cdOf f 30 w = cd ∧ rgOf f 30 w = rg := by
  obtain ⟨h1, h2, h3, h4, h5, h6, h7, h8, h9, h10⟩ := h
  obtain ⟨q0, q1, q2, q3⟩ := cut_94  (by omega) (by omega) (by omega) (by omega) (by omega) w hw
  clear hw
  rw [rd_30, rn_30, rm_30, ra_30, im_30, kd_30, bs_30, st_30, cd_30, rg_30]
  rw [q0, q1, q2, q3]
  clear q0 q1 q2 q3
  exact ⟨by omega, by omega, by omega, by omega, by omega, by omega, by omega, by omega, by omega, by omega⟩
theorem cut_95 {rn rd ra rm : Int} (b0 : 0 ≤ rn ∧ rn ≤ 15) (b1 : 0 ≤ rd ∧ rd ≤ 15) (b2 : 0 ≤ ra ∧ ra ≤ 15) (b3 : 0 ≤ rm ∧ rm ≤ 15) (w : Int) (hw : w = 4221566976 + (rn * 65536 + rd * 4096 + ra * 256 + rm)) : w / 4096 % 16 = rd ∧ w / 65536 % 16 = rn ∧ w % 16 = rm ∧ w / 256 % 16 = ra := by
  have e1 : w / 65536 = 64416 + rn := by omega
  have e2 : w % 65536 = 0 + rd * 4096 + ra * 256 + rm := by omega
  rw [half_4096_16 w, half_65536_16 w, half_1_16 w, half_256_16 w, e1, e2]
  clear e1 e2 hw
  exact ⟨by omega, by omega, by omega, by omega⟩
theorem back_95 {f rd rn rm ra im kd bs st cd rg : Int} (hf : f = 95) (h : ((0 ≤ rd ∧ rd ≤ 12 ∨ rd = 14)) ∧ ((0 ≤ rn ∧ rn ≤ 12 ∨ rn = 14)) ∧ ((0 ≤ rm ∧ rm ≤ 12 ∨ rm = 14)) ∧ ((0 ≤ ra ∧ ra ≤ 12 ∨ ra = 14)) ∧ (im = 0) ∧ (kd = 0) ∧ (bs = 0) ∧ (st = 0) ∧ (cd = 0) ∧ (rg = 0)) (w : Int) (hw : w = 4221566976 + (rn * 65536 + rd * 4096 + ra * 256 + rm)) : rdOf f 31 w = rd ∧ rnOf f 31 w = rn ∧ rmOf f 31 w = rm ∧ raOf f 31 w = ra ∧ imOf f 31 w = im ∧ kdOf f 31 w = kd ∧ bsOf f 31 w = bs ∧ stOf f 31 w = st ∧ cdOf f 31 w = cd ∧ rgOf f 31 w = rg := by
  obtain ⟨h1, h2, h3, h4, h5, h6, h7, h8, h9, h10⟩ := h
  obtain ⟨q0, q1, q2, q3⟩ := cut_95  (by omega) (by omega) (by omega) (by omega) w hw
  clear hw
  rw [rd_31, rn_31, rm_31, ra_31, im_31, kd_31, bs_31, st_31, cd_31, rg_31]
  rw [q0, q1, q2, q3]
  clear q0 q1 q2 q3
  exact ⟨by omega, by omega, by omega, by omega, by omega, by omega, by omega, by omega, by omega, by omega⟩
theorem cut_96 {rn rd ra rm : Int} (b0 : 0 ≤ rn ∧ rn ≤ 15) (b1 : 0 ≤ rd ∧ rd ≤ 15) (b2 : 0 ≤ ra ∧ ra ≤ 15) (b3 : 0 ≤ rm ∧ rm ≤ 15) (w : Int) (hw : w = 4225761280 + (rn * 65536 + rd * 4096 + ra * 256 + rm)) : w / 4096 % 16 = rd ∧ w / 65536 % 16 = rn ∧ w % 16 = rm ∧ w / 256 % 16 = ra := by
  have e1 : w / 65536 = 64480 + rn := by omega
  have e2 : w % 65536 = 0 + rd * 4096 + ra * 256 + rm := by omega
  rw [half_4096_16 w, half_65536_16 w, half_1_16 w, half_256_16 w, e1, e2]
  clear e1 e2 hw
  exact ⟨by omega, by omega, by omega, by omega⟩
theorem back_96 {f rd rn rm ra im kd bs st cd rg : Int} (hf : f = 96) (h : ((0 ≤ rd ∧ rd ≤ 12 ∨ rd = 14)) ∧ ((0 ≤ rn ∧ rn ≤ 12 ∨ rn = 14)) ∧ ((0 ≤ rm ∧ rm ≤ 12 ∨ rm = 14)) ∧ ((0 ≤ ra ∧ ra ≤ 12 ∨ ra = 14)) ∧ (im = 0) ∧ (kd = 0) ∧ (bs = 0) ∧ (st = 0) ∧ (cd = 0) ∧ (rg = 0)) (w : Int) (hw : w = 4225761280 + (rn * 65536 + rd * 4096 + ra * 256 + rm)) : rdOf f 31 w = rd ∧ rnOf f 31 w = rn ∧ rmOf f 31 w = rm ∧ raOf f 31 w = ra ∧ imOf f 31 w = im ∧ kdOf f 31 w = kd ∧ bsOf f 31 w = bs ∧ stOf f 31 w = st ∧ cdOf f 31 w = cd ∧ rgOf f 31 w = rg := by
  obtain ⟨h1, h2, h3, h4, h5, h6, h7, h8, h9, h10⟩ := h
  obtain ⟨q0, q1, q2, q3⟩ := cut_96  (by omega) (by omega) (by omega) (by omega) w hw
  clear hw
  rw [rd_31, rn_31, rm_31, ra_31, im_31, kd_31, bs_31, st_31, cd_31, rg_31]
  rw [q0, q1, q2, q3]
  clear q0 q1 q2 q3
  exact ⟨by omega, by omega, by omega, by omega, by omega, by omega, by omega, by omega, by omega, by omega⟩
theorem cut_97 {st rn ra rd rm : Int} (b0 : 0 ≤ st ∧ st ≤ 0) (b1 : 0 ≤ rn ∧ rn ≤ 15) (b2 : 0 ≤ ra ∧ ra ≤ 0) (b3 : 0 ≤ rd ∧ rd ≤ 15) (b4 : 0 ≤ rm ∧ rm ≤ 15) (w : Int) (hw : w = 4222677232 + (st * 1048576 + rn * 65536 + ra * 4096 + rd * 256 + rm)) : w / 256 % 16 = rd ∧ w / 65536 % 16 = rn ∧ w % 16 = rm := by
  have e1 : w / 65536 = 64432 + st * 16 + rn := by omega
  have e2 : w % 65536 = 61680 + ra * 4096 + rd * 256 + rm := by omega
  rw [half_256_16 w, half_65536_16 w, half_1_16 w, e1, e2]
  clear e1 e2 hw
  exact ⟨by omega, by omega, by omega⟩
theorem back_97 {f rd rn rm ra im kd bs st cd rg : Int} (hf : f = 97) (h : ((0 ≤ rd ∧ rd ≤ 12 ∨ rd = 14)) ∧ ((0 ≤ rn ∧ rn ≤ 12 ∨ rn = 14)) ∧ ((0 ≤ rm ∧ rm ≤ 12 ∨ rm = 14)) ∧ (ra = 0) ∧ (im = 0) ∧ (kd = 0) ∧ (bs = 0) ∧ (st = 0) ∧ (cd = 0) ∧ (rg = 0)) (w : Int) (hw : w = 4222677232 + (st * 1048576 + rn * 65536 + ra * 4096 + rd * 256 + rm)) : rdOf f 28 w = rd ∧ rnOf f 28 w = rn ∧ rmOf f 28 w = rm ∧ raOf f 28 w = ra ∧ imOf f 28 w = im ∧ kdOf f 28 w = kd ∧ bsOf f 28 w = bs ∧ stOf f 28 w = st ∧ cdOf f 28 w = cd ∧ rgOf f 28 w = rg := by
  obtain ⟨h1, h2, h3, h4, h5, h6, h7, h8, h9, h10⟩ := h
  obtain ⟨q0, q1, q2⟩ := cut_97  (by omega) (by omega) (by omega) (by omega) (by omega) w hw
  clear hw
  rw [rd_28, rn_28, rm_28, ra_28, im_28, kd_28, bs_28, st_28, cd_28, rg_28]
  rw [q0, q1, q2]
  clear q0 q1 q2
  exact ⟨by omega, by omega, by omega, by omega, by omega, by omega, by omega, by omega, by omega, by omega⟩
theorem cut_98 {rm rd : Int} (b0 : 0 ≤ rm ∧ rm ≤ 15) (b1 : 0 ≤ rd ∧ rd ≤ 15) (w : Int) (hw : w = 4205899904 + (rm * 65536 + rd * 256 + rm)) : w / 256 % 16 = rd ∧ w % 16 = rm := by
  have e1 : w / 65536 = 64176 + rm := by omega
  have e2 : w % 65536 = 61568 + rd * 256 + rm := by omega
  rw [half_256_16 w, half_1_16 w, e2]
  clear e1 e2 hw
  exact ⟨by omega, by omega⟩
theorem back_98 {f rd rn rm ra im kd bs st cd rg : Int} (hf : f = 98) (h : ((0 ≤ rd ∧ rd ≤ 12 ∨ rd = 14)) ∧ (rn = 0) ∧ ((0 ≤ rm ∧ rm ≤ 12 ∨ rm = 14)) ∧ (ra = 0) ∧ (im = 0) ∧ (kd = 0) ∧ (bs = 0) ∧ (st = 0) ∧ (cd = 0) ∧ (rg = 0)) (w : Int) (hw : w = 4205899904 + (rm * 65536 + rd * 256 + rm)) : rdOf f 32 w = rd ∧ rnOf f 32 w = rn ∧ rmOf f 32 w = rm ∧ raOf f 32 w = ra ∧ imOf f 32 w = im ∧ kdOf f 32 w = kd ∧ bsOf f 32 w = bs ∧ stOf f 32 w = st ∧ cdOf f 32 w = cd ∧ rgOf f 32 w = rg := by
  obtain ⟨h1, h2, h3, h4, h5, h6, h7, h8, h9, h10⟩ := h
  obtain ⟨q0, q1⟩ := cut_98  (by omega) (by omega) w hw
  clear hw
  rw [rd_32, rn_32, rm_32, ra_32, im_32, kd_32, bs_32, st_32, cd_32, rg_32]
  rw [q0, q1]
  clear q0 q1
  exact ⟨by omega, by omega, by omega, by omega, by omega, by omega, by omega, by omega, by omega, by omega⟩
theorem cut_99 {y0 cd y1 y2 y3 y4 : Int} (b0 : 0 ≤ y0 ∧ y0 ≤ 1) (b1 : 0 ≤ cd ∧ cd ≤ 15) (b2 : 0 ≤ y1 ∧ y1 ≤ 63) (b3 : 0 ≤ y2 ∧ y2 ≤ 1) (b4 : 0 ≤ y3 ∧ y3 ≤ 1) (b5 : 0 ≤ y4 ∧ y4 ≤ 2047) (w : Int) (hw : w = 4026564608 + (y0 * 67108864 + cd * 4194304 + y1 * 65536 + y2 * 8192 + y3 * 2048 + y4)) : w / 67108864 % 2 = y0 ∧ w / 65536 % 64 = y1 ∧ w / 8192 % 2 = y2 ∧ w / 2048 % 2 = y3 ∧ w % 2048 = y4 ∧ w / 4194304 % 16 = cd := by
  have e1 : w / 65536 = 61440 + y0 * 1024 + cd * 64 + y1 := by omega
  have e2 : w % 65536 = 32768 + y2 * 8192 + y3 * 2048 + y4 := by omega
  rw [half_67108864_2 w, half_65536_64 w, half_8192_2 w, half_2048_2 w, half_1_2048 w, half_4194304_16 w, e1, e2]
  clear e1 e2 hw
  exact ⟨by omega, by omega, by omega, by omega, by omega, by omega⟩
theorem back_99 {f rd rn rm ra im kd bs st cd rg : Int} (hf : f = 99) (h : (rd = 0) ∧ (rn = 0) ∧ (rm = 0) ∧ (ra = 0) ∧ (-1048576 ≤ im ∧ im ≤ 1048574 ∧ im % 2 = 0) ∧ (kd = 0) ∧ (bs = 0) ∧ (st = 0) ∧ (0 ≤ cd ∧ cd ≤ 13) ∧ (rg = 0)) (w : Int) (hw : w = 4026564608 + (im / 1048576 % 2 * 67108864 + cd * 4194304 + im / 4096 % 64 * 65536 + im / 262144 % 2 * 8192 + im / 524288 % 2 * 2048 + im / 2 % 2048)) : rdOf f 33 w = rd ∧ rnOf f 33 w = rn ∧ rmOf f 33 w = rm ∧ raOf f 33 w = ra ∧ imOf f 33 w = im ∧ kdOf f 33 w = kd ∧ bsOf f 33 w = bs ∧ stOf f 33 w = st ∧ cdOf f 33 w = cd ∧ rgOf f 33 w = rg := by
  obtain ⟨h1, h2, h3, h4, h5, h6, h7, h8, h9, h10⟩ := h
  obtain ⟨q0, q1, q2, q3, q4, q5⟩ := cut_99 (y0 := im / 1048576 % 2) (y1 := im / 4096 % 64) (y2 := im / 262144 % 2) (y3 := im / 524288 % 2) (y4 := im / 2 % 2048) (by omega) (by omega) (by omega) (by omega) (by omega) (by omega) w hw
  clear hw
  rw [rd_33, rn_33, rm_33, ra_33, im_33, kd_33, bs_33, st_33, cd_33, rg_33]
  rw [q0, q1, q2, q3, q4, q5]
  clear q0 q1 q2 q3 q4 q5
  exact ⟨by omega, by omega, by omega, by omega, by unfold sgn; first | omega | (split <;> omega), by omega, by omega, by omega, by omega, by omega⟩
theorem cut_100 {y0 y1 y2 y3 y4 : Int} (b0 : 0 ≤ y0 ∧ y0 ≤ 1) (b1 : 0 ≤ y1 ∧ y1 ≤ 1023) (b2 : 0 ≤ y2 ∧ y2 ≤ 1) (b3 : 0 ≤ y3 ∧ y3 ≤ 1) (b4 : 0 ≤ y4 ∧ y4 ≤ 2047) (w : Int) (hw : w = 4026568704 + (y0 * 67108864 + y1 * 65536 + y2 * 8192 + y3 * 2048 + y4)) : w / 67108864 % 2 = y0 ∧ w / 65536 % 1024 = y1 ∧ w / 8192 % 2 = y2 ∧ w / 2048 % 2 = y3 ∧ w % 2048 = y4 := by
  have e1 : w / 65536 = 61440 + y0 * 1024 + y1 := by omega
  have e2 : w % 65536 = 36864 + y2 * 8192 + y3 * 2048 + y4 := by omega
  rw [half_67108864_2 w, half_65536_1024 w, half_8192_2 w, half_2048_2 w, half_1_2048 w, e1, e2]
  clear e1 e2 hw
  exact ⟨by omega, by omega, by omega, by omega, by omega⟩
theorem back_100 {f rd rn rm ra im kd bs st cd rg : Int} (hf : f = 100) (h : (rd = 0) ∧ (rn = 0) ∧ (rm = 0) ∧ (ra = 0) ∧ (-16777216 ≤ im ∧ im ≤ 16777214 ∧ im % 2 = 0) ∧ (kd = 0) ∧ (bs = 0) ∧ (st = 0) ∧ (cd = 0) ∧ (rg = 0)) (w : Int) (hw : w = 4026568704 + (im / 16777216 % 2 * 67108864 + im / 4096 % 1024 * 65536 + j1 im * 8192 + j2 im * 2048 + im / 2 % 2048)) : rdOf f 34 w = rd ∧ rnOf f 34 w = rn ∧ rmOf f 34 w = rm ∧ raOf f 34 w = ra ∧ imOf f 34 w = im ∧ kdOf f 34 w = kd ∧ bsOf f 34 w = bs ∧ stOf f 34 w = st ∧ cdOf f 34 w = cd ∧ rgOf f 34 w = rg := by
  obtain ⟨h1, h2, h3, h4, h5, h6, h7, h8, h9, h10⟩ := h
  obtain ⟨q0, q1, q2, q3, q4⟩ := cut_100 (y0 := im / 16777216 % 2) (y1 := im / 4096 % 1024) (y2 := j1 im) (y3 := j2 im) (y4 := im / 2 % 2048) (by omega) (by omega) (j1_bd im) (j2_bd im) (by omega) w hw
  clear hw
  rw [rd_34, rn_34, rm_34, ra_34, im_34, kd_34, bs_34, st_34, cd_34, rg_34]
  rw [q0, q1, q2, q3, q4]
  clear q0 q1 q2 q3 q4
  rw [j1_back, j2_back]
  exact ⟨by omega, by omega, by omega, by omega, by unfold sgn; first | omega | (split <;> omega), by omega, by omega, by omega, by omega, by omega⟩

end Go.Proofs.YtpgcnbipnjcniaaDoor.Code
