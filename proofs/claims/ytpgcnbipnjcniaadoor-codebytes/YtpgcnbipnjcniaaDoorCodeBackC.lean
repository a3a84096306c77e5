/- Fields out of words: forms 66 to 81. -/
import Derived.Test.YtpgcnbipnjcniaaDoorCodeRead
set_option linter.unusedVariables false
set_option linter.unusedSimpArgs false
namespace Go.Proofs.YtpgcnbipnjcniaaDoor.Code
open Go.Proofs.YtpgcnbipnjcniaaDoor.Alu Go.Proofs.YtpgcnbipnjcniaaDoor.Imm Go.Proofs.YtpgcnbipnjcniaaDoor.Inst

theorem cut_66 {st rn y0 rd y1 kd rm : Int} (b0 : 0 ≤ st ∧ st ≤ 1) (b1 : 0 ≤ rn ∧ rn ≤ 15) (b2 : 0 ≤ y0 ∧ y0 ≤ 7) (b3 : 0 ≤ rd ∧ rd ≤ 15) (b4 : 0 ≤ y1 ∧ y1 ≤ 3) (b5 : 0 ≤ kd ∧ kd ≤ 3) (b6 : 0 ≤ rm ∧ rm ≤ 15) (w : Int) (hw : w = 3925868544 + (st * 1048576 + rn * 65536 + y0 * 4096 + rd * 256 + y1 * 64 + kd * 16 + rm)) : w / 256 % 16 = rd ∧ w / 65536 % 16 = rn ∧ w % 16 = rm ∧ w / 16 % 4 = kd ∧ w / 4096 % 8 = y0 ∧ w / 64 % 4 = y1 ∧ w / 1048576 % 2 = st := by
  have e1 : w / 65536 = 59904 + st * 16 + rn := by omega
  have e2 : w % 65536 = 0 + y0 * 4096 + rd * 256 + y1 * 64 + kd * 16 + rm := by omega
  rw [half_256_16 w, half_65536_16 w, half_1_16 w, half_16_4 w, half_4096_8 w, half_64_4 w, half_1048576_2 w, e1, e2]
  clear e1 e2 hw
  exact ⟨by omega, by omega, by omega, by omega, by omega, by omega, by omega⟩
theorem back_66 {f rd rn rm ra im kd bs st cd rg : Int} (hf : f = 66) (h : ((0 ≤ rd ∧ rd ≤ 12 ∨ rd = 14)) ∧ ((0 ≤ rn ∧ rn ≤ 12 ∨ rn = 14)) ∧ ((0 ≤ rm ∧ rm ≤ 12 ∨ rm = 14)) ∧ (ra = 0) ∧ (im = 0) ∧ (0 ≤ st ∧ st ≤ 1) ∧ (cd = 0) ∧ (rg = 0) ∧ ((kd = 0 ∧ 0 ≤ bs ∧ bs ≤ 31) ∨ ((kd = 1 ∨ kd = 2) ∧ 1 ≤ bs ∧ bs ≤ 32) ∨ (kd = 3 ∧ 1 ≤ bs ∧ bs ≤ 31))) (w : Int) (hw : w = 3925868544 + (st * 1048576 + rn * 65536 + bs / 4 % 8 * 4096 + rd * 256 + bs % 4 * 64 + kd * 16 + rm)) : rdOf f 21 w = rd ∧ rnOf f 21 w = rn ∧ rmOf f 21 w = rm ∧ raOf f 21 w = ra ∧ imOf f 21 w = im ∧ kdOf f 21 w = kd ∧ bsOf f 21 w = bs ∧ stOf f 21 w = st ∧ cdOf f 21 w = cd ∧ rgOf f 21 w = rg := by
  obtain ⟨h1, h2, h3, h4, h5, h6, h7, h8, h9⟩ := h
  obtain ⟨q0, q1, q2, q3, q4, q5, q6⟩ := cut_66 (y0 := bs / 4 % 8) (y1 := bs % 4) (by omega) (by omega) (by omega) (by omega) (by omega) (by omega) (by omega) w hw
  clear hw
  rw [rd_21, rn_21, rm_21, ra_21, im_21, kd_21, bs_21, st_21, cd_21, rg_21]
  rw [q0, q1, q2, q3, q4, q5, q6]
  clear q0 q1 q2 q3 q4 q5 q6
  exact ⟨by omega, by omega, by omega, by omega, by omega, by omega, by first | omega | (split <;> omega), by omega, by omega, by omega⟩
theorem cut_67 {st rn y0 rd y1 kd rm : Int} (b0 : 0 ≤ st ∧ st ≤ 1) (b1 : 0 ≤ rn ∧ rn ≤ 15) (b2 : 0 ≤ y0 ∧ y0 ≤ 7) (b3 : 0 ≤ rd ∧ rd ≤ 15) (b4 : 0 ≤ y1 ∧ y1 ≤ 3) (b5 : 0 ≤ kd ∧ kd ≤ 3) (b6 : 0 ≤ rm ∧ rm ≤ 15) (w : Int) (hw : w = 3927965696 + (st * 1048576 + rn * 65536 + y0 * 4096 + rd * 256 + y1 * 64 + kd * 16 + rm)) : w / 256 % 16 = rd ∧ w / 65536 % 16 = rn ∧ w % 16 = rm ∧ w / 16 % 4 = kd ∧ w / 4096 % 8 = y0 ∧ w / 64 % 4 = y1 ∧ w / 1048576 % 2 = st := by
  have e1 : w / 65536 = 59936 + st * 16 + rn := by omega
  have e2 : w % 65536 = 0 + y0 * 4096 + rd * 256 + y1 * 64 + kd * 16 + rm := by omega
  rw [half_256_16 w, half_65536_16 w, half_1_16 w, half_16_4 w, half_4096_8 w, half_64_4 w, half_1048576_2 w, e1, e2]
  clear e1 e2 hw
  exact ⟨by omega, by omega, by omega, by omega, by omega, by omega, by omega⟩
theorem back_67 {f rd rn rm ra im kd bs st cd rg : Int} (hf : f = 67) (h : ((0 ≤ rd ∧ rd ≤ 12 ∨ rd = 14)) ∧ ((0 ≤ rn ∧ rn ≤ 12 ∨ rn = 14)) ∧ ((0 ≤ rm ∧ rm ≤ 12 ∨ rm = 14)) ∧ (ra = 0) ∧ (im = 0) ∧ (0 ≤ st ∧ st ≤ 1) ∧ (cd = 0) ∧ (rg = 0) ∧ ((kd = 0 ∧ 0 ≤ bs ∧ bs ≤ 31) ∨ ((kd = 1 ∨ kd = 2) ∧ 1 ≤ bs ∧ bs ≤ 32) ∨ (kd = 3 ∧ 1 ≤ bs ∧ bs ≤ 31))) (w : Int) (hw : w = 3927965696 + (st * 1048576 + rn * 65536 + bs / 4 % 8 * 4096 + rd * 256 + bs % 4 * 64 + kd * 16 + rm)) : rdOf f 21 w = rd ∧ rnOf f 21 w = rn ∧ rmOf f 21 w = rm ∧ raOf f 21 w = ra ∧ imOf f 21 w = im ∧ kdOf f 21 w = kd ∧ bsOf f 21 w = bs ∧ stOf f 21 w = st ∧ cdOf f 21 w = cd ∧ rgOf f 21 w = rg := by
  obtain ⟨h1, h2, h3, h4, h5, h6, h7, h8, h9⟩ := h
  obtain ⟨q0, q1, q2, q3, q4, q5, q6⟩ := cut_67 (y0 := bs / 4 % 8) (y1 := bs % 4) (by omega) (by omega) (by omega) (by omega) (by omega) (by omega) (by omega) w hw
  clear hw
  rw [rd_21, rn_21, rm_21, ra_21, im_21, kd_21, bs_21, st_21, cd_21, rg_21]
  rw [q0, q1, q2, q3, q4, q5, q6]
  clear q0 q1 q2 q3 q4 q5 q6
  exact ⟨by omega, by omega, by omega, by omega, by omega, by omega, by first | omega | (split <;> omega), by omega, by omega, by omega⟩
theorem cut_68 {st rn y0 rd y1 kd rm : Int} (b0 : 0 ≤ st ∧ st ≤ 1) (b1 : 0 ≤ rn ∧ rn ≤ 15) (b2 : 0 ≤ y0 ∧ y0 ≤ 7) (b3 : 0 ≤ rd ∧ rd ≤ 15) (b4 : 0 ≤ y1 ∧ y1 ≤ 3) (b5 : 0 ≤ kd ∧ kd ≤ 3) (b6 : 0 ≤ rm ∧ rm ≤ 15) (w : Int) (hw : w = 3930062848 + (st * 1048576 + rn * 65536 + y0 * 4096 + rd * 256 + y1 * 64 + kd * 16 + rm)) : w / 256 % 16 = rd ∧ w / 65536 % 16 = rn ∧ w % 16 = rm ∧ w / 16 % 4 = kd ∧ w / 4096 % 8 = y0 ∧ w / 64 % 4 = y1 ∧ w / 1048576 % 2 = st := by
  have e1 : w / 65536 = 59968 + st * 16 + rn := by omega
  have e2 : w % 65536 = 0 + y0 * 4096 + rd * 256 + y1 * 64 + kd * 16 + rm := by omega
  rw [half_256_16 w, half_65536_16 w, half_1_16 w, half_16_4 w, half_4096_8 w, half_64_4 w, half_1048576_2 w, e1, e2]
  clear e1 e2 hw
  exact ⟨by omega, by omega, by omega, by omega, by omega, by omega, by omega⟩
theorem back_68 {f rd rn rm ra im kd bs st cd rg : Int} (hf : f = 68) (h : ((0 ≤ rd ∧ rd ≤ 12 ∨ rd = 14)) ∧ ((0 ≤ rn ∧ rn ≤ 12 ∨ rn = 14)) ∧ ((0 ≤ rm ∧ rm ≤ 12 ∨ rm = 14)) ∧ (ra = 0) ∧ (im = 0) ∧ (0 ≤ st ∧ st ≤ 1) ∧ (cd = 0) ∧ (rg = 0) ∧ ((kd = 0 ∧ 0 ≤ bs ∧ bs ≤ 31) ∨ ((kd = 1 ∨ kd = 2) ∧ 1 ≤ bs ∧ bs ≤ 32) ∨ (kd = 3 ∧ 1 ≤ bs ∧ bs ≤ 31))) (w : Int) (hw : w = 3930062848 + (st * 1048576 + rn * 65536 + bs / 4 % 8 * 4096 + rd * 256 + bs % 4 * 64 + kd * 16 + rm)) : rdOf f 21 w = rd ∧ rnOf f 21 w = rn ∧ rmOf f 21 w = rm ∧ raOf f 21 w = ra ∧ imOf f 21 w = im ∧ kdOf f 21 w = kd ∧ bsOf f 21 w = bs ∧ stOf f 21 w = st ∧ cdOf f 21 w = cd ∧ rgOf f 21 w = rg := by
  obtain ⟨h1, h2, h3, h4, h5, h6, h7, h8, h9⟩ := h
  obtain ⟨q0, q1, q2, q3, q4, q5, q6⟩ := cut_68 (y0 := bs / 4 % 8) (y1 := bs % 4) (by omega) (by omega) (by omega) (by omega) (by omega) (by omega) (by omega) w hw
  clear hw
  rw [rd_21, rn_21, rm_21, ra_21, im_21, kd_21, bs_21, st_21, cd_21, rg_21]
  rw [q0, q1, q2, q3, q4, q5, q6]
  clear q0 q1 q2 q3 q4 q5 q6
  exact ⟨by omega, by omega, by omega, by omega, by omega, by omega, by first | omega | (split <;> omega), by omega, by omega, by omega⟩
theorem cut_69 {st rn y0 rd y1 kd rm : Int} (b0 : 0 ≤ st ∧ st ≤ 1) (b1 : 0 ≤ rn ∧ rn ≤ 15) (b2 : 0 ≤ y0 ∧ y0 ≤ 7) (b3 : 0 ≤ rd ∧ rd ≤ 15) (b4 : 0 ≤ y1 ∧ y1 ≤ 3) (b5 : 0 ≤ kd ∧ kd ≤ 3) (b6 : 0 ≤ rm ∧ rm ≤ 15) (w : Int) (hw : w = 3932160000 + (st * 1048576 + rn * 65536 + y0 * 4096 + rd * 256 + y1 * 64 + kd * 16 + rm)) : w / 256 % 16 = rd ∧ w / 65536 % 16 = rn ∧ w % 16 = rm ∧ w / 16 % 4 = kd ∧ w / 4096 % 8 = y0 ∧ w / 64 % 4 = y1 ∧ w / 1048576 % 2 = st := by
  have e1 : w / 65536 = 60000 + st * 16 + rn := by omega
  have e2 : w % 65536 = 0 + y0 * 4096 + rd * 256 + y1 * 64 + kd * 16 + rm := by omega
  rw [half_256_16 w, half_65536_16 w, half_1_16 w, half_16_4 w, half_4096_8 w, half_64_4 w, half_1048576_2 w, e1, e2]
  clear e1 e2 hw
  exact ⟨by omega, by omega, by omega, by omega, by omega, by omega, by omega⟩
theorem back_69 {f rd rn rm ra im kd bs st cd rg : Int} (hf : f = 69) (h : ((0 ≤ rd ∧ rd ≤ 12 ∨ rd = 14)) ∧ ((0 ≤ rn ∧ rn ≤ 12 ∨ rn = 14)) ∧ ((0 ≤ rm ∧ rm ≤ 12 ∨ rm = 14)) ∧ (ra = 0) ∧ (im = 0) ∧ (0 ≤ st ∧ st ≤ 1) ∧ (cd = 0) ∧ (rg = 0) ∧ ((kd = 0 ∧ 0 ≤ bs ∧ bs ≤ 31) ∨ ((kd = 1 ∨ kd = 2) ∧ 1 ≤ bs ∧ bs ≤ 32) ∨ (kd = 3 ∧ 1 ≤ bs ∧ bs ≤ 31))) (w : Int) (hw : w = 3932160000 + (st * 1048576 + rn * 65536 + bs / 4 % 8 * 4096 + rd * 256 + bs % 4 * 64 + kd * 16 + rm)) : rdOf f 21 w = rd ∧ rnOf f 21 w = rn ∧ rmOf f 21 w = rm ∧ raOf f 21 w = ra ∧ imOf f 21 w = im ∧ kdOf f 21 w = kd ∧ bsOf f 21 w = bs ∧ stOf f 21 w = st ∧ cdOf f 21 w = cd ∧ rgOf f 21 w = rg := by
  obtain ⟨h1, h2, h3, h4, h5, h6, h7, h8, h9⟩ := h
  obtain ⟨q0, q1, q2, q3, q4, q5, q6⟩ := cut_69 (y0 := bs / 4 % 8) (y1 := bs % 4) (by omega) (by omega) (by omega) (by omega) (by omega) (by omega) (by omega) w hw
  clear hw
  rw [rd_21, rn_21, rm_21, ra_21, im_21, kd_21, bs_21, st_21, cd_21, rg_21]
  rw [q0, q1, q2, q3, q4, q5, q6]
  clear q0 q1 q2 q3 q4 q5 q6
  exact ⟨by omega, by omega, by omega, by omega, by omega, by omega, by first | omega | (split <;> omega), by omega, by omega, by omega⟩
theorem cut_70 {st rn y0 rd y1 kd rm : Int} (b0 : 0 ≤ st ∧ st ≤ 1) (b1 : 0 ≤ rn ∧ rn ≤ 15) (b2 : 0 ≤ y0 ∧ y0 ≤ 7) (b3 : 0 ≤ rd ∧ rd ≤ 15) (b4 : 0 ≤ y1 ∧ y1 ≤ 3) (b5 : 0 ≤ kd ∧ kd ≤ 3) (b6 : 0 ≤ rm ∧ rm ≤ 15) (w : Int) (hw : w = 3934257152 + (st * 1048576 + rn * 65536 + y0 * 4096 + rd * 256 + y1 * 64 + kd * 16 + rm)) : w / 256 % 16 = rd ∧ w / 65536 % 16 = rn ∧ w % 16 = rm ∧ w / 16 % 4 = kd ∧ w / 4096 % 8 = y0 ∧ w / 64 % 4 = y1 ∧ w / 1048576 % 2 = st := by
  have e1 : w / 65536 = 60032 + st * 16 + rn := by omega
  have e2 : w % 65536 = 0 + y0 * 4096 + rd * 256 + y1 * 64 + kd * 16 + rm := by omega
  rw [half_256_16 w, half_65536_16 w, half_1_16 w, half_16_4 w, half_4096_8 w, half_64_4 w, half_1048576_2 w, e1, e2]
  clear e1 e2 hw
  exact ⟨by omega, by omega, by omega, by omega, by omega, by omega, by omega⟩
theorem back_70 {f rd rn rm ra im kd bs st cd rg : Int} (hf : f = 70) (h : ((0 ≤ rd ∧ rd ≤ 12 ∨ rd = 14)) ∧ ((0 ≤ rn ∧ rn ≤ 12 ∨ rn = 14)) ∧ ((0 ≤ rm ∧ rm ≤ 12 ∨ rm = 14)) ∧ (ra = 0) ∧ (im = 0) ∧ (0 ≤ st ∧ st ≤ 1) ∧ (cd = 0) ∧ (rg = 0) ∧ ((kd = 0 ∧ 0 ≤ bs ∧ bs ≤ 31) ∨ ((kd = 1 ∨ kd = 2) ∧ 1 ≤ bs ∧ bs ≤ 32) ∨ (kd = 3 ∧ 1 ≤ bs ∧ bs ≤ 31))) (w : Int) (hw : w = 3934257152 + (st * 1048576 + rn * 65536 + bs / 4 % 8 * 4096 + rd * 256 + bs % 4 * 64 + kd * 16 + rm)) : rdOf f 21 w = rd ∧ rnOf f 21 w = rn ∧ rmOf f 21 w = rm ∧ raOf f 21 w = ra ∧ imOf f 21 w = im ∧ kdOf f 21 w = kd ∧ bsOf f 21 w = bs ∧ stOf f 21 w = st ∧ cdOf f 21 w = cd ∧ rgOf f 21 w = rg := by
  obtain ⟨h1, h2, h3, h4, h5, h6, h7, h8, h9⟩ := h
  obtain ⟨q0, q1, q2, q3, q4, q5, q6⟩ := cut_70 (y0 := bs / 4 % 8) (y1 := bs % 4) (by omega) (by omega) (by omega) (by omega) (by omega) (by omega) (by omega) w hw
  clear hw
  rw [rd_21, rn_21, rm_21, ra_21, im_21, kd_21, bs_21, st_21, cd_21, rg_21]
  rw [q0, q1, q2, q3, q4, q5, q6]
  clear q0 q1 q2 q3 q4 q5 q6
  exact ⟨by omega, by omega, by omega, by omega, by omega, by omega, by first | omega | (split <;> omega), by omega, by omega, by omega⟩
theorem cut_71 {st rn y0 rd y1 kd rm : Int} (b0 : 0 ≤ st ∧ st ≤ 1) (b1 : 0 ≤ rn ∧ rn ≤ 15) (b2 : 0 ≤ y0 ∧ y0 ≤ 7) (b3 : 0 ≤ rd ∧ rd ≤ 15) (b4 : 0 ≤ y1 ∧ y1 ≤ 3) (b5 : 0 ≤ kd ∧ kd ≤ 3) (b6 : 0 ≤ rm ∧ rm ≤ 15) (w : Int) (hw : w = 3942645760 + (st * 1048576 + rn * 65536 + y0 * 4096 + rd * 256 + y1 * 64 + kd * 16 + rm)) : w / 256 % 16 = rd ∧ w / 65536 % 16 = rn ∧ w % 16 = rm ∧ w / 16 % 4 = kd ∧ w / 4096 % 8 = y0 ∧ w / 64 % 4 = y1 ∧ w / 1048576 % 2 = st := by
  have e1 : w / 65536 = 60160 + st * 16 + rn := by omega
  have e2 : w % 65536 = 0 + y0 * 4096 + rd * 256 + y1 * 64 + kd * 16 + rm := by omega
  rw [half_256_16 w, half_65536_16 w, half_1_16 w, half_16_4 w, half_4096_8 w, half_64_4 w, half_1048576_2 w, e1, e2]
  clear e1 e2 hw
  exact ⟨by omega, by omega, by omega, by omega, by omega, by omega, by omega⟩
theorem back_71 {f rd rn rm ra im kd bs st cd rg : Int} (hf : f = 71) (h : ((0 ≤ rd ∧ rd ≤ 12 ∨ rd = 14)) ∧ ((0 ≤ rn ∧ rn ≤ 12 ∨ rn = 14)) ∧ ((0 ≤ rm ∧ rm ≤ 12 ∨ rm = 14)) ∧ (ra = 0) ∧ (im = 0) ∧ (0 ≤ st ∧ st ≤ 1) ∧ (cd = 0) ∧ (rg = 0) ∧ ((kd = 0 ∧ 0 ≤ bs ∧ bs ≤ 31) ∨ ((kd = 1 ∨ kd = 2) ∧ 1 ≤ bs ∧ bs ≤ 32) ∨ (kd = 3 ∧ 1 ≤ bs ∧ bs ≤ 31))) (w : Int) (hw : w = 3942645760 + (st * 1048576 + rn * 65536 + bs / 4 % 8 * 4096 + rd * 256 + bs % 4 * 64 + kd * 16 + rm)) : rdOf f 21 w = rd ∧ rnOf f 21 w = rn ∧ rmOf f 21 w = rm ∧ raOf f 21 w = ra ∧ imOf f 21 w = im ∧ kdOf f 21 w = kd ∧ bsOf f 21 w = bs ∧ stOf f 21 w = st ∧ cdOf f 21 w = cd ∧ rgOf f 21 w = rg := by
  obtain ⟨h1, h2, h3, h4, h5, h6, h7, h8, h9⟩ := h
  obtain ⟨q0, q1, q2, q3, q4, q5, q6⟩ := cut_71 (y0 := bs / 4 % 8) (y1 := bs % 4) (by omega) (by omega) (by omega) (by omega) (by omega) (by omega) (by omega) w hw
  clear hw
  rw [rd_21, rn_21, rm_21, ra_21, im_21, kd_21, bs_21, st_21, cd_21, rg_21]
  rw [q0, q1, q2, q3, q4, q5, q6]
  clear q0 q1 q2 q3 q4 q5 q6
  exact ⟨by omega, by omega, by omega, by omega, by omega, by omega, by first | omega | (split <;> omega), by omega, by omega, by omega⟩
theorem cut_72 {st rn y0 rd y1 kd rm : Int} (b0 : 0 ≤ st ∧ st ≤ 1) (b1 : 0 ≤ rn ∧ rn ≤ 15) (b2 : 0 ≤ y0 ∧ y0 ≤ 7) (b3 : 0 ≤ rd ∧ rd ≤ 15) (b4 : 0 ≤ y1 ∧ y1 ≤ 3) (b5 : 0 ≤ kd ∧ kd ≤ 3) (b6 : 0 ≤ rm ∧ rm ≤ 15) (w : Int) (hw : w = 3946840064 + (st * 1048576 + rn * 65536 + y0 * 4096 + rd * 256 + y1 * 64 + kd * 16 + rm)) : w / 256 % 16 = rd ∧ w / 65536 % 16 = rn ∧ w % 16 = rm ∧ w / 16 % 4 = kd ∧ w / 4096 % 8 = y0 ∧ w / 64 % 4 = y1 ∧ w / 1048576 % 2 = st := by
  have e1 : w / 65536 = 60224 + st * 16 + rn := by omega
  have e2 : w % 65536 = 0 + y0 * 4096 + rd * 256 + y1 * 64 + kd * 16 + rm := by omega
  rw [half_256_16 w, half_65536_16 w, half_1_16 w, half_16_4 w, half_4096_8 w, half_64_4 w, half_1048576_2 w, e1, e2]
  clear e1 e2 hw
  exact ⟨by omega, by omega, by omega, by omega, by omega, by omega, by omega⟩
theorem back_72 {f rd rn rm ra im kd bs st cd rg : Int} (hf : f = 72) (h : ((0 ≤ rd ∧ rd ≤ 12 ∨ rd = 14)) ∧ ((0 ≤ rn ∧ rn ≤ 12 ∨ rn = 14)) ∧ ((0 ≤ rm ∧ rm ≤ 12 ∨ rm = 14)) ∧ (ra = 0) ∧ (im = 0) ∧ (0 ≤ st ∧ st ≤ 1) ∧ (cd = 0) ∧ (rg = 0) ∧ ((kd = 0 ∧ 0 ≤ bs ∧ bs ≤ 31) ∨ ((kd = 1 ∨ kd = 2) ∧ 1 ≤ bs ∧ bs ≤ 32) ∨ (kd = 3 ∧ 1 ≤ bs ∧ bs ≤ 31))) (w : Int) (hw : w = 3946840064 + (st * 1048576 + rn * 65536 + bs / 4 % 8 * 4096 + rd * 256 + bs % 4 * 64 + kd * 16 + rm)) : rdOf f 21 w = rd ∧ rnOf f 21 w = rn ∧ rmOf f 21 w = rm ∧ raOf f 21 w = ra ∧ imOf f 21 w = im ∧ kdOf f 21 w = kd ∧ bsOf f 21 w = bs ∧ stOf f 21 w = st ∧ cdOf f 21 w = cd ∧ rgOf f 21 w = rg := by
  obtain ⟨h1, h2, h3, h4, h5, h6, h7, h8, h9⟩ := h
  obtain ⟨q0, q1, q2, q3, q4, q5, q6⟩ := cut_72 (y0 := bs / 4 % 8) (y1 := bs % 4) (by omega) (by omega) (by omega) (by omega) (by omega) (by omega) (by omega) w hw
  clear hw
  rw [rd_21, rn_21, rm_21, ra_21, im_21, kd_21, bs_21, st_21, cd_21, rg_21]
  rw [q0, q1, q2, q3, q4, q5, q6]
  clear q0 q1 q2 q3 q4 q5 q6
  exact ⟨by omega, by omega, by omega, by omega, by omega, by omega, by first | omega | (split <;> omega), by omega, by omega, by omega⟩
theorem cut_73 {st rn y0 rd y1 kd rm : Int} (b0 : 0 ≤ st ∧ st ≤ 1) (b1 : 0 ≤ rn ∧ rn ≤ 15) (b2 : 0 ≤ y0 ∧ y0 ≤ 7) (b3 : 0 ≤ rd ∧ rd ≤ 15) (b4 : 0 ≤ y1 ∧ y1 ≤ 3) (b5 : 0 ≤ kd ∧ kd ≤ 3) (b6 : 0 ≤ rm ∧ rm ≤ 15) (w : Int) (hw : w = 3948937216 + (st * 1048576 + rn * 65536 + y0 * 4096 + rd * 256 + y1 * 64 + kd * 16 + rm)) : w / 256 % 16 = rd ∧ w / 65536 % 16 = rn ∧ w % 16 = rm ∧ w / 16 % 4 = kd ∧ w / 4096 % 8 = y0 ∧ w / 64 % 4 = y1 ∧ w / 1048576 % 2 = st := by
  have e1 : w / 65536 = 60256 + st * 16 + rn := by omega
  have e2 : w % 65536 = 0 + y0 * 4096 + rd * 256 + y1 * 64 + kd * 16 + rm := by omega
  rw [half_256_16 w, half_65536_16 w, half_1_16 w, half_16_4 w, half_4096_8 w, half_64_4 w, half_1048576_2 w, e1, e2]
  clear e1 e2 hw
  exact ⟨by omega, by omega, by omega, by omega, by omega, by omega, by omega⟩
theorem back_73 {f rd rn rm ra im kd bs st cd rg : Int} (hf : f = 73) (h : ((0 ≤ rd ∧ rd ≤ 12 ∨ rd = 14)) ∧ ((0 ≤ rn ∧ rn ≤ 12 ∨ rn = 14)) ∧ ((0 ≤ rm ∧ rm ≤ 12 ∨ rm = 14)) ∧ (ra = 0) ∧ (im = 0) ∧ (0 ≤ st ∧ st ≤ 1) ∧ (cd = 0) ∧ (rg = 0) ∧ ((kd = 0 ∧ 0 ≤ bs ∧ bs ≤ 31) ∨ ((kd = 1 ∨ kd = 2) ∧ 1 ≤ bs ∧ bs ≤ 32) ∨ (kd = 3 ∧ 1 ≤ bs ∧ bs ≤ 31))) (w : Int) (hw : w = 3948937216 + (st * 1048576 + rn * 65536 + bs / 4 % 8 * 4096 + rd * 256 + bs % 4 * 64 + kd * 16 + rm)) : rdOf f 21 w = rd ∧ rnOf f 21 w = rn ∧ rmOf f 21 w = rm ∧ raOf f 21 w = ra ∧ imOf f 21 w = im ∧ kdOf f 21 w = kd ∧ bsOf f 21 w = bs ∧ stOf f 21 w = st ∧ cdOf f 21 w = cd ∧ rgOf f 21 w = rg := by
  obtain ⟨h1, h2, h3, h4, h5, h6, h7, h8, h9⟩ := h
  obtain ⟨q0, q1, q2, q3, q4, q5, q6⟩ := cut_73 (y0 := bs / 4 % 8) (y1 := bs % 4) (by omega) (by omega) (by omega) (by omega) (by omega) (by omega) (by omega) w hw
  clear hw
  rw [rd_21, rn_21, rm_21, ra_21, im_21, kd_21, bs_21, st_21, cd_21, rg_21]
  rw [q0, q1, q2, q3, q4, q5, q6]
  clear q0 q1 q2 q3 q4 q5 q6
  exact ⟨by omega, by omega, by omega, by omega, by omega, by omega, by first | omega | (split <;> omega), by omega, by omega, by omega⟩
theorem cut_74 {st rn y0 rd y1 kd rm : Int} (b0 : 0 ≤ st ∧ st ≤ 1) (b1 : 0 ≤ rn ∧ rn ≤ 15) (b2 : 0 ≤ y0 ∧ y0 ≤ 7) (b3 : 0 ≤ rd ∧ rd ≤ 15) (b4 : 0 ≤ y1 ∧ y1 ≤ 3) (b5 : 0 ≤ kd ∧ kd ≤ 3) (b6 : 0 ≤ rm ∧ rm ≤ 15) (w : Int) (hw : w = 3953131520 + (st * 1048576 + rn * 65536 + y0 * 4096 + rd * 256 + y1 * 64 + kd * 16 + rm)) : w / 256 % 16 = rd ∧ w / 65536 % 16 = rn ∧ w % 16 = rm ∧ w / 16 % 4 = kd ∧ w / 4096 % 8 = y0 ∧ w / 64 % 4 = y1 ∧ w / 1048576 % 2 = st := by
  have e1 : w / 65536 = 60320 + st * 16 + rn := by omega
  have e2 : w % 65536 = 0 + y0 * 4096 + rd * 256 + y1 * 64 + kd * 16 + rm := by omega
  rw [half_256_16 w, half_65536_16 w, half_1_16 w, half_16_4 w, half_4096_8 w, half_64_4 w, half_1048576_2 w, e1, e2]
  clear e1 e2 hw
  exact ⟨by omega, by omega, by omega, by omega, by omega, by omega, by omega⟩
theorem back_74 {f rd rn rm ra im kd bs st cd rg : Int} (hf : f = 74) (h : ((0 ≤ rd ∧ rd ≤ 12 ∨ rd = 14)) ∧ ((0 ≤ rn ∧ rn ≤ 12 ∨ rn = 14)) ∧ ((0 ≤ rm ∧ rm ≤ 12 ∨ rm = 14)) ∧ (ra = 0) ∧ (im = 0) ∧ (0 ≤ st ∧ st ≤ 1) ∧ (cd = 0) ∧ (rg = 0) ∧ ((kd = 0 ∧ 0 ≤ bs ∧ bs ≤ 31) ∨ ((kd = 1 ∨ kd = 2) ∧ 1 ≤ bs ∧ bs ≤ 32) ∨ (kd = 3 ∧ 1 ≤ bs ∧ bs ≤ 31))) (w : Int) (hw : w = 3953131520 + (st * 1048576 + rn * 65536 + bs / 4 % 8 * 4096 + rd * 256 + bs % 4 * 64 + kd * 16 + rm)) : rdOf f 21 w = rd ∧ rnOf f 21 w = rn ∧ rmOf f 21 w = rm ∧ raOf f 21 w = ra ∧ imOf f 21 w = im ∧ kdOf f 21 w = kd ∧ bsOf f 21 w = bs ∧ stOf f 21 w = st ∧ cdOf f 21 w = cd ∧ rgOf f 21 w = rg := by
  obtain ⟨h1, h2, h3, h4, h5, h6, h7, h8, h9⟩ := h
  obtain ⟨q0, q1, q2, q3, q4, q5, q6⟩ := cut_74 (y0 := bs / 4 % 8) (y1 := bs % 4) (by omega) (by omega) (by omega) (by omega) (by omega) (by omega) (by omega) w hw
  clear hw
  rw [rd_21, rn_21, rm_21, ra_21, im_21, kd_21, bs_21, st_21, cd_21, rg_21]
  rw [q0, q1, q2, q3, q4, q5, q6]
  clear q0 q1 q2 q3 q4 q5 q6
  exact ⟨by omega, by omega, by omega, by omega, by omega, by omega, by first | omega | (split <;> omega), by omega, by omega, by omega⟩
theorem cut_75 {st rn y0 rd y1 kd rm : Int} (b0 : 0 ≤ st ∧ st ≤ 1) (b1 : 0 ≤ rn ∧ rn ≤ 15) (b2 : 0 ≤ y0 ∧ y0 ≤ 7) (b3 : 0 ≤ rd ∧ rd ≤ 15) (b4 : 0 ≤ y1 ∧ y1 ≤ 3) (b5 : 0 ≤ kd ∧ kd ≤ 3) (b6 : 0 ≤ rm ∧ rm ≤ 15) (w : Int) (hw : w = 3955228672 + (st * 1048576 + rn * 65536 + y0 * 4096 + rd * 256 + y1 * 64 + kd * 16 + rm)) : w / 256 % 16 = rd ∧ w / 65536 % 16 = rn ∧ w % 16 = rm ∧ w / 16 % 4 = kd ∧ w / 4096 % 8 = y0 ∧ w / 64 % 4 = y1 ∧ w / 1048576 % 2 = st := by
  have e1 : w / 65536 = 60352 + st * 16 + rn := by omega
  have e2 : w % 65536 = 0 + y0 * 4096 + rd * 256 + y1 * 64 + kd * 16 + rm := by omega
  rw [half_256_16 w, half_65536_16 w, half_1_16 w, half_16_4 w, half_4096_8 w, half_64_4 w, half_1048576_2 w, e1, e2]
  clear e1 e2 hw
  exact ⟨by omega, by omega, by omega, by omega, by omega, by omega, by omega⟩
theorem back_75 {f rd rn rm ra im kd bs st cd rg : Int} (hf : f = 75) (h : ((0 ≤ rd ∧ rd ≤ 12 ∨ rd = 14)) ∧ ((0 ≤ rn ∧ rn ≤ 12 ∨ rn = 14)) ∧ ((0 ≤ rm ∧ rm ≤ 12 ∨ rm = 14)) ∧ (ra = 0) ∧ (im = 0) ∧ (0 ≤ st ∧ st ≤ 1) ∧ (cd = 0) ∧ (rg = 0) ∧ ((kd = 0 ∧ 0 ≤ bs ∧ bs ≤ 31) ∨ ((kd = 1 ∨ kd = 2) ∧ 1 ≤ bs ∧ bs ≤ 32) ∨ (kd = 3 ∧ 1 ≤ bs ∧ bs ≤ 31))) (w : Int) (hw : w = 3955228672 + (st * 1048576 + rn * 65536 + bs / 4 % 8 * 4096 + rd * 256 + bs % 4 * 64 + kd * 16 + rm)) : rdOf f 21 w = rd ∧ rnOf f 21 w = rn ∧ rmOf f 21 w = rm ∧ raOf f 21 w = ra ∧ imOf f 21 w = im ∧ kdOf f 21 w = kd ∧ bsOf f 21 w = bs ∧ stOf f 21 w = st ∧ cdOf f 21 w = cd ∧ rgOf f 21 w = rg := by
  obtain ⟨h1, h2, h3, h4, h5, h6, h7, h8, h9⟩ := h
  obtain ⟨q0, q1, q2, q3, q4, q5, q6⟩ := cut_75 (y0 := bs / 4 % 8) (y1 := bs % 4) (by omega) (by omega) (by omega) (by omega) (by omega) (by omega) (by omega) w hw
  clear hw
  rw [rd_21, rn_21, rm_21, ra_21, im_21, kd_21, bs_21, st_21, cd_21, rg_21]
  rw [q0, q1, q2, q3, q4, q5, q6]
  clear q0 q1 q2 q3 q4 q5 q6
  exact ⟨by omega, by omega, by omega, by omega, by omega, by omega, by first | omega | (split <;> omega), by omega, by omega, by omega⟩
theorem cut_76 {st rn y0 rd y1 kd rm : Int} (b0 : 0 ≤ st ∧ st ≤ 1) (b1 : 0 ≤ rn ∧ rn ≤ 0) (b2 : 0 ≤ y0 ∧ y0 ≤ 7) (b3 : 0 ≤ rd ∧ rd ≤ 15) (b4 : 0 ≤ y1 ∧ y1 ≤ 3) (b5 : 0 ≤ kd ∧ kd ≤ 3) (b6 : 0 ≤ rm ∧ rm ≤ 15) (w : Int) (hw : w = 3931045888 + (st * 1048576 + rn * 65536 + y0 * 4096 + rd * 256 + y1 * 64 + kd * 16 + rm)) : w / 256 % 16 = rd ∧ w % 16 = rm ∧ w / 16 % 4 = kd ∧ w / 4096 % 8 = y0 ∧ w / 64 % 4 = y1 ∧ w / 1048576 % 2 = st := by
  have e1 : w / 65536 = 59983 + st * 16 + rn := by omega
  have e2 : w % 65536 = 0 + y0 * 4096 + rd * 256 + y1 * 64 + kd * 16 + rm := by omega
  rw [half_256_16 w, half_1_16 w, half_16_4 w, half_4096_8 w, half_64_4 w, half_1048576_2 w, e1, e2]
  clear e1 e2 hw
  exact ⟨by omega, by omega, by omega, by omega, by omega, by omega⟩
theorem back_76 {f rd rn rm ra im kd bs st cd rg : Int} (hf : f = 76) (h : ((0 ≤ rd ∧ rd ≤ 12 ∨ rd = 14)) ∧ (rn = 0) ∧ ((0 ≤ rm ∧ rm ≤ 12 ∨ rm = 14)) ∧ (ra = 0) ∧ (im = 0) ∧ (0 ≤ st ∧ st ≤ 1) ∧ (cd = 0) ∧ (rg = 0) ∧ ((kd = 0 ∧ 0 ≤ bs ∧ bs ≤ 31) ∨ ((kd = 1 ∨ kd = 2) ∧ 1 ≤ bs ∧ bs ≤ 32) ∨ (kd = 3 ∧ 1 ≤ bs ∧ bs ≤ 31))) (w : Int) (hw : w = 3931045888 + (st * 1048576 + rn * 65536 + bs / 4 % 8 * 4096 + rd * 256 + bs % 4 * 64 + kd * 16 + rm)) : rdOf f 22 w = rd ∧ rnOf f 22 w = rn ∧ rmOf f 22 w = rm ∧ raOf f 22 w = ra ∧ imOf f 22 w = im ∧ kdOf f 22 w = kd ∧ bsOf f 22 w = bs ∧ stOf f 22 w = st ∧ cdOf f 22 w = cd ∧ rgOf f 22 w = rg := by
  obtain ⟨h1, h2, h3, h4, h5, h6, h7, h8, h9⟩ := h
  obtain ⟨q0, q1, q2, q3, q4, q5⟩ := cut_76 (y0 := bs / 4 % 8) (y1 := bs % 4) (by omega) (by omega) (by omega) (by omega) (by omega) (by omega) (by omega) w hw
  clear hw
  rw [rd_22, rn_22, rm_22, ra_22, im_22, kd_22, bs_22, st_22, cd_22, rg_22]
  rw [q0, q1, q2, q3, q4, q5]
  clear q0 q1 q2 q3 q4 q5
  exact ⟨by omega, by omega, by omega, by omega, by omega, by omega, by first | omega | (split <;> omega), by omega, by omega, by omega⟩
theorem cut_77 {st rn y0 rd y1 kd rm : Int} (b0 : 0 ≤ st ∧ st ≤ 1) (b1 : 0 ≤ rn ∧ rn ≤ 0) (b2 : 0 ≤ y0 ∧ y0 ≤ 7) (b3 : 0 ≤ rd ∧ rd ≤ 15) (b4 : 0 ≤ y1 ∧ y1 ≤ 3) (b5 : 0 ≤ kd ∧ kd ≤ 3) (b6 : 0 ≤ rm ∧ rm ≤ 15) (w : Int) (hw : w = 3933143040 + (st * 1048576 + rn * 65536 + y0 * 4096 + rd * 256 + y1 * 64 + kd * 16 + rm)) : w / 256 % 16 = rd ∧ w % 16 = rm ∧ w / 16 % 4 = kd ∧ w / 4096 % 8 = y0 ∧ w / 64 % 4 = y1 ∧ w / 1048576 % 2 = st := by
  have e1 : w / 65536 = 60015 + st * 16 + rn := by omega
  have e2 : w % 65536 = 0 + y0 * 4096 + rd * 256 + y1 * 64 + kd * 16 + rm := by omega
  rw [half_256_16 w, half_1_16 w, half_16_4 w, half_4096_8 w, half_64_4 w, half_1048576_2 w, e1, e2]
  clear e1 e2 hw
  exact ⟨by omega, by omega, by omega, by omega, by omega, by omega⟩
theorem back_77 {f rd rn rm ra im kd bs st cd rg : Int} (hf : f = 77) (h : ((0 ≤ rd ∧ rd ≤ 12 ∨ rd = 14)) ∧ (rn = 0) ∧ ((0 ≤ rm ∧ rm ≤ 12 ∨ rm = 14)) ∧ (ra = 0) ∧ (im = 0) ∧ (0 ≤ st ∧ st ≤ 1) ∧ (cd = 0) ∧ (rg = 0) ∧ ((kd = 0 ∧ 0 ≤ bs ∧ bs ≤ 31) ∨ ((kd = 1 ∨ kd = 2) ∧ 1 ≤ bs ∧ bs ≤ 32) ∨ (kd = 3 ∧ 1 ≤ bs ∧ bs ≤ 31))) (w : Int) (hw : w = 3933143040 + (st * 1048576 + rn * 65536 + bs / 4 % 8 * 4096 + rd * 256 + bs % 4 * 64 + kd * 16 + rm)) : rdOf f 22 w = rd ∧ rnOf f 22 w = rn ∧ rmOf f 22 w = rm ∧ raOf f 22 w = ra ∧ imOf f 22 w = im ∧ kdOf f 22 w = kd ∧ bsOf f 22 w = bs ∧ stOf f 22 w = st ∧ cdOf f 22 w = cd ∧ rgOf f 22 w = rg := by
  obtain ⟨h1, h2, h3, h4, h5, h6, h7, h8, h9⟩ := h
  obtain ⟨q0, q1, q2, q3, q4, q5⟩ := cut_77 (y0 := bs / 4 % 8) (y1 := bs % 4) (by omega) (by omega) (by omega) (by omega) (by omega) (by omega) (by omega) w hw
  clear hw
  rw [rd_22, rn_22, rm_22, ra_22, im_22, kd_22, bs_22, st_22, cd_22, rg_22]
  rw [q0, q1, q2, q3, q4, q5]
  clear q0 q1 q2 q3 q4 q5
  exact ⟨by omega, by omega, by omega, by omega, by omega, by omega, by first | omega | (split <;> omega), by omega, by omega, by omega⟩
theorem cut_78 {st rn y0 rd y1 kd rm : Int} (b0 : 0 ≤ st ∧ st ≤ 0) (b1 : 0 ≤ rn ∧ rn ≤ 15) (b2 : 0 ≤ y0 ∧ y0 ≤ 7) (b3 : 0 ≤ rd ∧ rd ≤ 0) (b4 : 0 ≤ y1 ∧ y1 ≤ 3) (b5 : 0 ≤ kd ∧ kd ≤ 3) (b6 : 0 ≤ rm ∧ rm ≤ 15) (w : Int) (hw : w = 3926920960 + (st * 1048576 + rn * 65536 + y0 * 4096 + rd * 256 + y1 * 64 + kd * 16 + rm)) : w / 65536 % 16 = rn ∧ w % 16 = rm ∧ w / 16 % 4 = kd ∧ w / 4096 % 8 = y0 ∧ w / 64 % 4 = y1 := by
  have e1 : w / 65536 = 59920 + st * 16 + rn := by omega
  have e2 : w % 65536 = 3840 + y0 * 4096 + rd * 256 + y1 * 64 + kd * 16 + rm := by omega
  rw [half_65536_16 w, half_1_16 w, half_16_4 w, half_4096_8 w, half_64_4 w, e1, e2]
  clear e1 e2 hw
  exact ⟨by omega, by omega, by omega, by omega, by omega⟩
theorem back_78 {f rd rn rm ra im kd bs st cd rg : Int} (hf : f = 78) (h : (rd = 0) ∧ ((0 ≤ rn ∧ rn ≤ 12 ∨ rn = 14)) ∧ ((0 ≤ rm ∧ rm ≤ 12 ∨ rm = 14)) ∧ (ra = 0) ∧ (im = 0) ∧ (st = 0) ∧ (cd = 0) ∧ (rg = 0) ∧ ((kd = 0 ∧ 0 ≤ bs ∧ bs ≤ 31) ∨ ((kd = 1 ∨ kd = 2) ∧ 1 ≤ bs ∧ bs ≤ 32) ∨ (kd = 3 ∧ 1 ≤ bs ∧ bs ≤ 31))) (w : Int) (hw : w = 3926920960 + (st * 1048576 + rn * 65536 + bs / 4 % 8 * 4096 + rd * 256 + bs % 4 * 64 + kd * 16 + rm)) : rdOf f 23 w = rd ∧ rnOf f 23 w = rn ∧ rmOf f 23 w = rm ∧ raOf f 23 w = ra ∧ imOf f 23 w = im ∧ kdOf f 23 w = kd ∧ bsOf f 23 w = bs ∧ stOf f 23 w = st ∧ cdOf f 23 w = cd ∧ rgOf f 23 w = rg := by
  obtain ⟨h1, h2, h3, h4, h5, h6, h7, h8, h9⟩ := h
  obtain ⟨q0, q1, q2, q3, q4⟩ := cut_78 (y0 := bs / 4 % 8) (y1 := bs % 4) (by omega) (by omega) (by omega) (by omega) (by omega) (by omega) (by omega) w hw
  clear hw
  rw [rd_23, rn_23, rm_23, ra_23, im_23, kd_23, bs_23, st_23, cd_23, rg_23]
  rw [q0, q1, q2, q3, q4]
  clear q0 q1 q2 q3 q4
  exact ⟨by omega, by omega, by omega, by omega, by omega, by omega, by first | omega | (split <;> omega), by omega, by omega, by omega⟩
theorem cut_79 {st rn y0 rd y1 kd rm : Int} (b0 : 0 ≤ st ∧ st ≤ 0) (b1 : 0 ≤ rn ∧ rn ≤ 15) (b2 : 0 ≤ y0 ∧ y0 ≤ 7) (b3 : 0 ≤ rd ∧ rd ≤ 0) (b4 : 0 ≤ y1 ∧ y1 ≤ 3) (b5 : 0 ≤ kd ∧ kd ≤ 3) (b6 : 0 ≤ rm ∧ rm ≤ 15) (w : Int) (hw : w = 3935309568 + (st * 1048576 + rn * 65536 + y0 * 4096 + rd * 256 + y1 * 64 + kd * 16 + rm)) : w / 65536 % 16 = rn ∧ w % 16 = rm ∧ w / 16 % 4 = kd ∧ w / 4096 % 8 = y0 ∧ w / 64 % 4 = y1 := by
  have e1 : w / 65536 = 60048 + st * 16 + rn := by omega
  have e2 : w % 65536 = 3840 + y0 * 4096 + rd * 256 + y1 * 64 + kd * 16 + rm := by omega
  rw [half_65536_16 w, half_1_16 w, half_16_4 w, half_4096_8 w, half_64_4 w, e1, e2]
  clear e1 e2 hw
  exact ⟨by omega, by omega, by omega, by omega, by omega⟩
theorem back_79 {f rd rn rm ra im kd bs st cd rg : Int} (hf : f = 79) (h : (rd = 0) ∧ ((0 ≤ rn ∧ rn ≤ 12 ∨ rn = 14)) ∧ ((0 ≤ rm ∧ rm ≤ 12 ∨ rm = 14)) ∧ (ra = 0) ∧ (im = 0) ∧ (st = 0) ∧ (cd = 0) ∧ (rg = 0) ∧ ((kd = 0 ∧ 0 ≤ bs ∧ bs ≤ 31) ∨ ((kd = 1 ∨ kd = 2) ∧ 1 ≤ bs ∧ bs ≤ 32) ∨ (kd = 3 ∧ 1 ≤ bs ∧ bs ≤ 31))) (w : Int) (hw : w = 3935309568 + (st * 1048576 + rn * 65536 + bs / 4 % 8 * 4096 + rd * 256 + bs % 4 * 64 + kd * 16 + rm)) : rdOf f 23 w = rd ∧ rnOf f 23 w = rn ∧ rmOf f 23 w = rm ∧ raOf f 23 w = ra ∧ imOf f 23 w = im ∧ kdOf f 23 w = kd ∧ bsOf f 23 w = bs ∧ stOf f 23 w = st ∧ cdOf f 23 w = cd ∧ rgOf f 23 w = rg := by
  obtain ⟨h1, h2, h3, h4, h5, h6, h7, h8, h9⟩ := h
  obtain ⟨q0, q1, q2, q3, q4⟩ := cut_79 (y0 := bs / 4 % 8) (y1 := bs % 4) (by omega) (by omega) (by omega) (by omega) (by omega) (by omega) (by omega) w hw
  clear hw
  rw [rd_23, rn_23, rm_23, ra_23, im_23, kd_23, bs_23, st_23, cd_23, rg_23]
  rw [q0, q1, q2, q3, q4]
  clear q0 q1 q2 q3 q4
  exact ⟨by omega, by omega, by omega, by omega, by omega, by omega, by first | omega | (split <;> omega), by omega, by omega, by omega⟩
theorem cut_80 {st rn y0 rd y1 kd rm : Int} (b0 : 0 ≤ st ∧ st ≤ 0) (b1 : 0 ≤ rn ∧ rn ≤ 15) (b2 : 0 ≤ y0 ∧ y0 ≤ 7) (b3 : 0 ≤ rd ∧ rd ≤ 0) (b4 : 0 ≤ y1 ∧ y1 ≤ 3) (b5 : 0 ≤ kd ∧ kd ≤ 3) (b6 : 0 ≤ rm ∧ rm ≤ 15) (w : Int) (hw : w = 3943698176 + (st * 1048576 + rn * 65536 + y0 * 4096 + rd * 256 + y1 * 64 + kd * 16 + rm)) : w / 65536 % 16 = rn ∧ w % 16 = rm ∧ w / 16 % 4 = kd ∧ w / 4096 % 8 = y0 ∧ w / 64 % 4 = y1 := by
  have e1 : w / 65536 = 60176 + st * 16 + rn := by omega
  have e2 : w % 65536 = 3840 + y0 * 4096 + rd * 256 + y1 * 64 + kd * 16 + rm := by omega
  rw [half_65536_16 w, half_1_16 w, half_16_4 w, half_4096_8 w, half_64_4 w, e1, e2]
  clear e1 e2 hw
  exact ⟨by omega, by omega, by omega, by omega, by omega⟩
theorem back_80 {f rd rn rm ra im kd bs st cd rg : Int} (hf : f = 80) (h : (rd = 0) ∧ ((0 ≤ rn ∧ rn ≤ 12 ∨ rn = 14)) ∧ ((0 ≤ rm ∧ rm ≤ 12 ∨ rm = 14)) ∧ (ra = 0) ∧ (im = 0) ∧ (st = 0) ∧ (cd = 0) ∧ (rg = 0) ∧ ((kd = 0 ∧ 0 ≤ bs ∧ bs ≤ 31) ∨ ((kd = 1 ∨ kd = 2) ∧ 1 ≤ bs ∧ bs ≤ 32) ∨ (kd = 3 ∧ 1 ≤ bs ∧ bs ≤ 31))) (w : Int) (hw : w = 3943698176 + (st * 1048576 + rn * 65536 + bs / 4 % 8 * 4096 + rd * 256 + bs % 4 * 64 + kd * 16 + rm)) : rdOf f 23 w = rd ∧ rnOf f 23 w = rn ∧ rmOf f 23 w = rm ∧ raOf f 23 w = ra ∧ imOf f 23 w = im ∧ kdOf f 23 w = kd ∧ bsOf f 23 w = bs ∧ stOf f 23 w = st ∧ cdOf f 23 w = cd ∧ rgOf f 23 w = rg := by
  obtain ⟨h1, h2, h3, h4, h5, h6, h7, h8, h9⟩ := h
  obtain ⟨q0, q1, q2, q3, q4⟩ := cut_80 (y0 := bs / 4 % 8) (y1 := bs % 4) (by omega) (by omega) (by omega) (by omega) (by omega) (by omega) (by omega) w hw
  clear hw
  rw [rd_23, rn_23, rm_23, ra_23, im_23, kd_23, bs_23, st_23, cd_23, rg_23]
  rw [q0, q1, q2, q3, q4]
  clear q0 q1 q2 q3 q4
  exact ⟨by omega, by omega, by omega, by omega, by omega, by omega, by first | omega | (split <;> omega), by omega, by omega, by omega⟩
theorem cut_81 {st rn y0 rd y1 kd rm : Int} (b0 : 0 ≤ st ∧ st ≤ 0) (b1 : 0 ≤ rn ∧ rn ≤ 15) (b2 : 0 ≤ y0 ∧ y0 ≤ 7) (b3 : 0 ≤ rd ∧ rd ≤ 0) (b4 : 0 ≤ y1 ∧ y1 ≤ 3) (b5 : 0 ≤ kd ∧ kd ≤ 3) (b6 : 0 ≤ rm ∧ rm ≤ 15) (w : Int) (hw : w = 3954183936 + (st * 1048576 + rn * 65536 + y0 * 4096 + rd * 256 + y1 * 64 + kd * 16 + rm)) : w / 65536 % 16 = rn ∧ w % 16 = rm ∧ w / 16 % 4 = kd ∧ w / 4096 % 8 = y0 ∧ w / 64 % 4 = y1 := by
  have e1 : w / 65536 = 60336 + st * 16 + rn := by omega
  have e2 : w % 65536 = 3840 + y0 * 4096 + rd * 256 + y1 * 64 + kd * 16 + rm := by omega
  rw [half_65536_16 w, half_1_16 w, half_16_4 w, half_4096_8 w, half_64_4 w, e1, e2]
  clear e1 e2 hw
  exact ⟨by omega, by omega, by omega, by omega, by omega⟩
theorem back_81 {f rd rn rm ra im kd bs st cd rg : Int} (hf : f = 81) (h : (rd = 0) ∧ ((0 ≤ rn ∧ rn ≤ 12 ∨ rn = 14)) ∧ ((0 ≤ rm ∧ rm ≤ 12 ∨ rm = 14)) ∧ (ra = 0) ∧ (im = 0) ∧ (st = 0) ∧ (cd = 0) ∧ (rg = 0) ∧ ((kd = 0 ∧ 0 ≤ bs ∧ bs ≤ 31) ∨ ((kd = 1 ∨ kd = 2) ∧ 1 ≤ bs ∧ bs ≤ 32) ∨ (kd = 3 ∧ 1 ≤ bs ∧ bs ≤ 31))) (w : Int) (hw : w = 3954183936 + (st * 1048576 + rn * 65536 + bs / 4 % 8 * 4096 + rd * 256 + bs % 4 * 64 + kd * 16 + rm)) : rdOf f 23 w = rd ∧ rnOf f 23 w = rn ∧ rmOf f 23 w = rm ∧ raOf f 23 w = ra ∧ imOf f 23 w = im ∧ kdOf f 23 w = kd ∧ bsOf f 23 w = bs ∧ stOf f 23 w = st ∧ cdOf f 23 w = cd ∧ rgOf f 23 w = rg := by
  obtain ⟨h1, h2, h3, h4, h5, h6, h7, h8, h9⟩ := h
  obtain ⟨q0, q1, q2, q3, q4⟩ := cut_81 (y0 := bs / 4 % 8) (y1 := bs % 4) (by omega) (by omega) (by omega) (by omega) (by omega) (by omega) (by omega) w hw
  clear hw
  rw [rd_23, rn_23, rm_23, ra_23, im_23, kd_23, bs_23, st_23, cd_23, rg_23]
  rw [q0, q1, q2, q3, q4]
  clear q0 q1 q2 q3 q4
  exact ⟨by omega, by omega, by omega, by omega, by omega, by omega, by first | omega | (split <;> omega), by omega, by omega, by omega⟩

end Go.Proofs.YtpgcnbipnjcniaaDoor.Code
