/- Fields out of words: forms 48 to 65. -/
import Derived.Test.YtpgcnbipnjcniaaDoorCodeRead
set_option linter.unusedVariables false
set_option linter.unusedSimpArgs false
namespace Go.Proofs.YtpgcnbipnjcniaaDoor.Code
open Go.Proofs.YtpgcnbipnjcniaaDoor.Alu Go.Proofs.YtpgcnbipnjcniaaDoor.Imm Go.Proofs.YtpgcnbipnjcniaaDoor.Inst

theorem cut_48 {y0 y1 y2 rd y3 : Int} (b0 : 0 ≤ y0 ∧ y0 ≤ 1) (b1 : 0 ≤ y1 ∧ y1 ≤ 15) (b2 : 0 ≤ y2 ∧ y2 ≤ 7) (b3 : 0 ≤ rd ∧ rd ≤ 15) (b4 : 0 ≤ y3 ∧ y3 ≤ 255) (w : Int) (hw : w = 4064280576 + (y0 * 67108864 + y1 * 65536 + y2 * 4096 + rd * 256 + y3)) : w / 256 % 16 = rd ∧ w / 67108864 % 2 = y0 ∧ w / 65536 % 16 = y1 ∧ w / 4096 % 8 = y2 ∧ w % 256 = y3 := by
  have e1 : w / 65536 = 62016 + y0 * 1024 + y1 := by omega
  have e2 : w % 65536 = 0 + y2 * 4096 + rd * 256 + y3 := by omega
  rw [half_256_16 w, half_67108864_2 w, half_65536_16 w, half_4096_8 w, half_1_256 w, e1, e2]
  clear e1 e2 hw
  exact ⟨by omega, by omega, by omega, by omega, by omega⟩
theorem back_48 {f rd rn rm ra im kd bs st cd rg : Int} (hf : f = 48) (h : ((0 ≤ rd ∧ rd ≤ 12 ∨ rd = 14)) ∧ (rn = 0) ∧ (rm = 0) ∧ (ra = 0) ∧ (0 ≤ im ∧ im ≤ 65535) ∧ (kd = 0) ∧ (bs = 0) ∧ (st = 0) ∧ (cd = 0) ∧ (rg = 0)) (w : Int) (hw : w = 4064280576 + (im / 2048 % 2 * 67108864 + im / 4096 * 65536 + im / 256 % 8 * 4096 + rd * 256 + im % 256)) : rdOf f 17 w = rd ∧ rnOf f 17 w = rn ∧ rmOf f 17 w = rm ∧ raOf f 17 w = ra ∧ imOf f 17 w = im ∧ kdOf f 17 w = kd ∧ bsOf f 17 w = bs ∧ stOf f 17 w = st ∧ cdOf f 17 w = cd ∧ rgOf f 17 w = rg := by
  obtain ⟨h1, h2, h3, h4, h5, h6, h7, h8, h9, h10⟩ := h
  obtain ⟨q0, q1, q2, q3, q4⟩ := cut_48 (y0 := im / 2048 % 2) (y1 := im / 4096) (y2 := im / 256 % 8) (y3 := im % 256) (by omega) (by omega) (by omega) (by omega) (by omega) w hw
  clear hw
  rw [rd_17, rn_17, rm_17, ra_17, im_17, kd_17, bs_17, st_17, cd_17, rg_17]
  rw [q0, q1, q2, q3, q4]
  clear q0 q1 q2 q3 q4
  exact ⟨by omega, by omega, by omega, by omega, by omega, by omega, by omega, by omega, by omega, by omega⟩
theorem cut_49 {y0 y1 y2 rd y3 : Int} (b0 : 0 ≤ y0 ∧ y0 ≤ 1) (b1 : 0 ≤ y1 ∧ y1 ≤ 15) (b2 : 0 ≤ y2 ∧ y2 ≤ 7) (b3 : 0 ≤ rd ∧ rd ≤ 15) (b4 : 0 ≤ y3 ∧ y3 ≤ 255) (w : Int) (hw : w = 4072669184 + (y0 * 67108864 + y1 * 65536 + y2 * 4096 + rd * 256 + y3)) : w / 256 % 16 = rd ∧ w / 67108864 % 2 = y0 ∧ w / 65536 % 16 = y1 ∧ w / 4096 % 8 = y2 ∧ w % 256 = y3 := by
  have e1 : w / 65536 = 62144 + y0 * 1024 + y1 := by omega
  have e2 : w % 65536 = 0 + y2 * 4096 + rd * 256 + y3 := by omega
  rw [half_256_16 w, half_67108864_2 w, half_65536_16 w, half_4096_8 w, half_1_256 w, e1, e2]
  clear e1 e2 hw
  exact ⟨by omega, by omega, by omega, by omega, by omega⟩
theorem back_49 {f rd rn rm ra im kd bs st cd rg : Int} (hf : f = 49) (h : ((0 ≤ rd ∧ rd ≤ 12 ∨ rd = 14)) ∧ (rn = 0) ∧ (rm = 0) ∧ (ra = 0) ∧ (0 ≤ im ∧ im ≤ 65535) ∧ (kd = 0) ∧ (bs = 0) ∧ (st = 0) ∧ (cd = 0) ∧ (rg = 0)) (w : Int) (hw : w = 4072669184 + (im / 2048 % 2 * 67108864 + im / 4096 * 65536 + im / 256 % 8 * 4096 + rd * 256 + im % 256)) : rdOf f 17 w = rd ∧ rnOf f 17 w = rn ∧ rmOf f 17 w = rm ∧ raOf f 17 w = ra ∧ imOf f 17 w = im ∧ kdOf f 17 w = kd ∧ bsOf f 17 w = bs ∧ stOf f 17 w = st ∧ cdOf f 17 w = cd ∧ rgOf f 17 w = rg := by
  obtain ⟨h1, h2, h3, h4, h5, h6, h7, h8, h9, h10⟩ := h
  obtain ⟨q0, q1, q2, q3, q4⟩ := cut_49 (y0 := im / 2048 % 2) (y1 := im / 4096) (y2 := im / 256 % 8) (y3 := im % 256) (by omega) (by omega) (by omega) (by omega) (by omega) w hw
  clear hw
  rw [rd_17, rn_17, rm_17, ra_17, im_17, kd_17, bs_17, st_17, cd_17, rg_17]
  rw [q0, q1, q2, q3, q4]
  clear q0 q1 q2 q3 q4
  exact ⟨by omega, by omega, by omega, by omega, by omega, by omega, by omega, by omega, by omega, by omega⟩
theorem cut_50 {y0 st rn y1 rd y2 : Int} (b0 : 0 ≤ y0 ∧ y0 ≤ 1) (b1 : 0 ≤ st ∧ st ≤ 1) (b2 : 0 ≤ rn ∧ rn ≤ 15) (b3 : 0 ≤ y1 ∧ y1 ≤ 7) (b4 : 0 ≤ rd ∧ rd ≤ 15) (b5 : 0 ≤ y2 ∧ y2 ≤ 255) (w : Int) (hw : w = 4026531840 + (y0 * 67108864 + st * 1048576 + rn * 65536 + y1 * 4096 + rd * 256 + y2)) : w / 256 % 16 = rd ∧ w / 65536 % 16 = rn ∧ w / 67108864 % 2 = y0 ∧ w / 4096 % 8 = y1 ∧ w % 256 = y2 ∧ w / 1048576 % 2 = st := by
  have e1 : w / 65536 = 61440 + y0 * 1024 + st * 16 + rn := by omega
  have e2 : w % 65536 = 0 + y1 * 4096 + rd * 256 + y2 := by omega
  rw [half_256_16 w, half_65536_16 w, half_67108864_2 w, half_4096_8 w, half_1_256 w, half_1048576_2 w, e1, e2]
  clear e1 e2 hw
  exact ⟨by omega, by omega, by omega, by omega, by omega, by omega⟩
theorem back_50 {f rd rn rm ra im kd bs st cd rg : Int} (hf : f = 50) (h : ((0 ≤ rd ∧ rd ≤ 12 ∨ rd = 14)) ∧ ((0 ≤ rn ∧ rn ≤ 12 ∨ rn = 14)) ∧ (rm = 0) ∧ (ra = 0) ∧ (0 ≤ im ∧ im ≤ 4095) ∧ (kd = 0) ∧ (bs = 0) ∧ (0 ≤ st ∧ st ≤ 1) ∧ (cd = 0) ∧ (rg = 0)) (w : Int) (hw : w = 4026531840 + (im / 2048 * 67108864 + st * 1048576 + rn * 65536 + im / 256 % 8 * 4096 + rd * 256 + im % 256)) : rdOf f 18 w = rd ∧ rnOf f 18 w = rn ∧ rmOf f 18 w = rm ∧ raOf f 18 w = ra ∧ imOf f 18 w = im ∧ kdOf f 18 w = kd ∧ bsOf f 18 w = bs ∧ stOf f 18 w = st ∧ cdOf f 18 w = cd ∧ rgOf f 18 w = rg := by
  obtain ⟨h1, h2, h3, h4, h5, h6, h7, h8, h9, h10⟩ := h
  obtain ⟨q0, q1, q2, q3, q4, q5⟩ := cut_50 (y0 := im / 2048) (y1 := im / 256 % 8) (y2 := im % 256) (by omega) (by omega) (by omega) (by omega) (by omega) (by omega) w hw
  clear hw
  rw [rd_18, rn_18, rm_18, ra_18, im_18, kd_18, bs_18, st_18, cd_18, rg_18]
  rw [q0, q1, q2, q3, q4, q5]
  clear q0 q1 q2 q3 q4 q5
  exact ⟨by omega, by omega, by omega, by omega, by omega, by omega, by omega, by omega, by omega, by omega⟩
theorem cut_51 {y0 st rn y1 rd y2 : Int} (b0 : 0 ≤ y0 ∧ y0 ≤ 1) (b1 : 0 ≤ st ∧ st ≤ 1) (b2 : 0 ≤ rn ∧ rn ≤ 15) (b3 : 0 ≤ y1 ∧ y1 ≤ 7) (b4 : 0 ≤ rd ∧ rd ≤ 15) (b5 : 0 ≤ y2 ∧ y2 ≤ 255) (w : Int) (hw : w = 4028628992 + (y0 * 67108864 + st * 1048576 + rn * 65536 + y1 * 4096 + rd * 256 + y2)) : w / 256 % 16 = rd ∧ w / 65536 % 16 = rn ∧ w / 67108864 % 2 = y0 ∧ w / 4096 % 8 = y1 ∧ w % 256 = y2 ∧ w / 1048576 % 2 = st := by
  have e1 : w / 65536 = 61472 + y0 * 1024 + st * 16 + rn := by omega
  have e2 : w % 65536 = 0 + y1 * 4096 + rd * 256 + y2 := by omega
  rw [half_256_16 w, half_65536_16 w, half_67108864_2 w, half_4096_8 w, half_1_256 w, half_1048576_2 w, e1, e2]
  clear e1 e2 hw
  exact ⟨by omega, by omega, by omega, by omega, by omega, by omega⟩
theorem back_51 {f rd rn rm ra im kd bs st cd rg : Int} (hf : f = 51) (h : ((0 ≤ rd ∧ rd ≤ 12 ∨ rd = 14)) ∧ ((0 ≤ rn ∧ rn ≤ 12 ∨ rn = 14)) ∧ (rm = 0) ∧ (ra = 0) ∧ (0 ≤ im ∧ im ≤ 4095) ∧ (kd = 0) ∧ (bs = 0) ∧ (0 ≤ st ∧ st ≤ 1) ∧ (cd = 0) ∧ (rg = 0)) (w : Int) (hw : w = 4028628992 + (im / 2048 * 67108864 + st * 1048576 + rn * 65536 + im / 256 % 8 * 4096 + rd * 256 + im % 256)) : rdOf f 18 w = rd ∧ rnOf f 18 w = rn ∧ rmOf f 18 w = rm ∧ raOf f 18 w = ra ∧ imOf f 18 w = im ∧ kdOf f 18 w = kd ∧ bsOf f 18 w = bs ∧ stOf f 18 w = st ∧ cdOf f 18 w = cd ∧ rgOf f 18 w = rg := by
  obtain ⟨h1, h2, h3, h4, h5, h6, h7, h8, h9, h10⟩ := h
  obtain ⟨q0, q1, q2, q3, q4, q5⟩ := cut_51 (y0 := im / 2048) (y1 := im / 256 % 8) (y2 := im % 256) (by omega) (by omega) (by omega) (by omega) (by omega) (by omega) w hw
  clear hw
  rw [rd_18, rn_18, rm_18, ra_18, im_18, kd_18, bs_18, st_18, cd_18, rg_18]
  rw [q0, q1, q2, q3, q4, q5]
  clear q0 q1 q2 q3 q4 q5
  exact ⟨by omega, by omega, by omega, by omega, by omega, by omega, by omega, by omega, by omega, by omega⟩
theorem cut_52 {y0 st rn y1 rd y2 : Int} (b0 : 0 ≤ y0 ∧ y0 ≤ 1) (b1 : 0 ≤ st ∧ st ≤ 1) (b2 : 0 ≤ rn ∧ rn ≤ 15) (b3 : 0 ≤ y1 ∧ y1 ≤ 7) (b4 : 0 ≤ rd ∧ rd ≤ 15) (b5 : 0 ≤ y2 ∧ y2 ≤ 255) (w : Int) (hw : w = 4030726144 + (y0 * 67108864 + st * 1048576 + rn * 65536 + y1 * 4096 + rd * 256 + y2)) : w / 256 % 16 = rd ∧ w / 65536 % 16 = rn ∧ w / 67108864 % 2 = y0 ∧ w / 4096 % 8 = y1 ∧ w % 256 = y2 ∧ w / 1048576 % 2 = st := by
  have e1 : w / 65536 = 61504 + y0 * 1024 + st * 16 + rn := by omega
  have e2 : w % 65536 = 0 + y1 * 4096 + rd * 256 + y2 := by omega
  rw [half_256_16 w, half_65536_16 w, half_67108864_2 w, half_4096_8 w, half_1_256 w, half_1048576_2 w, e1, e2]
  clear e1 e2 hw
  exact ⟨by omega, by omega, by omega, by omega, by omega, by omega⟩
theorem back_52 {f rd rn rm ra im kd bs st cd rg : Int} (hf : f = 52) (h : ((0 ≤ rd ∧ rd ≤ 12 ∨ rd = 14)) ∧ ((0 ≤ rn ∧ rn ≤ 12 ∨ rn = 14)) ∧ (rm = 0) ∧ (ra = 0) ∧ (0 ≤ im ∧ im ≤ 4095) ∧ (kd = 0) ∧ (bs = 0) ∧ (0 ≤ st ∧ st ≤ 1) ∧ (cd = 0) ∧ (rg = 0)) (w : Int) (hw : w = 4030726144 + (im / 2048 * 67108864 + st * 1048576 + rn * 65536 + im / 256 % 8 * 4096 + rd * 256 + im % 256)) : rdOf f 18 w = rd ∧ rnOf f 18 w = rn ∧ rmOf f 18 w = rm ∧ raOf f 18 w = ra ∧ imOf f 18 w = im ∧ kdOf f 18 w = kd ∧ bsOf f 18 w = bs ∧ stOf f 18 w = st ∧ cdOf f 18 w = cd ∧ rgOf f 18 w = rg := by
  obtain ⟨h1, h2, h3, h4, h5, h6, h7, h8, h9, h10⟩ := h
  obtain ⟨q0, q1, q2, q3, q4, q5⟩ := cut_52 (y0 := im / 2048) (y1 := im / 256 % 8) (y2 := im % 256) (by omega) (by omega) (by omega) (by omega) (by omega) (by omega) w hw
  clear hw
  rw [rd_18, rn_18, rm_18, ra_18, im_18, kd_18, bs_18, st_18, cd_18, rg_18]
  rw [q0, q1, q2, q3, q4, q5]
  clear q0 q1 q2 q3 q4 q5
  exact ⟨by omega, by omega, by omega, by omega, by omega, by omega, by omega, by omega, by omega, by omega⟩
theorem cut_53 {y0 st rn y1 rd y2 : Int} (b0 : 0 ≤ y0 ∧ y0 ≤ 1) (b1 : 0 ≤ st ∧ st ≤ 1) (b2 : 0 ≤ rn ∧ rn ≤ 15) (b3 : 0 ≤ y1 ∧ y1 ≤ 7) (b4 : 0 ≤ rd ∧ rd ≤ 15) (b5 : 0 ≤ y2 ∧ y2 ≤ 255) (w : Int) (hw : w = 4032823296 + (y0 * 67108864 + st * 1048576 + rn * 65536 + y1 * 4096 + rd * 256 + y2)) : w / 256 % 16 = rd ∧ w / 65536 % 16 = rn ∧ w / 67108864 % 2 = y0 ∧ w / 4096 % 8 = y1 ∧ w % 256 = y2 ∧ w / 1048576 % 2 = st := by
  have e1 : w / 65536 = 61536 + y0 * 1024 + st * 16 + rn := by omega
  have e2 : w % 65536 = 0 + y1 * 4096 + rd * 256 + y2 := by omega
  rw [half_256_16 w, half_65536_16 w, half_67108864_2 w, half_4096_8 w, half_1_256 w, half_1048576_2 w, e1, e2]
  clear e1 e2 hw
  exact ⟨by omega, by omega, by omega, by omega, by omega, by omega⟩
theorem back_53 {f rd rn rm ra im kd bs st cd rg : Int} (hf : f = 53) (h : ((0 ≤ rd ∧ rd ≤ 12 ∨ rd = 14)) ∧ ((0 ≤ rn ∧ rn ≤ 12 ∨ rn = 14)) ∧ (rm = 0) ∧ (ra = 0) ∧ (0 ≤ im ∧ im ≤ 4095) ∧ (kd = 0) ∧ (bs = 0) ∧ (0 ≤ st ∧ st ≤ 1) ∧ (cd = 0) ∧ (rg = 0)) (w : Int) (hw : w = 4032823296 + (im / 2048 * 67108864 + st * 1048576 + rn * 65536 + im / 256 % 8 * 4096 + rd * 256 + im % 256)) : rdOf f 18 w = rd ∧ rnOf f 18 w = rn ∧ rmOf f 18 w = rm ∧ raOf f 18 w = ra ∧ imOf f 18 w = im ∧ kdOf f 18 w = kd ∧ bsOf f 18 w = bs ∧ stOf f 18 w = st ∧ cdOf f 18 w = cd ∧ rgOf f 18 w = rg := by
  obtain ⟨h1, h2, h3, h4, h5, h6, h7, h8, h9, h10⟩ := h
  obtain ⟨q0, q1, q2, q3, q4, q5⟩ := cut_53 (y0 := im / 2048) (y1 := im / 256 % 8) (y2 := im % 256) (by omega) (by omega) (by omega) (by omega) (by omega) (by omega) w hw
  clear hw
  rw [rd_18, rn_18, rm_18, ra_18, im_18, kd_18, bs_18, st_18, cd_18, rg_18]
  rw [q0, q1, q2, q3, q4, q5]
  clear q0 q1 q2 q3 q4 q5
  exact ⟨by omega, by omega, by omega, by omega, by omega, by omega, by omega, by omega, by omega, by omega⟩
theorem cut_54 {y0 st rn y1 rd y2 : Int} (b0 : 0 ≤ y0 ∧ y0 ≤ 1) (b1 : 0 ≤ st ∧ st ≤ 1) (b2 : 0 ≤ rn ∧ rn ≤ 15) (b3 : 0 ≤ y1 ∧ y1 ≤ 7) (b4 : 0 ≤ rd ∧ rd ≤ 15) (b5 : 0 ≤ y2 ∧ y2 ≤ 255) (w : Int) (hw : w = 4034920448 + (y0 * 67108864 + st * 1048576 + rn * 65536 + y1 * 4096 + rd * 256 + y2)) : w / 256 % 16 = rd ∧ w / 65536 % 16 = rn ∧ w / 67108864 % 2 = y0 ∧ w / 4096 % 8 = y1 ∧ w % 256 = y2 ∧ w / 1048576 % 2 = st := by
  have e1 : w / 65536 = 61568 + y0 * 1024 + st * 16 + rn := by omega
  have e2 : w % 65536 = 0 + y1 * 4096 + rd * 256 + y2 := by omega
  rw [half_256_16 w, half_65536_16 w, half_67108864_2 w, half_4096_8 w, half_1_256 w, half_1048576_2 w, e1, e2]
  clear e1 e2 hw
  exact ⟨by omega, by omega, by omega, by omega, by omega, by omega⟩
theorem back_54 {f rd rn rm ra im kd bs st cd rg : Int} (hf : f = 54) (h : ((0 ≤ rd ∧ rd ≤ 12 ∨ rd = 14)) ∧ ((0 ≤ rn ∧ rn ≤ 12 ∨ rn = 14)) ∧ (rm = 0) ∧ (ra = 0) ∧ (0 ≤ im ∧ im ≤ 4095) ∧ (kd = 0) ∧ (bs = 0) ∧ (0 ≤ st ∧ st ≤ 1) ∧ (cd = 0) ∧ (rg = 0)) (w : Int) (hw : w = 4034920448 + (im / 2048 * 67108864 + st * 1048576 + rn * 65536 + im / 256 % 8 * 4096 + rd * 256 + im % 256)) : rdOf f 18 w = rd ∧ rnOf f 18 w = rn ∧ rmOf f 18 w = rm ∧ raOf f 18 w = ra ∧ imOf f 18 w = im ∧ kdOf f 18 w = kd ∧ bsOf f 18 w = bs ∧ stOf f 18 w = st ∧ cdOf f 18 w = cd ∧ rgOf f 18 w = rg := by
  obtain ⟨h1, h2, h3, h4, h5, h6, h7, h8, h9, h10⟩ := h
  obtain ⟨q0, q1, q2, q3, q4, q5⟩ := cut_54 (y0 := im / 2048) (y1 := im / 256 % 8) (y2 := im % 256) (by omega) (by omega) (by omega) (by omega) (by omega) (by omega) w hw
  clear hw
  rw [rd_18, rn_18, rm_18, ra_18, im_18, kd_18, bs_18, st_18, cd_18, rg_18]
  rw [q0, q1, q2, q3, q4, q5]
  clear q0 q1 q2 q3 q4 q5
  exact ⟨by omega, by omega, by omega, by omega, by omega, by omega, by omega, by omega, by omega, by omega⟩
theorem cut_55 {y0 st rn y1 rd y2 : Int} (b0 : 0 ≤ y0 ∧ y0 ≤ 1) (b1 : 0 ≤ st ∧ st ≤ 1) (b2 : 0 ≤ rn ∧ rn ≤ 15) (b3 : 0 ≤ y1 ∧ y1 ≤ 7) (b4 : 0 ≤ rd ∧ rd ≤ 15) (b5 : 0 ≤ y2 ∧ y2 ≤ 255) (w : Int) (hw : w = 4043309056 + (y0 * 67108864 + st * 1048576 + rn * 65536 + y1 * 4096 + rd * 256 + y2)) : w / 256 % 16 = rd ∧ w / 65536 % 16 = rn ∧ w / 67108864 % 2 = y0 ∧ w / 4096 % 8 = y1 ∧ w % 256 = y2 ∧ w / 1048576 % 2 = st := by
  have e1 : w / 65536 = 61696 + y0 * 1024 + st * 16 + rn := by omega
  have e2 : w % 65536 = 0 + y1 * 4096 + rd * 256 + y2 := by omega
  rw [half_256_16 w, half_65536_16 w, half_67108864_2 w, half_4096_8 w, half_1_256 w, half_1048576_2 w, e1, e2]
  clear e1 e2 hw
  exact ⟨by omega, by omega, by omega, by omega, by omega, by omega⟩
theorem back_55 {f rd rn rm ra im kd bs st cd rg : Int} (hf : f = 55) (h : ((0 ≤ rd ∧ rd ≤ 12 ∨ rd = 14)) ∧ ((0 ≤ rn ∧ rn ≤ 12 ∨ rn = 14)) ∧ (rm = 0) ∧ (ra = 0) ∧ (0 ≤ im ∧ im ≤ 4095) ∧ (kd = 0) ∧ (bs = 0) ∧ (0 ≤ st ∧ st ≤ 1) ∧ (cd = 0) ∧ (rg = 0)) (w : Int) (hw : w = 4043309056 + (im / 2048 * 67108864 + st * 1048576 + rn * 65536 + im / 256 % 8 * 4096 + rd * 256 + im % 256)) : rdOf f 18 w = rd ∧ rnOf f 18 w = rn ∧ rmOf f 18 w = rm ∧ raOf f 18 w = ra ∧ imOf f 18 w = im ∧ kdOf f 18 w = kd ∧ bsOf f 18 w = bs ∧ stOf f 18 w = st ∧ cdOf f 18 w = cd ∧ rgOf f 18 w = rg := by
  obtain ⟨h1, h2, h3, h4, h5, h6, h7, h8, h9, h10⟩ := h
  obtain ⟨q0, q1, q2, q3, q4, q5⟩ := cut_55 (y0 := im / 2048) (y1 := im / 256 % 8) (y2 := im % 256) (by omega) (by omega) (by omega) (by omega) (by omega) (by omega) w hw
  clear hw
  rw [rd_18, rn_18, rm_18, ra_18, im_18, kd_18, bs_18, st_18, cd_18, rg_18]
  rw [q0, q1, q2, q3, q4, q5]
  clear q0 q1 q2 q3 q4 q5
  exact ⟨by omega, by omega, by omega, by omega, by omega, by omega, by omega, by omega, by omega, by omega⟩
theorem cut_56 {y0 st rn y1 rd y2 : Int} (b0 : 0 ≤ y0 ∧ y0 ≤ 1) (b1 : 0 ≤ st ∧ st ≤ 1) (b2 : 0 ≤ rn ∧ rn ≤ 15) (b3 : 0 ≤ y1 ∧ y1 ≤ 7) (b4 : 0 ≤ rd ∧ rd ≤ 15) (b5 : 0 ≤ y2 ∧ y2 ≤ 255) (w : Int) (hw : w = 4047503360 + (y0 * 67108864 + st * 1048576 + rn * 65536 + y1 * 4096 + rd * 256 + y2)) : w / 256 % 16 = rd ∧ w / 65536 % 16 = rn ∧ w / 67108864 % 2 = y0 ∧ w / 4096 % 8 = y1 ∧ w % 256 = y2 ∧ w / 1048576 % 2 = st := by
  have e1 : w / 65536 = 61760 + y0 * 1024 + st * 16 + rn := by omega
  have e2 : w % 65536 = 0 + y1 * 4096 + rd * 256 + y2 := by omega
  rw [half_256_16 w, half_65536_16 w, half_67108864_2 w, half_4096_8 w, half_1_256 w, half_1048576_2 w, e1, e2]
  clear e1 e2 hw
  exact ⟨by omega, by omega, by omega, by omega, by omega, by omega⟩
theorem back_56 {f rd rn rm ra im kd bs st cd rg : Int} (hf : f = 56) (h : ((0 ≤ rd ∧ rd ≤ 12 ∨ rd = 14)) ∧ ((0 ≤ rn ∧ rn ≤ 12 ∨ rn = 14)) ∧ (rm = 0) ∧ (ra = 0) ∧ (0 ≤ im ∧ im ≤ 4095) ∧ (kd = 0) ∧ (bs = 0) ∧ (0 ≤ st ∧ st ≤ 1) ∧ (cd = 0) ∧ (rg = 0)) (w : Int) (hw : w = 4047503360 + (im / 2048 * 67108864 + st * 1048576 + rn * 65536 + im / 256 % 8 * 4096 + rd * 256 + im % 256)) : rdOf f 18 w = rd ∧ rnOf f 18 w = rn ∧ rmOf f 18 w = rm ∧ raOf f 18 w = ra ∧ imOf f 18 w = im ∧ kdOf f 18 w = kd ∧ bsOf f 18 w = bs ∧ stOf f 18 w = st ∧ cdOf f 18 w = cd ∧ rgOf f 18 w = rg := by
  obtain ⟨h1, h2, h3, h4, h5, h6, h7, h8, h9, h10⟩ := h
  obtain ⟨q0, q1, q2, q3, q4, q5⟩ := cut_56 (y0 := im / 2048) (y1 := im / 256 % 8) (y2 := im % 256) (by omega) (by omega) (by omega) (by omega) (by omega) (by omega) w hw
  clear hw
  rw [rd_18, rn_18, rm_18, ra_18, im_18, kd_18, bs_18, st_18, cd_18, rg_18]
  rw [q0, q1, q2, q3, q4, q5]
  clear q0 q1 q2 q3 q4 q5
  exact ⟨by omega, by omega, by omega, by omega, by omega, by omega, by omega, by omega, by omega, by omega⟩
theorem cut_57 {y0 st rn y1 rd y2 : Int} (b0 : 0 ≤ y0 ∧ y0 ≤ 1) (b1 : 0 ≤ st ∧ st ≤ 1) (b2 : 0 ≤ rn ∧ rn ≤ 15) (b3 : 0 ≤ y1 ∧ y1 ≤ 7) (b4 : 0 ≤ rd ∧ rd ≤ 15) (b5 : 0 ≤ y2 ∧ y2 ≤ 255) (w : Int) (hw : w = 4049600512 + (y0 * 67108864 + st * 1048576 + rn * 65536 + y1 * 4096 + rd * 256 + y2)) : w / 256 % 16 = rd ∧ w / 65536 % 16 = rn ∧ w / 67108864 % 2 = y0 ∧ w / 4096 % 8 = y1 ∧ w % 256 = y2 ∧ w / 1048576 % 2 = st := by
  have e1 : w / 65536 = 61792 + y0 * 1024 + st * 16 + rn := by omega
  have e2 : w % 65536 = 0 + y1 * 4096 + rd * 256 + y2 := by omega
  rw [half_256_16 w, half_65536_16 w, half_67108864_2 w, half_4096_8 w, half_1_256 w, half_1048576_2 w, e1, e2]
  clear e1 e2 hw
  exact ⟨by omega, by omega, by omega, by omega, by omega, by omega⟩
theorem back_57 {f rd rn rm ra im kd bs st cd rg : Int} (hf : f = 57) (h : ((0 ≤ rd ∧ rd ≤ 12 ∨ rd = 14)) ∧ ((0 ≤ rn ∧ rn ≤ 12 ∨ rn = 14)) ∧ (rm = 0) ∧ (ra = 0) ∧ (0 ≤ im ∧ im ≤ 4095) ∧ (kd = 0) ∧ (bs = 0) ∧ (0 ≤ st ∧ st ≤ 1) ∧ (cd = 0) ∧ (rg = 0)) (w : Int) (hw : w = 4049600512 + (im / 2048 * 67108864 + st * 1048576 + rn * 65536 + im / 256 % 8 * 4096 + rd * 256 + im % 256)) : rdOf f 18 w = rd ∧ rnOf f 18 w = rn ∧ rmOf f 18 w = rm ∧ raOf f 18 w = ra ∧ imOf f 18 w = im ∧ kdOf f 18 w = kd ∧ bsOf f 18 w = bs ∧ stOf f 18 w = st ∧ cdOf f 18 w = cd ∧ rgOf f 18 w = rg := by
  obtain ⟨h1, h2, h3, h4, h5, h6, h7, h8, h9, h10⟩ := h
  obtain ⟨q0, q1, q2, q3, q4, q5⟩ := cut_57 (y0 := im / 2048) (y1 := im / 256 % 8) (y2 := im % 256) (by omega) (by omega) (by omega) (by omega) (by omega) (by omega) w hw
  clear hw
  rw [rd_18, rn_18, rm_18, ra_18, im_18, kd_18, bs_18, st_18, cd_18, rg_18]
  rw [q0, q1, q2, q3, q4, q5]
  clear q0 q1 q2 q3 q4 q5
  exact ⟨by omega, by omega, by omega, by omega, by omega, by omega, by omega, by omega, by omega, by omega⟩
theorem cut_58 {y0 st rn y1 rd y2 : Int} (b0 : 0 ≤ y0 ∧ y0 ≤ 1) (b1 : 0 ≤ st ∧ st ≤ 1) (b2 : 0 ≤ rn ∧ rn ≤ 15) (b3 : 0 ≤ y1 ∧ y1 ≤ 7) (b4 : 0 ≤ rd ∧ rd ≤ 15) (b5 : 0 ≤ y2 ∧ y2 ≤ 255) (w : Int) (hw : w = 4053794816 + (y0 * 67108864 + st * 1048576 + rn * 65536 + y1 * 4096 + rd * 256 + y2)) : w / 256 % 16 = rd ∧ w / 65536 % 16 = rn ∧ w / 67108864 % 2 = y0 ∧ w / 4096 % 8 = y1 ∧ w % 256 = y2 ∧ w / 1048576 % 2 = st := by
  have e1 : w / 65536 = 61856 + y0 * 1024 + st * 16 + rn := by omega
  have e2 : w % 65536 = 0 + y1 * 4096 + rd * 256 + y2 := by omega
  rw [half_256_16 w, half_65536_16 w, half_67108864_2 w, half_4096_8 w, half_1_256 w, half_1048576_2 w, e1, e2]
  clear e1 e2 hw
  exact ⟨by omega, by omega, by omega, by omega, by omega, by omega⟩
theorem back_58 {f rd rn rm ra im kd bs st cd rg : Int} (hf : f = 58) (h : ((0 ≤ rd ∧ rd ≤ 12 ∨ rd = 14)) ∧ ((0 ≤ rn ∧ rn ≤ 12 ∨ rn = 14)) ∧ (rm = 0) ∧ (ra = 0) ∧ (0 ≤ im ∧ im ≤ 4095) ∧ (kd = 0) ∧ (bs = 0) ∧ (0 ≤ st ∧ st ≤ 1) ∧ (cd = 0) ∧ (rg = 0)) (w : Int) (hw : w = 4053794816 + (im / 2048 * 67108864 + st * 1048576 + rn * 65536 + im / 256 % 8 * 4096 + rd * 256 + im % 256)) : rdOf f 18 w = rd ∧ rnOf f 18 w = rn ∧ rmOf f 18 w = rm ∧ raOf f 18 w = ra ∧ imOf f 18 w = im ∧ kdOf f 18 w = kd ∧ bsOf f 18 w = bs ∧ stOf f 18 w = st ∧ cdOf f 18 w = cd ∧ rgOf f 18 w = rg := by
  obtain ⟨h1, h2, h3, h4, h5, h6, h7, h8, h9, h10⟩ := h
  obtain ⟨q0, q1, q2, q3, q4, q5⟩ := cut_58 (y0 := im / 2048) (y1 := im / 256 % 8) (y2 := im % 256) (by omega) (by omega) (by omega) (by omega) (by omega) (by omega) w hw
  clear hw
  rw [rd_18, rn_18, rm_18, ra_18, im_18, kd_18, bs_18, st_18, cd_18, rg_18]
  rw [q0, q1, q2, q3, q4, q5]
  clear q0 q1 q2 q3 q4 q5
  exact ⟨by omega, by omega, by omega, by omega, by omega, by omega, by omega, by omega, by omega, by omega⟩
theorem cut_59 {y0 st rn y1 rd y2 : Int} (b0 : 0 ≤ y0 ∧ y0 ≤ 1) (b1 : 0 ≤ st ∧ st ≤ 1) (b2 : 0 ≤ rn ∧ rn ≤ 15) (b3 : 0 ≤ y1 ∧ y1 ≤ 7) (b4 : 0 ≤ rd ∧ rd ≤ 15) (b5 : 0 ≤ y2 ∧ y2 ≤ 255) (w : Int) (hw : w = 4055891968 + (y0 * 67108864 + st * 1048576 + rn * 65536 + y1 * 4096 + rd * 256 + y2)) : w / 256 % 16 = rd ∧ w / 65536 % 16 = rn ∧ w / 67108864 % 2 = y0 ∧ w / 4096 % 8 = y1 ∧ w % 256 = y2 ∧ w / 1048576 % 2 = st := by
  have e1 : w / 65536 = 61888 + y0 * 1024 + st * 16 + rn := by omega
  have e2 : w % 65536 = 0 + y1 * 4096 + rd * 256 + y2 := by omega
  rw [half_256_16 w, half_65536_16 w, half_67108864_2 w, half_4096_8 w, half_1_256 w, half_1048576_2 w, e1, e2]
  clear e1 e2 hw
  exact ⟨by omega, by omega, by omega, by omega, by omega, by omega⟩
theorem back_59 {f rd rn rm ra im kd bs st cd rg : Int} (hf : f = 59) (h : ((0 ≤ rd ∧ rd ≤ 12 ∨ rd = 14)) ∧ ((0 ≤ rn ∧ rn ≤ 12 ∨ rn = 14)) ∧ (rm = 0) ∧ (ra = 0) ∧ (0 ≤ im ∧ im ≤ 4095) ∧ (kd = 0) ∧ (bs = 0) ∧ (0 ≤ st ∧ st ≤ 1) ∧ (cd = 0) ∧ (rg = 0)) (w : Int) (hw : w = 4055891968 + (im / 2048 * 67108864 + st * 1048576 + rn * 65536 + im / 256 % 8 * 4096 + rd * 256 + im % 256)) : rdOf f 18 w = rd ∧ rnOf f 18 w = rn ∧ rmOf f 18 w = rm ∧ raOf f 18 w = ra ∧ imOf f 18 w = im ∧ kdOf f 18 w = kd ∧ bsOf f 18 w = bs ∧ stOf f 18 w = st ∧ cdOf f 18 w = cd ∧ rgOf f 18 w = rg := by
  obtain ⟨h1, h2, h3, h4, h5, h6, h7, h8, h9, h10⟩ := h
  obtain ⟨q0, q1, q2, q3, q4, q5⟩ := cut_59 (y0 := im / 2048) (y1 := im / 256 % 8) (y2 := im % 256) (by omega) (by omega) (by omega) (by omega) (by omega) (by omega) w hw
  clear hw
  rw [rd_18, rn_18, rm_18, ra_18, im_18, kd_18, bs_18, st_18, cd_18, rg_18]
  rw [q0, q1, q2, q3, q4, q5]
  clear q0 q1 q2 q3 q4 q5
  exact ⟨by omega, by omega, by omega, by omega, by omega, by omega, by omega, by omega, by omega, by omega⟩
theorem cut_60 {y0 st rn y1 rd y2 : Int} (b0 : 0 ≤ y0 ∧ y0 ≤ 1) (b1 : 0 ≤ st ∧ st ≤ 1) (b2 : 0 ≤ rn ∧ rn ≤ 0) (b3 : 0 ≤ y1 ∧ y1 ≤ 7) (b4 : 0 ≤ rd ∧ rd ≤ 15) (b5 : 0 ≤ y2 ∧ y2 ≤ 255) (w : Int) (hw : w = 4031709184 + (y0 * 67108864 + st * 1048576 + rn * 65536 + y1 * 4096 + rd * 256 + y2)) : w / 256 % 16 = rd ∧ w / 67108864 % 2 = y0 ∧ w / 4096 % 8 = y1 ∧ w % 256 = y2 ∧ w / 1048576 % 2 = st := by
  have e1 : w / 65536 = 61519 + y0 * 1024 + st * 16 + rn := by omega
  have e2 : w % 65536 = 0 + y1 * 4096 + rd * 256 + y2 := by omega
  rw [half_256_16 w, half_67108864_2 w, half_4096_8 w, half_1_256 w, half_1048576_2 w, e1, e2]
  clear e1 e2 hw
  exact ⟨by omega, by omega, by omega, by omega, by omega⟩
theorem back_60 {f rd rn rm ra im kd bs st cd rg : Int} (hf : f = 60) (h : ((0 ≤ rd ∧ rd ≤ 12 ∨ rd = 14)) ∧ (rn = 0) ∧ (rm = 0) ∧ (ra = 0) ∧ (0 ≤ im ∧ im ≤ 4095) ∧ (kd = 0) ∧ (bs = 0) ∧ (0 ≤ st ∧ st ≤ 1) ∧ (cd = 0) ∧ (rg = 0)) (w : Int) (hw : w = 4031709184 + (im / 2048 * 67108864 + st * 1048576 + rn * 65536 + im / 256 % 8 * 4096 + rd * 256 + im % 256)) : rdOf f 19 w = rd ∧ rnOf f 19 w = rn ∧ rmOf f 19 w = rm ∧ raOf f 19 w = ra ∧ imOf f 19 w = im ∧ kdOf f 19 w = kd ∧ bsOf f 19 w = bs ∧ stOf f 19 w = st ∧ cdOf f 19 w = cd ∧ rgOf f 19 w = rg := by
  obtain ⟨h1, h2, h3, h4, h5, h6, h7, h8, h9, h10⟩ := h
  obtain ⟨q0, q1, q2, q3, q4⟩ := cut_60 (y0 := im / 2048) (y1 := im / 256 % 8) (y2 := im % 256) (by omega) (by omega) (by omega) (by omega) (by omega) (by omega) w hw
  clear hw
  rw [rd_19, rn_19, rm_19, ra_19, im_19, kd_19, bs_19, st_19, cd_19, rg_19]
  rw [q0, q1, q2, q3, q4]
  clear q0 q1 q2 q3 q4
  exact ⟨by omega, by omega, by omega, by omega, by omega, by omega, by omega, by omega, by omega, by omega⟩
theorem cut_61 {y0 st rn y1 rd y2 : Int} (b0 : 0 ≤ y0 ∧ y0 ≤ 1) (b1 : 0 ≤ st ∧ st ≤ 1) (b2 : 0 ≤ rn ∧ rn ≤ 0) (b3 : 0 ≤ y1 ∧ y1 ≤ 7) (b4 : 0 ≤ rd ∧ rd ≤ 15) (b5 : 0 ≤ y2 ∧ y2 ≤ 255) (w : Int) (hw : w = 4033806336 + (y0 * 67108864 + st * 1048576 + rn * 65536 + y1 * 4096 + rd * 256 + y2)) : w / 256 % 16 = rd ∧ w / 67108864 % 2 = y0 ∧ w / 4096 % 8 = y1 ∧ w % 256 = y2 ∧ w / 1048576 % 2 = st := by
  have e1 : w / 65536 = 61551 + y0 * 1024 + st * 16 + rn := by omega
  have e2 : w % 65536 = 0 + y1 * 4096 + rd * 256 + y2 := by omega
  rw [half_256_16 w, half_67108864_2 w, half_4096_8 w, half_1_256 w, half_1048576_2 w, e1, e2]
  clear e1 e2 hw
  exact ⟨by omega, by omega, by omega, by omega, by omega⟩
theorem back_61 {f rd rn rm ra im kd bs st cd rg : Int} (hf : f = 61) (h : ((0 ≤ rd ∧ rd ≤ 12 ∨ rd = 14)) ∧ (rn = 0) ∧ (rm = 0) ∧ (ra = 0) ∧ (0 ≤ im ∧ im ≤ 4095) ∧ (kd = 0) ∧ (bs = 0) ∧ (0 ≤ st ∧ st ≤ 1) ∧ (cd = 0) ∧ (rg = 0)) (w : Int) (hw : w = 4033806336 + (im / 2048 * 67108864 + st * 1048576 + rn * 65536 + im / 256 % 8 * 4096 + rd * 256 + im % 256)) : rdOf f 19 w = rd ∧ rnOf f 19 w = rn ∧ rmOf f 19 w = rm ∧ raOf f 19 w = ra ∧ imOf f 19 w = im ∧ kdOf f 19 w = kd ∧ bsOf f 19 w = bs ∧ stOf f 19 w = st ∧ cdOf f 19 w = cd ∧ rgOf f 19 w = rg := by
  obtain ⟨h1, h2, h3, h4, h5, h6, h7, h8, h9, h10⟩ := h
  obtain ⟨q0, q1, q2, q3, q4⟩ := cut_61 (y0 := im / 2048) (y1 := im / 256 % 8) (y2 := im % 256) (by omega) (by omega) (by omega) (by omega) (by omega) (by omega) w hw
  clear hw
  rw [rd_19, rn_19, rm_19, ra_19, im_19, kd_19, bs_19, st_19, cd_19, rg_19]
  rw [q0, q1, q2, q3, q4]
  clear q0 q1 q2 q3 q4
  exact ⟨by omega, by omega, by omega, by omega, by omega, by omega, by omega, by omega, by omega, by omega⟩
theorem cut_62 {y0 st rn y1 rd y2 : Int} (b0 : 0 ≤ y0 ∧ y0 ≤ 1) (b1 : 0 ≤ st ∧ st ≤ 0) (b2 : 0 ≤ rn ∧ rn ≤ 15) (b3 : 0 ≤ y1 ∧ y1 ≤ 7) (b4 : 0 ≤ rd ∧ rd ≤ 0) (b5 : 0 ≤ y2 ∧ y2 ≤ 255) (w : Int) (hw : w = 4027584256 + (y0 * 67108864 + st * 1048576 + rn * 65536 + y1 * 4096 + rd * 256 + y2)) : w / 65536 % 16 = rn ∧ w / 67108864 % 2 = y0 ∧ w / 4096 % 8 = y1 ∧ w % 256 = y2 := by
  have e1 : w / 65536 = 61456 + y0 * 1024 + st * 16 + rn := by omega
  have e2 : w % 65536 = 3840 + y1 * 4096 + rd * 256 + y2 := by omega
  rw [half_65536_16 w, half_67108864_2 w, half_4096_8 w, half_1_256 w, e1, e2]
  clear e1 e2 hw
  exact ⟨by omega, by omega, by omega, by omega⟩
theorem back_62 {f rd rn rm ra im kd bs st cd rg : Int} (hf : f = 62) (h : (rd = 0) ∧ ((0 ≤ rn ∧ rn ≤ 12 ∨ rn = 14)) ∧ (rm = 0) ∧ (ra = 0) ∧ (0 ≤ im ∧ im ≤ 4095) ∧ (kd = 0) ∧ (bs = 0) ∧ (st = 0) ∧ (cd = 0) ∧ (rg = 0)) (w : Int) (hw : w = 4027584256 + (im / 2048 * 67108864 + st * 1048576 + rn * 65536 + im / 256 % 8 * 4096 + rd * 256 + im % 256)) : rdOf f 20 w = rd ∧ rnOf f 20 w = rn ∧ rmOf f 20 w = rm ∧ raOf f 20 w = ra ∧ imOf f 20 w = im ∧ kdOf f 20 w = kd ∧ bsOf f 20 w = bs ∧ stOf f 20 w = st ∧ cdOf f 20 w = cd ∧ rgOf f 20 w = rg := by
  obtain ⟨h1, h2, h3, h4, h5, h6, h7, h8, h9, h10⟩ := h
  obtain ⟨q0, q1, q2, q3⟩ := cut_62 (y0 := im / 2048) (y1 := im / 256 % 8) (y2 := im % 256) (by omega) (by omega) (by omega) (by omega) (by omega) (by omega) w hw
  clear hw
  rw [rd_20, rn_20, rm_20, ra_20, im_20, kd_20, bs_20, st_20, cd_20, rg_20]
  rw [q0, q1, q2, q3]
  clear q0 q1 q2 q3
  exact ⟨by omega, by omega, by omega, by omega, by omega, by omega, by omega, by omega, by omega, by omega⟩
theorem cut_63 {y0 st rn y1 rd y2 : Int} (b0 : 0 ≤ y0 ∧ y0 ≤ 1) (b1 : 0 ≤ st ∧ st ≤ 0) (b2 : 0 ≤ rn ∧ rn ≤ 15) (b3 : 0 ≤ y1 ∧ y1 ≤ 7) (b4 : 0 ≤ rd ∧ rd ≤ 0) (b5 : 0 ≤ y2 ∧ y2 ≤ 255) (w : Int) (hw : w = 4035972864 + (y0 * 67108864 + st * 1048576 + rn * 65536 + y1 * 4096 + rd * 256 + y2)) : w / 65536 % 16 = rn ∧ w / 67108864 % 2 = y0 ∧ w / 4096 % 8 = y1 ∧ w % 256 = y2 := by
  have e1 : w / 65536 = 61584 + y0 * 1024 + st * 16 + rn := by omega
  have e2 : w % 65536 = 3840 + y1 * 4096 + rd * 256 + y2 := by omega
  rw [half_65536_16 w, half_67108864_2 w, half_4096_8 w, half_1_256 w, e1, e2]
  clear e1 e2 hw
  exact ⟨by omega, by omega, by omega, by omega⟩
theorem back_63 {f rd rn rm ra im kd bs st cd rg : Int} (hf : f = 63) (h : (rd = 0) ∧ ((0 ≤ rn ∧ rn ≤ 12 ∨ rn = 14)) ∧ (rm = 0) ∧ (ra = 0) ∧ (0 ≤ im ∧ im ≤ 4095) ∧ (kd = 0) ∧ (bs = 0) ∧ (st = 0) ∧ (cd = 0) ∧ (rg = 0)) (w : Int) (hw : w = 4035972864 + (im / 2048 * 67108864 + st * 1048576 + rn * 65536 + im / 256 % 8 * 4096 + rd * 256 + im % 256)) : rdOf f 20 w = rd ∧ rnOf f 20 w = rn ∧ rmOf f 20 w = rm ∧ raOf f 20 w = ra ∧ imOf f 20 w = im ∧ kdOf f 20 w = kd ∧ bsOf f 20 w = bs ∧ stOf f 20 w = st ∧ cdOf f 20 w = cd ∧ rgOf f 20 w = rg := by
  obtain ⟨h1, h2, h3, h4, h5, h6, h7, h8, h9, h10⟩ := h
  obtain ⟨q0, q1, q2, q3⟩ := cut_63 (y0 := im / 2048) (y1 := im / 256 % 8) (y2 := im % 256) (by omega) (by omega) (by omega) (by omega) (by omega) (by omega) w hw
  clear hw
  rw [rd_20, rn_20, rm_20, ra_20, im_20, kd_20, bs_20, st_20, cd_20, rg_20]
  rw [q0, q1, q2, q3]
  clear q0 q1 q2 q3
  exact ⟨by omega, by omega, by omega, by omega, by omega, by omega, by omega, by omega, by omega, by omega⟩
theorem cut_64 {y0 st rn y1 rd y2 : Int} (b0 : 0 ≤ y0 ∧ y0 ≤ 1) (b1 : 0 ≤ st ∧ st ≤ 0) (b2 : 0 ≤ rn ∧ rn ≤ 15) (b3 : 0 ≤ y1 ∧ y1 ≤ 7) (b4 : 0 ≤ rd ∧ rd ≤ 0) (b5 : 0 ≤ y2 ∧ y2 ≤ 255) (w : Int) (hw : w = 4044361472 + (y0 * 67108864 + st * 1048576 + rn * 65536 + y1 * 4096 + rd * 256 + y2)) : w / 65536 % 16 = rn ∧ w / 67108864 % 2 = y0 ∧ w / 4096 % 8 = y1 ∧ w % 256 = y2 := by
  have e1 : w / 65536 = 61712 + y0 * 1024 + st * 16 + rn := by omega
  have e2 : w % 65536 = 3840 + y1 * 4096 + rd * 256 + y2 := by omega
  rw [half_65536_16 w, half_67108864_2 w, half_4096_8 w, half_1_256 w, e1, e2]
  clear e1 e2 hw
  exact ⟨by omega, by omega, by omega, by omega⟩
theorem back_64 {f rd rn rm ra im kd bs st cd rg : Int} (hf : f = 64) (h : (rd = 0) ∧ ((0 ≤ rn ∧ rn ≤ 12 ∨ rn = 14)) ∧ (rm = 0) ∧ (ra = 0) ∧ (0 ≤ im ∧ im ≤ 4095) ∧ (kd = 0) ∧ (bs = 0) ∧ (st = 0) ∧ (cd = 0) ∧ (rg = 0)) (w : Int) (hw : w = 4044361472 + (im / 2048 * 67108864 + st * 1048576 + rn * 65536 + im / 256 % 8 * 4096 + rd * 256 + im % 256)) : rdOf f 20 w = rd ∧ rnOf f 20 w = rn ∧ rmOf f 20 w = rm ∧ raOf f 20 w = ra ∧ imOf f 20 w = im ∧ kdOf f 20 w = kd ∧ bsOf f 20 w = bs ∧ stOf f 20 w = st ∧ cdOf f 20 w = cd ∧ rgOf f 20 w = rg := by
  obtain ⟨h1, h2, h3, h4, h5, h6, h7, h8, h9, h10⟩ := h
  obtain ⟨q0, q1, q2, q3⟩ := cut_64 (y0 := im / 2048) (y1 := im / 256 % 8) (y2 := im % 256) (by omega) (by omega) (by omega) (by omega) (by omega) (by omega) w hw
  clear hw
  rw [rd_20, rn_20, rm_20, ra_20, im_20, kd_20, bs_20, st_20, cd_20, rg_20]
  rw [q0, q1, q2, q3]
  clear q0 q1 q2 q3
  exact ⟨by omega, by omega, by omega, by omega, by omega, by omega, by omega, by omega, by omega, by omega⟩
theorem cut_65 {y0 st rn y1 rd y2 : Int} (b0 : 0 ≤ y0 ∧ y0 ≤ 1) (b1 : 0 ≤ st ∧ st ≤ 0) (b2 : 0 ≤ rn ∧ rn ≤ 15) (b3 : 0 ≤ y1 ∧ y1 ≤ 7) (b4 : 0 ≤ rd ∧ rd ≤ 0) (b5 : 0 ≤ y2 ∧ y2 ≤ 255) (w : Int) (hw : w = 4054847232 + (y0 * 67108864 + st * 1048576 + rn * 65536 + y1 * 4096 + rd * 256 + y2)) : w / 65536 % 16 = rn ∧ w / 67108864 % 2 = y0 ∧ w / 4096 % 8 = y1 ∧ w % 256 = y2 := by
  have e1 : w / 65536 = 61872 + y0 * 1024 + st * 16 + rn := by omega
  have e2 : w % 65536 = 3840 + y1 * 4096 + rd * 256 + y2 := by omega
  rw [half_65536_16 w, half_67108864_2 w, half_4096_8 w, half_1_256 w, e1, e2]
  clear e1 e2 hw
  exact ⟨by omega, by omega, by omega, by omega⟩
theorem back_65 {f rd rn rm ra im kd bs st cd rg : Int} (hf : f = 65) (h : (rd = 0) ∧ ((0 ≤ rn ∧ rn ≤ 12 ∨ rn = 14)) ∧ (rm = 0) ∧ (ra = 0) ∧ (0 ≤ im ∧ im ≤ 4095) ∧ (kd = 0) ∧ (bs = 0) ∧ (st = 0) ∧ (cd = 0) ∧ (rg = 0)) (w : Int) (hw : w = 4054847232 + (im / 2048 * 67108864 + st * 1048576 + rn * 65536 + im / 256 % 8 * 4096 + rd * 256 + im % 256)) : rdOf f 20 w = rd ∧ rnOf f 20 w = rn ∧ rmOf f 20 w = rm ∧ raOf f 20 w = ra ∧ imOf f 20 w = im ∧ kdOf f 20 w = kd ∧ bsOf f 20 w = bs ∧ stOf f 20 w = st ∧ cdOf f 20 w = cd ∧ rgOf f 20 w = rg := by
  obtain ⟨h1, h2, h3, h4, h5, h6, h7, h8, h9, h10⟩ := h
  obtain ⟨q0, q1, q2, q3⟩ := cut_65 (y0 := im / 2048) (y1 := im / 256 % 8) (y2 := im % 256) (by omega) (by omega) (by omega) (by omega) (by omega) (by omega) w hw
  clear hw
  rw [rd_20, rn_20, rm_20, ra_20, im_20, kd_20, bs_20, st_20, cd_20, rg_20]
  rw [q0, q1, q2, q3]
  clear q0 q1 q2 q3
  exact ⟨by omega, by omega, by omega, by omega, by omega, by omega, by omega, by omega, by omega, by omega⟩

end Go.Proofs.YtpgcnbipnjcniaaDoor.Code
