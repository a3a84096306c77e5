/- The form of a right instruction is told by its word: forms 48 to 65. -/
import Derived.Test.YtpgcnbipnjcniaaDoorCodeSum
set_option linter.unusedVariables false
set_option linter.unusedSimpArgs false
namespace Go.Proofs.YtpgcnbipnjcniaaDoor.Code
open Go.Proofs.YtpgcnbipnjcniaaDoor.Alu Go.Proofs.YtpgcnbipnjcniaaDoor.Imm Go.Proofs.YtpgcnbipnjcniaaDoor.Inst

theorem dec_48 {f rd rn rm ra im kd bs st cd rg : Int} (hf : f = 48) (h : ((0 ≤ rd ∧ rd ≤ 12 ∨ rd = 14)) ∧ (rn = 0) ∧ (rm = 0) ∧ (ra = 0) ∧ (0 ≤ im ∧ im ≤ 65535) ∧ (kd = 0) ∧ (bs = 0) ∧ (st = 0) ∧ (cd = 0) ∧ (rg = 0)) : decW (4064280576 + (im / 2048 % 2 * 67108864 + im / 4096 * 65536 + im / 256 % 8 * 4096 + rd * 256 + im % 256)) = 48 := by
  obtain ⟨h1, h2, h3, h4, h5, h6, h7, h8, h9, h10⟩ := h
  have g0 : 0 ≤ im / 2048 % 2 ∧ im / 2048 % 2 ≤ 1 := by omega
  have g1 : 0 ≤ im / 4096 ∧ im / 4096 ≤ 15 := by omega
  have g2 : 0 ≤ im / 256 % 8 ∧ im / 256 % 8 ≤ 7 := by omega
  have g3 : 0 ≤ im % 256 ∧ im % 256 ≤ 255 := by omega
  generalize im / 2048 % 2 = y0 at g0 ⊢
  generalize im / 4096 = y1 at g1 ⊢
  generalize im / 256 % 8 = y2 at g2 ⊢
  generalize im % 256 = y3 at g3 ⊢
  clear h5
  have e1 : (4064280576 + (y0 * 67108864 + y1 * 65536 + y2 * 4096 + rd * 256 + y3)) / 65536 = 62016 + y0 * 1024 + y1 := by omega
  have e2 : (4064280576 + (y0 * 67108864 + y1 * 65536 + y2 * 4096 + rd * 256 + y3)) % 65536 = 0 + y2 * 4096 + rd * 256 + y3 := by omega
  unfold decW
  rw [e1, e2]
  clear e1 e2
  rw [hl_plain (c := 4) (by omega) (by omega) (by omega) (by omega)]
  simp
theorem dec_49 {f rd rn rm ra im kd bs st cd rg : Int} (hf : f = 49) (h : ((0 ≤ rd ∧ rd ≤ 12 ∨ rd = 14)) ∧ (rn = 0) ∧ (rm = 0) ∧ (ra = 0) ∧ (0 ≤ im ∧ im ≤ 65535) ∧ (kd = 0) ∧ (bs = 0) ∧ (st = 0) ∧ (cd = 0) ∧ (rg = 0)) : decW (4072669184 + (im / 2048 % 2 * 67108864 + im / 4096 * 65536 + im / 256 % 8 * 4096 + rd * 256 + im % 256)) = 49 := by
  obtain ⟨h1, h2, h3, h4, h5, h6, h7, h8, h9, h10⟩ := h
  have g0 : 0 ≤ im / 2048 % 2 ∧ im / 2048 % 2 ≤ 1 := by omega
  have g1 : 0 ≤ im / 4096 ∧ im / 4096 ≤ 15 := by omega
  have g2 : 0 ≤ im / 256 % 8 ∧ im / 256 % 8 ≤ 7 := by omega
  have g3 : 0 ≤ im % 256 ∧ im % 256 ≤ 255 := by omega
  generalize im / 2048 % 2 = y0 at g0 ⊢
  generalize im / 4096 = y1 at g1 ⊢
  generalize im / 256 % 8 = y2 at g2 ⊢
  generalize im % 256 = y3 at g3 ⊢
  clear h5
  have e1 : (4072669184 + (y0 * 67108864 + y1 * 65536 + y2 * 4096 + rd * 256 + y3)) / 65536 = 62144 + y0 * 1024 + y1 := by omega
  have e2 : (4072669184 + (y0 * 67108864 + y1 * 65536 + y2 * 4096 + rd * 256 + y3)) % 65536 = 0 + y2 * 4096 + rd * 256 + y3 := by omega
  unfold decW
  rw [e1, e2]
  clear e1 e2
  rw [hl_plain (c := 12) (by omega) (by omega) (by omega) (by omega)]
  simp
theorem dec_50 {f rd rn rm ra im kd bs st cd rg : Int} (hf : f = 50) (h : ((0 ≤ rd ∧ rd ≤ 12 ∨ rd = 14)) ∧ ((0 ≤ rn ∧ rn ≤ 12 ∨ rn = 14)) ∧ (rm = 0) ∧ (ra = 0) ∧ (0 ≤ im ∧ im ≤ 4095) ∧ (kd = 0) ∧ (bs = 0) ∧ (0 ≤ st ∧ st ≤ 1) ∧ (cd = 0) ∧ (rg = 0)) : decW (4026531840 + (im / 2048 * 67108864 + st * 1048576 + rn * 65536 + im / 256 % 8 * 4096 + rd * 256 + im % 256)) = 50 := by
  obtain ⟨h1, h2, h3, h4, h5, h6, h7, h8, h9, h10⟩ := h
  have g0 : 0 ≤ im / 2048 ∧ im / 2048 ≤ 1 := by omega
  have g1 : 0 ≤ im / 256 % 8 ∧ im / 256 % 8 ≤ 7 := by omega
  have g2 : 0 ≤ im % 256 ∧ im % 256 ≤ 255 := by omega
  generalize im / 2048 = y0 at g0 ⊢
  generalize im / 256 % 8 = y1 at g1 ⊢
  generalize im % 256 = y2 at g2 ⊢
  clear h5
  have e1 : (4026531840 + (y0 * 67108864 + st * 1048576 + rn * 65536 + y1 * 4096 + rd * 256 + y2)) / 65536 = 61440 + y0 * 1024 + st * 16 + rn := by omega
  have e2 : (4026531840 + (y0 * 67108864 + st * 1048576 + rn * 65536 + y1 * 4096 + rd * 256 + y2)) % 65536 = 0 + y1 * 4096 + rd * 256 + y2 := by omega
  unfold decW
  rw [e1, e2]
  clear e1 e2
  rw [hl_imm (o := 0) (r := rd) (n := rn) (by omega) (by omega) (by omega) (by omega) (by omega) (by omega)]
  unfold decO
  have hr : ¬ rd = 15 := by omega
  simp [hr]
theorem dec_51 {f rd rn rm ra im kd bs st cd rg : Int} (hf : f = 51) (h : ((0 ≤ rd ∧ rd ≤ 12 ∨ rd = 14)) ∧ ((0 ≤ rn ∧ rn ≤ 12 ∨ rn = 14)) ∧ (rm = 0) ∧ (ra = 0) ∧ (0 ≤ im ∧ im ≤ 4095) ∧ (kd = 0) ∧ (bs = 0) ∧ (0 ≤ st ∧ st ≤ 1) ∧ (cd = 0) ∧ (rg = 0)) : decW (4028628992 + (im / 2048 * 67108864 + st * 1048576 + rn * 65536 + im / 256 % 8 * 4096 + rd * 256 + im % 256)) = 51 := by
  obtain ⟨h1, h2, h3, h4, h5, h6, h7, h8, h9, h10⟩ := h
  have g0 : 0 ≤ im / 2048 ∧ im / 2048 ≤ 1 := by omega
  have g1 : 0 ≤ im / 256 % 8 ∧ im / 256 % 8 ≤ 7 := by omega
  have g2 : 0 ≤ im % 256 ∧ im % 256 ≤ 255 := by omega
  generalize im / 2048 = y0 at g0 ⊢
  generalize im / 256 % 8 = y1 at g1 ⊢
  generalize im % 256 = y2 at g2 ⊢
  clear h5
  have e1 : (4028628992 + (y0 * 67108864 + st * 1048576 + rn * 65536 + y1 * 4096 + rd * 256 + y2)) / 65536 = 61472 + y0 * 1024 + st * 16 + rn := by omega
  have e2 : (4028628992 + (y0 * 67108864 + st * 1048576 + rn * 65536 + y1 * 4096 + rd * 256 + y2)) % 65536 = 0 + y1 * 4096 + rd * 256 + y2 := by omega
  unfold decW
  rw [e1, e2]
  clear e1 e2
  rw [hl_imm (o := 1) (r := rd) (n := rn) (by omega) (by omega) (by omega) (by omega) (by omega) (by omega)]
  unfold decO
  simp
theorem dec_52 {f rd rn rm ra im kd bs st cd rg : Int} (hf : f = 52) (h : ((0 ≤ rd ∧ rd ≤ 12 ∨ rd = 14)) ∧ ((0 ≤ rn ∧ rn ≤ 12 ∨ rn = 14)) ∧ (rm = 0) ∧ (ra = 0) ∧ (0 ≤ im ∧ im ≤ 4095) ∧ (kd = 0) ∧ (bs = 0) ∧ (0 ≤ st ∧ st ≤ 1) ∧ (cd = 0) ∧ (rg = 0)) : decW (4030726144 + (im / 2048 * 67108864 + st * 1048576 + rn * 65536 + im / 256 % 8 * 4096 + rd * 256 + im % 256)) = 52 := by
  obtain ⟨h1, h2, h3, h4, h5, h6, h7, h8, h9, h10⟩ := h
  have g0 : 0 ≤ im / 2048 ∧ im / 2048 ≤ 1 := by omega
  have g1 : 0 ≤ im / 256 % 8 ∧ im / 256 % 8 ≤ 7 := by omega
  have g2 : 0 ≤ im % 256 ∧ im % 256 ≤ 255 := by omega
  generalize im / 2048 = y0 at g0 ⊢
  generalize im / 256 % 8 = y1 at g1 ⊢
  generalize im % 256 = y2 at g2 ⊢
  clear h5
  have e1 : (4030726144 + (y0 * 67108864 + st * 1048576 + rn * 65536 + y1 * 4096 + rd * 256 + y2)) / 65536 = 61504 + y0 * 1024 + st * 16 + rn := by omega
  have e2 : (4030726144 + (y0 * 67108864 + st * 1048576 + rn * 65536 + y1 * 4096 + rd * 256 + y2)) % 65536 = 0 + y1 * 4096 + rd * 256 + y2 := by omega
  unfold decW
  rw [e1, e2]
  clear e1 e2
  rw [hl_imm (o := 2) (r := rd) (n := rn) (by omega) (by omega) (by omega) (by omega) (by omega) (by omega)]
  unfold decO
  have hr : ¬ rn = 15 := by omega
  simp [hr]
theorem dec_53 {f rd rn rm ra im kd bs st cd rg : Int} (hf : f = 53) (h : ((0 ≤ rd ∧ rd ≤ 12 ∨ rd = 14)) ∧ ((0 ≤ rn ∧ rn ≤ 12 ∨ rn = 14)) ∧ (rm = 0) ∧ (ra = 0) ∧ (0 ≤ im ∧ im ≤ 4095) ∧ (kd = 0) ∧ (bs = 0) ∧ (0 ≤ st ∧ st ≤ 1) ∧ (cd = 0) ∧ (rg = 0)) : decW (4032823296 + (im / 2048 * 67108864 + st * 1048576 + rn * 65536 + im / 256 % 8 * 4096 + rd * 256 + im % 256)) = 53 := by
  obtain ⟨h1, h2, h3, h4, h5, h6, h7, h8, h9, h10⟩ := h
  have g0 : 0 ≤ im / 2048 ∧ im / 2048 ≤ 1 := by omega
  have g1 : 0 ≤ im / 256 % 8 ∧ im / 256 % 8 ≤ 7 := by omega
  have g2 : 0 ≤ im % 256 ∧ im % 256 ≤ 255 := by omega
  generalize im / 2048 = y0 at g0 ⊢
  generalize im / 256 % 8 = y1 at g1 ⊢
  generalize im % 256 = y2 at g2 ⊢
  clear h5
  have e1 : (4032823296 + (y0 * 67108864 + st * 1048576 + rn * 65536 + y1 * 4096 + rd * 256 + y2)) / 65536 = 61536 + y0 * 1024 + st * 16 + rn := by omega
  have e2 : (4032823296 + (y0 * 67108864 + st * 1048576 + rn * 65536 + y1 * 4096 + rd * 256 + y2)) % 65536 = 0 + y1 * 4096 + rd * 256 + y2 := by omega
  unfold decW
  rw [e1, e2]
  clear e1 e2
  rw [hl_imm (o := 3) (r := rd) (n := rn) (by omega) (by omega) (by omega) (by omega) (by omega) (by omega)]
  unfold decO
  have hr : ¬ rn = 15 := by omega
  simp [hr]
theorem dec_54 {f rd rn rm ra im kd bs st cd rg : Int} (hf : f = 54) (h : ((0 ≤ rd ∧ rd ≤ 12 ∨ rd = 14)) ∧ ((0 ≤ rn ∧ rn ≤ 12 ∨ rn = 14)) ∧ (rm = 0) ∧ (ra = 0) ∧ (0 ≤ im ∧ im ≤ 4095) ∧ (kd = 0) ∧ (bs = 0) ∧ (0 ≤ st ∧ st ≤ 1) ∧ (cd = 0) ∧ (rg = 0)) : decW (4034920448 + (im / 2048 * 67108864 + st * 1048576 + rn * 65536 + im / 256 % 8 * 4096 + rd * 256 + im % 256)) = 54 := by
  obtain ⟨h1, h2, h3, h4, h5, h6, h7, h8, h9, h10⟩ := h
  have g0 : 0 ≤ im / 2048 ∧ im / 2048 ≤ 1 := by omega
  have g1 : 0 ≤ im / 256 % 8 ∧ im / 256 % 8 ≤ 7 := by omega
  have g2 : 0 ≤ im % 256 ∧ im % 256 ≤ 255 := by omega
  generalize im / 2048 = y0 at g0 ⊢
  generalize im / 256 % 8 = y1 at g1 ⊢
  generalize im % 256 = y2 at g2 ⊢
  clear h5
  have e1 : (4034920448 + (y0 * 67108864 + st * 1048576 + rn * 65536 + y1 * 4096 + rd * 256 + y2)) / 65536 = 61568 + y0 * 1024 + st * 16 + rn := by omega
  have e2 : (4034920448 + (y0 * 67108864 + st * 1048576 + rn * 65536 + y1 * 4096 + rd * 256 + y2)) % 65536 = 0 + y1 * 4096 + rd * 256 + y2 := by omega
  unfold decW
  rw [e1, e2]
  clear e1 e2
  rw [hl_imm (o := 4) (r := rd) (n := rn) (by omega) (by omega) (by omega) (by omega) (by omega) (by omega)]
  unfold decO
  have hr : ¬ rd = 15 := by omega
  simp [hr]
theorem dec_55 {f rd rn rm ra im kd bs st cd rg : Int} (hf : f = 55) (h : ((0 ≤ rd ∧ rd ≤ 12 ∨ rd = 14)) ∧ ((0 ≤ rn ∧ rn ≤ 12 ∨ rn = 14)) ∧ (rm = 0) ∧ (ra = 0) ∧ (0 ≤ im ∧ im ≤ 4095) ∧ (kd = 0) ∧ (bs = 0) ∧ (0 ≤ st ∧ st ≤ 1) ∧ (cd = 0) ∧ (rg = 0)) : decW (4043309056 + (im / 2048 * 67108864 + st * 1048576 + rn * 65536 + im / 256 % 8 * 4096 + rd * 256 + im % 256)) = 55 := by
  obtain ⟨h1, h2, h3, h4, h5, h6, h7, h8, h9, h10⟩ := h
  have g0 : 0 ≤ im / 2048 ∧ im / 2048 ≤ 1 := by omega
  have g1 : 0 ≤ im / 256 % 8 ∧ im / 256 % 8 ≤ 7 := by omega
  have g2 : 0 ≤ im % 256 ∧ im % 256 ≤ 255 := by omega
  generalize im / 2048 = y0 at g0 ⊢
  generalize im / 256 % 8 = y1 at g1 ⊢
  generalize im % 256 = y2 at g2 ⊢
  clear h5
  have e1 : (4043309056 + (y0 * 67108864 + st * 1048576 + rn * 65536 + y1 * 4096 + rd * 256 + y2)) / 65536 = 61696 + y0 * 1024 + st * 16 + rn := by omega
  have e2 : (4043309056 + (y0 * 67108864 + st * 1048576 + rn * 65536 + y1 * 4096 + rd * 256 + y2)) % 65536 = 0 + y1 * 4096 + rd * 256 + y2 := by omega
  unfold decW
  rw [e1, e2]
  clear e1 e2
  rw [hl_imm (o := 8) (r := rd) (n := rn) (by omega) (by omega) (by omega) (by omega) (by omega) (by omega)]
  unfold decO
  have hr : ¬ rd = 15 := by omega
  simp [hr]
theorem dec_56 {f rd rn rm ra im kd bs st cd rg : Int} (hf : f = 56) (h : ((0 ≤ rd ∧ rd ≤ 12 ∨ rd = 14)) ∧ ((0 ≤ rn ∧ rn ≤ 12 ∨ rn = 14)) ∧ (rm = 0) ∧ (ra = 0) ∧ (0 ≤ im ∧ im ≤ 4095) ∧ (kd = 0) ∧ (bs = 0) ∧ (0 ≤ st ∧ st ≤ 1) ∧ (cd = 0) ∧ (rg = 0)) : decW (4047503360 + (im / 2048 * 67108864 + st * 1048576 + rn * 65536 + im / 256 % 8 * 4096 + rd * 256 + im % 256)) = 56 := by
  obtain ⟨h1, h2, h3, h4, h5, h6, h7, h8, h9, h10⟩ := h
  have g0 : 0 ≤ im / 2048 ∧ im / 2048 ≤ 1 := by omega
  have g1 : 0 ≤ im / 256 % 8 ∧ im / 256 % 8 ≤ 7 := by omega
  have g2 : 0 ≤ im % 256 ∧ im % 256 ≤ 255 := by omega
  generalize im / 2048 = y0 at g0 ⊢
  generalize im / 256 % 8 = y1 at g1 ⊢
  generalize im % 256 = y2 at g2 ⊢
  clear h5
  have e1 : (4047503360 + (y0 * 67108864 + st * 1048576 + rn * 65536 + y1 * 4096 + rd * 256 + y2)) / 65536 = 61760 + y0 * 1024 + st * 16 + rn := by omega
  have e2 : (4047503360 + (y0 * 67108864 + st * 1048576 + rn * 65536 + y1 * 4096 + rd * 256 + y2)) % 65536 = 0 + y1 * 4096 + rd * 256 + y2 := by omega
  unfold decW
  rw [e1, e2]
  clear e1 e2
  rw [hl_imm (o := 10) (r := rd) (n := rn) (by omega) (by omega) (by omega) (by omega) (by omega) (by omega)]
  unfold decO
  simp
theorem dec_57 {f rd rn rm ra im kd bs st cd rg : Int} (hf : f = 57) (h : ((0 ≤ rd ∧ rd ≤ 12 ∨ rd = 14)) ∧ ((0 ≤ rn ∧ rn ≤ 12 ∨ rn = 14)) ∧ (rm = 0) ∧ (ra = 0) ∧ (0 ≤ im ∧ im ≤ 4095) ∧ (kd = 0) ∧ (bs = 0) ∧ (0 ≤ st ∧ st ≤ 1) ∧ (cd = 0) ∧ (rg = 0)) : decW (4049600512 + (im / 2048 * 67108864 + st * 1048576 + rn * 65536 + im / 256 % 8 * 4096 + rd * 256 + im % 256)) = 57 := by
  obtain ⟨h1, h2, h3, h4, h5, h6, h7, h8, h9, h10⟩ := h
  have g0 : 0 ≤ im / 2048 ∧ im / 2048 ≤ 1 := by omega
  have g1 : 0 ≤ im / 256 % 8 ∧ im / 256 % 8 ≤ 7 := by omega
  have g2 : 0 ≤ im % 256 ∧ im % 256 ≤ 255 := by omega
  generalize im / 2048 = y0 at g0 ⊢
  generalize im / 256 % 8 = y1 at g1 ⊢
  generalize im % 256 = y2 at g2 ⊢
  clear h5
  have e1 : (4049600512 + (y0 * 67108864 + st * 1048576 + rn * 65536 + y1 * 4096 + rd * 256 + y2)) / 65536 = 61792 + y0 * 1024 + st * 16 + rn := by omega
  have e2 : (4049600512 + (y0 * 67108864 + st * 1048576 + rn * 65536 + y1 * 4096 + rd * 256 + y2)) % 65536 = 0 + y1 * 4096 + rd * 256 + y2 := by omega
  unfold decW
  rw [e1, e2]
  clear e1 e2
  rw [hl_imm (o := 11) (r := rd) (n := rn) (by omega) (by omega) (by omega) (by omega) (by omega) (by omega)]
  unfold decO
  simp
theorem dec_58 {f rd rn rm ra im kd bs st cd rg : Int} (hf : f = 58) (h : ((0 ≤ rd ∧ rd ≤ 12 ∨ rd = 14)) ∧ ((0 ≤ rn ∧ rn ≤ 12 ∨ rn = 14)) ∧ (rm = 0) ∧ (ra = 0) ∧ (0 ≤ im ∧ im ≤ 4095) ∧ (kd = 0) ∧ (bs = 0) ∧ (0 ≤ st ∧ st ≤ 1) ∧ (cd = 0) ∧ (rg = 0)) : decW (4053794816 + (im / 2048 * 67108864 + st * 1048576 + rn * 65536 + im / 256 % 8 * 4096 + rd * 256 + im % 256)) = 58 := by
  obtain ⟨h1, h2, h3, h4, h5, h6, h7, h8, h9, h10⟩ := h
  have g0 : 0 ≤ im / 2048 ∧ im / 2048 ≤ 1 := by omega
  have g1 : 0 ≤ im / 256 % 8 ∧ im / 256 % 8 ≤ 7 := by omega
  have g2 : 0 ≤ im % 256 ∧ im % 256 ≤ 255 := by omega
  generalize im / 2048 = y0 at g0 ⊢
  generalize im / 256 % 8 = y1 at g1 ⊢
  generalize im % 256 = y2 at g2 ⊢
  clear h5
  have e1 : (4053794816 + (y0 * 67108864 + st * 1048576 + rn * 65536 + y1 * 4096 + rd * 256 + y2)) / 65536 = 61856 + y0 * 1024 + st * 16 + rn := by omega
  have e2 : (4053794816 + (y0 * 67108864 + st * 1048576 + rn * 65536 + y1 * 4096 + rd * 256 + y2)) % 65536 = 0 + y1 * 4096 + rd * 256 + y2 := by omega
  unfold decW
  rw [e1, e2]
  clear e1 e2
  rw [hl_imm (o := 13) (r := rd) (n := rn) (by omega) (by omega) (by omega) (by omega) (by omega) (by omega)]
  unfold decO
  have hr : ¬ rd = 15 := by omega
  simp [hr]
theorem dec_59 {f rd rn rm ra im kd bs st cd rg : Int} (hf : f = 59) (h : ((0 ≤ rd ∧ rd ≤ 12 ∨ rd = 14)) ∧ ((0 ≤ rn ∧ rn ≤ 12 ∨ rn = 14)) ∧ (rm = 0) ∧ (ra = 0) ∧ (0 ≤ im ∧ im ≤ 4095) ∧ (kd = 0) ∧ (bs = 0) ∧ (0 ≤ st ∧ st ≤ 1) ∧ (cd = 0) ∧ (rg = 0)) : decW (4055891968 + (im / 2048 * 67108864 + st * 1048576 + rn * 65536 + im / 256 % 8 * 4096 + rd * 256 + im % 256)) = 59 := by
  obtain ⟨h1, h2, h3, h4, h5, h6, h7, h8, h9, h10⟩ := h
  have g0 : 0 ≤ im / 2048 ∧ im / 2048 ≤ 1 := by omega
  have g1 : 0 ≤ im / 256 % 8 ∧ im / 256 % 8 ≤ 7 := by omega
  have g2 : 0 ≤ im % 256 ∧ im % 256 ≤ 255 := by omega
  generalize im / 2048 = y0 at g0 ⊢
  generalize im / 256 % 8 = y1 at g1 ⊢
  generalize im % 256 = y2 at g2 ⊢
  clear h5
  have e1 : (4055891968 + (y0 * 67108864 + st * 1048576 + rn * 65536 + y1 * 4096 + rd * 256 + y2)) / 65536 = 61888 + y0 * 1024 + st * 16 + rn := by omega
  have e2 : (4055891968 + (y0 * 67108864 + st * 1048576 + rn * 65536 + y1 * 4096 + rd * 256 + y2)) % 65536 = 0 + y1 * 4096 + rd * 256 + y2 := by omega
  unfold decW
  rw [e1, e2]
  clear e1 e2
  rw [hl_imm (o := 14) (r := rd) (n := rn) (by omega) (by omega) (by omega) (by omega) (by omega) (by omega)]
  unfold decO
  simp
theorem dec_60 {f rd rn rm ra im kd bs st cd rg : Int} (hf : f = 60) (h : ((0 ≤ rd ∧ rd ≤ 12 ∨ rd = 14)) ∧ (rn = 0) ∧ (rm = 0) ∧ (ra = 0) ∧ (0 ≤ im ∧ im ≤ 4095) ∧ (kd = 0) ∧ (bs = 0) ∧ (0 ≤ st ∧ st ≤ 1) ∧ (cd = 0) ∧ (rg = 0)) : decW (4031709184 + (im / 2048 * 67108864 + st * 1048576 + rn * 65536 + im / 256 % 8 * 4096 + rd * 256 + im % 256)) = 60 := by
  obtain ⟨h1, h2, h3, h4, h5, h6, h7, h8, h9, h10⟩ := h
  have g0 : 0 ≤ im / 2048 ∧ im / 2048 ≤ 1 := by omega
  have g1 : 0 ≤ im / 256 % 8 ∧ im / 256 % 8 ≤ 7 := by omega
  have g2 : 0 ≤ im % 256 ∧ im % 256 ≤ 255 := by omega
  generalize im / 2048 = y0 at g0 ⊢
  generalize im / 256 % 8 = y1 at g1 ⊢
  generalize im % 256 = y2 at g2 ⊢
  clear h5
  have e1 : (4031709184 + (y0 * 67108864 + st * 1048576 + rn * 65536 + y1 * 4096 + rd * 256 + y2)) / 65536 = 61519 + y0 * 1024 + st * 16 + rn := by omega
  have e2 : (4031709184 + (y0 * 67108864 + st * 1048576 + rn * 65536 + y1 * 4096 + rd * 256 + y2)) % 65536 = 0 + y1 * 4096 + rd * 256 + y2 := by omega
  unfold decW
  rw [e1, e2]
  clear e1 e2
  rw [hl_imm (o := 2) (r := rd) (n := 15) (by omega) (by omega) (by omega) (by omega) (by omega) (by omega)]
  unfold decO
  simp
theorem dec_61 {f rd rn rm ra im kd bs st cd rg : Int} (hf : f = 61) (h : ((0 ≤ rd ∧ rd ≤ 12 ∨ rd = 14)) ∧ (rn = 0) ∧ (rm = 0) ∧ (ra = 0) ∧ (0 ≤ im ∧ im ≤ 4095) ∧ (kd = 0) ∧ (bs = 0) ∧ (0 ≤ st ∧ st ≤ 1) ∧ (cd = 0) ∧ (rg = 0)) : decW (4033806336 + (im / 2048 * 67108864 + st * 1048576 + rn * 65536 + im / 256 % 8 * 4096 + rd * 256 + im % 256)) = 61 := by
  obtain ⟨h1, h2, h3, h4, h5, h6, h7, h8, h9, h10⟩ := h
  have g0 : 0 ≤ im / 2048 ∧ im / 2048 ≤ 1 := by omega
  have g1 : 0 ≤ im / 256 % 8 ∧ im / 256 % 8 ≤ 7 := by omega
  have g2 : 0 ≤ im % 256 ∧ im % 256 ≤ 255 := by omega
  generalize im / 2048 = y0 at g0 ⊢
  generalize im / 256 % 8 = y1 at g1 ⊢
  generalize im % 256 = y2 at g2 ⊢
  clear h5
  have e1 : (4033806336 + (y0 * 67108864 + st * 1048576 + rn * 65536 + y1 * 4096 + rd * 256 + y2)) / 65536 = 61551 + y0 * 1024 + st * 16 + rn := by omega
  have e2 : (4033806336 + (y0 * 67108864 + st * 1048576 + rn * 65536 + y1 * 4096 + rd * 256 + y2)) % 65536 = 0 + y1 * 4096 + rd * 256 + y2 := by omega
  unfold decW
  rw [e1, e2]
  clear e1 e2
  rw [hl_imm (o := 3) (r := rd) (n := 15) (by omega) (by omega) (by omega) (by omega) (by omega) (by omega)]
  unfold decO
  simp
theorem dec_62 {f rd rn rm ra im kd bs st cd rg : Int} (hf : f = 62) (h : (rd = 0) ∧ ((0 ≤ rn ∧ rn ≤ 12 ∨ rn = 14)) ∧ (rm = 0) ∧ (ra = 0) ∧ (0 ≤ im ∧ im ≤ 4095) ∧ (kd = 0) ∧ (bs = 0) ∧ (st = 0) ∧ (cd = 0) ∧ (rg = 0)) : decW (4027584256 + (im / 2048 * 67108864 + st * 1048576 + rn * 65536 + im / 256 % 8 * 4096 + rd * 256 + im % 256)) = 62 := by
  obtain ⟨h1, h2, h3, h4, h5, h6, h7, h8, h9, h10⟩ := h
  have g0 : 0 ≤ im / 2048 ∧ im / 2048 ≤ 1 := by omega
  have g1 : 0 ≤ im / 256 % 8 ∧ im / 256 % 8 ≤ 7 := by omega
  have g2 : 0 ≤ im % 256 ∧ im % 256 ≤ 255 := by omega
  generalize im / 2048 = y0 at g0 ⊢
  generalize im / 256 % 8 = y1 at g1 ⊢
  generalize im % 256 = y2 at g2 ⊢
  clear h5
  have e1 : (4027584256 + (y0 * 67108864 + st * 1048576 + rn * 65536 + y1 * 4096 + rd * 256 + y2)) / 65536 = 61456 + y0 * 1024 + st * 16 + rn := by omega
  have e2 : (4027584256 + (y0 * 67108864 + st * 1048576 + rn * 65536 + y1 * 4096 + rd * 256 + y2)) % 65536 = 3840 + y1 * 4096 + rd * 256 + y2 := by omega
  unfold decW
  rw [e1, e2]
  clear e1 e2
  rw [hl_imm (o := 0) (r := 15) (n := rn) (by omega) (by omega) (by omega) (by omega) (by omega) (by omega)]
  unfold decO
  simp
theorem dec_63 {f rd rn rm ra im kd bs st cd rg : Int} (hf : f = 63) (h : (rd = 0) ∧ ((0 ≤ rn ∧ rn ≤ 12 ∨ rn = 14)) ∧ (rm = 0) ∧ (ra = 0) ∧ (0 ≤ im ∧ im ≤ 4095) ∧ (kd = 0) ∧ (bs = 0) ∧ (st = 0) ∧ (cd = 0) ∧ (rg = 0)) : decW (4035972864 + (im / 2048 * 67108864 + st * 1048576 + rn * 65536 + im / 256 % 8 * 4096 + rd * 256 + im % 256)) = 63 := by
  obtain ⟨h1, h2, h3, h4, h5, h6, h7, h8, h9, h10⟩ := h
  have g0 : 0 ≤ im / 2048 ∧ im / 2048 ≤ 1 := by omega
  have g1 : 0 ≤ im / 256 % 8 ∧ im / 256 % 8 ≤ 7 := by omega
  have g2 : 0 ≤ im % 256 ∧ im % 256 ≤ 255 := by omega
  generalize im / 2048 = y0 at g0 ⊢
  generalize im / 256 % 8 = y1 at g1 ⊢
  generalize im % 256 = y2 at g2 ⊢
  clear h5
  have e1 : (4035972864 + (y0 * 67108864 + st * 1048576 + rn * 65536 + y1 * 4096 + rd * 256 + y2)) / 65536 = 61584 + y0 * 1024 + st * 16 + rn := by omega
  have e2 : (4035972864 + (y0 * 67108864 + st * 1048576 + rn * 65536 + y1 * 4096 + rd * 256 + y2)) % 65536 = 3840 + y1 * 4096 + rd * 256 + y2 := by omega
  unfold decW
  rw [e1, e2]
  clear e1 e2
  rw [hl_imm (o := 4) (r := 15) (n := rn) (by omega) (by omega) (by omega) (by omega) (by omega) (by omega)]
  unfold decO
  simp
theorem dec_64 {f rd rn rm ra im kd bs st cd rg : Int} (hf : f = 64) (h : (rd = 0) ∧ ((0 ≤ rn ∧ rn ≤ 12 ∨ rn = 14)) ∧ (rm = 0) ∧ (ra = 0) ∧ (0 ≤ im ∧ im ≤ 4095) ∧ (kd = 0) ∧ (bs = 0) ∧ (st = 0) ∧ (cd = 0) ∧ (rg = 0)) : decW (4044361472 + (im / 2048 * 67108864 + st * 1048576 + rn * 65536 + im / 256 % 8 * 4096 + rd * 256 + im % 256)) = 64 := by
  obtain ⟨h1, h2, h3, h4, h5, h6, h7, h8, h9, h10⟩ := h
  have g0 : 0 ≤ im / 2048 ∧ im / 2048 ≤ 1 := by omega
  have g1 : 0 ≤ im / 256 % 8 ∧ im / 256 % 8 ≤ 7 := by omega
  have g2 : 0 ≤ im % 256 ∧ im % 256 ≤ 255 := by omega
  generalize im / 2048 = y0 at g0 ⊢
  generalize im / 256 % 8 = y1 at g1 ⊢
  generalize im % 256 = y2 at g2 ⊢
  clear h5
  have e1 : (4044361472 + (y0 * 67108864 + st * 1048576 + rn * 65536 + y1 * 4096 + rd * 256 + y2)) / 65536 = 61712 + y0 * 1024 + st * 16 + rn := by omega
  have e2 : (4044361472 + (y0 * 67108864 + st * 1048576 + rn * 65536 + y1 * 4096 + rd * 256 + y2)) % 65536 = 3840 + y1 * 4096 + rd * 256 + y2 := by omega
  unfold decW
  rw [e1, e2]
  clear e1 e2
  rw [hl_imm (o := 8) (r := 15) (n := rn) (by omega) (by omega) (by omega) (by omega) (by omega) (by omega)]
  unfold decO
  simp
theorem dec_65 {f rd rn rm ra im kd bs st cd rg : Int} (hf : f = 65) (h : (rd = 0) ∧ ((0 ≤ rn ∧ rn ≤ 12 ∨ rn = 14)) ∧ (rm = 0) ∧ (ra = 0) ∧ (0 ≤ im ∧ im ≤ 4095) ∧ (kd = 0) ∧ (bs = 0) ∧ (st = 0) ∧ (cd = 0) ∧ (rg = 0)) : decW (4054847232 + (im / 2048 * 67108864 + st * 1048576 + rn * 65536 + im / 256 % 8 * 4096 + rd * 256 + im % 256)) = 65 := by
  obtain ⟨h1, h2, h3, h4, h5, h6, h7, h8, h9, h10⟩ := h
  have g0 : 0 ≤ im / 2048 ∧ im / 2048 ≤ 1 := by omega
  have g1 : 0 ≤ im / 256 % 8 ∧ im / 256 % 8 ≤ 7 := by omega
  have g2 : 0 ≤ im % 256 ∧ im % 256 ≤ 255 := by omega
  generalize im / 2048 = y0 at g0 ⊢
  generalize im / 256 % 8 = y1 at g1 ⊢
  generalize im % 256 = y2 at g2 ⊢
  clear h5
  have e1 : (4054847232 + (y0 * 67108864 + st * 1048576 + rn * 65536 + y1 * 4096 + rd * 256 + y2)) / 65536 = 61872 + y0 * 1024 + st * 16 + rn := by omega
  have e2 : (4054847232 + (y0 * 67108864 + st * 1048576 + rn * 65536 + y1 * 4096 + rd * 256 + y2)) % 65536 = 3840 + y1 * 4096 + rd * 256 + y2 := by omega
  unfold decW
  rw [e1, e2]
  clear e1 e2
  rw [hl_imm (o := 13) (r := 15) (n := rn) (by omega) (by omega) (by omega) (by omega) (by omega) (by omega)]
  unfold decO
  simp

end Go.Proofs.YtpgcnbipnjcniaaDoor.Code
