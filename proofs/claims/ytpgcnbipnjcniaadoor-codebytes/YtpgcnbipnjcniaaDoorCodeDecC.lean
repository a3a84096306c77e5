/- The form of a right instruction is told by its word: forms 66 to 81. -/
import Derived.Test.YtpgcnbipnjcniaaDoorCodeSum
set_option linter.unusedVariables false
set_option linter.unusedSimpArgs false
namespace Go.Proofs.YtpgcnbipnjcniaaDoor.Code
open Go.Proofs.YtpgcnbipnjcniaaDoor.Alu Go.Proofs.YtpgcnbipnjcniaaDoor.Imm Go.Proofs.YtpgcnbipnjcniaaDoor.Inst

theorem dec_66 {f rd rn rm ra im kd bs st cd rg : Int} (hf : f = 66) (h : ((0 ≤ rd ∧ rd ≤ 12 ∨ rd = 14)) ∧ ((0 ≤ rn ∧ rn ≤ 12 ∨ rn = 14)) ∧ ((0 ≤ rm ∧ rm ≤ 12 ∨ rm = 14)) ∧ (ra = 0) ∧ (im = 0) ∧ (0 ≤ st ∧ st ≤ 1) ∧ (cd = 0) ∧ (rg = 0) ∧ ((kd = 0 ∧ 0 ≤ bs ∧ bs ≤ 31) ∨ ((kd = 1 ∨ kd = 2) ∧ 1 ≤ bs ∧ bs ≤ 32) ∨ (kd = 3 ∧ 1 ≤ bs ∧ bs ≤ 31))) : decW (3925868544 + (st * 1048576 + rn * 65536 + bs / 4 % 8 * 4096 + rd * 256 + bs % 4 * 64 + kd * 16 + rm)) = 66 := by
  obtain ⟨h1, h2, h3, h4, h5, h6, h7, h8, h9⟩ := h
  have g0 : 0 ≤ bs / 4 % 8 ∧ bs / 4 % 8 ≤ 7 := by omega
  have g1 : 0 ≤ bs % 4 ∧ bs % 4 ≤ 3 := by omega
  generalize bs / 4 % 8 = y0 at g0 ⊢
  generalize bs % 4 = y1 at g1 ⊢
  have e1 : (3925868544 + (st * 1048576 + rn * 65536 + y0 * 4096 + rd * 256 + y1 * 64 + kd * 16 + rm)) / 65536 = 59904 + st * 16 + rn := by omega
  have e2 : (3925868544 + (st * 1048576 + rn * 65536 + y0 * 4096 + rd * 256 + y1 * 64 + kd * 16 + rm)) % 65536 = 0 + y0 * 4096 + rd * 256 + y1 * 64 + kd * 16 + rm := by omega
  unfold decW
  rw [e1, e2]
  clear e1 e2
  rw [hl_shift (o := 0) (r := rd) (n := rn) (by omega) (by omega) (by omega) (by omega)]
  unfold decO
  have hr : ¬ rd = 15 := by omega
  simp [hr]
theorem dec_67 {f rd rn rm ra im kd bs st cd rg : Int} (hf : f = 67) (h : ((0 ≤ rd ∧ rd ≤ 12 ∨ rd = 14)) ∧ ((0 ≤ rn ∧ rn ≤ 12 ∨ rn = 14)) ∧ ((0 ≤ rm ∧ rm ≤ 12 ∨ rm = 14)) ∧ (ra = 0) ∧ (im = 0) ∧ (0 ≤ st ∧ st ≤ 1) ∧ (cd = 0) ∧ (rg = 0) ∧ ((kd = 0 ∧ 0 ≤ bs ∧ bs ≤ 31) ∨ ((kd = 1 ∨ kd = 2) ∧ 1 ≤ bs ∧ bs ≤ 32) ∨ (kd = 3 ∧ 1 ≤ bs ∧ bs ≤ 31))) : decW (3927965696 + (st * 1048576 + rn * 65536 + bs / 4 % 8 * 4096 + rd * 256 + bs % 4 * 64 + kd * 16 + rm)) = 67 := by
  obtain ⟨h1, h2, h3, h4, h5, h6, h7, h8, h9⟩ := h
  have g0 : 0 ≤ bs / 4 % 8 ∧ bs / 4 % 8 ≤ 7 := by omega
  have g1 : 0 ≤ bs % 4 ∧ bs % 4 ≤ 3 := by omega
  generalize bs / 4 % 8 = y0 at g0 ⊢
  generalize bs % 4 = y1 at g1 ⊢
  have e1 : (3927965696 + (st * 1048576 + rn * 65536 + y0 * 4096 + rd * 256 + y1 * 64 + kd * 16 + rm)) / 65536 = 59936 + st * 16 + rn := by omega
  have e2 : (3927965696 + (st * 1048576 + rn * 65536 + y0 * 4096 + rd * 256 + y1 * 64 + kd * 16 + rm)) % 65536 = 0 + y0 * 4096 + rd * 256 + y1 * 64 + kd * 16 + rm := by omega
  unfold decW
  rw [e1, e2]
  clear e1 e2
  rw [hl_shift (o := 1) (r := rd) (n := rn) (by omega) (by omega) (by omega) (by omega)]
  unfold decO
  simp
theorem dec_68 {f rd rn rm ra im kd bs st cd rg : Int} (hf : f = 68) (h : ((0 ≤ rd ∧ rd ≤ 12 ∨ rd = 14)) ∧ ((0 ≤ rn ∧ rn ≤ 12 ∨ rn = 14)) ∧ ((0 ≤ rm ∧ rm ≤ 12 ∨ rm = 14)) ∧ (ra = 0) ∧ (im = 0) ∧ (0 ≤ st ∧ st ≤ 1) ∧ (cd = 0) ∧ (rg = 0) ∧ ((kd = 0 ∧ 0 ≤ bs ∧ bs ≤ 31) ∨ ((kd = 1 ∨ kd = 2) ∧ 1 ≤ bs ∧ bs ≤ 32) ∨ (kd = 3 ∧ 1 ≤ bs ∧ bs ≤ 31))) : decW (3930062848 + (st * 1048576 + rn * 65536 + bs / 4 % 8 * 4096 + rd * 256 + bs % 4 * 64 + kd * 16 + rm)) = 68 := by
  obtain ⟨h1, h2, h3, h4, h5, h6, h7, h8, h9⟩ := h
  have g0 : 0 ≤ bs / 4 % 8 ∧ bs / 4 % 8 ≤ 7 := by omega
  have g1 : 0 ≤ bs % 4 ∧ bs % 4 ≤ 3 := by omega
  generalize bs / 4 % 8 = y0 at g0 ⊢
  generalize bs % 4 = y1 at g1 ⊢
  have e1 : (3930062848 + (st * 1048576 + rn * 65536 + y0 * 4096 + rd * 256 + y1 * 64 + kd * 16 + rm)) / 65536 = 59968 + st * 16 + rn := by omega
  have e2 : (3930062848 + (st * 1048576 + rn * 65536 + y0 * 4096 + rd * 256 + y1 * 64 + kd * 16 + rm)) % 65536 = 0 + y0 * 4096 + rd * 256 + y1 * 64 + kd * 16 + rm := by omega
  unfold decW
  rw [e1, e2]
  clear e1 e2
  rw [hl_shift (o := 2) (r := rd) (n := rn) (by omega) (by omega) (by omega) (by omega)]
  unfold decO
  have hr : ¬ rn = 15 := by omega
  simp [hr]
theorem dec_69 {f rd rn rm ra im kd bs st cd rg : Int} (hf : f = 69) (h : ((0 ≤ rd ∧ rd ≤ 12 ∨ rd = 14)) ∧ ((0 ≤ rn ∧ rn ≤ 12 ∨ rn = 14)) ∧ ((0 ≤ rm ∧ rm ≤ 12 ∨ rm = 14)) ∧ (ra = 0) ∧ (im = 0) ∧ (0 ≤ st ∧ st ≤ 1) ∧ (cd = 0) ∧ (rg = 0) ∧ ((kd = 0 ∧ 0 ≤ bs ∧ bs ≤ 31) ∨ ((kd = 1 ∨ kd = 2) ∧ 1 ≤ bs ∧ bs ≤ 32) ∨ (kd = 3 ∧ 1 ≤ bs ∧ bs ≤ 31))) : decW (3932160000 + (st * 1048576 + rn * 65536 + bs / 4 % 8 * 4096 + rd * 256 + bs % 4 * 64 + kd * 16 + rm)) = 69 := by
  obtain ⟨h1, h2, h3, h4, h5, h6, h7, h8, h9⟩ := h
  have g0 : 0 ≤ bs / 4 % 8 ∧ bs / 4 % 8 ≤ 7 := by omega
  have g1 : 0 ≤ bs % 4 ∧ bs % 4 ≤ 3 := by omega
  generalize bs / 4 % 8 = y0 at g0 ⊢
  generalize bs % 4 = y1 at g1 ⊢
  have e1 : (3932160000 + (st * 1048576 + rn * 65536 + y0 * 4096 + rd * 256 + y1 * 64 + kd * 16 + rm)) / 65536 = 60000 + st * 16 + rn := by omega
  have e2 : (3932160000 + (st * 1048576 + rn * 65536 + y0 * 4096 + rd * 256 + y1 * 64 + kd * 16 + rm)) % 65536 = 0 + y0 * 4096 + rd * 256 + y1 * 64 + kd * 16 + rm := by omega
  unfold decW
  rw [e1, e2]
  clear e1 e2
  rw [hl_shift (o := 3) (r := rd) (n := rn) (by omega) (by omega) (by omega) (by omega)]
  unfold decO
  have hr : ¬ rn = 15 := by omega
  simp [hr]
theorem dec_70 {f rd rn rm ra im kd bs st cd rg : Int} (hf : f = 70) (h : ((0 ≤ rd ∧ rd ≤ 12 ∨ rd = 14)) ∧ ((0 ≤ rn ∧ rn ≤ 12 ∨ rn = 14)) ∧ ((0 ≤ rm ∧ rm ≤ 12 ∨ rm = 14)) ∧ (ra = 0) ∧ (im = 0) ∧ (0 ≤ st ∧ st ≤ 1) ∧ (cd = 0) ∧ (rg = 0) ∧ ((kd = 0 ∧ 0 ≤ bs ∧ bs ≤ 31) ∨ ((kd = 1 ∨ kd = 2) ∧ 1 ≤ bs ∧ bs ≤ 32) ∨ (kd = 3 ∧ 1 ≤ bs ∧ bs ≤ 31))) : decW (3934257152 + (st * 1048576 + rn * 65536 + bs / 4 % 8 * 4096 + rd * 256 + bs % 4 * 64 + kd * 16 + rm)) = 70 := by
  obtain ⟨h1, h2, h3, h4, h5, h6, h7, h8, h9⟩ := h
  have g0 : 0 ≤ bs / 4 % 8 ∧ bs / 4 % 8 ≤ 7 := by omega
  have g1 : 0 ≤ bs % 4 ∧ bs % 4 ≤ 3 := by omega
  generalize bs / 4 % 8 = y0 at g0 ⊢
  generalize bs % 4 = y1 at g1 ⊢
  have e1 : (3934257152 + (st * 1048576 + rn * 65536 + y0 * 4096 + rd * 256 + y1 * 64 + kd * 16 + rm)) / 65536 = 60032 + st * 16 + rn := by omega
  have e2 : (3934257152 + (st * 1048576 + rn * 65536 + y0 * 4096 + rd * 256 + y1 * 64 + kd * 16 + rm)) % 65536 = 0 + y0 * 4096 + rd * 256 + y1 * 64 + kd * 16 + rm := by omega
  unfold decW
  rw [e1, e2]
  clear e1 e2
  rw [hl_shift (o := 4) (r := rd) (n := rn) (by omega) (by omega) (by omega) (by omega)]
  unfold decO
  have hr : ¬ rd = 15 := by omega
  simp [hr]
theorem dec_71 {f rd rn rm ra im kd bs st cd rg : Int} (hf : f = 71) (h : ((0 ≤ rd ∧ rd ≤ 12 ∨ rd = 14)) ∧ ((0 ≤ rn ∧ rn ≤ 12 ∨ rn = 14)) ∧ ((0 ≤ rm ∧ rm ≤ 12 ∨ rm = 14)) ∧ (ra = 0) ∧ (im = 0) ∧ (0 ≤ st ∧ st ≤ 1) ∧ (cd = 0) ∧ (rg = 0) ∧ ((kd = 0 ∧ 0 ≤ bs ∧ bs ≤ 31) ∨ ((kd = 1 ∨ kd = 2) ∧ 1 ≤ bs ∧ bs ≤ 32) ∨ (kd = 3 ∧ 1 ≤ bs ∧ bs ≤ 31))) : decW (3942645760 + (st * 1048576 + rn * 65536 + bs / 4 % 8 * 4096 + rd * 256 + bs % 4 * 64 + kd * 16 + rm)) = 71 := by
  obtain ⟨h1, h2, h3, h4, h5, h6, h7, h8, h9⟩ := h
  have g0 : 0 ≤ bs / 4 % 8 ∧ bs / 4 % 8 ≤ 7 := by omega
  have g1 : 0 ≤ bs % 4 ∧ bs % 4 ≤ 3 := by omega
  generalize bs / 4 % 8 = y0 at g0 ⊢
  generalize bs % 4 = y1 at g1 ⊢
  have e1 : (3942645760 + (st * 1048576 + rn * 65536 + y0 * 4096 + rd * 256 + y1 * 64 + kd * 16 + rm)) / 65536 = 60160 + st * 16 + rn := by omega
  have e2 : (3942645760 + (st * 1048576 + rn * 65536 + y0 * 4096 + rd * 256 + y1 * 64 + kd * 16 + rm)) % 65536 = 0 + y0 * 4096 + rd * 256 + y1 * 64 + kd * 16 + rm := by omega
  unfold decW
  rw [e1, e2]
  clear e1 e2
  rw [hl_shift (o := 8) (r := rd) (n := rn) (by omega) (by omega) (by omega) (by omega)]
  unfold decO
  have hr : ¬ rd = 15 := by omega
  simp [hr]
theorem dec_72 {f rd rn rm ra im kd bs st cd rg : Int} (hf : f = 72) (h : ((0 ≤ rd ∧ rd ≤ 12 ∨ rd = 14)) ∧ ((0 ≤ rn ∧ rn ≤ 12 ∨ rn = 14)) ∧ ((0 ≤ rm ∧ rm ≤ 12 ∨ rm = 14)) ∧ (ra = 0) ∧ (im = 0) ∧ (0 ≤ st ∧ st ≤ 1) ∧ (cd = 0) ∧ (rg = 0) ∧ ((kd = 0 ∧ 0 ≤ bs ∧ bs ≤ 31) ∨ ((kd = 1 ∨ kd = 2) ∧ 1 ≤ bs ∧ bs ≤ 32) ∨ (kd = 3 ∧ 1 ≤ bs ∧ bs ≤ 31))) : decW (3946840064 + (st * 1048576 + rn * 65536 + bs / 4 % 8 * 4096 + rd * 256 + bs % 4 * 64 + kd * 16 + rm)) = 72 := by
  obtain ⟨h1, h2, h3, h4, h5, h6, h7, h8, h9⟩ := h
  have g0 : 0 ≤ bs / 4 % 8 ∧ bs / 4 % 8 ≤ 7 := by omega
  have g1 : 0 ≤ bs % 4 ∧ bs % 4 ≤ 3 := by omega
  generalize bs / 4 % 8 = y0 at g0 ⊢
  generalize bs % 4 = y1 at g1 ⊢
  have e1 : (3946840064 + (st * 1048576 + rn * 65536 + y0 * 4096 + rd * 256 + y1 * 64 + kd * 16 + rm)) / 65536 = 60224 + st * 16 + rn := by omega
  have e2 : (3946840064 + (st * 1048576 + rn * 65536 + y0 * 4096 + rd * 256 + y1 * 64 + kd * 16 + rm)) % 65536 = 0 + y0 * 4096 + rd * 256 + y1 * 64 + kd * 16 + rm := by omega
  unfold decW
  rw [e1, e2]
  clear e1 e2
  rw [hl_shift (o := 10) (r := rd) (n := rn) (by omega) (by omega) (by omega) (by omega)]
  unfold decO
  simp
theorem dec_73 {f rd rn rm ra im kd bs st cd rg : Int} (hf : f = 73) (h : ((0 ≤ rd ∧ rd ≤ 12 ∨ rd = 14)) ∧ ((0 ≤ rn ∧ rn ≤ 12 ∨ rn = 14)) ∧ ((0 ≤ rm ∧ rm ≤ 12 ∨ rm = 14)) ∧ (ra = 0) ∧ (im = 0) ∧ (0 ≤ st ∧ st ≤ 1) ∧ (cd = 0) ∧ (rg = 0) ∧ ((kd = 0 ∧ 0 ≤ bs ∧ bs ≤ 31) ∨ ((kd = 1 ∨ kd = 2) ∧ 1 ≤ bs ∧ bs ≤ 32) ∨ (kd = 3 ∧ 1 ≤ bs ∧ bs ≤ 31))) : decW (3948937216 + (st * 1048576 + rn * 65536 + bs / 4 % 8 * 4096 + rd * 256 + bs % 4 * 64 + kd * 16 + rm)) = 73 := by
  obtain ⟨h1, h2, h3, h4, h5, h6, h7, h8, h9⟩ := h
  have g0 : 0 ≤ bs / 4 % 8 ∧ bs / 4 % 8 ≤ 7 := by omega
  have g1 : 0 ≤ bs % 4 ∧ bs % 4 ≤ 3 := by omega
  generalize bs / 4 % 8 = y0 at g0 ⊢
  generalize bs % 4 = y1 at g1 ⊢
  have e1 : (3948937216 + (st * 1048576 + rn * 65536 + y0 * 4096 + rd * 256 + y1 * 64 + kd * 16 + rm)) / 65536 = 60256 + st * 16 + rn := by omega
  have e2 : (3948937216 + (st * 1048576 + rn * 65536 + y0 * 4096 + rd * 256 + y1 * 64 + kd * 16 + rm)) % 65536 = 0 + y0 * 4096 + rd * 256 + y1 * 64 + kd * 16 + rm := by omega
  unfold decW
  rw [e1, e2]
  clear e1 e2
  rw [hl_shift (o := 11) (r := rd) (n := rn) (by omega) (by omega) (by omega) (by omega)]
  unfold decO
  simp
theorem dec_74 {f rd rn rm ra im kd bs st cd rg : Int} (hf : f = 74) (h : ((0 ≤ rd ∧ rd ≤ 12 ∨ rd = 14)) ∧ ((0 ≤ rn ∧ rn ≤ 12 ∨ rn = 14)) ∧ ((0 ≤ rm ∧ rm ≤ 12 ∨ rm = 14)) ∧ (ra = 0) ∧ (im = 0) ∧ (0 ≤ st ∧ st ≤ 1) ∧ (cd = 0) ∧ (rg = 0) ∧ ((kd = 0 ∧ 0 ≤ bs ∧ bs ≤ 31) ∨ ((kd = 1 ∨ kd = 2) ∧ 1 ≤ bs ∧ bs ≤ 32) ∨ (kd = 3 ∧ 1 ≤ bs ∧ bs ≤ 31))) : decW (3953131520 + (st * 1048576 + rn * 65536 + bs / 4 % 8 * 4096 + rd * 256 + bs % 4 * 64 + kd * 16 + rm)) = 74 := by
  obtain ⟨h1, h2, h3, h4, h5, h6, h7, h8, h9⟩ := h
  have g0 : 0 ≤ bs / 4 % 8 ∧ bs / 4 % 8 ≤ 7 := by omega
  have g1 : 0 ≤ bs % 4 ∧ bs % 4 ≤ 3 := by omega
  generalize bs / 4 % 8 = y0 at g0 ⊢
  generalize bs % 4 = y1 at g1 ⊢
  have e1 : (3953131520 + (st * 1048576 + rn * 65536 + y0 * 4096 + rd * 256 + y1 * 64 + kd * 16 + rm)) / 65536 = 60320 + st * 16 + rn := by omega
  have e2 : (3953131520 + (st * 1048576 + rn * 65536 + y0 * 4096 + rd * 256 + y1 * 64 + kd * 16 + rm)) % 65536 = 0 + y0 * 4096 + rd * 256 + y1 * 64 + kd * 16 + rm := by omega
  unfold decW
  rw [e1, e2]
  clear e1 e2
  rw [hl_shift (o := 13) (r := rd) (n := rn) (by omega) (by omega) (by omega) (by omega)]
  unfold decO
  have hr : ¬ rd = 15 := by omega
  simp [hr]
theorem dec_75 {f rd rn rm ra im kd bs st cd rg : Int} (hf : f = 75) (h : ((0 ≤ rd ∧ rd ≤ 12 ∨ rd = 14)) ∧ ((0 ≤ rn ∧ rn ≤ 12 ∨ rn = 14)) ∧ ((0 ≤ rm ∧ rm ≤ 12 ∨ rm = 14)) ∧ (ra = 0) ∧ (im = 0) ∧ (0 ≤ st ∧ st ≤ 1) ∧ (cd = 0) ∧ (rg = 0) ∧ ((kd = 0 ∧ 0 ≤ bs ∧ bs ≤ 31) ∨ ((kd = 1 ∨ kd = 2) ∧ 1 ≤ bs ∧ bs ≤ 32) ∨ (kd = 3 ∧ 1 ≤ bs ∧ bs ≤ 31))) : decW (3955228672 + (st * 1048576 + rn * 65536 + bs / 4 % 8 * 4096 + rd * 256 + bs % 4 * 64 + kd * 16 + rm)) = 75 := by
  obtain ⟨h1, h2, h3, h4, h5, h6, h7, h8, h9⟩ := h
  have g0 : 0 ≤ bs / 4 % 8 ∧ bs / 4 % 8 ≤ 7 := by omega
  have g1 : 0 ≤ bs % 4 ∧ bs % 4 ≤ 3 := by omega
  generalize bs / 4 % 8 = y0 at g0 ⊢
  generalize bs % 4 = y1 at g1 ⊢
  have e1 : (3955228672 + (st * 1048576 + rn * 65536 + y0 * 4096 + rd * 256 + y1 * 64 + kd * 16 + rm)) / 65536 = 60352 + st * 16 + rn := by omega
  have e2 : (3955228672 + (st * 1048576 + rn * 65536 + y0 * 4096 + rd * 256 + y1 * 64 + kd * 16 + rm)) % 65536 = 0 + y0 * 4096 + rd * 256 + y1 * 64 + kd * 16 + rm := by omega
  unfold decW
  rw [e1, e2]
  clear e1 e2
  rw [hl_shift (o := 14) (r := rd) (n := rn) (by omega) (by omega) (by omega) (by omega)]
  unfold decO
  simp
theorem dec_76 {f rd rn rm ra im kd bs st cd rg : Int} (hf : f = 76) (h : ((0 ≤ rd ∧ rd ≤ 12 ∨ rd = 14)) ∧ (rn = 0) ∧ ((0 ≤ rm ∧ rm ≤ 12 ∨ rm = 14)) ∧ (ra = 0) ∧ (im = 0) ∧ (0 ≤ st ∧ st ≤ 1) ∧ (cd = 0) ∧ (rg = 0) ∧ ((kd = 0 ∧ 0 ≤ bs ∧ bs ≤ 31) ∨ ((kd = 1 ∨ kd = 2) ∧ 1 ≤ bs ∧ bs ≤ 32) ∨ (kd = 3 ∧ 1 ≤ bs ∧ bs ≤ 31))) : decW (3931045888 + (st * 1048576 + rn * 65536 + bs / 4 % 8 * 4096 + rd * 256 + bs % 4 * 64 + kd * 16 + rm)) = 76 := by
  obtain ⟨h1, h2, h3, h4, h5, h6, h7, h8, h9⟩ := h
  have g0 : 0 ≤ bs / 4 % 8 ∧ bs / 4 % 8 ≤ 7 := by omega
  have g1 : 0 ≤ bs % 4 ∧ bs % 4 ≤ 3 := by omega
  generalize bs / 4 % 8 = y0 at g0 ⊢
  generalize bs % 4 = y1 at g1 ⊢
  have e1 : (3931045888 + (st * 1048576 + rn * 65536 + y0 * 4096 + rd * 256 + y1 * 64 + kd * 16 + rm)) / 65536 = 59983 + st * 16 + rn := by omega
  have e2 : (3931045888 + (st * 1048576 + rn * 65536 + y0 * 4096 + rd * 256 + y1 * 64 + kd * 16 + rm)) % 65536 = 0 + y0 * 4096 + rd * 256 + y1 * 64 + kd * 16 + rm := by omega
  unfold decW
  rw [e1, e2]
  clear e1 e2
  rw [hl_shift (o := 2) (r := rd) (n := 15) (by omega) (by omega) (by omega) (by omega)]
  unfold decO
  simp
theorem dec_77 {f rd rn rm ra im kd bs st cd rg : Int} (hf : f = 77) (h : ((0 ≤ rd ∧ rd ≤ 12 ∨ rd = 14)) ∧ (rn = 0) ∧ ((0 ≤ rm ∧ rm ≤ 12 ∨ rm = 14)) ∧ (ra = 0) ∧ (im = 0) ∧ (0 ≤ st ∧ st ≤ 1) ∧ (cd = 0) ∧ (rg = 0) ∧ ((kd = 0 ∧ 0 ≤ bs ∧ bs ≤ 31) ∨ ((kd = 1 ∨ kd = 2) ∧ 1 ≤ bs ∧ bs ≤ 32) ∨ (kd = 3 ∧ 1 ≤ bs ∧ bs ≤ 31))) : decW (3933143040 + (st * 1048576 + rn * 65536 + bs / 4 % 8 * 4096 + rd * 256 + bs % 4 * 64 + kd * 16 + rm)) = 77 := by
  obtain ⟨h1, h2, h3, h4, h5, h6, h7, h8, h9⟩ := h
  have g0 : 0 ≤ bs / 4 % 8 ∧ bs / 4 % 8 ≤ 7 := by omega
  have g1 : 0 ≤ bs % 4 ∧ bs % 4 ≤ 3 := by omega
  generalize bs / 4 % 8 = y0 at g0 ⊢
  generalize bs % 4 = y1 at g1 ⊢
  have e1 : (3933143040 + (st * 1048576 + rn * 65536 + y0 * 4096 + rd * 256 + y1 * 64 + kd * 16 + rm)) / 65536 = 60015 + st * 16 + rn := by omega
  have e2 : (3933143040 + (st * 1048576 + rn * 65536 + y0 * 4096 + rd * 256 + y1 * 64 + kd * 16 + rm)) % 65536 = 0 + y0 * 4096 + rd * 256 + y1 * 64 + kd * 16 + rm := by omega
  unfold decW
  rw [e1, e2]
  clear e1 e2
  rw [hl_shift (o := 3) (r := rd) (n := 15) (by omega) (by omega) (by omega) (by omega)]
  unfold decO
  simp
theorem dec_78 {f rd rn rm ra im kd bs st cd rg : Int} (hf : f = 78) (h : (rd = 0) ∧ ((0 ≤ rn ∧ rn ≤ 12 ∨ rn = 14)) ∧ ((0 ≤ rm ∧ rm ≤ 12 ∨ rm = 14)) ∧ (ra = 0) ∧ (im = 0) ∧ (st = 0) ∧ (cd = 0) ∧ (rg = 0) ∧ ((kd = 0 ∧ 0 ≤ bs ∧ bs ≤ 31) ∨ ((kd = 1 ∨ kd = 2) ∧ 1 ≤ bs ∧ bs ≤ 32) ∨ (kd = 3 ∧ 1 ≤ bs ∧ bs ≤ 31))) : decW (3926920960 + (st * 1048576 + rn * 65536 + bs / 4 % 8 * 4096 + rd * 256 + bs % 4 * 64 + kd * 16 + rm)) = 78 := by
  obtain ⟨h1, h2, h3, h4, h5, h6, h7, h8, h9⟩ := h
  have g0 : 0 ≤ bs / 4 % 8 ∧ bs / 4 % 8 ≤ 7 := by omega
  have g1 : 0 ≤ bs % 4 ∧ bs % 4 ≤ 3 := by omega
  generalize bs / 4 % 8 = y0 at g0 ⊢
  generalize bs % 4 = y1 at g1 ⊢
  have e1 : (3926920960 + (st * 1048576 + rn * 65536 + y0 * 4096 + rd * 256 + y1 * 64 + kd * 16 + rm)) / 65536 = 59920 + st * 16 + rn := by omega
  have e2 : (3926920960 + (st * 1048576 + rn * 65536 + y0 * 4096 + rd * 256 + y1 * 64 + kd * 16 + rm)) % 65536 = 3840 + y0 * 4096 + rd * 256 + y1 * 64 + kd * 16 + rm := by omega
  unfold decW
  rw [e1, e2]
  clear e1 e2
  rw [hl_shift (o := 0) (r := 15) (n := rn) (by omega) (by omega) (by omega) (by omega)]
  unfold decO
  simp
theorem dec_79 {f rd rn rm ra im kd bs st cd rg : Int} (hf : f = 79) (h : (rd = 0) ∧ ((0 ≤ rn ∧ rn ≤ 12 ∨ rn = 14)) ∧ ((0 ≤ rm ∧ rm ≤ 12 ∨ rm = 14)) ∧ (ra = 0) ∧ (im = 0) ∧ (st = 0) ∧ (cd = 0) ∧ (rg = 0) ∧ ((kd = 0 ∧ 0 ≤ bs ∧ bs ≤ 31) ∨ ((kd = 1 ∨ kd = 2) ∧ 1 ≤ bs ∧ bs ≤ 32) ∨ (kd = 3 ∧ 1 ≤ bs ∧ bs ≤ 31))) : decW (3935309568 + (st * 1048576 + rn * 65536 + bs / 4 % 8 * 4096 + rd * 256 + bs % 4 * 64 + kd * 16 + rm)) = 79 := by
  obtain ⟨h1, h2, h3, h4, h5, h6, h7, h8, h9⟩ := h
  have g0 : 0 ≤ bs / 4 % 8 ∧ bs / 4 % 8 ≤ 7 := by omega
  have g1 : 0 ≤ bs % 4 ∧ bs % 4 ≤ 3 := by omega
  generalize bs / 4 % 8 = y0 at g0 ⊢
  generalize bs % 4 = y1 at g1 ⊢
  have e1 : (3935309568 + (st * 1048576 + rn * 65536 + y0 * 4096 + rd * 256 + y1 * 64 + kd * 16 + rm)) / 65536 = 60048 + st * 16 + rn := by omega
  have e2 : (3935309568 + (st * 1048576 + rn * 65536 + y0 * 4096 + rd * 256 + y1 * 64 + kd * 16 + rm)) % 65536 = 3840 + y0 * 4096 + rd * 256 + y1 * 64 + kd * 16 + rm := by omega
  unfold decW
  rw [e1, e2]
  clear e1 e2
  rw [hl_shift (o := 4) (r := 15) (n := rn) (by omega) (by omega) (by omega) (by omega)]
  unfold decO
  simp
theorem dec_80 {f rd rn rm ra im kd bs st cd rg : Int} (hf : f = 80) (h : (rd = 0) ∧ ((0 ≤ rn ∧ rn ≤ 12 ∨ rn = 14)) ∧ ((0 ≤ rm ∧ rm ≤ 12 ∨ rm = 14)) ∧ (ra = 0) ∧ (im = 0) ∧ (st = 0) ∧ (cd = 0) ∧ (rg = 0) ∧ ((kd = 0 ∧ 0 ≤ bs ∧ bs ≤ 31) ∨ ((kd = 1 ∨ kd = 2) ∧ 1 ≤ bs ∧ bs ≤ 32) ∨ (kd = 3 ∧ 1 ≤ bs ∧ bs ≤ 31))) : decW (3943698176 + (st * 1048576 + rn * 65536 + bs / 4 % 8 * 4096 + rd * 256 + bs % 4 * 64 + kd * 16 + rm)) = 80 := by
  obtain ⟨h1, h2, h3, h4, h5, h6, h7, h8, h9⟩ := h
  have g0 : 0 ≤ bs / 4 % 8 ∧ bs / 4 % 8 ≤ 7 := by omega
  have g1 : 0 ≤ bs % 4 ∧ bs % 4 ≤ 3 := by omega
  generalize bs / 4 % 8 = y0 at g0 ⊢
  generalize bs % 4 = y1 at g1 ⊢
  have e1 : (3943698176 + (st * 1048576 + rn * 65536 + y0 * 4096 + rd * 256 + y1 * 64 + kd * 16 + rm)) / 65536 = 60176 + st * 16 + rn := by omega
  have e2 : (3943698176 + (st * 1048576 + rn * 65536 + y0 * 4096 + rd * 256 + y1 * 64 + kd * 16 + rm)) % 65536 = 3840 + y0 * 4096 + rd * 256 + y1 * 64 + kd * 16 + rm := by omega
  unfold decW
  rw [e1, e2]
  clear e1 e2
  rw [hl_shift (o := 8) (r := 15) (n := rn) (by omega) (by omega) (by omega) (by omega)]
  unfold decO
  simp
theorem dec_81 {f rd rn rm ra im kd bs st cd rg : Int} (hf : f = 81) (h : (rd = 0) ∧ ((0 ≤ rn ∧ rn ≤ 12 ∨ rn = 14)) ∧ ((0 ≤ rm ∧ rm ≤ 12 ∨ rm = 14)) ∧ (ra = 0) ∧ (im = 0) ∧ (st = 0) ∧ (cd = 0) ∧ (rg = 0) ∧ ((kd = 0 ∧ 0 ≤ bs ∧ bs ≤ 31) ∨ ((kd = 1 ∨ kd = 2) ∧ 1 ≤ bs ∧ bs ≤ 32) ∨ (kd = 3 ∧ 1 ≤ bs ∧ bs ≤ 31))) : decW (3954183936 + (st * 1048576 + rn * 65536 + bs / 4 % 8 * 4096 + rd * 256 + bs % 4 * 64 + kd * 16 + rm)) = 81 := by
  obtain ⟨h1, h2, h3, h4, h5, h6, h7, h8, h9⟩ := h
  have g0 : 0 ≤ bs / 4 % 8 ∧ bs / 4 % 8 ≤ 7 := by omega
  have g1 : 0 ≤ bs % 4 ∧ bs % 4 ≤ 3 := by omega
  generalize bs / 4 % 8 = y0 at g0 ⊢
  generalize bs % 4 = y1 at g1 ⊢
  have e1 : (3954183936 + (st * 1048576 + rn * 65536 + y0 * 4096 + rd * 256 + y1 * 64 + kd * 16 + rm)) / 65536 = 60336 + st * 16 + rn := by omega
  have e2 : (3954183936 + (st * 1048576 + rn * 65536 + y0 * 4096 + rd * 256 + y1 * 64 + kd * 16 + rm)) % 65536 = 3840 + y0 * 4096 + rd * 256 + y1 * 64 + kd * 16 + rm := by omega
  unfold decW
  rw [e1, e2]
  clear e1 e2
  rw [hl_shift (o := 13) (r := 15) (n := rn) (by omega) (by omega) (by omega) (by omega)]
  unfold decO
  simp

end Go.Proofs.YtpgcnbipnjcniaaDoor.Code
