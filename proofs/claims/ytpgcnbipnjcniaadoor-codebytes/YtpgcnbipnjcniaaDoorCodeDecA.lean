/- The form of a right instruction is told by its word: forms 1 to 47. -/
import Derived.Test.YtpgcnbipnjcniaaDoorCodeSum
set_option linter.unusedVariables false
set_option linter.unusedSimpArgs false
namespace Go.Proofs.YtpgcnbipnjcniaaDoor.Code
open Go.Proofs.YtpgcnbipnjcniaaDoor.Alu Go.Proofs.YtpgcnbipnjcniaaDoor.Imm Go.Proofs.YtpgcnbipnjcniaaDoor.Inst

theorem dec_1 {f rd rn rm ra im kd bs st cd rg : Int} (hf : f = 1) (h : (0 ≤ rd ∧ rd ≤ 7) ∧ (rn = 0) ∧ (0 ≤ rm ∧ rm ≤ 7) ∧ (ra = 0) ∧ (0 ≤ im ∧ im ≤ 32 ∧ (f = 1 → im ≤ 31) ∧ (¬ f = 1 → 1 ≤ im)) ∧ (kd = 0) ∧ (bs = 0) ∧ (st = 0) ∧ (cd = 0) ∧ (rg = 0)) : decN (0 + (im % 32 * 64 + rm * 8 + rd)) = 1 := by
  obtain ⟨h1, h2, h3, h4, h5, h6, h7, h8, h9, h10⟩ := h
  have g0 : 0 ≤ im % 32 ∧ im % 32 ≤ 31 := by omega
  generalize im % 32 = y0 at g0 ⊢
  clear h5
  exact (n_shift (c := 0) (by omega) (by omega))
theorem dec_2 {f rd rn rm ra im kd bs st cd rg : Int} (hf : f = 2) (h : (0 ≤ rd ∧ rd ≤ 7) ∧ (rn = 0) ∧ (0 ≤ rm ∧ rm ≤ 7) ∧ (ra = 0) ∧ (0 ≤ im ∧ im ≤ 32 ∧ (f = 1 → im ≤ 31) ∧ (¬ f = 1 → 1 ≤ im)) ∧ (kd = 0) ∧ (bs = 0) ∧ (st = 0) ∧ (cd = 0) ∧ (rg = 0)) : decN (2048 + (im % 32 * 64 + rm * 8 + rd)) = 2 := by
  obtain ⟨h1, h2, h3, h4, h5, h6, h7, h8, h9, h10⟩ := h
  have g0 : 0 ≤ im % 32 ∧ im % 32 ≤ 31 := by omega
  generalize im % 32 = y0 at g0 ⊢
  clear h5
  exact (n_shift (c := 1) (by omega) (by omega))
theorem dec_3 {f rd rn rm ra im kd bs st cd rg : Int} (hf : f = 3) (h : (0 ≤ rd ∧ rd ≤ 7) ∧ (rn = 0) ∧ (0 ≤ rm ∧ rm ≤ 7) ∧ (ra = 0) ∧ (0 ≤ im ∧ im ≤ 32 ∧ (f = 1 → im ≤ 31) ∧ (¬ f = 1 → 1 ≤ im)) ∧ (kd = 0) ∧ (bs = 0) ∧ (st = 0) ∧ (cd = 0) ∧ (rg = 0)) : decN (4096 + (im % 32 * 64 + rm * 8 + rd)) = 3 := by
  obtain ⟨h1, h2, h3, h4, h5, h6, h7, h8, h9, h10⟩ := h
  have g0 : 0 ≤ im % 32 ∧ im % 32 ≤ 31 := by omega
  generalize im % 32 = y0 at g0 ⊢
  clear h5
  exact (n_shift (c := 2) (by omega) (by omega))
theorem dec_4 {f rd rn rm ra im kd bs st cd rg : Int} (hf : f = 4) (h : (0 ≤ rd ∧ rd ≤ 7) ∧ (0 ≤ rn ∧ rn ≤ 7) ∧ (0 ≤ rm ∧ rm ≤ 7) ∧ (ra = 0) ∧ (im = 0) ∧ (kd = 0) ∧ (bs = 0) ∧ (st = 0) ∧ (cd = 0) ∧ (rg = 0)) : decN (6144 + (rm * 64 + rn * 8 + rd)) = 4 := by
  obtain ⟨h1, h2, h3, h4, h5, h6, h7, h8, h9, h10⟩ := h
  exact (n_three (d := 0) (by omega) (by omega))
theorem dec_5 {f rd rn rm ra im kd bs st cd rg : Int} (hf : f = 5) (h : (0 ≤ rd ∧ rd ≤ 7) ∧ (0 ≤ rn ∧ rn ≤ 7) ∧ (0 ≤ rm ∧ rm ≤ 7) ∧ (ra = 0) ∧ (im = 0) ∧ (kd = 0) ∧ (bs = 0) ∧ (st = 0) ∧ (cd = 0) ∧ (rg = 0)) : decN (6656 + (rm * 64 + rn * 8 + rd)) = 5 := by
  obtain ⟨h1, h2, h3, h4, h5, h6, h7, h8, h9, h10⟩ := h
  exact (n_three (d := 1) (by omega) (by omega))
theorem dec_6 {f rd rn rm ra im kd bs st cd rg : Int} (hf : f = 6) (h : (0 ≤ rd ∧ rd ≤ 7) ∧ (0 ≤ rn ∧ rn ≤ 7) ∧ (rm = 0) ∧ (ra = 0) ∧ (0 ≤ im ∧ im ≤ 7) ∧ (kd = 0) ∧ (bs = 0) ∧ (st = 0) ∧ (cd = 0) ∧ (rg = 0)) : decN (7168 + (im * 64 + rn * 8 + rd)) = 6 := by
  obtain ⟨h1, h2, h3, h4, h5, h6, h7, h8, h9, h10⟩ := h
  exact (n_three (d := 2) (by omega) (by omega))
theorem dec_7 {f rd rn rm ra im kd bs st cd rg : Int} (hf : f = 7) (h : (0 ≤ rd ∧ rd ≤ 7) ∧ (0 ≤ rn ∧ rn ≤ 7) ∧ (rm = 0) ∧ (ra = 0) ∧ (0 ≤ im ∧ im ≤ 7) ∧ (kd = 0) ∧ (bs = 0) ∧ (st = 0) ∧ (cd = 0) ∧ (rg = 0)) : decN (7680 + (im * 64 + rn * 8 + rd)) = 7 := by
  obtain ⟨h1, h2, h3, h4, h5, h6, h7, h8, h9, h10⟩ := h
  exact (n_three (d := 3) (by omega) (by omega))
theorem dec_8 {f rd rn rm ra im kd bs st cd rg : Int} (hf : f = 8) (h : (0 ≤ rd ∧ rd ≤ 7) ∧ (rn = 0) ∧ (rm = 0) ∧ (ra = 0) ∧ (0 ≤ im ∧ im ≤ 255) ∧ (kd = 0) ∧ (bs = 0) ∧ (st = 0) ∧ (cd = 0) ∧ (rg = 0)) : decN (8192 + (rd * 256 + im)) = 8 := by
  obtain ⟨h1, h2, h3, h4, h5, h6, h7, h8, h9, h10⟩ := h
  exact (n_byte (c := 4) (by omega) (by omega) (by omega))
theorem dec_9 {f rd rn rm ra im kd bs st cd rg : Int} (hf : f = 9) (h : (0 ≤ rd ∧ rd ≤ 7) ∧ (rn = 0) ∧ (rm = 0) ∧ (ra = 0) ∧ (0 ≤ im ∧ im ≤ 255) ∧ (kd = 0) ∧ (bs = 0) ∧ (st = 0) ∧ (cd = 0) ∧ (rg = 0)) : decN (10240 + (rd * 256 + im)) = 9 := by
  obtain ⟨h1, h2, h3, h4, h5, h6, h7, h8, h9, h10⟩ := h
  exact (n_byte (c := 5) (by omega) (by omega) (by omega))
theorem dec_10 {f rd rn rm ra im kd bs st cd rg : Int} (hf : f = 10) (h : (0 ≤ rd ∧ rd ≤ 7) ∧ (rn = 0) ∧ (rm = 0) ∧ (ra = 0) ∧ (0 ≤ im ∧ im ≤ 255) ∧ (kd = 0) ∧ (bs = 0) ∧ (st = 0) ∧ (cd = 0) ∧ (rg = 0)) : decN (12288 + (rd * 256 + im)) = 10 := by
  obtain ⟨h1, h2, h3, h4, h5, h6, h7, h8, h9, h10⟩ := h
  exact (n_byte (c := 6) (by omega) (by omega) (by omega))
theorem dec_11 {f rd rn rm ra im kd bs st cd rg : Int} (hf : f = 11) (h : (0 ≤ rd ∧ rd ≤ 7) ∧ (rn = 0) ∧ (rm = 0) ∧ (ra = 0) ∧ (0 ≤ im ∧ im ≤ 255) ∧ (kd = 0) ∧ (bs = 0) ∧ (st = 0) ∧ (cd = 0) ∧ (rg = 0)) : decN (14336 + (rd * 256 + im)) = 11 := by
  obtain ⟨h1, h2, h3, h4, h5, h6, h7, h8, h9, h10⟩ := h
  exact (n_byte (c := 7) (by omega) (by omega) (by omega))
theorem dec_12 {f rd rn rm ra im kd bs st cd rg : Int} (hf : f = 12) (h : (0 ≤ rd ∧ rd ≤ 7) ∧ (rn = 0) ∧ (0 ≤ rm ∧ rm ≤ 7) ∧ (ra = 0) ∧ (im = 0) ∧ (kd = 0) ∧ (bs = 0) ∧ (st = 0) ∧ (cd = 0) ∧ (rg = 0)) : decN (16384 + (rm * 8 + rd)) = 12 := by
  obtain ⟨h1, h2, h3, h4, h5, h6, h7, h8, h9, h10⟩ := h
  exact (n_two (d := 0) (by omega) (by omega))
theorem dec_13 {f rd rn rm ra im kd bs st cd rg : Int} (hf : f = 13) (h : (0 ≤ rd ∧ rd ≤ 7) ∧ (rn = 0) ∧ (0 ≤ rm ∧ rm ≤ 7) ∧ (ra = 0) ∧ (im = 0) ∧ (kd = 0) ∧ (bs = 0) ∧ (st = 0) ∧ (cd = 0) ∧ (rg = 0)) : decN (16448 + (rm * 8 + rd)) = 13 := by
  obtain ⟨h1, h2, h3, h4, h5, h6, h7, h8, h9, h10⟩ := h
  exact (n_two (d := 1) (by omega) (by omega))
theorem dec_14 {f rd rn rm ra im kd bs st cd rg : Int} (hf : f = 14) (h : (0 ≤ rd ∧ rd ≤ 7) ∧ (rn = 0) ∧ (0 ≤ rm ∧ rm ≤ 7) ∧ (ra = 0) ∧ (im = 0) ∧ (kd = 0) ∧ (bs = 0) ∧ (st = 0) ∧ (cd = 0) ∧ (rg = 0)) : decN (16512 + (rm * 8 + rd)) = 14 := by
  obtain ⟨h1, h2, h3, h4, h5, h6, h7, h8, h9, h10⟩ := h
  exact (n_two (d := 2) (by omega) (by omega))
theorem dec_15 {f rd rn rm ra im kd bs st cd rg : Int} (hf : f = 15) (h : (0 ≤ rd ∧ rd ≤ 7) ∧ (rn = 0) ∧ (0 ≤ rm ∧ rm ≤ 7) ∧ (ra = 0) ∧ (im = 0) ∧ (kd = 0) ∧ (bs = 0) ∧ (st = 0) ∧ (cd = 0) ∧ (rg = 0)) : decN (16576 + (rm * 8 + rd)) = 15 := by
  obtain ⟨h1, h2, h3, h4, h5, h6, h7, h8, h9, h10⟩ := h
  exact (n_two (d := 3) (by omega) (by omega))
theorem dec_16 {f rd rn rm ra im kd bs st cd rg : Int} (hf : f = 16) (h : (0 ≤ rd ∧ rd ≤ 7) ∧ (rn = 0) ∧ (0 ≤ rm ∧ rm ≤ 7) ∧ (ra = 0) ∧ (im = 0) ∧ (kd = 0) ∧ (bs = 0) ∧ (st = 0) ∧ (cd = 0) ∧ (rg = 0)) : decN (16640 + (rm * 8 + rd)) = 16 := by
  obtain ⟨h1, h2, h3, h4, h5, h6, h7, h8, h9, h10⟩ := h
  exact (n_two (d := 4) (by omega) (by omega))
theorem dec_17 {f rd rn rm ra im kd bs st cd rg : Int} (hf : f = 17) (h : (0 ≤ rd ∧ rd ≤ 7) ∧ (rn = 0) ∧ (0 ≤ rm ∧ rm ≤ 7) ∧ (ra = 0) ∧ (im = 0) ∧ (kd = 0) ∧ (bs = 0) ∧ (st = 0) ∧ (cd = 0) ∧ (rg = 0)) : decN (16704 + (rm * 8 + rd)) = 17 := by
  obtain ⟨h1, h2, h3, h4, h5, h6, h7, h8, h9, h10⟩ := h
  exact (n_two (d := 5) (by omega) (by omega))
theorem dec_18 {f rd rn rm ra im kd bs st cd rg : Int} (hf : f = 18) (h : (0 ≤ rd ∧ rd ≤ 7) ∧ (rn = 0) ∧ (0 ≤ rm ∧ rm ≤ 7) ∧ (ra = 0) ∧ (im = 0) ∧ (kd = 0) ∧ (bs = 0) ∧ (st = 0) ∧ (cd = 0) ∧ (rg = 0)) : decN (16768 + (rm * 8 + rd)) = 18 := by
  obtain ⟨h1, h2, h3, h4, h5, h6, h7, h8, h9, h10⟩ := h
  exact (n_two (d := 6) (by omega) (by omega))
theorem dec_19 {f rd rn rm ra im kd bs st cd rg : Int} (hf : f = 19) (h : (0 ≤ rd ∧ rd ≤ 7) ∧ (rn = 0) ∧ (0 ≤ rm ∧ rm ≤ 7) ∧ (ra = 0) ∧ (im = 0) ∧ (kd = 0) ∧ (bs = 0) ∧ (st = 0) ∧ (cd = 0) ∧ (rg = 0)) : decN (16832 + (rm * 8 + rd)) = 19 := by
  obtain ⟨h1, h2, h3, h4, h5, h6, h7, h8, h9, h10⟩ := h
  exact (n_two (d := 7) (by omega) (by omega))
theorem dec_20 {f rd rn rm ra im kd bs st cd rg : Int} (hf : f = 20) (h : (0 ≤ rd ∧ rd ≤ 7) ∧ (rn = 0) ∧ (0 ≤ rm ∧ rm ≤ 7) ∧ (ra = 0) ∧ (im = 0) ∧ (kd = 0) ∧ (bs = 0) ∧ (st = 0) ∧ (cd = 0) ∧ (rg = 0)) : decN (16896 + (rm * 8 + rd)) = 20 := by
  obtain ⟨h1, h2, h3, h4, h5, h6, h7, h8, h9, h10⟩ := h
  exact (n_two (d := 8) (by omega) (by omega))
theorem dec_21 {f rd rn rm ra im kd bs st cd rg : Int} (hf : f = 21) (h : (0 ≤ rd ∧ rd ≤ 7) ∧ (rn = 0) ∧ (0 ≤ rm ∧ rm ≤ 7) ∧ (ra = 0) ∧ (im = 0) ∧ (kd = 0) ∧ (bs = 0) ∧ (st = 0) ∧ (cd = 0) ∧ (rg = 0)) : decN (16960 + (rm * 8 + rd)) = 21 := by
  obtain ⟨h1, h2, h3, h4, h5, h6, h7, h8, h9, h10⟩ := h
  exact (n_two (d := 9) (by omega) (by omega))
theorem dec_22 {f rd rn rm ra im kd bs st cd rg : Int} (hf : f = 22) (h : (0 ≤ rd ∧ rd ≤ 7) ∧ (rn = 0) ∧ (0 ≤ rm ∧ rm ≤ 7) ∧ (ra = 0) ∧ (im = 0) ∧ (kd = 0) ∧ (bs = 0) ∧ (st = 0) ∧ (cd = 0) ∧ (rg = 0)) : decN (17024 + (rm * 8 + rd)) = 22 := by
  obtain ⟨h1, h2, h3, h4, h5, h6, h7, h8, h9, h10⟩ := h
  exact (n_two (d := 10) (by omega) (by omega))
theorem dec_23 {f rd rn rm ra im kd bs st cd rg : Int} (hf : f = 23) (h : (0 ≤ rd ∧ rd ≤ 7) ∧ (rn = 0) ∧ (0 ≤ rm ∧ rm ≤ 7) ∧ (ra = 0) ∧ (im = 0) ∧ (kd = 0) ∧ (bs = 0) ∧ (st = 0) ∧ (cd = 0) ∧ (rg = 0)) : decN (17088 + (rm * 8 + rd)) = 23 := by
  obtain ⟨h1, h2, h3, h4, h5, h6, h7, h8, h9, h10⟩ := h
  exact (n_two (d := 11) (by omega) (by omega))
theorem dec_24 {f rd rn rm ra im kd bs st cd rg : Int} (hf : f = 24) (h : (0 ≤ rd ∧ rd ≤ 7) ∧ (rn = 0) ∧ (0 ≤ rm ∧ rm ≤ 7) ∧ (ra = 0) ∧ (im = 0) ∧ (kd = 0) ∧ (bs = 0) ∧ (st = 0) ∧ (cd = 0) ∧ (rg = 0)) : decN (17152 + (rm * 8 + rd)) = 24 := by
  obtain ⟨h1, h2, h3, h4, h5, h6, h7, h8, h9, h10⟩ := h
  exact (n_two (d := 12) (by omega) (by omega))
theorem dec_25 {f rd rn rm ra im kd bs st cd rg : Int} (hf : f = 25) (h : (0 ≤ rd ∧ rd ≤ 7) ∧ (rn = 0) ∧ (0 ≤ rm ∧ rm ≤ 7) ∧ (ra = 0) ∧ (im = 0) ∧ (kd = 0) ∧ (bs = 0) ∧ (st = 0) ∧ (cd = 0) ∧ (rg = 0)) : decN (17216 + (rm * 8 + rd)) = 25 := by
  obtain ⟨h1, h2, h3, h4, h5, h6, h7, h8, h9, h10⟩ := h
  exact (n_two (d := 13) (by omega) (by omega))
theorem dec_26 {f rd rn rm ra im kd bs st cd rg : Int} (hf : f = 26) (h : (0 ≤ rd ∧ rd ≤ 7) ∧ (rn = 0) ∧ (0 ≤ rm ∧ rm ≤ 7) ∧ (ra = 0) ∧ (im = 0) ∧ (kd = 0) ∧ (bs = 0) ∧ (st = 0) ∧ (cd = 0) ∧ (rg = 0)) : decN (17280 + (rm * 8 + rd)) = 26 := by
  obtain ⟨h1, h2, h3, h4, h5, h6, h7, h8, h9, h10⟩ := h
  exact (n_two (d := 14) (by omega) (by omega))
theorem dec_27 {f rd rn rm ra im kd bs st cd rg : Int} (hf : f = 27) (h : (0 ≤ rd ∧ rd ≤ 7) ∧ (rn = 0) ∧ (0 ≤ rm ∧ rm ≤ 7) ∧ (ra = 0) ∧ (im = 0) ∧ (kd = 0) ∧ (bs = 0) ∧ (st = 0) ∧ (cd = 0) ∧ (rg = 0)) : decN (17344 + (rm * 8 + rd)) = 27 := by
  obtain ⟨h1, h2, h3, h4, h5, h6, h7, h8, h9, h10⟩ := h
  exact (n_two (d := 15) (by omega) (by omega))
theorem dec_28 {f rd rn rm ra im kd bs st cd rg : Int} (hf : f = 28) (h : (0 ≤ rd ∧ rd ≤ 14) ∧ (rn = 0) ∧ (0 ≤ rm ∧ rm ≤ 14) ∧ (ra = 0) ∧ (im = 0) ∧ (kd = 0) ∧ (bs = 0) ∧ (st = 0) ∧ (cd = 0) ∧ (rg = 0)) : decN (17408 + (rd / 8 * 128 + rm * 8 + rd % 8)) = 28 := by
  obtain ⟨h1, h2, h3, h4, h5, h6, h7, h8, h9, h10⟩ := h
  have g0 : 0 ≤ rd / 8 ∧ rd / 8 ≤ 1 := by omega
  have g1 : 0 ≤ rd % 8 ∧ rd % 8 ≤ 7 := by omega
  generalize rd / 8 = y0 at g0 ⊢
  generalize rd % 8 = y1 at g1 ⊢
  exact (n_high (d := 0) (by omega) (by omega))
theorem dec_29 {f rd rn rm ra im kd bs st cd rg : Int} (hf : f = 29) (h : (0 ≤ rd ∧ rd ≤ 14) ∧ (rn = 0) ∧ (0 ≤ rm ∧ rm ≤ 14) ∧ (ra = 0) ∧ (im = 0) ∧ (kd = 0) ∧ (bs = 0) ∧ (st = 0) ∧ (cd = 0) ∧ (rg = 0)) : decN (17664 + (rd / 8 * 128 + rm * 8 + rd % 8)) = 29 := by
  obtain ⟨h1, h2, h3, h4, h5, h6, h7, h8, h9, h10⟩ := h
  have g0 : 0 ≤ rd / 8 ∧ rd / 8 ≤ 1 := by omega
  have g1 : 0 ≤ rd % 8 ∧ rd % 8 ≤ 7 := by omega
  generalize rd / 8 = y0 at g0 ⊢
  generalize rd % 8 = y1 at g1 ⊢
  exact (n_high (d := 1) (by omega) (by omega))
theorem dec_30 {f rd rn rm ra im kd bs st cd rg : Int} (hf : f = 30) (h : (0 ≤ rd ∧ rd ≤ 14) ∧ (rn = 0) ∧ (0 ≤ rm ∧ rm ≤ 14) ∧ (ra = 0) ∧ (im = 0) ∧ (kd = 0) ∧ (bs = 0) ∧ (st = 0) ∧ (cd = 0) ∧ (rg = 0)) : decN (17920 + (rd / 8 * 128 + rm * 8 + rd % 8)) = 30 := by
  obtain ⟨h1, h2, h3, h4, h5, h6, h7, h8, h9, h10⟩ := h
  have g0 : 0 ≤ rd / 8 ∧ rd / 8 ≤ 1 := by omega
  have g1 : 0 ≤ rd % 8 ∧ rd % 8 ≤ 7 := by omega
  generalize rd / 8 = y0 at g0 ⊢
  generalize rd % 8 = y1 at g1 ⊢
  exact (n_high (d := 2) (by omega) (by omega))
theorem dec_31 {f rd rn rm ra im kd bs st cd rg : Int} (hf : f = 31) (h : (rd = 0) ∧ (rn = 0) ∧ (0 ≤ rm ∧ rm ≤ 14) ∧ (ra = 0) ∧ (im = 0) ∧ (kd = 0) ∧ (bs = 0) ∧ (st = 0) ∧ (cd = 0) ∧ (rg = 0)) : decN (18176 + (rm * 8)) = 31 := by
  obtain ⟨h1, h2, h3, h4, h5, h6, h7, h8, h9, h10⟩ := h
  exact (n_high (d := 3) (by omega) (by omega))
theorem dec_32 {f rd rn rm ra im kd bs st cd rg : Int} (hf : f = 32) (h : (0 ≤ rd ∧ rd ≤ 7) ∧ (rn = 0) ∧ (rm = 0) ∧ (ra = 0) ∧ (0 ≤ im ∧ im ≤ 1020 ∧ im % 4 = 0) ∧ (kd = 0) ∧ (bs = 0) ∧ (st = 0) ∧ (cd = 0) ∧ (rg = 0)) : decN (18432 + (rd * 256 + im / 4)) = 32 := by
  obtain ⟨h1, h2, h3, h4, h5, h6, h7, h8, h9, h10⟩ := h
  have g0 : 0 ≤ im / 4 ∧ im / 4 ≤ 255 := by omega
  generalize im / 4 = y0 at g0 ⊢
  clear h5
  exact (n_32 (by omega))
theorem dec_33 {f rd rn rm ra im kd bs st cd rg : Int} (hf : f = 33) (h : (0 ≤ rd ∧ rd ≤ 7) ∧ (0 ≤ rn ∧ rn ≤ 7) ∧ (0 ≤ rm ∧ rm ≤ 7) ∧ (ra = 0) ∧ (im = 0) ∧ (kd = 0) ∧ (bs = 0) ∧ (st = 0) ∧ (cd = 0) ∧ (rg = 0)) : decN (20480 + (rm * 64 + rn * 8 + rd)) = 33 := by
  obtain ⟨h1, h2, h3, h4, h5, h6, h7, h8, h9, h10⟩ := h
  exact (n_33 (by omega))
theorem dec_34 {f rd rn rm ra im kd bs st cd rg : Int} (hf : f = 34) (h : (0 ≤ rd ∧ rd ≤ 7) ∧ (0 ≤ rn ∧ rn ≤ 7) ∧ (0 ≤ rm ∧ rm ≤ 7) ∧ (ra = 0) ∧ (im = 0) ∧ (kd = 0) ∧ (bs = 0) ∧ (st = 0) ∧ (cd = 0) ∧ (rg = 0)) : decN (22528 + (rm * 64 + rn * 8 + rd)) = 34 := by
  obtain ⟨h1, h2, h3, h4, h5, h6, h7, h8, h9, h10⟩ := h
  exact (n_34 (by omega))
theorem dec_35 {f rd rn rm ra im kd bs st cd rg : Int} (hf : f = 35) (h : (0 ≤ rd ∧ rd ≤ 7) ∧ (0 ≤ rn ∧ rn ≤ 7) ∧ (rm = 0) ∧ (ra = 0) ∧ (0 ≤ im ∧ im ≤ 124 ∧ im % 4 = 0) ∧ (kd = 0) ∧ (bs = 0) ∧ (st = 0) ∧ (cd = 0) ∧ (rg = 0)) : decN (24576 + (im / 4 * 64 + rn * 8 + rd)) = 35 := by
  obtain ⟨h1, h2, h3, h4, h5, h6, h7, h8, h9, h10⟩ := h
  have g0 : 0 ≤ im / 4 ∧ im / 4 ≤ 31 := by omega
  generalize im / 4 = y0 at g0 ⊢
  clear h5
  exact (n_35 (by omega))
theorem dec_36 {f rd rn rm ra im kd bs st cd rg : Int} (hf : f = 36) (h : (0 ≤ rd ∧ rd ≤ 7) ∧ (0 ≤ rn ∧ rn ≤ 7) ∧ (rm = 0) ∧ (ra = 0) ∧ (0 ≤ im ∧ im ≤ 124 ∧ im % 4 = 0) ∧ (kd = 0) ∧ (bs = 0) ∧ (st = 0) ∧ (cd = 0) ∧ (rg = 0)) : decN (26624 + (im / 4 * 64 + rn * 8 + rd)) = 36 := by
  obtain ⟨h1, h2, h3, h4, h5, h6, h7, h8, h9, h10⟩ := h
  have g0 : 0 ≤ im / 4 ∧ im / 4 ≤ 31 := by omega
  generalize im / 4 = y0 at g0 ⊢
  clear h5
  exact (n_36 (by omega))
theorem dec_37 {f rd rn rm ra im kd bs st cd rg : Int} (hf : f = 37) (h : (0 ≤ rd ∧ rd ≤ 7) ∧ (rn = 0) ∧ (rm = 0) ∧ (ra = 0) ∧ (0 ≤ im ∧ im ≤ 1020 ∧ im % 4 = 0) ∧ (kd = 0) ∧ (bs = 0) ∧ (st = 0) ∧ (cd = 0) ∧ (rg = 0)) : decN (36864 + (rd * 256 + im / 4)) = 37 := by
  obtain ⟨h1, h2, h3, h4, h5, h6, h7, h8, h9, h10⟩ := h
  have g0 : 0 ≤ im / 4 ∧ im / 4 ≤ 255 := by omega
  generalize im / 4 = y0 at g0 ⊢
  clear h5
  exact (n_37 (by omega))
theorem dec_38 {f rd rn rm ra im kd bs st cd rg : Int} (hf : f = 38) (h : (0 ≤ rd ∧ rd ≤ 7) ∧ (rn = 0) ∧ (rm = 0) ∧ (ra = 0) ∧ (0 ≤ im ∧ im ≤ 1020 ∧ im % 4 = 0) ∧ (kd = 0) ∧ (bs = 0) ∧ (st = 0) ∧ (cd = 0) ∧ (rg = 0)) : decN (38912 + (rd * 256 + im / 4)) = 38 := by
  obtain ⟨h1, h2, h3, h4, h5, h6, h7, h8, h9, h10⟩ := h
  have g0 : 0 ≤ im / 4 ∧ im / 4 ≤ 255 := by omega
  generalize im / 4 = y0 at g0 ⊢
  clear h5
  exact (n_38 (by omega))
theorem dec_39 {f rd rn rm ra im kd bs st cd rg : Int} (hf : f = 39) (h : (0 ≤ rd ∧ rd ≤ 7) ∧ (rn = 0) ∧ (rm = 0) ∧ (ra = 0) ∧ (0 ≤ im ∧ im ≤ 1020 ∧ im % 4 = 0) ∧ (kd = 0) ∧ (bs = 0) ∧ (st = 0) ∧ (cd = 0) ∧ (rg = 0)) : decN (43008 + (rd * 256 + im / 4)) = 39 := by
  obtain ⟨h1, h2, h3, h4, h5, h6, h7, h8, h9, h10⟩ := h
  have g0 : 0 ≤ im / 4 ∧ im / 4 ≤ 255 := by omega
  generalize im / 4 = y0 at g0 ⊢
  clear h5
  exact (n_39 (by omega))
theorem dec_40 {f rd rn rm ra im kd bs st cd rg : Int} (hf : f = 40) (h : (rd = 0) ∧ (rn = 0) ∧ (rm = 0) ∧ (ra = 0) ∧ (0 ≤ im ∧ im ≤ 508 ∧ im % 4 = 0) ∧ (kd = 0) ∧ (bs = 0) ∧ (st = 0) ∧ (cd = 0) ∧ (rg = 0)) : decN (45056 + (im / 4)) = 40 := by
  obtain ⟨h1, h2, h3, h4, h5, h6, h7, h8, h9, h10⟩ := h
  have g0 : 0 ≤ im / 4 ∧ im / 4 ≤ 127 := by omega
  generalize im / 4 = y0 at g0 ⊢
  clear h5
  exact (n_inc (d := 0) (by omega) (by omega))
theorem dec_41 {f rd rn rm ra im kd bs st cd rg : Int} (hf : f = 41) (h : (rd = 0) ∧ (rn = 0) ∧ (rm = 0) ∧ (ra = 0) ∧ (0 ≤ im ∧ im ≤ 508 ∧ im % 4 = 0) ∧ (kd = 0) ∧ (bs = 0) ∧ (st = 0) ∧ (cd = 0) ∧ (rg = 0)) : decN (45184 + (im / 4)) = 41 := by
  obtain ⟨h1, h2, h3, h4, h5, h6, h7, h8, h9, h10⟩ := h
  have g0 : 0 ≤ im / 4 ∧ im / 4 ≤ 127 := by omega
  generalize im / 4 = y0 at g0 ⊢
  clear h5
  exact (n_inc (d := 1) (by omega) (by omega))
theorem dec_42 {f rd rn rm ra im kd bs st cd rg : Int} (hf : f = 42) (h : (rd = 0) ∧ (rn = 0) ∧ (rm = 0) ∧ (ra = 0) ∧ (im = 0) ∧ (kd = 0) ∧ (bs = 0) ∧ (st = 0) ∧ (cd = 0) ∧ ((1 ≤ rg ∧ rg ≤ 255 ∨ 16384 ≤ rg ∧ rg ≤ 16639))) : decN (46080 + (rg / 16384 % 2 * 256 + rg % 256)) = 42 := by
  obtain ⟨h1, h2, h3, h4, h5, h6, h7, h8, h9, h10⟩ := h
  have g0 : 0 ≤ rg / 16384 % 2 ∧ rg / 16384 % 2 ≤ 1 := by omega
  have g1 : 0 ≤ rg % 256 ∧ rg % 256 ≤ 255 := by omega
  generalize rg / 16384 % 2 = y0 at g0 ⊢
  generalize rg % 256 = y1 at g1 ⊢
  clear h10
  exact (n_42 (by omega))
theorem dec_43 {f rd rn rm ra im kd bs st cd rg : Int} (hf : f = 43) (h : (rd = 0) ∧ (rn = 0) ∧ (rm = 0) ∧ (ra = 0) ∧ (im = 0) ∧ (kd = 0) ∧ (bs = 0) ∧ (st = 0) ∧ (cd = 0) ∧ ((1 ≤ rg ∧ rg ≤ 255 ∨ 32768 ≤ rg ∧ rg ≤ 33023))) : decN (48128 + (rg / 32768 % 2 * 256 + rg % 256)) = 43 := by
  obtain ⟨h1, h2, h3, h4, h5, h6, h7, h8, h9, h10⟩ := h
  have g0 : 0 ≤ rg / 32768 % 2 ∧ rg / 32768 % 2 ≤ 1 := by omega
  have g1 : 0 ≤ rg % 256 ∧ rg % 256 ≤ 255 := by omega
  generalize rg / 32768 % 2 = y0 at g0 ⊢
  generalize rg % 256 = y1 at g1 ⊢
  clear h10
  exact (n_43 (by omega))
theorem dec_44 {f rd rn rm ra im kd bs st cd rg : Int} (hf : f = 44) (h : (rd = 0) ∧ (rn = 0) ∧ (rm = 0) ∧ (ra = 0) ∧ (im = 0) ∧ (kd = 0) ∧ (bs = 0) ∧ (st = 0) ∧ (cd = 0) ∧ (rg = 0)) : decN (48896 + (0)) = 44 := by
  obtain ⟨h1, h2, h3, h4, h5, h6, h7, h8, h9, h10⟩ := h
  exact (n_44 (by omega))
theorem dec_45 {f rd rn rm ra im kd bs st cd rg : Int} (hf : f = 45) (h : (rd = 0) ∧ (rn = 0) ∧ (rm = 0) ∧ (ra = 0) ∧ (0 ≤ im ∧ im ≤ 255) ∧ (kd = 0) ∧ (bs = 0) ∧ (st = 0) ∧ (cd = 0) ∧ (rg = 0)) : decN (48640 + (im)) = 45 := by
  obtain ⟨h1, h2, h3, h4, h5, h6, h7, h8, h9, h10⟩ := h
  exact (n_45 (by omega))
theorem dec_46 {f rd rn rm ra im kd bs st cd rg : Int} (hf : f = 46) (h : (rd = 0) ∧ (rn = 0) ∧ (rm = 0) ∧ (ra = 0) ∧ (-256 ≤ im ∧ im ≤ 254 ∧ im % 2 = 0) ∧ (kd = 0) ∧ (bs = 0) ∧ (st = 0) ∧ (0 ≤ cd ∧ cd ≤ 13) ∧ (rg = 0)) : decN (53248 + (cd * 256 + im / 2 % 256)) = 46 := by
  obtain ⟨h1, h2, h3, h4, h5, h6, h7, h8, h9, h10⟩ := h
  have g0 : 0 ≤ im / 2 % 256 ∧ im / 2 % 256 ≤ 255 := by omega
  generalize im / 2 % 256 = y0 at g0 ⊢
  clear h5
  exact (n_46 (by omega))
theorem dec_47 {f rd rn rm ra im kd bs st cd rg : Int} (hf : f = 47) (h : (rd = 0) ∧ (rn = 0) ∧ (rm = 0) ∧ (ra = 0) ∧ (-2048 ≤ im ∧ im ≤ 2046 ∧ im % 2 = 0) ∧ (kd = 0) ∧ (bs = 0) ∧ (st = 0) ∧ (cd = 0) ∧ (rg = 0)) : decN (57344 + (im / 2 % 2048)) = 47 := by
  obtain ⟨h1, h2, h3, h4, h5, h6, h7, h8, h9, h10⟩ := h
  have g0 : 0 ≤ im / 2 % 2048 ∧ im / 2 % 2048 ≤ 2047 := by omega
  generalize im / 2 % 2048 = y0 at g0 ⊢
  clear h5
  exact (n_47 (by omega))

end Go.Proofs.YtpgcnbipnjcniaaDoor.Code
