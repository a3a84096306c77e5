/- The form of a right instruction is told by its word: forms 82 to 100. -/
import Derived.Test.YtpgcnbipnjcniaaDoorCodeSum
set_option linter.unusedVariables false
set_option linter.unusedSimpArgs false
namespace Go.Proofs.YtpgcnbipnjcniaaDoor.Code
open Go.Proofs.YtpgcnbipnjcniaaDoor.Alu Go.Proofs.YtpgcnbipnjcniaaDoor.Imm Go.Proofs.YtpgcnbipnjcniaaDoor.Inst

theorem dec_82 {f rd rn rm ra im kd bs st cd rg : Int} (hf : f = 82) (h : ((0 ≤ rd ∧ rd ≤ 12 ∨ rd = 14)) ∧ ((0 ≤ rn ∧ rn ≤ 12 ∨ rn = 14)) ∧ (rm = 0) ∧ (ra = 0) ∧ (0 ≤ im ∧ im ≤ 4095) ∧ (kd = 0) ∧ (bs = 0) ∧ (st = 0) ∧ (cd = 0) ∧ (rg = 0)) : decW (4060086272 + (im / 2048 * 67108864 + st * 1048576 + rn * 65536 + im / 256 % 8 * 4096 + rd * 256 + im % 256)) = 82 := by
  obtain ⟨h1, h2, h3, h4, h5, h6, h7, h8, h9, h10⟩ := h
  have g0 : 0 ≤ im / 2048 ∧ im / 2048 ≤ 1 := by omega
  have g1 : 0 ≤ im / 256 % 8 ∧ im / 256 % 8 ≤ 7 := by omega
  have g2 : 0 ≤ im % 256 ∧ im % 256 ≤ 255 := by omega
  generalize im / 2048 = y0 at g0 ⊢
  generalize im / 256 % 8 = y1 at g1 ⊢
  generalize im % 256 = y2 at g2 ⊢
  clear h5
  have e1 : (4060086272 + (y0 * 67108864 + st * 1048576 + rn * 65536 + y1 * 4096 + rd * 256 + y2)) / 65536 = 61952 + y0 * 1024 + st * 16 + rn := by omega
  have e2 : (4060086272 + (y0 * 67108864 + st * 1048576 + rn * 65536 + y1 * 4096 + rd * 256 + y2)) % 65536 = 0 + y1 * 4096 + rd * 256 + y2 := by omega
  unfold decW
  rw [e1, e2]
  clear e1 e2
  rw [hl_plain (c := 0) (by omega) (by omega) (by omega) (by omega)]
  simp
theorem dec_83 {f rd rn rm ra im kd bs st cd rg : Int} (hf : f = 83) (h : ((0 ≤ rd ∧ rd ≤ 12 ∨ rd = 14)) ∧ ((0 ≤ rn ∧ rn ≤ 12 ∨ rn = 14)) ∧ (rm = 0) ∧ (ra = 0) ∧ (0 ≤ im ∧ im ≤ 4095) ∧ (kd = 0) ∧ (bs = 0) ∧ (st = 0) ∧ (cd = 0) ∧ (rg = 0)) : decW (4070572032 + (im / 2048 * 67108864 + st * 1048576 + rn * 65536 + im / 256 % 8 * 4096 + rd * 256 + im % 256)) = 83 := by
  obtain ⟨h1, h2, h3, h4, h5, h6, h7, h8, h9, h10⟩ := h
  have g0 : 0 ≤ im / 2048 ∧ im / 2048 ≤ 1 := by omega
  have g1 : 0 ≤ im / 256 % 8 ∧ im / 256 % 8 ≤ 7 := by omega
  have g2 : 0 ≤ im % 256 ∧ im % 256 ≤ 255 := by omega
  generalize im / 2048 = y0 at g0 ⊢
  generalize im / 256 % 8 = y1 at g1 ⊢
  generalize im % 256 = y2 at g2 ⊢
  clear h5
  have e1 : (4070572032 + (y0 * 67108864 + st * 1048576 + rn * 65536 + y1 * 4096 + rd * 256 + y2)) / 65536 = 62112 + y0 * 1024 + st * 16 + rn := by omega
  have e2 : (4070572032 + (y0 * 67108864 + st * 1048576 + rn * 65536 + y1 * 4096 + rd * 256 + y2)) % 65536 = 0 + y1 * 4096 + rd * 256 + y2 := by omega
  unfold decW
  rw [e1, e2]
  clear e1 e2
  rw [hl_plain (c := 10) (by omega) (by omega) (by omega) (by omega)]
  simp
theorem dec_84 {f rd rn rm ra im kd bs st cd rg : Int} (hf : f = 84) (h : ((0 ≤ rd ∧ rd ≤ 12 ∨ rd = 14)) ∧ (0 ≤ rn ∧ rn ≤ 14) ∧ (rm = 0) ∧ (ra = 0) ∧ (0 ≤ im ∧ im ≤ 4095) ∧ (kd = 0) ∧ (bs = 0) ∧ (st = 0) ∧ (cd = 0) ∧ (rg = 0)) : decW (4173332480 + (rn * 65536 + rd * 4096 + im)) = 84 := by
  obtain ⟨h1, h2, h3, h4, h5, h6, h7, h8, h9, h10⟩ := h
  have e1 : (4173332480 + (rn * 65536 + rd * 4096 + im)) / 65536 = 63680 + rn := by omega
  have e2 : (4173332480 + (rn * 65536 + rd * 4096 + im)) % 65536 = 0 + rd * 4096 + im := by omega
  unfold decW
  rw [e1, e2]
  clear e1 e2
  rw [hl_more (c := 3980) (d := 1990) (by omega) (by omega) (by omega) rfl rfl]
  repeat (first | rw [if_pos (by omega)] | rw [if_neg (by omega)])
theorem dec_85 {f rd rn rm ra im kd bs st cd rg : Int} (hf : f = 85) (h : ((0 ≤ rd ∧ rd ≤ 12 ∨ rd = 14)) ∧ (0 ≤ rn ∧ rn ≤ 14) ∧ (rm = 0) ∧ (ra = 0) ∧ (0 ≤ im ∧ im ≤ 4095) ∧ (kd = 0) ∧ (bs = 0) ∧ (st = 0) ∧ (cd = 0) ∧ (rg = 0)) : decW (4174381056 + (rn * 65536 + rd * 4096 + im)) = 85 := by
  obtain ⟨h1, h2, h3, h4, h5, h6, h7, h8, h9, h10⟩ := h
  have e1 : (4174381056 + (rn * 65536 + rd * 4096 + im)) / 65536 = 63696 + rn := by omega
  have e2 : (4174381056 + (rn * 65536 + rd * 4096 + im)) % 65536 = 0 + rd * 4096 + im := by omega
  unfold decW
  rw [e1, e2]
  clear e1 e2
  rw [hl_more (c := 3981) (d := 1990) (by omega) (by omega) (by omega) rfl rfl]
  repeat (first | rw [if_pos (by omega)] | rw [if_neg (by omega)])
theorem dec_86 {f rd rn rm ra im kd bs st cd rg : Int} (hf : f = 86) (h : ((0 ≤ rd ∧ rd ≤ 12 ∨ rd = 14)) ∧ (0 ≤ rn ∧ rn ≤ 14) ∧ ((0 ≤ rm ∧ rm ≤ 12 ∨ rm = 14)) ∧ (ra = 0) ∧ (im = 0) ∧ (kd = 0) ∧ (0 ≤ bs ∧ bs ≤ 3) ∧ (st = 0) ∧ (cd = 0) ∧ (rg = 0)) : decW (4164943872 + (rn * 65536 + rd * 4096 + bs * 16 + rm)) = 86 := by
  obtain ⟨h1, h2, h3, h4, h5, h6, h7, h8, h9, h10⟩ := h
  have e1 : (4164943872 + (rn * 65536 + rd * 4096 + bs * 16 + rm)) / 65536 = 63552 + rn := by omega
  have e2 : (4164943872 + (rn * 65536 + rd * 4096 + bs * 16 + rm)) % 65536 = 0 + rd * 4096 + bs * 16 + rm := by omega
  unfold decW
  rw [e1, e2]
  clear e1 e2
  rw [hl_more (c := 3972) (d := 1986) (by omega) (by omega) (by omega) rfl rfl]
  repeat (first | rw [if_pos (by omega)] | rw [if_neg (by omega)])
theorem dec_87 {f rd rn rm ra im kd bs st cd rg : Int} (hf : f = 87) (h : ((0 ≤ rd ∧ rd ≤ 12 ∨ rd = 14)) ∧ (0 ≤ rn ∧ rn ≤ 14) ∧ ((0 ≤ rm ∧ rm ≤ 12 ∨ rm = 14)) ∧ (ra = 0) ∧ (im = 0) ∧ (kd = 0) ∧ (0 ≤ bs ∧ bs ≤ 3) ∧ (st = 0) ∧ (cd = 0) ∧ (rg = 0)) : decW (4165992448 + (rn * 65536 + rd * 4096 + bs * 16 + rm)) = 87 := by
  obtain ⟨h1, h2, h3, h4, h5, h6, h7, h8, h9, h10⟩ := h
  have e1 : (4165992448 + (rn * 65536 + rd * 4096 + bs * 16 + rm)) / 65536 = 63568 + rn := by omega
  have e2 : (4165992448 + (rn * 65536 + rd * 4096 + bs * 16 + rm)) % 65536 = 0 + rd * 4096 + bs * 16 + rm := by omega
  unfold decW
  rw [e1, e2]
  clear e1 e2
  rw [hl_more (c := 3973) (d := 1986) (by omega) (by omega) (by omega) rfl rfl]
  repeat (first | rw [if_pos (by omega)] | rw [if_neg (by omega)])
theorem dec_88 {f rd rn rm ra im kd bs st cd rg : Int} (hf : f = 88) (h : ((0 ≤ rd ∧ rd ≤ 12 ∨ rd = 14)) ∧ ((0 ≤ rn ∧ rn ≤ 12 ∨ rn = 14)) ∧ ((0 ≤ rm ∧ rm ≤ 12 ∨ rm = 14)) ∧ (ra = 0) ∧ (im = 0) ∧ (kd = 0) ∧ (bs = 0) ∧ (0 ≤ st ∧ st ≤ 1) ∧ (cd = 0) ∧ (rg = 0)) : decW (4194365440 + (st * 1048576 + rn * 65536 + ra * 4096 + rd * 256 + rm)) = 88 := by
  obtain ⟨h1, h2, h3, h4, h5, h6, h7, h8, h9, h10⟩ := h
  have e1 : (4194365440 + (st * 1048576 + rn * 65536 + ra * 4096 + rd * 256 + rm)) / 65536 = 64000 + st * 16 + rn := by omega
  have e2 : (4194365440 + (st * 1048576 + rn * 65536 + ra * 4096 + rd * 256 + rm)) % 65536 = 61440 + ra * 4096 + rd * 256 + rm := by omega
  unfold decW
  rw [e1, e2]
  clear e1 e2
  rw [hl_more (c := 4000 + st) (d := 2000) (by omega) (by omega) (by omega) rfl rfl]
  repeat (first | rw [if_pos (by omega)] | rw [if_neg (by omega)])
theorem dec_89 {f rd rn rm ra im kd bs st cd rg : Int} (hf : f = 89) (h : ((0 ≤ rd ∧ rd ≤ 12 ∨ rd = 14)) ∧ ((0 ≤ rn ∧ rn ≤ 12 ∨ rn = 14)) ∧ ((0 ≤ rm ∧ rm ≤ 12 ∨ rm = 14)) ∧ (ra = 0) ∧ (im = 0) ∧ (kd = 0) ∧ (bs = 0) ∧ (0 ≤ st ∧ st ≤ 1) ∧ (cd = 0) ∧ (rg = 0)) : decW (4196462592 + (st * 1048576 + rn * 65536 + ra * 4096 + rd * 256 + rm)) = 89 := by
  obtain ⟨h1, h2, h3, h4, h5, h6, h7, h8, h9, h10⟩ := h
  have e1 : (4196462592 + (st * 1048576 + rn * 65536 + ra * 4096 + rd * 256 + rm)) / 65536 = 64032 + st * 16 + rn := by omega
  have e2 : (4196462592 + (st * 1048576 + rn * 65536 + ra * 4096 + rd * 256 + rm)) % 65536 = 61440 + ra * 4096 + rd * 256 + rm := by omega
  unfold decW
  rw [e1, e2]
  clear e1 e2
  rw [hl_more (c := 4002 + st) (d := 2001) (by omega) (by omega) (by omega) rfl rfl]
  repeat (first | rw [if_pos (by omega)] | rw [if_neg (by omega)])
theorem dec_90 {f rd rn rm ra im kd bs st cd rg : Int} (hf : f = 90) (h : ((0 ≤ rd ∧ rd ≤ 12 ∨ rd = 14)) ∧ ((0 ≤ rn ∧ rn ≤ 12 ∨ rn = 14)) ∧ ((0 ≤ rm ∧ rm ≤ 12 ∨ rm = 14)) ∧ (ra = 0) ∧ (im = 0) ∧ (kd = 0) ∧ (bs = 0) ∧ (0 ≤ st ∧ st ≤ 1) ∧ (cd = 0) ∧ (rg = 0)) : decW (4198559744 + (st * 1048576 + rn * 65536 + ra * 4096 + rd * 256 + rm)) = 90 := by
  obtain ⟨h1, h2, h3, h4, h5, h6, h7, h8, h9, h10⟩ := h
  have e1 : (4198559744 + (st * 1048576 + rn * 65536 + ra * 4096 + rd * 256 + rm)) / 65536 = 64064 + st * 16 + rn := by omega
  have e2 : (4198559744 + (st * 1048576 + rn * 65536 + ra * 4096 + rd * 256 + rm)) % 65536 = 61440 + ra * 4096 + rd * 256 + rm := by omega
  unfold decW
  rw [e1, e2]
  clear e1 e2
  rw [hl_more (c := 4004 + st) (d := 2002) (by omega) (by omega) (by omega) rfl rfl]
  repeat (first | rw [if_pos (by omega)] | rw [if_neg (by omega)])
theorem dec_91 {f rd rn rm ra im kd bs st cd rg : Int} (hf : f = 91) (h : ((0 ≤ rd ∧ rd ≤ 12 ∨ rd = 14)) ∧ ((0 ≤ rn ∧ rn ≤ 12 ∨ rn = 14)) ∧ ((0 ≤ rm ∧ rm ≤ 12 ∨ rm = 14)) ∧ (ra = 0) ∧ (im = 0) ∧ (kd = 0) ∧ (bs = 0) ∧ (0 ≤ st ∧ st ≤ 1) ∧ (cd = 0) ∧ (rg = 0)) : decW (4200656896 + (st * 1048576 + rn * 65536 + ra * 4096 + rd * 256 + rm)) = 91 := by
  obtain ⟨h1, h2, h3, h4, h5, h6, h7, h8, h9, h10⟩ := h
  have e1 : (4200656896 + (st * 1048576 + rn * 65536 + ra * 4096 + rd * 256 + rm)) / 65536 = 64096 + st * 16 + rn := by omega
  have e2 : (4200656896 + (st * 1048576 + rn * 65536 + ra * 4096 + rd * 256 + rm)) % 65536 = 61440 + ra * 4096 + rd * 256 + rm := by omega
  unfold decW
  rw [e1, e2]
  clear e1 e2
  rw [hl_more (c := 4006 + st) (d := 2003) (by omega) (by omega) (by omega) rfl rfl]
  repeat (first | rw [if_pos (by omega)] | rw [if_neg (by omega)])
theorem dec_92 {f rd rn rm ra im kd bs st cd rg : Int} (hf : f = 92) (h : ((0 ≤ rd ∧ rd ≤ 12 ∨ rd = 14)) ∧ ((0 ≤ rn ∧ rn ≤ 12 ∨ rn = 14)) ∧ ((0 ≤ rm ∧ rm ≤ 12 ∨ rm = 14)) ∧ (ra = 0) ∧ (im = 0) ∧ (kd = 0) ∧ (bs = 0) ∧ (st = 0) ∧ (cd = 0) ∧ (rg = 0)) : decW (4211142656 + (st * 1048576 + rn * 65536 + ra * 4096 + rd * 256 + rm)) = 92 := by
  obtain ⟨h1, h2, h3, h4, h5, h6, h7, h8, h9, h10⟩ := h
  have e1 : (4211142656 + (st * 1048576 + rn * 65536 + ra * 4096 + rd * 256 + rm)) / 65536 = 64256 + st * 16 + rn := by omega
  have e2 : (4211142656 + (st * 1048576 + rn * 65536 + ra * 4096 + rd * 256 + rm)) % 65536 = 61440 + ra * 4096 + rd * 256 + rm := by omega
  unfold decW
  rw [e1, e2]
  clear e1 e2
  rw [hl_more (c := 4016) (d := 2008) (by omega) (by omega) (by omega) (show _ = (0 : Int) by omega) (show _ = (15 : Int) by omega)]
  repeat (first | rw [if_pos (by omega)] | rw [if_neg (by omega)])
theorem dec_93 {f rd rn rm ra im kd bs st cd rg : Int} (hf : f = 93) (h : ((0 ≤ rd ∧ rd ≤ 12 ∨ rd = 14)) ∧ ((0 ≤ rn ∧ rn ≤ 12 ∨ rn = 14)) ∧ ((0 ≤ rm ∧ rm ≤ 12 ∨ rm = 14)) ∧ ((0 ≤ ra ∧ ra ≤ 12 ∨ ra = 14)) ∧ (im = 0) ∧ (kd = 0) ∧ (bs = 0) ∧ (st = 0) ∧ (cd = 0) ∧ (rg = 0)) : decW (4211081216 + (st * 1048576 + rn * 65536 + ra * 4096 + rd * 256 + rm)) = 93 := by
  obtain ⟨h1, h2, h3, h4, h5, h6, h7, h8, h9, h10⟩ := h
  have e1 : (4211081216 + (st * 1048576 + rn * 65536 + ra * 4096 + rd * 256 + rm)) / 65536 = 64256 + st * 16 + rn := by omega
  have e2 : (4211081216 + (st * 1048576 + rn * 65536 + ra * 4096 + rd * 256 + rm)) % 65536 = 0 + ra * 4096 + rd * 256 + rm := by omega
  unfold decW
  rw [e1, e2]
  clear e1 e2
  rw [hl_more (c := 4016) (d := 2008) (by omega) (by omega) (by omega) (show _ = (0 : Int) by omega) (show _ = (ra : Int) by omega)]
  repeat (first | rw [if_pos (by omega)] | rw [if_neg (by omega)])
theorem dec_94 {f rd rn rm ra im kd bs st cd rg : Int} (hf : f = 94) (h : ((0 ≤ rd ∧ rd ≤ 12 ∨ rd = 14)) ∧ ((0 ≤ rn ∧ rn ≤ 12 ∨ rn = 14)) ∧ ((0 ≤ rm ∧ rm ≤ 12 ∨ rm = 14)) ∧ ((0 ≤ ra ∧ ra ≤ 12 ∨ ra = 14)) ∧ (im = 0) ∧ (kd = 0) ∧ (bs = 0) ∧ (st = 0) ∧ (cd = 0) ∧ (rg = 0)) : decW (4211081232 + (st * 1048576 + rn * 65536 + ra * 4096 + rd * 256 + rm)) = 94 := by
  obtain ⟨h1, h2, h3, h4, h5, h6, h7, h8, h9, h10⟩ := h
  have e1 : (4211081232 + (st * 1048576 + rn * 65536 + ra * 4096 + rd * 256 + rm)) / 65536 = 64256 + st * 16 + rn := by omega
  have e2 : (4211081232 + (st * 1048576 + rn * 65536 + ra * 4096 + rd * 256 + rm)) % 65536 = 16 + ra * 4096 + rd * 256 + rm := by omega
  unfold decW
  rw [e1, e2]
  clear e1 e2
  rw [hl_more (c := 4016) (d := 2008) (by omega) (by omega) (by omega) (show _ = (1 : Int) by omega) (show _ = (ra : Int) by omega)]
  repeat (first | rw [if_pos (by omega)] | rw [if_neg (by omega)])
theorem dec_95 {f rd rn rm ra im kd bs st cd rg : Int} (hf : f = 95) (h : ((0 ≤ rd ∧ rd ≤ 12 ∨ rd = 14)) ∧ ((0 ≤ rn ∧ rn ≤ 12 ∨ rn = 14)) ∧ ((0 ≤ rm ∧ rm ≤ 12 ∨ rm = 14)) ∧ ((0 ≤ ra ∧ ra ≤ 12 ∨ ra = 14)) ∧ (im = 0) ∧ (kd = 0) ∧ (bs = 0) ∧ (st = 0) ∧ (cd = 0) ∧ (rg = 0)) : decW (4221566976 + (rn * 65536 + rd * 4096 + ra * 256 + rm)) = 95 := by
  obtain ⟨h1, h2, h3, h4, h5, h6, h7, h8, h9, h10⟩ := h
  have e1 : (4221566976 + (rn * 65536 + rd * 4096 + ra * 256 + rm)) / 65536 = 64416 + rn := by omega
  have e2 : (4221566976 + (rn * 65536 + rd * 4096 + ra * 256 + rm)) % 65536 = 0 + rd * 4096 + ra * 256 + rm := by omega
  unfold decW
  rw [e1, e2]
  clear e1 e2
  rw [hl_more (c := 4026) (d := 2013) (by omega) (by omega) (by omega) rfl rfl]
  repeat (first | rw [if_pos (by omega)] | rw [if_neg (by omega)])
theorem dec_96 {f rd rn rm ra im kd bs st cd rg : Int} (hf : f = 96) (h : ((0 ≤ rd ∧ rd ≤ 12 ∨ rd = 14)) ∧ ((0 ≤ rn ∧ rn ≤ 12 ∨ rn = 14)) ∧ ((0 ≤ rm ∧ rm ≤ 12 ∨ rm = 14)) ∧ ((0 ≤ ra ∧ ra ≤ 12 ∨ ra = 14)) ∧ (im = 0) ∧ (kd = 0) ∧ (bs = 0) ∧ (st = 0) ∧ (cd = 0) ∧ (rg = 0)) : decW (4225761280 + (rn * 65536 + rd * 4096 + ra * 256 + rm)) = 96 := by
  obtain ⟨h1, h2, h3, h4, h5, h6, h7, h8, h9, h10⟩ := h
  have e1 : (4225761280 + (rn * 65536 + rd * 4096 + ra * 256 + rm)) / 65536 = 64480 + rn := by omega
  have e2 : (4225761280 + (rn * 65536 + rd * 4096 + ra * 256 + rm)) % 65536 = 0 + rd * 4096 + ra * 256 + rm := by omega
  unfold decW
  rw [e1, e2]
  clear e1 e2
  rw [hl_more (c := 4030) (d := 2015) (by omega) (by omega) (by omega) rfl rfl]
  repeat (first | rw [if_pos (by omega)] | rw [if_neg (by omega)])
theorem dec_97 {f rd rn rm ra im kd bs st cd rg : Int} (hf : f = 97) (h : ((0 ≤ rd ∧ rd ≤ 12 ∨ rd = 14)) ∧ ((0 ≤ rn ∧ rn ≤ 12 ∨ rn = 14)) ∧ ((0 ≤ rm ∧ rm ≤ 12 ∨ rm = 14)) ∧ (ra = 0) ∧ (im = 0) ∧ (kd = 0) ∧ (bs = 0) ∧ (st = 0) ∧ (cd = 0) ∧ (rg = 0)) : decW (4222677232 + (st * 1048576 + rn * 65536 + ra * 4096 + rd * 256 + rm)) = 97 := by
  obtain ⟨h1, h2, h3, h4, h5, h6, h7, h8, h9, h10⟩ := h
  have e1 : (4222677232 + (st * 1048576 + rn * 65536 + ra * 4096 + rd * 256 + rm)) / 65536 = 64432 + st * 16 + rn := by omega
  have e2 : (4222677232 + (st * 1048576 + rn * 65536 + ra * 4096 + rd * 256 + rm)) % 65536 = 61680 + ra * 4096 + rd * 256 + rm := by omega
  unfold decW
  rw [e1, e2]
  clear e1 e2
  rw [hl_more (c := 4027) (d := 2013) (by omega) (by omega) (by omega) (show _ = (15 : Int) by omega) (show _ = (15 : Int) by omega)]
  repeat (first | rw [if_pos (by omega)] | rw [if_neg (by omega)])
theorem dec_98 {f rd rn rm ra im kd bs st cd rg : Int} (hf : f = 98) (h : ((0 ≤ rd ∧ rd ≤ 12 ∨ rd = 14)) ∧ (rn = 0) ∧ ((0 ≤ rm ∧ rm ≤ 12 ∨ rm = 14)) ∧ (ra = 0) ∧ (im = 0) ∧ (kd = 0) ∧ (bs = 0) ∧ (st = 0) ∧ (cd = 0) ∧ (rg = 0)) : decW (4205899904 + (rm * 65536 + rd * 256 + rm)) = 98 := by
  obtain ⟨h1, h2, h3, h4, h5, h6, h7, h8, h9, h10⟩ := h
  have e1 : (4205899904 + (rm * 65536 + rd * 256 + rm)) / 65536 = 64176 + rm := by omega
  have e2 : (4205899904 + (rm * 65536 + rd * 256 + rm)) % 65536 = 61568 + rd * 256 + rm := by omega
  unfold decW
  rw [e1, e2]
  clear e1 e2
  rw [hl_more (c := 4011) (d := 2005) (by omega) (by omega) (by omega) rfl rfl]
  repeat (first | rw [if_pos (by omega)] | rw [if_neg (by omega)])
theorem dec_99 {f rd rn rm ra im kd bs st cd rg : Int} (hf : f = 99) (h : (rd = 0) ∧ (rn = 0) ∧ (rm = 0) ∧ (ra = 0) ∧ (-1048576 ≤ im ∧ im ≤ 1048574 ∧ im % 2 = 0) ∧ (kd = 0) ∧ (bs = 0) ∧ (st = 0) ∧ (0 ≤ cd ∧ cd ≤ 13) ∧ (rg = 0)) : decW (4026564608 + (im / 1048576 % 2 * 67108864 + cd * 4194304 + im / 4096 % 64 * 65536 + im / 262144 % 2 * 8192 + im / 524288 % 2 * 2048 + im / 2 % 2048)) = 99 := by
  obtain ⟨h1, h2, h3, h4, h5, h6, h7, h8, h9, h10⟩ := h
  have g0 : 0 ≤ im / 1048576 % 2 ∧ im / 1048576 % 2 ≤ 1 := by omega
  have g1 : 0 ≤ im / 4096 % 64 ∧ im / 4096 % 64 ≤ 63 := by omega
  have g2 : 0 ≤ im / 262144 % 2 ∧ im / 262144 % 2 ≤ 1 := by omega
  have g3 : 0 ≤ im / 524288 % 2 ∧ im / 524288 % 2 ≤ 1 := by omega
  have g4 : 0 ≤ im / 2 % 2048 ∧ im / 2 % 2048 ≤ 2047 := by omega
  generalize im / 1048576 % 2 = y0 at g0 ⊢
  generalize im / 4096 % 64 = y1 at g1 ⊢
  generalize im / 262144 % 2 = y2 at g2 ⊢
  generalize im / 524288 % 2 = y3 at g3 ⊢
  generalize im / 2 % 2048 = y4 at g4 ⊢
  clear h5
  have e1 : (4026564608 + (y0 * 67108864 + cd * 4194304 + y1 * 65536 + y2 * 8192 + y3 * 2048 + y4)) / 65536 = 61440 + y0 * 1024 + cd * 64 + y1 := by omega
  have e2 : (4026564608 + (y0 * 67108864 + cd * 4194304 + y1 * 65536 + y2 * 8192 + y3 * 2048 + y4)) % 65536 = 32768 + y2 * 8192 + y3 * 2048 + y4 := by omega
  unfold decW
  rw [e1, e2]
  clear e1 e2
  rw [hl_jump (c := 0) (by omega) (by omega) (by omega)]
  simp
theorem dec_100 {f rd rn rm ra im kd bs st cd rg : Int} (hf : f = 100) (h : (rd = 0) ∧ (rn = 0) ∧ (rm = 0) ∧ (ra = 0) ∧ (-16777216 ≤ im ∧ im ≤ 16777214 ∧ im % 2 = 0) ∧ (kd = 0) ∧ (bs = 0) ∧ (st = 0) ∧ (cd = 0) ∧ (rg = 0)) : decW (4026568704 + (im / 16777216 % 2 * 67108864 + im / 4096 % 1024 * 65536 + j1 im * 8192 + j2 im * 2048 + im / 2 % 2048)) = 100 := by
  obtain ⟨h1, h2, h3, h4, h5, h6, h7, h8, h9, h10⟩ := h
  have g0 : 0 ≤ im / 16777216 % 2 ∧ im / 16777216 % 2 ≤ 1 := by omega
  have g1 : 0 ≤ im / 4096 % 1024 ∧ im / 4096 % 1024 ≤ 1023 := by omega
  have g2 : 0 ≤ j1 im ∧ j1 im ≤ 1 := j1_bd im
  have g3 : 0 ≤ j2 im ∧ j2 im ≤ 1 := j2_bd im
  have g4 : 0 ≤ im / 2 % 2048 ∧ im / 2 % 2048 ≤ 2047 := by omega
  generalize im / 16777216 % 2 = y0 at g0 ⊢
  generalize im / 4096 % 1024 = y1 at g1 ⊢
  generalize j1 im = y2 at g2 ⊢
  generalize j2 im = y3 at g3 ⊢
  generalize im / 2 % 2048 = y4 at g4 ⊢
  clear h5
  have e1 : (4026568704 + (y0 * 67108864 + y1 * 65536 + y2 * 8192 + y3 * 2048 + y4)) / 65536 = 61440 + y0 * 1024 + y1 := by omega
  have e2 : (4026568704 + (y0 * 67108864 + y1 * 65536 + y2 * 8192 + y3 * 2048 + y4)) % 65536 = 36864 + y2 * 8192 + y3 * 2048 + y4 := by omega
  unfold decW
  rw [e1, e2]
  clear e1 e2
  rw [hl_jump (c := 1) (by omega) (by omega) (by omega)]
  simp

end Go.Proofs.YtpgcnbipnjcniaaDoor.Code
