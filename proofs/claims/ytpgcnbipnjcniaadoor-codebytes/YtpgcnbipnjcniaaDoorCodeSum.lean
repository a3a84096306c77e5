/- The word of a right instruction as a sum; its form out of its word. -/
import Derived.Test.YtpgcnbipnjcniaaDoorCodeLin
set_option linter.unusedVariables false
set_option linter.unusedSimpArgs false
namespace Go.Proofs.YtpgcnbipnjcniaaDoor.Code
open Go.Proofs.YtpgcnbipnjcniaaDoor.Alu Go.Proofs.YtpgcnbipnjcniaaDoor.Imm Go.Proofs.YtpgcnbipnjcniaaDoor.Inst

/-- The bits 23 and 22 of how far a wide jump goes, as they stand in its word. -/
def j1 (n : Int) : Int := if n / 8388608 % 2 = n / 16777216 % 2 then 1 else 0
def j2 (n : Int) : Int := if n / 4194304 % 2 = n / 16777216 % 2 then 1 else 0
theorem j1_bd (n : Int) : 0 ≤ j1 n ∧ j1 n ≤ 1 := by unfold j1; split <;> omega
theorem j2_bd (n : Int) : 0 ≤ j2 n ∧ j2 n ≤ 1 := by unfold j2; split <;> omega

/-- What is added to a form's bits, by its shape. -/
def add (s rd rn rm ra im kd bs st cd rg : Int) : Int :=
  if s = 1 then im % 32 * 64 + rm * 8 + rd
  else if s = 2 then rm * 64 + rn * 8 + rd
  else if s = 3 then im * 64 + rn * 8 + rd
  else if s = 4 then rd * 256 + im
  else if s = 5 then rm * 8 + rd
  else if s = 6 then rd / 8 * 128 + rm * 8 + rd % 8
  else if s = 7 then rm * 8
  else if s = 8 then rd * 256 + im / 4
  else if s = 9 then im / 4 * 64 + rn * 8 + rd
  else if s = 10 then im / 4
  else if s = 11 then rg / 16384 % 2 * 256 + rg % 256
  else if s = 12 then rg / 32768 % 2 * 256 + rg % 256
  else if s = 13 then 0
  else if s = 14 then im
  else if s = 15 then cd * 256 + im / 2 % 256
  else if s = 16 then im / 2 % 2048
  else if s = 17 then im / 2048 % 2 * 67108864 + im / 4096 * 65536 + im / 256 % 8 * 4096 + rd * 256 + im % 256
  else if s = 18 ∨ s = 19 ∨ s = 20 ∨ s = 24 then im / 2048 * 67108864 + st * 1048576 + rn * 65536 + im / 256 % 8 * 4096 + rd * 256 + im % 256
  else if s = 21 ∨ s = 22 ∨ s = 23 then st * 1048576 + rn * 65536 + bs / 4 % 8 * 4096 + rd * 256 + bs % 4 * 64 + kd * 16 + rm
  else if s = 25 then rn * 65536 + rd * 4096 + im
  else if s = 26 then rn * 65536 + rd * 4096 + bs * 16 + rm
  else if s = 27 ∨ s = 28 ∨ s = 29 ∨ s = 30 then st * 1048576 + rn * 65536 + ra * 4096 + rd * 256 + rm
  else if s = 31 then rn * 65536 + rd * 4096 + ra * 256 + rm
  else if s = 32 then rm * 65536 + rd * 256 + rm
  else if s = 33 then im / 1048576 % 2 * 67108864 + cd * 4194304 + im / 4096 % 64 * 65536 + im / 262144 % 2 * 8192 + im / 524288 % 2 * 2048 + im / 2 % 2048
  else if s = 34 then im / 16777216 % 2 * 67108864 + im / 4096 % 1024 * 65536 + j1 im * 8192 + j2 im * 2048 + im / 2 % 2048
  else 0
/-- The word of an instruction. -/
def wd (f rd rn rm ra im kd bs st cd rg : Int) : Int := bts f + add (shp f) rd rn rm ra im kd bs st cd rg

/-- The narrow form that a word can be of. -/
def decN (w : Int) : Int :=
  if w / 2048 ≤ 2 then w / 2048 + 1
  else if w / 2048 = 3 then 4 + w / 512 % 4
  else if w / 2048 ≤ 7 then w / 2048 + 4
  else if w / 1024 = 16 then 12 + w / 64 % 16
  else if w / 1024 = 17 then 28 + w / 256 % 4
  else if w / 2048 = 9 then 32
  else if w / 2048 = 10 then 33
  else if w / 2048 = 11 then 34
  else if w / 2048 = 12 then 35
  else if w / 2048 = 13 then 36
  else if w / 2048 = 18 then 37
  else if w / 2048 = 19 then 38
  else if w / 2048 = 21 then 39
  else if w / 256 = 176 then 40 + w / 128 % 2
  else if w / 512 = 90 then 42
  else if w / 512 = 94 then 43
  else if w / 256 = 191 then 44
  else if w / 256 = 190 then 45
  else if w / 4096 = 13 then 46
  else 47
def decO (o rd rn d : Int) : Int :=
  d + (if o = 0 then (if rd = 15 then 62 else 50) else if o = 1 then 51 else if o = 2 then (if rn = 15 then 60 else 52) else if o = 3 then (if rn = 15 then 61 else 53)
    else if o = 4 then (if rd = 15 then 63 else 54) else if o = 8 then (if rd = 15 then 64 else 55) else if o = 10 then 56 else if o = 11 then 57 else if o = 13 then (if rd = 15 then 65 else 58) else 59)
/-- The wide form that a word can be of, by its upper and its lower half. -/
def decHL (h l : Int) : Int :=
  if h / 2048 = 29 then decO (h / 32 % 16) (l / 256 % 16) (h % 16) 16
  else if h / 2048 = 30 then
    (if l / 32768 = 1 then (if l / 4096 % 2 = 1 then 100 else 99)
     else if h / 512 % 2 = 0 then decO (h / 32 % 16) (l / 256 % 16) (h % 16) 0
     else if h / 16 % 32 = 4 then 48 else if h / 16 % 32 = 12 then 49 else if h / 16 % 32 = 0 then 82 else 83)
  else if h / 16 = 3980 then 84 else if h / 16 = 3981 then 85 else if h / 16 = 3972 then 86 else if h / 16 = 3973 then 87
  else if h / 32 = 2000 then 88 else if h / 32 = 2001 then 89 else if h / 32 = 2002 then 90 else if h / 32 = 2003 then 91
  else if h / 16 = 4016 then (if l / 16 % 16 = 1 then 94 else if l / 4096 % 16 = 15 then 92 else 93)
  else if h / 16 = 4026 then 95 else if h / 16 = 4030 then 96 else if h / 16 = 4027 then 97 else 98
def decW (w : Int) : Int := decHL (w / 65536) (w % 65536)

theorem hl_imm {h l o r n : Int} (h1 : h / 2048 = 30) (h2 : l / 32768 = 0) (h3 : h / 512 % 2 = 0) (h4 : h / 32 % 16 = o) (h5 : l / 256 % 16 = r) (h6 : h % 16 = n) : decHL h l = decO o r n 0 := by
  unfold decHL; rw [if_neg (by omega), if_pos h1, if_neg (by omega), if_pos h3, h4, h5, h6]
theorem hl_shift {h l o r n : Int} (h1 : h / 2048 = 29) (h4 : h / 32 % 16 = o) (h5 : l / 256 % 16 = r) (h6 : h % 16 = n) : decHL h l = decO o r n 16 := by
  unfold decHL; rw [if_pos h1, h4, h5, h6]
theorem hl_plain {h l c : Int} (h1 : h / 2048 = 30) (h2 : l / 32768 = 0) (h3 : h / 512 % 2 = 1) (h4 : h / 16 % 32 = c) : decHL h l = if c = 4 then 48 else if c = 12 then 49 else if c = 0 then 82 else 83 := by
  unfold decHL; rw [if_neg (by omega), if_pos h1, if_neg (by omega), if_neg (by omega), h4]
theorem hl_jump {h l c : Int} (h1 : h / 2048 = 30) (h2 : l / 32768 = 1) (h3 : l / 4096 % 2 = c) : decHL h l = if c = 1 then 100 else 99 := by
  unfold decHL; rw [if_neg (by omega), if_pos h1, if_pos h2, h3]
theorem hl_more {h l c d e g : Int} (h1 : h / 2048 = 31) (h2 : h / 16 = c) (h3 : h / 32 = d) (h4 : l / 16 % 16 = e) (h5 : l / 4096 % 16 = g) : decHL h l =
    if c = 3980 then 84 else if c = 3981 then 85 else if c = 3972 then 86 else if c = 3973 then 87 else if d = 2000 then 88 else if d = 2001 then 89 else if d = 2002 then 90 else if d = 2003 then 91
    else if c = 4016 then (if e = 1 then 94 else if g = 15 then 92 else 93) else if c = 4026 then 95 else if c = 4030 then 96 else if c = 4027 then 97 else 98 := by
  unfold decHL; rw [if_neg (by omega), if_neg (by omega), h2, h3, h4, h5]

theorem n_shift {w c : Int} (h : w / 2048 = c) (h0 : c ≤ 2) : decN w = c + 1 := by
  unfold decN; rw [if_pos (by omega), h]
theorem n_three {w d : Int} (h : w / 2048 = 3) (h0 : w / 512 % 4 = d) : decN w = 4 + d := by
  unfold decN; rw [if_neg (by omega), if_pos h, h0]
theorem n_byte {w c : Int} (h : w / 2048 = c) (h0 : 4 ≤ c) (h1 : c ≤ 7) : decN w = c + 4 := by
  unfold decN; rw [if_neg (by omega), if_neg (by omega), if_pos (by omega), h]
theorem n_two {w d : Int} (h : w / 1024 = 16) (h0 : w / 64 % 16 = d) : decN w = 12 + d := by
  unfold decN; rw [if_neg (by omega), if_neg (by omega), if_neg (by omega), if_pos h, h0]
theorem n_high {w d : Int} (h : w / 1024 = 17) (h0 : w / 256 % 4 = d) : decN w = 28 + d := by
  unfold decN; rw [if_neg (by omega), if_neg (by omega), if_neg (by omega), if_neg (by omega), if_pos h, h0]
theorem n_32 {w : Int} (h : w / 2048 = 9) : decN w = 32 := by
  unfold decN; rw [if_neg (by omega), if_neg (by omega), if_neg (by omega), if_neg (by omega), if_neg (by omega), if_pos h]
theorem n_33 {w : Int} (h : w / 2048 = 10) : decN w = 33 := by
  unfold decN; rw [if_neg (by omega), if_neg (by omega), if_neg (by omega), if_neg (by omega), if_neg (by omega), if_neg (by omega), if_pos h]
theorem n_34 {w : Int} (h : w / 2048 = 11) : decN w = 34 := by
  unfold decN; rw [if_neg (by omega), if_neg (by omega), if_neg (by omega), if_neg (by omega), if_neg (by omega), if_neg (by omega), if_neg (by omega), if_pos h]
theorem n_35 {w : Int} (h : w / 2048 = 12) : decN w = 35 := by
  unfold decN; rw [if_neg (by omega), if_neg (by omega), if_neg (by omega), if_neg (by omega), if_neg (by omega), if_neg (by omega), if_neg (by omega), if_neg (by omega), if_pos h]
theorem n_36 {w : Int} (h : w / 2048 = 13) : decN w = 36 := by
  unfold decN; rw [if_neg (by omega), if_neg (by omega), if_neg (by omega), if_neg (by omega), if_neg (by omega), if_neg (by omega), if_neg (by omega), if_neg (by omega), if_neg (by omega), if_pos h]
theorem n_37 {w : Int} (h : w / 2048 = 18) : decN w = 37 := by
  unfold decN; rw [if_neg (by omega), if_neg (by omega), if_neg (by omega), if_neg (by omega), if_neg (by omega), if_neg (by omega), if_neg (by omega), if_neg (by omega), if_neg (by omega), if_neg (by omega), if_pos h]
theorem n_38 {w : Int} (h : w / 2048 = 19) : decN w = 38 := by
  unfold decN; rw [if_neg (by omega), if_neg (by omega), if_neg (by omega), if_neg (by omega), if_neg (by omega), if_neg (by omega), if_neg (by omega), if_neg (by omega), if_neg (by omega), if_neg (by omega), if_neg (by omega), if_pos h]
theorem n_39 {w : Int} (h : w / 2048 = 21) : decN w = 39 := by
  unfold decN; rw [if_neg (by omega), if_neg (by omega), if_neg (by omega), if_neg (by omega), if_neg (by omega), if_neg (by omega), if_neg (by omega), if_neg (by omega), if_neg (by omega), if_neg (by omega), if_neg (by omega), if_neg (by omega), if_pos h]
theorem n_inc {w d : Int} (h : w / 256 = 176) (h0 : w / 128 % 2 = d) : decN w = 40 + d := by
  unfold decN; rw [if_neg (by omega), if_neg (by omega), if_neg (by omega), if_neg (by omega), if_neg (by omega), if_neg (by omega), if_neg (by omega), if_neg (by omega), if_neg (by omega), if_neg (by omega), if_neg (by omega), if_neg (by omega), if_neg (by omega), if_pos h, h0]
theorem n_42 {w : Int} (h : w / 512 = 90) : decN w = 42 := by
  unfold decN; rw [if_neg (by omega), if_neg (by omega), if_neg (by omega), if_neg (by omega), if_neg (by omega), if_neg (by omega), if_neg (by omega), if_neg (by omega), if_neg (by omega), if_neg (by omega), if_neg (by omega), if_neg (by omega), if_neg (by omega), if_neg (by omega), if_pos h]
theorem n_43 {w : Int} (h : w / 512 = 94) : decN w = 43 := by
  unfold decN; rw [if_neg (by omega), if_neg (by omega), if_neg (by omega), if_neg (by omega), if_neg (by omega), if_neg (by omega), if_neg (by omega), if_neg (by omega), if_neg (by omega), if_neg (by omega), if_neg (by omega), if_neg (by omega), if_neg (by omega), if_neg (by omega), if_neg (by omega), if_pos h]
theorem n_44 {w : Int} (h : w / 256 = 191) : decN w = 44 := by
  unfold decN; rw [if_neg (by omega), if_neg (by omega), if_neg (by omega), if_neg (by omega), if_neg (by omega), if_neg (by omega), if_neg (by omega), if_neg (by omega), if_neg (by omega), if_neg (by omega), if_neg (by omega), if_neg (by omega), if_neg (by omega), if_neg (by omega), if_neg (by omega), if_neg (by omega), if_pos h]
theorem n_45 {w : Int} (h : w / 256 = 190) : decN w = 45 := by
  unfold decN; rw [if_neg (by omega), if_neg (by omega), if_neg (by omega), if_neg (by omega), if_neg (by omega), if_neg (by omega), if_neg (by omega), if_neg (by omega), if_neg (by omega), if_neg (by omega), if_neg (by omega), if_neg (by omega), if_neg (by omega), if_neg (by omega), if_neg (by omega), if_neg (by omega), if_neg (by omega), if_pos h]
theorem n_46 {w : Int} (h : w / 4096 = 13) : decN w = 46 := by
  unfold decN; rw [if_neg (by omega), if_neg (by omega), if_neg (by omega), if_neg (by omega), if_neg (by omega), if_neg (by omega), if_neg (by omega), if_neg (by omega), if_neg (by omega), if_neg (by omega), if_neg (by omega), if_neg (by omega), if_neg (by omega), if_neg (by omega), if_neg (by omega), if_neg (by omega), if_neg (by omega), if_neg (by omega), if_pos h]
theorem n_47 {w : Int} (h : w / 2048 = 28) : decN w = 47 := by
  unfold decN; rw [if_neg (by omega), if_neg (by omega), if_neg (by omega), if_neg (by omega), if_neg (by omega), if_neg (by omega), if_neg (by omega), if_neg (by omega), if_neg (by omega), if_neg (by omega), if_neg (by omega), if_neg (by omega), if_neg (by omega), if_neg (by omega), if_neg (by omega), if_neg (by omega), if_neg (by omega), if_neg (by omega), if_neg (by omega)]

end Go.Proofs.YtpgcnbipnjcniaaDoor.Code
