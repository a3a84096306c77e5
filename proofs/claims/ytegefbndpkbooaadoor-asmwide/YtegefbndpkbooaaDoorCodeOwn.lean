/- What the code reads out of a word without its form's bits: of a right instruction's it is that one again. -/
import Derived.Test.YtegefbndpkbooaaDoorCodeCut
import Derived.Test.YtegefbndpkbooaaDoorCodeBacks
set_option linter.unusedVariables false
set_option linter.unusedSimpArgs false
namespace Go.Proofs.YtegefbndpkbooaaDoor.Code
open Go.Proofs.YtegefbndpkbooaaDoor.Alu Go.Proofs.YtegefbndpkbooaaDoor.Imm Go.Proofs.YtegefbndpkbooaaDoor.Inst

def cF (f s x : Int) : List Int :=
  if s = 1 then [x % 8, 0, x / 8 % 8, 0, fr (x / 64 % 32) (f == 1), 0, 0, 0, 0, 0]
  else if s = 2 then [x % 8, x / 8 % 8, x / 64 % 8, 0, 0, 0, 0, 0, 0, 0]
  else if s = 3 then [x % 8, x / 8 % 8, 0, 0, x / 64 % 8, 0, 0, 0, 0, 0]
  else if s = 4 then [x / 256 % 8, 0, 0, 0, x % 256, 0, 0, 0, 0, 0]
  else if s = 5 then [x % 8, 0, x / 8 % 8, 0, 0, 0, 0, 0, 0, 0]
  else if s = 6 then [x / 128 % 2 * 8 + x % 8, 0, x / 8 % 16, 0, 0, 0, 0, 0, 0, 0]
  else if s = 7 then [0, 0, x / 8 % 16, 0, 0, 0, 0, 0, 0, 0]
  else if s = 8 then [x / 256 % 8, 0, 0, 0, x % 256 * 4, 0, 0, 0, 0, 0]
  else if s = 9 then [x % 8, x / 8 % 8, 0, 0, x / 64 % 32 * 4, 0, 0, 0, 0, 0]
  else if s = 10 then [0, 0, 0, 0, x % 128 * 4, 0, 0, 0, 0, 0]
  else if s = 11 then [0, 0, 0, 0, 0, 0, 0, 0, 0, x / 256 % 2 * 16384 + x % 256]
  else if s = 12 then [0, 0, 0, 0, 0, 0, 0, 0, 0, x / 256 % 2 * 32768 + x % 256]
  else if s = 13 then [0, 0, 0, 0, 0, 0, 0, 0, 0, 0]
  else if s = 14 then [0, 0, 0, 0, x % 256, 0, 0, 0, 0, 0]
  else if s = 15 then [0, 0, 0, 0, sx (x % 256 * 2) 256, 0, 0, 0, x / 256 % 16, 0]
  else if s = 16 then [0, 0, 0, 0, sx (x % 2048 * 2) 2048, 0, 0, 0, 0, 0]
  else if s = 17 then [x / 256 % 16, 0, 0, 0, x / 65536 % 16 * 4096 + oft x, 0, 0, 0, 0, 0]
  else if s = 18 ∨ s = 19 ∨ s = 20 ∨ s = 24 then [x / 256 % 16, x / 65536 % 16, 0, 0, oft x, 0, 0, x / 1048576 % 2, 0, 0]
  else if s = 21 ∨ s = 22 ∨ s = 23 then [x / 256 % 16, x / 65536 % 16, x % 16, 0, 0, x / 16 % 4, fr (x / 4096 % 8 * 4 + x / 64 % 4) (x / 16 % 4 == 0), x / 1048576 % 2, 0, 0]
  else if s = 25 then [x / 4096 % 16, x / 65536 % 16, 0, 0, x % 4096, 0, 0, 0, 0, 0]
  else if s = 26 then [x / 4096 % 16, x / 65536 % 16, x % 16, 0, 0, 0, x / 16 % 4, 0, 0, 0]
  else if s = 27 ∨ s = 28 ∨ s = 29 ∨ s = 30 then [x / 256 % 16, x / 65536 % 16, x % 16, x / 4096 % 16, 0, 0, 0, x / 1048576 % 2, 0, 0]
  else if s = 31 then [x / 4096 % 16, x / 65536 % 16, x % 16, x / 256 % 16, 0, 0, 0, 0, 0, 0]
  else if s = 32 then [x / 256 % 16, 0, x % 16, 0, 0, 0, 0, 0, 0, 0]
  else if s = 33 then [0, 0, 0, 0, ofc x, 0, 0, 0, x / 4194304 % 16, 0]
  else if s = 34 then [0, 0, 0, 0, ofj x, 0, 0, 0, 0, 0]
  else [0, 0, 0, 0, 0, 0, 0, 0, 0, 0]
theorem cF_1 (f x : Int) : cF f 1 x = [x % 8, 0, x / 8 % 8, 0, fr (x / 64 % 32) (f == 1), 0, 0, 0, 0, 0] := by simp +decide only [cF, if_true, if_false]
theorem cF_2 (f x : Int) : cF f 2 x = [x % 8, x / 8 % 8, x / 64 % 8, 0, 0, 0, 0, 0, 0, 0] := by simp +decide only [cF, if_true, if_false]
theorem cF_3 (f x : Int) : cF f 3 x = [x % 8, x / 8 % 8, 0, 0, x / 64 % 8, 0, 0, 0, 0, 0] := by simp +decide only [cF, if_true, if_false]
theorem cF_4 (f x : Int) : cF f 4 x = [x / 256 % 8, 0, 0, 0, x % 256, 0, 0, 0, 0, 0] := by simp +decide only [cF, if_true, if_false]
theorem cF_5 (f x : Int) : cF f 5 x = [x % 8, 0, x / 8 % 8, 0, 0, 0, 0, 0, 0, 0] := by simp +decide only [cF, if_true, if_false]
theorem cF_6 (f x : Int) : cF f 6 x = [x / 128 % 2 * 8 + x % 8, 0, x / 8 % 16, 0, 0, 0, 0, 0, 0, 0] := by simp +decide only [cF, if_true, if_false]
theorem cF_7 (f x : Int) : cF f 7 x = [0, 0, x / 8 % 16, 0, 0, 0, 0, 0, 0, 0] := by simp +decide only [cF, if_true, if_false]
theorem cF_8 (f x : Int) : cF f 8 x = [x / 256 % 8, 0, 0, 0, x % 256 * 4, 0, 0, 0, 0, 0] := by simp +decide only [cF, if_true, if_false]
theorem cF_9 (f x : Int) : cF f 9 x = [x % 8, x / 8 % 8, 0, 0, x / 64 % 32 * 4, 0, 0, 0, 0, 0] := by simp +decide only [cF, if_true, if_false]
theorem cF_10 (f x : Int) : cF f 10 x = [0, 0, 0, 0, x % 128 * 4, 0, 0, 0, 0, 0] := by simp +decide only [cF, if_true, if_false]
theorem cF_11 (f x : Int) : cF f 11 x = [0, 0, 0, 0, 0, 0, 0, 0, 0, x / 256 % 2 * 16384 + x % 256] := by simp +decide only [cF, if_true, if_false]
theorem cF_12 (f x : Int) : cF f 12 x = [0, 0, 0, 0, 0, 0, 0, 0, 0, x / 256 % 2 * 32768 + x % 256] := by simp +decide only [cF, if_true, if_false]
theorem cF_13 (f x : Int) : cF f 13 x = [0, 0, 0, 0, 0, 0, 0, 0, 0, 0] := by simp +decide only [cF, if_true, if_false]
theorem cF_14 (f x : Int) : cF f 14 x = [0, 0, 0, 0, x % 256, 0, 0, 0, 0, 0] := by simp +decide only [cF, if_true, if_false]
theorem cF_15 (f x : Int) : cF f 15 x = [0, 0, 0, 0, sx (x % 256 * 2) 256, 0, 0, 0, x / 256 % 16, 0] := by simp +decide only [cF, if_true, if_false]
theorem cF_16 (f x : Int) : cF f 16 x = [0, 0, 0, 0, sx (x % 2048 * 2) 2048, 0, 0, 0, 0, 0] := by simp +decide only [cF, if_true, if_false]
theorem cF_17 (f x : Int) : cF f 17 x = [x / 256 % 16, 0, 0, 0, x / 65536 % 16 * 4096 + oft x, 0, 0, 0, 0, 0] := by simp +decide only [cF, if_true, if_false]
theorem cF_18 (f x : Int) : cF f 18 x = [x / 256 % 16, x / 65536 % 16, 0, 0, oft x, 0, 0, x / 1048576 % 2, 0, 0] := by simp +decide only [cF, if_true, if_false]
theorem cF_19 (f x : Int) : cF f 19 x = [x / 256 % 16, x / 65536 % 16, 0, 0, oft x, 0, 0, x / 1048576 % 2, 0, 0] := by simp +decide only [cF, if_true, if_false]
theorem cF_20 (f x : Int) : cF f 20 x = [x / 256 % 16, x / 65536 % 16, 0, 0, oft x, 0, 0, x / 1048576 % 2, 0, 0] := by simp +decide only [cF, if_true, if_false]
theorem cF_21 (f x : Int) : cF f 21 x = [x / 256 % 16, x / 65536 % 16, x % 16, 0, 0, x / 16 % 4, fr (x / 4096 % 8 * 4 + x / 64 % 4) (x / 16 % 4 == 0), x / 1048576 % 2, 0, 0] := by simp +decide only [cF, if_true, if_false]
theorem cF_22 (f x : Int) : cF f 22 x = [x / 256 % 16, x / 65536 % 16, x % 16, 0, 0, x / 16 % 4, fr (x / 4096 % 8 * 4 + x / 64 % 4) (x / 16 % 4 == 0), x / 1048576 % 2, 0, 0] := by simp +decide only [cF, if_true, if_false]
theorem cF_23 (f x : Int) : cF f 23 x = [x / 256 % 16, x / 65536 % 16, x % 16, 0, 0, x / 16 % 4, fr (x / 4096 % 8 * 4 + x / 64 % 4) (x / 16 % 4 == 0), x / 1048576 % 2, 0, 0] := by simp +decide only [cF, if_true, if_false]
theorem cF_24 (f x : Int) : cF f 24 x = [x / 256 % 16, x / 65536 % 16, 0, 0, oft x, 0, 0, x / 1048576 % 2, 0, 0] := by simp +decide only [cF, if_true, if_false]
theorem cF_25 (f x : Int) : cF f 25 x = [x / 4096 % 16, x / 65536 % 16, 0, 0, x % 4096, 0, 0, 0, 0, 0] := by simp +decide only [cF, if_true, if_false]
theorem cF_26 (f x : Int) : cF f 26 x = [x / 4096 % 16, x / 65536 % 16, x % 16, 0, 0, 0, x / 16 % 4, 0, 0, 0] := by simp +decide only [cF, if_true, if_false]
theorem cF_27 (f x : Int) : cF f 27 x = [x / 256 % 16, x / 65536 % 16, x % 16, x / 4096 % 16, 0, 0, 0, x / 1048576 % 2, 0, 0] := by simp +decide only [cF, if_true, if_false]
theorem cF_28 (f x : Int) : cF f 28 x = [x / 256 % 16, x / 65536 % 16, x % 16, x / 4096 % 16, 0, 0, 0, x / 1048576 % 2, 0, 0] := by simp +decide only [cF, if_true, if_false]
theorem cF_29 (f x : Int) : cF f 29 x = [x / 256 % 16, x / 65536 % 16, x % 16, x / 4096 % 16, 0, 0, 0, x / 1048576 % 2, 0, 0] := by simp +decide only [cF, if_true, if_false]
theorem cF_30 (f x : Int) : cF f 30 x = [x / 256 % 16, x / 65536 % 16, x % 16, x / 4096 % 16, 0, 0, 0, x / 1048576 % 2, 0, 0] := by simp +decide only [cF, if_true, if_false]
theorem cF_31 (f x : Int) : cF f 31 x = [x / 4096 % 16, x / 65536 % 16, x % 16, x / 256 % 16, 0, 0, 0, 0, 0, 0] := by simp +decide only [cF, if_true, if_false]
theorem cF_32 (f x : Int) : cF f 32 x = [x / 256 % 16, 0, x % 16, 0, 0, 0, 0, 0, 0, 0] := by simp +decide only [cF, if_true, if_false]
theorem cF_33 (f x : Int) : cF f 33 x = [0, 0, 0, 0, ofc x, 0, 0, 0, x / 4194304 % 16, 0] := by simp +decide only [cF, if_true, if_false]
theorem cF_34 (f x : Int) : cF f 34 x = [0, 0, 0, 0, ofj x, 0, 0, 0, 0, 0] := by simp +decide only [cF, if_true, if_false]

theorem oft_bd (x : Int) : 0 ≤ oft x ∧ oft x ≤ 4095 := by unfold oft; omega
theorem list10 {a0 a1 a2 a3 a4 a5 a6 a7 a8 a9 b0 b1 b2 b3 b4 b5 b6 b7 b8 b9 : Int} (h0 : a0 = b0) (h1 : a1 = b1) (h2 : a2 = b2) (h3 : a3 = b3) (h4 : a4 = b4) (h5 : a5 = b5) (h6 : a6 = b6) (h7 : a7 = b7) (h8 : a8 = b8) (h9 : a9 = b9) : [a0, a1, a2, a3, a4, a5, a6, a7, a8, a9] = [b0, b1, b2, b3, b4, b5, b6, b7, b8, b9] := by
  rw [h0, h1, h2, h3, h4, h5, h6, h7, h8, h9]

end Go.Proofs.YtegefbndpkbooaaDoor.Code

