/- CodeRead, CodeBackA, CodeBackB, CodeBackC, CodeBackD, CodeBack, CodeLies, joined. -/
import Derived.Test.YtegefbndpkbooaaDoorCodeDecs

/-! The fields of a right instruction are told by its form and its word: two right ones of one length that have one word are the same. -/
set_option linter.unusedVariables false
set_option linter.unusedSimpArgs false
namespace Go.Proofs.YtegefbndpkbooaaDoor.Code
open Go.Proofs.YtegefbndpkbooaaDoor.Alu Go.Proofs.YtegefbndpkbooaaDoor.Imm Go.Proofs.YtegefbndpkbooaaDoor.Inst

/-- A number of two's complement: from its sign's bit on it is below nought. -/
def sgn (p n : Int) : Int := if p ≤ n then n - 2 * p else n
/-- A bit of a wide jump, back. -/
def jb (b s : Int) : Int := if b = 1 then s else 1 - s
def rdOf (f s w : Int) : Int :=
  if s = 1 ∨ s = 2 ∨ s = 3 ∨ s = 5 ∨ s = 9 then w % 8 else if s = 4 ∨ s = 8 then w / 256 % 8 else if s = 6 then w / 128 % 2 * 8 + w % 8 else if s = 17 ∨ s = 18 ∨ s = 19 ∨ s = 21 ∨ s = 22 ∨ s = 24 ∨ s = 27 ∨ s = 28 ∨ s = 29 ∨ s = 30 ∨ s = 32 then w / 256 % 16 else if s = 25 ∨ s = 26 ∨ s = 31 then w / 4096 % 16 else 0
def rnOf (f s w : Int) : Int :=
  if s = 2 ∨ s = 3 ∨ s = 9 then w / 8 % 8 else if s = 18 ∨ s = 20 ∨ s = 21 ∨ s = 23 ∨ s = 24 ∨ s = 25 ∨ s = 26 ∨ s = 27 ∨ s = 28 ∨ s = 29 ∨ s = 30 ∨ s = 31 then w / 65536 % 16 else 0
def rmOf (f s w : Int) : Int :=
  if s = 1 ∨ s = 5 then w / 8 % 8 else if s = 2 then w / 64 % 8 else if s = 6 ∨ s = 7 then w / 8 % 16 else if s = 21 ∨ s = 22 ∨ s = 23 ∨ s = 26 ∨ s = 27 ∨ s = 28 ∨ s = 29 ∨ s = 30 ∨ s = 31 ∨ s = 32 then w % 16 else 0
def raOf (f s w : Int) : Int :=
  if s = 29 ∨ s = 30 then w / 4096 % 16 else if s = 31 then w / 256 % 16 else 0
def imOf (f s w : Int) : Int :=
  if s = 1 then (if ¬ f = 1 ∧ w / 64 % 32 = 0 then 32 else w / 64 % 32) else if s = 3 then w / 64 % 8 else if s = 4 ∨ s = 14 then w % 256 else if s = 8 then w % 256 * 4 else if s = 9 then w / 64 % 32 * 4 else if s = 10 then w % 128 * 4 else if s = 15 then sgn 256 (w % 256 * 2) else if s = 16 then sgn 2048 (w % 2048 * 2) else if s = 17 then w / 67108864 % 2 * 2048 + w / 65536 % 16 * 4096 + w / 4096 % 8 * 256 + w % 256 else if s = 18 ∨ s = 19 ∨ s = 20 ∨ s = 24 then w / 67108864 % 2 * 2048 + w / 4096 % 8 * 256 + w % 256 else if s = 25 then w % 4096 else if s = 33 then sgn 1048576 (w / 67108864 % 2 * 1048576 + w / 65536 % 64 * 4096 + w / 8192 % 2 * 262144 + w / 2048 % 2 * 524288 + w % 2048 * 2) else if s = 34 then sgn 16777216 (w / 67108864 % 2 * 16777216 + w / 65536 % 1024 * 4096 + jb (w / 8192 % 2) (w / 67108864 % 2) * 8388608 + jb (w / 2048 % 2) (w / 67108864 % 2) * 4194304 + w % 2048 * 2) else 0
def kdOf (f s w : Int) : Int :=
  if s = 21 ∨ s = 22 ∨ s = 23 then w / 16 % 4 else 0
def bsOf (f s w : Int) : Int :=
  if s = 21 ∨ s = 22 ∨ s = 23 then (if w / 4096 % 8 * 4 + w / 64 % 4 = 0 ∧ (w / 16 % 4 = 1 ∨ w / 16 % 4 = 2) then 32 else w / 4096 % 8 * 4 + w / 64 % 4) else if s = 26 then w / 16 % 4 else 0
def stOf (f s w : Int) : Int :=
  if s = 18 ∨ s = 19 ∨ s = 21 ∨ s = 22 ∨ s = 27 then w / 1048576 % 2 else 0
def cdOf (f s w : Int) : Int :=
  if s = 15 then w / 256 % 16 else if s = 33 then w / 4194304 % 16 else 0
def rgOf (f s w : Int) : Int :=
  if s = 11 then w / 256 % 2 * 16384 + w % 256 else if s = 12 then w / 256 % 2 * 32768 + w % 256 else 0
theorem rd_1 (f w : Int) : rdOf f 1 w = w % 8 := by simp +decide only [rdOf, if_true, if_false]
theorem rd_2 (f w : Int) : rdOf f 2 w = w % 8 := by simp +decide only [rdOf, if_true, if_false]
theorem rd_3 (f w : Int) : rdOf f 3 w = w % 8 := by simp +decide only [rdOf, if_true, if_false]
theorem rd_4 (f w : Int) : rdOf f 4 w = w / 256 % 8 := by simp +decide only [rdOf, if_true, if_false]
theorem rd_5 (f w : Int) : rdOf f 5 w = w % 8 := by simp +decide only [rdOf, if_true, if_false]
theorem rd_6 (f w : Int) : rdOf f 6 w = w / 128 % 2 * 8 + w % 8 := by simp +decide only [rdOf, if_true, if_false]
theorem rd_7 (f w : Int) : rdOf f 7 w = 0 := by simp +decide only [rdOf, if_true, if_false]
theorem rd_8 (f w : Int) : rdOf f 8 w = w / 256 % 8 := by simp +decide only [rdOf, if_true, if_false]
theorem rd_9 (f w : Int) : rdOf f 9 w = w % 8 := by simp +decide only [rdOf, if_true, if_false]
theorem rd_10 (f w : Int) : rdOf f 10 w = 0 := by simp +decide only [rdOf, if_true, if_false]
theorem rd_11 (f w : Int) : rdOf f 11 w = 0 := by simp +decide only [rdOf, if_true, if_false]
theorem rd_12 (f w : Int) : rdOf f 12 w = 0 := by simp +decide only [rdOf, if_true, if_false]
theorem rd_13 (f w : Int) : rdOf f 13 w = 0 := by simp +decide only [rdOf, if_true, if_false]
theorem rd_14 (f w : Int) : rdOf f 14 w = 0 := by simp +decide only [rdOf, if_true, if_false]
theorem rd_15 (f w : Int) : rdOf f 15 w = 0 := by simp +decide only [rdOf, if_true, if_false]
theorem rd_16 (f w : Int) : rdOf f 16 w = 0 := by simp +decide only [rdOf, if_true, if_false]
theorem rd_17 (f w : Int) : rdOf f 17 w = w / 256 % 16 := by simp +decide only [rdOf, if_true, if_false]
theorem rd_18 (f w : Int) : rdOf f 18 w = w / 256 % 16 := by simp +decide only [rdOf, if_true, if_false]
theorem rd_19 (f w : Int) : rdOf f 19 w = w / 256 % 16 := by simp +decide only [rdOf, if_true, if_false]
theorem rd_20 (f w : Int) : rdOf f 20 w = 0 := by simp +decide only [rdOf, if_true, if_false]
theorem rd_21 (f w : Int) : rdOf f 21 w = w / 256 % 16 := by simp +decide only [rdOf, if_true, if_false]
theorem rd_22 (f w : Int) : rdOf f 22 w = w / 256 % 16 := by simp +decide only [rdOf, if_true, if_false]
theorem rd_23 (f w : Int) : rdOf f 23 w = 0 := by simp +decide only [rdOf, if_true, if_false]
theorem rd_24 (f w : Int) : rdOf f 24 w = w / 256 % 16 := by simp +decide only [rdOf, if_true, if_false]
theorem rd_25 (f w : Int) : rdOf f 25 w = w / 4096 % 16 := by simp +decide only [rdOf, if_true, if_false]
theorem rd_26 (f w : Int) : rdOf f 26 w = w / 4096 % 16 := by simp +decide only [rdOf, if_true, if_false]
theorem rd_27 (f w : Int) : rdOf f 27 w = w / 256 % 16 := by simp +decide only [rdOf, if_true, if_false]
theorem rd_28 (f w : Int) : rdOf f 28 w = w / 256 % 16 := by simp +decide only [rdOf, if_true, if_false]
theorem rd_29 (f w : Int) : rdOf f 29 w = w / 256 % 16 := by simp +decide only [rdOf, if_true, if_false]
theorem rd_30 (f w : Int) : rdOf f 30 w = w / 256 % 16 := by simp +decide only [rdOf, if_true, if_false]
theorem rd_31 (f w : Int) : rdOf f 31 w = w / 4096 % 16 := by simp +decide only [rdOf, if_true, if_false]
theorem rd_32 (f w : Int) : rdOf f 32 w = w / 256 % 16 := by simp +decide only [rdOf, if_true, if_false]
theorem rd_33 (f w : Int) : rdOf f 33 w = 0 := by simp +decide only [rdOf, if_true, if_false]
theorem rd_34 (f w : Int) : rdOf f 34 w = 0 := by simp +decide only [rdOf, if_true, if_false]
theorem rn_1 (f w : Int) : rnOf f 1 w = 0 := by simp +decide only [rnOf, if_true, if_false]
theorem rn_2 (f w : Int) : rnOf f 2 w = w / 8 % 8 := by simp +decide only [rnOf, if_true, if_false]
theorem rn_3 (f w : Int) : rnOf f 3 w = w / 8 % 8 := by simp +decide only [rnOf, if_true, if_false]
theorem rn_4 (f w : Int) : rnOf f 4 w = 0 := by simp +decide only [rnOf, if_true, if_false]
theorem rn_5 (f w : Int) : rnOf f 5 w = 0 := by simp +decide only [rnOf, if_true, if_false]
theorem rn_6 (f w : Int) : rnOf f 6 w = 0 := by simp +decide only [rnOf, if_true, if_false]
theorem rn_7 (f w : Int) : rnOf f 7 w = 0 := by simp +decide only [rnOf, if_true, if_false]
theorem rn_8 (f w : Int) : rnOf f 8 w = 0 := by simp +decide only [rnOf, if_true, if_false]
theorem rn_9 (f w : Int) : rnOf f 9 w = w / 8 % 8 := by simp +decide only [rnOf, if_true, if_false]
theorem rn_10 (f w : Int) : rnOf f 10 w = 0 := by simp +decide only [rnOf, if_true, if_false]
theorem rn_11 (f w : Int) : rnOf f 11 w = 0 := by simp +decide only [rnOf, if_true, if_false]
theorem rn_12 (f w : Int) : rnOf f 12 w = 0 := by simp +decide only [rnOf, if_true, if_false]
theorem rn_13 (f w : Int) : rnOf f 13 w = 0 := by simp +decide only [rnOf, if_true, if_false]
theorem rn_14 (f w : Int) : rnOf f 14 w = 0 := by simp +decide only [rnOf, if_true, if_false]
theorem rn_15 (f w : Int) : rnOf f 15 w = 0 := by simp +decide only [rnOf, if_true, if_false]
theorem rn_16 (f w : Int) : rnOf f 16 w = 0 := by simp +decide only [rnOf, if_true, if_false]
theorem rn_17 (f w : Int) : rnOf f 17 w = 0 := by simp +decide only [rnOf, if_true, if_false]
theorem rn_18 (f w : Int) : rnOf f 18 w = w / 65536 % 16 := by simp +decide only [rnOf, if_true, if_false]
theorem rn_19 (f w : Int) : rnOf f 19 w = 0 := by simp +decide only [rnOf, if_true, if_false]
theorem rn_20 (f w : Int) : rnOf f 20 w = w / 65536 % 16 := by simp +decide only [rnOf, if_true, if_false]
theorem rn_21 (f w : Int) : rnOf f 21 w = w / 65536 % 16 := by simp +decide only [rnOf, if_true, if_false]
theorem rn_22 (f w : Int) : rnOf f 22 w = 0 := by simp +decide only [rnOf, if_true, if_false]
theorem rn_23 (f w : Int) : rnOf f 23 w = w / 65536 % 16 := by simp +decide only [rnOf, if_true, if_false]
theorem rn_24 (f w : Int) : rnOf f 24 w = w / 65536 % 16 := by simp +decide only [rnOf, if_true, if_false]
theorem rn_25 (f w : Int) : rnOf f 25 w = w / 65536 % 16 := by simp +decide only [rnOf, if_true, if_false]
theorem rn_26 (f w : Int) : rnOf f 26 w = w / 65536 % 16 := by simp +decide only [rnOf, if_true, if_false]
theorem rn_27 (f w : Int) : rnOf f 27 w = w / 65536 % 16 := by simp +decide only [rnOf, if_true, if_false]
theorem rn_28 (f w : Int) : rnOf f 28 w = w / 65536 % 16 := by simp +decide only [rnOf, if_true, if_false]
theorem rn_29 (f w : Int) : rnOf f 29 w = w / 65536 % 16 := by simp +decide only [rnOf, if_true, if_false]
theorem rn_30 (f w : Int) : rnOf f 30 w = w / 65536 % 16 := by simp +decide only [rnOf, if_true, if_false]
theorem rn_31 (f w : Int) : rnOf f 31 w = w / 65536 % 16 := by simp +decide only [rnOf, if_true, if_false]
theorem rn_32 (f w : Int) : rnOf f 32 w = 0 := by simp +decide only [rnOf, if_true, if_false]
theorem rn_33 (f w : Int) : rnOf f 33 w = 0 := by simp +decide only [rnOf, if_true, if_false]
theorem rn_34 (f w : Int) : rnOf f 34 w = 0 := by simp +decide only [rnOf, if_true, if_false]
theorem rm_1 (f w : Int) : rmOf f 1 w = w / 8 % 8 := by simp +decide only [rmOf, if_true, if_false]
theorem rm_2 (f w : Int) : rmOf f 2 w = w / 64 % 8 := by simp +decide only [rmOf, if_true, if_false]
theorem rm_3 (f w : Int) : rmOf f 3 w = 0 := by simp +decide only [rmOf, if_true, if_false]
theorem rm_4 (f w : Int) : rmOf f 4 w = 0 := by simp +decide only [rmOf, if_true, if_false]
theorem rm_5 (f w : Int) : rmOf f 5 w = w / 8 % 8 := by simp +decide only [rmOf, if_true, if_false]
theorem rm_6 (f w : Int) : rmOf f 6 w = w / 8 % 16 := by simp +decide only [rmOf, if_true, if_false]
theorem rm_7 (f w : Int) : rmOf f 7 w = w / 8 % 16 := by simp +decide only [rmOf, if_true, if_false]
theorem rm_8 (f w : Int) : rmOf f 8 w = 0 := by simp +decide only [rmOf, if_true, if_false]
theorem rm_9 (f w : Int) : rmOf f 9 w = 0 := by simp +decide only [rmOf, if_true, if_false]
theorem rm_10 (f w : Int) : rmOf f 10 w = 0 := by simp +decide only [rmOf, if_true, if_false]
theorem rm_11 (f w : Int) : rmOf f 11 w = 0 := by simp +decide only [rmOf, if_true, if_false]
theorem rm_12 (f w : Int) : rmOf f 12 w = 0 := by simp +decide only [rmOf, if_true, if_false]
theorem rm_13 (f w : Int) : rmOf f 13 w = 0 := by simp +decide only [rmOf, if_true, if_false]
theorem rm_14 (f w : Int) : rmOf f 14 w = 0 := by simp +decide only [rmOf, if_true, if_false]
theorem rm_15 (f w : Int) : rmOf f 15 w = 0 := by simp +decide only [rmOf, if_true, if_false]
theorem rm_16 (f w : Int) : rmOf f 16 w = 0 := by simp +decide only [rmOf, if_true, if_false]
theorem rm_17 (f w : Int) : rmOf f 17 w = 0 := by simp +decide only [rmOf, if_true, if_false]
theorem rm_18 (f w : Int) : rmOf f 18 w = 0 := by simp +decide only [rmOf, if_true, if_false]
theorem rm_19 (f w : Int) : rmOf f 19 w = 0 := by simp +decide only [rmOf, if_true, if_false]
theorem rm_20 (f w : Int) : rmOf f 20 w = 0 := by simp +decide only [rmOf, if_true, if_false]
theorem rm_21 (f w : Int) : rmOf f 21 w = w % 16 := by simp +decide only [rmOf, if_true, if_false]
theorem rm_22 (f w : Int) : rmOf f 22 w = w % 16 := by simp +decide only [rmOf, if_true, if_false]
theorem rm_23 (f w : Int) : rmOf f 23 w = w % 16 := by simp +decide only [rmOf, if_true, if_false]
theorem rm_24 (f w : Int) : rmOf f 24 w = 0 := by simp +decide only [rmOf, if_true, if_false]
theorem rm_25 (f w : Int) : rmOf f 25 w = 0 := by simp +decide only [rmOf, if_true, if_false]
theorem rm_26 (f w : Int) : rmOf f 26 w = w % 16 := by simp +decide only [rmOf, if_true, if_false]
theorem rm_27 (f w : Int) : rmOf f 27 w = w % 16 := by simp +decide only [rmOf, if_true, if_false]
theorem rm_28 (f w : Int) : rmOf f 28 w = w % 16 := by simp +decide only [rmOf, if_true, if_false]
theorem rm_29 (f w : Int) : rmOf f 29 w = w % 16 := by simp +decide only [rmOf, if_true, if_false]
theorem rm_30 (f w : Int) : rmOf f 30 w = w % 16 := by simp +decide only [rmOf, if_true, if_false]
theorem rm_31 (f w : Int) : rmOf f 31 w = w % 16 := by simp +decide only [rmOf, if_true, if_false]
theorem rm_32 (f w : Int) : rmOf f 32 w = w % 16 := by simp +decide only [rmOf, if_true, if_false]
theorem rm_33 (f w : Int) : rmOf f 33 w = 0 := by simp +decide only [rmOf, if_true, if_false]
theorem rm_34 (f w : Int) : rmOf f 34 w = 0 := by simp +decide only [rmOf, if_true, if_false]
theorem ra_1 (f w : Int) : raOf f 1 w = 0 := by simp +decide only [raOf, if_true, if_false]
theorem ra_2 (f w : Int) : raOf f 2 w = 0 := by simp +decide only [raOf, if_true, if_false]
theorem ra_3 (f w : Int) : raOf f 3 w = 0 := by simp +decide only [raOf, if_true, if_false]
theorem ra_4 (f w : Int) : raOf f 4 w = 0 := by simp +decide only [raOf, if_true, if_false]
theorem ra_5 (f w : Int) : raOf f 5 w = 0 := by simp +decide only [raOf, if_true, if_false]
theorem ra_6 (f w : Int) : raOf f 6 w = 0 := by simp +decide only [raOf, if_true, if_false]
theorem ra_7 (f w : Int) : raOf f 7 w = 0 := by simp +decide only [raOf, if_true, if_false]
theorem ra_8 (f w : Int) : raOf f 8 w = 0 := by simp +decide only [raOf, if_true, if_false]
theorem ra_9 (f w : Int) : raOf f 9 w = 0 := by simp +decide only [raOf, if_true, if_false]
theorem ra_10 (f w : Int) : raOf f 10 w = 0 := by simp +decide only [raOf, if_true, if_false]
theorem ra_11 (f w : Int) : raOf f 11 w = 0 := by simp +decide only [raOf, if_true, if_false]
theorem ra_12 (f w : Int) : raOf f 12 w = 0 := by simp +decide only [raOf, if_true, if_false]
theorem ra_13 (f w : Int) : raOf f 13 w = 0 := by simp +decide only [raOf, if_true, if_false]
theorem ra_14 (f w : Int) : raOf f 14 w = 0 := by simp +decide only [raOf, if_true, if_false]
theorem ra_15 (f w : Int) : raOf f 15 w = 0 := by simp +decide only [raOf, if_true, if_false]
theorem ra_16 (f w : Int) : raOf f 16 w = 0 := by simp +decide only [raOf, if_true, if_false]
theorem ra_17 (f w : Int) : raOf f 17 w = 0 := by simp +decide only [raOf, if_true, if_false]
theorem ra_18 (f w : Int) : raOf f 18 w = 0 := by simp +decide only [raOf, if_true, if_false]
theorem ra_19 (f w : Int) : raOf f 19 w = 0 := by simp +decide only [raOf, if_true, if_false]
theorem ra_20 (f w : Int) : raOf f 20 w = 0 := by simp +decide only [raOf, if_true, if_false]
theorem ra_21 (f w : Int) : raOf f 21 w = 0 := by simp +decide only [raOf, if_true, if_false]
theorem ra_22 (f w : Int) : raOf f 22 w = 0 := by simp +decide only [raOf, if_true, if_false]
theorem ra_23 (f w : Int) : raOf f 23 w = 0 := by simp +decide only [raOf, if_true, if_false]
theorem ra_24 (f w : Int) : raOf f 24 w = 0 := by simp +decide only [raOf, if_true, if_false]
theorem ra_25 (f w : Int) : raOf f 25 w = 0 := by simp +decide only [raOf, if_true, if_false]
theorem ra_26 (f w : Int) : raOf f 26 w = 0 := by simp +decide only [raOf, if_true, if_false]
theorem ra_27 (f w : Int) : raOf f 27 w = 0 := by simp +decide only [raOf, if_true, if_false]
theorem ra_28 (f w : Int) : raOf f 28 w = 0 := by simp +decide only [raOf, if_true, if_false]
theorem ra_29 (f w : Int) : raOf f 29 w = w / 4096 % 16 := by simp +decide only [raOf, if_true, if_false]
theorem ra_30 (f w : Int) : raOf f 30 w = w / 4096 % 16 := by simp +decide only [raOf, if_true, if_false]
theorem ra_31 (f w : Int) : raOf f 31 w = w / 256 % 16 := by simp +decide only [raOf, if_true, if_false]
theorem ra_32 (f w : Int) : raOf f 32 w = 0 := by simp +decide only [raOf, if_true, if_false]
theorem ra_33 (f w : Int) : raOf f 33 w = 0 := by simp +decide only [raOf, if_true, if_false]
theorem ra_34 (f w : Int) : raOf f 34 w = 0 := by simp +decide only [raOf, if_true, if_false]
theorem im_1 (f w : Int) : imOf f 1 w = (if ¬ f = 1 ∧ w / 64 % 32 = 0 then 32 else w / 64 % 32) := by simp +decide only [imOf, if_true, if_false]
theorem im_2 (f w : Int) : imOf f 2 w = 0 := by simp +decide only [imOf, if_true, if_false]
theorem im_3 (f w : Int) : imOf f 3 w = w / 64 % 8 := by simp +decide only [imOf, if_true, if_false]
theorem im_4 (f w : Int) : imOf f 4 w = w % 256 := by simp +decide only [imOf, if_true, if_false]
theorem im_5 (f w : Int) : imOf f 5 w = 0 := by simp +decide only [imOf, if_true, if_false]
theorem im_6 (f w : Int) : imOf f 6 w = 0 := by simp +decide only [imOf, if_true, if_false]
theorem im_7 (f w : Int) : imOf f 7 w = 0 := by simp +decide only [imOf, if_true, if_false]
theorem im_8 (f w : Int) : imOf f 8 w = w % 256 * 4 := by simp +decide only [imOf, if_true, if_false]
theorem im_9 (f w : Int) : imOf f 9 w = w / 64 % 32 * 4 := by simp +decide only [imOf, if_true, if_false]
theorem im_10 (f w : Int) : imOf f 10 w = w % 128 * 4 := by simp +decide only [imOf, if_true, if_false]
theorem im_11 (f w : Int) : imOf f 11 w = 0 := by simp +decide only [imOf, if_true, if_false]
theorem im_12 (f w : Int) : imOf f 12 w = 0 := by simp +decide only [imOf, if_true, if_false]
theorem im_13 (f w : Int) : imOf f 13 w = 0 := by simp +decide only [imOf, if_true, if_false]
theorem im_14 (f w : Int) : imOf f 14 w = w % 256 := by simp +decide only [imOf, if_true, if_false]
theorem im_15 (f w : Int) : imOf f 15 w = sgn 256 (w % 256 * 2) := by simp +decide only [imOf, if_true, if_false]
theorem im_16 (f w : Int) : imOf f 16 w = sgn 2048 (w % 2048 * 2) := by simp +decide only [imOf, if_true, if_false]
theorem im_17 (f w : Int) : imOf f 17 w = w / 67108864 % 2 * 2048 + w / 65536 % 16 * 4096 + w / 4096 % 8 * 256 + w % 256 := by simp +decide only [imOf, if_true, if_false]
theorem im_18 (f w : Int) : imOf f 18 w = w / 67108864 % 2 * 2048 + w / 4096 % 8 * 256 + w % 256 := by simp +decide only [imOf, if_true, if_false]
theorem im_19 (f w : Int) : imOf f 19 w = w / 67108864 % 2 * 2048 + w / 4096 % 8 * 256 + w % 256 := by simp +decide only [imOf, if_true, if_false]
theorem im_20 (f w : Int) : imOf f 20 w = w / 67108864 % 2 * 2048 + w / 4096 % 8 * 256 + w % 256 := by simp +decide only [imOf, if_true, if_false]
theorem im_21 (f w : Int) : imOf f 21 w = 0 := by simp +decide only [imOf, if_true, if_false]
theorem im_22 (f w : Int) : imOf f 22 w = 0 := by simp +decide only [imOf, if_true, if_false]
theorem im_23 (f w : Int) : imOf f 23 w = 0 := by simp +decide only [imOf, if_true, if_false]
theorem im_24 (f w : Int) : imOf f 24 w = w / 67108864 % 2 * 2048 + w / 4096 % 8 * 256 + w % 256 := by simp +decide only [imOf, if_true, if_false]
theorem im_25 (f w : Int) : imOf f 25 w = w % 4096 := by simp +decide only [imOf, if_true, if_false]
theorem im_26 (f w : Int) : imOf f 26 w = 0 := by simp +decide only [imOf, if_true, if_false]
theorem im_27 (f w : Int) : imOf f 27 w = 0 := by simp +decide only [imOf, if_true, if_false]
theorem im_28 (f w : Int) : imOf f 28 w = 0 := by simp +decide only [imOf, if_true, if_false]
theorem im_29 (f w : Int) : imOf f 29 w = 0 := by simp +decide only [imOf, if_true, if_false]
theorem im_30 (f w : Int) : imOf f 30 w = 0 := by simp +decide only [imOf, if_true, if_false]
theorem im_31 (f w : Int) : imOf f 31 w = 0 := by simp +decide only [imOf, if_true, if_false]
theorem im_32 (f w : Int) : imOf f 32 w = 0 := by simp +decide only [imOf, if_true, if_false]
theorem im_33 (f w : Int) : imOf f 33 w = sgn 1048576 (w / 67108864 % 2 * 1048576 + w / 65536 % 64 * 4096 + w / 8192 % 2 * 262144 + w / 2048 % 2 * 524288 + w % 2048 * 2) := by simp +decide only [imOf, if_true, if_false]
theorem im_34 (f w : Int) : imOf f 34 w = sgn 16777216 (w / 67108864 % 2 * 16777216 + w / 65536 % 1024 * 4096 + jb (w / 8192 % 2) (w / 67108864 % 2) * 8388608 + jb (w / 2048 % 2) (w / 67108864 % 2) * 4194304 + w % 2048 * 2) := by simp +decide only [imOf, if_true, if_false]
theorem kd_1 (f w : Int) : kdOf f 1 w = 0 := by simp +decide only [kdOf, if_true, if_false]
theorem kd_2 (f w : Int) : kdOf f 2 w = 0 := by simp +decide only [kdOf, if_true, if_false]
theorem kd_3 (f w : Int) : kdOf f 3 w = 0 := by simp +decide only [kdOf, if_true, if_false]
theorem kd_4 (f w : Int) : kdOf f 4 w = 0 := by simp +decide only [kdOf, if_true, if_false]
theorem kd_5 (f w : Int) : kdOf f 5 w = 0 := by simp +decide only [kdOf, if_true, if_false]
theorem kd_6 (f w : Int) : kdOf f 6 w = 0 := by simp +decide only [kdOf, if_true, if_false]
theorem kd_7 (f w : Int) : kdOf f 7 w = 0 := by simp +decide only [kdOf, if_true, if_false]
theorem kd_8 (f w : Int) : kdOf f 8 w = 0 := by simp +decide only [kdOf, if_true, if_false]
theorem kd_9 (f w : Int) : kdOf f 9 w = 0 := by simp +decide only [kdOf, if_true, if_false]
theorem kd_10 (f w : Int) : kdOf f 10 w = 0 := by simp +decide only [kdOf, if_true, if_false]
theorem kd_11 (f w : Int) : kdOf f 11 w = 0 := by simp +decide only [kdOf, if_true, if_false]
theorem kd_12 (f w : Int) : kdOf f 12 w = 0 := by simp +decide only [kdOf, if_true, if_false]
theorem kd_13 (f w : Int) : kdOf f 13 w = 0 := by simp +decide only [kdOf, if_true, if_false]
theorem kd_14 (f w : Int) : kdOf f 14 w = 0 := by simp +decide only [kdOf, if_true, if_false]
theorem kd_15 (f w : Int) : kdOf f 15 w = 0 := by simp +decide only [kdOf, if_true, if_false]
theorem kd_16 (f w : Int) : kdOf f 16 w = 0 := by simp +decide only [kdOf, if_true, if_false]
theorem kd_17 (f w : Int) : kdOf f 17 w = 0 := by simp +decide only [kdOf, if_true, if_false]
theorem kd_18 (f w : Int) : kdOf f 18 w = 0 := by simp +decide only [kdOf, if_true, if_false]
theorem kd_19 (f w : Int) : kdOf f 19 w = 0 := by simp +decide only [kdOf, if_true, if_false]
theorem kd_20 (f w : Int) : kdOf f 20 w = 0 := by simp +decide only [kdOf, if_true, if_false]
theorem kd_21 (f w : Int) : kdOf f 21 w = w / 16 % 4 := by simp +decide only [kdOf, if_true, if_false]
theorem kd_22 (f w : Int) : kdOf f 22 w = w / 16 % 4 := by simp +decide only [kdOf, if_true, if_false]
theorem kd_23 (f w : Int) : kdOf f 23 w = w / 16 % 4 := by simp +decide only [kdOf, if_true, if_false]
theorem kd_24 (f w : Int) : kdOf f 24 w = 0 := by simp +decide only [kdOf, if_true, if_false]
theorem kd_25 (f w : Int) : kdOf f 25 w = 0 := by simp +decide only [kdOf, if_true, if_false]
theorem kd_26 (f w : Int) : kdOf f 26 w = 0 := by simp +decide only [kdOf, if_true, if_false]
theorem kd_27 (f w : Int) : kdOf f 27 w = 0 := by simp +decide only [kdOf, if_true, if_false]
theorem kd_28 (f w : Int) : kdOf f 28 w = 0 := by simp +decide only [kdOf, if_true, if_false]
theorem kd_29 (f w : Int) : kdOf f 29 w = 0 := by simp +decide only [kdOf, if_true, if_false]
theorem kd_30 (f w : Int) : kdOf f 30 w = 0 := by simp +decide only [kdOf, if_true, if_false]
theorem kd_31 (f w : Int) : kdOf f 31 w = 0 := by simp +decide only [kdOf, if_true, if_false]
theorem kd_32 (f w : Int) : kdOf f 32 w = 0 := by simp +decide only [kdOf, if_true, if_false]
theorem kd_33 (f w : Int) : kdOf f 33 w = 0 := by simp +decide only [kdOf, if_true, if_false]
theorem kd_34 (f w : Int) : kdOf f 34 w = 0 := by simp +decide only [kdOf, if_true, if_false]
theorem bs_1 (f w : Int) : bsOf f 1 w = 0 := by simp +decide only [bsOf, if_true, if_false]
theorem bs_2 (f w : Int) : bsOf f 2 w = 0 := by simp +decide only [bsOf, if_true, if_false]
theorem bs_3 (f w : Int) : bsOf f 3 w = 0 := by simp +decide only [bsOf, if_true, if_false]
theorem bs_4 (f w : Int) : bsOf f 4 w = 0 := by simp +decide only [bsOf, if_true, if_false]
theorem bs_5 (f w : Int) : bsOf f 5 w = 0 := by simp +decide only [bsOf, if_true, if_false]
theorem bs_6 (f w : Int) : bsOf f 6 w = 0 := by simp +decide only [bsOf, if_true, if_false]
theorem bs_7 (f w : Int) : bsOf f 7 w = 0 := by simp +decide only [bsOf, if_true, if_false]
theorem bs_8 (f w : Int) : bsOf f 8 w = 0 := by simp +decide only [bsOf, if_true, if_false]
theorem bs_9 (f w : Int) : bsOf f 9 w = 0 := by simp +decide only [bsOf, if_true, if_false]
theorem bs_10 (f w : Int) : bsOf f 10 w = 0 := by simp +decide only [bsOf, if_true, if_false]
theorem bs_11 (f w : Int) : bsOf f 11 w = 0 := by simp +decide only [bsOf, if_true, if_false]
theorem bs_12 (f w : Int) : bsOf f 12 w = 0 := by simp +decide only [bsOf, if_true, if_false]
theorem bs_13 (f w : Int) : bsOf f 13 w = 0 := by simp +decide only [bsOf, if_true, if_false]
theorem bs_14 (f w : Int) : bsOf f 14 w = 0 := by simp +decide only [bsOf, if_true, if_false]
theorem bs_15 (f w : Int) : bsOf f 15 w = 0 := by simp +decide only [bsOf, if_true, if_false]
theorem bs_16 (f w : Int) : bsOf f 16 w = 0 := by simp +decide only [bsOf, if_true, if_false]
theorem bs_17 (f w : Int) : bsOf f 17 w = 0 := by simp +decide only [bsOf, if_true, if_false]
theorem bs_18 (f w : Int) : bsOf f 18 w = 0 := by simp +decide only [bsOf, if_true, if_false]
theorem bs_19 (f w : Int) : bsOf f 19 w = 0 := by simp +decide only [bsOf, if_true, if_false]
theorem bs_20 (f w : Int) : bsOf f 20 w = 0 := by simp +decide only [bsOf, if_true, if_false]
theorem bs_21 (f w : Int) : bsOf f 21 w = (if w / 4096 % 8 * 4 + w / 64 % 4 = 0 ∧ (w / 16 % 4 = 1 ∨ w / 16 % 4 = 2) then 32 else w / 4096 % 8 * 4 + w / 64 % 4) := by simp +decide only [bsOf, if_true, if_false]
theorem bs_22 (f w : Int) : bsOf f 22 w = (if w / 4096 % 8 * 4 + w / 64 % 4 = 0 ∧ (w / 16 % 4 = 1 ∨ w / 16 % 4 = 2) then 32 else w / 4096 % 8 * 4 + w / 64 % 4) := by simp +decide only [bsOf, if_true, if_false]
theorem bs_23 (f w : Int) : bsOf f 23 w = (if w / 4096 % 8 * 4 + w / 64 % 4 = 0 ∧ (w / 16 % 4 = 1 ∨ w / 16 % 4 = 2) then 32 else w / 4096 % 8 * 4 + w / 64 % 4) := by simp +decide only [bsOf, if_true, if_false]
theorem bs_24 (f w : Int) : bsOf f 24 w = 0 := by simp +decide only [bsOf, if_true, if_false]
theorem bs_25 (f w : Int) : bsOf f 25 w = 0 := by simp +decide only [bsOf, if_true, if_false]
theorem bs_26 (f w : Int) : bsOf f 26 w = w / 16 % 4 := by simp +decide only [bsOf, if_true, if_false]
theorem bs_27 (f w : Int) : bsOf f 27 w = 0 := by simp +decide only [bsOf, if_true, if_false]
theorem bs_28 (f w : Int) : bsOf f 28 w = 0 := by simp +decide only [bsOf, if_true, if_false]
theorem bs_29 (f w : Int) : bsOf f 29 w = 0 := by simp +decide only [bsOf, if_true, if_false]
theorem bs_30 (f w : Int) : bsOf f 30 w = 0 := by simp +decide only [bsOf, if_true, if_false]
theorem bs_31 (f w : Int) : bsOf f 31 w = 0 := by simp +decide only [bsOf, if_true, if_false]
theorem bs_32 (f w : Int) : bsOf f 32 w = 0 := by simp +decide only [bsOf, if_true, if_false]
theorem bs_33 (f w : Int) : bsOf f 33 w = 0 := by simp +decide only [bsOf, if_true, if_false]
theorem bs_34 (f w : Int) : bsOf f 34 w = 0 := by simp +decide only [bsOf, if_true, if_false]
theorem st_1 (f w : Int) : stOf f 1 w = 0 := by simp +decide only [stOf, if_true, if_false]
theorem st_2 (f w : Int) : stOf f 2 w = 0 := by simp +decide only [stOf, if_true, if_false]
theorem st_3 (f w : Int) : stOf f 3 w = 0 := by simp +decide only [stOf, if_true, if_false]
theorem st_4 (f w : Int) : stOf f 4 w = 0 := by simp +decide only [stOf, if_true, if_false]
theorem st_5 (f w : Int) : stOf f 5 w = 0 := by simp +decide only [stOf, if_true, if_false]
theorem st_6 (f w : Int) : stOf f 6 w = 0 := by simp +decide only [stOf, if_true, if_false]
theorem st_7 (f w : Int) : stOf f 7 w = 0 := by simp +decide only [stOf, if_true, if_false]
theorem st_8 (f w : Int) : stOf f 8 w = 0 := by simp +decide only [stOf, if_true, if_false]
theorem st_9 (f w : Int) : stOf f 9 w = 0 := by simp +decide only [stOf, if_true, if_false]
theorem st_10 (f w : Int) : stOf f 10 w = 0 := by simp +decide only [stOf, if_true, if_false]
theorem st_11 (f w : Int) : stOf f 11 w = 0 := by simp +decide only [stOf, if_true, if_false]
theorem st_12 (f w : Int) : stOf f 12 w = 0 := by simp +decide only [stOf, if_true, if_false]
theorem st_13 (f w : Int) : stOf f 13 w = 0 := by simp +decide only [stOf, if_true, if_false]
theorem st_14 (f w : Int) : stOf f 14 w = 0 := by simp +decide only [stOf, if_true, if_false]
theorem st_15 (f w : Int) : stOf f 15 w = 0 := by simp +decide only [stOf, if_true, if_false]
theorem st_16 (f w : Int) : stOf f 16 w = 0 := by simp +decide only [stOf, if_true, if_false]
theorem st_17 (f w : Int) : stOf f 17 w = 0 := by simp +decide only [stOf, if_true, if_false]
theorem st_18 (f w : Int) : stOf f 18 w = w / 1048576 % 2 := by simp +decide only [stOf, if_true, if_false]
theorem st_19 (f w : Int) : stOf f 19 w = w / 1048576 % 2 := by simp +decide only [stOf, if_true, if_false]
theorem st_20 (f w : Int) : stOf f 20 w = 0 := by simp +decide only [stOf, if_true, if_false]
theorem st_21 (f w : Int) : stOf f 21 w = w / 1048576 % 2 := by simp +decide only [stOf, if_true, if_false]
theorem st_22 (f w : Int) : stOf f 22 w = w / 1048576 % 2 := by simp +decide only [stOf, if_true, if_false]
theorem st_23 (f w : Int) : stOf f 23 w = 0 := by simp +decide only [stOf, if_true, if_false]
theorem st_24 (f w : Int) : stOf f 24 w = 0 := by simp +decide only [stOf, if_true, if_false]
theorem st_25 (f w : Int) : stOf f 25 w = 0 := by simp +decide only [stOf, if_true, if_false]
theorem st_26 (f w : Int) : stOf f 26 w = 0 := by simp +decide only [stOf, if_true, if_false]
theorem st_27 (f w : Int) : stOf f 27 w = w / 1048576 % 2 := by simp +decide only [stOf, if_true, if_false]
theorem st_28 (f w : Int) : stOf f 28 w = 0 := by simp +decide only [stOf, if_true, if_false]
theorem st_29 (f w : Int) : stOf f 29 w = 0 := by simp +decide only [stOf, if_true, if_false]
theorem st_30 (f w : Int) : stOf f 30 w = 0 := by simp +decide only [stOf, if_true, if_false]
theorem st_31 (f w : Int) : stOf f 31 w = 0 := by simp +decide only [stOf, if_true, if_false]
theorem st_32 (f w : Int) : stOf f 32 w = 0 := by simp +decide only [stOf, if_true, if_false]
theorem st_33 (f w : Int) : stOf f 33 w = 0 := by simp +decide only [stOf, if_true, if_false]
theorem st_34 (f w : Int) : stOf f 34 w = 0 := by simp +decide only [stOf, if_true, if_false]
theorem cd_1 (f w : Int) : cdOf f 1 w = 0 := by simp +decide only [cdOf, if_true, if_false]
theorem cd_2 (f w : Int) : cdOf f 2 w = 0 := by simp +decide only [cdOf, if_true, if_false]
theorem cd_3 (f w : Int) : cdOf f 3 w = 0 := by simp +decide only [cdOf, if_true, if_false]
theorem cd_4 (f w : Int) : cdOf f 4 w = 0 := by simp +decide only [cdOf, if_true, if_false]
theorem cd_5 (f w : Int) : cdOf f 5 w = 0 := by simp +decide only [cdOf, if_true, if_false]
theorem cd_6 (f w : Int) : cdOf f 6 w = 0 := by simp +decide only [cdOf, if_true, if_false]
theorem cd_7 (f w : Int) : cdOf f 7 w = 0 := by simp +decide only [cdOf, if_true, if_false]
theorem cd_8 (f w : Int) : cdOf f 8 w = 0 := by simp +decide only [cdOf, if_true, if_false]
theorem cd_9 (f w : Int) : cdOf f 9 w = 0 := by simp +decide only [cdOf, if_true, if_false]
theorem cd_10 (f w : Int) : cdOf f 10 w = 0 := by simp +decide only [cdOf, if_true, if_false]
theorem cd_11 (f w : Int) : cdOf f 11 w = 0 := by simp +decide only [cdOf, if_true, if_false]
theorem cd_12 (f w : Int) : cdOf f 12 w = 0 := by simp +decide only [cdOf, if_true, if_false]
theorem cd_13 (f w : Int) : cdOf f 13 w = 0 := by simp +decide only [cdOf, if_true, if_false]
theorem cd_14 (f w : Int) : cdOf f 14 w = 0 := by simp +decide only [cdOf, if_true, if_false]
theorem cd_15 (f w : Int) : cdOf f 15 w = w / 256 % 16 := by simp +decide only [cdOf, if_true, if_false]
theorem cd_16 (f w : Int) : cdOf f 16 w = 0 := by simp +decide only [cdOf, if_true, if_false]
theorem cd_17 (f w : Int) : cdOf f 17 w = 0 := by simp +decide only [cdOf, if_true, if_false]
theorem cd_18 (f w : Int) : cdOf f 18 w = 0 := by simp +decide only [cdOf, if_true, if_false]
theorem cd_19 (f w : Int) : cdOf f 19 w = 0 := by simp +decide only [cdOf, if_true, if_false]
theorem cd_20 (f w : Int) : cdOf f 20 w = 0 := by simp +decide only [cdOf, if_true, if_false]
theorem cd_21 (f w : Int) : cdOf f 21 w = 0 := by simp +decide only [cdOf, if_true, if_false]
theorem cd_22 (f w : Int) : cdOf f 22 w = 0 := by simp +decide only [cdOf, if_true, if_false]
theorem cd_23 (f w : Int) : cdOf f 23 w = 0 := by simp +decide only [cdOf, if_true, if_false]
theorem cd_24 (f w : Int) : cdOf f 24 w = 0 := by simp +decide only [cdOf, if_true, if_false]
theorem cd_25 (f w : Int) : cdOf f 25 w = 0 := by simp +decide only [cdOf, if_true, if_false]
theorem cd_26 (f w : Int) : cdOf f 26 w = 0 := by simp +decide only [cdOf, if_true, if_false]
theorem cd_27 (f w : Int) : cdOf f 27 w = 0 := by simp +decide only [cdOf, if_true, if_false]
theorem cd_28 (f w : Int) : cdOf f 28 w = 0 := by simp +decide only [cdOf, if_true, if_false]
theorem cd_29 (f w : Int) : cdOf f 29 w = 0 := by simp +decide only [cdOf, if_true, if_false]
theorem cd_30 (f w : Int) : cdOf f 30 w = 0 := by simp +decide only [cdOf, if_true, if_false]
theorem cd_31 (f w : Int) : cdOf f 31 w = 0 := by simp +decide only [cdOf, if_true, if_false]
theorem cd_32 (f w : Int) : cdOf f 32 w = 0 := by simp +decide only [cdOf, if_true, if_false]
theorem cd_33 (f w : Int) : cdOf f 33 w = w / 4194304 % 16 := by simp +decide only [cdOf, if_true, if_false]
theorem cd_34 (f w : Int) : cdOf f 34 w = 0 := by simp +decide only [cdOf, if_true, if_false]
theorem rg_1 (f w : Int) : rgOf f 1 w = 0 := by simp +decide only [rgOf, if_true, if_false]
theorem rg_2 (f w : Int) : rgOf f 2 w = 0 := by simp +decide only [rgOf, if_true, if_false]
theorem rg_3 (f w : Int) : rgOf f 3 w = 0 := by simp +decide only [rgOf, if_true, if_false]
theorem rg_4 (f w : Int) : rgOf f 4 w = 0 := by simp +decide only [rgOf, if_true, if_false]
theorem rg_5 (f w : Int) : rgOf f 5 w = 0 := by simp +decide only [rgOf, if_true, if_false]
theorem rg_6 (f w : Int) : rgOf f 6 w = 0 := by simp +decide only [rgOf, if_true, if_false]
theorem rg_7 (f w : Int) : rgOf f 7 w = 0 := by simp +decide only [rgOf, if_true, if_false]
theorem rg_8 (f w : Int) : rgOf f 8 w = 0 := by simp +decide only [rgOf, if_true, if_false]
theorem rg_9 (f w : Int) : rgOf f 9 w = 0 := by simp +decide only [rgOf, if_true, if_false]
theorem rg_10 (f w : Int) : rgOf f 10 w = 0 := by simp +decide only [rgOf, if_true, if_false]
theorem rg_11 (f w : Int) : rgOf f 11 w = w / 256 % 2 * 16384 + w % 256 := by simp +decide only [rgOf, if_true, if_false]
theorem rg_12 (f w : Int) : rgOf f 12 w = w / 256 % 2 * 32768 + w % 256 := by simp +decide only [rgOf, if_true, if_false]
theorem rg_13 (f w : Int) : rgOf f 13 w = 0 := by simp +decide only [rgOf, if_true, if_false]
theorem rg_14 (f w : Int) : rgOf f 14 w = 0 := by simp +decide only [rgOf, if_true, if_false]
theorem rg_15 (f w : Int) : rgOf f 15 w = 0 := by simp +decide only [rgOf, if_true, if_false]
theorem rg_16 (f w : Int) : rgOf f 16 w = 0 := by simp +decide only [rgOf, if_true, if_false]
theorem rg_17 (f w : Int) : rgOf f 17 w = 0 := by simp +decide only [rgOf, if_true, if_false]
theorem rg_18 (f w : Int) : rgOf f 18 w = 0 := by simp +decide only [rgOf, if_true, if_false]
theorem rg_19 (f w : Int) : rgOf f 19 w = 0 := by simp +decide only [rgOf, if_true, if_false]
theorem rg_20 (f w : Int) : rgOf f 20 w = 0 := by simp +decide only [rgOf, if_true, if_false]
theorem rg_21 (f w : Int) : rgOf f 21 w = 0 := by simp +decide only [rgOf, if_true, if_false]
theorem rg_22 (f w : Int) : rgOf f 22 w = 0 := by simp +decide only [rgOf, if_true, if_false]
theorem rg_23 (f w : Int) : rgOf f 23 w = 0 := by simp +decide only [rgOf, if_true, if_false]
theorem rg_24 (f w : Int) : rgOf f 24 w = 0 := by simp +decide only [rgOf, if_true, if_false]
theorem rg_25 (f w : Int) : rgOf f 25 w = 0 := by simp +decide only [rgOf, if_true, if_false]
theorem rg_26 (f w : Int) : rgOf f 26 w = 0 := by simp +decide only [rgOf, if_true, if_false]
theorem rg_27 (f w : Int) : rgOf f 27 w = 0 := by simp +decide only [rgOf, if_true, if_false]
theorem rg_28 (f w : Int) : rgOf f 28 w = 0 := by simp +decide only [rgOf, if_true, if_false]
theorem rg_29 (f w : Int) : rgOf f 29 w = 0 := by simp +decide only [rgOf, if_true, if_false]
theorem rg_30 (f w : Int) : rgOf f 30 w = 0 := by simp +decide only [rgOf, if_true, if_false]
theorem rg_31 (f w : Int) : rgOf f 31 w = 0 := by simp +decide only [rgOf, if_true, if_false]
theorem rg_32 (f w : Int) : rgOf f 32 w = 0 := by simp +decide only [rgOf, if_true, if_false]
theorem rg_33 (f w : Int) : rgOf f 33 w = 0 := by simp +decide only [rgOf, if_true, if_false]
theorem rg_34 (f w : Int) : rgOf f 34 w = 0 := by simp +decide only [rgOf, if_true, if_false]

theorem j1_back (n : Int) : jb (j1 n) (n / 16777216 % 2) = n / 8388608 % 2 := by unfold jb j1; split <;> split <;> omega
theorem j2_back (n : Int) : jb (j2 n) (n / 16777216 % 2) = n / 4194304 % 2 := by unfold jb j2; split <;> split <;> omega

theorem half_1_16 (w : Int) : w % 16 = (w % 65536) % 16 := by omega
theorem half_1_2048 (w : Int) : w % 2048 = (w % 65536) % 2048 := by omega
theorem half_1_256 (w : Int) : w % 256 = (w % 65536) % 256 := by omega
theorem half_1_4096 (w : Int) : w % 4096 = (w % 65536) % 4096 := by omega
theorem half_1048576_2 (w : Int) : w / 1048576 % 2 = (w / 65536) / 16 % 2 := by omega
theorem half_16_4 (w : Int) : w / 16 % 4 = (w % 65536) / 16 % 4 := by omega
theorem half_2048_2 (w : Int) : w / 2048 % 2 = (w % 65536) / 2048 % 2 := by omega
theorem half_256_16 (w : Int) : w / 256 % 16 = (w % 65536) / 256 % 16 := by omega
theorem half_4096_16 (w : Int) : w / 4096 % 16 = (w % 65536) / 4096 % 16 := by omega
theorem half_4096_8 (w : Int) : w / 4096 % 8 = (w % 65536) / 4096 % 8 := by omega
theorem half_4194304_16 (w : Int) : w / 4194304 % 16 = (w / 65536) / 64 % 16 := by omega
theorem half_64_4 (w : Int) : w / 64 % 4 = (w % 65536) / 64 % 4 := by omega
theorem half_65536_1024 (w : Int) : w / 65536 % 1024 = (w / 65536) % 1024 := by omega
theorem half_65536_16 (w : Int) : w / 65536 % 16 = (w / 65536) % 16 := by omega
theorem half_65536_64 (w : Int) : w / 65536 % 64 = (w / 65536) % 64 := by omega
theorem half_67108864_2 (w : Int) : w / 67108864 % 2 = (w / 65536) / 1024 % 2 := by omega
theorem half_8192_2 (w : Int) : w / 8192 % 2 = (w % 65536) / 8192 % 2 := by omega

end Go.Proofs.YtegefbndpkbooaaDoor.Code

/-! Fields out of words: forms 1 to 47. -/
set_option linter.unusedVariables false
set_option linter.unusedSimpArgs false
namespace Go.Proofs.YtegefbndpkbooaaDoor.Code
open Go.Proofs.YtegefbndpkbooaaDoor.Alu Go.Proofs.YtegefbndpkbooaaDoor.Imm Go.Proofs.YtegefbndpkbooaaDoor.Inst

theorem back_1 {f rd rn rm ra im kd bs st cd rg : Int} (hf : f = 1) (h : (0 ≤ rd ∧ rd ≤ 7) ∧ (rn = 0) ∧ (0 ≤ rm ∧ rm ≤ 7) ∧ (ra = 0) ∧ (0 ≤ im ∧ im ≤ 32 ∧ (f = 1 → im ≤ 31) ∧ (¬ f = 1 → 1 ≤ im)) ∧ (kd = 0) ∧ (bs = 0) ∧ (st = 0) ∧ (cd = 0) ∧ (rg = 0)) (w : Int) (hw : w = 0 + (im % 32 * 64 + rm * 8 + rd)) : rdOf f 1 w = rd ∧ rnOf f 1 w = rn ∧ rmOf f 1 w = rm ∧ raOf f 1 w = ra ∧ imOf f 1 w = im ∧ kdOf f 1 w = kd ∧ bsOf f 1 w = bs ∧ stOf f 1 w = st ∧ cdOf f 1 w = cd ∧ rgOf f 1 w = rg := by
  obtain ⟨h1, h2, h3, h4, h5, h6, h7, h8, h9, h10⟩ := h
  rw [rd_1, rn_1, rm_1, ra_1, im_1, kd_1, bs_1, st_1, cd_1, rg_1]
  have g0 : 0 ≤ im % 32 ∧ im % 32 ≤ 31 := by omega
  exact ⟨by omega, by omega, by omega, by omega, by first | omega | (split <;> omega), by omega, by omega, by omega, by omega, by omega⟩
theorem back_2 {f rd rn rm ra im kd bs st cd rg : Int} (hf : f = 2) (h : (0 ≤ rd ∧ rd ≤ 7) ∧ (rn = 0) ∧ (0 ≤ rm ∧ rm ≤ 7) ∧ (ra = 0) ∧ (0 ≤ im ∧ im ≤ 32 ∧ (f = 1 → im ≤ 31) ∧ (¬ f = 1 → 1 ≤ im)) ∧ (kd = 0) ∧ (bs = 0) ∧ (st = 0) ∧ (cd = 0) ∧ (rg = 0)) (w : Int) (hw : w = 2048 + (im % 32 * 64 + rm * 8 + rd)) : rdOf f 1 w = rd ∧ rnOf f 1 w = rn ∧ rmOf f 1 w = rm ∧ raOf f 1 w = ra ∧ imOf f 1 w = im ∧ kdOf f 1 w = kd ∧ bsOf f 1 w = bs ∧ stOf f 1 w = st ∧ cdOf f 1 w = cd ∧ rgOf f 1 w = rg := by
  obtain ⟨h1, h2, h3, h4, h5, h6, h7, h8, h9, h10⟩ := h
  rw [rd_1, rn_1, rm_1, ra_1, im_1, kd_1, bs_1, st_1, cd_1, rg_1]
  have g0 : 0 ≤ im % 32 ∧ im % 32 ≤ 31 := by omega
  exact ⟨by omega, by omega, by omega, by omega, by first | omega | (split <;> omega), by omega, by omega, by omega, by omega, by omega⟩
theorem back_3 {f rd rn rm ra im kd bs st cd rg : Int} (hf : f = 3) (h : (0 ≤ rd ∧ rd ≤ 7) ∧ (rn = 0) ∧ (0 ≤ rm ∧ rm ≤ 7) ∧ (ra = 0) ∧ (0 ≤ im ∧ im ≤ 32 ∧ (f = 1 → im ≤ 31) ∧ (¬ f = 1 → 1 ≤ im)) ∧ (kd = 0) ∧ (bs = 0) ∧ (st = 0) ∧ (cd = 0) ∧ (rg = 0)) (w : Int) (hw : w = 4096 + (im % 32 * 64 + rm * 8 + rd)) : rdOf f 1 w = rd ∧ rnOf f 1 w = rn ∧ rmOf f 1 w = rm ∧ raOf f 1 w = ra ∧ imOf f 1 w = im ∧ kdOf f 1 w = kd ∧ bsOf f 1 w = bs ∧ stOf f 1 w = st ∧ cdOf f 1 w = cd ∧ rgOf f 1 w = rg := by
  obtain ⟨h1, h2, h3, h4, h5, h6, h7, h8, h9, h10⟩ := h
  rw [rd_1, rn_1, rm_1, ra_1, im_1, kd_1, bs_1, st_1, cd_1, rg_1]
  have g0 : 0 ≤ im % 32 ∧ im % 32 ≤ 31 := by omega
  exact ⟨by omega, by omega, by omega, by omega, by first | omega | (split <;> omega), by omega, by omega, by omega, by omega, by omega⟩
theorem back_4 {f rd rn rm ra im kd bs st cd rg : Int} (hf : f = 4) (h : (0 ≤ rd ∧ rd ≤ 7) ∧ (0 ≤ rn ∧ rn ≤ 7) ∧ (0 ≤ rm ∧ rm ≤ 7) ∧ (ra = 0) ∧ (im = 0) ∧ (kd = 0) ∧ (bs = 0) ∧ (st = 0) ∧ (cd = 0) ∧ (rg = 0)) (w : Int) (hw : w = 6144 + (rm * 64 + rn * 8 + rd)) : rdOf f 2 w = rd ∧ rnOf f 2 w = rn ∧ rmOf f 2 w = rm ∧ raOf f 2 w = ra ∧ imOf f 2 w = im ∧ kdOf f 2 w = kd ∧ bsOf f 2 w = bs ∧ stOf f 2 w = st ∧ cdOf f 2 w = cd ∧ rgOf f 2 w = rg := by
  obtain ⟨h1, h2, h3, h4, h5, h6, h7, h8, h9, h10⟩ := h
  rw [rd_2, rn_2, rm_2, ra_2, im_2, kd_2, bs_2, st_2, cd_2, rg_2]
  exact ⟨by omega, by omega, by omega, by omega, by omega, by omega, by omega, by omega, by omega, by omega⟩
theorem back_5 {f rd rn rm ra im kd bs st cd rg : Int} (hf : f = 5) (h : (0 ≤ rd ∧ rd ≤ 7) ∧ (0 ≤ rn ∧ rn ≤ 7) ∧ (0 ≤ rm ∧ rm ≤ 7) ∧ (ra = 0) ∧ (im = 0) ∧ (kd = 0) ∧ (bs = 0) ∧ (st = 0) ∧ (cd = 0) ∧ (rg = 0)) (w : Int) (hw : w = 6656 + (rm * 64 + rn * 8 + rd)) : rdOf f 2 w = rd ∧ rnOf f 2 w = rn ∧ rmOf f 2 w = rm ∧ raOf f 2 w = ra ∧ imOf f 2 w = im ∧ kdOf f 2 w = kd ∧ bsOf f 2 w = bs ∧ stOf f 2 w = st ∧ cdOf f 2 w = cd ∧ rgOf f 2 w = rg := by
  obtain ⟨h1, h2, h3, h4, h5, h6, h7, h8, h9, h10⟩ := h
  rw [rd_2, rn_2, rm_2, ra_2, im_2, kd_2, bs_2, st_2, cd_2, rg_2]
  exact ⟨by omega, by omega, by omega, by omega, by omega, by omega, by omega, by omega, by omega, by omega⟩
theorem back_6 {f rd rn rm ra im kd bs st cd rg : Int} (hf : f = 6) (h : (0 ≤ rd ∧ rd ≤ 7) ∧ (0 ≤ rn ∧ rn ≤ 7) ∧ (rm = 0) ∧ (ra = 0) ∧ (0 ≤ im ∧ im ≤ 7) ∧ (kd = 0) ∧ (bs = 0) ∧ (st = 0) ∧ (cd = 0) ∧ (rg = 0)) (w : Int) (hw : w = 7168 + (im * 64 + rn * 8 + rd)) : rdOf f 3 w = rd ∧ rnOf f 3 w = rn ∧ rmOf f 3 w = rm ∧ raOf f 3 w = ra ∧ imOf f 3 w = im ∧ kdOf f 3 w = kd ∧ bsOf f 3 w = bs ∧ stOf f 3 w = st ∧ cdOf f 3 w = cd ∧ rgOf f 3 w = rg := by
  obtain ⟨h1, h2, h3, h4, h5, h6, h7, h8, h9, h10⟩ := h
  rw [rd_3, rn_3, rm_3, ra_3, im_3, kd_3, bs_3, st_3, cd_3, rg_3]
  exact ⟨by omega, by omega, by omega, by omega, by omega, by omega, by omega, by omega, by omega, by omega⟩
theorem back_7 {f rd rn rm ra im kd bs st cd rg : Int} (hf : f = 7) (h : (0 ≤ rd ∧ rd ≤ 7) ∧ (0 ≤ rn ∧ rn ≤ 7) ∧ (rm = 0) ∧ (ra = 0) ∧ (0 ≤ im ∧ im ≤ 7) ∧ (kd = 0) ∧ (bs = 0) ∧ (st = 0) ∧ (cd = 0) ∧ (rg = 0)) (w : Int) (hw : w = 7680 + (im * 64 + rn * 8 + rd)) : rdOf f 3 w = rd ∧ rnOf f 3 w = rn ∧ rmOf f 3 w = rm ∧ raOf f 3 w = ra ∧ imOf f 3 w = im ∧ kdOf f 3 w = kd ∧ bsOf f 3 w = bs ∧ stOf f 3 w = st ∧ cdOf f 3 w = cd ∧ rgOf f 3 w = rg := by
  obtain ⟨h1, h2, h3, h4, h5, h6, h7, h8, h9, h10⟩ := h
  rw [rd_3, rn_3, rm_3, ra_3, im_3, kd_3, bs_3, st_3, cd_3, rg_3]
  exact ⟨by omega, by omega, by omega, by omega, by omega, by omega, by omega, by omega, by omega, by omega⟩
theorem back_8 {f rd rn rm ra im kd bs st cd rg : Int} (hf : f = 8) (h : (0 ≤ rd ∧ rd ≤ 7) ∧ (rn = 0) ∧ (rm = 0) ∧ (ra = 0) ∧ (0 ≤ im ∧ im ≤ 255) ∧ (kd = 0) ∧ (bs = 0) ∧ (st = 0) ∧ (cd = 0) ∧ (rg = 0)) (w : Int) (hw : w = 8192 + (rd * 256 + im)) : rdOf f 4 w = rd ∧ rnOf f 4 w = rn ∧ rmOf f 4 w = rm ∧ raOf f 4 w = ra ∧ imOf f 4 w = im ∧ kdOf f 4 w = kd ∧ bsOf f 4 w = bs ∧ stOf f 4 w = st ∧ cdOf f 4 w = cd ∧ rgOf f 4 w = rg := by
  obtain ⟨h1, h2, h3, h4, h5, h6, h7, h8, h9, h10⟩ := h
  rw [rd_4, rn_4, rm_4, ra_4, im_4, kd_4, bs_4, st_4, cd_4, rg_4]
  exact ⟨by omega, by omega, by omega, by omega, by omega, by omega, by omega, by omega, by omega, by omega⟩
theorem back_9 {f rd rn rm ra im kd bs st cd rg : Int} (hf : f = 9) (h : (0 ≤ rd ∧ rd ≤ 7) ∧ (rn = 0) ∧ (rm = 0) ∧ (ra = 0) ∧ (0 ≤ im ∧ im ≤ 255) ∧ (kd = 0) ∧ (bs = 0) ∧ (st = 0) ∧ (cd = 0) ∧ (rg = 0)) (w : Int) (hw : w = 10240 + (rd * 256 + im)) : rdOf f 4 w = rd ∧ rnOf f 4 w = rn ∧ rmOf f 4 w = rm ∧ raOf f 4 w = ra ∧ imOf f 4 w = im ∧ kdOf f 4 w = kd ∧ bsOf f 4 w = bs ∧ stOf f 4 w = st ∧ cdOf f 4 w = cd ∧ rgOf f 4 w = rg := by
  obtain ⟨h1, h2, h3, h4, h5, h6, h7, h8, h9, h10⟩ := h
  rw [rd_4, rn_4, rm_4, ra_4, im_4, kd_4, bs_4, st_4, cd_4, rg_4]
  exact ⟨by omega, by omega, by omega, by omega, by omega, by omega, by omega, by omega, by omega, by omega⟩
theorem back_10 {f rd rn rm ra im kd bs st cd rg : Int} (hf : f = 10) (h : (0 ≤ rd ∧ rd ≤ 7) ∧ (rn = 0) ∧ (rm = 0) ∧ (ra = 0) ∧ (0 ≤ im ∧ im ≤ 255) ∧ (kd = 0) ∧ (bs = 0) ∧ (st = 0) ∧ (cd = 0) ∧ (rg = 0)) (w : Int) (hw : w = 12288 + (rd * 256 + im)) : rdOf f 4 w = rd ∧ rnOf f 4 w = rn ∧ rmOf f 4 w = rm ∧ raOf f 4 w = ra ∧ imOf f 4 w = im ∧ kdOf f 4 w = kd ∧ bsOf f 4 w = bs ∧ stOf f 4 w = st ∧ cdOf f 4 w = cd ∧ rgOf f 4 w = rg := by
  obtain ⟨h1, h2, h3, h4, h5, h6, h7, h8, h9, h10⟩ := h
  rw [rd_4, rn_4, rm_4, ra_4, im_4, kd_4, bs_4, st_4, cd_4, rg_4]
  exact ⟨by omega, by omega, by omega, by omega, by omega, by omega, by omega, by omega, by omega, by omega⟩
theorem back_11 {f rd rn rm ra im kd bs st cd rg : Int} (hf : f = 11) (h : (0 ≤ rd ∧ rd ≤ 7) ∧ (rn = 0) ∧ (rm = 0) ∧ (ra = 0) ∧ (0 ≤ im ∧ im ≤ 255) ∧ (kd = 0) ∧ (bs = 0) ∧ (st = 0) ∧ (cd = 0) ∧ (rg = 0)) (w : Int) (hw : w = 14336 + (rd * 256 + im)) : rdOf f 4 w = rd ∧ rnOf f 4 w = rn ∧ rmOf f 4 w = rm ∧ raOf f 4 w = ra ∧ imOf f 4 w = im ∧ kdOf f 4 w = kd ∧ bsOf f 4 w = bs ∧ stOf f 4 w = st ∧ cdOf f 4 w = cd ∧ rgOf f 4 w = rg := by
  obtain ⟨h1, h2, h3, h4, h5, h6, h7, h8, h9, h10⟩ := h
  rw [rd_4, rn_4, rm_4, ra_4, im_4, kd_4, bs_4, st_4, cd_4, rg_4]
  exact ⟨by omega, by omega, by omega, by omega, by omega, by omega, by omega, by omega, by omega, by omega⟩
theorem back_12 {f rd rn rm ra im kd bs st cd rg : Int} (hf : f = 12) (h : (0 ≤ rd ∧ rd ≤ 7) ∧ (rn = 0) ∧ (0 ≤ rm ∧ rm ≤ 7) ∧ (ra = 0) ∧ (im = 0) ∧ (kd = 0) ∧ (bs = 0) ∧ (st = 0) ∧ (cd = 0) ∧ (rg = 0)) (w : Int) (hw : w = 16384 + (rm * 8 + rd)) : rdOf f 5 w = rd ∧ rnOf f 5 w = rn ∧ rmOf f 5 w = rm ∧ raOf f 5 w = ra ∧ imOf f 5 w = im ∧ kdOf f 5 w = kd ∧ bsOf f 5 w = bs ∧ stOf f 5 w = st ∧ cdOf f 5 w = cd ∧ rgOf f 5 w = rg := by
  obtain ⟨h1, h2, h3, h4, h5, h6, h7, h8, h9, h10⟩ := h
  rw [rd_5, rn_5, rm_5, ra_5, im_5, kd_5, bs_5, st_5, cd_5, rg_5]
  exact ⟨by omega, by omega, by omega, by omega, by omega, by omega, by omega, by omega, by omega, by omega⟩
theorem back_13 {f rd rn rm ra im kd bs st cd rg : Int} (hf : f = 13) (h : (0 ≤ rd ∧ rd ≤ 7) ∧ (rn = 0) ∧ (0 ≤ rm ∧ rm ≤ 7) ∧ (ra = 0) ∧ (im = 0) ∧ (kd = 0) ∧ (bs = 0) ∧ (st = 0) ∧ (cd = 0) ∧ (rg = 0)) (w : Int) (hw : w = 16448 + (rm * 8 + rd)) : rdOf f 5 w = rd ∧ rnOf f 5 w = rn ∧ rmOf f 5 w = rm ∧ raOf f 5 w = ra ∧ imOf f 5 w = im ∧ kdOf f 5 w = kd ∧ bsOf f 5 w = bs ∧ stOf f 5 w = st ∧ cdOf f 5 w = cd ∧ rgOf f 5 w = rg := by
  obtain ⟨h1, h2, h3, h4, h5, h6, h7, h8, h9, h10⟩ := h
  rw [rd_5, rn_5, rm_5, ra_5, im_5, kd_5, bs_5, st_5, cd_5, rg_5]
  exact ⟨by omega, by omega, by omega, by omega, by omega, by omega, by omega, by omega, by omega, by omega⟩
theorem back_14 {f rd rn rm ra im kd bs st cd rg : Int} (hf : f = 14) (h : (0 ≤ rd ∧ rd ≤ 7) ∧ (rn = 0) ∧ (0 ≤ rm ∧ rm ≤ 7) ∧ (ra = 0) ∧ (im = 0) ∧ (kd = 0) ∧ (bs = 0) ∧ (st = 0) ∧ (cd = 0) ∧ (rg = 0)) (w : Int) (hw : w = 16512 + (rm * 8 + rd)) : rdOf f 5 w = rd ∧ rnOf f 5 w = rn ∧ rmOf f 5 w = rm ∧ raOf f 5 w = ra ∧ imOf f 5 w = im ∧ kdOf f 5 w = kd ∧ bsOf f 5 w = bs ∧ stOf f 5 w = st ∧ cdOf f 5 w = cd ∧ rgOf f 5 w = rg := by
  obtain ⟨h1, h2, h3, h4, h5, h6, h7, h8, h9, h10⟩ := h
  rw [rd_5, rn_5, rm_5, ra_5, im_5, kd_5, bs_5, st_5, cd_5, rg_5]
  exact ⟨by omega, by omega, by omega, by omega, by omega, by omega, by omega, by omega, by omega, by omega⟩
theorem back_15 {f rd rn rm ra im kd bs st cd rg : Int} (hf : f = 15) (h : (0 ≤ rd ∧ rd ≤ 7) ∧ (rn = 0) ∧ (0 ≤ rm ∧ rm ≤ 7) ∧ (ra = 0) ∧ (im = 0) ∧ (kd = 0) ∧ (bs = 0) ∧ (st = 0) ∧ (cd = 0) ∧ (rg = 0)) (w : Int) (hw : w = 16576 + (rm * 8 + rd)) : rdOf f 5 w = rd ∧ rnOf f 5 w = rn ∧ rmOf f 5 w = rm ∧ raOf f 5 w = ra ∧ imOf f 5 w = im ∧ kdOf f 5 w = kd ∧ bsOf f 5 w = bs ∧ stOf f 5 w = st ∧ cdOf f 5 w = cd ∧ rgOf f 5 w = rg := by
  obtain ⟨h1, h2, h3, h4, h5, h6, h7, h8, h9, h10⟩ := h
  rw [rd_5, rn_5, rm_5, ra_5, im_5, kd_5, bs_5, st_5, cd_5, rg_5]
  exact ⟨by omega, by omega, by omega, by omega, by omega, by omega, by omega, by omega, by omega, by omega⟩
theorem back_16 {f rd rn rm ra im kd bs st cd rg : Int} (hf : f = 16) (h : (0 ≤ rd ∧ rd ≤ 7) ∧ (rn = 0) ∧ (0 ≤ rm ∧ rm ≤ 7) ∧ (ra = 0) ∧ (im = 0) ∧ (kd = 0) ∧ (bs = 0) ∧ (st = 0) ∧ (cd = 0) ∧ (rg = 0)) (w : Int) (hw : w = 16640 + (rm * 8 + rd)) : rdOf f 5 w = rd ∧ rnOf f 5 w = rn ∧ rmOf f 5 w = rm ∧ raOf f 5 w = ra ∧ imOf f 5 w = im ∧ kdOf f 5 w = kd ∧ bsOf f 5 w = bs ∧ stOf f 5 w = st ∧ cdOf f 5 w = cd ∧ rgOf f 5 w = rg := by
  obtain ⟨h1, h2, h3, h4, h5, h6, h7, h8, h9, h10⟩ := h
  rw [rd_5, rn_5, rm_5, ra_5, im_5, kd_5, bs_5, st_5, cd_5, rg_5]
  exact ⟨by omega, by omega, by omega, by omega, by omega, by omega, by omega, by omega, by omega, by omega⟩
theorem back_17 {f rd rn rm ra im kd bs st cd rg : Int} (hf : f = 17) (h : (0 ≤ rd ∧ rd ≤ 7) ∧ (rn = 0) ∧ (0 ≤ rm ∧ rm ≤ 7) ∧ (ra = 0) ∧ (im = 0) ∧ (kd = 0) ∧ (bs = 0) ∧ (st = 0) ∧ (cd = 0) ∧ (rg = 0)) (w : Int) (hw : w = 16704 + (rm * 8 + rd)) : rdOf f 5 w = rd ∧ rnOf f 5 w = rn ∧ rmOf f 5 w = rm ∧ raOf f 5 w = ra ∧ imOf f 5 w = im ∧ kdOf f 5 w = kd ∧ bsOf f 5 w = bs ∧ stOf f 5 w = st ∧ cdOf f 5 w = cd ∧ rgOf f 5 w = rg := by
  obtain ⟨h1, h2, h3, h4, h5, h6, h7, h8, h9, h10⟩ := h
  rw [rd_5, rn_5, rm_5, ra_5, im_5, kd_5, bs_5, st_5, cd_5, rg_5]
  exact ⟨by omega, by omega, by omega, by omega, by omega, by omega, by omega, by omega, by omega, by omega⟩
theorem back_18 {f rd rn rm ra im kd bs st cd rg : Int} (hf : f = 18) (h : (0 ≤ rd ∧ rd ≤ 7) ∧ (rn = 0) ∧ (0 ≤ rm ∧ rm ≤ 7) ∧ (ra = 0) ∧ (im = 0) ∧ (kd = 0) ∧ (bs = 0) ∧ (st = 0) ∧ (cd = 0) ∧ (rg = 0)) (w : Int) (hw : w = 16768 + (rm * 8 + rd)) : rdOf f 5 w = rd ∧ rnOf f 5 w = rn ∧ rmOf f 5 w = rm ∧ raOf f 5 w = ra ∧ imOf f 5 w = im ∧ kdOf f 5 w = kd ∧ bsOf f 5 w = bs ∧ stOf f 5 w = st ∧ cdOf f 5 w = cd ∧ rgOf f 5 w = rg := by
  obtain ⟨h1, h2, h3, h4, h5, h6, h7, h8, h9, h10⟩ := h
  rw [rd_5, rn_5, rm_5, ra_5, im_5, kd_5, bs_5, st_5, cd_5, rg_5]
  exact ⟨by omega, by omega, by omega, by omega, by omega, by omega, by omega, by omega, by omega, by omega⟩
theorem back_19 {f rd rn rm ra im kd bs st cd rg : Int} (hf : f = 19) (h : (0 ≤ rd ∧ rd ≤ 7) ∧ (rn = 0) ∧ (0 ≤ rm ∧ rm ≤ 7) ∧ (ra = 0) ∧ (im = 0) ∧ (kd = 0) ∧ (bs = 0) ∧ (st = 0) ∧ (cd = 0) ∧ (rg = 0)) (w : Int) (hw : w = 16832 + (rm * 8 + rd)) : rdOf f 5 w = rd ∧ rnOf f 5 w = rn ∧ rmOf f 5 w = rm ∧ raOf f 5 w = ra ∧ imOf f 5 w = im ∧ kdOf f 5 w = kd ∧ bsOf f 5 w = bs ∧ stOf f 5 w = st ∧ cdOf f 5 w = cd ∧ rgOf f 5 w = rg := by
  obtain ⟨h1, h2, h3, h4, h5, h6, h7, h8, h9, h10⟩ := h
  rw [rd_5, rn_5, rm_5, ra_5, im_5, kd_5, bs_5, st_5, cd_5, rg_5]
  exact ⟨by omega, by omega, by omega, by omega, by omega, by omega, by omega, by omega, by omega, by omega⟩
theorem back_20 {f rd rn rm ra im kd bs st cd rg : Int} (hf : f = 20) (h : (0 ≤ rd ∧ rd ≤ 7) ∧ (rn = 0) ∧ (0 ≤ rm ∧ rm ≤ 7) ∧ (ra = 0) ∧ (im = 0) ∧ (kd = 0) ∧ (bs = 0) ∧ (st = 0) ∧ (cd = 0) ∧ (rg = 0)) (w : Int) (hw : w = 16896 + (rm * 8 + rd)) : rdOf f 5 w = rd ∧ rnOf f 5 w = rn ∧ rmOf f 5 w = rm ∧ raOf f 5 w = ra ∧ imOf f 5 w = im ∧ kdOf f 5 w = kd ∧ bsOf f 5 w = bs ∧ stOf f 5 w = st ∧ cdOf f 5 w = cd ∧ rgOf f 5 w = rg := by
  obtain ⟨h1, h2, h3, h4, h5, h6, h7, h8, h9, h10⟩ := h
  rw [rd_5, rn_5, rm_5, ra_5, im_5, kd_5, bs_5, st_5, cd_5, rg_5]
  exact ⟨by omega, by omega, by omega, by omega, by omega, by omega, by omega, by omega, by omega, by omega⟩
theorem back_21 {f rd rn rm ra im kd bs st cd rg : Int} (hf : f = 21) (h : (0 ≤ rd ∧ rd ≤ 7) ∧ (rn = 0) ∧ (0 ≤ rm ∧ rm ≤ 7) ∧ (ra = 0) ∧ (im = 0) ∧ (kd = 0) ∧ (bs = 0) ∧ (st = 0) ∧ (cd = 0) ∧ (rg = 0)) (w : Int) (hw : w = 16960 + (rm * 8 + rd)) : rdOf f 5 w = rd ∧ rnOf f 5 w = rn ∧ rmOf f 5 w = rm ∧ raOf f 5 w = ra ∧ imOf f 5 w = im ∧ kdOf f 5 w = kd ∧ bsOf f 5 w = bs ∧ stOf f 5 w = st ∧ cdOf f 5 w = cd ∧ rgOf f 5 w = rg := by
  obtain ⟨h1, h2, h3, h4, h5, h6, h7, h8, h9, h10⟩ := h
  rw [rd_5, rn_5, rm_5, ra_5, im_5, kd_5, bs_5, st_5, cd_5, rg_5]
  exact ⟨by omega, by omega, by omega, by omega, by omega, by omega, by omega, by omega, by omega, by omega⟩
theorem back_22 {f rd rn rm ra im kd bs st cd rg : Int} (hf : f = 22) (h : (0 ≤ rd ∧ rd ≤ 7) ∧ (rn = 0) ∧ (0 ≤ rm ∧ rm ≤ 7) ∧ (ra = 0) ∧ (im = 0) ∧ (kd = 0) ∧ (bs = 0) ∧ (st = 0) ∧ (cd = 0) ∧ (rg = 0)) (w : Int) (hw : w = 17024 + (rm * 8 + rd)) : rdOf f 5 w = rd ∧ rnOf f 5 w = rn ∧ rmOf f 5 w = rm ∧ raOf f 5 w = ra ∧ imOf f 5 w = im ∧ kdOf f 5 w = kd ∧ bsOf f 5 w = bs ∧ stOf f 5 w = st ∧ cdOf f 5 w = cd ∧ rgOf f 5 w = rg := by
  obtain ⟨h1, h2, h3, h4, h5, h6, h7, h8, h9, h10⟩ := h
  rw [rd_5, rn_5, rm_5, ra_5, im_5, kd_5, bs_5, st_5, cd_5, rg_5]
  exact ⟨by omega, by omega, by omega, by omega, by omega, by omega, by omega, by omega, by omega, by omega⟩
theorem back_23 {f rd rn rm ra im kd bs st cd rg : Int} (hf : f = 23) (h : (0 ≤ rd ∧ rd ≤ 7) ∧ (rn = 0) ∧ (0 ≤ rm ∧ rm ≤ 7) ∧ (ra = 0) ∧ (im = 0) ∧ (kd = 0) ∧ (bs = 0) ∧ (st = 0) ∧ (cd = 0) ∧ (rg = 0)) (w : Int) (hw : w = 17088 + (rm * 8 + rd)) : rdOf f 5 w = rd ∧ rnOf f 5 w = rn ∧ rmOf f 5 w = rm ∧ raOf f 5 w = ra ∧ imOf f 5 w = im ∧ kdOf f 5 w = kd ∧ bsOf f 5 w = bs ∧ stOf f 5 w = st ∧ cdOf f 5 w = cd ∧ rgOf f 5 w = rg := by
  obtain ⟨h1, h2, h3, h4, h5, h6, h7, h8, h9, h10⟩ := h
  rw [rd_5, rn_5, rm_5, ra_5, im_5, kd_5, bs_5, st_5, cd_5, rg_5]
  exact ⟨by omega, by omega, by omega, by omega, by omega, by omega, by omega, by omega, by omega, by omega⟩
theorem back_24 {f rd rn rm ra im kd bs st cd rg : Int} (hf : f = 24) (h : (0 ≤ rd ∧ rd ≤ 7) ∧ (rn = 0) ∧ (0 ≤ rm ∧ rm ≤ 7) ∧ (ra = 0) ∧ (im = 0) ∧ (kd = 0) ∧ (bs = 0) ∧ (st = 0) ∧ (cd = 0) ∧ (rg = 0)) (w : Int) (hw : w = 17152 + (rm * 8 + rd)) : rdOf f 5 w = rd ∧ rnOf f 5 w = rn ∧ rmOf f 5 w = rm ∧ raOf f 5 w = ra ∧ imOf f 5 w = im ∧ kdOf f 5 w = kd ∧ bsOf f 5 w = bs ∧ stOf f 5 w = st ∧ cdOf f 5 w = cd ∧ rgOf f 5 w = rg := by
  obtain ⟨h1, h2, h3, h4, h5, h6, h7, h8, h9, h10⟩ := h
  rw [rd_5, rn_5, rm_5, ra_5, im_5, kd_5, bs_5, st_5, cd_5, rg_5]
  exact ⟨by omega, by omega, by omega, by omega, by omega, by omega, by omega, by omega, by omega, by omega⟩
theorem back_25 {f rd rn rm ra im kd bs st cd rg : Int} (hf : f = 25) (h : (0 ≤ rd ∧ rd ≤ 7) ∧ (rn = 0) ∧ (0 ≤ rm ∧ rm ≤ 7) ∧ (ra = 0) ∧ (im = 0) ∧ (kd = 0) ∧ (bs = 0) ∧ (st = 0) ∧ (cd = 0) ∧ (rg = 0)) (w : Int) (hw : w = 17216 + (rm * 8 + rd)) : rdOf f 5 w = rd ∧ rnOf f 5 w = rn ∧ rmOf f 5 w = rm ∧ raOf f 5 w = ra ∧ imOf f 5 w = im ∧ kdOf f 5 w = kd ∧ bsOf f 5 w = bs ∧ stOf f 5 w = st ∧ cdOf f 5 w = cd ∧ rgOf f 5 w = rg := by
  obtain ⟨h1, h2, h3, h4, h5, h6, h7, h8, h9, h10⟩ := h
  rw [rd_5, rn_5, rm_5, ra_5, im_5, kd_5, bs_5, st_5, cd_5, rg_5]
  exact ⟨by omega, by omega, by omega, by omega, by omega, by omega, by omega, by omega, by omega, by omega⟩
theorem back_26 {f rd rn rm ra im kd bs st cd rg : Int} (hf : f = 26) (h : (0 ≤ rd ∧ rd ≤ 7) ∧ (rn = 0) ∧ (0 ≤ rm ∧ rm ≤ 7) ∧ (ra = 0) ∧ (im = 0) ∧ (kd = 0) ∧ (bs = 0) ∧ (st = 0) ∧ (cd = 0) ∧ (rg = 0)) (w : Int) (hw : w = 17280 + (rm * 8 + rd)) : rdOf f 5 w = rd ∧ rnOf f 5 w = rn ∧ rmOf f 5 w = rm ∧ raOf f 5 w = ra ∧ imOf f 5 w = im ∧ kdOf f 5 w = kd ∧ bsOf f 5 w = bs ∧ stOf f 5 w = st ∧ cdOf f 5 w = cd ∧ rgOf f 5 w = rg := by
  obtain ⟨h1, h2, h3, h4, h5, h6, h7, h8, h9, h10⟩ := h
  rw [rd_5, rn_5, rm_5, ra_5, im_5, kd_5, bs_5, st_5, cd_5, rg_5]
  exact ⟨by omega, by omega, by omega, by omega, by omega, by omega, by omega, by omega, by omega, by omega⟩
theorem back_27 {f rd rn rm ra im kd bs st cd rg : Int} (hf : f = 27) (h : (0 ≤ rd ∧ rd ≤ 7) ∧ (rn = 0) ∧ (0 ≤ rm ∧ rm ≤ 7) ∧ (ra = 0) ∧ (im = 0) ∧ (kd = 0) ∧ (bs = 0) ∧ (st = 0) ∧ (cd = 0) ∧ (rg = 0)) (w : Int) (hw : w = 17344 + (rm * 8 + rd)) : rdOf f 5 w = rd ∧ rnOf f 5 w = rn ∧ rmOf f 5 w = rm ∧ raOf f 5 w = ra ∧ imOf f 5 w = im ∧ kdOf f 5 w = kd ∧ bsOf f 5 w = bs ∧ stOf f 5 w = st ∧ cdOf f 5 w = cd ∧ rgOf f 5 w = rg := by
  obtain ⟨h1, h2, h3, h4, h5, h6, h7, h8, h9, h10⟩ := h
  rw [rd_5, rn_5, rm_5, ra_5, im_5, kd_5, bs_5, st_5, cd_5, rg_5]
  exact ⟨by omega, by omega, by omega, by omega, by omega, by omega, by omega, by omega, by omega, by omega⟩
theorem back_28 {f rd rn rm ra im kd bs st cd rg : Int} (hf : f = 28) (h : (0 ≤ rd ∧ rd ≤ 14) ∧ (rn = 0) ∧ (0 ≤ rm ∧ rm ≤ 14) ∧ (ra = 0) ∧ (im = 0) ∧ (kd = 0) ∧ (bs = 0) ∧ (st = 0) ∧ (cd = 0) ∧ (rg = 0)) (w : Int) (hw : w = 17408 + (rd / 8 * 128 + rm * 8 + rd % 8)) : rdOf f 6 w = rd ∧ rnOf f 6 w = rn ∧ rmOf f 6 w = rm ∧ raOf f 6 w = ra ∧ imOf f 6 w = im ∧ kdOf f 6 w = kd ∧ bsOf f 6 w = bs ∧ stOf f 6 w = st ∧ cdOf f 6 w = cd ∧ rgOf f 6 w = rg := by
  obtain ⟨h1, h2, h3, h4, h5, h6, h7, h8, h9, h10⟩ := h
  rw [rd_6, rn_6, rm_6, ra_6, im_6, kd_6, bs_6, st_6, cd_6, rg_6]
  have g0 : 0 ≤ rd / 8 ∧ rd / 8 ≤ 1 := by omega
  have g1 : 0 ≤ rd % 8 ∧ rd % 8 ≤ 7 := by omega
  exact ⟨by omega, by omega, by omega, by omega, by omega, by omega, by omega, by omega, by omega, by omega⟩
theorem back_29 {f rd rn rm ra im kd bs st cd rg : Int} (hf : f = 29) (h : (0 ≤ rd ∧ rd ≤ 14) ∧ (rn = 0) ∧ (0 ≤ rm ∧ rm ≤ 14) ∧ (ra = 0) ∧ (im = 0) ∧ (kd = 0) ∧ (bs = 0) ∧ (st = 0) ∧ (cd = 0) ∧ (rg = 0)) (w : Int) (hw : w = 17664 + (rd / 8 * 128 + rm * 8 + rd % 8)) : rdOf f 6 w = rd ∧ rnOf f 6 w = rn ∧ rmOf f 6 w = rm ∧ raOf f 6 w = ra ∧ imOf f 6 w = im ∧ kdOf f 6 w = kd ∧ bsOf f 6 w = bs ∧ stOf f 6 w = st ∧ cdOf f 6 w = cd ∧ rgOf f 6 w = rg := by
  obtain ⟨h1, h2, h3, h4, h5, h6, h7, h8, h9, h10⟩ := h
  rw [rd_6, rn_6, rm_6, ra_6, im_6, kd_6, bs_6, st_6, cd_6, rg_6]
  have g0 : 0 ≤ rd / 8 ∧ rd / 8 ≤ 1 := by omega
  have g1 : 0 ≤ rd % 8 ∧ rd % 8 ≤ 7 := by omega
  exact ⟨by omega, by omega, by omega, by omega, by omega, by omega, by omega, by omega, by omega, by omega⟩
theorem back_30 {f rd rn rm ra im kd bs st cd rg : Int} (hf : f = 30) (h : (0 ≤ rd ∧ rd ≤ 14) ∧ (rn = 0) ∧ (0 ≤ rm ∧ rm ≤ 14) ∧ (ra = 0) ∧ (im = 0) ∧ (kd = 0) ∧ (bs = 0) ∧ (st = 0) ∧ (cd = 0) ∧ (rg = 0)) (w : Int) (hw : w = 17920 + (rd / 8 * 128 + rm * 8 + rd % 8)) : rdOf f 6 w = rd ∧ rnOf f 6 w = rn ∧ rmOf f 6 w = rm ∧ raOf f 6 w = ra ∧ imOf f 6 w = im ∧ kdOf f 6 w = kd ∧ bsOf f 6 w = bs ∧ stOf f 6 w = st ∧ cdOf f 6 w = cd ∧ rgOf f 6 w = rg := by
  obtain ⟨h1, h2, h3, h4, h5, h6, h7, h8, h9, h10⟩ := h
  rw [rd_6, rn_6, rm_6, ra_6, im_6, kd_6, bs_6, st_6, cd_6, rg_6]
  have g0 : 0 ≤ rd / 8 ∧ rd / 8 ≤ 1 := by omega
  have g1 : 0 ≤ rd % 8 ∧ rd % 8 ≤ 7 := by omega
  exact ⟨by omega, by omega, by omega, by omega, by omega, by omega, by omega, by omega, by omega, by omega⟩
theorem back_31 {f rd rn rm ra im kd bs st cd rg : Int} (hf : f = 31) (h : (rd = 0) ∧ (rn = 0) ∧ (0 ≤ rm ∧ rm ≤ 14) ∧ (ra = 0) ∧ (im = 0) ∧ (kd = 0) ∧ (bs = 0) ∧ (st = 0) ∧ (cd = 0) ∧ (rg = 0)) (w : Int) (hw : w = 18176 + (rm * 8)) : rdOf f 7 w = rd ∧ rnOf f 7 w = rn ∧ rmOf f 7 w = rm ∧ raOf f 7 w = ra ∧ imOf f 7 w = im ∧ kdOf f 7 w = kd ∧ bsOf f 7 w = bs ∧ stOf f 7 w = st ∧ cdOf f 7 w = cd ∧ rgOf f 7 w = rg := by
  obtain ⟨h1, h2, h3, h4, h5, h6, h7, h8, h9, h10⟩ := h
  rw [rd_7, rn_7, rm_7, ra_7, im_7, kd_7, bs_7, st_7, cd_7, rg_7]
  exact ⟨by omega, by omega, by omega, by omega, by omega, by omega, by omega, by omega, by omega, by omega⟩
theorem back_32 {f rd rn rm ra im kd bs st cd rg : Int} (hf : f = 32) (h : (0 ≤ rd ∧ rd ≤ 7) ∧ (rn = 0) ∧ (rm = 0) ∧ (ra = 0) ∧ (0 ≤ im ∧ im ≤ 1020 ∧ im % 4 = 0) ∧ (kd = 0) ∧ (bs = 0) ∧ (st = 0) ∧ (cd = 0) ∧ (rg = 0)) (w : Int) (hw : w = 18432 + (rd * 256 + im / 4)) : rdOf f 8 w = rd ∧ rnOf f 8 w = rn ∧ rmOf f 8 w = rm ∧ raOf f 8 w = ra ∧ imOf f 8 w = im ∧ kdOf f 8 w = kd ∧ bsOf f 8 w = bs ∧ stOf f 8 w = st ∧ cdOf f 8 w = cd ∧ rgOf f 8 w = rg := by
  obtain ⟨h1, h2, h3, h4, h5, h6, h7, h8, h9, h10⟩ := h
  rw [rd_8, rn_8, rm_8, ra_8, im_8, kd_8, bs_8, st_8, cd_8, rg_8]
  have g0 : 0 ≤ im / 4 ∧ im / 4 ≤ 255 := by omega
  exact ⟨by omega, by omega, by omega, by omega, by omega, by omega, by omega, by omega, by omega, by omega⟩
theorem back_33 {f rd rn rm ra im kd bs st cd rg : Int} (hf : f = 33) (h : (0 ≤ rd ∧ rd ≤ 7) ∧ (0 ≤ rn ∧ rn ≤ 7) ∧ (0 ≤ rm ∧ rm ≤ 7) ∧ (ra = 0) ∧ (im = 0) ∧ (kd = 0) ∧ (bs = 0) ∧ (st = 0) ∧ (cd = 0) ∧ (rg = 0)) (w : Int) (hw : w = 20480 + (rm * 64 + rn * 8 + rd)) : rdOf f 2 w = rd ∧ rnOf f 2 w = rn ∧ rmOf f 2 w = rm ∧ raOf f 2 w = ra ∧ imOf f 2 w = im ∧ kdOf f 2 w = kd ∧ bsOf f 2 w = bs ∧ stOf f 2 w = st ∧ cdOf f 2 w = cd ∧ rgOf f 2 w = rg := by
  obtain ⟨h1, h2, h3, h4, h5, h6, h7, h8, h9, h10⟩ := h
  rw [rd_2, rn_2, rm_2, ra_2, im_2, kd_2, bs_2, st_2, cd_2, rg_2]
  exact ⟨by omega, by omega, by omega, by omega, by omega, by omega, by omega, by omega, by omega, by omega⟩
theorem back_34 {f rd rn rm ra im kd bs st cd rg : Int} (hf : f = 34) (h : (0 ≤ rd ∧ rd ≤ 7) ∧ (0 ≤ rn ∧ rn ≤ 7) ∧ (0 ≤ rm ∧ rm ≤ 7) ∧ (ra = 0) ∧ (im = 0) ∧ (kd = 0) ∧ (bs = 0) ∧ (st = 0) ∧ (cd = 0) ∧ (rg = 0)) (w : Int) (hw : w = 22528 + (rm * 64 + rn * 8 + rd)) : rdOf f 2 w = rd ∧ rnOf f 2 w = rn ∧ rmOf f 2 w = rm ∧ raOf f 2 w = ra ∧ imOf f 2 w = im ∧ kdOf f 2 w = kd ∧ bsOf f 2 w = bs ∧ stOf f 2 w = st ∧ cdOf f 2 w = cd ∧ rgOf f 2 w = rg := by
  obtain ⟨h1, h2, h3, h4, h5, h6, h7, h8, h9, h10⟩ := h
  rw [rd_2, rn_2, rm_2, ra_2, im_2, kd_2, bs_2, st_2, cd_2, rg_2]
  exact ⟨by omega, by omega, by omega, by omega, by omega, by omega, by omega, by omega, by omega, by omega⟩
theorem back_35 {f rd rn rm ra im kd bs st cd rg : Int} (hf : f = 35) (h : (0 ≤ rd ∧ rd ≤ 7) ∧ (0 ≤ rn ∧ rn ≤ 7) ∧ (rm = 0) ∧ (ra = 0) ∧ (0 ≤ im ∧ im ≤ 124 ∧ im % 4 = 0) ∧ (kd = 0) ∧ (bs = 0) ∧ (st = 0) ∧ (cd = 0) ∧ (rg = 0)) (w : Int) (hw : w = 24576 + (im / 4 * 64 + rn * 8 + rd)) : rdOf f 9 w = rd ∧ rnOf f 9 w = rn ∧ rmOf f 9 w = rm ∧ raOf f 9 w = ra ∧ imOf f 9 w = im ∧ kdOf f 9 w = kd ∧ bsOf f 9 w = bs ∧ stOf f 9 w = st ∧ cdOf f 9 w = cd ∧ rgOf f 9 w = rg := by
  obtain ⟨h1, h2, h3, h4, h5, h6, h7, h8, h9, h10⟩ := h
  rw [rd_9, rn_9, rm_9, ra_9, im_9, kd_9, bs_9, st_9, cd_9, rg_9]
  have g0 : 0 ≤ im / 4 ∧ im / 4 ≤ 31 := by omega
  exact ⟨by omega, by omega, by omega, by omega, by omega, by omega, by omega, by omega, by omega, by omega⟩
theorem back_36 {f rd rn rm ra im kd bs st cd rg : Int} (hf : f = 36) (h : (0 ≤ rd ∧ rd ≤ 7) ∧ (0 ≤ rn ∧ rn ≤ 7) ∧ (rm = 0) ∧ (ra = 0) ∧ (0 ≤ im ∧ im ≤ 124 ∧ im % 4 = 0) ∧ (kd = 0) ∧ (bs = 0) ∧ (st = 0) ∧ (cd = 0) ∧ (rg = 0)) (w : Int) (hw : w = 26624 + (im / 4 * 64 + rn * 8 + rd)) : rdOf f 9 w = rd ∧ rnOf f 9 w = rn ∧ rmOf f 9 w = rm ∧ raOf f 9 w = ra ∧ imOf f 9 w = im ∧ kdOf f 9 w = kd ∧ bsOf f 9 w = bs ∧ stOf f 9 w = st ∧ cdOf f 9 w = cd ∧ rgOf f 9 w = rg := by
  obtain ⟨h1, h2, h3, h4, h5, h6, h7, h8, h9, h10⟩ := h
  rw [rd_9, rn_9, rm_9, ra_9, im_9, kd_9, bs_9, st_9, cd_9, rg_9]
  have g0 : 0 ≤ im / 4 ∧ im / 4 ≤ 31 := by omega
  exact ⟨by omega, by omega, by omega, by omega, by omega, by omega, by omega, by omega, by omega, by omega⟩
theorem back_37 {f rd rn rm ra im kd bs st cd rg : Int} (hf : f = 37) (h : (0 ≤ rd ∧ rd ≤ 7) ∧ (rn = 0) ∧ (rm = 0) ∧ (ra = 0) ∧ (0 ≤ im ∧ im ≤ 1020 ∧ im % 4 = 0) ∧ (kd = 0) ∧ (bs = 0) ∧ (st = 0) ∧ (cd = 0) ∧ (rg = 0)) (w : Int) (hw : w = 36864 + (rd * 256 + im / 4)) : rdOf f 8 w = rd ∧ rnOf f 8 w = rn ∧ rmOf f 8 w = rm ∧ raOf f 8 w = ra ∧ imOf f 8 w = im ∧ kdOf f 8 w = kd ∧ bsOf f 8 w = bs ∧ stOf f 8 w = st ∧ cdOf f 8 w = cd ∧ rgOf f 8 w = rg := by
  obtain ⟨h1, h2, h3, h4, h5, h6, h7, h8, h9, h10⟩ := h
  rw [rd_8, rn_8, rm_8, ra_8, im_8, kd_8, bs_8, st_8, cd_8, rg_8]
  have g0 : 0 ≤ im / 4 ∧ im / 4 ≤ 255 := by omega
  exact ⟨by omega, by omega, by omega, by omega, by omega, by omega, by omega, by omega, by omega, by omega⟩
theorem back_38 {f rd rn rm ra im kd bs st cd rg : Int} (hf : f = 38) (h : (0 ≤ rd ∧ rd ≤ 7) ∧ (rn = 0) ∧ (rm = 0) ∧ (ra = 0) ∧ (0 ≤ im ∧ im ≤ 1020 ∧ im % 4 = 0) ∧ (kd = 0) ∧ (bs = 0) ∧ (st = 0) ∧ (cd = 0) ∧ (rg = 0)) (w : Int) (hw : w = 38912 + (rd * 256 + im / 4)) : rdOf f 8 w = rd ∧ rnOf f 8 w = rn ∧ rmOf f 8 w = rm ∧ raOf f 8 w = ra ∧ imOf f 8 w = im ∧ kdOf f 8 w = kd ∧ bsOf f 8 w = bs ∧ stOf f 8 w = st ∧ cdOf f 8 w = cd ∧ rgOf f 8 w = rg := by
  obtain ⟨h1, h2, h3, h4, h5, h6, h7, h8, h9, h10⟩ := h
  rw [rd_8, rn_8, rm_8, ra_8, im_8, kd_8, bs_8, st_8, cd_8, rg_8]
  have g0 : 0 ≤ im / 4 ∧ im / 4 ≤ 255 := by omega
  exact ⟨by omega, by omega, by omega, by omega, by omega, by omega, by omega, by omega, by omega, by omega⟩
theorem back_39 {f rd rn rm ra im kd bs st cd rg : Int} (hf : f = 39) (h : (0 ≤ rd ∧ rd ≤ 7) ∧ (rn = 0) ∧ (rm = 0) ∧ (ra = 0) ∧ (0 ≤ im ∧ im ≤ 1020 ∧ im % 4 = 0) ∧ (kd = 0) ∧ (bs = 0) ∧ (st = 0) ∧ (cd = 0) ∧ (rg = 0)) (w : Int) (hw : w = 43008 + (rd * 256 + im / 4)) : rdOf f 8 w = rd ∧ rnOf f 8 w = rn ∧ rmOf f 8 w = rm ∧ raOf f 8 w = ra ∧ imOf f 8 w = im ∧ kdOf f 8 w = kd ∧ bsOf f 8 w = bs ∧ stOf f 8 w = st ∧ cdOf f 8 w = cd ∧ rgOf f 8 w = rg := by
  obtain ⟨h1, h2, h3, h4, h5, h6, h7, h8, h9, h10⟩ := h
  rw [rd_8, rn_8, rm_8, ra_8, im_8, kd_8, bs_8, st_8, cd_8, rg_8]
  have g0 : 0 ≤ im / 4 ∧ im / 4 ≤ 255 := by omega
  exact ⟨by omega, by omega, by omega, by omega, by omega, by omega, by omega, by omega, by omega, by omega⟩
theorem back_40 {f rd rn rm ra im kd bs st cd rg : Int} (hf : f = 40) (h : (rd = 0) ∧ (rn = 0) ∧ (rm = 0) ∧ (ra = 0) ∧ (0 ≤ im ∧ im ≤ 508 ∧ im % 4 = 0) ∧ (kd = 0) ∧ (bs = 0) ∧ (st = 0) ∧ (cd = 0) ∧ (rg = 0)) (w : Int) (hw : w = 45056 + (im / 4)) : rdOf f 10 w = rd ∧ rnOf f 10 w = rn ∧ rmOf f 10 w = rm ∧ raOf f 10 w = ra ∧ imOf f 10 w = im ∧ kdOf f 10 w = kd ∧ bsOf f 10 w = bs ∧ stOf f 10 w = st ∧ cdOf f 10 w = cd ∧ rgOf f 10 w = rg := by
  obtain ⟨h1, h2, h3, h4, h5, h6, h7, h8, h9, h10⟩ := h
  rw [rd_10, rn_10, rm_10, ra_10, im_10, kd_10, bs_10, st_10, cd_10, rg_10]
  have g0 : 0 ≤ im / 4 ∧ im / 4 ≤ 127 := by omega
  exact ⟨by omega, by omega, by omega, by omega, by omega, by omega, by omega, by omega, by omega, by omega⟩
theorem back_41 {f rd rn rm ra im kd bs st cd rg : Int} (hf : f = 41) (h : (rd = 0) ∧ (rn = 0) ∧ (rm = 0) ∧ (ra = 0) ∧ (0 ≤ im ∧ im ≤ 508 ∧ im % 4 = 0) ∧ (kd = 0) ∧ (bs = 0) ∧ (st = 0) ∧ (cd = 0) ∧ (rg = 0)) (w : Int) (hw : w = 45184 + (im / 4)) : rdOf f 10 w = rd ∧ rnOf f 10 w = rn ∧ rmOf f 10 w = rm ∧ raOf f 10 w = ra ∧ imOf f 10 w = im ∧ kdOf f 10 w = kd ∧ bsOf f 10 w = bs ∧ stOf f 10 w = st ∧ cdOf f 10 w = cd ∧ rgOf f 10 w = rg := by
  obtain ⟨h1, h2, h3, h4, h5, h6, h7, h8, h9, h10⟩ := h
  rw [rd_10, rn_10, rm_10, ra_10, im_10, kd_10, bs_10, st_10, cd_10, rg_10]
  have g0 : 0 ≤ im / 4 ∧ im / 4 ≤ 127 := by omega
  exact ⟨by omega, by omega, by omega, by omega, by omega, by omega, by omega, by omega, by omega, by omega⟩
theorem back_42 {f rd rn rm ra im kd bs st cd rg : Int} (hf : f = 42) (h : (rd = 0) ∧ (rn = 0) ∧ (rm = 0) ∧ (ra = 0) ∧ (im = 0) ∧ (kd = 0) ∧ (bs = 0) ∧ (st = 0) ∧ (cd = 0) ∧ ((1 ≤ rg ∧ rg ≤ 255 ∨ 16384 ≤ rg ∧ rg ≤ 16639))) (w : Int) (hw : w = 46080 + (rg / 16384 % 2 * 256 + rg % 256)) : rdOf f 11 w = rd ∧ rnOf f 11 w = rn ∧ rmOf f 11 w = rm ∧ raOf f 11 w = ra ∧ imOf f 11 w = im ∧ kdOf f 11 w = kd ∧ bsOf f 11 w = bs ∧ stOf f 11 w = st ∧ cdOf f 11 w = cd ∧ rgOf f 11 w = rg := by
  obtain ⟨h1, h2, h3, h4, h5, h6, h7, h8, h9, h10⟩ := h
  rw [rd_11, rn_11, rm_11, ra_11, im_11, kd_11, bs_11, st_11, cd_11, rg_11]
  have g0 : 0 ≤ rg / 16384 % 2 ∧ rg / 16384 % 2 ≤ 1 := by omega
  have g1 : 0 ≤ rg % 256 ∧ rg % 256 ≤ 255 := by omega
  exact ⟨by omega, by omega, by omega, by omega, by omega, by omega, by omega, by omega, by omega, by omega⟩
theorem back_43 {f rd rn rm ra im kd bs st cd rg : Int} (hf : f = 43) (h : (rd = 0) ∧ (rn = 0) ∧ (rm = 0) ∧ (ra = 0) ∧ (im = 0) ∧ (kd = 0) ∧ (bs = 0) ∧ (st = 0) ∧ (cd = 0) ∧ ((1 ≤ rg ∧ rg ≤ 255 ∨ 32768 ≤ rg ∧ rg ≤ 33023))) (w : Int) (hw : w = 48128 + (rg / 32768 % 2 * 256 + rg % 256)) : rdOf f 12 w = rd ∧ rnOf f 12 w = rn ∧ rmOf f 12 w = rm ∧ raOf f 12 w = ra ∧ imOf f 12 w = im ∧ kdOf f 12 w = kd ∧ bsOf f 12 w = bs ∧ stOf f 12 w = st ∧ cdOf f 12 w = cd ∧ rgOf f 12 w = rg := by
  obtain ⟨h1, h2, h3, h4, h5, h6, h7, h8, h9, h10⟩ := h
  rw [rd_12, rn_12, rm_12, ra_12, im_12, kd_12, bs_12, st_12, cd_12, rg_12]
  have g0 : 0 ≤ rg / 32768 % 2 ∧ rg / 32768 % 2 ≤ 1 := by omega
  have g1 : 0 ≤ rg % 256 ∧ rg % 256 ≤ 255 := by omega
  exact ⟨by omega, by omega, by omega, by omega, by omega, by omega, by omega, by omega, by omega, by omega⟩
theorem back_44 {f rd rn rm ra im kd bs st cd rg : Int} (hf : f = 44) (h : (rd = 0) ∧ (rn = 0) ∧ (rm = 0) ∧ (ra = 0) ∧ (im = 0) ∧ (kd = 0) ∧ (bs = 0) ∧ (st = 0) ∧ (cd = 0) ∧ (rg = 0)) (w : Int) (hw : w = 48896 + (0)) : rdOf f 13 w = rd ∧ rnOf f 13 w = rn ∧ rmOf f 13 w = rm ∧ raOf f 13 w = ra ∧ imOf f 13 w = im ∧ kdOf f 13 w = kd ∧ bsOf f 13 w = bs ∧ stOf f 13 w = st ∧ cdOf f 13 w = cd ∧ rgOf f 13 w = rg := by
  obtain ⟨h1, h2, h3, h4, h5, h6, h7, h8, h9, h10⟩ := h
  rw [rd_13, rn_13, rm_13, ra_13, im_13, kd_13, bs_13, st_13, cd_13, rg_13]
  exact ⟨by omega, by omega, by omega, by omega, by omega, by omega, by omega, by omega, by omega, by omega⟩
theorem back_45 {f rd rn rm ra im kd bs st cd rg : Int} (hf : f = 45) (h : (rd = 0) ∧ (rn = 0) ∧ (rm = 0) ∧ (ra = 0) ∧ (0 ≤ im ∧ im ≤ 255) ∧ (kd = 0) ∧ (bs = 0) ∧ (st = 0) ∧ (cd = 0) ∧ (rg = 0)) (w : Int) (hw : w = 48640 + (im)) : rdOf f 14 w = rd ∧ rnOf f 14 w = rn ∧ rmOf f 14 w = rm ∧ raOf f 14 w = ra ∧ imOf f 14 w = im ∧ kdOf f 14 w = kd ∧ bsOf f 14 w = bs ∧ stOf f 14 w = st ∧ cdOf f 14 w = cd ∧ rgOf f 14 w = rg := by
  obtain ⟨h1, h2, h3, h4, h5, h6, h7, h8, h9, h10⟩ := h
  rw [rd_14, rn_14, rm_14, ra_14, im_14, kd_14, bs_14, st_14, cd_14, rg_14]
  exact ⟨by omega, by omega, by omega, by omega, by omega, by omega, by omega, by omega, by omega, by omega⟩
theorem back_46 {f rd rn rm ra im kd bs st cd rg : Int} (hf : f = 46) (h : (rd = 0) ∧ (rn = 0) ∧ (rm = 0) ∧ (ra = 0) ∧ (-256 ≤ im ∧ im ≤ 254 ∧ im % 2 = 0) ∧ (kd = 0) ∧ (bs = 0) ∧ (st = 0) ∧ (0 ≤ cd ∧ cd ≤ 13) ∧ (rg = 0)) (w : Int) (hw : w = 53248 + (cd * 256 + im / 2 % 256)) : rdOf f 15 w = rd ∧ rnOf f 15 w = rn ∧ rmOf f 15 w = rm ∧ raOf f 15 w = ra ∧ imOf f 15 w = im ∧ kdOf f 15 w = kd ∧ bsOf f 15 w = bs ∧ stOf f 15 w = st ∧ cdOf f 15 w = cd ∧ rgOf f 15 w = rg := by
  obtain ⟨h1, h2, h3, h4, h5, h6, h7, h8, h9, h10⟩ := h
  rw [rd_15, rn_15, rm_15, ra_15, im_15, kd_15, bs_15, st_15, cd_15, rg_15]
  have g0 : 0 ≤ im / 2 % 256 ∧ im / 2 % 256 ≤ 255 := by omega
  exact ⟨by omega, by omega, by omega, by omega, by unfold sgn; first | omega | (split <;> omega), by omega, by omega, by omega, by omega, by omega⟩
theorem back_47 {f rd rn rm ra im kd bs st cd rg : Int} (hf : f = 47) (h : (rd = 0) ∧ (rn = 0) ∧ (rm = 0) ∧ (ra = 0) ∧ (-2048 ≤ im ∧ im ≤ 2046 ∧ im % 2 = 0) ∧ (kd = 0) ∧ (bs = 0) ∧ (st = 0) ∧ (cd = 0) ∧ (rg = 0)) (w : Int) (hw : w = 57344 + (im / 2 % 2048)) : rdOf f 16 w = rd ∧ rnOf f 16 w = rn ∧ rmOf f 16 w = rm ∧ raOf f 16 w = ra ∧ imOf f 16 w = im ∧ kdOf f 16 w = kd ∧ bsOf f 16 w = bs ∧ stOf f 16 w = st ∧ cdOf f 16 w = cd ∧ rgOf f 16 w = rg := by
  obtain ⟨h1, h2, h3, h4, h5, h6, h7, h8, h9, h10⟩ := h
  rw [rd_16, rn_16, rm_16, ra_16, im_16, kd_16, bs_16, st_16, cd_16, rg_16]
  have g0 : 0 ≤ im / 2 % 2048 ∧ im / 2 % 2048 ≤ 2047 := by omega
  exact ⟨by omega, by omega, by omega, by omega, by unfold sgn; first | omega | (split <;> omega), by omega, by omega, by omega, by omega, by omega⟩

end Go.Proofs.YtegefbndpkbooaaDoor.Code

/-! Fields out of words: forms 48 to 65. -/
set_option linter.unusedVariables false
set_option linter.unusedSimpArgs false
namespace Go.Proofs.YtegefbndpkbooaaDoor.Code
open Go.Proofs.YtegefbndpkbooaaDoor.Alu Go.Proofs.YtegefbndpkbooaaDoor.Imm Go.Proofs.YtegefbndpkbooaaDoor.Inst

theorem cut_48 {y0 y1 y2 rd y3 : Int} (b0 : 0 ≤ y0 ∧ y0 ≤ 1) (b1 : 0 ≤ y1 ∧ y1 ≤ 15) (b2 : 0 ≤ y2 ∧ y2 ≤ 7) (b3 : 0 ≤ rd ∧ rd ≤ 15) (b4 : 0 ≤ y3 ∧ y3 ≤ 255) (w : Int) (hw : w = 4064280576 + (y0 * 67108864 + y1 * 65536 + y2 * 4096 + rd * 256 + y3)) : w / 256 % 16 = rd ∧ w / 67108864 % 2 = y0 ∧ w / 65536 % 16 = y1 ∧ w / 4096 % 8 = y2 ∧ w % 256 = y3 := by
  have e1 : w / 65536 = 62016 + y0 * 1024 + y1 := by omega
  have e2 : w % 65536 = 0 + y2 * 4096 + rd * 256 + y3 := by omega
  rw [half_256_16 w, half_67108864_2 w, half_65536_16 w, half_4096_8 w, half_1_256 w, e1, e2]
  clear e1 e2 hw
  exact ⟨by omega, by omega, by omega, by omega, by omega⟩
theorem back_48 {f rd rn rm ra im kd bs st cd rg : Int} (hf : f = 48) (h : ((0 ≤ rd ∧ rd ≤ 12 ∨ rd = 14)) ∧ (rn = 0) ∧ (rm = 0) ∧ (ra = 0) ∧ (0 ≤ im ∧ im ≤ 65535) ∧ (kd = 0) ∧ (bs = 0) ∧ (st = 0) ∧ (cd = 0) ∧ (rg = 0)) (w : Int) (hw : w = 4064280576 + (im / 2048 % 2 * 67108864 + im / 4096 * 65536 + im / 256 % 8 * 4096 + rd * 256 + im % 256)) : rdOf f 17 w = rd ∧ rnOf f 17 w = rn ∧ rmOf f 17 w = rm ∧ raOf f 17 w = ra ∧ imOf f 17 w = im ∧ kdOf f 17 w = kd ∧ bsOf f 17 w = bs ∧ stOf f 17 w = st ∧ cdOf f 17 w = cd ∧ rgOf f 17 w = rg := by
  obtain ⟨h1, h2, h3, h4, h5, h6, h7, h8, h9, h10⟩ := h
  obtain ⟨q0, q1, q2, q3, q4⟩ := cut_48 (y0 := im / 2048 % 2) (y1 := im / 4096) (y2 := im / 256 % 8) (y3 := im % 256) (by omega) (by omega) (by omega) (by omega) (by omega) w hw
  clear hw
  rw [rd_17, rn_17, rm_17, ra_17, im_17, kd_17, bs_17, st_17, cd_17, rg_17]
  rw [q0, q1, q2, q3, q4]
  clear q0 q1 q2 q3 q4
  exact ⟨by omega, by omega, by omega, by omega, by omega, by omega, by omega, by omega, by omega, by omega⟩
theorem cut_49 {y0 y1 y2 rd y3 : Int} (b0 : 0 ≤ y0 ∧ y0 ≤ 1) (b1 : 0 ≤ y1 ∧ y1 ≤ 15) (b2 : 0 ≤ y2 ∧ y2 ≤ 7) (b3 : 0 ≤ rd ∧ rd ≤ 15) (b4 : 0 ≤ y3 ∧ y3 ≤ 255) (w : Int) (hw : w = 4072669184 + (y0 * 67108864 + y1 * 65536 + y2 * 4096 + rd * 256 + y3)) : w / 256 % 16 = rd ∧ w / 67108864 % 2 = y0 ∧ w / 65536 % 16 = y1 ∧ w / 4096 % 8 = y2 ∧ w % 256 = y3 := by
  have e1 : w / 65536 = 62144 + y0 * 1024 + y1 := by omega
  have e2 : w % 65536 = 0 + y2 * 4096 + rd * 256 + y3 := by omega
  rw [half_256_16 w, half_67108864_2 w, half_65536_16 w, half_4096_8 w, half_1_256 w, e1, e2]
  clear e1 e2 hw
  exact ⟨by omega, by omega, by omega, by omega, by omega⟩
theorem back_49 {f rd rn rm ra im kd bs st cd rg : Int} (hf : f = 49) (h : ((0 ≤ rd ∧ rd ≤ 12 ∨ rd = 14)) ∧ (rn = 0) ∧ (rm = 0) ∧ (ra = 0) ∧ (0 ≤ im ∧ im ≤ 65535) ∧ (kd = 0) ∧ (bs = 0) ∧ (st = 0) ∧ (cd = 0) ∧ (rg = 0)) (w : Int) (hw : w = 4072669184 + (im / 2048 % 2 * 67108864 + im / 4096 * 65536 + im / 256 % 8 * 4096 + rd * 256 + im % 256)) : rdOf f 17 w = rd ∧ rnOf f 17 w = rn ∧ rmOf f 17 w = rm ∧ raOf f 17 w = ra ∧ imOf f 17 w = im ∧ kdOf f 17 w = kd ∧ bsOf f 17 w = bs ∧ stOf f 17 w = st ∧ cdOf f 17 w = cd ∧ rgOf f 17 w = rg := by
  obtain ⟨h1, h2, h3, h4, h5, h6, h7, h8, h9, h10⟩ := h
  obtain ⟨q0, q1, q2, q3, q4⟩ := cut_49 (y0 := im / 2048 % 2) (y1 := im / 4096) (y2 := im / 256 % 8) (y3 := im % 256) (by omega) (by omega) (by omega) (by omega) (by omega) w hw
  clear hw
  rw [rd_17, rn_17, rm_17, ra_17, im_17, kd_17, bs_17, st_17, cd_17, rg_17]
  rw [q0, q1, q2, q3, q4]
  clear q0 q1 q2 q3 q4
  exact ⟨by omega, by omega, by omega, by omega, by omega, by omega, by omega, by omega, by omega, by omega⟩
theorem cut_50 {y0 st rn y1 rd y2 : Int} (b0 : 0 ≤ y0 ∧ y0 ≤ 1) (b1 : 0 ≤ st ∧ st ≤ 1) (b2 : 0 ≤ rn ∧ rn ≤ 15) (b3 : 0 ≤ y1 ∧ y1 ≤ 7) (b4 : 0 ≤ rd ∧ rd ≤ 15) (b5 : 0 ≤ y2 ∧ y2 ≤ 255) (w : Int) (hw : w = 4026531840 + (y0 * 67108864 + st * 1048576 + rn * 65536 + y1 * 4096 + rd * 256 + y2)) : w / 256 % 16 = rd ∧ w / 65536 % 16 = rn ∧ w / 67108864 % 2 = y0 ∧ w / 4096 % 8 = y1 ∧ w % 256 = y2 ∧ w / 1048576 % 2 = st := by
  have e1 : w / 65536 = 61440 + y0 * 1024 + st * 16 + rn := by omega
  have e2 : w % 65536 = 0 + y1 * 4096 + rd * 256 + y2 := by omega
  rw [half_256_16 w, half_65536_16 w, half_67108864_2 w, half_4096_8 w, half_1_256 w, half_1048576_2 w, e1, e2]
  clear e1 e2 hw
  exact ⟨by omega, by omega, by omega, by omega, by omega, by omega⟩
theorem back_50 {f rd rn rm ra im kd bs st cd rg : Int} (hf : f = 50) (h : ((0 ≤ rd ∧ rd ≤ 12 ∨ rd = 14)) ∧ ((0 ≤ rn ∧ rn ≤ 12 ∨ rn = 14)) ∧ (rm = 0) ∧ (ra = 0) ∧ (0 ≤ im ∧ im ≤ 4095) ∧ (kd = 0) ∧ (bs = 0) ∧ (0 ≤ st ∧ st ≤ 1) ∧ (cd = 0) ∧ (rg = 0)) (w : Int) (hw : w = 4026531840 + (im / 2048 * 67108864 + st * 1048576 + rn * 65536 + im / 256 % 8 * 4096 + rd * 256 + im % 256)) : rdOf f 18 w = rd ∧ rnOf f 18 w = rn ∧ rmOf f 18 w = rm ∧ raOf f 18 w = ra ∧ imOf f 18 w = im ∧ kdOf f 18 w = kd ∧ bsOf f 18 w = bs ∧ stOf f 18 w = st ∧ cdOf f 18 w = cd ∧ rgOf f 18 w = rg := by
  obtain ⟨h1, h2, h3, h4, h5, h6, h7, h8, h9, h10⟩ := h
  obtain ⟨q0, q1, q2, q3, q4, q5⟩ := cut_50 (y0 := im / 2048) (y1 := im / 256 % 8) (y2 := im % 256) (by omega) (by omega) (by omega) (by omega) (by omega) (by omega) w hw
  clear hw
  rw [rd_18, rn_18, rm_18, ra_18, im_18, kd_18, bs_18, st_18, cd_18, rg_18]
  rw [q0, q1, q2, q3, q4, q5]
  clear q0 q1 q2 q3 q4 q5
  exact ⟨by omega, by omega, by omega, by omega, by omega, by omega, by omega, by omega, by omega, by omega⟩
theorem cut_51 {y0 st rn y1 rd y2 : Int} (b0 : 0 ≤ y0 ∧ y0 ≤ 1) (b1 : 0 ≤ st ∧ st ≤ 1) (b2 : 0 ≤ rn ∧ rn ≤ 15) (b3 : 0 ≤ y1 ∧ y1 ≤ 7) (b4 : 0 ≤ rd ∧ rd ≤ 15) (b5 : 0 ≤ y2 ∧ y2 ≤ 255) (w : Int) (hw : w = 4028628992 + (y0 * 67108864 + st * 1048576 + rn * 65536 + y1 * 4096 + rd * 256 + y2)) : w / 256 % 16 = rd ∧ w / 65536 % 16 = rn ∧ w / 67108864 % 2 = y0 ∧ w / 4096 % 8 = y1 ∧ w % 256 = y2 ∧ w / 1048576 % 2 = st := by
  have e1 : w / 65536 = 61472 + y0 * 1024 + st * 16 + rn := by omega
  have e2 : w % 65536 = 0 + y1 * 4096 + rd * 256 + y2 := by omega
  rw [half_256_16 w, half_65536_16 w, half_67108864_2 w, half_4096_8 w, half_1_256 w, half_1048576_2 w, e1, e2]
  clear e1 e2 hw
  exact ⟨by omega, by omega, by omega, by omega, by omega, by omega⟩
theorem back_51 {f rd rn rm ra im kd bs st cd rg : Int} (hf : f = 51) (h : ((0 ≤ rd ∧ rd ≤ 12 ∨ rd = 14)) ∧ ((0 ≤ rn ∧ rn ≤ 12 ∨ rn = 14)) ∧ (rm = 0) ∧ (ra = 0) ∧ (0 ≤ im ∧ im ≤ 4095) ∧ (kd = 0) ∧ (bs = 0) ∧ (0 ≤ st ∧ st ≤ 1) ∧ (cd = 0) ∧ (rg = 0)) (w : Int) (hw : w = 4028628992 + (im / 2048 * 67108864 + st * 1048576 + rn * 65536 + im / 256 % 8 * 4096 + rd * 256 + im % 256)) : rdOf f 18 w = rd ∧ rnOf f 18 w = rn ∧ rmOf f 18 w = rm ∧ raOf f 18 w = ra ∧ imOf f 18 w = im ∧ kdOf f 18 w = kd ∧ bsOf f 18 w = bs ∧ stOf f 18 w = st ∧ cdOf f 18 w = cd ∧ rgOf f 18 w = rg := by
  obtain ⟨h1, h2, h3, h4, h5, h6, h7, h8, h9, h10⟩ := h
  obtain ⟨q0, q1, q2, q3, q4, q5⟩ := cut_51 (y0 := im / 2048) (y1 := im / 256 % 8) (y2 := im % 256) (by omega) (by omega) (by omega) (by omega) (by omega) (by omega) w hw
  clear hw
  rw [rd_18, rn_18, rm_18, ra_18, im_18, kd_18, bs_18, st_18, cd_18, rg_18]
  rw [q0, q1, q2, q3, q4, q5]
  clear q0 q1 q2 q3 q4 q5
  exact ⟨by omega, by omega, by omega, by omega, by omega, by omega, by omega, by omega, by omega, by omega⟩
theorem cut_52 {y0 st rn y1 rd y2 : Int} (b0 : 0 ≤ y0 ∧ y0 ≤ 1) (b1 : 0 ≤ st ∧ st ≤ 1) (b2 : 0 ≤ rn ∧ rn ≤ 15) (b3 : 0 ≤ y1 ∧ y1 ≤ 7) (b4 : 0 ≤ rd ∧ rd ≤ 15) (b5 : 0 ≤ y2 ∧ y2 ≤ 255) (w : Int) (hw : w = 4030726144 + (y0 * 67108864 + st * 1048576 + rn * 65536 + y1 * 4096 + rd * 256 + y2)) : w / 256 % 16 = rd ∧ w / 65536 % 16 = rn ∧ w / 67108864 % 2 = y0 ∧ w / 4096 % 8 = y1 ∧ w % 256 = y2 ∧ w / 1048576 % 2 = st := by
  have e1 : w / 65536 = 61504 + y0 * 1024 + st * 16 + rn := by omega
  have e2 : w % 65536 = 0 + y1 * 4096 + rd * 256 + y2 := by omega
  rw [half_256_16 w, half_65536_16 w, half_67108864_2 w, half_4096_8 w, half_1_256 w, half_1048576_2 w, e1, e2]
  clear e1 e2 hw
  exact ⟨by omega, by omega, by omega, by omega, by omega, by omega⟩
theorem back_52 {f rd rn rm ra im kd bs st cd rg : Int} (hf : f = 52) (h : ((0 ≤ rd ∧ rd ≤ 12 ∨ rd = 14)) ∧ ((0 ≤ rn ∧ rn ≤ 12 ∨ rn = 14)) ∧ (rm = 0) ∧ (ra = 0) ∧ (0 ≤ im ∧ im ≤ 4095) ∧ (kd = 0) ∧ (bs = 0) ∧ (0 ≤ st ∧ st ≤ 1) ∧ (cd = 0) ∧ (rg = 0)) (w : Int) (hw : w = 4030726144 + (im / 2048 * 67108864 + st * 1048576 + rn * 65536 + im / 256 % 8 * 4096 + rd * 256 + im % 256)) : rdOf f 18 w = rd ∧ rnOf f 18 w = rn ∧ rmOf f 18 w = rm ∧ raOf f 18 w = ra ∧ imOf f 18 w = im ∧ kdOf f 18 w = kd ∧ bsOf f 18 w = bs ∧ stOf f 18 w = st ∧ cdOf f 18 w = cd ∧ rgOf f 18 w = rg := by
  obtain ⟨h1, h2, h3, h4, h5, h6, h7, h8, h9, h10⟩ := h
  obtain ⟨q0, q1, q2, q3, q4, q5⟩ := cut_52 (y0 := im / 2048) (y1 := im / 256 % 8) (y2 := im % 256) (by omega) (by omega) (by omega) (by omega) (by omega) (by omega) w hw
  clear hw
  rw [rd_18, rn_18, rm_18, ra_18, im_18, kd_18, bs_18, st_18, cd_18, rg_18]
  rw [q0, q1, q2, q3, q4, q5]
  clear q0 q1 q2 q3 q4 q5
  exact ⟨by omega, by omega, by omega, by omega, by omega, by omega, by omega, by omega, by omega, by omega⟩
theorem cut_53 {y0 st rn y1 rd y2 : Int} (b0 : 0 ≤ y0 ∧ y0 ≤ 1) (b1 : 0 ≤ st ∧ st ≤ 1) (b2 : 0 ≤ rn ∧ rn ≤ 15) (b3 : 0 ≤ y1 ∧ y1 ≤ 7) (b4 : 0 ≤ rd ∧ rd ≤ 15) (b5 : 0 ≤ y2 ∧ y2 ≤ 255) (w : Int) (hw : w = 4032823296 + (y0 * 67108864 + st * 1048576 + rn * 65536 + y1 * 4096 + rd * 256 + y2)) : w / 256 % 16 = rd ∧ w / 65536 % 16 = rn ∧ w / 67108864 % 2 = y0 ∧ w / 4096 % 8 = y1 ∧ w % 256 = y2 ∧ w / 1048576 % 2 = st := by
  have e1 : w / 65536 = 61536 + y0 * 1024 + st * 16 + rn := by omega
  have e2 : w % 65536 = 0 + y1 * 4096 + rd * 256 + y2 := by omega
  rw [half_256_16 w, half_65536_16 w, half_67108864_2 w, half_4096_8 w, half_1_256 w, half_1048576_2 w, e1, e2]
  clear e1 e2 hw
  exact ⟨by omega, by omega, by omega, by omega, by omega, by omega⟩
theorem back_53 {f rd rn rm ra im kd bs st cd rg : Int} (hf : f = 53) (h : ((0 ≤ rd ∧ rd ≤ 12 ∨ rd = 14)) ∧ ((0 ≤ rn ∧ rn ≤ 12 ∨ rn = 14)) ∧ (rm = 0) ∧ (ra = 0) ∧ (0 ≤ im ∧ im ≤ 4095) ∧ (kd = 0) ∧ (bs = 0) ∧ (0 ≤ st ∧ st ≤ 1) ∧ (cd = 0) ∧ (rg = 0)) (w : Int) (hw : w = 4032823296 + (im / 2048 * 67108864 + st * 1048576 + rn * 65536 + im / 256 % 8 * 4096 + rd * 256 + im % 256)) : rdOf f 18 w = rd ∧ rnOf f 18 w = rn ∧ rmOf f 18 w = rm ∧ raOf f 18 w = ra ∧ imOf f 18 w = im ∧ kdOf f 18 w = kd ∧ bsOf f 18 w = bs ∧ stOf f 18 w = st ∧ cdOf f 18 w = cd ∧ rgOf f 18 w = rg := by
  obtain ⟨h1, h2, h3, h4, h5, h6, h7, h8, h9, h10⟩ := h
  obtain ⟨q0, q1, q2, q3, q4, q5⟩ := cut_53 (y0 := im / 2048) (y1 := im / 256 % 8) (y2 := im % 256) (by omega) (by omega) (by omega) (by omega) (by omega) (by omega) w hw
  clear hw
  rw [rd_18, rn_18, rm_18, ra_18, im_18, kd_18, bs_18, st_18, cd_18, rg_18]
  rw [q0, q1, q2, q3, q4, q5]
  clear q0 q1 q2 q3 q4 q5
  exact ⟨by omega, by omega, by omega, by omega, by omega, by omega, by omega, by omega, by omega, by omega⟩
theorem cut_54 {y0 st rn y1 rd y2 : Int} (b0 : 0 ≤ y0 ∧ y0 ≤ 1) (b1 : 0 ≤ st ∧ st ≤ 1) (b2 : 0 ≤ rn ∧ rn ≤ 15) (b3 : 0 ≤ y1 ∧ y1 ≤ 7) (b4 : 0 ≤ rd ∧ rd ≤ 15) (b5 : 0 ≤ y2 ∧ y2 ≤ 255) (w : Int) (hw : w = 4034920448 + (y0 * 67108864 + st * 1048576 + rn * 65536 + y1 * 4096 + rd * 256 + y2)) : w / 256 % 16 = rd ∧ w / 65536 % 16 = rn ∧ w / 67108864 % 2 = y0 ∧ w / 4096 % 8 = y1 ∧ w % 256 = y2 ∧ w / 1048576 % 2 = st := by
  have e1 : w / 65536 = 61568 + y0 * 1024 + st * 16 + rn := by omega
  have e2 : w % 65536 = 0 + y1 * 4096 + rd * 256 + y2 := by omega
  rw [half_256_16 w, half_65536_16 w, half_67108864_2 w, half_4096_8 w, half_1_256 w, half_1048576_2 w, e1, e2]
  clear e1 e2 hw
  exact ⟨by omega, by omega, by omega, by omega, by omega, by omega⟩
theorem back_54 {f rd rn rm ra im kd bs st cd rg : Int} (hf : f = 54) (h : ((0 ≤ rd ∧ rd ≤ 12 ∨ rd = 14)) ∧ ((0 ≤ rn ∧ rn ≤ 12 ∨ rn = 14)) ∧ (rm = 0) ∧ (ra = 0) ∧ (0 ≤ im ∧ im ≤ 4095) ∧ (kd = 0) ∧ (bs = 0) ∧ (0 ≤ st ∧ st ≤ 1) ∧ (cd = 0) ∧ (rg = 0)) (w : Int) (hw : w = 4034920448 + (im / 2048 * 67108864 + st * 1048576 + rn * 65536 + im / 256 % 8 * 4096 + rd * 256 + im % 256)) : rdOf f 18 w = rd ∧ rnOf f 18 w = rn ∧ rmOf f 18 w = rm ∧ raOf f 18 w = ra ∧ imOf f 18 w = im ∧ kdOf f 18 w = kd ∧ bsOf f 18 w = bs ∧ stOf f 18 w = st ∧ cdOf f 18 w = cd ∧ rgOf f 18 w = rg := by
  obtain ⟨h1, h2, h3, h4, h5, h6, h7, h8, h9, h10⟩ := h
  obtain ⟨q0, q1, q2, q3, q4, q5⟩ := cut_54 (y0 := im / 2048) (y1 := im / 256 % 8) (y2 := im % 256) (by omega) (by omega) (by omega) (by omega) (by omega) (by omega) w hw
  clear hw
  rw [rd_18, rn_18, rm_18, ra_18, im_18, kd_18, bs_18, st_18, cd_18, rg_18]
  rw [q0, q1, q2, q3, q4, q5]
  clear q0 q1 q2 q3 q4 q5
  exact ⟨by omega, by omega, by omega, by omega, by omega, by omega, by omega, by omega, by omega, by omega⟩
theorem cut_55 {y0 st rn y1 rd y2 : Int} (b0 : 0 ≤ y0 ∧ y0 ≤ 1) (b1 : 0 ≤ st ∧ st ≤ 1) (b2 : 0 ≤ rn ∧ rn ≤ 15) (b3 : 0 ≤ y1 ∧ y1 ≤ 7) (b4 : 0 ≤ rd ∧ rd ≤ 15) (b5 : 0 ≤ y2 ∧ y2 ≤ 255) (w : Int) (hw : w = 4043309056 + (y0 * 67108864 + st * 1048576 + rn * 65536 + y1 * 4096 + rd * 256 + y2)) : w / 256 % 16 = rd ∧ w / 65536 % 16 = rn ∧ w / 67108864 % 2 = y0 ∧ w / 4096 % 8 = y1 ∧ w % 256 = y2 ∧ w / 1048576 % 2 = st := by
  have e1 : w / 65536 = 61696 + y0 * 1024 + st * 16 + rn := by omega
  have e2 : w % 65536 = 0 + y1 * 4096 + rd * 256 + y2 := by omega
  rw [half_256_16 w, half_65536_16 w, half_67108864_2 w, half_4096_8 w, half_1_256 w, half_1048576_2 w, e1, e2]
  clear e1 e2 hw
  exact ⟨by omega, by omega, by omega, by omega, by omega, by omega⟩
theorem back_55 {f rd rn rm ra im kd bs st cd rg : Int} (hf : f = 55) (h : ((0 ≤ rd ∧ rd ≤ 12 ∨ rd = 14)) ∧ ((0 ≤ rn ∧ rn ≤ 12 ∨ rn = 14)) ∧ (rm = 0) ∧ (ra = 0) ∧ (0 ≤ im ∧ im ≤ 4095) ∧ (kd = 0) ∧ (bs = 0) ∧ (0 ≤ st ∧ st ≤ 1) ∧ (cd = 0) ∧ (rg = 0)) (w : Int) (hw : w = 4043309056 + (im / 2048 * 67108864 + st * 1048576 + rn * 65536 + im / 256 % 8 * 4096 + rd * 256 + im % 256)) : rdOf f 18 w = rd ∧ rnOf f 18 w = rn ∧ rmOf f 18 w = rm ∧ raOf f 18 w = ra ∧ imOf f 18 w = im ∧ kdOf f 18 w = kd ∧ bsOf f 18 w = bs ∧ stOf f 18 w = st ∧ cdOf f 18 w = cd ∧ rgOf f 18 w = rg := by
  obtain ⟨h1, h2, h3, h4, h5, h6, h7, h8, h9, h10⟩ := h
  obtain ⟨q0, q1, q2, q3, q4, q5⟩ := cut_55 (y0 := im / 2048) (y1 := im / 256 % 8) (y2 := im % 256) (by omega) (by omega) (by omega) (by omega) (by omega) (by omega) w hw
  clear hw
  rw [rd_18, rn_18, rm_18, ra_18, im_18, kd_18, bs_18, st_18, cd_18, rg_18]
  rw [q0, q1, q2, q3, q4, q5]
  clear q0 q1 q2 q3 q4 q5
  exact ⟨by omega, by omega, by omega, by omega, by omega, by omega, by omega, by omega, by omega, by omega⟩
theorem cut_56 {y0 st rn y1 rd y2 : Int} (b0 : 0 ≤ y0 ∧ y0 ≤ 1) (b1 : 0 ≤ st ∧ st ≤ 1) (b2 : 0 ≤ rn ∧ rn ≤ 15) (b3 : 0 ≤ y1 ∧ y1 ≤ 7) (b4 : 0 ≤ rd ∧ rd ≤ 15) (b5 : 0 ≤ y2 ∧ y2 ≤ 255) (w : Int) (hw : w = 4047503360 + (y0 * 67108864 + st * 1048576 + rn * 65536 + y1 * 4096 + rd * 256 + y2)) : w / 256 % 16 = rd ∧ w / 65536 % 16 = rn ∧ w / 67108864 % 2 = y0 ∧ w / 4096 % 8 = y1 ∧ w % 256 = y2 ∧ w / 1048576 % 2 = st := by
  have e1 : w / 65536 = 61760 + y0 * 1024 + st * 16 + rn := by omega
  have e2 : w % 65536 = 0 + y1 * 4096 + rd * 256 + y2 := by omega
  rw [half_256_16 w, half_65536_16 w, half_67108864_2 w, half_4096_8 w, half_1_256 w, half_1048576_2 w, e1, e2]
  clear e1 e2 hw
  exact ⟨by omega, by omega, by omega, by omega, by omega, by omega⟩
theorem back_56 {f rd rn rm ra im kd bs st cd rg : Int} (hf : f = 56) (h : ((0 ≤ rd ∧ rd ≤ 12 ∨ rd = 14)) ∧ ((0 ≤ rn ∧ rn ≤ 12 ∨ rn = 14)) ∧ (rm = 0) ∧ (ra = 0) ∧ (0 ≤ im ∧ im ≤ 4095) ∧ (kd = 0) ∧ (bs = 0) ∧ (0 ≤ st ∧ st ≤ 1) ∧ (cd = 0) ∧ (rg = 0)) (w : Int) (hw : w = 4047503360 + (im / 2048 * 67108864 + st * 1048576 + rn * 65536 + im / 256 % 8 * 4096 + rd * 256 + im % 256)) : rdOf f 18 w = rd ∧ rnOf f 18 w = rn ∧ rmOf f 18 w = rm ∧ raOf f 18 w = ra ∧ imOf f 18 w = im ∧ kdOf f 18 w = kd ∧ bsOf f 18 w = bs ∧ stOf f 18 w = st ∧ cdOf f 18 w = cd ∧ rgOf f 18 w = rg := by
  obtain ⟨h1, h2, h3, h4, h5, h6, h7, h8, h9, h10⟩ := h
  obtain ⟨q0, q1, q2, q3, q4, q5⟩ := cut_56 (y0 := im / 2048) (y1 := im / 256 % 8) (y2 := im % 256) (by omega) (by omega) (by omega) (by omega) (by omega) (by omega) w hw
  clear hw
  rw [rd_18, rn_18, rm_18, ra_18, im_18, kd_18, bs_18, st_18, cd_18, rg_18]
  rw [q0, q1, q2, q3, q4, q5]
  clear q0 q1 q2 q3 q4 q5
  exact ⟨by omega, by omega, by omega, by omega, by omega, by omega, by omega, by omega, by omega, by omega⟩
theorem cut_57 {y0 st rn y1 rd y2 : Int} (b0 : 0 ≤ y0 ∧ y0 ≤ 1) (b1 : 0 ≤ st ∧ st ≤ 1) (b2 : 0 ≤ rn ∧ rn ≤ 15) (b3 : 0 ≤ y1 ∧ y1 ≤ 7) (b4 : 0 ≤ rd ∧ rd ≤ 15) (b5 : 0 ≤ y2 ∧ y2 ≤ 255) (w : Int) (hw : w = 4049600512 + (y0 * 67108864 + st * 1048576 + rn * 65536 + y1 * 4096 + rd * 256 + y2)) : w / 256 % 16 = rd ∧ w / 65536 % 16 = rn ∧ w / 67108864 % 2 = y0 ∧ w / 4096 % 8 = y1 ∧ w % 256 = y2 ∧ w / 1048576 % 2 = st := by
  have e1 : w / 65536 = 61792 + y0 * 1024 + st * 16 + rn := by omega
  have e2 : w % 65536 = 0 + y1 * 4096 + rd * 256 + y2 := by omega
  rw [half_256_16 w, half_65536_16 w, half_67108864_2 w, half_4096_8 w, half_1_256 w, half_1048576_2 w, e1, e2]
  clear e1 e2 hw
  exact ⟨by omega, by omega, by omega, by omega, by omega, by omega⟩
theorem back_57 {f rd rn rm ra im kd bs st cd rg : Int} (hf : f = 57) (h : ((0 ≤ rd ∧ rd ≤ 12 ∨ rd = 14)) ∧ ((0 ≤ rn ∧ rn ≤ 12 ∨ rn = 14)) ∧ (rm = 0) ∧ (ra = 0) ∧ (0 ≤ im ∧ im ≤ 4095) ∧ (kd = 0) ∧ (bs = 0) ∧ (0 ≤ st ∧ st ≤ 1) ∧ (cd = 0) ∧ (rg = 0)) (w : Int) (hw : w = 4049600512 + (im / 2048 * 67108864 + st * 1048576 + rn * 65536 + im / 256 % 8 * 4096 + rd * 256 + im % 256)) : rdOf f 18 w = rd ∧ rnOf f 18 w = rn ∧ rmOf f 18 w = rm ∧ raOf f 18 w = ra ∧ imOf f 18 w = im ∧ kdOf f 18 w = kd ∧ bsOf f 18 w = bs ∧ stOf f 18 w = st ∧ cdOf f 18 w = cd ∧ rgOf f 18 w = rg := by
  obtain ⟨h1, h2, h3, h4, h5, h6, h7, h8, h9, h10⟩ := h
  obtain ⟨q0, q1, q2, q3, q4, q5⟩ := cut_57 (y0 := im / 2048) (y1 := im / 256 % 8) (y2 := im % 256) (by omega) (by omega) (by omega) (by omega) (by omega) (by omega) w hw
  clear hw
  rw [rd_18, rn_18, rm_18, ra_18, im_18, kd_18, bs_18, st_18, cd_18, rg_18]
  rw [q0, q1, q2, q3, q4, q5]
  clear q0 q1 q2 q3 q4 q5
  exact ⟨by omega, by omega, by omega, by omega, by omega, by omega, by omega, by omega, by omega, by omega⟩
theorem cut_58 {y0 st rn y1 rd y2 : Int} (b0 : 0 ≤ y0 ∧ y0 ≤ 1) (b1 : 0 ≤ st ∧ st ≤ 1) (b2 : 0 ≤ rn ∧ rn ≤ 15) (b3 : 0 ≤ y1 ∧ y1 ≤ 7) (b4 : 0 ≤ rd ∧ rd ≤ 15) (b5 : 0 ≤ y2 ∧ y2 ≤ 255) (w : Int) (hw : w = 4053794816 + (y0 * 67108864 + st * 1048576 + rn * 65536 + y1 * 4096 + rd * 256 + y2)) : w / 256 % 16 = rd ∧ w / 65536 % 16 = rn ∧ w / 67108864 % 2 = y0 ∧ w / 4096 % 8 = y1 ∧ w % 256 = y2 ∧ w / 1048576 % 2 = st := by
  have e1 : w / 65536 = 61856 + y0 * 1024 + st * 16 + rn := by omega
  have e2 : w % 65536 = 0 + y1 * 4096 + rd * 256 + y2 := by omega
  rw [half_256_16 w, half_65536_16 w, half_67108864_2 w, half_4096_8 w, half_1_256 w, half_1048576_2 w, e1, e2]
  clear e1 e2 hw
  exact ⟨by omega, by omega, by omega, by omega, by omega, by omega⟩
theorem back_58 {f rd rn rm ra im kd bs st cd rg : Int} (hf : f = 58) (h : ((0 ≤ rd ∧ rd ≤ 12 ∨ rd = 14)) ∧ ((0 ≤ rn ∧ rn ≤ 12 ∨ rn = 14)) ∧ (rm = 0) ∧ (ra = 0) ∧ (0 ≤ im ∧ im ≤ 4095) ∧ (kd = 0) ∧ (bs = 0) ∧ (0 ≤ st ∧ st ≤ 1) ∧ (cd = 0) ∧ (rg = 0)) (w : Int) (hw : w = 4053794816 + (im / 2048 * 67108864 + st * 1048576 + rn * 65536 + im / 256 % 8 * 4096 + rd * 256 + im % 256)) : rdOf f 18 w = rd ∧ rnOf f 18 w = rn ∧ rmOf f 18 w = rm ∧ raOf f 18 w = ra ∧ imOf f 18 w = im ∧ kdOf f 18 w = kd ∧ bsOf f 18 w = bs ∧ stOf f 18 w = st ∧ cdOf f 18 w = cd ∧ rgOf f 18 w = rg := by
  obtain ⟨h1, h2, h3, h4, h5, h6, h7, h8, h9, h10⟩ := h
  obtain ⟨q0, q1, q2, q3, q4, q5⟩ := cut_58 (y0 := im / 2048) (y1 := im / 256 % 8) (y2 := im % 256) (by omega) (by omega) (by omega) (by omega) (by omega) (by omega) w hw
  clear hw
  rw [rd_18, rn_18, rm_18, ra_18, im_18, kd_18, bs_18, st_18, cd_18, rg_18]
  rw [q0, q1, q2, q3, q4, q5]
  clear q0 q1 q2 q3 q4 q5
  exact ⟨by omega, by omega, by omega, by omega, by omega, by omega, by omega, by omega, by omega, by omega⟩
theorem cut_59 {y0 st rn y1 rd y2 : Int} (b0 : 0 ≤ y0 ∧ y0 ≤ 1) (b1 : 0 ≤ st ∧ st ≤ 1) (b2 : 0 ≤ rn ∧ rn ≤ 15) (b3 : 0 ≤ y1 ∧ y1 ≤ 7) (b4 : 0 ≤ rd ∧ rd ≤ 15) (b5 : 0 ≤ y2 ∧ y2 ≤ 255) (w : Int) (hw : w = 4055891968 + (y0 * 67108864 + st * 1048576 + rn * 65536 + y1 * 4096 + rd * 256 + y2)) : w / 256 % 16 = rd ∧ w / 65536 % 16 = rn ∧ w / 67108864 % 2 = y0 ∧ w / 4096 % 8 = y1 ∧ w % 256 = y2 ∧ w / 1048576 % 2 = st := by
  have e1 : w / 65536 = 61888 + y0 * 1024 + st * 16 + rn := by omega
  have e2 : w % 65536 = 0 + y1 * 4096 + rd * 256 + y2 := by omega
  rw [half_256_16 w, half_65536_16 w, half_67108864_2 w, half_4096_8 w, half_1_256 w, half_1048576_2 w, e1, e2]
  clear e1 e2 hw
  exact ⟨by omega, by omega, by omega, by omega, by omega, by omega⟩
theorem back_59 {f rd rn rm ra im kd bs st cd rg : Int} (hf : f = 59) (h : ((0 ≤ rd ∧ rd ≤ 12 ∨ rd = 14)) ∧ ((0 ≤ rn ∧ rn ≤ 12 ∨ rn = 14)) ∧ (rm = 0) ∧ (ra = 0) ∧ (0 ≤ im ∧ im ≤ 4095) ∧ (kd = 0) ∧ (bs = 0) ∧ (0 ≤ st ∧ st ≤ 1) ∧ (cd = 0) ∧ (rg = 0)) (w : Int) (hw : w = 4055891968 + (im / 2048 * 67108864 + st * 1048576 + rn * 65536 + im / 256 % 8 * 4096 + rd * 256 + im % 256)) : rdOf f 18 w = rd ∧ rnOf f 18 w = rn ∧ rmOf f 18 w = rm ∧ raOf f 18 w = ra ∧ imOf f 18 w = im ∧ kdOf f 18 w = kd ∧ bsOf f 18 w = bs ∧ stOf f 18 w = st ∧ cdOf f 18 w = cd ∧ rgOf f 18 w = rg := by
  obtain ⟨h1, h2, h3, h4, h5, h6, h7, h8, h9, h10⟩ := h
  obtain ⟨q0, q1, q2, q3, q4, q5⟩ := cut_59 (y0 := im / 2048) (y1 := im / 256 % 8) (y2 := im % 256) (by omega) (by omega) (by omega) (by omega) (by omega) (by omega) w hw
  clear hw
  rw [rd_18, rn_18, rm_18, ra_18, im_18, kd_18, bs_18, st_18, cd_18, rg_18]
  rw [q0, q1, q2, q3, q4, q5]
  clear q0 q1 q2 q3 q4 q5
  exact ⟨by omega, by omega, by omega, by omega, by omega, by omega, by omega, by omega, by omega, by omega⟩
theorem cut_60 {y0 st rn y1 rd y2 : Int} (b0 : 0 ≤ y0 ∧ y0 ≤ 1) (b1 : 0 ≤ st ∧ st ≤ 1) (b2 : 0 ≤ rn ∧ rn ≤ 0) (b3 : 0 ≤ y1 ∧ y1 ≤ 7) (b4 : 0 ≤ rd ∧ rd ≤ 15) (b5 : 0 ≤ y2 ∧ y2 ≤ 255) (w : Int) (hw : w = 4031709184 + (y0 * 67108864 + st * 1048576 + rn * 65536 + y1 * 4096 + rd * 256 + y2)) : w / 256 % 16 = rd ∧ w / 67108864 % 2 = y0 ∧ w / 4096 % 8 = y1 ∧ w % 256 = y2 ∧ w / 1048576 % 2 = st := by
  have e1 : w / 65536 = 61519 + y0 * 1024 + st * 16 + rn := by omega
  have e2 : w % 65536 = 0 + y1 * 4096 + rd * 256 + y2 := by omega
  rw [half_256_16 w, half_67108864_2 w, half_4096_8 w, half_1_256 w, half_1048576_2 w, e1, e2]
  clear e1 e2 hw
  exact ⟨by omega, by omega, by omega, by omega, by omega⟩
theorem back_60 {f rd rn rm ra im kd bs st cd rg : Int} (hf : f = 60) (h : ((0 ≤ rd ∧ rd ≤ 12 ∨ rd = 14)) ∧ (rn = 0) ∧ (rm = 0) ∧ (ra = 0) ∧ (0 ≤ im ∧ im ≤ 4095) ∧ (kd = 0) ∧ (bs = 0) ∧ (0 ≤ st ∧ st ≤ 1) ∧ (cd = 0) ∧ (rg = 0)) (w : Int) (hw : w = 4031709184 + (im / 2048 * 67108864 + st * 1048576 + rn * 65536 + im / 256 % 8 * 4096 + rd * 256 + im % 256)) : rdOf f 19 w = rd ∧ rnOf f 19 w = rn ∧ rmOf f 19 w = rm ∧ raOf f 19 w = ra ∧ imOf f 19 w = im ∧ kdOf f 19 w = kd ∧ bsOf f 19 w = bs ∧ stOf f 19 w = st ∧ cdOf f 19 w = cd ∧ rgOf f 19 w = rg := by
  obtain ⟨h1, h2, h3, h4, h5, h6, h7, h8, h9, h10⟩ := h
  obtain ⟨q0, q1, q2, q3, q4⟩ := cut_60 (y0 := im / 2048) (y1 := im / 256 % 8) (y2 := im % 256) (by omega) (by omega) (by omega) (by omega) (by omega) (by omega) w hw
  clear hw
  rw [rd_19, rn_19, rm_19, ra_19, im_19, kd_19, bs_19, st_19, cd_19, rg_19]
  rw [q0, q1, q2, q3, q4]
  clear q0 q1 q2 q3 q4
  exact ⟨by omega, by omega, by omega, by omega, by omega, by omega, by omega, by omega, by omega, by omega⟩
theorem cut_61 {y0 st rn y1 rd y2 : Int} (b0 : 0 ≤ y0 ∧ y0 ≤ 1) (b1 : 0 ≤ st ∧ st ≤ 1) (b2 : 0 ≤ rn ∧ rn ≤ 0) (b3 : 0 ≤ y1 ∧ y1 ≤ 7) (b4 : 0 ≤ rd ∧ rd ≤ 15) (b5 : 0 ≤ y2 ∧ y2 ≤ 255) (w : Int) (hw : w = 4033806336 + (y0 * 67108864 + st * 1048576 + rn * 65536 + y1 * 4096 + rd * 256 + y2)) : w / 256 % 16 = rd ∧ w / 67108864 % 2 = y0 ∧ w / 4096 % 8 = y1 ∧ w % 256 = y2 ∧ w / 1048576 % 2 = st := by
  have e1 : w / 65536 = 61551 + y0 * 1024 + st * 16 + rn := by omega
  have e2 : w % 65536 = 0 + y1 * 4096 + rd * 256 + y2 := by omega
  rw [half_256_16 w, half_67108864_2 w, half_4096_8 w, half_1_256 w, half_1048576_2 w, e1, e2]
  clear e1 e2 hw
  exact ⟨by omega, by omega, by omega, by omega, by omega⟩
theorem back_61 {f rd rn rm ra im kd bs st cd rg : Int} (hf : f = 61) (h : ((0 ≤ rd ∧ rd ≤ 12 ∨ rd = 14)) ∧ (rn = 0) ∧ (rm = 0) ∧ (ra = 0) ∧ (0 ≤ im ∧ im ≤ 4095) ∧ (kd = 0) ∧ (bs = 0) ∧ (0 ≤ st ∧ st ≤ 1) ∧ (cd = 0) ∧ (rg = 0)) (w : Int) (hw : w = 4033806336 + (im / 2048 * 67108864 + st * 1048576 + rn * 65536 + im / 256 % 8 * 4096 + rd * 256 + im % 256)) : rdOf f 19 w = rd ∧ rnOf f 19 w = rn ∧ rmOf f 19 w = rm ∧ raOf f 19 w = ra ∧ imOf f 19 w = im ∧ kdOf f 19 w = kd ∧ bsOf f 19 w = bs ∧ stOf f 19 w = st ∧ cdOf f 19 w = cd ∧ rgOf f 19 w = rg := by
  obtain ⟨h1, h2, h3, h4, h5, h6, h7, h8, h9, h10⟩ := h
  obtain ⟨q0, q1, q2, q3, q4⟩ := cut_61 (y0 := im / 2048) (y1 := im / 256 % 8) (y2 := im % 256) (by omega) (by omega) (by omega) (by omega) (by omega) (by omega) w hw
  clear hw
  rw [rd_19, rn_19, rm_19, ra_19, im_19, kd_19, bs_19, st_19, cd_19, rg_19]
  rw [q0, q1, q2, q3, q4]
  clear q0 q1 q2 q3 q4
  exact ⟨by omega, by omega, by omega, by omega, by omega, by omega, by omega, by omega, by omega, by omega⟩
theorem cut_62 {y0 st rn y1 rd y2 : Int} (b0 : 0 ≤ y0 ∧ y0 ≤ 1) (b1 : 0 ≤ st ∧ st ≤ 0) (b2 : 0 ≤ rn ∧ rn ≤ 15) (b3 : 0 ≤ y1 ∧ y1 ≤ 7) (b4 : 0 ≤ rd ∧ rd ≤ 0) (b5 : 0 ≤ y2 ∧ y2 ≤ 255) (w : Int) (hw : w = 4027584256 + (y0 * 67108864 + st * 1048576 + rn * 65536 + y1 * 4096 + rd * 256 + y2)) : w / 65536 % 16 = rn ∧ w / 67108864 % 2 = y0 ∧ w / 4096 % 8 = y1 ∧ w % 256 = y2 := by
  have e1 : w / 65536 = 61456 + y0 * 1024 + st * 16 + rn := by omega
  have e2 : w % 65536 = 3840 + y1 * 4096 + rd * 256 + y2 := by omega
  rw [half_65536_16 w, half_67108864_2 w, half_4096_8 w, half_1_256 w, e1, e2]
  clear e1 e2 hw
  exact ⟨by omega, by omega, by omega, by omega⟩
theorem back_62 {f rd rn rm ra im kd bs st cd rg : Int} (hf : f = 62) (h : (rd = 0) ∧ ((0 ≤ rn ∧ rn ≤ 12 ∨ rn = 14)) ∧ (rm = 0) ∧ (ra = 0) ∧ (0 ≤ im ∧ im ≤ 4095) ∧ (kd = 0) ∧ (bs = 0) ∧ (st = 0) ∧ (cd = 0) ∧ (rg = 0)) (w : Int) (hw : w = 4027584256 + (im / 2048 * 67108864 + st * 1048576 + rn * 65536 + im / 256 % 8 * 4096 + rd * 256 + im % 256)) : rdOf f 20 w = rd ∧ rnOf f 20 w = rn ∧ rmOf f 20 w = rm ∧ raOf f 20 w = ra ∧ imOf f 20 w = im ∧ kdOf f 20 w = kd ∧ bsOf f 20 w = bs ∧ stOf f 20 w = st ∧ cdOf f 20 w = cd ∧ rgOf f 20 w = rg := by
  obtain ⟨h1, h2, h3, h4, h5, h6, h7, h8, h9, h10⟩ := h
  obtain ⟨q0, q1, q2, q3⟩ := cut_62 (y0 := im / 2048) (y1 := im / 256 % 8) (y2 := im % 256) (by omega) (by omega) (by omega) (by omega) (by omega) (by omega) w hw
  clear hw
  rw [rd_20, rn_20, rm_20, ra_20, im_20, kd_20, bs_20, st_20, cd_20, rg_20]
  rw [q0, q1, q2, q3]
  clear q0 q1 q2 q3
  exact ⟨by omega, by omega, by omega, by omega, by omega, by omega, by omega, by omega, by omega, by omega⟩
theorem cut_63 {y0 st rn y1 rd y2 : Int} (b0 : 0 ≤ y0 ∧ y0 ≤ 1) (b1 : 0 ≤ st ∧ st ≤ 0) (b2 : 0 ≤ rn ∧ rn ≤ 15) (b3 : 0 ≤ y1 ∧ y1 ≤ 7) (b4 : 0 ≤ rd ∧ rd ≤ 0) (b5 : 0 ≤ y2 ∧ y2 ≤ 255) (w : Int) (hw : w = 4035972864 + (y0 * 67108864 + st * 1048576 + rn * 65536 + y1 * 4096 + rd * 256 + y2)) : w / 65536 % 16 = rn ∧ w / 67108864 % 2 = y0 ∧ w / 4096 % 8 = y1 ∧ w % 256 = y2 := by
  have e1 : w / 65536 = 61584 + y0 * 1024 + st * 16 + rn := by omega
  have e2 : w % 65536 = 3840 + y1 * 4096 + rd * 256 + y2 := by omega
  rw [half_65536_16 w, half_67108864_2 w, half_4096_8 w, half_1_256 w, e1, e2]
  clear e1 e2 hw
  exact ⟨by omega, by omega, by omega, by omega⟩
theorem back_63 {f rd rn rm ra im kd bs st cd rg : Int} (hf : f = 63) (h : (rd = 0) ∧ ((0 ≤ rn ∧ rn ≤ 12 ∨ rn = 14)) ∧ (rm = 0) ∧ (ra = 0) ∧ (0 ≤ im ∧ im ≤ 4095) ∧ (kd = 0) ∧ (bs = 0) ∧ (st = 0) ∧ (cd = 0) ∧ (rg = 0)) (w : Int) (hw : w = 4035972864 + (im / 2048 * 67108864 + st * 1048576 + rn * 65536 + im / 256 % 8 * 4096 + rd * 256 + im % 256)) : rdOf f 20 w = rd ∧ rnOf f 20 w = rn ∧ rmOf f 20 w = rm ∧ raOf f 20 w = ra ∧ imOf f 20 w = im ∧ kdOf f 20 w = kd ∧ bsOf f 20 w = bs ∧ stOf f 20 w = st ∧ cdOf f 20 w = cd ∧ rgOf f 20 w = rg := by
  obtain ⟨h1, h2, h3, h4, h5, h6, h7, h8, h9, h10⟩ := h
  obtain ⟨q0, q1, q2, q3⟩ := cut_63 (y0 := im / 2048) (y1 := im / 256 % 8) (y2 := im % 256) (by omega) (by omega) (by omega) (by omega) (by omega) (by omega) w hw
  clear hw
  rw [rd_20, rn_20, rm_20, ra_20, im_20, kd_20, bs_20, st_20, cd_20, rg_20]
  rw [q0, q1, q2, q3]
  clear q0 q1 q2 q3
  exact ⟨by omega, by omega, by omega, by omega, by omega, by omega, by omega, by omega, by omega, by omega⟩
theorem cut_64 {y0 st rn y1 rd y2 : Int} (b0 : 0 ≤ y0 ∧ y0 ≤ 1) (b1 : 0 ≤ st ∧ st ≤ 0) (b2 : 0 ≤ rn ∧ rn ≤ 15) (b3 : 0 ≤ y1 ∧ y1 ≤ 7) (b4 : 0 ≤ rd ∧ rd ≤ 0) (b5 : 0 ≤ y2 ∧ y2 ≤ 255) (w : Int) (hw : w = 4044361472 + (y0 * 67108864 + st * 1048576 + rn * 65536 + y1 * 4096 + rd * 256 + y2)) : w / 65536 % 16 = rn ∧ w / 67108864 % 2 = y0 ∧ w / 4096 % 8 = y1 ∧ w % 256 = y2 := by
  have e1 : w / 65536 = 61712 + y0 * 1024 + st * 16 + rn := by omega
  have e2 : w % 65536 = 3840 + y1 * 4096 + rd * 256 + y2 := by omega
  rw [half_65536_16 w, half_67108864_2 w, half_4096_8 w, half_1_256 w, e1, e2]
  clear e1 e2 hw
  exact ⟨by omega, by omega, by omega, by omega⟩
theorem back_64 {f rd rn rm ra im kd bs st cd rg : Int} (hf : f = 64) (h : (rd = 0) ∧ ((0 ≤ rn ∧ rn ≤ 12 ∨ rn = 14)) ∧ (rm = 0) ∧ (ra = 0) ∧ (0 ≤ im ∧ im ≤ 4095) ∧ (kd = 0) ∧ (bs = 0) ∧ (st = 0) ∧ (cd = 0) ∧ (rg = 0)) (w : Int) (hw : w = 4044361472 + (im / 2048 * 67108864 + st * 1048576 + rn * 65536 + im / 256 % 8 * 4096 + rd * 256 + im % 256)) : rdOf f 20 w = rd ∧ rnOf f 20 w = rn ∧ rmOf f 20 w = rm ∧ raOf f 20 w = ra ∧ imOf f 20 w = im ∧ kdOf f 20 w = kd ∧ bsOf f 20 w = bs ∧ stOf f 20 w = st ∧ cdOf f 20 w = cd ∧ rgOf f 20 w = rg := by
  obtain ⟨h1, h2, h3, h4, h5, h6, h7, h8, h9, h10⟩ := h
  obtain ⟨q0, q1, q2, q3⟩ := cut_64 (y0 := im / 2048) (y1 := im / 256 % 8) (y2 := im % 256) (by omega) (by omega) (by omega) (by omega) (by omega) (by omega) w hw
  clear hw
  rw [rd_20, rn_20, rm_20, ra_20, im_20, kd_20, bs_20, st_20, cd_20, rg_20]
  rw [q0, q1, q2, q3]
  clear q0 q1 q2 q3
  exact ⟨by omega, by omega, by omega, by omega, by omega, by omega, by omega, by omega, by omega, by omega⟩
theorem cut_65 {y0 st rn y1 rd y2 : Int} (b0 : 0 ≤ y0 ∧ y0 ≤ 1) (b1 : 0 ≤ st ∧ st ≤ 0) (b2 : 0 ≤ rn ∧ rn ≤ 15) (b3 : 0 ≤ y1 ∧ y1 ≤ 7) (b4 : 0 ≤ rd ∧ rd ≤ 0) (b5 : 0 ≤ y2 ∧ y2 ≤ 255) (w : Int) (hw : w = 4054847232 + (y0 * 67108864 + st * 1048576 + rn * 65536 + y1 * 4096 + rd * 256 + y2)) : w / 65536 % 16 = rn ∧ w / 67108864 % 2 = y0 ∧ w / 4096 % 8 = y1 ∧ w % 256 = y2 := by
  have e1 : w / 65536 = 61872 + y0 * 1024 + st * 16 + rn := by omega
  have e2 : w % 65536 = 3840 + y1 * 4096 + rd * 256 + y2 := by omega
  rw [half_65536_16 w, half_67108864_2 w, half_4096_8 w, half_1_256 w, e1, e2]
  clear e1 e2 hw
  exact ⟨by omega, by omega, by omega, by omega⟩
theorem back_65 {f rd rn rm ra im kd bs st cd rg : Int} (hf : f = 65) (h : (rd = 0) ∧ ((0 ≤ rn ∧ rn ≤ 12 ∨ rn = 14)) ∧ (rm = 0) ∧ (ra = 0) ∧ (0 ≤ im ∧ im ≤ 4095) ∧ (kd = 0) ∧ (bs = 0) ∧ (st = 0) ∧ (cd = 0) ∧ (rg = 0)) (w : Int) (hw : w = 4054847232 + (im / 2048 * 67108864 + st * 1048576 + rn * 65536 + im / 256 % 8 * 4096 + rd * 256 + im % 256)) : rdOf f 20 w = rd ∧ rnOf f 20 w = rn ∧ rmOf f 20 w = rm ∧ raOf f 20 w = ra ∧ imOf f 20 w = im ∧ kdOf f 20 w = kd ∧ bsOf f 20 w = bs ∧ stOf f 20 w = st ∧ cdOf f 20 w = cd ∧ rgOf f 20 w = rg := by
  obtain ⟨h1, h2, h3, h4, h5, h6, h7, h8, h9, h10⟩ := h
  obtain ⟨q0, q1, q2, q3⟩ := cut_65 (y0 := im / 2048) (y1 := im / 256 % 8) (y2 := im % 256) (by omega) (by omega) (by omega) (by omega) (by omega) (by omega) w hw
  clear hw
  rw [rd_20, rn_20, rm_20, ra_20, im_20, kd_20, bs_20, st_20, cd_20, rg_20]
  rw [q0, q1, q2, q3]
  clear q0 q1 q2 q3
  exact ⟨by omega, by omega, by omega, by omega, by omega, by omega, by omega, by omega, by omega, by omega⟩

end Go.Proofs.YtegefbndpkbooaaDoor.Code

/-! Fields out of words: forms 66 to 81. -/
set_option linter.unusedVariables false
set_option linter.unusedSimpArgs false
namespace Go.Proofs.YtegefbndpkbooaaDoor.Code
open Go.Proofs.YtegefbndpkbooaaDoor.Alu Go.Proofs.YtegefbndpkbooaaDoor.Imm Go.Proofs.YtegefbndpkbooaaDoor.Inst

theorem cut_66 {st rn y0 rd y1 kd rm : Int} (b0 : 0 ≤ st ∧ st ≤ 1) (b1 : 0 ≤ rn ∧ rn ≤ 15) (b2 : 0 ≤ y0 ∧ y0 ≤ 7) (b3 : 0 ≤ rd ∧ rd ≤ 15) (b4 : 0 ≤ y1 ∧ y1 ≤ 3) (b5 : 0 ≤ kd ∧ kd ≤ 3) (b6 : 0 ≤ rm ∧ rm ≤ 15) (w : Int) (hw : w = 3925868544 + (st * 1048576 + rn * 65536 + y0 * 4096 + rd * 256 + y1 * 64 + kd * 16 + rm)) : w / 256 % 16 = rd ∧ w / 65536 % 16 = rn ∧ w % 16 = rm ∧ w / 16 % 4 = kd ∧ w / 4096 % 8 = y0 ∧ w / 64 % 4 = y1 ∧ w / 1048576 % 2 = st := by
  have e1 : w / 65536 = 59904 + st * 16 + rn := by omega
  have e2 : w % 65536 = 0 + y0 * 4096 + rd * 256 + y1 * 64 + kd * 16 + rm := by omega
  rw [half_256_16 w, half_65536_16 w, half_1_16 w, half_16_4 w, half_4096_8 w, half_64_4 w, half_1048576_2 w, e1, e2]
  clear e1 e2 hw
  exact ⟨by omega, by omega, by omega, by omega, by omega, by omega, by omega⟩
theorem back_66 {f rd rn rm ra im kd bs st cd rg : Int} (hf : f = 66) (h : ((0 ≤ rd ∧ rd ≤ 12 ∨ rd = 14)) ∧ ((0 ≤ rn ∧ rn ≤ 12 ∨ rn = 14)) ∧ ((0 ≤ rm ∧ rm ≤ 12 ∨ rm = 14)) ∧ (ra = 0) ∧ (im = 0) ∧ (0 ≤ st ∧ st ≤ 1) ∧ (cd = 0) ∧ (rg = 0) ∧ ((kd = 0 ∧ 0 ≤ bs ∧ bs ≤ 31) ∨ ((kd = 1 ∨ kd = 2) ∧ 1 ≤ bs ∧ bs ≤ 32) ∨ (kd = 3 ∧ 1 ≤ bs ∧ bs ≤ 31))) (w : Int) (hw : w = 3925868544 + (st * 1048576 + rn * 65536 + bs / 4 % 8 * 4096 + rd * 256 + bs % 4 * 64 + kd * 16 + rm)) : rdOf f 21 w = rd ∧ rnOf f 21 w = rn ∧ rmOf f 21 w = rm ∧ raOf f 21 w = ra ∧ imOf f 21 w = im ∧ kdOf f 21 w = kd ∧ bsOf f 21 w = bs ∧ stOf f 21 w = st ∧ cdOf f 21 w = cd ∧ rgOf f 21 w = rg := by
  obtain ⟨h1, h2, h3, h4, h5, h6, h7, h8, h9⟩ := h
  obtain ⟨q0, q1, q2, q3, q4, q5, q6⟩ := cut_66 (y0 := bs / 4 % 8) (y1 := bs % 4) (by omega) (by omega) (by omega) (by omega) (by omega) (by omega) (by omega) w hw
  clear hw
  rw [rd_21, rn_21, rm_21, ra_21, im_21, kd_21, bs_21, st_21, cd_21, rg_21]
  rw [q0, q1, q2, q3, q4, q5, q6]
  clear q0 q1 q2 q3 q4 q5 q6
  exact ⟨by omega, by omega, by omega, by omega, by omega, by omega, by first | omega | (split <;> omega), by omega, by omega, by omega⟩
theorem cut_67 {st rn y0 rd y1 kd rm : Int} (b0 : 0 ≤ st ∧ st ≤ 1) (b1 : 0 ≤ rn ∧ rn ≤ 15) (b2 : 0 ≤ y0 ∧ y0 ≤ 7) (b3 : 0 ≤ rd ∧ rd ≤ 15) (b4 : 0 ≤ y1 ∧ y1 ≤ 3) (b5 : 0 ≤ kd ∧ kd ≤ 3) (b6 : 0 ≤ rm ∧ rm ≤ 15) (w : Int) (hw : w = 3927965696 + (st * 1048576 + rn * 65536 + y0 * 4096 + rd * 256 + y1 * 64 + kd * 16 + rm)) : w / 256 % 16 = rd ∧ w / 65536 % 16 = rn ∧ w % 16 = rm ∧ w / 16 % 4 = kd ∧ w / 4096 % 8 = y0 ∧ w / 64 % 4 = y1 ∧ w / 1048576 % 2 = st := by
  have e1 : w / 65536 = 59936 + st * 16 + rn := by omega
  have e2 : w % 65536 = 0 + y0 * 4096 + rd * 256 + y1 * 64 + kd * 16 + rm := by omega
  rw [half_256_16 w, half_65536_16 w, half_1_16 w, half_16_4 w, half_4096_8 w, half_64_4 w, half_1048576_2 w, e1, e2]
  clear e1 e2 hw
  exact ⟨by omega, by omega, by omega, by omega, by omega, by omega, by omega⟩
theorem back_67 {f rd rn rm ra im kd bs st cd rg : Int} (hf : f = 67) (h : ((0 ≤ rd ∧ rd ≤ 12 ∨ rd = 14)) ∧ ((0 ≤ rn ∧ rn ≤ 12 ∨ rn = 14)) ∧ ((0 ≤ rm ∧ rm ≤ 12 ∨ rm = 14)) ∧ (ra = 0) ∧ (im = 0) ∧ (0 ≤ st ∧ st ≤ 1) ∧ (cd = 0) ∧ (rg = 0) ∧ ((kd = 0 ∧ 0 ≤ bs ∧ bs ≤ 31) ∨ ((kd = 1 ∨ kd = 2) ∧ 1 ≤ bs ∧ bs ≤ 32) ∨ (kd = 3 ∧ 1 ≤ bs ∧ bs ≤ 31))) (w : Int) (hw : w = 3927965696 + (st * 1048576 + rn * 65536 + bs / 4 % 8 * 4096 + rd * 256 + bs % 4 * 64 + kd * 16 + rm)) : rdOf f 21 w = rd ∧ rnOf f 21 w = rn ∧ rmOf f 21 w = rm ∧ raOf f 21 w = ra ∧ imOf f 21 w = im ∧ kdOf f 21 w = kd ∧ bsOf f 21 w = bs ∧ stOf f 21 w = st ∧ cdOf f 21 w = cd ∧ rgOf f 21 w = rg := by
  obtain ⟨h1, h2, h3, h4, h5, h6, h7, h8, h9⟩ := h
  obtain ⟨q0, q1, q2, q3, q4, q5, q6⟩ := cut_67 (y0 := bs / 4 % 8) (y1 := bs % 4) (by omega) (by omega) (by omega) (by omega) (by omega) (by omega) (by omega) w hw
  clear hw
  rw [rd_21, rn_21, rm_21, ra_21, im_21, kd_21, bs_21, st_21, cd_21, rg_21]
  rw [q0, q1, q2, q3, q4, q5, q6]
  clear q0 q1 q2 q3 q4 q5 q6
  exact ⟨by omega, by omega, by omega, by omega, by omega, by omega, by first | omega | (split <;> omega), by omega, by omega, by omega⟩
theorem cut_68 {st rn y0 rd y1 kd rm : Int} (b0 : 0 ≤ st ∧ st ≤ 1) (b1 : 0 ≤ rn ∧ rn ≤ 15) (b2 : 0 ≤ y0 ∧ y0 ≤ 7) (b3 : 0 ≤ rd ∧ rd ≤ 15) (b4 : 0 ≤ y1 ∧ y1 ≤ 3) (b5 : 0 ≤ kd ∧ kd ≤ 3) (b6 : 0 ≤ rm ∧ rm ≤ 15) (w : Int) (hw : w = 3930062848 + (st * 1048576 + rn * 65536 + y0 * 4096 + rd * 256 + y1 * 64 + kd * 16 + rm)) : w / 256 % 16 = rd ∧ w / 65536 % 16 = rn ∧ w % 16 = rm ∧ w / 16 % 4 = kd ∧ w / 4096 % 8 = y0 ∧ w / 64 % 4 = y1 ∧ w / 1048576 % 2 = st := by
  have e1 : w / 65536 = 59968 + st * 16 + rn := by omega
  have e2 : w % 65536 = 0 + y0 * 4096 + rd * 256 + y1 * 64 + kd * 16 + rm := by omega
  rw [half_256_16 w, half_65536_16 w, half_1_16 w, half_16_4 w, half_4096_8 w, half_64_4 w, half_1048576_2 w, e1, e2]
  clear e1 e2 hw
  exact ⟨by omega, by omega, by omega, by omega, by omega, by omega, by omega⟩
theorem back_68 {f rd rn rm ra im kd bs st cd rg : Int} (hf : f = 68) (h : ((0 ≤ rd ∧ rd ≤ 12 ∨ rd = 14)) ∧ ((0 ≤ rn ∧ rn ≤ 12 ∨ rn = 14)) ∧ ((0 ≤ rm ∧ rm ≤ 12 ∨ rm = 14)) ∧ (ra = 0) ∧ (im = 0) ∧ (0 ≤ st ∧ st ≤ 1) ∧ (cd = 0) ∧ (rg = 0) ∧ ((kd = 0 ∧ 0 ≤ bs ∧ bs ≤ 31) ∨ ((kd = 1 ∨ kd = 2) ∧ 1 ≤ bs ∧ bs ≤ 32) ∨ (kd = 3 ∧ 1 ≤ bs ∧ bs ≤ 31))) (w : Int) (hw : w = 3930062848 + (st * 1048576 + rn * 65536 + bs / 4 % 8 * 4096 + rd * 256 + bs % 4 * 64 + kd * 16 + rm)) : rdOf f 21 w = rd ∧ rnOf f 21 w = rn ∧ rmOf f 21 w = rm ∧ raOf f 21 w = ra ∧ imOf f 21 w = im ∧ kdOf f 21 w = kd ∧ bsOf f 21 w = bs ∧ stOf f 21 w = st ∧ cdOf f 21 w = cd ∧ rgOf f 21 w = rg := by
  obtain ⟨h1, h2, h3, h4, h5, h6, h7, h8, h9⟩ := h
  obtain ⟨q0, q1, q2, q3, q4, q5, q6⟩ := cut_68 (y0 := bs / 4 % 8) (y1 := bs % 4) (by omega) (by omega) (by omega) (by omega) (by omega) (by omega) (by omega) w hw
  clear hw
  rw [rd_21, rn_21, rm_21, ra_21, im_21, kd_21, bs_21, st_21, cd_21, rg_21]
  rw [q0, q1, q2, q3, q4, q5, q6]
  clear q0 q1 q2 q3 q4 q5 q6
  exact ⟨by omega, by omega, by omega, by omega, by omega, by omega, by first | omega | (split <;> omega), by omega, by omega, by omega⟩
theorem cut_69 {st rn y0 rd y1 kd rm : Int} (b0 : 0 ≤ st ∧ st ≤ 1) (b1 : 0 ≤ rn ∧ rn ≤ 15) (b2 : 0 ≤ y0 ∧ y0 ≤ 7) (b3 : 0 ≤ rd ∧ rd ≤ 15) (b4 : 0 ≤ y1 ∧ y1 ≤ 3) (b5 : 0 ≤ kd ∧ kd ≤ 3) (b6 : 0 ≤ rm ∧ rm ≤ 15) (w : Int) (hw : w = 3932160000 + (st * 1048576 + rn * 65536 + y0 * 4096 + rd * 256 + y1 * 64 + kd * 16 + rm)) : w / 256 % 16 = rd ∧ w / 65536 % 16 = rn ∧ w % 16 = rm ∧ w / 16 % 4 = kd ∧ w / 4096 % 8 = y0 ∧ w / 64 % 4 = y1 ∧ w / 1048576 % 2 = st := by
  have e1 : w / 65536 = 60000 + st * 16 + rn := by omega
  have e2 : w % 65536 = 0 + y0 * 4096 + rd * 256 + y1 * 64 + kd * 16 + rm := by omega
  rw [half_256_16 w, half_65536_16 w, half_1_16 w, half_16_4 w, half_4096_8 w, half_64_4 w, half_1048576_2 w, e1, e2]
  clear e1 e2 hw
  exact ⟨by omega, by omega, by omega, by omega, by omega, by omega, by omega⟩
theorem back_69 {f rd rn rm ra im kd bs st cd rg : Int} (hf : f = 69) (h : ((0 ≤ rd ∧ rd ≤ 12 ∨ rd = 14)) ∧ ((0 ≤ rn ∧ rn ≤ 12 ∨ rn = 14)) ∧ ((0 ≤ rm ∧ rm ≤ 12 ∨ rm = 14)) ∧ (ra = 0) ∧ (im = 0) ∧ (0 ≤ st ∧ st ≤ 1) ∧ (cd = 0) ∧ (rg = 0) ∧ ((kd = 0 ∧ 0 ≤ bs ∧ bs ≤ 31) ∨ ((kd = 1 ∨ kd = 2) ∧ 1 ≤ bs ∧ bs ≤ 32) ∨ (kd = 3 ∧ 1 ≤ bs ∧ bs ≤ 31))) (w : Int) (hw : w = 3932160000 + (st * 1048576 + rn * 65536 + bs / 4 % 8 * 4096 + rd * 256 + bs % 4 * 64 + kd * 16 + rm)) : rdOf f 21 w = rd ∧ rnOf f 21 w = rn ∧ rmOf f 21 w = rm ∧ raOf f 21 w = ra ∧ imOf f 21 w = im ∧ kdOf f 21 w = kd ∧ bsOf f 21 w = bs ∧ stOf f 21 w = st ∧ cdOf f 21 w = cd ∧ rgOf f 21 w = rg := by
  obtain ⟨h1, h2, h3, h4, h5, h6, h7, h8, h9⟩ := h
  obtain ⟨q0, q1, q2, q3, q4, q5, q6⟩ := cut_69 (y0 := bs / 4 % 8) (y1 := bs % 4) (by omega) (by omega) (by omega) (by omega) (by omega) (by omega) (by omega) w hw
  clear hw
  rw [rd_21, rn_21, rm_21, ra_21, im_21, kd_21, bs_21, st_21, cd_21, rg_21]
  rw [q0, q1, q2, q3, q4, q5, q6]
  clear q0 q1 q2 q3 q4 q5 q6
  exact ⟨by omega, by omega, by omega, by omega, by omega, by omega, by first | omega | (split <;> omega), by omega, by omega, by omega⟩
theorem cut_70 {st rn y0 rd y1 kd rm : Int} (b0 : 0 ≤ st ∧ st ≤ 1) (b1 : 0 ≤ rn ∧ rn ≤ 15) (b2 : 0 ≤ y0 ∧ y0 ≤ 7) (b3 : 0 ≤ rd ∧ rd ≤ 15) (b4 : 0 ≤ y1 ∧ y1 ≤ 3) (b5 : 0 ≤ kd ∧ kd ≤ 3) (b6 : 0 ≤ rm ∧ rm ≤ 15) (w : Int) (hw : w = 3934257152 + (st * 1048576 + rn * 65536 + y0 * 4096 + rd * 256 + y1 * 64 + kd * 16 + rm)) : w / 256 % 16 = rd ∧ w / 65536 % 16 = rn ∧ w % 16 = rm ∧ w / 16 % 4 = kd ∧ w / 4096 % 8 = y0 ∧ w / 64 % 4 = y1 ∧ w / 1048576 % 2 = st := by
  have e1 : w / 65536 = 60032 + st * 16 + rn := by omega
  have e2 : w % 65536 = 0 + y0 * 4096 + rd * 256 + y1 * 64 + kd * 16 + rm := by omega
  rw [half_256_16 w, half_65536_16 w, half_1_16 w, half_16_4 w, half_4096_8 w, half_64_4 w, half_1048576_2 w, e1, e2]
  clear e1 e2 hw
  exact ⟨by omega, by omega, by omega, by omega, by omega, by omega, by omega⟩
theorem back_70 {f rd rn rm ra im kd bs st cd rg : Int} (hf : f = 70) (h : ((0 ≤ rd ∧ rd ≤ 12 ∨ rd = 14)) ∧ ((0 ≤ rn ∧ rn ≤ 12 ∨ rn = 14)) ∧ ((0 ≤ rm ∧ rm ≤ 12 ∨ rm = 14)) ∧ (ra = 0) ∧ (im = 0) ∧ (0 ≤ st ∧ st ≤ 1) ∧ (cd = 0) ∧ (rg = 0) ∧ ((kd = 0 ∧ 0 ≤ bs ∧ bs ≤ 31) ∨ ((kd = 1 ∨ kd = 2) ∧ 1 ≤ bs ∧ bs ≤ 32) ∨ (kd = 3 ∧ 1 ≤ bs ∧ bs ≤ 31))) (w : Int) (hw : w = 3934257152 + (st * 1048576 + rn * 65536 + bs / 4 % 8 * 4096 + rd * 256 + bs % 4 * 64 + kd * 16 + rm)) : rdOf f 21 w = rd ∧ rnOf f 21 w = rn ∧ rmOf f 21 w = rm ∧ raOf f 21 w = ra ∧ imOf f 21 w = im ∧ kdOf f 21 w = kd ∧ bsOf f 21 w = bs ∧ stOf f 21 w = st ∧ cdOf f 21 w = cd ∧ rgOf f 21 w = rg := by
  obtain ⟨h1, h2, h3, h4, h5, h6, h7, h8, h9⟩ := h
  obtain ⟨q0, q1, q2, q3, q4, q5, q6⟩ := cut_70 (y0 := bs / 4 % 8) (y1 := bs % 4) (by omega) (by omega) (by omega) (by omega) (by omega) (by omega) (by omega) w hw
  clear hw
  rw [rd_21, rn_21, rm_21, ra_21, im_21, kd_21, bs_21, st_21, cd_21, rg_21]
  rw [q0, q1, q2, q3, q4, q5, q6]
  clear q0 q1 q2 q3 q4 q5 q6
  exact ⟨by omega, by omega, by omega, by omega, by omega, by omega, by first | omega | (split <;> omega), by omega, by omega, by omega⟩
theorem cut_71 {st rn y0 rd y1 kd rm : Int} (b0 : 0 ≤ st ∧ st ≤ 1) (b1 : 0 ≤ rn ∧ rn ≤ 15) (b2 : 0 ≤ y0 ∧ y0 ≤ 7) (b3 : 0 ≤ rd ∧ rd ≤ 15) (b4 : 0 ≤ y1 ∧ y1 ≤ 3) (b5 : 0 ≤ kd ∧ kd ≤ 3) (b6 : 0 ≤ rm ∧ rm ≤ 15) (w : Int) (hw : w = 3942645760 + (st * 1048576 + rn * 65536 + y0 * 4096 + rd * 256 + y1 * 64 + kd * 16 + rm)) : w / 256 % 16 = rd ∧ w / 65536 % 16 = rn ∧ w % 16 = rm ∧ w / 16 % 4 = kd ∧ w / 4096 % 8 = y0 ∧ w / 64 % 4 = y1 ∧ w / 1048576 % 2 = st := by
  have e1 : w / 65536 = 60160 + st * 16 + rn := by omega
  have e2 : w % 65536 = 0 + y0 * 4096 + rd * 256 + y1 * 64 + kd * 16 + rm := by omega
  rw [half_256_16 w, half_65536_16 w, half_1_16 w, half_16_4 w, half_4096_8 w, half_64_4 w, half_1048576_2 w, e1, e2]
  clear e1 e2 hw
  exact ⟨by omega, by omega, by omega, by omega, by omega, by omega, by omega⟩
theorem back_71 {f rd rn rm ra im kd bs st cd rg : Int} (hf : f = 71) (h : ((0 ≤ rd ∧ rd ≤ 12 ∨ rd = 14)) ∧ ((0 ≤ rn ∧ rn ≤ 12 ∨ rn = 14)) ∧ ((0 ≤ rm ∧ rm ≤ 12 ∨ rm = 14)) ∧ (ra = 0) ∧ (im = 0) ∧ (0 ≤ st ∧ st ≤ 1) ∧ (cd = 0) ∧ (rg = 0) ∧ ((kd = 0 ∧ 0 ≤ bs ∧ bs ≤ 31) ∨ ((kd = 1 ∨ kd = 2) ∧ 1 ≤ bs ∧ bs ≤ 32) ∨ (kd = 3 ∧ 1 ≤ bs ∧ bs ≤ 31))) (w : Int) (hw : w = 3942645760 + (st * 1048576 + rn * 65536 + bs / 4 % 8 * 4096 + rd * 256 + bs % 4 * 64 + kd * 16 + rm)) : rdOf f 21 w = rd ∧ rnOf f 21 w = rn ∧ rmOf f 21 w = rm ∧ raOf f 21 w = ra ∧ imOf f 21 w = im ∧ kdOf f 21 w = kd ∧ bsOf f 21 w = bs ∧ stOf f 21 w = st ∧ cdOf f 21 w = cd ∧ rgOf f 21 w = rg := by
  obtain ⟨h1, h2, h3, h4, h5, h6, h7, h8, h9⟩ := h
  obtain ⟨q0, q1, q2, q3, q4, q5, q6⟩ := cut_71 (y0 := bs / 4 % 8) (y1 := bs % 4) (by omega) (by omega) (by omega) (by omega) (by omega) (by omega) (by omega) w hw
  clear hw
  rw [rd_21, rn_21, rm_21, ra_21, im_21, kd_21, bs_21, st_21, cd_21, rg_21]
  rw [q0, q1, q2, q3, q4, q5, q6]
  clear q0 q1 q2 q3 q4 q5 q6
  exact ⟨by omega, by omega, by omega, by omega, by omega, by omega, by first | omega | (split <;> omega), by omega, by omega, by omega⟩
theorem cut_72 {st rn y0 rd y1 kd rm : Int} (b0 : 0 ≤ st ∧ st ≤ 1) (b1 : 0 ≤ rn ∧ rn ≤ 15) (b2 : 0 ≤ y0 ∧ y0 ≤ 7) (b3 : 0 ≤ rd ∧ rd ≤ 15) (b4 : 0 ≤ y1 ∧ y1 ≤ 3) (b5 : 0 ≤ kd ∧ kd ≤ 3) (b6 : 0 ≤ rm ∧ rm ≤ 15) (w : Int) (hw : w = 3946840064 + (st * 1048576 + rn * 65536 + y0 * 4096 + rd * 256 + y1 * 64 + kd * 16 + rm)) : w / 256 % 16 = rd ∧ w / 65536 % 16 = rn ∧ w % 16 = rm ∧ w / 16 % 4 = kd ∧ w / 4096 % 8 = y0 ∧ w / 64 % 4 = y1 ∧ w / 1048576 % 2 = st := by
  have e1 : w / 65536 = 60224 + st * 16 + rn := by omega
  have e2 : w % 65536 = 0 + y0 * 4096 + rd * 256 + y1 * 64 + kd * 16 + rm := by omega
  rw [half_256_16 w, half_65536_16 w, half_1_16 w, half_16_4 w, half_4096_8 w, half_64_4 w, half_1048576_2 w, e1, e2]
  clear e1 e2 hw
  exact ⟨by omega, by omega, by omega, by omega, by omega, by omega, by omega⟩
theorem back_72 {f rd rn rm ra im kd bs st cd rg : Int} (hf : f = 72) (h : ((0 ≤ rd ∧ rd ≤ 12 ∨ rd = 14)) ∧ ((0 ≤ rn ∧ rn ≤ 12 ∨ rn = 14)) ∧ ((0 ≤ rm ∧ rm ≤ 12 ∨ rm = 14)) ∧ (ra = 0) ∧ (im = 0) ∧ (0 ≤ st ∧ st ≤ 1) ∧ (cd = 0) ∧ (rg = 0) ∧ ((kd = 0 ∧ 0 ≤ bs ∧ bs ≤ 31) ∨ ((kd = 1 ∨ kd = 2) ∧ 1 ≤ bs ∧ bs ≤ 32) ∨ (kd = 3 ∧ 1 ≤ bs ∧ bs ≤ 31))) (w : Int) (hw : w = 3946840064 + (st * 1048576 + rn * 65536 + bs / 4 % 8 * 4096 + rd * 256 + bs % 4 * 64 + kd * 16 + rm)) : rdOf f 21 w = rd ∧ rnOf f 21 w = rn ∧ rmOf f 21 w = rm ∧ raOf f 21 w = ra ∧ imOf f 21 w = im ∧ kdOf f 21 w = kd ∧ bsOf f 21 w = bs ∧ stOf f 21 w = st ∧ cdOf f 21 w = cd ∧ rgOf f 21 w = rg := by
  obtain ⟨h1, h2, h3, h4, h5, h6, h7, h8, h9⟩ := h
  obtain ⟨q0, q1, q2, q3, q4, q5, q6⟩ := cut_72 (y0 := bs / 4 % 8) (y1 := bs % 4) (by omega) (by omega) (by omega) (by omega) (by omega) (by omega) (by omega) w hw
  clear hw
  rw [rd_21, rn_21, rm_21, ra_21, im_21, kd_21, bs_21, st_21, cd_21, rg_21]
  rw [q0, q1, q2, q3, q4, q5, q6]
  clear q0 q1 q2 q3 q4 q5 q6
  exact ⟨by omega, by omega, by omega, by omega, by omega, by omega, by first | omega | (split <;> omega), by omega, by omega, by omega⟩
theorem cut_73 {st rn y0 rd y1 kd rm : Int} (b0 : 0 ≤ st ∧ st ≤ 1) (b1 : 0 ≤ rn ∧ rn ≤ 15) (b2 : 0 ≤ y0 ∧ y0 ≤ 7) (b3 : 0 ≤ rd ∧ rd ≤ 15) (b4 : 0 ≤ y1 ∧ y1 ≤ 3) (b5 : 0 ≤ kd ∧ kd ≤ 3) (b6 : 0 ≤ rm ∧ rm ≤ 15) (w : Int) (hw : w = 3948937216 + (st * 1048576 + rn * 65536 + y0 * 4096 + rd * 256 + y1 * 64 + kd * 16 + rm)) : w / 256 % 16 = rd ∧ w / 65536 % 16 = rn ∧ w % 16 = rm ∧ w / 16 % 4 = kd ∧ w / 4096 % 8 = y0 ∧ w / 64 % 4 = y1 ∧ w / 1048576 % 2 = st := by
  have e1 : w / 65536 = 60256 + st * 16 + rn := by omega
  have e2 : w % 65536 = 0 + y0 * 4096 + rd * 256 + y1 * 64 + kd * 16 + rm := by omega
  rw [half_256_16 w, half_65536_16 w, half_1_16 w, half_16_4 w, half_4096_8 w, half_64_4 w, half_1048576_2 w, e1, e2]
  clear e1 e2 hw
  exact ⟨by omega, by omega, by omega, by omega, by omega, by omega, by omega⟩
theorem back_73 {f rd rn rm ra im kd bs st cd rg : Int} (hf : f = 73) (h : ((0 ≤ rd ∧ rd ≤ 12 ∨ rd = 14)) ∧ ((0 ≤ rn ∧ rn ≤ 12 ∨ rn = 14)) ∧ ((0 ≤ rm ∧ rm ≤ 12 ∨ rm = 14)) ∧ (ra = 0) ∧ (im = 0) ∧ (0 ≤ st ∧ st ≤ 1) ∧ (cd = 0) ∧ (rg = 0) ∧ ((kd = 0 ∧ 0 ≤ bs ∧ bs ≤ 31) ∨ ((kd = 1 ∨ kd = 2) ∧ 1 ≤ bs ∧ bs ≤ 32) ∨ (kd = 3 ∧ 1 ≤ bs ∧ bs ≤ 31))) (w : Int) (hw : w = 3948937216 + (st * 1048576 + rn * 65536 + bs / 4 % 8 * 4096 + rd * 256 + bs % 4 * 64 + kd * 16 + rm)) : rdOf f 21 w = rd ∧ rnOf f 21 w = rn ∧ rmOf f 21 w = rm ∧ raOf f 21 w = ra ∧ imOf f 21 w = im ∧ kdOf f 21 w = kd ∧ bsOf f 21 w = bs ∧ stOf f 21 w = st ∧ cdOf f 21 w = cd ∧ rgOf f 21 w = rg := by
  obtain ⟨h1, h2, h3, h4, h5, h6, h7, h8, h9⟩ := h
  obtain ⟨q0, q1, q2, q3, q4, q5, q6⟩ := cut_73 (y0 := bs / 4 % 8) (y1 := bs % 4) (by omega) (by omega) (by omega) (by omega) (by omega) (by omega) (by omega) w hw
  clear hw
  rw [rd_21, rn_21, rm_21, ra_21, im_21, kd_21, bs_21, st_21, cd_21, rg_21]
  rw [q0, q1, q2, q3, q4, q5, q6]
  clear q0 q1 q2 q3 q4 q5 q6
  exact ⟨by omega, by omega, by omega, by omega, by omega, by omega, by first | omega | (split <;> omega), by omega, by omega, by omega⟩
theorem cut_74 {st rn y0 rd y1 kd rm : Int} (b0 : 0 ≤ st ∧ st ≤ 1) (b1 : 0 ≤ rn ∧ rn ≤ 15) (b2 : 0 ≤ y0 ∧ y0 ≤ 7) (b3 : 0 ≤ rd ∧ rd ≤ 15) (b4 : 0 ≤ y1 ∧ y1 ≤ 3) (b5 : 0 ≤ kd ∧ kd ≤ 3) (b6 : 0 ≤ rm ∧ rm ≤ 15) (w : Int) (hw : w = 3953131520 + (st * 1048576 + rn * 65536 + y0 * 4096 + rd * 256 + y1 * 64 + kd * 16 + rm)) : w / 256 % 16 = rd ∧ w / 65536 % 16 = rn ∧ w % 16 = rm ∧ w / 16 % 4 = kd ∧ w / 4096 % 8 = y0 ∧ w / 64 % 4 = y1 ∧ w / 1048576 % 2 = st := by
  have e1 : w / 65536 = 60320 + st * 16 + rn := by omega
  have e2 : w % 65536 = 0 + y0 * 4096 + rd * 256 + y1 * 64 + kd * 16 + rm := by omega
  rw [half_256_16 w, half_65536_16 w, half_1_16 w, half_16_4 w, half_4096_8 w, half_64_4 w, half_1048576_2 w, e1, e2]
  clear e1 e2 hw
  exact ⟨by omega, by omega, by omega, by omega, by omega, by omega, by omega⟩
theorem back_74 {f rd rn rm ra im kd bs st cd rg : Int} (hf : f = 74) (h : ((0 ≤ rd ∧ rd ≤ 12 ∨ rd = 14)) ∧ ((0 ≤ rn ∧ rn ≤ 12 ∨ rn = 14)) ∧ ((0 ≤ rm ∧ rm ≤ 12 ∨ rm = 14)) ∧ (ra = 0) ∧ (im = 0) ∧ (0 ≤ st ∧ st ≤ 1) ∧ (cd = 0) ∧ (rg = 0) ∧ ((kd = 0 ∧ 0 ≤ bs ∧ bs ≤ 31) ∨ ((kd = 1 ∨ kd = 2) ∧ 1 ≤ bs ∧ bs ≤ 32) ∨ (kd = 3 ∧ 1 ≤ bs ∧ bs ≤ 31))) (w : Int) (hw : w = 3953131520 + (st * 1048576 + rn * 65536 + bs / 4 % 8 * 4096 + rd * 256 + bs % 4 * 64 + kd * 16 + rm)) : rdOf f 21 w = rd ∧ rnOf f 21 w = rn ∧ rmOf f 21 w = rm ∧ raOf f 21 w = ra ∧ imOf f 21 w = im ∧ kdOf f 21 w = kd ∧ bsOf f 21 w = bs ∧ stOf f 21 w = st ∧ cdOf f 21 w = cd ∧ rgOf f 21 w = rg := by
  obtain ⟨h1, h2, h3, h4, h5, h6, h7, h8, h9⟩ := h
  obtain ⟨q0, q1, q2, q3, q4, q5, q6⟩ := cut_74 (y0 := bs / 4 % 8) (y1 := bs % 4) (by omega) (by omega) (by omega) (by omega) (by omega) (by omega) (by omega) w hw
  clear hw
  rw [rd_21, rn_21, rm_21, ra_21, im_21, kd_21, bs_21, st_21, cd_21, rg_21]
  rw [q0, q1, q2, q3, q4, q5, q6]
  clear q0 q1 q2 q3 q4 q5 q6
  exact ⟨by omega, by omega, by omega, by omega, by omega, by omega, by first | omega | (split <;> omega), by omega, by omega, by omega⟩
theorem cut_75 {st rn y0 rd y1 kd rm : Int} (b0 : 0 ≤ st ∧ st ≤ 1) (b1 : 0 ≤ rn ∧ rn ≤ 15) (b2 : 0 ≤ y0 ∧ y0 ≤ 7) (b3 : 0 ≤ rd ∧ rd ≤ 15) (b4 : 0 ≤ y1 ∧ y1 ≤ 3) (b5 : 0 ≤ kd ∧ kd ≤ 3) (b6 : 0 ≤ rm ∧ rm ≤ 15) (w : Int) (hw : w = 3955228672 + (st * 1048576 + rn * 65536 + y0 * 4096 + rd * 256 + y1 * 64 + kd * 16 + rm)) : w / 256 % 16 = rd ∧ w / 65536 % 16 = rn ∧ w % 16 = rm ∧ w / 16 % 4 = kd ∧ w / 4096 % 8 = y0 ∧ w / 64 % 4 = y1 ∧ w / 1048576 % 2 = st := by
  have e1 : w / 65536 = 60352 + st * 16 + rn := by omega
  have e2 : w % 65536 = 0 + y0 * 4096 + rd * 256 + y1 * 64 + kd * 16 + rm := by omega
  rw [half_256_16 w, half_65536_16 w, half_1_16 w, half_16_4 w, half_4096_8 w, half_64_4 w, half_1048576_2 w, e1, e2]
  clear e1 e2 hw
  exact ⟨by omega, by omega, by omega, by omega, by omega, by omega, by omega⟩
theorem back_75 {f rd rn rm ra im kd bs st cd rg : Int} (hf : f = 75) (h : ((0 ≤ rd ∧ rd ≤ 12 ∨ rd = 14)) ∧ ((0 ≤ rn ∧ rn ≤ 12 ∨ rn = 14)) ∧ ((0 ≤ rm ∧ rm ≤ 12 ∨ rm = 14)) ∧ (ra = 0) ∧ (im = 0) ∧ (0 ≤ st ∧ st ≤ 1) ∧ (cd = 0) ∧ (rg = 0) ∧ ((kd = 0 ∧ 0 ≤ bs ∧ bs ≤ 31) ∨ ((kd = 1 ∨ kd = 2) ∧ 1 ≤ bs ∧ bs ≤ 32) ∨ (kd = 3 ∧ 1 ≤ bs ∧ bs ≤ 31))) (w : Int) (hw : w = 3955228672 + (st * 1048576 + rn * 65536 + bs / 4 % 8 * 4096 + rd * 256 + bs % 4 * 64 + kd * 16 + rm)) : rdOf f 21 w = rd ∧ rnOf f 21 w = rn ∧ rmOf f 21 w = rm ∧ raOf f 21 w = ra ∧ imOf f 21 w = im ∧ kdOf f 21 w = kd ∧ bsOf f 21 w = bs ∧ stOf f 21 w = st ∧ cdOf f 21 w = cd ∧ rgOf f 21 w = rg := by
  obtain ⟨h1, h2, h3, h4, h5, h6, h7, h8, h9⟩ := h
  obtain ⟨q0, q1, q2, q3, q4, q5, q6⟩ := cut_75 (y0 := bs / 4 % 8) (y1 := bs % 4) (by omega) (by omega) (by omega) (by omega) (by omega) (by omega) (by omega) w hw
  clear hw
  rw [rd_21, rn_21, rm_21, ra_21, im_21, kd_21, bs_21, st_21, cd_21, rg_21]
  rw [q0, q1, q2, q3, q4, q5, q6]
  clear q0 q1 q2 q3 q4 q5 q6
  exact ⟨by omega, by omega, by omega, by omega, by omega, by omega, by first | omega | (split <;> omega), by omega, by omega, by omega⟩
theorem cut_76 {st rn y0 rd y1 kd rm : Int} (b0 : 0 ≤ st ∧ st ≤ 1) (b1 : 0 ≤ rn ∧ rn ≤ 0) (b2 : 0 ≤ y0 ∧ y0 ≤ 7) (b3 : 0 ≤ rd ∧ rd ≤ 15) (b4 : 0 ≤ y1 ∧ y1 ≤ 3) (b5 : 0 ≤ kd ∧ kd ≤ 3) (b6 : 0 ≤ rm ∧ rm ≤ 15) (w : Int) (hw : w = 3931045888 + (st * 1048576 + rn * 65536 + y0 * 4096 + rd * 256 + y1 * 64 + kd * 16 + rm)) : w / 256 % 16 = rd ∧ w % 16 = rm ∧ w / 16 % 4 = kd ∧ w / 4096 % 8 = y0 ∧ w / 64 % 4 = y1 ∧ w / 1048576 % 2 = st := by
  have e1 : w / 65536 = 59983 + st * 16 + rn := by omega
  have e2 : w % 65536 = 0 + y0 * 4096 + rd * 256 + y1 * 64 + kd * 16 + rm := by omega
  rw [half_256_16 w, half_1_16 w, half_16_4 w, half_4096_8 w, half_64_4 w, half_1048576_2 w, e1, e2]
  clear e1 e2 hw
  exact ⟨by omega, by omega, by omega, by omega, by omega, by omega⟩
theorem back_76 {f rd rn rm ra im kd bs st cd rg : Int} (hf : f = 76) (h : ((0 ≤ rd ∧ rd ≤ 12 ∨ rd = 14)) ∧ (rn = 0) ∧ ((0 ≤ rm ∧ rm ≤ 12 ∨ rm = 14)) ∧ (ra = 0) ∧ (im = 0) ∧ (0 ≤ st ∧ st ≤ 1) ∧ (cd = 0) ∧ (rg = 0) ∧ ((kd = 0 ∧ 0 ≤ bs ∧ bs ≤ 31) ∨ ((kd = 1 ∨ kd = 2) ∧ 1 ≤ bs ∧ bs ≤ 32) ∨ (kd = 3 ∧ 1 ≤ bs ∧ bs ≤ 31))) (w : Int) (hw : w = 3931045888 + (st * 1048576 + rn * 65536 + bs / 4 % 8 * 4096 + rd * 256 + bs % 4 * 64 + kd * 16 + rm)) : rdOf f 22 w = rd ∧ rnOf f 22 w = rn ∧ rmOf f 22 w = rm ∧ raOf f 22 w = ra ∧ imOf f 22 w = im ∧ kdOf f 22 w = kd ∧ bsOf f 22 w = bs ∧ stOf f 22 w = st ∧ cdOf f 22 w = cd ∧ rgOf f 22 w = rg := by
  obtain ⟨h1, h2, h3, h4, h5, h6, h7, h8, h9⟩ := h
  obtain ⟨q0, q1, q2, q3, q4, q5⟩ := cut_76 (y0 := bs / 4 % 8) (y1 := bs % 4) (by omega) (by omega) (by omega) (by omega) (by omega) (by omega) (by omega) w hw
  clear hw
  rw [rd_22, rn_22, rm_22, ra_22, im_22, kd_22, bs_22, st_22, cd_22, rg_22]
  rw [q0, q1, q2, q3, q4, q5]
  clear q0 q1 q2 q3 q4 q5
  exact ⟨by omega, by omega, by omega, by omega, by omega, by omega, by first | omega | (split <;> omega), by omega, by omega, by omega⟩
theorem cut_77 {st rn y0 rd y1 kd rm : Int} (b0 : 0 ≤ st ∧ st ≤ 1) (b1 : 0 ≤ rn ∧ rn ≤ 0) (b2 : 0 ≤ y0 ∧ y0 ≤ 7) (b3 : 0 ≤ rd ∧ rd ≤ 15) (b4 : 0 ≤ y1 ∧ y1 ≤ 3) (b5 : 0 ≤ kd ∧ kd ≤ 3) (b6 : 0 ≤ rm ∧ rm ≤ 15) (w : Int) (hw : w = 3933143040 + (st * 1048576 + rn * 65536 + y0 * 4096 + rd * 256 + y1 * 64 + kd * 16 + rm)) : w / 256 % 16 = rd ∧ w % 16 = rm ∧ w / 16 % 4 = kd ∧ w / 4096 % 8 = y0 ∧ w / 64 % 4 = y1 ∧ w / 1048576 % 2 = st := by
  have e1 : w / 65536 = 60015 + st * 16 + rn := by omega
  have e2 : w % 65536 = 0 + y0 * 4096 + rd * 256 + y1 * 64 + kd * 16 + rm := by omega
  rw [half_256_16 w, half_1_16 w, half_16_4 w, half_4096_8 w, half_64_4 w, half_1048576_2 w, e1, e2]
  clear e1 e2 hw
  exact ⟨by omega, by omega, by omega, by omega, by omega, by omega⟩
theorem back_77 {f rd rn rm ra im kd bs st cd rg : Int} (hf : f = 77) (h : ((0 ≤ rd ∧ rd ≤ 12 ∨ rd = 14)) ∧ (rn = 0) ∧ ((0 ≤ rm ∧ rm ≤ 12 ∨ rm = 14)) ∧ (ra = 0) ∧ (im = 0) ∧ (0 ≤ st ∧ st ≤ 1) ∧ (cd = 0) ∧ (rg = 0) ∧ ((kd = 0 ∧ 0 ≤ bs ∧ bs ≤ 31) ∨ ((kd = 1 ∨ kd = 2) ∧ 1 ≤ bs ∧ bs ≤ 32) ∨ (kd = 3 ∧ 1 ≤ bs ∧ bs ≤ 31))) (w : Int) (hw : w = 3933143040 + (st * 1048576 + rn * 65536 + bs / 4 % 8 * 4096 + rd * 256 + bs % 4 * 64 + kd * 16 + rm)) : rdOf f 22 w = rd ∧ rnOf f 22 w = rn ∧ rmOf f 22 w = rm ∧ raOf f 22 w = ra ∧ imOf f 22 w = im ∧ kdOf f 22 w = kd ∧ bsOf f 22 w = bs ∧ stOf f 22 w = st ∧ cdOf f 22 w = cd ∧ rgOf f 22 w = rg := by
  obtain ⟨h1, h2, h3, h4, h5, h6, h7, h8, h9⟩ := h
  obtain ⟨q0, q1, q2, q3, q4, q5⟩ := cut_77 (y0 := bs / 4 % 8) (y1 := bs % 4) (by omega) (by omega) (by omega) (by omega) (by omega) (by omega) (by omega) w hw
  clear hw
  rw [rd_22, rn_22, rm_22, ra_22, im_22, kd_22, bs_22, st_22, cd_22, rg_22]
  rw [q0, q1, q2, q3, q4, q5]
  clear q0 q1 q2 q3 q4 q5
  exact ⟨by omega, by omega, by omega, by omega, by omega, by omega, by first | omega | (split <;> omega), by omega, by omega, by omega⟩
theorem cut_78 {st rn y0 rd y1 kd rm : Int} (b0 : 0 ≤ st ∧ st ≤ 0) (b1 : 0 ≤ rn ∧ rn ≤ 15) (b2 : 0 ≤ y0 ∧ y0 ≤ 7) (b3 : 0 ≤ rd ∧ rd ≤ 0) (b4 : 0 ≤ y1 ∧ y1 ≤ 3) (b5 : 0 ≤ kd ∧ kd ≤ 3) (b6 : 0 ≤ rm ∧ rm ≤ 15) (w : Int) (hw : w = 3926920960 + (st * 1048576 + rn * 65536 + y0 * 4096 + rd * 256 + y1 * 64 + kd * 16 + rm)) : w / 65536 % 16 = rn ∧ w % 16 = rm ∧ w / 16 % 4 = kd ∧ w / 4096 % 8 = y0 ∧ w / 64 % 4 = y1 := by
  have e1 : w / 65536 = 59920 + st * 16 + rn := by omega
  have e2 : w % 65536 = 3840 + y0 * 4096 + rd * 256 + y1 * 64 + kd * 16 + rm := by omega
  rw [half_65536_16 w, half_1_16 w, half_16_4 w, half_4096_8 w, half_64_4 w, e1, e2]
  clear e1 e2 hw
  exact ⟨by omega, by omega, by omega, by omega, by omega⟩
theorem back_78 {f rd rn rm ra im kd bs st cd rg : Int} (hf : f = 78) (h : (rd = 0) ∧ ((0 ≤ rn ∧ rn ≤ 12 ∨ rn = 14)) ∧ ((0 ≤ rm ∧ rm ≤ 12 ∨ rm = 14)) ∧ (ra = 0) ∧ (im = 0) ∧ (st = 0) ∧ (cd = 0) ∧ (rg = 0) ∧ ((kd = 0 ∧ 0 ≤ bs ∧ bs ≤ 31) ∨ ((kd = 1 ∨ kd = 2) ∧ 1 ≤ bs ∧ bs ≤ 32) ∨ (kd = 3 ∧ 1 ≤ bs ∧ bs ≤ 31))) (w : Int) (hw : w = 3926920960 + (st * 1048576 + rn * 65536 + bs / 4 % 8 * 4096 + rd * 256 + bs % 4 * 64 + kd * 16 + rm)) : rdOf f 23 w = rd ∧ rnOf f 23 w = rn ∧ rmOf f 23 w = rm ∧ raOf f 23 w = ra ∧ imOf f 23 w = im ∧ kdOf f 23 w = kd ∧ bsOf f 23 w = bs ∧ stOf f 23 w = st ∧ cdOf f 23 w = cd ∧ rgOf f 23 w = rg := by
  obtain ⟨h1, h2, h3, h4, h5, h6, h7, h8, h9⟩ := h
  obtain ⟨q0, q1, q2, q3, q4⟩ := cut_78 (y0 := bs / 4 % 8) (y1 := bs % 4) (by omega) (by omega) (by omega) (by omega) (by omega) (by omega) (by omega) w hw
  clear hw
  rw [rd_23, rn_23, rm_23, ra_23, im_23, kd_23, bs_23, st_23, cd_23, rg_23]
  rw [q0, q1, q2, q3, q4]
  clear q0 q1 q2 q3 q4
  exact ⟨by omega, by omega, by omega, by omega, by omega, by omega, by first | omega | (split <;> omega), by omega, by omega, by omega⟩
theorem cut_79 {st rn y0 rd y1 kd rm : Int} (b0 : 0 ≤ st ∧ st ≤ 0) (b1 : 0 ≤ rn ∧ rn ≤ 15) (b2 : 0 ≤ y0 ∧ y0 ≤ 7) (b3 : 0 ≤ rd ∧ rd ≤ 0) (b4 : 0 ≤ y1 ∧ y1 ≤ 3) (b5 : 0 ≤ kd ∧ kd ≤ 3) (b6 : 0 ≤ rm ∧ rm ≤ 15) (w : Int) (hw : w = 3935309568 + (st * 1048576 + rn * 65536 + y0 * 4096 + rd * 256 + y1 * 64 + kd * 16 + rm)) : w / 65536 % 16 = rn ∧ w % 16 = rm ∧ w / 16 % 4 = kd ∧ w / 4096 % 8 = y0 ∧ w / 64 % 4 = y1 := by
  have e1 : w / 65536 = 60048 + st * 16 + rn := by omega
  have e2 : w % 65536 = 3840 + y0 * 4096 + rd * 256 + y1 * 64 + kd * 16 + rm := by omega
  rw [half_65536_16 w, half_1_16 w, half_16_4 w, half_4096_8 w, half_64_4 w, e1, e2]
  clear e1 e2 hw
  exact ⟨by omega, by omega, by omega, by omega, by omega⟩
theorem back_79 {f rd rn rm ra im kd bs st cd rg : Int} (hf : f = 79) (h : (rd = 0) ∧ ((0 ≤ rn ∧ rn ≤ 12 ∨ rn = 14)) ∧ ((0 ≤ rm ∧ rm ≤ 12 ∨ rm = 14)) ∧ (ra = 0) ∧ (im = 0) ∧ (st = 0) ∧ (cd = 0) ∧ (rg = 0) ∧ ((kd = 0 ∧ 0 ≤ bs ∧ bs ≤ 31) ∨ ((kd = 1 ∨ kd = 2) ∧ 1 ≤ bs ∧ bs ≤ 32) ∨ (kd = 3 ∧ 1 ≤ bs ∧ bs ≤ 31))) (w : Int) (hw : w = 3935309568 + (st * 1048576 + rn * 65536 + bs / 4 % 8 * 4096 + rd * 256 + bs % 4 * 64 + kd * 16 + rm)) : rdOf f 23 w = rd ∧ rnOf f 23 w = rn ∧ rmOf f 23 w = rm ∧ raOf f 23 w = ra ∧ imOf f 23 w = im ∧ kdOf f 23 w = kd ∧ bsOf f 23 w = bs ∧ stOf f 23 w = st ∧ cdOf f 23 w = cd ∧ rgOf f 23 w = rg := by
  obtain ⟨h1, h2, h3, h4, h5, h6, h7, h8, h9⟩ := h
  obtain ⟨q0, q1, q2, q3, q4⟩ := cut_79 (y0 := bs / 4 % 8) (y1 := bs % 4) (by omega) (by omega) (by omega) (by omega) (by omega) (by omega) (by omega) w hw
  clear hw
  rw [rd_23, rn_23, rm_23, ra_23, im_23, kd_23, bs_23, st_23, cd_23, rg_23]
  rw [q0, q1, q2, q3, q4]
  clear q0 q1 q2 q3 q4
  exact ⟨by omega, by omega, by omega, by omega, by omega, by omega, by first | omega | (split <;> omega), by omega, by omega, by omega⟩
theorem cut_80 {st rn y0 rd y1 kd rm : Int} (b0 : 0 ≤ st ∧ st ≤ 0) (b1 : 0 ≤ rn ∧ rn ≤ 15) (b2 : 0 ≤ y0 ∧ y0 ≤ 7) (b3 : 0 ≤ rd ∧ rd ≤ 0) (b4 : 0 ≤ y1 ∧ y1 ≤ 3) (b5 : 0 ≤ kd ∧ kd ≤ 3) (b6 : 0 ≤ rm ∧ rm ≤ 15) (w : Int) (hw : w = 3943698176 + (st * 1048576 + rn * 65536 + y0 * 4096 + rd * 256 + y1 * 64 + kd * 16 + rm)) : w / 65536 % 16 = rn ∧ w % 16 = rm ∧ w / 16 % 4 = kd ∧ w / 4096 % 8 = y0 ∧ w / 64 % 4 = y1 := by
  have e1 : w / 65536 = 60176 + st * 16 + rn := by omega
  have e2 : w % 65536 = 3840 + y0 * 4096 + rd * 256 + y1 * 64 + kd * 16 + rm := by omega
  rw [half_65536_16 w, half_1_16 w, half_16_4 w, half_4096_8 w, half_64_4 w, e1, e2]
  clear e1 e2 hw
  exact ⟨by omega, by omega, by omega, by omega, by omega⟩
theorem back_80 {f rd rn rm ra im kd bs st cd rg : Int} (hf : f = 80) (h : (rd = 0) ∧ ((0 ≤ rn ∧ rn ≤ 12 ∨ rn = 14)) ∧ ((0 ≤ rm ∧ rm ≤ 12 ∨ rm = 14)) ∧ (ra = 0) ∧ (im = 0) ∧ (st = 0) ∧ (cd = 0) ∧ (rg = 0) ∧ ((kd = 0 ∧ 0 ≤ bs ∧ bs ≤ 31) ∨ ((kd = 1 ∨ kd = 2) ∧ 1 ≤ bs ∧ bs ≤ 32) ∨ (kd = 3 ∧ 1 ≤ bs ∧ bs ≤ 31))) (w : Int) (hw : w = 3943698176 + (st * 1048576 + rn * 65536 + bs / 4 % 8 * 4096 + rd * 256 + bs % 4 * 64 + kd * 16 + rm)) : rdOf f 23 w = rd ∧ rnOf f 23 w = rn ∧ rmOf f 23 w = rm ∧ raOf f 23 w = ra ∧ imOf f 23 w = im ∧ kdOf f 23 w = kd ∧ bsOf f 23 w = bs ∧ stOf f 23 w = st ∧ cdOf f 23 w = cd ∧ rgOf f 23 w = rg := by
  obtain ⟨h1, h2, h3, h4, h5, h6, h7, h8, h9⟩ := h
  obtain ⟨q0, q1, q2, q3, q4⟩ := cut_80 (y0 := bs / 4 % 8) (y1 := bs % 4) (by omega) (by omega) (by omega) (by omega) (by omega) (by omega) (by omega) w hw
  clear hw
  rw [rd_23, rn_23, rm_23, ra_23, im_23, kd_23, bs_23, st_23, cd_23, rg_23]
  rw [q0, q1, q2, q3, q4]
  clear q0 q1 q2 q3 q4
  exact ⟨by omega, by omega, by omega, by omega, by omega, by omega, by first | omega | (split <;> omega), by omega, by omega, by omega⟩
theorem cut_81 {st rn y0 rd y1 kd rm : Int} (b0 : 0 ≤ st ∧ st ≤ 0) (b1 : 0 ≤ rn ∧ rn ≤ 15) (b2 : 0 ≤ y0 ∧ y0 ≤ 7) (b3 : 0 ≤ rd ∧ rd ≤ 0) (b4 : 0 ≤ y1 ∧ y1 ≤ 3) (b5 : 0 ≤ kd ∧ kd ≤ 3) (b6 : 0 ≤ rm ∧ rm ≤ 15) (w : Int) (hw : w = 3954183936 + (st * 1048576 + rn * 65536 + y0 * 4096 + rd * 256 + y1 * 64 + kd * 16 + rm)) : w / 65536 % 16 = rn ∧ w % 16 = rm ∧ w / 16 % 4 = kd ∧ w / 4096 % 8 = y0 ∧ w / 64 % 4 = y1 := by
  have e1 : w / 65536 = 60336 + st * 16 + rn := by omega
  have e2 : w % 65536 = 3840 + y0 * 4096 + rd * 256 + y1 * 64 + kd * 16 + rm := by omega
  rw [half_65536_16 w, half_1_16 w, half_16_4 w, half_4096_8 w, half_64_4 w, e1, e2]
  clear e1 e2 hw
  exact ⟨by omega, by omega, by omega, by omega, by omega⟩
theorem back_81 {f rd rn rm ra im kd bs st cd rg : Int} (hf : f = 81) (h : (rd = 0) ∧ ((0 ≤ rn ∧ rn ≤ 12 ∨ rn = 14)) ∧ ((0 ≤ rm ∧ rm ≤ 12 ∨ rm = 14)) ∧ (ra = 0) ∧ (im = 0) ∧ (st = 0) ∧ (cd = 0) ∧ (rg = 0) ∧ ((kd = 0 ∧ 0 ≤ bs ∧ bs ≤ 31) ∨ ((kd = 1 ∨ kd = 2) ∧ 1 ≤ bs ∧ bs ≤ 32) ∨ (kd = 3 ∧ 1 ≤ bs ∧ bs ≤ 31))) (w : Int) (hw : w = 3954183936 + (st * 1048576 + rn * 65536 + bs / 4 % 8 * 4096 + rd * 256 + bs % 4 * 64 + kd * 16 + rm)) : rdOf f 23 w = rd ∧ rnOf f 23 w = rn ∧ rmOf f 23 w = rm ∧ raOf f 23 w = ra ∧ imOf f 23 w = im ∧ kdOf f 23 w = kd ∧ bsOf f 23 w = bs ∧ stOf f 23 w = st ∧ cdOf f 23 w = cd ∧ rgOf f 23 w = rg := by
  obtain ⟨h1, h2, h3, h4, h5, h6, h7, h8, h9⟩ := h
  obtain ⟨q0, q1, q2, q3, q4⟩ := cut_81 (y0 := bs / 4 % 8) (y1 := bs % 4) (by omega) (by omega) (by omega) (by omega) (by omega) (by omega) (by omega) w hw
  clear hw
  rw [rd_23, rn_23, rm_23, ra_23, im_23, kd_23, bs_23, st_23, cd_23, rg_23]
  rw [q0, q1, q2, q3, q4]
  clear q0 q1 q2 q3 q4
  exact ⟨by omega, by omega, by omega, by omega, by omega, by omega, by first | omega | (split <;> omega), by omega, by omega, by omega⟩

end Go.Proofs.YtegefbndpkbooaaDoor.Code

/-! Fields out of words: forms 82 to 100. -/
set_option linter.unusedVariables false
set_option linter.unusedSimpArgs false
namespace Go.Proofs.YtegefbndpkbooaaDoor.Code
open Go.Proofs.YtegefbndpkbooaaDoor.Alu Go.Proofs.YtegefbndpkbooaaDoor.Imm Go.Proofs.YtegefbndpkbooaaDoor.Inst

theorem cut_82 {y0 st rn y1 rd y2 : Int} (b0 : 0 ≤ y0 ∧ y0 ≤ 1) (b1 : 0 ≤ st ∧ st ≤ 0) (b2 : 0 ≤ rn ∧ rn ≤ 15) (b3 : 0 ≤ y1 ∧ y1 ≤ 7) (b4 : 0 ≤ rd ∧ rd ≤ 15) (b5 : 0 ≤ y2 ∧ y2 ≤ 255) (w : Int) (hw : w = 4060086272 + (y0 * 67108864 + st * 1048576 + rn * 65536 + y1 * 4096 + rd * 256 + y2)) : w / 256 % 16 = rd ∧ w / 65536 % 16 = rn ∧ w / 67108864 % 2 = y0 ∧ w / 4096 % 8 = y1 ∧ w % 256 = y2 := by
  have e1 : w / 65536 = 61952 + y0 * 1024 + st * 16 + rn := by omega
  have e2 : w % 65536 = 0 + y1 * 4096 + rd * 256 + y2 := by omega
  rw [half_256_16 w, half_65536_16 w, half_67108864_2 w, half_4096_8 w, half_1_256 w, e1, e2]
  clear e1 e2 hw
  exact ⟨by omega, by omega, by omega, by omega, by omega⟩
theorem back_82 {f rd rn rm ra im kd bs st cd rg : Int} (hf : f = 82) (h : ((0 ≤ rd ∧ rd ≤ 12 ∨ rd = 14)) ∧ ((0 ≤ rn ∧ rn ≤ 12 ∨ rn = 14)) ∧ (rm = 0) ∧ (ra = 0) ∧ (0 ≤ im ∧ im ≤ 4095) ∧ (kd = 0) ∧ (bs = 0) ∧ (st = 0) ∧ (cd = 0) ∧ (rg = 0)) (w : Int) (hw : w = 4060086272 + (im / 2048 * 67108864 + st * 1048576 + rn * 65536 + im / 256 % 8 * 4096 + rd * 256 + im % 256)) : rdOf f 24 w = rd ∧ rnOf f 24 w = rn ∧ rmOf f 24 w = rm ∧ raOf f 24 w = ra ∧ imOf f 24 w = im ∧ kdOf f 24 w = kd ∧ bsOf f 24 w = bs ∧ stOf f 24 w = st ∧ cdOf f 24 w = cd ∧ rgOf f 24 w = rg := by
  obtain ⟨h1, h2, h3, h4, h5, h6, h7, h8, h9, h10⟩ := h
  obtain ⟨q0, q1, q2, q3, q4⟩ := cut_82 (y0 := im / 2048) (y1 := im / 256 % 8) (y2 := im % 256) (by omega) (by omega) (by omega) (by omega) (by omega) (by omega) w hw
  clear hw
  rw [rd_24, rn_24, rm_24, ra_24, im_24, kd_24, bs_24, st_24, cd_24, rg_24]
  rw [q0, q1, q2, q3, q4]
  clear q0 q1 q2 q3 q4
  exact ⟨by omega, by omega, by omega, by omega, by omega, by omega, by omega, by omega, by omega, by omega⟩
theorem cut_83 {y0 st rn y1 rd y2 : Int} (b0 : 0 ≤ y0 ∧ y0 ≤ 1) (b1 : 0 ≤ st ∧ st ≤ 0) (b2 : 0 ≤ rn ∧ rn ≤ 15) (b3 : 0 ≤ y1 ∧ y1 ≤ 7) (b4 : 0 ≤ rd ∧ rd ≤ 15) (b5 : 0 ≤ y2 ∧ y2 ≤ 255) (w : Int) (hw : w = 4070572032 + (y0 * 67108864 + st * 1048576 + rn * 65536 + y1 * 4096 + rd * 256 + y2)) : w / 256 % 16 = rd ∧ w / 65536 % 16 = rn ∧ w / 67108864 % 2 = y0 ∧ w / 4096 % 8 = y1 ∧ w % 256 = y2 := by
  have e1 : w / 65536 = 62112 + y0 * 1024 + st * 16 + rn := by omega
  have e2 : w % 65536 = 0 + y1 * 4096 + rd * 256 + y2 := by omega
  rw [half_256_16 w, half_65536_16 w, half_67108864_2 w, half_4096_8 w, half_1_256 w, e1, e2]
  clear e1 e2 hw
  exact ⟨by omega, by omega, by omega, by omega, by omega⟩
theorem back_83 {f rd rn rm ra im kd bs st cd rg : Int} (hf : f = 83) (h : ((0 ≤ rd ∧ rd ≤ 12 ∨ rd = 14)) ∧ ((0 ≤ rn ∧ rn ≤ 12 ∨ rn = 14)) ∧ (rm = 0) ∧ (ra = 0) ∧ (0 ≤ im ∧ im ≤ 4095) ∧ (kd = 0) ∧ (bs = 0) ∧ (st = 0) ∧ (cd = 0) ∧ (rg = 0)) (w : Int) (hw : w = 4070572032 + (im / 2048 * 67108864 + st * 1048576 + rn * 65536 + im / 256 % 8 * 4096 + rd * 256 + im % 256)) : rdOf f 24 w = rd ∧ rnOf f 24 w = rn ∧ rmOf f 24 w = rm ∧ raOf f 24 w = ra ∧ imOf f 24 w = im ∧ kdOf f 24 w = kd ∧ bsOf f 24 w = bs ∧ stOf f 24 w = st ∧ cdOf f 24 w = cd ∧ rgOf f 24 w = rg := by
  obtain ⟨h1, h2, h3, h4, h5, h6, h7, h8, h9, h10⟩ := h
  obtain ⟨q0, q1, q2, q3, q4⟩ := cut_83 (y0 := im / 2048) (y1 := im / 256 % 8) (y2 := im % 256) (by omega) (by omega) (by omega) (by omega) (by omega) (by omega) w hw
  clear hw
  rw [rd_24, rn_24, rm_24, ra_24, im_24, kd_24, bs_24, st_24, cd_24, rg_24]
  rw [q0, q1, q2, q3, q4]
  clear q0 q1 q2 q3 q4
  exact ⟨by omega, by omega, by omega, by omega, by omega, by omega, by omega, by omega, by omega, by omega⟩
theorem cut_84 {rn rd im : Int} (b0 : 0 ≤ rn ∧ rn ≤ 15) (b1 : 0 ≤ rd ∧ rd ≤ 15) (b2 : 0 ≤ im ∧ im ≤ 4095) (w : Int) (hw : w = 4173332480 + (rn * 65536 + rd * 4096 + im)) : w / 4096 % 16 = rd ∧ w / 65536 % 16 = rn ∧ w % 4096 = im := by
  have e1 : w / 65536 = 63680 + rn := by omega
  have e2 : w % 65536 = 0 + rd * 4096 + im := by omega
  rw [half_4096_16 w, half_65536_16 w, half_1_4096 w, e1, e2]
  clear e1 e2 hw
  exact ⟨by omega, by omega, by omega⟩
theorem back_84 {f rd rn rm ra im kd bs st cd rg : Int} (hf : f = 84) (h : ((0 ≤ rd ∧ rd ≤ 12 ∨ rd = 14)) ∧ (0 ≤ rn ∧ rn ≤ 14) ∧ (rm = 0) ∧ (ra = 0) ∧ (0 ≤ im ∧ im ≤ 4095) ∧ (kd = 0) ∧ (bs = 0) ∧ (st = 0) ∧ (cd = 0) ∧ (rg = 0)) (w : Int) (hw : w = 4173332480 + (rn * 65536 + rd * 4096 + im)) : rdOf f 25 w = rd ∧ rnOf f 25 w = rn ∧ rmOf f 25 w = rm ∧ raOf f 25 w = ra ∧ imOf f 25 w = im ∧ kdOf f 25 w = kd ∧ bsOf f 25 w = bs ∧ stOf f 25 w = st ∧ cdOf f 25 w = cd ∧ rgOf f 25 w = rg := by
  obtain ⟨h1, h2, h3, h4, h5, h6, h7, h8, h9, h10⟩ := h
  obtain ⟨q0, q1, q2⟩ := cut_84  (by omega) (by omega) (by omega) w hw
  clear hw
  rw [rd_25, rn_25, rm_25, ra_25, im_25, kd_25, bs_25, st_25, cd_25, rg_25]
  rw [q0, q1, q2]
  clear q0 q1 q2
  exact ⟨by omega, by omega, by omega, by omega, by omega, by omega, by omega, by omega, by omega, by omega⟩
theorem cut_85 {rn rd im : Int} (b0 : 0 ≤ rn ∧ rn ≤ 15) (b1 : 0 ≤ rd ∧ rd ≤ 15) (b2 : 0 ≤ im ∧ im ≤ 4095) (w : Int) (hw : w = 4174381056 + (rn * 65536 + rd * 4096 + im)) : w / 4096 % 16 = rd ∧ w / 65536 % 16 = rn ∧ w % 4096 = im := by
  have e1 : w / 65536 = 63696 + rn := by omega
  have e2 : w % 65536 = 0 + rd * 4096 + im := by omega
  rw [half_4096_16 w, half_65536_16 w, half_1_4096 w, e1, e2]
  clear e1 e2 hw
  exact ⟨by omega, by omega, by omega⟩
theorem back_85 {f rd rn rm ra im kd bs st cd rg : Int} (hf : f = 85) (h : ((0 ≤ rd ∧ rd ≤ 12 ∨ rd = 14)) ∧ (0 ≤ rn ∧ rn ≤ 14) ∧ (rm = 0) ∧ (ra = 0) ∧ (0 ≤ im ∧ im ≤ 4095) ∧ (kd = 0) ∧ (bs = 0) ∧ (st = 0) ∧ (cd = 0) ∧ (rg = 0)) (w : Int) (hw : w = 4174381056 + (rn * 65536 + rd * 4096 + im)) : rdOf f 25 w = rd ∧ rnOf f 25 w = rn ∧ rmOf f 25 w = rm ∧ raOf f 25 w = ra ∧ imOf f 25 w = im ∧ kdOf f 25 w = kd ∧ bsOf f 25 w = bs ∧ stOf f 25 w = st ∧ cdOf f 25 w = cd ∧ rgOf f 25 w = rg := by
  obtain ⟨h1, h2, h3, h4, h5, h6, h7, h8, h9, h10⟩ := h
  obtain ⟨q0, q1, q2⟩ := cut_85  (by omega) (by omega) (by omega) w hw
  clear hw
  rw [rd_25, rn_25, rm_25, ra_25, im_25, kd_25, bs_25, st_25, cd_25, rg_25]
  rw [q0, q1, q2]
  clear q0 q1 q2
  exact ⟨by omega, by omega, by omega, by omega, by omega, by omega, by omega, by omega, by omega, by omega⟩
theorem cut_86 {rn rd bs rm : Int} (b0 : 0 ≤ rn ∧ rn ≤ 15) (b1 : 0 ≤ rd ∧ rd ≤ 15) (b2 : 0 ≤ bs ∧ bs ≤ 3) (b3 : 0 ≤ rm ∧ rm ≤ 15) (w : Int) (hw : w = 4164943872 + (rn * 65536 + rd * 4096 + bs * 16 + rm)) : w / 4096 % 16 = rd ∧ w / 65536 % 16 = rn ∧ w % 16 = rm ∧ w / 16 % 4 = bs := by
  have e1 : w / 65536 = 63552 + rn := by omega
  have e2 : w % 65536 = 0 + rd * 4096 + bs * 16 + rm := by omega
  rw [half_4096_16 w, half_65536_16 w, half_1_16 w, half_16_4 w, e1, e2]
  clear e1 e2 hw
  exact ⟨by omega, by omega, by omega, by omega⟩
theorem back_86 {f rd rn rm ra im kd bs st cd rg : Int} (hf : f = 86) (h : ((0 ≤ rd ∧ rd ≤ 12 ∨ rd = 14)) ∧ (0 ≤ rn ∧ rn ≤ 14) ∧ ((0 ≤ rm ∧ rm ≤ 12 ∨ rm = 14)) ∧ (ra = 0) ∧ (im = 0) ∧ (kd = 0) ∧ (0 ≤ bs ∧ bs ≤ 3) ∧ (st = 0) ∧ (cd = 0) ∧ (rg = 0)) (w : Int) (hw : w = 4164943872 + (rn * 65536 + rd * 4096 + bs * 16 + rm)) : rdOf f 26 w = rd ∧ rnOf f 26 w = rn ∧ rmOf f 26 w = rm ∧ raOf f 26 w = ra ∧ imOf f 26 w = im ∧ kdOf f 26 w = kd ∧ bsOf f 26 w = bs ∧ stOf f 26 w = st ∧ cdOf f 26 w = cd ∧ rgOf f 26 w = rg := by
  obtain ⟨h1, h2, h3, h4, h5, h6, h7, h8, h9, h10⟩ := h
  obtain ⟨q0, q1, q2, q3⟩ := cut_86  (by omega) (by omega) (by omega) (by omega) w hw
  clear hw
  rw [rd_26, rn_26, rm_26, ra_26, im_26, kd_26, bs_26, st_26, cd_26, rg_26]
  rw [q0, q1, q2, q3]
  clear q0 q1 q2 q3
  exact ⟨by omega, by omega, by omega, by omega, by omega, by omega, by omega, by omega, by omega, by omega⟩
theorem cut_87 {rn rd bs rm : Int} (b0 : 0 ≤ rn ∧ rn ≤ 15) (b1 : 0 ≤ rd ∧ rd ≤ 15) (b2 : 0 ≤ bs ∧ bs ≤ 3) (b3 : 0 ≤ rm ∧ rm ≤ 15) (w : Int) (hw : w = 4165992448 + (rn * 65536 + rd * 4096 + bs * 16 + rm)) : w / 4096 % 16 = rd ∧ w / 65536 % 16 = rn ∧ w % 16 = rm ∧ w / 16 % 4 = bs := by
  have e1 : w / 65536 = 63568 + rn := by omega
  have e2 : w % 65536 = 0 + rd * 4096 + bs * 16 + rm := by omega
  rw [half_4096_16 w, half_65536_16 w, half_1_16 w, half_16_4 w, e1, e2]
  clear e1 e2 hw
  exact ⟨by omega, by omega, by omega, by omega⟩
theorem back_87 {f rd rn rm ra im kd bs st cd rg : Int} (hf : f = 87) (h : ((0 ≤ rd ∧ rd ≤ 12 ∨ rd = 14)) ∧ (0 ≤ rn ∧ rn ≤ 14) ∧ ((0 ≤ rm ∧ rm ≤ 12 ∨ rm = 14)) ∧ (ra = 0) ∧ (im = 0) ∧ (kd = 0) ∧ (0 ≤ bs ∧ bs ≤ 3) ∧ (st = 0) ∧ (cd = 0) ∧ (rg = 0)) (w : Int) (hw : w = 4165992448 + (rn * 65536 + rd * 4096 + bs * 16 + rm)) : rdOf f 26 w = rd ∧ rnOf f 26 w = rn ∧ rmOf f 26 w = rm ∧ raOf f 26 w = ra ∧ imOf f 26 w = im ∧ kdOf f 26 w = kd ∧ bsOf f 26 w = bs ∧ stOf f 26 w = st ∧ cdOf f 26 w = cd ∧ rgOf f 26 w = rg := by
  obtain ⟨h1, h2, h3, h4, h5, h6, h7, h8, h9, h10⟩ := h
  obtain ⟨q0, q1, q2, q3⟩ := cut_87  (by omega) (by omega) (by omega) (by omega) w hw
  clear hw
  rw [rd_26, rn_26, rm_26, ra_26, im_26, kd_26, bs_26, st_26, cd_26, rg_26]
  rw [q0, q1, q2, q3]
  clear q0 q1 q2 q3
  exact ⟨by omega, by omega, by omega, by omega, by omega, by omega, by omega, by omega, by omega, by omega⟩
theorem cut_88 {st rn ra rd rm : Int} (b0 : 0 ≤ st ∧ st ≤ 1) (b1 : 0 ≤ rn ∧ rn ≤ 15) (b2 : 0 ≤ ra ∧ ra ≤ 0) (b3 : 0 ≤ rd ∧ rd ≤ 15) (b4 : 0 ≤ rm ∧ rm ≤ 15) (w : Int) (hw : w = 4194365440 + (st * 1048576 + rn * 65536 + ra * 4096 + rd * 256 + rm)) : w / 256 % 16 = rd ∧ w / 65536 % 16 = rn ∧ w % 16 = rm ∧ w / 1048576 % 2 = st := by
  have e1 : w / 65536 = 64000 + st * 16 + rn := by omega
  have e2 : w % 65536 = 61440 + ra * 4096 + rd * 256 + rm := by omega
  rw [half_256_16 w, half_65536_16 w, half_1_16 w, half_1048576_2 w, e1, e2]
  clear e1 e2 hw
  exact ⟨by omega, by omega, by omega, by omega⟩
theorem back_88 {f rd rn rm ra im kd bs st cd rg : Int} (hf : f = 88) (h : ((0 ≤ rd ∧ rd ≤ 12 ∨ rd = 14)) ∧ ((0 ≤ rn ∧ rn ≤ 12 ∨ rn = 14)) ∧ ((0 ≤ rm ∧ rm ≤ 12 ∨ rm = 14)) ∧ (ra = 0) ∧ (im = 0) ∧ (kd = 0) ∧ (bs = 0) ∧ (0 ≤ st ∧ st ≤ 1) ∧ (cd = 0) ∧ (rg = 0)) (w : Int) (hw : w = 4194365440 + (st * 1048576 + rn * 65536 + ra * 4096 + rd * 256 + rm)) : rdOf f 27 w = rd ∧ rnOf f 27 w = rn ∧ rmOf f 27 w = rm ∧ raOf f 27 w = ra ∧ imOf f 27 w = im ∧ kdOf f 27 w = kd ∧ bsOf f 27 w = bs ∧ stOf f 27 w = st ∧ cdOf f 27 w = cd ∧ rgOf f 27 w = rg := by
  obtain ⟨h1, h2, h3, h4, h5, h6, h7, h8, h9, h10⟩ := h
  obtain ⟨q0, q1, q2, q3⟩ := cut_88  (by omega) (by omega) (by omega) (by omega) (by omega) w hw
  clear hw
  rw [rd_27, rn_27, rm_27, ra_27, im_27, kd_27, bs_27, st_27, cd_27, rg_27]
  rw [q0, q1, q2, q3]
  clear q0 q1 q2 q3
  exact ⟨by omega, by omega, by omega, by omega, by omega, by omega, by omega, by omega, by omega, by omega⟩
theorem cut_89 {st rn ra rd rm : Int} (b0 : 0 ≤ st ∧ st ≤ 1) (b1 : 0 ≤ rn ∧ rn ≤ 15) (b2 : 0 ≤ ra ∧ ra ≤ 0) (b3 : 0 ≤ rd ∧ rd ≤ 15) (b4 : 0 ≤ rm ∧ rm ≤ 15) (w : Int) (hw : w = 4196462592 + (st * 1048576 + rn * 65536 + ra * 4096 + rd * 256 + rm)) : w / 256 % 16 = rd ∧ w / 65536 % 16 = rn ∧ w % 16 = rm ∧ w / 1048576 % 2 = st := by
  have e1 : w / 65536 = 64032 + st * 16 + rn := by omega
  have e2 : w % 65536 = 61440 + ra * 4096 + rd * 256 + rm := by omega
  rw [half_256_16 w, half_65536_16 w, half_1_16 w, half_1048576_2 w, e1, e2]
  clear e1 e2 hw
  exact ⟨by omega, by omega, by omega, by omega⟩
theorem back_89 {f rd rn rm ra im kd bs st cd rg : Int} (hf : f = 89) (h : ((0 ≤ rd ∧ rd ≤ 12 ∨ rd = 14)) ∧ ((0 ≤ rn ∧ rn ≤ 12 ∨ rn = 14)) ∧ ((0 ≤ rm ∧ rm ≤ 12 ∨ rm = 14)) ∧ (ra = 0) ∧ (im = 0) ∧ (kd = 0) ∧ (bs = 0) ∧ (0 ≤ st ∧ st ≤ 1) ∧ (cd = 0) ∧ (rg = 0)) (w : Int) (hw : w = 4196462592 + (st * 1048576 + rn * 65536 + ra * 4096 + rd * 256 + rm)) : rdOf f 27 w = rd ∧ rnOf f 27 w = rn ∧ rmOf f 27 w = rm ∧ raOf f 27 w = ra ∧ imOf f 27 w = im ∧ kdOf f 27 w = kd ∧ bsOf f 27 w = bs ∧ stOf f 27 w = st ∧ cdOf f 27 w = cd ∧ rgOf f 27 w = rg := by
  obtain ⟨h1, h2, h3, h4, h5, h6, h7, h8, h9, h10⟩ := h
  obtain ⟨q0, q1, q2, q3⟩ := cut_89  (by omega) (by omega) (by omega) (by omega) (by omega) w hw
  clear hw
  rw [rd_27, rn_27, rm_27, ra_27, im_27, kd_27, bs_27, st_27, cd_27, rg_27]
  rw [q0, q1, q2, q3]
  clear q0 q1 q2 q3
  exact ⟨by omega, by omega, by omega, by omega, by omega, by omega, by omega, by omega, by omega, by omega⟩
theorem cut_90 {st rn ra rd rm : Int} (b0 : 0 ≤ st ∧ st ≤ 1) (b1 : 0 ≤ rn ∧ rn ≤ 15) (b2 : 0 ≤ ra ∧ ra ≤ 0) (b3 : 0 ≤ rd ∧ rd ≤ 15) (b4 : 0 ≤ rm ∧ rm ≤ 15) (w : Int) (hw : w = 4198559744 + (st * 1048576 + rn * 65536 + ra * 4096 + rd * 256 + rm)) : w / 256 % 16 = rd ∧ w / 65536 % 16 = rn ∧ w % 16 = rm ∧ w / 1048576 % 2 = st := by
  have e1 : w / 65536 = 64064 + st * 16 + rn := by omega
  have e2 : w % 65536 = 61440 + ra * 4096 + rd * 256 + rm := by omega
  rw [half_256_16 w, half_65536_16 w, half_1_16 w, half_1048576_2 w, e1, e2]
  clear e1 e2 hw
  exact ⟨by omega, by omega, by omega, by omega⟩
theorem back_90 {f rd rn rm ra im kd bs st cd rg : Int} (hf : f = 90) (h : ((0 ≤ rd ∧ rd ≤ 12 ∨ rd = 14)) ∧ ((0 ≤ rn ∧ rn ≤ 12 ∨ rn = 14)) ∧ ((0 ≤ rm ∧ rm ≤ 12 ∨ rm = 14)) ∧ (ra = 0) ∧ (im = 0) ∧ (kd = 0) ∧ (bs = 0) ∧ (0 ≤ st ∧ st ≤ 1) ∧ (cd = 0) ∧ (rg = 0)) (w : Int) (hw : w = 4198559744 + (st * 1048576 + rn * 65536 + ra * 4096 + rd * 256 + rm)) : rdOf f 27 w = rd ∧ rnOf f 27 w = rn ∧ rmOf f 27 w = rm ∧ raOf f 27 w = ra ∧ imOf f 27 w = im ∧ kdOf f 27 w = kd ∧ bsOf f 27 w = bs ∧ stOf f 27 w = st ∧ cdOf f 27 w = cd ∧ rgOf f 27 w = rg := by
  obtain ⟨h1, h2, h3, h4, h5, h6, h7, h8, h9, h10⟩ := h
  obtain ⟨q0, q1, q2, q3⟩ := cut_90  (by omega) (by omega) (by omega) (by omega) (by omega) w hw
  clear hw
  rw [rd_27, rn_27, rm_27, ra_27, im_27, kd_27, bs_27, st_27, cd_27, rg_27]
  rw [q0, q1, q2, q3]
  clear q0 q1 q2 q3
  exact ⟨by omega, by omega, by omega, by omega, by omega, by omega, by omega, by omega, by omega, by omega⟩
theorem cut_91 {st rn ra rd rm : Int} (b0 : 0 ≤ st ∧ st ≤ 1) (b1 : 0 ≤ rn ∧ rn ≤ 15) (b2 : 0 ≤ ra ∧ ra ≤ 0) (b3 : 0 ≤ rd ∧ rd ≤ 15) (b4 : 0 ≤ rm ∧ rm ≤ 15) (w : Int) (hw : w = 4200656896 + (st * 1048576 + rn * 65536 + ra * 4096 + rd * 256 + rm)) : w / 256 % 16 = rd ∧ w / 65536 % 16 = rn ∧ w % 16 = rm ∧ w / 1048576 % 2 = st := by
  have e1 : w / 65536 = 64096 + st * 16 + rn := by omega
  have e2 : w % 65536 = 61440 + ra * 4096 + rd * 256 + rm := by omega
  rw [half_256_16 w, half_65536_16 w, half_1_16 w, half_1048576_2 w, e1, e2]
  clear e1 e2 hw
  exact ⟨by omega, by omega, by omega, by omega⟩
theorem back_91 {f rd rn rm ra im kd bs st cd rg : Int} (hf : f = 91) (h : ((0 ≤ rd ∧ rd ≤ 12 ∨ rd = 14)) ∧ ((0 ≤ rn ∧ rn ≤ 12 ∨ rn = 14)) ∧ ((0 ≤ rm ∧ rm ≤ 12 ∨ rm = 14)) ∧ (ra = 0) ∧ (im = 0) ∧ (kd = 0) ∧ (bs = 0) ∧ (0 ≤ st ∧ st ≤ 1) ∧ (cd = 0) ∧ (rg = 0)) (w : Int) (hw : w = 4200656896 + (st * 1048576 + rn * 65536 + ra * 4096 + rd * 256 + rm)) : rdOf f 27 w = rd ∧ rnOf f 27 w = rn ∧ rmOf f 27 w = rm ∧ raOf f 27 w = ra ∧ imOf f 27 w = im ∧ kdOf f 27 w = kd ∧ bsOf f 27 w = bs ∧ stOf f 27 w = st ∧ cdOf f 27 w = cd ∧ rgOf f 27 w = rg := by
  obtain ⟨h1, h2, h3, h4, h5, h6, h7, h8, h9, h10⟩ := h
  obtain ⟨q0, q1, q2, q3⟩ := cut_91  (by omega) (by omega) (by omega) (by omega) (by omega) w hw
  clear hw
  rw [rd_27, rn_27, rm_27, ra_27, im_27, kd_27, bs_27, st_27, cd_27, rg_27]
  rw [q0, q1, q2, q3]
  clear q0 q1 q2 q3
  exact ⟨by omega, by omega, by omega, by omega, by omega, by omega, by omega, by omega, by omega, by omega⟩
theorem cut_92 {st rn ra rd rm : Int} (b0 : 0 ≤ st ∧ st ≤ 0) (b1 : 0 ≤ rn ∧ rn ≤ 15) (b2 : 0 ≤ ra ∧ ra ≤ 0) (b3 : 0 ≤ rd ∧ rd ≤ 15) (b4 : 0 ≤ rm ∧ rm ≤ 15) (w : Int) (hw : w = 4211142656 + (st * 1048576 + rn * 65536 + ra * 4096 + rd * 256 + rm)) : w / 256 % 16 = rd ∧ w / 65536 % 16 = rn ∧ w % 16 = rm := by
  have e1 : w / 65536 = 64256 + st * 16 + rn := by omega
  have e2 : w % 65536 = 61440 + ra * 4096 + rd * 256 + rm := by omega
  rw [half_256_16 w, half_65536_16 w, half_1_16 w, e1, e2]
  clear e1 e2 hw
  exact ⟨by omega, by omega, by omega⟩
theorem back_92 {f rd rn rm ra im kd bs st cd rg : Int} (hf : f = 92) (h : ((0 ≤ rd ∧ rd ≤ 12 ∨ rd = 14)) ∧ ((0 ≤ rn ∧ rn ≤ 12 ∨ rn = 14)) ∧ ((0 ≤ rm ∧ rm ≤ 12 ∨ rm = 14)) ∧ (ra = 0) ∧ (im = 0) ∧ (kd = 0) ∧ (bs = 0) ∧ (st = 0) ∧ (cd = 0) ∧ (rg = 0)) (w : Int) (hw : w = 4211142656 + (st * 1048576 + rn * 65536 + ra * 4096 + rd * 256 + rm)) : rdOf f 28 w = rd ∧ rnOf f 28 w = rn ∧ rmOf f 28 w = rm ∧ raOf f 28 w = ra ∧ imOf f 28 w = im ∧ kdOf f 28 w = kd ∧ bsOf f 28 w = bs ∧ stOf f 28 w = st ∧ cdOf f 28 w = cd ∧ rgOf f 28 w = rg := by
  obtain ⟨h1, h2, h3, h4, h5, h6, h7, h8, h9, h10⟩ := h
  obtain ⟨q0, q1, q2⟩ := cut_92  (by omega) (by omega) (by omega) (by omega) (by omega) w hw
  clear hw
  rw [rd_28, rn_28, rm_28, ra_28, im_28, kd_28, bs_28, st_28, cd_28, rg_28]
  rw [q0, q1, q2]
  clear q0 q1 q2
  exact ⟨by omega, by omega, by omega, by omega, by omega, by omega, by omega, by omega, by omega, by omega⟩
theorem cut_93 {st rn ra rd rm : Int} (b0 : 0 ≤ st ∧ st ≤ 0) (b1 : 0 ≤ rn ∧ rn ≤ 15) (b2 : 0 ≤ ra ∧ ra ≤ 15) (b3 : 0 ≤ rd ∧ rd ≤ 15) (b4 : 0 ≤ rm ∧ rm ≤ 15) (w : Int) (hw : w = 4211081216 + (st * 1048576 + rn * 65536 + ra * 4096 + rd * 256 + rm)) : w / 256 % 16 = rd ∧ w / 65536 % 16 = rn ∧ w % 16 = rm ∧ w / 4096 % 16 = ra := by
  have e1 : w / 65536 = 64256 + st * 16 + rn := by omega
  have e2 : w % 65536 = 0 + ra * 4096 + rd * 256 + rm := by omega
  rw [half_256_16 w, half_65536_16 w, half_1_16 w, half_4096_16 w, e1, e2]
  clear e1 e2 hw
  exact ⟨by omega, by omega, by omega, by omega⟩
theorem back_93 {f rd rn rm ra im kd bs st cd rg : Int} (hf : f = 93) (h : ((0 ≤ rd ∧ rd ≤ 12 ∨ rd = 14)) ∧ ((0 ≤ rn ∧ rn ≤ 12 ∨ rn = 14)) ∧ ((0 ≤ rm ∧ rm ≤ 12 ∨ rm = 14)) ∧ ((0 ≤ ra ∧ ra ≤ 12 ∨ ra = 14)) ∧ (im = 0) ∧ (kd = 0) ∧ (bs = 0) ∧ (st = 0) ∧ (cd = 0) ∧ (rg = 0)) (w : Int) (hw : w = 4211081216 + (st * 1048576 + rn * 65536 + ra * 4096 + rd * 256 + rm)) : rdOf f 29 w = rd ∧ rnOf f 29 w = rn ∧ rmOf f 29 w = rm ∧ raOf f 29 w = ra ∧ imOf f 29 w = im ∧ kdOf f 29 w = kd ∧ bsOf f 29 w = bs ∧ stOf f 29 w = st ∧ cdOf f 29 w = cd ∧ rgOf f 29 w = rg := by
  obtain ⟨h1, h2, h3, h4, h5, h6, h7, h8, h9, h10⟩ := h
  obtain ⟨q0, q1, q2, q3⟩ := cut_93  (by omega) (by omega) (by omega) (by omega) (by omega) w hw
  clear hw
  rw [rd_29, rn_29, rm_29, ra_29, im_29, kd_29, bs_29, st_29, cd_29, rg_29]
  rw [q0, q1, q2, q3]
  clear q0 q1 q2 q3
  exact ⟨by omega, by omega, by omega, by omega, by omega, by omega, by omega, by omega, by omega, by omega⟩
theorem cut_94 {st rn ra rd rm : Int} (b0 : 0 ≤ st ∧ st ≤ 0) (b1 : 0 ≤ rn ∧ rn ≤ 15) (b2 : 0 ≤ ra ∧ ra ≤ 15) (b3 : 0 ≤ rd ∧ rd ≤ 15) (b4 : 0 ≤ rm ∧ rm ≤ 15) (w : Int) (hw : w = 4211081232 + (st * 1048576 + rn * 65536 + ra * 4096 + rd * 256 + rm)) : w / 256 % 16 = rd ∧ w / 65536 % 16 = rn ∧ w % 16 = rm ∧ w / 4096 % 16 = ra := by
  have e1 : w / 65536 = 64256 + st * 16 + rn := by omega
  have e2 : w % 65536 = 16 + ra * 4096 + rd * 256 + rm := by omega
  rw [half_256_16 w, half_65536_16 w, half_1_16 w, half_4096_16 w, e1, e2]
  clear e1 e2 hw
  exact ⟨by omega, by omega, by omega, by omega⟩
theorem back_94 {f rd rn rm ra im kd bs st cd rg : Int} (hf : f = 94) (h : ((0 ≤ rd ∧ rd ≤ 12 ∨ rd = 14)) ∧ ((0 ≤ rn ∧ rn ≤ 12 ∨ rn = 14)) ∧ ((0 ≤ rm ∧ rm ≤ 12 ∨ rm = 14)) ∧ ((0 ≤ ra ∧ ra ≤ 12 ∨ ra = 14)) ∧ (im = 0) ∧ (kd = 0) ∧ (bs = 0) ∧ (st = 0) ∧ (cd = 0) ∧ (rg = 0)) (w : Int) (hw : w = 4211081232 + (st * 1048576 + rn * 65536 + ra * 4096 + rd * 256 + rm)) : rdOf f 30 w = rd ∧ rnOf f 30 w = rn ∧ rmOf f 30 w = rm ∧ raOf f 30 w = ra ∧ imOf f 30 w = im ∧ kdOf f 30 w = kd ∧ bsOf f 30 w = bs ∧ stOf f 30 w = st ∧ cdOf f 30 w = cd ∧ rgOf f 30 w = rg := by
  obtain ⟨h1, h2, h3, h4, h5, h6, h7, h8, h9, h10⟩ := h
  obtain ⟨q0, q1, q2, q3⟩ := cut_94  (by omega) (by omega) (by omega) (by omega) (by omega) w hw
  clear hw
  rw [rd_30, rn_30, rm_30, ra_30, im_30, kd_30, bs_30, st_30, cd_30, rg_30]
  rw [q0, q1, q2, q3]
  clear q0 q1 q2 q3
  exact ⟨by omega, by omega, by omega, by omega, by omega, by omega, by omega, by omega, by omega, by omega⟩
theorem cut_95 {rn rd ra rm : Int} (b0 : 0 ≤ rn ∧ rn ≤ 15) (b1 : 0 ≤ rd ∧ rd ≤ 15) (b2 : 0 ≤ ra ∧ ra ≤ 15) (b3 : 0 ≤ rm ∧ rm ≤ 15) (w : Int) (hw : w = 4221566976 + (rn * 65536 + rd * 4096 + ra * 256 + rm)) : w / 4096 % 16 = rd ∧ w / 65536 % 16 = rn ∧ w % 16 = rm ∧ w / 256 % 16 = ra := by
  have e1 : w / 65536 = 64416 + rn := by omega
  have e2 : w % 65536 = 0 + rd * 4096 + ra * 256 + rm := by omega
  rw [half_4096_16 w, half_65536_16 w, half_1_16 w, half_256_16 w, e1, e2]
  clear e1 e2 hw
  exact ⟨by omega, by omega, by omega, by omega⟩
theorem back_95 {f rd rn rm ra im kd bs st cd rg : Int} (hf : f = 95) (h : ((0 ≤ rd ∧ rd ≤ 12 ∨ rd = 14)) ∧ ((0 ≤ rn ∧ rn ≤ 12 ∨ rn = 14)) ∧ ((0 ≤ rm ∧ rm ≤ 12 ∨ rm = 14)) ∧ ((0 ≤ ra ∧ ra ≤ 12 ∨ ra = 14)) ∧ (im = 0) ∧ (kd = 0) ∧ (bs = 0) ∧ (st = 0) ∧ (cd = 0) ∧ (rg = 0)) (w : Int) (hw : w = 4221566976 + (rn * 65536 + rd * 4096 + ra * 256 + rm)) : rdOf f 31 w = rd ∧ rnOf f 31 w = rn ∧ rmOf f 31 w = rm ∧ raOf f 31 w = ra ∧ imOf f 31 w = im ∧ kdOf f 31 w = kd ∧ bsOf f 31 w = bs ∧ stOf f 31 w = st ∧ cdOf f 31 w = cd ∧ rgOf f 31 w = rg := by
  obtain ⟨h1, h2, h3, h4, h5, h6, h7, h8, h9, h10⟩ := h
  obtain ⟨q0, q1, q2, q3⟩ := cut_95  (by omega) (by omega) (by omega) (by omega) w hw
  clear hw
  rw [rd_31, rn_31, rm_31, ra_31, im_31, kd_31, bs_31, st_31, cd_31, rg_31]
  rw [q0, q1, q2, q3]
  clear q0 q1 q2 q3
  exact ⟨by omega, by omega, by omega, by omega, by omega, by omega, by omega, by omega, by omega, by omega⟩
theorem cut_96 {rn rd ra rm : Int} (b0 : 0 ≤ rn ∧ rn ≤ 15) (b1 : 0 ≤ rd ∧ rd ≤ 15) (b2 : 0 ≤ ra ∧ ra ≤ 15) (b3 : 0 ≤ rm ∧ rm ≤ 15) (w : Int) (hw : w = 4225761280 + (rn * 65536 + rd * 4096 + ra * 256 + rm)) : w / 4096 % 16 = rd ∧ w / 65536 % 16 = rn ∧ w % 16 = rm ∧ w / 256 % 16 = ra := by
  have e1 : w / 65536 = 64480 + rn := by omega
  have e2 : w % 65536 = 0 + rd * 4096 + ra * 256 + rm := by omega
  rw [half_4096_16 w, half_65536_16 w, half_1_16 w, half_256_16 w, e1, e2]
  clear e1 e2 hw
  exact ⟨by omega, by omega, by omega, by omega⟩
theorem back_96 {f rd rn rm ra im kd bs st cd rg : Int} (hf : f = 96) (h : ((0 ≤ rd ∧ rd ≤ 12 ∨ rd = 14)) ∧ ((0 ≤ rn ∧ rn ≤ 12 ∨ rn = 14)) ∧ ((0 ≤ rm ∧ rm ≤ 12 ∨ rm = 14)) ∧ ((0 ≤ ra ∧ ra ≤ 12 ∨ ra = 14)) ∧ (im = 0) ∧ (kd = 0) ∧ (bs = 0) ∧ (st = 0) ∧ (cd = 0) ∧ (rg = 0)) (w : Int) (hw : w = 4225761280 + (rn * 65536 + rd * 4096 + ra * 256 + rm)) : rdOf f 31 w = rd ∧ rnOf f 31 w = rn ∧ rmOf f 31 w = rm ∧ raOf f 31 w = ra ∧ imOf f 31 w = im ∧ kdOf f 31 w = kd ∧ bsOf f 31 w = bs ∧ stOf f 31 w = st ∧ cdOf f 31 w = cd ∧ rgOf f 31 w = rg := by
  obtain ⟨h1, h2, h3, h4, h5, h6, h7, h8, h9, h10⟩ := h
  obtain ⟨q0, q1, q2, q3⟩ := cut_96  (by omega) (by omega) (by omega) (by omega) w hw
  clear hw
  rw [rd_31, rn_31, rm_31, ra_31, im_31, kd_31, bs_31, st_31, cd_31, rg_31]
  rw [q0, q1, q2, q3]
  clear q0 q1 q2 q3
  exact ⟨by omega, by omega, by omega, by omega, by omega, by omega, by omega, by omega, by omega, by omega⟩
theorem cut_97 {st rn ra rd rm : Int} (b0 : 0 ≤ st ∧ st ≤ 0) (b1 : 0 ≤ rn ∧ rn ≤ 15) (b2 : 0 ≤ ra ∧ ra ≤ 0) (b3 : 0 ≤ rd ∧ rd ≤ 15) (b4 : 0 ≤ rm ∧ rm ≤ 15) (w : Int) (hw : w = 4222677232 + (st * 1048576 + rn * 65536 + ra * 4096 + rd * 256 + rm)) : w / 256 % 16 = rd ∧ w / 65536 % 16 = rn ∧ w % 16 = rm := by
  have e1 : w / 65536 = 64432 + st * 16 + rn := by omega
  have e2 : w % 65536 = 61680 + ra * 4096 + rd * 256 + rm := by omega
  rw [half_256_16 w, half_65536_16 w, half_1_16 w, e1, e2]
  clear e1 e2 hw
  exact ⟨by omega, by omega, by omega⟩
theorem back_97 {f rd rn rm ra im kd bs st cd rg : Int} (hf : f = 97) (h : ((0 ≤ rd ∧ rd ≤ 12 ∨ rd = 14)) ∧ ((0 ≤ rn ∧ rn ≤ 12 ∨ rn = 14)) ∧ ((0 ≤ rm ∧ rm ≤ 12 ∨ rm = 14)) ∧ (ra = 0) ∧ (im = 0) ∧ (kd = 0) ∧ (bs = 0) ∧ (st = 0) ∧ (cd = 0) ∧ (rg = 0)) (w : Int) (hw : w = 4222677232 + (st * 1048576 + rn * 65536 + ra * 4096 + rd * 256 + rm)) : rdOf f 28 w = rd ∧ rnOf f 28 w = rn ∧ rmOf f 28 w = rm ∧ raOf f 28 w = ra ∧ imOf f 28 w = im ∧ kdOf f 28 w = kd ∧ bsOf f 28 w = bs ∧ stOf f 28 w = st ∧ cdOf f 28 w = cd ∧ rgOf f 28 w = rg := by
  obtain ⟨h1, h2, h3, h4, h5, h6, h7, h8, h9, h10⟩ := h
  obtain ⟨q0, q1, q2⟩ := cut_97  (by omega) (by omega) (by omega) (by omega) (by omega) w hw
  clear hw
  rw [rd_28, rn_28, rm_28, ra_28, im_28, kd_28, bs_28, st_28, cd_28, rg_28]
  rw [q0, q1, q2]
  clear q0 q1 q2
  exact ⟨by omega, by omega, by omega, by omega, by omega, by omega, by omega, by omega, by omega, by omega⟩
theorem cut_98 {rm rd : Int} (b0 : 0 ≤ rm ∧ rm ≤ 15) (b1 : 0 ≤ rd ∧ rd ≤ 15) (w : Int) (hw : w = 4205899904 + (rm * 65536 + rd * 256 + rm)) : w / 256 % 16 = rd ∧ w % 16 = rm := by
  have e1 : w / 65536 = 64176 + rm := by omega
  have e2 : w % 65536 = 61568 + rd * 256 + rm := by omega
  rw [half_256_16 w, half_1_16 w, e2]
  clear e1 e2 hw
  exact ⟨by omega, by omega⟩
theorem back_98 {f rd rn rm ra im kd bs st cd rg : Int} (hf : f = 98) (h : ((0 ≤ rd ∧ rd ≤ 12 ∨ rd = 14)) ∧ (rn = 0) ∧ ((0 ≤ rm ∧ rm ≤ 12 ∨ rm = 14)) ∧ (ra = 0) ∧ (im = 0) ∧ (kd = 0) ∧ (bs = 0) ∧ (st = 0) ∧ (cd = 0) ∧ (rg = 0)) (w : Int) (hw : w = 4205899904 + (rm * 65536 + rd * 256 + rm)) : rdOf f 32 w = rd ∧ rnOf f 32 w = rn ∧ rmOf f 32 w = rm ∧ raOf f 32 w = ra ∧ imOf f 32 w = im ∧ kdOf f 32 w = kd ∧ bsOf f 32 w = bs ∧ stOf f 32 w = st ∧ cdOf f 32 w = cd ∧ rgOf f 32 w = rg := by
  obtain ⟨h1, h2, h3, h4, h5, h6, h7, h8, h9, h10⟩ := h
  obtain ⟨q0, q1⟩ := cut_98  (by omega) (by omega) w hw
  clear hw
  rw [rd_32, rn_32, rm_32, ra_32, im_32, kd_32, bs_32, st_32, cd_32, rg_32]
  rw [q0, q1]
  clear q0 q1
  exact ⟨by omega, by omega, by omega, by omega, by omega, by omega, by omega, by omega, by omega, by omega⟩
theorem cut_99 {y0 cd y1 y2 y3 y4 : Int} (b0 : 0 ≤ y0 ∧ y0 ≤ 1) (b1 : 0 ≤ cd ∧ cd ≤ 15) (b2 : 0 ≤ y1 ∧ y1 ≤ 63) (b3 : 0 ≤ y2 ∧ y2 ≤ 1) (b4 : 0 ≤ y3 ∧ y3 ≤ 1) (b5 : 0 ≤ y4 ∧ y4 ≤ 2047) (w : Int) (hw : w = 4026564608 + (y0 * 67108864 + cd * 4194304 + y1 * 65536 + y2 * 8192 + y3 * 2048 + y4)) : w / 67108864 % 2 = y0 ∧ w / 65536 % 64 = y1 ∧ w / 8192 % 2 = y2 ∧ w / 2048 % 2 = y3 ∧ w % 2048 = y4 ∧ w / 4194304 % 16 = cd := by
  have e1 : w / 65536 = 61440 + y0 * 1024 + cd * 64 + y1 := by omega
  have e2 : w % 65536 = 32768 + y2 * 8192 + y3 * 2048 + y4 := by omega
  rw [half_67108864_2 w, half_65536_64 w, half_8192_2 w, half_2048_2 w, half_1_2048 w, half_4194304_16 w, e1, e2]
  clear e1 e2 hw
  exact ⟨by omega, by omega, by omega, by omega, by omega, by omega⟩
theorem back_99 {f rd rn rm ra im kd bs st cd rg : Int} (hf : f = 99) (h : (rd = 0) ∧ (rn = 0) ∧ (rm = 0) ∧ (ra = 0) ∧ (-1048576 ≤ im ∧ im ≤ 1048574 ∧ im % 2 = 0) ∧ (kd = 0) ∧ (bs = 0) ∧ (st = 0) ∧ (0 ≤ cd ∧ cd ≤ 13) ∧ (rg = 0)) (w : Int) (hw : w = 4026564608 + (im / 1048576 % 2 * 67108864 + cd * 4194304 + im / 4096 % 64 * 65536 + im / 262144 % 2 * 8192 + im / 524288 % 2 * 2048 + im / 2 % 2048)) : rdOf f 33 w = rd ∧ rnOf f 33 w = rn ∧ rmOf f 33 w = rm ∧ raOf f 33 w = ra ∧ imOf f 33 w = im ∧ kdOf f 33 w = kd ∧ bsOf f 33 w = bs ∧ stOf f 33 w = st ∧ cdOf f 33 w = cd ∧ rgOf f 33 w = rg := by
  obtain ⟨h1, h2, h3, h4, h5, h6, h7, h8, h9, h10⟩ := h
  obtain ⟨q0, q1, q2, q3, q4, q5⟩ := cut_99 (y0 := im / 1048576 % 2) (y1 := im / 4096 % 64) (y2 := im / 262144 % 2) (y3 := im / 524288 % 2) (y4 := im / 2 % 2048) (by omega) (by omega) (by omega) (by omega) (by omega) (by omega) w hw
  clear hw
  rw [rd_33, rn_33, rm_33, ra_33, im_33, kd_33, bs_33, st_33, cd_33, rg_33]
  rw [q0, q1, q2, q3, q4, q5]
  clear q0 q1 q2 q3 q4 q5
  exact ⟨by omega, by omega, by omega, by omega, by unfold sgn; first | omega | (split <;> omega), by omega, by omega, by omega, by omega, by omega⟩
theorem cut_100 {y0 y1 y2 y3 y4 : Int} (b0 : 0 ≤ y0 ∧ y0 ≤ 1) (b1 : 0 ≤ y1 ∧ y1 ≤ 1023) (b2 : 0 ≤ y2 ∧ y2 ≤ 1) (b3 : 0 ≤ y3 ∧ y3 ≤ 1) (b4 : 0 ≤ y4 ∧ y4 ≤ 2047) (w : Int) (hw : w = 4026568704 + (y0 * 67108864 + y1 * 65536 + y2 * 8192 + y3 * 2048 + y4)) : w / 67108864 % 2 = y0 ∧ w / 65536 % 1024 = y1 ∧ w / 8192 % 2 = y2 ∧ w / 2048 % 2 = y3 ∧ w % 2048 = y4 := by
  have e1 : w / 65536 = 61440 + y0 * 1024 + y1 := by omega
  have e2 : w % 65536 = 36864 + y2 * 8192 + y3 * 2048 + y4 := by omega
  rw [half_67108864_2 w, half_65536_1024 w, half_8192_2 w, half_2048_2 w, half_1_2048 w, e1, e2]
  clear e1 e2 hw
  exact ⟨by omega, by omega, by omega, by omega, by omega⟩
theorem back_100 {f rd rn rm ra im kd bs st cd rg : Int} (hf : f = 100) (h : (rd = 0) ∧ (rn = 0) ∧ (rm = 0) ∧ (ra = 0) ∧ (-16777216 ≤ im ∧ im ≤ 16777214 ∧ im % 2 = 0) ∧ (kd = 0) ∧ (bs = 0) ∧ (st = 0) ∧ (cd = 0) ∧ (rg = 0)) (w : Int) (hw : w = 4026568704 + (im / 16777216 % 2 * 67108864 + im / 4096 % 1024 * 65536 + j1 im * 8192 + j2 im * 2048 + im / 2 % 2048)) : rdOf f 34 w = rd ∧ rnOf f 34 w = rn ∧ rmOf f 34 w = rm ∧ raOf f 34 w = ra ∧ imOf f 34 w = im ∧ kdOf f 34 w = kd ∧ bsOf f 34 w = bs ∧ stOf f 34 w = st ∧ cdOf f 34 w = cd ∧ rgOf f 34 w = rg := by
  obtain ⟨h1, h2, h3, h4, h5, h6, h7, h8, h9, h10⟩ := h
  obtain ⟨q0, q1, q2, q3, q4⟩ := cut_100 (y0 := im / 16777216 % 2) (y1 := im / 4096 % 1024) (y2 := j1 im) (y3 := j2 im) (y4 := im / 2 % 2048) (by omega) (by omega) (j1_bd im) (j2_bd im) (by omega) w hw
  clear hw
  rw [rd_34, rn_34, rm_34, ra_34, im_34, kd_34, bs_34, st_34, cd_34, rg_34]
  rw [q0, q1, q2, q3, q4]
  clear q0 q1 q2 q3 q4
  rw [j1_back, j2_back]
  exact ⟨by omega, by omega, by omega, by omega, by unfold sgn; first | omega | (split <;> omega), by omega, by omega, by omega, by omega, by omega⟩

end Go.Proofs.YtegefbndpkbooaaDoor.Code

/-! The fields of any right instruction are told by its form and its word; two right ones of one length with one word are the same. -/
set_option linter.unusedVariables false
set_option linter.unusedSimpArgs false
namespace Go.Proofs.YtegefbndpkbooaaDoor.Code
open Go.Proofs.YtegefbndpkbooaaDoor.Alu Go.Proofs.YtegefbndpkbooaaDoor.Imm Go.Proofs.YtegefbndpkbooaaDoor.Inst

/-- All fields, out of a form and a word. -/
def Told (f rd rn rm ra im kd bs st cd rg w : Int) : Prop := rdOf f (shp f) w = rd ∧ rnOf f (shp f) w = rn ∧ rmOf f (shp f) w = rm ∧ raOf f (shp f) w = ra ∧ imOf f (shp f) w = im ∧ kdOf f (shp f) w = kd ∧ bsOf f (shp f) w = bs ∧ stOf f (shp f) w = st ∧ cdOf f (shp f) w = cd ∧ rgOf f (shp f) w = rg

theorem told_1 {rd rn rm ra im kd bs st cd rg : Int} (h : (if shp 1 < 17 then narrowB 1 (shp 1) rd rn rm ra im kd bs st cd rg else wideB (shp 1) rd rn rm ra im kd bs st cd rg) = true) : Told 1 rd rn rm ra im kd bs st cd rg (wd 1 rd rn rm ra im kd bs st cd rg) := by
  have hs : shp 1 = 1 := by decide +kernel
  have hb : bts 1 = 0 := by decide +kernel
  unfold Told
  rw [hs] at h ⊢
  exact back_1 rfl (lin_1 h) _ (by unfold wd; rw [hs, hb, add_1])
theorem told_2 {rd rn rm ra im kd bs st cd rg : Int} (h : (if shp 2 < 17 then narrowB 2 (shp 2) rd rn rm ra im kd bs st cd rg else wideB (shp 2) rd rn rm ra im kd bs st cd rg) = true) : Told 2 rd rn rm ra im kd bs st cd rg (wd 2 rd rn rm ra im kd bs st cd rg) := by
  have hs : shp 2 = 1 := by decide +kernel
  have hb : bts 2 = 2048 := by decide +kernel
  unfold Told
  rw [hs] at h ⊢
  exact back_2 rfl (lin_1 h) _ (by unfold wd; rw [hs, hb, add_1])
theorem told_3 {rd rn rm ra im kd bs st cd rg : Int} (h : (if shp 3 < 17 then narrowB 3 (shp 3) rd rn rm ra im kd bs st cd rg else wideB (shp 3) rd rn rm ra im kd bs st cd rg) = true) : Told 3 rd rn rm ra im kd bs st cd rg (wd 3 rd rn rm ra im kd bs st cd rg) := by
  have hs : shp 3 = 1 := by decide +kernel
  have hb : bts 3 = 4096 := by decide +kernel
  unfold Told
  rw [hs] at h ⊢
  exact back_3 rfl (lin_1 h) _ (by unfold wd; rw [hs, hb, add_1])
theorem told_4 {rd rn rm ra im kd bs st cd rg : Int} (h : (if shp 4 < 17 then narrowB 4 (shp 4) rd rn rm ra im kd bs st cd rg else wideB (shp 4) rd rn rm ra im kd bs st cd rg) = true) : Told 4 rd rn rm ra im kd bs st cd rg (wd 4 rd rn rm ra im kd bs st cd rg) := by
  have hs : shp 4 = 2 := by decide +kernel
  have hb : bts 4 = 6144 := by decide +kernel
  unfold Told
  rw [hs] at h ⊢
  exact back_4 rfl (lin_2 h) _ (by unfold wd; rw [hs, hb, add_2])
theorem told_5 {rd rn rm ra im kd bs st cd rg : Int} (h : (if shp 5 < 17 then narrowB 5 (shp 5) rd rn rm ra im kd bs st cd rg else wideB (shp 5) rd rn rm ra im kd bs st cd rg) = true) : Told 5 rd rn rm ra im kd bs st cd rg (wd 5 rd rn rm ra im kd bs st cd rg) := by
  have hs : shp 5 = 2 := by decide +kernel
  have hb : bts 5 = 6656 := by decide +kernel
  unfold Told
  rw [hs] at h ⊢
  exact back_5 rfl (lin_2 h) _ (by unfold wd; rw [hs, hb, add_2])
theorem told_6 {rd rn rm ra im kd bs st cd rg : Int} (h : (if shp 6 < 17 then narrowB 6 (shp 6) rd rn rm ra im kd bs st cd rg else wideB (shp 6) rd rn rm ra im kd bs st cd rg) = true) : Told 6 rd rn rm ra im kd bs st cd rg (wd 6 rd rn rm ra im kd bs st cd rg) := by
  have hs : shp 6 = 3 := by decide +kernel
  have hb : bts 6 = 7168 := by decide +kernel
  unfold Told
  rw [hs] at h ⊢
  exact back_6 rfl (lin_3 h) _ (by unfold wd; rw [hs, hb, add_3])
theorem told_7 {rd rn rm ra im kd bs st cd rg : Int} (h : (if shp 7 < 17 then narrowB 7 (shp 7) rd rn rm ra im kd bs st cd rg else wideB (shp 7) rd rn rm ra im kd bs st cd rg) = true) : Told 7 rd rn rm ra im kd bs st cd rg (wd 7 rd rn rm ra im kd bs st cd rg) := by
  have hs : shp 7 = 3 := by decide +kernel
  have hb : bts 7 = 7680 := by decide +kernel
  unfold Told
  rw [hs] at h ⊢
  exact back_7 rfl (lin_3 h) _ (by unfold wd; rw [hs, hb, add_3])
theorem told_8 {rd rn rm ra im kd bs st cd rg : Int} (h : (if shp 8 < 17 then narrowB 8 (shp 8) rd rn rm ra im kd bs st cd rg else wideB (shp 8) rd rn rm ra im kd bs st cd rg) = true) : Told 8 rd rn rm ra im kd bs st cd rg (wd 8 rd rn rm ra im kd bs st cd rg) := by
  have hs : shp 8 = 4 := by decide +kernel
  have hb : bts 8 = 8192 := by decide +kernel
  unfold Told
  rw [hs] at h ⊢
  exact back_8 rfl (lin_4 h) _ (by unfold wd; rw [hs, hb, add_4])
theorem told_9 {rd rn rm ra im kd bs st cd rg : Int} (h : (if shp 9 < 17 then narrowB 9 (shp 9) rd rn rm ra im kd bs st cd rg else wideB (shp 9) rd rn rm ra im kd bs st cd rg) = true) : Told 9 rd rn rm ra im kd bs st cd rg (wd 9 rd rn rm ra im kd bs st cd rg) := by
  have hs : shp 9 = 4 := by decide +kernel
  have hb : bts 9 = 10240 := by decide +kernel
  unfold Told
  rw [hs] at h ⊢
  exact back_9 rfl (lin_4 h) _ (by unfold wd; rw [hs, hb, add_4])
theorem told_10 {rd rn rm ra im kd bs st cd rg : Int} (h : (if shp 10 < 17 then narrowB 10 (shp 10) rd rn rm ra im kd bs st cd rg else wideB (shp 10) rd rn rm ra im kd bs st cd rg) = true) : Told 10 rd rn rm ra im kd bs st cd rg (wd 10 rd rn rm ra im kd bs st cd rg) := by
  have hs : shp 10 = 4 := by decide +kernel
  have hb : bts 10 = 12288 := by decide +kernel
  unfold Told
  rw [hs] at h ⊢
  exact back_10 rfl (lin_4 h) _ (by unfold wd; rw [hs, hb, add_4])
theorem told_11 {rd rn rm ra im kd bs st cd rg : Int} (h : (if shp 11 < 17 then narrowB 11 (shp 11) rd rn rm ra im kd bs st cd rg else wideB (shp 11) rd rn rm ra im kd bs st cd rg) = true) : Told 11 rd rn rm ra im kd bs st cd rg (wd 11 rd rn rm ra im kd bs st cd rg) := by
  have hs : shp 11 = 4 := by decide +kernel
  have hb : bts 11 = 14336 := by decide +kernel
  unfold Told
  rw [hs] at h ⊢
  exact back_11 rfl (lin_4 h) _ (by unfold wd; rw [hs, hb, add_4])
theorem told_12 {rd rn rm ra im kd bs st cd rg : Int} (h : (if shp 12 < 17 then narrowB 12 (shp 12) rd rn rm ra im kd bs st cd rg else wideB (shp 12) rd rn rm ra im kd bs st cd rg) = true) : Told 12 rd rn rm ra im kd bs st cd rg (wd 12 rd rn rm ra im kd bs st cd rg) := by
  have hs : shp 12 = 5 := by decide +kernel
  have hb : bts 12 = 16384 := by decide +kernel
  unfold Told
  rw [hs] at h ⊢
  exact back_12 rfl (lin_5 h) _ (by unfold wd; rw [hs, hb, add_5])
theorem told_13 {rd rn rm ra im kd bs st cd rg : Int} (h : (if shp 13 < 17 then narrowB 13 (shp 13) rd rn rm ra im kd bs st cd rg else wideB (shp 13) rd rn rm ra im kd bs st cd rg) = true) : Told 13 rd rn rm ra im kd bs st cd rg (wd 13 rd rn rm ra im kd bs st cd rg) := by
  have hs : shp 13 = 5 := by decide +kernel
  have hb : bts 13 = 16448 := by decide +kernel
  unfold Told
  rw [hs] at h ⊢
  exact back_13 rfl (lin_5 h) _ (by unfold wd; rw [hs, hb, add_5])
theorem told_14 {rd rn rm ra im kd bs st cd rg : Int} (h : (if shp 14 < 17 then narrowB 14 (shp 14) rd rn rm ra im kd bs st cd rg else wideB (shp 14) rd rn rm ra im kd bs st cd rg) = true) : Told 14 rd rn rm ra im kd bs st cd rg (wd 14 rd rn rm ra im kd bs st cd rg) := by
  have hs : shp 14 = 5 := by decide +kernel
  have hb : bts 14 = 16512 := by decide +kernel
  unfold Told
  rw [hs] at h ⊢
  exact back_14 rfl (lin_5 h) _ (by unfold wd; rw [hs, hb, add_5])
theorem told_15 {rd rn rm ra im kd bs st cd rg : Int} (h : (if shp 15 < 17 then narrowB 15 (shp 15) rd rn rm ra im kd bs st cd rg else wideB (shp 15) rd rn rm ra im kd bs st cd rg) = true) : Told 15 rd rn rm ra im kd bs st cd rg (wd 15 rd rn rm ra im kd bs st cd rg) := by
  have hs : shp 15 = 5 := by decide +kernel
  have hb : bts 15 = 16576 := by decide +kernel
  unfold Told
  rw [hs] at h ⊢
  exact back_15 rfl (lin_5 h) _ (by unfold wd; rw [hs, hb, add_5])
theorem told_16 {rd rn rm ra im kd bs st cd rg : Int} (h : (if shp 16 < 17 then narrowB 16 (shp 16) rd rn rm ra im kd bs st cd rg else wideB (shp 16) rd rn rm ra im kd bs st cd rg) = true) : Told 16 rd rn rm ra im kd bs st cd rg (wd 16 rd rn rm ra im kd bs st cd rg) := by
  have hs : shp 16 = 5 := by decide +kernel
  have hb : bts 16 = 16640 := by decide +kernel
  unfold Told
  rw [hs] at h ⊢
  exact back_16 rfl (lin_5 h) _ (by unfold wd; rw [hs, hb, add_5])
theorem told_17 {rd rn rm ra im kd bs st cd rg : Int} (h : (if shp 17 < 17 then narrowB 17 (shp 17) rd rn rm ra im kd bs st cd rg else wideB (shp 17) rd rn rm ra im kd bs st cd rg) = true) : Told 17 rd rn rm ra im kd bs st cd rg (wd 17 rd rn rm ra im kd bs st cd rg) := by
  have hs : shp 17 = 5 := by decide +kernel
  have hb : bts 17 = 16704 := by decide +kernel
  unfold Told
  rw [hs] at h ⊢
  exact back_17 rfl (lin_5 h) _ (by unfold wd; rw [hs, hb, add_5])
theorem told_18 {rd rn rm ra im kd bs st cd rg : Int} (h : (if shp 18 < 17 then narrowB 18 (shp 18) rd rn rm ra im kd bs st cd rg else wideB (shp 18) rd rn rm ra im kd bs st cd rg) = true) : Told 18 rd rn rm ra im kd bs st cd rg (wd 18 rd rn rm ra im kd bs st cd rg) := by
  have hs : shp 18 = 5 := by decide +kernel
  have hb : bts 18 = 16768 := by decide +kernel
  unfold Told
  rw [hs] at h ⊢
  exact back_18 rfl (lin_5 h) _ (by unfold wd; rw [hs, hb, add_5])
theorem told_19 {rd rn rm ra im kd bs st cd rg : Int} (h : (if shp 19 < 17 then narrowB 19 (shp 19) rd rn rm ra im kd bs st cd rg else wideB (shp 19) rd rn rm ra im kd bs st cd rg) = true) : Told 19 rd rn rm ra im kd bs st cd rg (wd 19 rd rn rm ra im kd bs st cd rg) := by
  have hs : shp 19 = 5 := by decide +kernel
  have hb : bts 19 = 16832 := by decide +kernel
  unfold Told
  rw [hs] at h ⊢
  exact back_19 rfl (lin_5 h) _ (by unfold wd; rw [hs, hb, add_5])
theorem told_20 {rd rn rm ra im kd bs st cd rg : Int} (h : (if shp 20 < 17 then narrowB 20 (shp 20) rd rn rm ra im kd bs st cd rg else wideB (shp 20) rd rn rm ra im kd bs st cd rg) = true) : Told 20 rd rn rm ra im kd bs st cd rg (wd 20 rd rn rm ra im kd bs st cd rg) := by
  have hs : shp 20 = 5 := by decide +kernel
  have hb : bts 20 = 16896 := by decide +kernel
  unfold Told
  rw [hs] at h ⊢
  exact back_20 rfl (lin_5 h) _ (by unfold wd; rw [hs, hb, add_5])
theorem told_21 {rd rn rm ra im kd bs st cd rg : Int} (h : (if shp 21 < 17 then narrowB 21 (shp 21) rd rn rm ra im kd bs st cd rg else wideB (shp 21) rd rn rm ra im kd bs st cd rg) = true) : Told 21 rd rn rm ra im kd bs st cd rg (wd 21 rd rn rm ra im kd bs st cd rg) := by
  have hs : shp 21 = 5 := by decide +kernel
  have hb : bts 21 = 16960 := by decide +kernel
  unfold Told
  rw [hs] at h ⊢
  exact back_21 rfl (lin_5 h) _ (by unfold wd; rw [hs, hb, add_5])
theorem told_22 {rd rn rm ra im kd bs st cd rg : Int} (h : (if shp 22 < 17 then narrowB 22 (shp 22) rd rn rm ra im kd bs st cd rg else wideB (shp 22) rd rn rm ra im kd bs st cd rg) = true) : Told 22 rd rn rm ra im kd bs st cd rg (wd 22 rd rn rm ra im kd bs st cd rg) := by
  have hs : shp 22 = 5 := by decide +kernel
  have hb : bts 22 = 17024 := by decide +kernel
  unfold Told
  rw [hs] at h ⊢
  exact back_22 rfl (lin_5 h) _ (by unfold wd; rw [hs, hb, add_5])
theorem told_23 {rd rn rm ra im kd bs st cd rg : Int} (h : (if shp 23 < 17 then narrowB 23 (shp 23) rd rn rm ra im kd bs st cd rg else wideB (shp 23) rd rn rm ra im kd bs st cd rg) = true) : Told 23 rd rn rm ra im kd bs st cd rg (wd 23 rd rn rm ra im kd bs st cd rg) := by
  have hs : shp 23 = 5 := by decide +kernel
  have hb : bts 23 = 17088 := by decide +kernel
  unfold Told
  rw [hs] at h ⊢
  exact back_23 rfl (lin_5 h) _ (by unfold wd; rw [hs, hb, add_5])
theorem told_24 {rd rn rm ra im kd bs st cd rg : Int} (h : (if shp 24 < 17 then narrowB 24 (shp 24) rd rn rm ra im kd bs st cd rg else wideB (shp 24) rd rn rm ra im kd bs st cd rg) = true) : Told 24 rd rn rm ra im kd bs st cd rg (wd 24 rd rn rm ra im kd bs st cd rg) := by
  have hs : shp 24 = 5 := by decide +kernel
  have hb : bts 24 = 17152 := by decide +kernel
  unfold Told
  rw [hs] at h ⊢
  exact back_24 rfl (lin_5 h) _ (by unfold wd; rw [hs, hb, add_5])
theorem told_25 {rd rn rm ra im kd bs st cd rg : Int} (h : (if shp 25 < 17 then narrowB 25 (shp 25) rd rn rm ra im kd bs st cd rg else wideB (shp 25) rd rn rm ra im kd bs st cd rg) = true) : Told 25 rd rn rm ra im kd bs st cd rg (wd 25 rd rn rm ra im kd bs st cd rg) := by
  have hs : shp 25 = 5 := by decide +kernel
  have hb : bts 25 = 17216 := by decide +kernel
  unfold Told
  rw [hs] at h ⊢
  exact back_25 rfl (lin_5 h) _ (by unfold wd; rw [hs, hb, add_5])
theorem told_26 {rd rn rm ra im kd bs st cd rg : Int} (h : (if shp 26 < 17 then narrowB 26 (shp 26) rd rn rm ra im kd bs st cd rg else wideB (shp 26) rd rn rm ra im kd bs st cd rg) = true) : Told 26 rd rn rm ra im kd bs st cd rg (wd 26 rd rn rm ra im kd bs st cd rg) := by
  have hs : shp 26 = 5 := by decide +kernel
  have hb : bts 26 = 17280 := by decide +kernel
  unfold Told
  rw [hs] at h ⊢
  exact back_26 rfl (lin_5 h) _ (by unfold wd; rw [hs, hb, add_5])
theorem told_27 {rd rn rm ra im kd bs st cd rg : Int} (h : (if shp 27 < 17 then narrowB 27 (shp 27) rd rn rm ra im kd bs st cd rg else wideB (shp 27) rd rn rm ra im kd bs st cd rg) = true) : Told 27 rd rn rm ra im kd bs st cd rg (wd 27 rd rn rm ra im kd bs st cd rg) := by
  have hs : shp 27 = 5 := by decide +kernel
  have hb : bts 27 = 17344 := by decide +kernel
  unfold Told
  rw [hs] at h ⊢
  exact back_27 rfl (lin_5 h) _ (by unfold wd; rw [hs, hb, add_5])
theorem told_28 {rd rn rm ra im kd bs st cd rg : Int} (h : (if shp 28 < 17 then narrowB 28 (shp 28) rd rn rm ra im kd bs st cd rg else wideB (shp 28) rd rn rm ra im kd bs st cd rg) = true) : Told 28 rd rn rm ra im kd bs st cd rg (wd 28 rd rn rm ra im kd bs st cd rg) := by
  have hs : shp 28 = 6 := by decide +kernel
  have hb : bts 28 = 17408 := by decide +kernel
  unfold Told
  rw [hs] at h ⊢
  exact back_28 rfl (lin_6 h) _ (by unfold wd; rw [hs, hb, add_6])
theorem told_29 {rd rn rm ra im kd bs st cd rg : Int} (h : (if shp 29 < 17 then narrowB 29 (shp 29) rd rn rm ra im kd bs st cd rg else wideB (shp 29) rd rn rm ra im kd bs st cd rg) = true) : Told 29 rd rn rm ra im kd bs st cd rg (wd 29 rd rn rm ra im kd bs st cd rg) := by
  have hs : shp 29 = 6 := by decide +kernel
  have hb : bts 29 = 17664 := by decide +kernel
  unfold Told
  rw [hs] at h ⊢
  exact back_29 rfl (lin_6 h) _ (by unfold wd; rw [hs, hb, add_6])
theorem told_30 {rd rn rm ra im kd bs st cd rg : Int} (h : (if shp 30 < 17 then narrowB 30 (shp 30) rd rn rm ra im kd bs st cd rg else wideB (shp 30) rd rn rm ra im kd bs st cd rg) = true) : Told 30 rd rn rm ra im kd bs st cd rg (wd 30 rd rn rm ra im kd bs st cd rg) := by
  have hs : shp 30 = 6 := by decide +kernel
  have hb : bts 30 = 17920 := by decide +kernel
  unfold Told
  rw [hs] at h ⊢
  exact back_30 rfl (lin_6 h) _ (by unfold wd; rw [hs, hb, add_6])
theorem told_31 {rd rn rm ra im kd bs st cd rg : Int} (h : (if shp 31 < 17 then narrowB 31 (shp 31) rd rn rm ra im kd bs st cd rg else wideB (shp 31) rd rn rm ra im kd bs st cd rg) = true) : Told 31 rd rn rm ra im kd bs st cd rg (wd 31 rd rn rm ra im kd bs st cd rg) := by
  have hs : shp 31 = 7 := by decide +kernel
  have hb : bts 31 = 18176 := by decide +kernel
  unfold Told
  rw [hs] at h ⊢
  exact back_31 rfl (lin_7 h) _ (by unfold wd; rw [hs, hb, add_7])
theorem told_32 {rd rn rm ra im kd bs st cd rg : Int} (h : (if shp 32 < 17 then narrowB 32 (shp 32) rd rn rm ra im kd bs st cd rg else wideB (shp 32) rd rn rm ra im kd bs st cd rg) = true) : Told 32 rd rn rm ra im kd bs st cd rg (wd 32 rd rn rm ra im kd bs st cd rg) := by
  have hs : shp 32 = 8 := by decide +kernel
  have hb : bts 32 = 18432 := by decide +kernel
  unfold Told
  rw [hs] at h ⊢
  exact back_32 rfl (lin_8 h) _ (by unfold wd; rw [hs, hb, add_8])
theorem told_33 {rd rn rm ra im kd bs st cd rg : Int} (h : (if shp 33 < 17 then narrowB 33 (shp 33) rd rn rm ra im kd bs st cd rg else wideB (shp 33) rd rn rm ra im kd bs st cd rg) = true) : Told 33 rd rn rm ra im kd bs st cd rg (wd 33 rd rn rm ra im kd bs st cd rg) := by
  have hs : shp 33 = 2 := by decide +kernel
  have hb : bts 33 = 20480 := by decide +kernel
  unfold Told
  rw [hs] at h ⊢
  exact back_33 rfl (lin_2 h) _ (by unfold wd; rw [hs, hb, add_2])
theorem told_34 {rd rn rm ra im kd bs st cd rg : Int} (h : (if shp 34 < 17 then narrowB 34 (shp 34) rd rn rm ra im kd bs st cd rg else wideB (shp 34) rd rn rm ra im kd bs st cd rg) = true) : Told 34 rd rn rm ra im kd bs st cd rg (wd 34 rd rn rm ra im kd bs st cd rg) := by
  have hs : shp 34 = 2 := by decide +kernel
  have hb : bts 34 = 22528 := by decide +kernel
  unfold Told
  rw [hs] at h ⊢
  exact back_34 rfl (lin_2 h) _ (by unfold wd; rw [hs, hb, add_2])
theorem told_35 {rd rn rm ra im kd bs st cd rg : Int} (h : (if shp 35 < 17 then narrowB 35 (shp 35) rd rn rm ra im kd bs st cd rg else wideB (shp 35) rd rn rm ra im kd bs st cd rg) = true) : Told 35 rd rn rm ra im kd bs st cd rg (wd 35 rd rn rm ra im kd bs st cd rg) := by
  have hs : shp 35 = 9 := by decide +kernel
  have hb : bts 35 = 24576 := by decide +kernel
  unfold Told
  rw [hs] at h ⊢
  exact back_35 rfl (lin_9 h) _ (by unfold wd; rw [hs, hb, add_9])
theorem told_36 {rd rn rm ra im kd bs st cd rg : Int} (h : (if shp 36 < 17 then narrowB 36 (shp 36) rd rn rm ra im kd bs st cd rg else wideB (shp 36) rd rn rm ra im kd bs st cd rg) = true) : Told 36 rd rn rm ra im kd bs st cd rg (wd 36 rd rn rm ra im kd bs st cd rg) := by
  have hs : shp 36 = 9 := by decide +kernel
  have hb : bts 36 = 26624 := by decide +kernel
  unfold Told
  rw [hs] at h ⊢
  exact back_36 rfl (lin_9 h) _ (by unfold wd; rw [hs, hb, add_9])
theorem told_37 {rd rn rm ra im kd bs st cd rg : Int} (h : (if shp 37 < 17 then narrowB 37 (shp 37) rd rn rm ra im kd bs st cd rg else wideB (shp 37) rd rn rm ra im kd bs st cd rg) = true) : Told 37 rd rn rm ra im kd bs st cd rg (wd 37 rd rn rm ra im kd bs st cd rg) := by
  have hs : shp 37 = 8 := by decide +kernel
  have hb : bts 37 = 36864 := by decide +kernel
  unfold Told
  rw [hs] at h ⊢
  exact back_37 rfl (lin_8 h) _ (by unfold wd; rw [hs, hb, add_8])
theorem told_38 {rd rn rm ra im kd bs st cd rg : Int} (h : (if shp 38 < 17 then narrowB 38 (shp 38) rd rn rm ra im kd bs st cd rg else wideB (shp 38) rd rn rm ra im kd bs st cd rg) = true) : Told 38 rd rn rm ra im kd bs st cd rg (wd 38 rd rn rm ra im kd bs st cd rg) := by
  have hs : shp 38 = 8 := by decide +kernel
  have hb : bts 38 = 38912 := by decide +kernel
  unfold Told
  rw [hs] at h ⊢
  exact back_38 rfl (lin_8 h) _ (by unfold wd; rw [hs, hb, add_8])
theorem told_39 {rd rn rm ra im kd bs st cd rg : Int} (h : (if shp 39 < 17 then narrowB 39 (shp 39) rd rn rm ra im kd bs st cd rg else wideB (shp 39) rd rn rm ra im kd bs st cd rg) = true) : Told 39 rd rn rm ra im kd bs st cd rg (wd 39 rd rn rm ra im kd bs st cd rg) := by
  have hs : shp 39 = 8 := by decide +kernel
  have hb : bts 39 = 43008 := by decide +kernel
  unfold Told
  rw [hs] at h ⊢
  exact back_39 rfl (lin_8 h) _ (by unfold wd; rw [hs, hb, add_8])
theorem told_40 {rd rn rm ra im kd bs st cd rg : Int} (h : (if shp 40 < 17 then narrowB 40 (shp 40) rd rn rm ra im kd bs st cd rg else wideB (shp 40) rd rn rm ra im kd bs st cd rg) = true) : Told 40 rd rn rm ra im kd bs st cd rg (wd 40 rd rn rm ra im kd bs st cd rg) := by
  have hs : shp 40 = 10 := by decide +kernel
  have hb : bts 40 = 45056 := by decide +kernel
  unfold Told
  rw [hs] at h ⊢
  exact back_40 rfl (lin_10 h) _ (by unfold wd; rw [hs, hb, add_10])
theorem told_41 {rd rn rm ra im kd bs st cd rg : Int} (h : (if shp 41 < 17 then narrowB 41 (shp 41) rd rn rm ra im kd bs st cd rg else wideB (shp 41) rd rn rm ra im kd bs st cd rg) = true) : Told 41 rd rn rm ra im kd bs st cd rg (wd 41 rd rn rm ra im kd bs st cd rg) := by
  have hs : shp 41 = 10 := by decide +kernel
  have hb : bts 41 = 45184 := by decide +kernel
  unfold Told
  rw [hs] at h ⊢
  exact back_41 rfl (lin_10 h) _ (by unfold wd; rw [hs, hb, add_10])
theorem told_42 {rd rn rm ra im kd bs st cd rg : Int} (h : (if shp 42 < 17 then narrowB 42 (shp 42) rd rn rm ra im kd bs st cd rg else wideB (shp 42) rd rn rm ra im kd bs st cd rg) = true) : Told 42 rd rn rm ra im kd bs st cd rg (wd 42 rd rn rm ra im kd bs st cd rg) := by
  have hs : shp 42 = 11 := by decide +kernel
  have hb : bts 42 = 46080 := by decide +kernel
  unfold Told
  rw [hs] at h ⊢
  exact back_42 rfl (lin_11 h) _ (by unfold wd; rw [hs, hb, add_11])
theorem told_43 {rd rn rm ra im kd bs st cd rg : Int} (h : (if shp 43 < 17 then narrowB 43 (shp 43) rd rn rm ra im kd bs st cd rg else wideB (shp 43) rd rn rm ra im kd bs st cd rg) = true) : Told 43 rd rn rm ra im kd bs st cd rg (wd 43 rd rn rm ra im kd bs st cd rg) := by
  have hs : shp 43 = 12 := by decide +kernel
  have hb : bts 43 = 48128 := by decide +kernel
  unfold Told
  rw [hs] at h ⊢
  exact back_43 rfl (lin_12 h) _ (by unfold wd; rw [hs, hb, add_12])
theorem told_44 {rd rn rm ra im kd bs st cd rg : Int} (h : (if shp 44 < 17 then narrowB 44 (shp 44) rd rn rm ra im kd bs st cd rg else wideB (shp 44) rd rn rm ra im kd bs st cd rg) = true) : Told 44 rd rn rm ra im kd bs st cd rg (wd 44 rd rn rm ra im kd bs st cd rg) := by
  have hs : shp 44 = 13 := by decide +kernel
  have hb : bts 44 = 48896 := by decide +kernel
  unfold Told
  rw [hs] at h ⊢
  exact back_44 rfl (lin_13 h) _ (by unfold wd; rw [hs, hb, add_13])
theorem told_45 {rd rn rm ra im kd bs st cd rg : Int} (h : (if shp 45 < 17 then narrowB 45 (shp 45) rd rn rm ra im kd bs st cd rg else wideB (shp 45) rd rn rm ra im kd bs st cd rg) = true) : Told 45 rd rn rm ra im kd bs st cd rg (wd 45 rd rn rm ra im kd bs st cd rg) := by
  have hs : shp 45 = 14 := by decide +kernel
  have hb : bts 45 = 48640 := by decide +kernel
  unfold Told
  rw [hs] at h ⊢
  exact back_45 rfl (lin_14 h) _ (by unfold wd; rw [hs, hb, add_14])
theorem told_46 {rd rn rm ra im kd bs st cd rg : Int} (h : (if shp 46 < 17 then narrowB 46 (shp 46) rd rn rm ra im kd bs st cd rg else wideB (shp 46) rd rn rm ra im kd bs st cd rg) = true) : Told 46 rd rn rm ra im kd bs st cd rg (wd 46 rd rn rm ra im kd bs st cd rg) := by
  have hs : shp 46 = 15 := by decide +kernel
  have hb : bts 46 = 53248 := by decide +kernel
  unfold Told
  rw [hs] at h ⊢
  exact back_46 rfl (lin_15 h) _ (by unfold wd; rw [hs, hb, add_15])
theorem told_47 {rd rn rm ra im kd bs st cd rg : Int} (h : (if shp 47 < 17 then narrowB 47 (shp 47) rd rn rm ra im kd bs st cd rg else wideB (shp 47) rd rn rm ra im kd bs st cd rg) = true) : Told 47 rd rn rm ra im kd bs st cd rg (wd 47 rd rn rm ra im kd bs st cd rg) := by
  have hs : shp 47 = 16 := by decide +kernel
  have hb : bts 47 = 57344 := by decide +kernel
  unfold Told
  rw [hs] at h ⊢
  exact back_47 rfl (lin_16 h) _ (by unfold wd; rw [hs, hb, add_16])
theorem told_48 {rd rn rm ra im kd bs st cd rg : Int} (h : (if shp 48 < 17 then narrowB 48 (shp 48) rd rn rm ra im kd bs st cd rg else wideB (shp 48) rd rn rm ra im kd bs st cd rg) = true) : Told 48 rd rn rm ra im kd bs st cd rg (wd 48 rd rn rm ra im kd bs st cd rg) := by
  have hs : shp 48 = 17 := by decide +kernel
  have hb : bts 48 = 4064280576 := by decide +kernel
  unfold Told
  rw [hs] at h ⊢
  exact back_48 rfl (lin_17 h) _ (by unfold wd; rw [hs, hb, add_17])
theorem told_49 {rd rn rm ra im kd bs st cd rg : Int} (h : (if shp 49 < 17 then narrowB 49 (shp 49) rd rn rm ra im kd bs st cd rg else wideB (shp 49) rd rn rm ra im kd bs st cd rg) = true) : Told 49 rd rn rm ra im kd bs st cd rg (wd 49 rd rn rm ra im kd bs st cd rg) := by
  have hs : shp 49 = 17 := by decide +kernel
  have hb : bts 49 = 4072669184 := by decide +kernel
  unfold Told
  rw [hs] at h ⊢
  exact back_49 rfl (lin_17 h) _ (by unfold wd; rw [hs, hb, add_17])
theorem told_50 {rd rn rm ra im kd bs st cd rg : Int} (h : (if shp 50 < 17 then narrowB 50 (shp 50) rd rn rm ra im kd bs st cd rg else wideB (shp 50) rd rn rm ra im kd bs st cd rg) = true) : Told 50 rd rn rm ra im kd bs st cd rg (wd 50 rd rn rm ra im kd bs st cd rg) := by
  have hs : shp 50 = 18 := by decide +kernel
  have hb : bts 50 = 4026531840 := by decide +kernel
  unfold Told
  rw [hs] at h ⊢
  exact back_50 rfl (lin_18 h) _ (by unfold wd; rw [hs, hb, add_18])
theorem told_51 {rd rn rm ra im kd bs st cd rg : Int} (h : (if shp 51 < 17 then narrowB 51 (shp 51) rd rn rm ra im kd bs st cd rg else wideB (shp 51) rd rn rm ra im kd bs st cd rg) = true) : Told 51 rd rn rm ra im kd bs st cd rg (wd 51 rd rn rm ra im kd bs st cd rg) := by
  have hs : shp 51 = 18 := by decide +kernel
  have hb : bts 51 = 4028628992 := by decide +kernel
  unfold Told
  rw [hs] at h ⊢
  exact back_51 rfl (lin_18 h) _ (by unfold wd; rw [hs, hb, add_18])
theorem told_52 {rd rn rm ra im kd bs st cd rg : Int} (h : (if shp 52 < 17 then narrowB 52 (shp 52) rd rn rm ra im kd bs st cd rg else wideB (shp 52) rd rn rm ra im kd bs st cd rg) = true) : Told 52 rd rn rm ra im kd bs st cd rg (wd 52 rd rn rm ra im kd bs st cd rg) := by
  have hs : shp 52 = 18 := by decide +kernel
  have hb : bts 52 = 4030726144 := by decide +kernel
  unfold Told
  rw [hs] at h ⊢
  exact back_52 rfl (lin_18 h) _ (by unfold wd; rw [hs, hb, add_18])
theorem told_53 {rd rn rm ra im kd bs st cd rg : Int} (h : (if shp 53 < 17 then narrowB 53 (shp 53) rd rn rm ra im kd bs st cd rg else wideB (shp 53) rd rn rm ra im kd bs st cd rg) = true) : Told 53 rd rn rm ra im kd bs st cd rg (wd 53 rd rn rm ra im kd bs st cd rg) := by
  have hs : shp 53 = 18 := by decide +kernel
  have hb : bts 53 = 4032823296 := by decide +kernel
  unfold Told
  rw [hs] at h ⊢
  exact back_53 rfl (lin_18 h) _ (by unfold wd; rw [hs, hb, add_18])
theorem told_54 {rd rn rm ra im kd bs st cd rg : Int} (h : (if shp 54 < 17 then narrowB 54 (shp 54) rd rn rm ra im kd bs st cd rg else wideB (shp 54) rd rn rm ra im kd bs st cd rg) = true) : Told 54 rd rn rm ra im kd bs st cd rg (wd 54 rd rn rm ra im kd bs st cd rg) := by
  have hs : shp 54 = 18 := by decide +kernel
  have hb : bts 54 = 4034920448 := by decide +kernel
  unfold Told
  rw [hs] at h ⊢
  exact back_54 rfl (lin_18 h) _ (by unfold wd; rw [hs, hb, add_18])
theorem told_55 {rd rn rm ra im kd bs st cd rg : Int} (h : (if shp 55 < 17 then narrowB 55 (shp 55) rd rn rm ra im kd bs st cd rg else wideB (shp 55) rd rn rm ra im kd bs st cd rg) = true) : Told 55 rd rn rm ra im kd bs st cd rg (wd 55 rd rn rm ra im kd bs st cd rg) := by
  have hs : shp 55 = 18 := by decide +kernel
  have hb : bts 55 = 4043309056 := by decide +kernel
  unfold Told
  rw [hs] at h ⊢
  exact back_55 rfl (lin_18 h) _ (by unfold wd; rw [hs, hb, add_18])
theorem told_56 {rd rn rm ra im kd bs st cd rg : Int} (h : (if shp 56 < 17 then narrowB 56 (shp 56) rd rn rm ra im kd bs st cd rg else wideB (shp 56) rd rn rm ra im kd bs st cd rg) = true) : Told 56 rd rn rm ra im kd bs st cd rg (wd 56 rd rn rm ra im kd bs st cd rg) := by
  have hs : shp 56 = 18 := by decide +kernel
  have hb : bts 56 = 4047503360 := by decide +kernel
  unfold Told
  rw [hs] at h ⊢
  exact back_56 rfl (lin_18 h) _ (by unfold wd; rw [hs, hb, add_18])
theorem told_57 {rd rn rm ra im kd bs st cd rg : Int} (h : (if shp 57 < 17 then narrowB 57 (shp 57) rd rn rm ra im kd bs st cd rg else wideB (shp 57) rd rn rm ra im kd bs st cd rg) = true) : Told 57 rd rn rm ra im kd bs st cd rg (wd 57 rd rn rm ra im kd bs st cd rg) := by
  have hs : shp 57 = 18 := by decide +kernel
  have hb : bts 57 = 4049600512 := by decide +kernel
  unfold Told
  rw [hs] at h ⊢
  exact back_57 rfl (lin_18 h) _ (by unfold wd; rw [hs, hb, add_18])
theorem told_58 {rd rn rm ra im kd bs st cd rg : Int} (h : (if shp 58 < 17 then narrowB 58 (shp 58) rd rn rm ra im kd bs st cd rg else wideB (shp 58) rd rn rm ra im kd bs st cd rg) = true) : Told 58 rd rn rm ra im kd bs st cd rg (wd 58 rd rn rm ra im kd bs st cd rg) := by
  have hs : shp 58 = 18 := by decide +kernel
  have hb : bts 58 = 4053794816 := by decide +kernel
  unfold Told
  rw [hs] at h ⊢
  exact back_58 rfl (lin_18 h) _ (by unfold wd; rw [hs, hb, add_18])
theorem told_59 {rd rn rm ra im kd bs st cd rg : Int} (h : (if shp 59 < 17 then narrowB 59 (shp 59) rd rn rm ra im kd bs st cd rg else wideB (shp 59) rd rn rm ra im kd bs st cd rg) = true) : Told 59 rd rn rm ra im kd bs st cd rg (wd 59 rd rn rm ra im kd bs st cd rg) := by
  have hs : shp 59 = 18 := by decide +kernel
  have hb : bts 59 = 4055891968 := by decide +kernel
  unfold Told
  rw [hs] at h ⊢
  exact back_59 rfl (lin_18 h) _ (by unfold wd; rw [hs, hb, add_18])
theorem told_60 {rd rn rm ra im kd bs st cd rg : Int} (h : (if shp 60 < 17 then narrowB 60 (shp 60) rd rn rm ra im kd bs st cd rg else wideB (shp 60) rd rn rm ra im kd bs st cd rg) = true) : Told 60 rd rn rm ra im kd bs st cd rg (wd 60 rd rn rm ra im kd bs st cd rg) := by
  have hs : shp 60 = 19 := by decide +kernel
  have hb : bts 60 = 4031709184 := by decide +kernel
  unfold Told
  rw [hs] at h ⊢
  exact back_60 rfl (lin_19 h) _ (by unfold wd; rw [hs, hb, add_19])
theorem told_61 {rd rn rm ra im kd bs st cd rg : Int} (h : (if shp 61 < 17 then narrowB 61 (shp 61) rd rn rm ra im kd bs st cd rg else wideB (shp 61) rd rn rm ra im kd bs st cd rg) = true) : Told 61 rd rn rm ra im kd bs st cd rg (wd 61 rd rn rm ra im kd bs st cd rg) := by
  have hs : shp 61 = 19 := by decide +kernel
  have hb : bts 61 = 4033806336 := by decide +kernel
  unfold Told
  rw [hs] at h ⊢
  exact back_61 rfl (lin_19 h) _ (by unfold wd; rw [hs, hb, add_19])
theorem told_62 {rd rn rm ra im kd bs st cd rg : Int} (h : (if shp 62 < 17 then narrowB 62 (shp 62) rd rn rm ra im kd bs st cd rg else wideB (shp 62) rd rn rm ra im kd bs st cd rg) = true) : Told 62 rd rn rm ra im kd bs st cd rg (wd 62 rd rn rm ra im kd bs st cd rg) := by
  have hs : shp 62 = 20 := by decide +kernel
  have hb : bts 62 = 4027584256 := by decide +kernel
  unfold Told
  rw [hs] at h ⊢
  exact back_62 rfl (lin_20 h) _ (by unfold wd; rw [hs, hb, add_20])
theorem told_63 {rd rn rm ra im kd bs st cd rg : Int} (h : (if shp 63 < 17 then narrowB 63 (shp 63) rd rn rm ra im kd bs st cd rg else wideB (shp 63) rd rn rm ra im kd bs st cd rg) = true) : Told 63 rd rn rm ra im kd bs st cd rg (wd 63 rd rn rm ra im kd bs st cd rg) := by
  have hs : shp 63 = 20 := by decide +kernel
  have hb : bts 63 = 4035972864 := by decide +kernel
  unfold Told
  rw [hs] at h ⊢
  exact back_63 rfl (lin_20 h) _ (by unfold wd; rw [hs, hb, add_20])
theorem told_64 {rd rn rm ra im kd bs st cd rg : Int} (h : (if shp 64 < 17 then narrowB 64 (shp 64) rd rn rm ra im kd bs st cd rg else wideB (shp 64) rd rn rm ra im kd bs st cd rg) = true) : Told 64 rd rn rm ra im kd bs st cd rg (wd 64 rd rn rm ra im kd bs st cd rg) := by
  have hs : shp 64 = 20 := by decide +kernel
  have hb : bts 64 = 4044361472 := by decide +kernel
  unfold Told
  rw [hs] at h ⊢
  exact back_64 rfl (lin_20 h) _ (by unfold wd; rw [hs, hb, add_20])
theorem told_65 {rd rn rm ra im kd bs st cd rg : Int} (h : (if shp 65 < 17 then narrowB 65 (shp 65) rd rn rm ra im kd bs st cd rg else wideB (shp 65) rd rn rm ra im kd bs st cd rg) = true) : Told 65 rd rn rm ra im kd bs st cd rg (wd 65 rd rn rm ra im kd bs st cd rg) := by
  have hs : shp 65 = 20 := by decide +kernel
  have hb : bts 65 = 4054847232 := by decide +kernel
  unfold Told
  rw [hs] at h ⊢
  exact back_65 rfl (lin_20 h) _ (by unfold wd; rw [hs, hb, add_20])
theorem told_66 {rd rn rm ra im kd bs st cd rg : Int} (h : (if shp 66 < 17 then narrowB 66 (shp 66) rd rn rm ra im kd bs st cd rg else wideB (shp 66) rd rn rm ra im kd bs st cd rg) = true) : Told 66 rd rn rm ra im kd bs st cd rg (wd 66 rd rn rm ra im kd bs st cd rg) := by
  have hs : shp 66 = 21 := by decide +kernel
  have hb : bts 66 = 3925868544 := by decide +kernel
  unfold Told
  rw [hs] at h ⊢
  exact back_66 rfl (lin_21 h) _ (by unfold wd; rw [hs, hb, add_21])
theorem told_67 {rd rn rm ra im kd bs st cd rg : Int} (h : (if shp 67 < 17 then narrowB 67 (shp 67) rd rn rm ra im kd bs st cd rg else wideB (shp 67) rd rn rm ra im kd bs st cd rg) = true) : Told 67 rd rn rm ra im kd bs st cd rg (wd 67 rd rn rm ra im kd bs st cd rg) := by
  have hs : shp 67 = 21 := by decide +kernel
  have hb : bts 67 = 3927965696 := by decide +kernel
  unfold Told
  rw [hs] at h ⊢
  exact back_67 rfl (lin_21 h) _ (by unfold wd; rw [hs, hb, add_21])
theorem told_68 {rd rn rm ra im kd bs st cd rg : Int} (h : (if shp 68 < 17 then narrowB 68 (shp 68) rd rn rm ra im kd bs st cd rg else wideB (shp 68) rd rn rm ra im kd bs st cd rg) = true) : Told 68 rd rn rm ra im kd bs st cd rg (wd 68 rd rn rm ra im kd bs st cd rg) := by
  have hs : shp 68 = 21 := by decide +kernel
  have hb : bts 68 = 3930062848 := by decide +kernel
  unfold Told
  rw [hs] at h ⊢
  exact back_68 rfl (lin_21 h) _ (by unfold wd; rw [hs, hb, add_21])
theorem told_69 {rd rn rm ra im kd bs st cd rg : Int} (h : (if shp 69 < 17 then narrowB 69 (shp 69) rd rn rm ra im kd bs st cd rg else wideB (shp 69) rd rn rm ra im kd bs st cd rg) = true) : Told 69 rd rn rm ra im kd bs st cd rg (wd 69 rd rn rm ra im kd bs st cd rg) := by
  have hs : shp 69 = 21 := by decide +kernel
  have hb : bts 69 = 3932160000 := by decide +kernel
  unfold Told
  rw [hs] at h ⊢
  exact back_69 rfl (lin_21 h) _ (by unfold wd; rw [hs, hb, add_21])
theorem told_70 {rd rn rm ra im kd bs st cd rg : Int} (h : (if shp 70 < 17 then narrowB 70 (shp 70) rd rn rm ra im kd bs st cd rg else wideB (shp 70) rd rn rm ra im kd bs st cd rg) = true) : Told 70 rd rn rm ra im kd bs st cd rg (wd 70 rd rn rm ra im kd bs st cd rg) := by
  have hs : shp 70 = 21 := by decide +kernel
  have hb : bts 70 = 3934257152 := by decide +kernel
  unfold Told
  rw [hs] at h ⊢
  exact back_70 rfl (lin_21 h) _ (by unfold wd; rw [hs, hb, add_21])
theorem told_71 {rd rn rm ra im kd bs st cd rg : Int} (h : (if shp 71 < 17 then narrowB 71 (shp 71) rd rn rm ra im kd bs st cd rg else wideB (shp 71) rd rn rm ra im kd bs st cd rg) = true) : Told 71 rd rn rm ra im kd bs st cd rg (wd 71 rd rn rm ra im kd bs st cd rg) := by
  have hs : shp 71 = 21 := by decide +kernel
  have hb : bts 71 = 3942645760 := by decide +kernel
  unfold Told
  rw [hs] at h ⊢
  exact back_71 rfl (lin_21 h) _ (by unfold wd; rw [hs, hb, add_21])
theorem told_72 {rd rn rm ra im kd bs st cd rg : Int} (h : (if shp 72 < 17 then narrowB 72 (shp 72) rd rn rm ra im kd bs st cd rg else wideB (shp 72) rd rn rm ra im kd bs st cd rg) = true) : Told 72 rd rn rm ra im kd bs st cd rg (wd 72 rd rn rm ra im kd bs st cd rg) := by
  have hs : shp 72 = 21 := by decide +kernel
  have hb : bts 72 = 3946840064 := by decide +kernel
  unfold Told
  rw [hs] at h ⊢
  exact back_72 rfl (lin_21 h) _ (by unfold wd; rw [hs, hb, add_21])
theorem told_73 {rd rn rm ra im kd bs st cd rg : Int} (h : (if shp 73 < 17 then narrowB 73 (shp 73) rd rn rm ra im kd bs st cd rg else wideB (shp 73) rd rn rm ra im kd bs st cd rg) = true) : Told 73 rd rn rm ra im kd bs st cd rg (wd 73 rd rn rm ra im kd bs st cd rg) := by
  have hs : shp 73 = 21 := by decide +kernel
  have hb : bts 73 = 3948937216 := by decide +kernel
  unfold Told
  rw [hs] at h ⊢
  exact back_73 rfl (lin_21 h) _ (by unfold wd; rw [hs, hb, add_21])
theorem told_74 {rd rn rm ra im kd bs st cd rg : Int} (h : (if shp 74 < 17 then narrowB 74 (shp 74) rd rn rm ra im kd bs st cd rg else wideB (shp 74) rd rn rm ra im kd bs st cd rg) = true) : Told 74 rd rn rm ra im kd bs st cd rg (wd 74 rd rn rm ra im kd bs st cd rg) := by
  have hs : shp 74 = 21 := by decide +kernel
  have hb : bts 74 = 3953131520 := by decide +kernel
  unfold Told
  rw [hs] at h ⊢
  exact back_74 rfl (lin_21 h) _ (by unfold wd; rw [hs, hb, add_21])
theorem told_75 {rd rn rm ra im kd bs st cd rg : Int} (h : (if shp 75 < 17 then narrowB 75 (shp 75) rd rn rm ra im kd bs st cd rg else wideB (shp 75) rd rn rm ra im kd bs st cd rg) = true) : Told 75 rd rn rm ra im kd bs st cd rg (wd 75 rd rn rm ra im kd bs st cd rg) := by
  have hs : shp 75 = 21 := by decide +kernel
  have hb : bts 75 = 3955228672 := by decide +kernel
  unfold Told
  rw [hs] at h ⊢
  exact back_75 rfl (lin_21 h) _ (by unfold wd; rw [hs, hb, add_21])
theorem told_76 {rd rn rm ra im kd bs st cd rg : Int} (h : (if shp 76 < 17 then narrowB 76 (shp 76) rd rn rm ra im kd bs st cd rg else wideB (shp 76) rd rn rm ra im kd bs st cd rg) = true) : Told 76 rd rn rm ra im kd bs st cd rg (wd 76 rd rn rm ra im kd bs st cd rg) := by
  have hs : shp 76 = 22 := by decide +kernel
  have hb : bts 76 = 3931045888 := by decide +kernel
  unfold Told
  rw [hs] at h ⊢
  exact back_76 rfl (lin_22 h) _ (by unfold wd; rw [hs, hb, add_22])
theorem told_77 {rd rn rm ra im kd bs st cd rg : Int} (h : (if shp 77 < 17 then narrowB 77 (shp 77) rd rn rm ra im kd bs st cd rg else wideB (shp 77) rd rn rm ra im kd bs st cd rg) = true) : Told 77 rd rn rm ra im kd bs st cd rg (wd 77 rd rn rm ra im kd bs st cd rg) := by
  have hs : shp 77 = 22 := by decide +kernel
  have hb : bts 77 = 3933143040 := by decide +kernel
  unfold Told
  rw [hs] at h ⊢
  exact back_77 rfl (lin_22 h) _ (by unfold wd; rw [hs, hb, add_22])
theorem told_78 {rd rn rm ra im kd bs st cd rg : Int} (h : (if shp 78 < 17 then narrowB 78 (shp 78) rd rn rm ra im kd bs st cd rg else wideB (shp 78) rd rn rm ra im kd bs st cd rg) = true) : Told 78 rd rn rm ra im kd bs st cd rg (wd 78 rd rn rm ra im kd bs st cd rg) := by
  have hs : shp 78 = 23 := by decide +kernel
  have hb : bts 78 = 3926920960 := by decide +kernel
  unfold Told
  rw [hs] at h ⊢
  exact back_78 rfl (lin_23 h) _ (by unfold wd; rw [hs, hb, add_23])
theorem told_79 {rd rn rm ra im kd bs st cd rg : Int} (h : (if shp 79 < 17 then narrowB 79 (shp 79) rd rn rm ra im kd bs st cd rg else wideB (shp 79) rd rn rm ra im kd bs st cd rg) = true) : Told 79 rd rn rm ra im kd bs st cd rg (wd 79 rd rn rm ra im kd bs st cd rg) := by
  have hs : shp 79 = 23 := by decide +kernel
  have hb : bts 79 = 3935309568 := by decide +kernel
  unfold Told
  rw [hs] at h ⊢
  exact back_79 rfl (lin_23 h) _ (by unfold wd; rw [hs, hb, add_23])
theorem told_80 {rd rn rm ra im kd bs st cd rg : Int} (h : (if shp 80 < 17 then narrowB 80 (shp 80) rd rn rm ra im kd bs st cd rg else wideB (shp 80) rd rn rm ra im kd bs st cd rg) = true) : Told 80 rd rn rm ra im kd bs st cd rg (wd 80 rd rn rm ra im kd bs st cd rg) := by
  have hs : shp 80 = 23 := by decide +kernel
  have hb : bts 80 = 3943698176 := by decide +kernel
  unfold Told
  rw [hs] at h ⊢
  exact back_80 rfl (lin_23 h) _ (by unfold wd; rw [hs, hb, add_23])
theorem told_81 {rd rn rm ra im kd bs st cd rg : Int} (h : (if shp 81 < 17 then narrowB 81 (shp 81) rd rn rm ra im kd bs st cd rg else wideB (shp 81) rd rn rm ra im kd bs st cd rg) = true) : Told 81 rd rn rm ra im kd bs st cd rg (wd 81 rd rn rm ra im kd bs st cd rg) := by
  have hs : shp 81 = 23 := by decide +kernel
  have hb : bts 81 = 3954183936 := by decide +kernel
  unfold Told
  rw [hs] at h ⊢
  exact back_81 rfl (lin_23 h) _ (by unfold wd; rw [hs, hb, add_23])
theorem told_82 {rd rn rm ra im kd bs st cd rg : Int} (h : (if shp 82 < 17 then narrowB 82 (shp 82) rd rn rm ra im kd bs st cd rg else wideB (shp 82) rd rn rm ra im kd bs st cd rg) = true) : Told 82 rd rn rm ra im kd bs st cd rg (wd 82 rd rn rm ra im kd bs st cd rg) := by
  have hs : shp 82 = 24 := by decide +kernel
  have hb : bts 82 = 4060086272 := by decide +kernel
  unfold Told
  rw [hs] at h ⊢
  exact back_82 rfl (lin_24 h) _ (by unfold wd; rw [hs, hb, add_24])
theorem told_83 {rd rn rm ra im kd bs st cd rg : Int} (h : (if shp 83 < 17 then narrowB 83 (shp 83) rd rn rm ra im kd bs st cd rg else wideB (shp 83) rd rn rm ra im kd bs st cd rg) = true) : Told 83 rd rn rm ra im kd bs st cd rg (wd 83 rd rn rm ra im kd bs st cd rg) := by
  have hs : shp 83 = 24 := by decide +kernel
  have hb : bts 83 = 4070572032 := by decide +kernel
  unfold Told
  rw [hs] at h ⊢
  exact back_83 rfl (lin_24 h) _ (by unfold wd; rw [hs, hb, add_24])
theorem told_84 {rd rn rm ra im kd bs st cd rg : Int} (h : (if shp 84 < 17 then narrowB 84 (shp 84) rd rn rm ra im kd bs st cd rg else wideB (shp 84) rd rn rm ra im kd bs st cd rg) = true) : Told 84 rd rn rm ra im kd bs st cd rg (wd 84 rd rn rm ra im kd bs st cd rg) := by
  have hs : shp 84 = 25 := by decide +kernel
  have hb : bts 84 = 4173332480 := by decide +kernel
  unfold Told
  rw [hs] at h ⊢
  exact back_84 rfl (lin_25 h) _ (by unfold wd; rw [hs, hb, add_25])
theorem told_85 {rd rn rm ra im kd bs st cd rg : Int} (h : (if shp 85 < 17 then narrowB 85 (shp 85) rd rn rm ra im kd bs st cd rg else wideB (shp 85) rd rn rm ra im kd bs st cd rg) = true) : Told 85 rd rn rm ra im kd bs st cd rg (wd 85 rd rn rm ra im kd bs st cd rg) := by
  have hs : shp 85 = 25 := by decide +kernel
  have hb : bts 85 = 4174381056 := by decide +kernel
  unfold Told
  rw [hs] at h ⊢
  exact back_85 rfl (lin_25 h) _ (by unfold wd; rw [hs, hb, add_25])
theorem told_86 {rd rn rm ra im kd bs st cd rg : Int} (h : (if shp 86 < 17 then narrowB 86 (shp 86) rd rn rm ra im kd bs st cd rg else wideB (shp 86) rd rn rm ra im kd bs st cd rg) = true) : Told 86 rd rn rm ra im kd bs st cd rg (wd 86 rd rn rm ra im kd bs st cd rg) := by
  have hs : shp 86 = 26 := by decide +kernel
  have hb : bts 86 = 4164943872 := by decide +kernel
  unfold Told
  rw [hs] at h ⊢
  exact back_86 rfl (lin_26 h) _ (by unfold wd; rw [hs, hb, add_26])
theorem told_87 {rd rn rm ra im kd bs st cd rg : Int} (h : (if shp 87 < 17 then narrowB 87 (shp 87) rd rn rm ra im kd bs st cd rg else wideB (shp 87) rd rn rm ra im kd bs st cd rg) = true) : Told 87 rd rn rm ra im kd bs st cd rg (wd 87 rd rn rm ra im kd bs st cd rg) := by
  have hs : shp 87 = 26 := by decide +kernel
  have hb : bts 87 = 4165992448 := by decide +kernel
  unfold Told
  rw [hs] at h ⊢
  exact back_87 rfl (lin_26 h) _ (by unfold wd; rw [hs, hb, add_26])
theorem told_88 {rd rn rm ra im kd bs st cd rg : Int} (h : (if shp 88 < 17 then narrowB 88 (shp 88) rd rn rm ra im kd bs st cd rg else wideB (shp 88) rd rn rm ra im kd bs st cd rg) = true) : Told 88 rd rn rm ra im kd bs st cd rg (wd 88 rd rn rm ra im kd bs st cd rg) := by
  have hs : shp 88 = 27 := by decide +kernel
  have hb : bts 88 = 4194365440 := by decide +kernel
  unfold Told
  rw [hs] at h ⊢
  exact back_88 rfl (lin_27 h) _ (by unfold wd; rw [hs, hb, add_27])
theorem told_89 {rd rn rm ra im kd bs st cd rg : Int} (h : (if shp 89 < 17 then narrowB 89 (shp 89) rd rn rm ra im kd bs st cd rg else wideB (shp 89) rd rn rm ra im kd bs st cd rg) = true) : Told 89 rd rn rm ra im kd bs st cd rg (wd 89 rd rn rm ra im kd bs st cd rg) := by
  have hs : shp 89 = 27 := by decide +kernel
  have hb : bts 89 = 4196462592 := by decide +kernel
  unfold Told
  rw [hs] at h ⊢
  exact back_89 rfl (lin_27 h) _ (by unfold wd; rw [hs, hb, add_27])
theorem told_90 {rd rn rm ra im kd bs st cd rg : Int} (h : (if shp 90 < 17 then narrowB 90 (shp 90) rd rn rm ra im kd bs st cd rg else wideB (shp 90) rd rn rm ra im kd bs st cd rg) = true) : Told 90 rd rn rm ra im kd bs st cd rg (wd 90 rd rn rm ra im kd bs st cd rg) := by
  have hs : shp 90 = 27 := by decide +kernel
  have hb : bts 90 = 4198559744 := by decide +kernel
  unfold Told
  rw [hs] at h ⊢
  exact back_90 rfl (lin_27 h) _ (by unfold wd; rw [hs, hb, add_27])
theorem told_91 {rd rn rm ra im kd bs st cd rg : Int} (h : (if shp 91 < 17 then narrowB 91 (shp 91) rd rn rm ra im kd bs st cd rg else wideB (shp 91) rd rn rm ra im kd bs st cd rg) = true) : Told 91 rd rn rm ra im kd bs st cd rg (wd 91 rd rn rm ra im kd bs st cd rg) := by
  have hs : shp 91 = 27 := by decide +kernel
  have hb : bts 91 = 4200656896 := by decide +kernel
  unfold Told
  rw [hs] at h ⊢
  exact back_91 rfl (lin_27 h) _ (by unfold wd; rw [hs, hb, add_27])
theorem told_92 {rd rn rm ra im kd bs st cd rg : Int} (h : (if shp 92 < 17 then narrowB 92 (shp 92) rd rn rm ra im kd bs st cd rg else wideB (shp 92) rd rn rm ra im kd bs st cd rg) = true) : Told 92 rd rn rm ra im kd bs st cd rg (wd 92 rd rn rm ra im kd bs st cd rg) := by
  have hs : shp 92 = 28 := by decide +kernel
  have hb : bts 92 = 4211142656 := by decide +kernel
  unfold Told
  rw [hs] at h ⊢
  exact back_92 rfl (lin_28 h) _ (by unfold wd; rw [hs, hb, add_28])
theorem told_93 {rd rn rm ra im kd bs st cd rg : Int} (h : (if shp 93 < 17 then narrowB 93 (shp 93) rd rn rm ra im kd bs st cd rg else wideB (shp 93) rd rn rm ra im kd bs st cd rg) = true) : Told 93 rd rn rm ra im kd bs st cd rg (wd 93 rd rn rm ra im kd bs st cd rg) := by
  have hs : shp 93 = 29 := by decide +kernel
  have hb : bts 93 = 4211081216 := by decide +kernel
  unfold Told
  rw [hs] at h ⊢
  exact back_93 rfl (lin_29 h) _ (by unfold wd; rw [hs, hb, add_29])
theorem told_94 {rd rn rm ra im kd bs st cd rg : Int} (h : (if shp 94 < 17 then narrowB 94 (shp 94) rd rn rm ra im kd bs st cd rg else wideB (shp 94) rd rn rm ra im kd bs st cd rg) = true) : Told 94 rd rn rm ra im kd bs st cd rg (wd 94 rd rn rm ra im kd bs st cd rg) := by
  have hs : shp 94 = 30 := by decide +kernel
  have hb : bts 94 = 4211081232 := by decide +kernel
  unfold Told
  rw [hs] at h ⊢
  exact back_94 rfl (lin_30 h) _ (by unfold wd; rw [hs, hb, add_30])
theorem told_95 {rd rn rm ra im kd bs st cd rg : Int} (h : (if shp 95 < 17 then narrowB 95 (shp 95) rd rn rm ra im kd bs st cd rg else wideB (shp 95) rd rn rm ra im kd bs st cd rg) = true) : Told 95 rd rn rm ra im kd bs st cd rg (wd 95 rd rn rm ra im kd bs st cd rg) := by
  have hs : shp 95 = 31 := by decide +kernel
  have hb : bts 95 = 4221566976 := by decide +kernel
  unfold Told
  rw [hs] at h ⊢
  exact back_95 rfl (lin_31 h) _ (by unfold wd; rw [hs, hb, add_31])
theorem told_96 {rd rn rm ra im kd bs st cd rg : Int} (h : (if shp 96 < 17 then narrowB 96 (shp 96) rd rn rm ra im kd bs st cd rg else wideB (shp 96) rd rn rm ra im kd bs st cd rg) = true) : Told 96 rd rn rm ra im kd bs st cd rg (wd 96 rd rn rm ra im kd bs st cd rg) := by
  have hs : shp 96 = 31 := by decide +kernel
  have hb : bts 96 = 4225761280 := by decide +kernel
  unfold Told
  rw [hs] at h ⊢
  exact back_96 rfl (lin_31 h) _ (by unfold wd; rw [hs, hb, add_31])
theorem told_97 {rd rn rm ra im kd bs st cd rg : Int} (h : (if shp 97 < 17 then narrowB 97 (shp 97) rd rn rm ra im kd bs st cd rg else wideB (shp 97) rd rn rm ra im kd bs st cd rg) = true) : Told 97 rd rn rm ra im kd bs st cd rg (wd 97 rd rn rm ra im kd bs st cd rg) := by
  have hs : shp 97 = 28 := by decide +kernel
  have hb : bts 97 = 4222677232 := by decide +kernel
  unfold Told
  rw [hs] at h ⊢
  exact back_97 rfl (lin_28 h) _ (by unfold wd; rw [hs, hb, add_28])
theorem told_98 {rd rn rm ra im kd bs st cd rg : Int} (h : (if shp 98 < 17 then narrowB 98 (shp 98) rd rn rm ra im kd bs st cd rg else wideB (shp 98) rd rn rm ra im kd bs st cd rg) = true) : Told 98 rd rn rm ra im kd bs st cd rg (wd 98 rd rn rm ra im kd bs st cd rg) := by
  have hs : shp 98 = 32 := by decide +kernel
  have hb : bts 98 = 4205899904 := by decide +kernel
  unfold Told
  rw [hs] at h ⊢
  exact back_98 rfl (lin_32 h) _ (by unfold wd; rw [hs, hb, add_32])
theorem told_99 {rd rn rm ra im kd bs st cd rg : Int} (h : (if shp 99 < 17 then narrowB 99 (shp 99) rd rn rm ra im kd bs st cd rg else wideB (shp 99) rd rn rm ra im kd bs st cd rg) = true) : Told 99 rd rn rm ra im kd bs st cd rg (wd 99 rd rn rm ra im kd bs st cd rg) := by
  have hs : shp 99 = 33 := by decide +kernel
  have hb : bts 99 = 4026564608 := by decide +kernel
  unfold Told
  rw [hs] at h ⊢
  exact back_99 rfl (lin_33 h) _ (by unfold wd; rw [hs, hb, add_33])
theorem told_100 {rd rn rm ra im kd bs st cd rg : Int} (h : (if shp 100 < 17 then narrowB 100 (shp 100) rd rn rm ra im kd bs st cd rg else wideB (shp 100) rd rn rm ra im kd bs st cd rg) = true) : Told 100 rd rn rm ra im kd bs st cd rg (wd 100 rd rn rm ra im kd bs st cd rg) := by
  have hs : shp 100 = 34 := by decide +kernel
  have hb : bts 100 = 4026568704 := by decide +kernel
  unfold Told
  rw [hs] at h ⊢
  exact back_100 rfl (lin_34 h) _ (by unfold wd; rw [hs, hb, add_34])

theorem told {f rd rn rm ra im kd bs st cd rg : Int} (h : right f rd rn rm ra im kd bs st cd rg = true) (g0 : -9223372036854775808 ≤ rg) (g1 : rg ≤ 9223372036854775807) : Told f rd rn rm ra im kd bs st cd rg (wd f rd rn rm ra im kd bs st cd rg) := by
  obtain ⟨⟨i0, i1⟩, h⟩ := at_own h g0 g1
  rcases (show f = 1 ∨ f = 2 ∨ f = 3 ∨ f = 4 ∨ f = 5 ∨ f = 6 ∨ f = 7 ∨ f = 8 ∨ f = 9 ∨ f = 10 ∨ 11 ≤ f by omega) with rfl | rfl | rfl | rfl | rfl | rfl | rfl | rfl | rfl | rfl | hk
  · exact told_1 h
  · exact told_2 h
  · exact told_3 h
  · exact told_4 h
  · exact told_5 h
  · exact told_6 h
  · exact told_7 h
  · exact told_8 h
  · exact told_9 h
  · exact told_10 h
  rcases (show f = 11 ∨ f = 12 ∨ f = 13 ∨ f = 14 ∨ f = 15 ∨ f = 16 ∨ f = 17 ∨ f = 18 ∨ f = 19 ∨ f = 20 ∨ 21 ≤ f by omega) with rfl | rfl | rfl | rfl | rfl | rfl | rfl | rfl | rfl | rfl | hk
  · exact told_11 h
  · exact told_12 h
  · exact told_13 h
  · exact told_14 h
  · exact told_15 h
  · exact told_16 h
  · exact told_17 h
  · exact told_18 h
  · exact told_19 h
  · exact told_20 h
  rcases (show f = 21 ∨ f = 22 ∨ f = 23 ∨ f = 24 ∨ f = 25 ∨ f = 26 ∨ f = 27 ∨ f = 28 ∨ f = 29 ∨ f = 30 ∨ 31 ≤ f by omega) with rfl | rfl | rfl | rfl | rfl | rfl | rfl | rfl | rfl | rfl | hk
  · exact told_21 h
  · exact told_22 h
  · exact told_23 h
  · exact told_24 h
  · exact told_25 h
  · exact told_26 h
  · exact told_27 h
  · exact told_28 h
  · exact told_29 h
  · exact told_30 h
  rcases (show f = 31 ∨ f = 32 ∨ f = 33 ∨ f = 34 ∨ f = 35 ∨ f = 36 ∨ f = 37 ∨ f = 38 ∨ f = 39 ∨ f = 40 ∨ 41 ≤ f by omega) with rfl | rfl | rfl | rfl | rfl | rfl | rfl | rfl | rfl | rfl | hk
  · exact told_31 h
  · exact told_32 h
  · exact told_33 h
  · exact told_34 h
  · exact told_35 h
  · exact told_36 h
  · exact told_37 h
  · exact told_38 h
  · exact told_39 h
  · exact told_40 h
  rcases (show f = 41 ∨ f = 42 ∨ f = 43 ∨ f = 44 ∨ f = 45 ∨ f = 46 ∨ f = 47 ∨ f = 48 ∨ f = 49 ∨ f = 50 ∨ 51 ≤ f by omega) with rfl | rfl | rfl | rfl | rfl | rfl | rfl | rfl | rfl | rfl | hk
  · exact told_41 h
  · exact told_42 h
  · exact told_43 h
  · exact told_44 h
  · exact told_45 h
  · exact told_46 h
  · exact told_47 h
  · exact told_48 h
  · exact told_49 h
  · exact told_50 h
  rcases (show f = 51 ∨ f = 52 ∨ f = 53 ∨ f = 54 ∨ f = 55 ∨ f = 56 ∨ f = 57 ∨ f = 58 ∨ f = 59 ∨ f = 60 ∨ 61 ≤ f by omega) with rfl | rfl | rfl | rfl | rfl | rfl | rfl | rfl | rfl | rfl | hk
  · exact told_51 h
  · exact told_52 h
  · exact told_53 h
  · exact told_54 h
  · exact told_55 h
  · exact told_56 h
  · exact told_57 h
  · exact told_58 h
  · exact told_59 h
  · exact told_60 h
  rcases (show f = 61 ∨ f = 62 ∨ f = 63 ∨ f = 64 ∨ f = 65 ∨ f = 66 ∨ f = 67 ∨ f = 68 ∨ f = 69 ∨ f = 70 ∨ 71 ≤ f by omega) with rfl | rfl | rfl | rfl | rfl | rfl | rfl | rfl | rfl | rfl | hk
  · exact told_61 h
  · exact told_62 h
  · exact told_63 h
  · exact told_64 h
  · exact told_65 h
  · exact told_66 h
  · exact told_67 h
  · exact told_68 h
  · exact told_69 h
  · exact told_70 h
  rcases (show f = 71 ∨ f = 72 ∨ f = 73 ∨ f = 74 ∨ f = 75 ∨ f = 76 ∨ f = 77 ∨ f = 78 ∨ f = 79 ∨ f = 80 ∨ 81 ≤ f by omega) with rfl | rfl | rfl | rfl | rfl | rfl | rfl | rfl | rfl | rfl | hk
  · exact told_71 h
  · exact told_72 h
  · exact told_73 h
  · exact told_74 h
  · exact told_75 h
  · exact told_76 h
  · exact told_77 h
  · exact told_78 h
  · exact told_79 h
  · exact told_80 h
  rcases (show f = 81 ∨ f = 82 ∨ f = 83 ∨ f = 84 ∨ f = 85 ∨ f = 86 ∨ f = 87 ∨ f = 88 ∨ f = 89 ∨ f = 90 ∨ 91 ≤ f by omega) with rfl | rfl | rfl | rfl | rfl | rfl | rfl | rfl | rfl | rfl | hk
  · exact told_81 h
  · exact told_82 h
  · exact told_83 h
  · exact told_84 h
  · exact told_85 h
  · exact told_86 h
  · exact told_87 h
  · exact told_88 h
  · exact told_89 h
  · exact told_90 h
  rcases (show f = 91 ∨ f = 92 ∨ f = 93 ∨ f = 94 ∨ f = 95 ∨ f = 96 ∨ f = 97 ∨ f = 98 ∨ f = 99 ∨ f = 100 by omega) with rfl | rfl | rfl | rfl | rfl | rfl | rfl | rfl | rfl | rfl
  · exact told_91 h
  · exact told_92 h
  · exact told_93 h
  · exact told_94 h
  · exact told_95 h
  · exact told_96 h
  · exact told_97 h
  · exact told_98 h
  · exact told_99 h
  · exact told_100 h

/-- Two right instructions of one length that have one word are the same. -/
theorem once {f rd rn rm ra im kd bs st cd rg f' rd' rn' rm' ra' im' kd' bs' st' cd' rg' : Int} (h : right f rd rn rm ra im kd bs st cd rg = true) (g0 : -9223372036854775808 ≤ rg) (g1 : rg ≤ 9223372036854775807) (h' : right f' rd' rn' rm' ra' im' kd' bs' st' cd' rg' = true) (g0' : -9223372036854775808 ≤ rg') (g1' : rg' ≤ 9223372036854775807)
    (hl : (f ≤ 47 ∧ f' ≤ 47) ∨ (48 ≤ f ∧ 48 ≤ f')) (e : wd f rd rn rm ra im kd bs st cd rg = wd f' rd' rn' rm' ra' im' kd' bs' st' cd' rg') : f = f' ∧ rd = rd' ∧ rn = rn' ∧ rm = rm' ∧ ra = ra' ∧ im = im' ∧ kd = kd' ∧ bs = bs' ∧ st = st' ∧ cd = cd' ∧ rg = rg' := by
  have hf : f = f' := by
    rcases hl with ⟨a, b⟩ | ⟨a, b⟩
    · rw [← narrow_dec h g0 g1 a, ← narrow_dec h' g0' g1' b, e]
    · rw [← wide_dec h g0 g1 a, ← wide_dec h' g0' g1' b, e]
  subst hf
  have t := told h g0 g1
  have t' := told h' g0' g1'
  rw [e] at t
  obtain ⟨t0, t1, t2, t3, t4, t5, t6, t7, t8, t9⟩ := t
  obtain ⟨u0, u1, u2, u3, u4, u5, u6, u7, u8, u9⟩ := t'
  exact ⟨rfl, t0.symm.trans u0, t1.symm.trans u1, t2.symm.trans u2, t3.symm.trans u3, t4.symm.trans u4, t5.symm.trans u5, t6.symm.trans u6, t7.symm.trans u7, t8.symm.trans u8, t9.symm.trans u9⟩

end Go.Proofs.YtegefbndpkbooaaDoor.Code

/-! Between which numbers words of right instructions lie; a bit more of a number. -/
set_option linter.unusedVariables false
set_option linter.unusedSimpArgs false
namespace Go.Proofs.YtegefbndpkbooaaDoor.Code
open Go.Proofs.YtegefbndpkbooaaDoor.Alu Go.Proofs.YtegefbndpkbooaaDoor.Imm Go.Proofs.YtegefbndpkbooaaDoor.Inst

theorem lies_1 {rd rn rm ra im kd bs st cd rg : Int} (h : (if shp 1 < 17 then narrowB 1 (shp 1) rd rn rm ra im kd bs st cd rg else wideB (shp 1) rd rn rm ra im kd bs st cd rg) = true) : 0 ≤ wd 1 rd rn rm ra im kd bs st cd rg ∧ wd 1 rd rn rm ra im kd bs st cd rg ≤ 59391 := by
  have hs : shp 1 = 1 := by decide +kernel
  have hb : bts 1 = 0 := by decide +kernel
  rw [hs] at h
  have l := lin_1 h
  clear h
  unfold wd
  rw [hs, hb, add_1]
  have k0 : 0 ≤ im % 32 ∧ im % 32 ≤ 31 := by omega
  omega
theorem lies_2 {rd rn rm ra im kd bs st cd rg : Int} (h : (if shp 2 < 17 then narrowB 2 (shp 2) rd rn rm ra im kd bs st cd rg else wideB (shp 2) rd rn rm ra im kd bs st cd rg) = true) : 0 ≤ wd 2 rd rn rm ra im kd bs st cd rg ∧ wd 2 rd rn rm ra im kd bs st cd rg ≤ 59391 := by
  have hs : shp 2 = 1 := by decide +kernel
  have hb : bts 2 = 2048 := by decide +kernel
  rw [hs] at h
  have l := lin_1 h
  clear h
  unfold wd
  rw [hs, hb, add_1]
  have k0 : 0 ≤ im % 32 ∧ im % 32 ≤ 31 := by omega
  omega
theorem lies_3 {rd rn rm ra im kd bs st cd rg : Int} (h : (if shp 3 < 17 then narrowB 3 (shp 3) rd rn rm ra im kd bs st cd rg else wideB (shp 3) rd rn rm ra im kd bs st cd rg) = true) : 0 ≤ wd 3 rd rn rm ra im kd bs st cd rg ∧ wd 3 rd rn rm ra im kd bs st cd rg ≤ 59391 := by
  have hs : shp 3 = 1 := by decide +kernel
  have hb : bts 3 = 4096 := by decide +kernel
  rw [hs] at h
  have l := lin_1 h
  clear h
  unfold wd
  rw [hs, hb, add_1]
  have k0 : 0 ≤ im % 32 ∧ im % 32 ≤ 31 := by omega
  omega
theorem lies_4 {rd rn rm ra im kd bs st cd rg : Int} (h : (if shp 4 < 17 then narrowB 4 (shp 4) rd rn rm ra im kd bs st cd rg else wideB (shp 4) rd rn rm ra im kd bs st cd rg) = true) : 0 ≤ wd 4 rd rn rm ra im kd bs st cd rg ∧ wd 4 rd rn rm ra im kd bs st cd rg ≤ 59391 := by
  have hs : shp 4 = 2 := by decide +kernel
  have hb : bts 4 = 6144 := by decide +kernel
  rw [hs] at h
  have l := lin_2 h
  clear h
  unfold wd
  rw [hs, hb, add_2]
  omega
theorem lies_5 {rd rn rm ra im kd bs st cd rg : Int} (h : (if shp 5 < 17 then narrowB 5 (shp 5) rd rn rm ra im kd bs st cd rg else wideB (shp 5) rd rn rm ra im kd bs st cd rg) = true) : 0 ≤ wd 5 rd rn rm ra im kd bs st cd rg ∧ wd 5 rd rn rm ra im kd bs st cd rg ≤ 59391 := by
  have hs : shp 5 = 2 := by decide +kernel
  have hb : bts 5 = 6656 := by decide +kernel
  rw [hs] at h
  have l := lin_2 h
  clear h
  unfold wd
  rw [hs, hb, add_2]
  omega
theorem lies_6 {rd rn rm ra im kd bs st cd rg : Int} (h : (if shp 6 < 17 then narrowB 6 (shp 6) rd rn rm ra im kd bs st cd rg else wideB (shp 6) rd rn rm ra im kd bs st cd rg) = true) : 0 ≤ wd 6 rd rn rm ra im kd bs st cd rg ∧ wd 6 rd rn rm ra im kd bs st cd rg ≤ 59391 := by
  have hs : shp 6 = 3 := by decide +kernel
  have hb : bts 6 = 7168 := by decide +kernel
  rw [hs] at h
  have l := lin_3 h
  clear h
  unfold wd
  rw [hs, hb, add_3]
  omega
theorem lies_7 {rd rn rm ra im kd bs st cd rg : Int} (h : (if shp 7 < 17 then narrowB 7 (shp 7) rd rn rm ra im kd bs st cd rg else wideB (shp 7) rd rn rm ra im kd bs st cd rg) = true) : 0 ≤ wd 7 rd rn rm ra im kd bs st cd rg ∧ wd 7 rd rn rm ra im kd bs st cd rg ≤ 59391 := by
  have hs : shp 7 = 3 := by decide +kernel
  have hb : bts 7 = 7680 := by decide +kernel
  rw [hs] at h
  have l := lin_3 h
  clear h
  unfold wd
  rw [hs, hb, add_3]
  omega
theorem lies_8 {rd rn rm ra im kd bs st cd rg : Int} (h : (if shp 8 < 17 then narrowB 8 (shp 8) rd rn rm ra im kd bs st cd rg else wideB (shp 8) rd rn rm ra im kd bs st cd rg) = true) : 0 ≤ wd 8 rd rn rm ra im kd bs st cd rg ∧ wd 8 rd rn rm ra im kd bs st cd rg ≤ 59391 := by
  have hs : shp 8 = 4 := by decide +kernel
  have hb : bts 8 = 8192 := by decide +kernel
  rw [hs] at h
  have l := lin_4 h
  clear h
  unfold wd
  rw [hs, hb, add_4]
  omega
theorem lies_9 {rd rn rm ra im kd bs st cd rg : Int} (h : (if shp 9 < 17 then narrowB 9 (shp 9) rd rn rm ra im kd bs st cd rg else wideB (shp 9) rd rn rm ra im kd bs st cd rg) = true) : 0 ≤ wd 9 rd rn rm ra im kd bs st cd rg ∧ wd 9 rd rn rm ra im kd bs st cd rg ≤ 59391 := by
  have hs : shp 9 = 4 := by decide +kernel
  have hb : bts 9 = 10240 := by decide +kernel
  rw [hs] at h
  have l := lin_4 h
  clear h
  unfold wd
  rw [hs, hb, add_4]
  omega
theorem lies_10 {rd rn rm ra im kd bs st cd rg : Int} (h : (if shp 10 < 17 then narrowB 10 (shp 10) rd rn rm ra im kd bs st cd rg else wideB (shp 10) rd rn rm ra im kd bs st cd rg) = true) : 0 ≤ wd 10 rd rn rm ra im kd bs st cd rg ∧ wd 10 rd rn rm ra im kd bs st cd rg ≤ 59391 := by
  have hs : shp 10 = 4 := by decide +kernel
  have hb : bts 10 = 12288 := by decide +kernel
  rw [hs] at h
  have l := lin_4 h
  clear h
  unfold wd
  rw [hs, hb, add_4]
  omega
theorem lies_11 {rd rn rm ra im kd bs st cd rg : Int} (h : (if shp 11 < 17 then narrowB 11 (shp 11) rd rn rm ra im kd bs st cd rg else wideB (shp 11) rd rn rm ra im kd bs st cd rg) = true) : 0 ≤ wd 11 rd rn rm ra im kd bs st cd rg ∧ wd 11 rd rn rm ra im kd bs st cd rg ≤ 59391 := by
  have hs : shp 11 = 4 := by decide +kernel
  have hb : bts 11 = 14336 := by decide +kernel
  rw [hs] at h
  have l := lin_4 h
  clear h
  unfold wd
  rw [hs, hb, add_4]
  omega
theorem lies_12 {rd rn rm ra im kd bs st cd rg : Int} (h : (if shp 12 < 17 then narrowB 12 (shp 12) rd rn rm ra im kd bs st cd rg else wideB (shp 12) rd rn rm ra im kd bs st cd rg) = true) : 0 ≤ wd 12 rd rn rm ra im kd bs st cd rg ∧ wd 12 rd rn rm ra im kd bs st cd rg ≤ 59391 := by
  have hs : shp 12 = 5 := by decide +kernel
  have hb : bts 12 = 16384 := by decide +kernel
  rw [hs] at h
  have l := lin_5 h
  clear h
  unfold wd
  rw [hs, hb, add_5]
  omega
theorem lies_13 {rd rn rm ra im kd bs st cd rg : Int} (h : (if shp 13 < 17 then narrowB 13 (shp 13) rd rn rm ra im kd bs st cd rg else wideB (shp 13) rd rn rm ra im kd bs st cd rg) = true) : 0 ≤ wd 13 rd rn rm ra im kd bs st cd rg ∧ wd 13 rd rn rm ra im kd bs st cd rg ≤ 59391 := by
  have hs : shp 13 = 5 := by decide +kernel
  have hb : bts 13 = 16448 := by decide +kernel
  rw [hs] at h
  have l := lin_5 h
  clear h
  unfold wd
  rw [hs, hb, add_5]
  omega
theorem lies_14 {rd rn rm ra im kd bs st cd rg : Int} (h : (if shp 14 < 17 then narrowB 14 (shp 14) rd rn rm ra im kd bs st cd rg else wideB (shp 14) rd rn rm ra im kd bs st cd rg) = true) : 0 ≤ wd 14 rd rn rm ra im kd bs st cd rg ∧ wd 14 rd rn rm ra im kd bs st cd rg ≤ 59391 := by
  have hs : shp 14 = 5 := by decide +kernel
  have hb : bts 14 = 16512 := by decide +kernel
  rw [hs] at h
  have l := lin_5 h
  clear h
  unfold wd
  rw [hs, hb, add_5]
  omega
theorem lies_15 {rd rn rm ra im kd bs st cd rg : Int} (h : (if shp 15 < 17 then narrowB 15 (shp 15) rd rn rm ra im kd bs st cd rg else wideB (shp 15) rd rn rm ra im kd bs st cd rg) = true) : 0 ≤ wd 15 rd rn rm ra im kd bs st cd rg ∧ wd 15 rd rn rm ra im kd bs st cd rg ≤ 59391 := by
  have hs : shp 15 = 5 := by decide +kernel
  have hb : bts 15 = 16576 := by decide +kernel
  rw [hs] at h
  have l := lin_5 h
  clear h
  unfold wd
  rw [hs, hb, add_5]
  omega
theorem lies_16 {rd rn rm ra im kd bs st cd rg : Int} (h : (if shp 16 < 17 then narrowB 16 (shp 16) rd rn rm ra im kd bs st cd rg else wideB (shp 16) rd rn rm ra im kd bs st cd rg) = true) : 0 ≤ wd 16 rd rn rm ra im kd bs st cd rg ∧ wd 16 rd rn rm ra im kd bs st cd rg ≤ 59391 := by
  have hs : shp 16 = 5 := by decide +kernel
  have hb : bts 16 = 16640 := by decide +kernel
  rw [hs] at h
  have l := lin_5 h
  clear h
  unfold wd
  rw [hs, hb, add_5]
  omega
theorem lies_17 {rd rn rm ra im kd bs st cd rg : Int} (h : (if shp 17 < 17 then narrowB 17 (shp 17) rd rn rm ra im kd bs st cd rg else wideB (shp 17) rd rn rm ra im kd bs st cd rg) = true) : 0 ≤ wd 17 rd rn rm ra im kd bs st cd rg ∧ wd 17 rd rn rm ra im kd bs st cd rg ≤ 59391 := by
  have hs : shp 17 = 5 := by decide +kernel
  have hb : bts 17 = 16704 := by decide +kernel
  rw [hs] at h
  have l := lin_5 h
  clear h
  unfold wd
  rw [hs, hb, add_5]
  omega
theorem lies_18 {rd rn rm ra im kd bs st cd rg : Int} (h : (if shp 18 < 17 then narrowB 18 (shp 18) rd rn rm ra im kd bs st cd rg else wideB (shp 18) rd rn rm ra im kd bs st cd rg) = true) : 0 ≤ wd 18 rd rn rm ra im kd bs st cd rg ∧ wd 18 rd rn rm ra im kd bs st cd rg ≤ 59391 := by
  have hs : shp 18 = 5 := by decide +kernel
  have hb : bts 18 = 16768 := by decide +kernel
  rw [hs] at h
  have l := lin_5 h
  clear h
  unfold wd
  rw [hs, hb, add_5]
  omega
theorem lies_19 {rd rn rm ra im kd bs st cd rg : Int} (h : (if shp 19 < 17 then narrowB 19 (shp 19) rd rn rm ra im kd bs st cd rg else wideB (shp 19) rd rn rm ra im kd bs st cd rg) = true) : 0 ≤ wd 19 rd rn rm ra im kd bs st cd rg ∧ wd 19 rd rn rm ra im kd bs st cd rg ≤ 59391 := by
  have hs : shp 19 = 5 := by decide +kernel
  have hb : bts 19 = 16832 := by decide +kernel
  rw [hs] at h
  have l := lin_5 h
  clear h
  unfold wd
  rw [hs, hb, add_5]
  omega
theorem lies_20 {rd rn rm ra im kd bs st cd rg : Int} (h : (if shp 20 < 17 then narrowB 20 (shp 20) rd rn rm ra im kd bs st cd rg else wideB (shp 20) rd rn rm ra im kd bs st cd rg) = true) : 0 ≤ wd 20 rd rn rm ra im kd bs st cd rg ∧ wd 20 rd rn rm ra im kd bs st cd rg ≤ 59391 := by
  have hs : shp 20 = 5 := by decide +kernel
  have hb : bts 20 = 16896 := by decide +kernel
  rw [hs] at h
  have l := lin_5 h
  clear h
  unfold wd
  rw [hs, hb, add_5]
  omega
theorem lies_21 {rd rn rm ra im kd bs st cd rg : Int} (h : (if shp 21 < 17 then narrowB 21 (shp 21) rd rn rm ra im kd bs st cd rg else wideB (shp 21) rd rn rm ra im kd bs st cd rg) = true) : 0 ≤ wd 21 rd rn rm ra im kd bs st cd rg ∧ wd 21 rd rn rm ra im kd bs st cd rg ≤ 59391 := by
  have hs : shp 21 = 5 := by decide +kernel
  have hb : bts 21 = 16960 := by decide +kernel
  rw [hs] at h
  have l := lin_5 h
  clear h
  unfold wd
  rw [hs, hb, add_5]
  omega
theorem lies_22 {rd rn rm ra im kd bs st cd rg : Int} (h : (if shp 22 < 17 then narrowB 22 (shp 22) rd rn rm ra im kd bs st cd rg else wideB (shp 22) rd rn rm ra im kd bs st cd rg) = true) : 0 ≤ wd 22 rd rn rm ra im kd bs st cd rg ∧ wd 22 rd rn rm ra im kd bs st cd rg ≤ 59391 := by
  have hs : shp 22 = 5 := by decide +kernel
  have hb : bts 22 = 17024 := by decide +kernel
  rw [hs] at h
  have l := lin_5 h
  clear h
  unfold wd
  rw [hs, hb, add_5]
  omega
theorem lies_23 {rd rn rm ra im kd bs st cd rg : Int} (h : (if shp 23 < 17 then narrowB 23 (shp 23) rd rn rm ra im kd bs st cd rg else wideB (shp 23) rd rn rm ra im kd bs st cd rg) = true) : 0 ≤ wd 23 rd rn rm ra im kd bs st cd rg ∧ wd 23 rd rn rm ra im kd bs st cd rg ≤ 59391 := by
  have hs : shp 23 = 5 := by decide +kernel
  have hb : bts 23 = 17088 := by decide +kernel
  rw [hs] at h
  have l := lin_5 h
  clear h
  unfold wd
  rw [hs, hb, add_5]
  omega
theorem lies_24 {rd rn rm ra im kd bs st cd rg : Int} (h : (if shp 24 < 17 then narrowB 24 (shp 24) rd rn rm ra im kd bs st cd rg else wideB (shp 24) rd rn rm ra im kd bs st cd rg) = true) : 0 ≤ wd 24 rd rn rm ra im kd bs st cd rg ∧ wd 24 rd rn rm ra im kd bs st cd rg ≤ 59391 := by
  have hs : shp 24 = 5 := by decide +kernel
  have hb : bts 24 = 17152 := by decide +kernel
  rw [hs] at h
  have l := lin_5 h
  clear h
  unfold wd
  rw [hs, hb, add_5]
  omega
theorem lies_25 {rd rn rm ra im kd bs st cd rg : Int} (h : (if shp 25 < 17 then narrowB 25 (shp 25) rd rn rm ra im kd bs st cd rg else wideB (shp 25) rd rn rm ra im kd bs st cd rg) = true) : 0 ≤ wd 25 rd rn rm ra im kd bs st cd rg ∧ wd 25 rd rn rm ra im kd bs st cd rg ≤ 59391 := by
  have hs : shp 25 = 5 := by decide +kernel
  have hb : bts 25 = 17216 := by decide +kernel
  rw [hs] at h
  have l := lin_5 h
  clear h
  unfold wd
  rw [hs, hb, add_5]
  omega
theorem lies_26 {rd rn rm ra im kd bs st cd rg : Int} (h : (if shp 26 < 17 then narrowB 26 (shp 26) rd rn rm ra im kd bs st cd rg else wideB (shp 26) rd rn rm ra im kd bs st cd rg) = true) : 0 ≤ wd 26 rd rn rm ra im kd bs st cd rg ∧ wd 26 rd rn rm ra im kd bs st cd rg ≤ 59391 := by
  have hs : shp 26 = 5 := by decide +kernel
  have hb : bts 26 = 17280 := by decide +kernel
  rw [hs] at h
  have l := lin_5 h
  clear h
  unfold wd
  rw [hs, hb, add_5]
  omega
theorem lies_27 {rd rn rm ra im kd bs st cd rg : Int} (h : (if shp 27 < 17 then narrowB 27 (shp 27) rd rn rm ra im kd bs st cd rg else wideB (shp 27) rd rn rm ra im kd bs st cd rg) = true) : 0 ≤ wd 27 rd rn rm ra im kd bs st cd rg ∧ wd 27 rd rn rm ra im kd bs st cd rg ≤ 59391 := by
  have hs : shp 27 = 5 := by decide +kernel
  have hb : bts 27 = 17344 := by decide +kernel
  rw [hs] at h
  have l := lin_5 h
  clear h
  unfold wd
  rw [hs, hb, add_5]
  omega
theorem lies_28 {rd rn rm ra im kd bs st cd rg : Int} (h : (if shp 28 < 17 then narrowB 28 (shp 28) rd rn rm ra im kd bs st cd rg else wideB (shp 28) rd rn rm ra im kd bs st cd rg) = true) : 0 ≤ wd 28 rd rn rm ra im kd bs st cd rg ∧ wd 28 rd rn rm ra im kd bs st cd rg ≤ 59391 := by
  have hs : shp 28 = 6 := by decide +kernel
  have hb : bts 28 = 17408 := by decide +kernel
  rw [hs] at h
  have l := lin_6 h
  clear h
  unfold wd
  rw [hs, hb, add_6]
  have k0 : 0 ≤ rd / 8 ∧ rd / 8 ≤ 1 := by omega
  have k1 : 0 ≤ rd % 8 ∧ rd % 8 ≤ 7 := by omega
  omega
theorem lies_29 {rd rn rm ra im kd bs st cd rg : Int} (h : (if shp 29 < 17 then narrowB 29 (shp 29) rd rn rm ra im kd bs st cd rg else wideB (shp 29) rd rn rm ra im kd bs st cd rg) = true) : 0 ≤ wd 29 rd rn rm ra im kd bs st cd rg ∧ wd 29 rd rn rm ra im kd bs st cd rg ≤ 59391 := by
  have hs : shp 29 = 6 := by decide +kernel
  have hb : bts 29 = 17664 := by decide +kernel
  rw [hs] at h
  have l := lin_6 h
  clear h
  unfold wd
  rw [hs, hb, add_6]
  have k0 : 0 ≤ rd / 8 ∧ rd / 8 ≤ 1 := by omega
  have k1 : 0 ≤ rd % 8 ∧ rd % 8 ≤ 7 := by omega
  omega
theorem lies_30 {rd rn rm ra im kd bs st cd rg : Int} (h : (if shp 30 < 17 then narrowB 30 (shp 30) rd rn rm ra im kd bs st cd rg else wideB (shp 30) rd rn rm ra im kd bs st cd rg) = true) : 0 ≤ wd 30 rd rn rm ra im kd bs st cd rg ∧ wd 30 rd rn rm ra im kd bs st cd rg ≤ 59391 := by
  have hs : shp 30 = 6 := by decide +kernel
  have hb : bts 30 = 17920 := by decide +kernel
  rw [hs] at h
  have l := lin_6 h
  clear h
  unfold wd
  rw [hs, hb, add_6]
  have k0 : 0 ≤ rd / 8 ∧ rd / 8 ≤ 1 := by omega
  have k1 : 0 ≤ rd % 8 ∧ rd % 8 ≤ 7 := by omega
  omega
theorem lies_31 {rd rn rm ra im kd bs st cd rg : Int} (h : (if shp 31 < 17 then narrowB 31 (shp 31) rd rn rm ra im kd bs st cd rg else wideB (shp 31) rd rn rm ra im kd bs st cd rg) = true) : 0 ≤ wd 31 rd rn rm ra im kd bs st cd rg ∧ wd 31 rd rn rm ra im kd bs st cd rg ≤ 59391 := by
  have hs : shp 31 = 7 := by decide +kernel
  have hb : bts 31 = 18176 := by decide +kernel
  rw [hs] at h
  have l := lin_7 h
  clear h
  unfold wd
  rw [hs, hb, add_7]
  omega
theorem lies_32 {rd rn rm ra im kd bs st cd rg : Int} (h : (if shp 32 < 17 then narrowB 32 (shp 32) rd rn rm ra im kd bs st cd rg else wideB (shp 32) rd rn rm ra im kd bs st cd rg) = true) : 0 ≤ wd 32 rd rn rm ra im kd bs st cd rg ∧ wd 32 rd rn rm ra im kd bs st cd rg ≤ 59391 := by
  have hs : shp 32 = 8 := by decide +kernel
  have hb : bts 32 = 18432 := by decide +kernel
  rw [hs] at h
  have l := lin_8 h
  clear h
  unfold wd
  rw [hs, hb, add_8]
  have k0 : 0 ≤ im / 4 ∧ im / 4 ≤ 255 := by omega
  omega
theorem lies_33 {rd rn rm ra im kd bs st cd rg : Int} (h : (if shp 33 < 17 then narrowB 33 (shp 33) rd rn rm ra im kd bs st cd rg else wideB (shp 33) rd rn rm ra im kd bs st cd rg) = true) : 0 ≤ wd 33 rd rn rm ra im kd bs st cd rg ∧ wd 33 rd rn rm ra im kd bs st cd rg ≤ 59391 := by
  have hs : shp 33 = 2 := by decide +kernel
  have hb : bts 33 = 20480 := by decide +kernel
  rw [hs] at h
  have l := lin_2 h
  clear h
  unfold wd
  rw [hs, hb, add_2]
  omega
theorem lies_34 {rd rn rm ra im kd bs st cd rg : Int} (h : (if shp 34 < 17 then narrowB 34 (shp 34) rd rn rm ra im kd bs st cd rg else wideB (shp 34) rd rn rm ra im kd bs st cd rg) = true) : 0 ≤ wd 34 rd rn rm ra im kd bs st cd rg ∧ wd 34 rd rn rm ra im kd bs st cd rg ≤ 59391 := by
  have hs : shp 34 = 2 := by decide +kernel
  have hb : bts 34 = 22528 := by decide +kernel
  rw [hs] at h
  have l := lin_2 h
  clear h
  unfold wd
  rw [hs, hb, add_2]
  omega
theorem lies_35 {rd rn rm ra im kd bs st cd rg : Int} (h : (if shp 35 < 17 then narrowB 35 (shp 35) rd rn rm ra im kd bs st cd rg else wideB (shp 35) rd rn rm ra im kd bs st cd rg) = true) : 0 ≤ wd 35 rd rn rm ra im kd bs st cd rg ∧ wd 35 rd rn rm ra im kd bs st cd rg ≤ 59391 := by
  have hs : shp 35 = 9 := by decide +kernel
  have hb : bts 35 = 24576 := by decide +kernel
  rw [hs] at h
  have l := lin_9 h
  clear h
  unfold wd
  rw [hs, hb, add_9]
  have k0 : 0 ≤ im / 4 ∧ im / 4 ≤ 31 := by omega
  omega
theorem lies_36 {rd rn rm ra im kd bs st cd rg : Int} (h : (if shp 36 < 17 then narrowB 36 (shp 36) rd rn rm ra im kd bs st cd rg else wideB (shp 36) rd rn rm ra im kd bs st cd rg) = true) : 0 ≤ wd 36 rd rn rm ra im kd bs st cd rg ∧ wd 36 rd rn rm ra im kd bs st cd rg ≤ 59391 := by
  have hs : shp 36 = 9 := by decide +kernel
  have hb : bts 36 = 26624 := by decide +kernel
  rw [hs] at h
  have l := lin_9 h
  clear h
  unfold wd
  rw [hs, hb, add_9]
  have k0 : 0 ≤ im / 4 ∧ im / 4 ≤ 31 := by omega
  omega
theorem lies_37 {rd rn rm ra im kd bs st cd rg : Int} (h : (if shp 37 < 17 then narrowB 37 (shp 37) rd rn rm ra im kd bs st cd rg else wideB (shp 37) rd rn rm ra im kd bs st cd rg) = true) : 0 ≤ wd 37 rd rn rm ra im kd bs st cd rg ∧ wd 37 rd rn rm ra im kd bs st cd rg ≤ 59391 := by
  have hs : shp 37 = 8 := by decide +kernel
  have hb : bts 37 = 36864 := by decide +kernel
  rw [hs] at h
  have l := lin_8 h
  clear h
  unfold wd
  rw [hs, hb, add_8]
  have k0 : 0 ≤ im / 4 ∧ im / 4 ≤ 255 := by omega
  omega
theorem lies_38 {rd rn rm ra im kd bs st cd rg : Int} (h : (if shp 38 < 17 then narrowB 38 (shp 38) rd rn rm ra im kd bs st cd rg else wideB (shp 38) rd rn rm ra im kd bs st cd rg) = true) : 0 ≤ wd 38 rd rn rm ra im kd bs st cd rg ∧ wd 38 rd rn rm ra im kd bs st cd rg ≤ 59391 := by
  have hs : shp 38 = 8 := by decide +kernel
  have hb : bts 38 = 38912 := by decide +kernel
  rw [hs] at h
  have l := lin_8 h
  clear h
  unfold wd
  rw [hs, hb, add_8]
  have k0 : 0 ≤ im / 4 ∧ im / 4 ≤ 255 := by omega
  omega
theorem lies_39 {rd rn rm ra im kd bs st cd rg : Int} (h : (if shp 39 < 17 then narrowB 39 (shp 39) rd rn rm ra im kd bs st cd rg else wideB (shp 39) rd rn rm ra im kd bs st cd rg) = true) : 0 ≤ wd 39 rd rn rm ra im kd bs st cd rg ∧ wd 39 rd rn rm ra im kd bs st cd rg ≤ 59391 := by
  have hs : shp 39 = 8 := by decide +kernel
  have hb : bts 39 = 43008 := by decide +kernel
  rw [hs] at h
  have l := lin_8 h
  clear h
  unfold wd
  rw [hs, hb, add_8]
  have k0 : 0 ≤ im / 4 ∧ im / 4 ≤ 255 := by omega
  omega
theorem lies_40 {rd rn rm ra im kd bs st cd rg : Int} (h : (if shp 40 < 17 then narrowB 40 (shp 40) rd rn rm ra im kd bs st cd rg else wideB (shp 40) rd rn rm ra im kd bs st cd rg) = true) : 0 ≤ wd 40 rd rn rm ra im kd bs st cd rg ∧ wd 40 rd rn rm ra im kd bs st cd rg ≤ 59391 := by
  have hs : shp 40 = 10 := by decide +kernel
  have hb : bts 40 = 45056 := by decide +kernel
  rw [hs] at h
  have l := lin_10 h
  clear h
  unfold wd
  rw [hs, hb, add_10]
  have k0 : 0 ≤ im / 4 ∧ im / 4 ≤ 127 := by omega
  omega
theorem lies_41 {rd rn rm ra im kd bs st cd rg : Int} (h : (if shp 41 < 17 then narrowB 41 (shp 41) rd rn rm ra im kd bs st cd rg else wideB (shp 41) rd rn rm ra im kd bs st cd rg) = true) : 0 ≤ wd 41 rd rn rm ra im kd bs st cd rg ∧ wd 41 rd rn rm ra im kd bs st cd rg ≤ 59391 := by
  have hs : shp 41 = 10 := by decide +kernel
  have hb : bts 41 = 45184 := by decide +kernel
  rw [hs] at h
  have l := lin_10 h
  clear h
  unfold wd
  rw [hs, hb, add_10]
  have k0 : 0 ≤ im / 4 ∧ im / 4 ≤ 127 := by omega
  omega
theorem lies_42 {rd rn rm ra im kd bs st cd rg : Int} (h : (if shp 42 < 17 then narrowB 42 (shp 42) rd rn rm ra im kd bs st cd rg else wideB (shp 42) rd rn rm ra im kd bs st cd rg) = true) : 0 ≤ wd 42 rd rn rm ra im kd bs st cd rg ∧ wd 42 rd rn rm ra im kd bs st cd rg ≤ 59391 := by
  have hs : shp 42 = 11 := by decide +kernel
  have hb : bts 42 = 46080 := by decide +kernel
  rw [hs] at h
  have l := lin_11 h
  clear h
  unfold wd
  rw [hs, hb, add_11]
  have k0 : 0 ≤ rg / 16384 % 2 ∧ rg / 16384 % 2 ≤ 1 := by omega
  have k1 : 0 ≤ rg % 256 ∧ rg % 256 ≤ 255 := by omega
  omega
theorem lies_43 {rd rn rm ra im kd bs st cd rg : Int} (h : (if shp 43 < 17 then narrowB 43 (shp 43) rd rn rm ra im kd bs st cd rg else wideB (shp 43) rd rn rm ra im kd bs st cd rg) = true) : 0 ≤ wd 43 rd rn rm ra im kd bs st cd rg ∧ wd 43 rd rn rm ra im kd bs st cd rg ≤ 59391 := by
  have hs : shp 43 = 12 := by decide +kernel
  have hb : bts 43 = 48128 := by decide +kernel
  rw [hs] at h
  have l := lin_12 h
  clear h
  unfold wd
  rw [hs, hb, add_12]
  have k0 : 0 ≤ rg / 32768 % 2 ∧ rg / 32768 % 2 ≤ 1 := by omega
  have k1 : 0 ≤ rg % 256 ∧ rg % 256 ≤ 255 := by omega
  omega
theorem lies_44 {rd rn rm ra im kd bs st cd rg : Int} (h : (if shp 44 < 17 then narrowB 44 (shp 44) rd rn rm ra im kd bs st cd rg else wideB (shp 44) rd rn rm ra im kd bs st cd rg) = true) : 0 ≤ wd 44 rd rn rm ra im kd bs st cd rg ∧ wd 44 rd rn rm ra im kd bs st cd rg ≤ 59391 := by
  have hs : shp 44 = 13 := by decide +kernel
  have hb : bts 44 = 48896 := by decide +kernel
  rw [hs] at h
  have l := lin_13 h
  clear h
  unfold wd
  rw [hs, hb, add_13]
  omega
theorem lies_45 {rd rn rm ra im kd bs st cd rg : Int} (h : (if shp 45 < 17 then narrowB 45 (shp 45) rd rn rm ra im kd bs st cd rg else wideB (shp 45) rd rn rm ra im kd bs st cd rg) = true) : 0 ≤ wd 45 rd rn rm ra im kd bs st cd rg ∧ wd 45 rd rn rm ra im kd bs st cd rg ≤ 59391 := by
  have hs : shp 45 = 14 := by decide +kernel
  have hb : bts 45 = 48640 := by decide +kernel
  rw [hs] at h
  have l := lin_14 h
  clear h
  unfold wd
  rw [hs, hb, add_14]
  omega
theorem lies_46 {rd rn rm ra im kd bs st cd rg : Int} (h : (if shp 46 < 17 then narrowB 46 (shp 46) rd rn rm ra im kd bs st cd rg else wideB (shp 46) rd rn rm ra im kd bs st cd rg) = true) : 0 ≤ wd 46 rd rn rm ra im kd bs st cd rg ∧ wd 46 rd rn rm ra im kd bs st cd rg ≤ 59391 := by
  have hs : shp 46 = 15 := by decide +kernel
  have hb : bts 46 = 53248 := by decide +kernel
  rw [hs] at h
  have l := lin_15 h
  clear h
  unfold wd
  rw [hs, hb, add_15]
  have k0 : 0 ≤ im / 2 % 256 ∧ im / 2 % 256 ≤ 255 := by omega
  omega
theorem lies_47 {rd rn rm ra im kd bs st cd rg : Int} (h : (if shp 47 < 17 then narrowB 47 (shp 47) rd rn rm ra im kd bs st cd rg else wideB (shp 47) rd rn rm ra im kd bs st cd rg) = true) : 0 ≤ wd 47 rd rn rm ra im kd bs st cd rg ∧ wd 47 rd rn rm ra im kd bs st cd rg ≤ 59391 := by
  have hs : shp 47 = 16 := by decide +kernel
  have hb : bts 47 = 57344 := by decide +kernel
  rw [hs] at h
  have l := lin_16 h
  clear h
  unfold wd
  rw [hs, hb, add_16]
  have k0 : 0 ≤ im / 2 % 2048 ∧ im / 2 % 2048 ≤ 2047 := by omega
  omega
theorem lies_48 {rd rn rm ra im kd bs st cd rg : Int} (h : (if shp 48 < 17 then narrowB 48 (shp 48) rd rn rm ra im kd bs st cd rg else wideB (shp 48) rd rn rm ra im kd bs st cd rg) = true) : 3892314112 ≤ wd 48 rd rn rm ra im kd bs st cd rg ∧ wd 48 rd rn rm ra im kd bs st cd rg ≤ 4294967295 := by
  have hs : shp 48 = 17 := by decide +kernel
  have hb : bts 48 = 4064280576 := by decide +kernel
  rw [hs] at h
  have l := lin_17 h
  clear h
  unfold wd
  rw [hs, hb, add_17]
  have k0 : 0 ≤ im / 2048 % 2 ∧ im / 2048 % 2 ≤ 1 := by omega
  have k1 : 0 ≤ im / 4096 ∧ im / 4096 ≤ 15 := by omega
  have k2 : 0 ≤ im / 256 % 8 ∧ im / 256 % 8 ≤ 7 := by omega
  have k3 : 0 ≤ im % 256 ∧ im % 256 ≤ 255 := by omega
  omega
theorem lies_49 {rd rn rm ra im kd bs st cd rg : Int} (h : (if shp 49 < 17 then narrowB 49 (shp 49) rd rn rm ra im kd bs st cd rg else wideB (shp 49) rd rn rm ra im kd bs st cd rg) = true) : 3892314112 ≤ wd 49 rd rn rm ra im kd bs st cd rg ∧ wd 49 rd rn rm ra im kd bs st cd rg ≤ 4294967295 := by
  have hs : shp 49 = 17 := by decide +kernel
  have hb : bts 49 = 4072669184 := by decide +kernel
  rw [hs] at h
  have l := lin_17 h
  clear h
  unfold wd
  rw [hs, hb, add_17]
  have k0 : 0 ≤ im / 2048 % 2 ∧ im / 2048 % 2 ≤ 1 := by omega
  have k1 : 0 ≤ im / 4096 ∧ im / 4096 ≤ 15 := by omega
  have k2 : 0 ≤ im / 256 % 8 ∧ im / 256 % 8 ≤ 7 := by omega
  have k3 : 0 ≤ im % 256 ∧ im % 256 ≤ 255 := by omega
  omega
theorem lies_50 {rd rn rm ra im kd bs st cd rg : Int} (h : (if shp 50 < 17 then narrowB 50 (shp 50) rd rn rm ra im kd bs st cd rg else wideB (shp 50) rd rn rm ra im kd bs st cd rg) = true) : 3892314112 ≤ wd 50 rd rn rm ra im kd bs st cd rg ∧ wd 50 rd rn rm ra im kd bs st cd rg ≤ 4294967295 := by
  have hs : shp 50 = 18 := by decide +kernel
  have hb : bts 50 = 4026531840 := by decide +kernel
  rw [hs] at h
  have l := lin_18 h
  clear h
  unfold wd
  rw [hs, hb, add_18]
  have k0 : 0 ≤ im / 2048 ∧ im / 2048 ≤ 1 := by omega
  have k1 : 0 ≤ im / 256 % 8 ∧ im / 256 % 8 ≤ 7 := by omega
  have k2 : 0 ≤ im % 256 ∧ im % 256 ≤ 255 := by omega
  omega
theorem lies_51 {rd rn rm ra im kd bs st cd rg : Int} (h : (if shp 51 < 17 then narrowB 51 (shp 51) rd rn rm ra im kd bs st cd rg else wideB (shp 51) rd rn rm ra im kd bs st cd rg) = true) : 3892314112 ≤ wd 51 rd rn rm ra im kd bs st cd rg ∧ wd 51 rd rn rm ra im kd bs st cd rg ≤ 4294967295 := by
  have hs : shp 51 = 18 := by decide +kernel
  have hb : bts 51 = 4028628992 := by decide +kernel
  rw [hs] at h
  have l := lin_18 h
  clear h
  unfold wd
  rw [hs, hb, add_18]
  have k0 : 0 ≤ im / 2048 ∧ im / 2048 ≤ 1 := by omega
  have k1 : 0 ≤ im / 256 % 8 ∧ im / 256 % 8 ≤ 7 := by omega
  have k2 : 0 ≤ im % 256 ∧ im % 256 ≤ 255 := by omega
  omega
theorem lies_52 {rd rn rm ra im kd bs st cd rg : Int} (h : (if shp 52 < 17 then narrowB 52 (shp 52) rd rn rm ra im kd bs st cd rg else wideB (shp 52) rd rn rm ra im kd bs st cd rg) = true) : 3892314112 ≤ wd 52 rd rn rm ra im kd bs st cd rg ∧ wd 52 rd rn rm ra im kd bs st cd rg ≤ 4294967295 := by
  have hs : shp 52 = 18 := by decide +kernel
  have hb : bts 52 = 4030726144 := by decide +kernel
  rw [hs] at h
  have l := lin_18 h
  clear h
  unfold wd
  rw [hs, hb, add_18]
  have k0 : 0 ≤ im / 2048 ∧ im / 2048 ≤ 1 := by omega
  have k1 : 0 ≤ im / 256 % 8 ∧ im / 256 % 8 ≤ 7 := by omega
  have k2 : 0 ≤ im % 256 ∧ im % 256 ≤ 255 := by omega
  omega
theorem lies_53 {rd rn rm ra im kd bs st cd rg : Int} (h : (if shp 53 < 17 then narrowB 53 (shp 53) rd rn rm ra im kd bs st cd rg else wideB (shp 53) rd rn rm ra im kd bs st cd rg) = true) : 3892314112 ≤ wd 53 rd rn rm ra im kd bs st cd rg ∧ wd 53 rd rn rm ra im kd bs st cd rg ≤ 4294967295 := by
  have hs : shp 53 = 18 := by decide +kernel
  have hb : bts 53 = 4032823296 := by decide +kernel
  rw [hs] at h
  have l := lin_18 h
  clear h
  unfold wd
  rw [hs, hb, add_18]
  have k0 : 0 ≤ im / 2048 ∧ im / 2048 ≤ 1 := by omega
  have k1 : 0 ≤ im / 256 % 8 ∧ im / 256 % 8 ≤ 7 := by omega
  have k2 : 0 ≤ im % 256 ∧ im % 256 ≤ 255 := by omega
  omega
theorem lies_54 {rd rn rm ra im kd bs st cd rg : Int} (h : (if shp 54 < 17 then narrowB 54 (shp 54) rd rn rm ra im kd bs st cd rg else wideB (shp 54) rd rn rm ra im kd bs st cd rg) = true) : 3892314112 ≤ wd 54 rd rn rm ra im kd bs st cd rg ∧ wd 54 rd rn rm ra im kd bs st cd rg ≤ 4294967295 := by
  have hs : shp 54 = 18 := by decide +kernel
  have hb : bts 54 = 4034920448 := by decide +kernel
  rw [hs] at h
  have l := lin_18 h
  clear h
  unfold wd
  rw [hs, hb, add_18]
  have k0 : 0 ≤ im / 2048 ∧ im / 2048 ≤ 1 := by omega
  have k1 : 0 ≤ im / 256 % 8 ∧ im / 256 % 8 ≤ 7 := by omega
  have k2 : 0 ≤ im % 256 ∧ im % 256 ≤ 255 := by omega
  omega
theorem lies_55 {rd rn rm ra im kd bs st cd rg : Int} (h : (if shp 55 < 17 then narrowB 55 (shp 55) rd rn rm ra im kd bs st cd rg else wideB (shp 55) rd rn rm ra im kd bs st cd rg) = true) : 3892314112 ≤ wd 55 rd rn rm ra im kd bs st cd rg ∧ wd 55 rd rn rm ra im kd bs st cd rg ≤ 4294967295 := by
  have hs : shp 55 = 18 := by decide +kernel
  have hb : bts 55 = 4043309056 := by decide +kernel
  rw [hs] at h
  have l := lin_18 h
  clear h
  unfold wd
  rw [hs, hb, add_18]
  have k0 : 0 ≤ im / 2048 ∧ im / 2048 ≤ 1 := by omega
  have k1 : 0 ≤ im / 256 % 8 ∧ im / 256 % 8 ≤ 7 := by omega
  have k2 : 0 ≤ im % 256 ∧ im % 256 ≤ 255 := by omega
  omega
theorem lies_56 {rd rn rm ra im kd bs st cd rg : Int} (h : (if shp 56 < 17 then narrowB 56 (shp 56) rd rn rm ra im kd bs st cd rg else wideB (shp 56) rd rn rm ra im kd bs st cd rg) = true) : 3892314112 ≤ wd 56 rd rn rm ra im kd bs st cd rg ∧ wd 56 rd rn rm ra im kd bs st cd rg ≤ 4294967295 := by
  have hs : shp 56 = 18 := by decide +kernel
  have hb : bts 56 = 4047503360 := by decide +kernel
  rw [hs] at h
  have l := lin_18 h
  clear h
  unfold wd
  rw [hs, hb, add_18]
  have k0 : 0 ≤ im / 2048 ∧ im / 2048 ≤ 1 := by omega
  have k1 : 0 ≤ im / 256 % 8 ∧ im / 256 % 8 ≤ 7 := by omega
  have k2 : 0 ≤ im % 256 ∧ im % 256 ≤ 255 := by omega
  omega
theorem lies_57 {rd rn rm ra im kd bs st cd rg : Int} (h : (if shp 57 < 17 then narrowB 57 (shp 57) rd rn rm ra im kd bs st cd rg else wideB (shp 57) rd rn rm ra im kd bs st cd rg) = true) : 3892314112 ≤ wd 57 rd rn rm ra im kd bs st cd rg ∧ wd 57 rd rn rm ra im kd bs st cd rg ≤ 4294967295 := by
  have hs : shp 57 = 18 := by decide +kernel
  have hb : bts 57 = 4049600512 := by decide +kernel
  rw [hs] at h
  have l := lin_18 h
  clear h
  unfold wd
  rw [hs, hb, add_18]
  have k0 : 0 ≤ im / 2048 ∧ im / 2048 ≤ 1 := by omega
  have k1 : 0 ≤ im / 256 % 8 ∧ im / 256 % 8 ≤ 7 := by omega
  have k2 : 0 ≤ im % 256 ∧ im % 256 ≤ 255 := by omega
  omega
theorem lies_58 {rd rn rm ra im kd bs st cd rg : Int} (h : (if shp 58 < 17 then narrowB 58 (shp 58) rd rn rm ra im kd bs st cd rg else wideB (shp 58) rd rn rm ra im kd bs st cd rg) = true) : 3892314112 ≤ wd 58 rd rn rm ra im kd bs st cd rg ∧ wd 58 rd rn rm ra im kd bs st cd rg ≤ 4294967295 := by
  have hs : shp 58 = 18 := by decide +kernel
  have hb : bts 58 = 4053794816 := by decide +kernel
  rw [hs] at h
  have l := lin_18 h
  clear h
  unfold wd
  rw [hs, hb, add_18]
  have k0 : 0 ≤ im / 2048 ∧ im / 2048 ≤ 1 := by omega
  have k1 : 0 ≤ im / 256 % 8 ∧ im / 256 % 8 ≤ 7 := by omega
  have k2 : 0 ≤ im % 256 ∧ im % 256 ≤ 255 := by omega
  omega
theorem lies_59 {rd rn rm ra im kd bs st cd rg : Int} (h : (if shp 59 < 17 then narrowB 59 (shp 59) rd rn rm ra im kd bs st cd rg else wideB (shp 59) rd rn rm ra im kd bs st cd rg) = true) : 3892314112 ≤ wd 59 rd rn rm ra im kd bs st cd rg ∧ wd 59 rd rn rm ra im kd bs st cd rg ≤ 4294967295 := by
  have hs : shp 59 = 18 := by decide +kernel
  have hb : bts 59 = 4055891968 := by decide +kernel
  rw [hs] at h
  have l := lin_18 h
  clear h
  unfold wd
  rw [hs, hb, add_18]
  have k0 : 0 ≤ im / 2048 ∧ im / 2048 ≤ 1 := by omega
  have k1 : 0 ≤ im / 256 % 8 ∧ im / 256 % 8 ≤ 7 := by omega
  have k2 : 0 ≤ im % 256 ∧ im % 256 ≤ 255 := by omega
  omega
theorem lies_60 {rd rn rm ra im kd bs st cd rg : Int} (h : (if shp 60 < 17 then narrowB 60 (shp 60) rd rn rm ra im kd bs st cd rg else wideB (shp 60) rd rn rm ra im kd bs st cd rg) = true) : 3892314112 ≤ wd 60 rd rn rm ra im kd bs st cd rg ∧ wd 60 rd rn rm ra im kd bs st cd rg ≤ 4294967295 := by
  have hs : shp 60 = 19 := by decide +kernel
  have hb : bts 60 = 4031709184 := by decide +kernel
  rw [hs] at h
  have l := lin_19 h
  clear h
  unfold wd
  rw [hs, hb, add_19]
  have k0 : 0 ≤ im / 2048 ∧ im / 2048 ≤ 1 := by omega
  have k1 : 0 ≤ im / 256 % 8 ∧ im / 256 % 8 ≤ 7 := by omega
  have k2 : 0 ≤ im % 256 ∧ im % 256 ≤ 255 := by omega
  omega
theorem lies_61 {rd rn rm ra im kd bs st cd rg : Int} (h : (if shp 61 < 17 then narrowB 61 (shp 61) rd rn rm ra im kd bs st cd rg else wideB (shp 61) rd rn rm ra im kd bs st cd rg) = true) : 3892314112 ≤ wd 61 rd rn rm ra im kd bs st cd rg ∧ wd 61 rd rn rm ra im kd bs st cd rg ≤ 4294967295 := by
  have hs : shp 61 = 19 := by decide +kernel
  have hb : bts 61 = 4033806336 := by decide +kernel
  rw [hs] at h
  have l := lin_19 h
  clear h
  unfold wd
  rw [hs, hb, add_19]
  have k0 : 0 ≤ im / 2048 ∧ im / 2048 ≤ 1 := by omega
  have k1 : 0 ≤ im / 256 % 8 ∧ im / 256 % 8 ≤ 7 := by omega
  have k2 : 0 ≤ im % 256 ∧ im % 256 ≤ 255 := by omega
  omega
theorem lies_62 {rd rn rm ra im kd bs st cd rg : Int} (h : (if shp 62 < 17 then narrowB 62 (shp 62) rd rn rm ra im kd bs st cd rg else wideB (shp 62) rd rn rm ra im kd bs st cd rg) = true) : 3892314112 ≤ wd 62 rd rn rm ra im kd bs st cd rg ∧ wd 62 rd rn rm ra im kd bs st cd rg ≤ 4294967295 := by
  have hs : shp 62 = 20 := by decide +kernel
  have hb : bts 62 = 4027584256 := by decide +kernel
  rw [hs] at h
  have l := lin_20 h
  clear h
  unfold wd
  rw [hs, hb, add_20]
  have k0 : 0 ≤ im / 2048 ∧ im / 2048 ≤ 1 := by omega
  have k1 : 0 ≤ im / 256 % 8 ∧ im / 256 % 8 ≤ 7 := by omega
  have k2 : 0 ≤ im % 256 ∧ im % 256 ≤ 255 := by omega
  omega
theorem lies_63 {rd rn rm ra im kd bs st cd rg : Int} (h : (if shp 63 < 17 then narrowB 63 (shp 63) rd rn rm ra im kd bs st cd rg else wideB (shp 63) rd rn rm ra im kd bs st cd rg) = true) : 3892314112 ≤ wd 63 rd rn rm ra im kd bs st cd rg ∧ wd 63 rd rn rm ra im kd bs st cd rg ≤ 4294967295 := by
  have hs : shp 63 = 20 := by decide +kernel
  have hb : bts 63 = 4035972864 := by decide +kernel
  rw [hs] at h
  have l := lin_20 h
  clear h
  unfold wd
  rw [hs, hb, add_20]
  have k0 : 0 ≤ im / 2048 ∧ im / 2048 ≤ 1 := by omega
  have k1 : 0 ≤ im / 256 % 8 ∧ im / 256 % 8 ≤ 7 := by omega
  have k2 : 0 ≤ im % 256 ∧ im % 256 ≤ 255 := by omega
  omega
theorem lies_64 {rd rn rm ra im kd bs st cd rg : Int} (h : (if shp 64 < 17 then narrowB 64 (shp 64) rd rn rm ra im kd bs st cd rg else wideB (shp 64) rd rn rm ra im kd bs st cd rg) = true) : 3892314112 ≤ wd 64 rd rn rm ra im kd bs st cd rg ∧ wd 64 rd rn rm ra im kd bs st cd rg ≤ 4294967295 := by
  have hs : shp 64 = 20 := by decide +kernel
  have hb : bts 64 = 4044361472 := by decide +kernel
  rw [hs] at h
  have l := lin_20 h
  clear h
  unfold wd
  rw [hs, hb, add_20]
  have k0 : 0 ≤ im / 2048 ∧ im / 2048 ≤ 1 := by omega
  have k1 : 0 ≤ im / 256 % 8 ∧ im / 256 % 8 ≤ 7 := by omega
  have k2 : 0 ≤ im % 256 ∧ im % 256 ≤ 255 := by omega
  omega
theorem lies_65 {rd rn rm ra im kd bs st cd rg : Int} (h : (if shp 65 < 17 then narrowB 65 (shp 65) rd rn rm ra im kd bs st cd rg else wideB (shp 65) rd rn rm ra im kd bs st cd rg) = true) : 3892314112 ≤ wd 65 rd rn rm ra im kd bs st cd rg ∧ wd 65 rd rn rm ra im kd bs st cd rg ≤ 4294967295 := by
  have hs : shp 65 = 20 := by decide +kernel
  have hb : bts 65 = 4054847232 := by decide +kernel
  rw [hs] at h
  have l := lin_20 h
  clear h
  unfold wd
  rw [hs, hb, add_20]
  have k0 : 0 ≤ im / 2048 ∧ im / 2048 ≤ 1 := by omega
  have k1 : 0 ≤ im / 256 % 8 ∧ im / 256 % 8 ≤ 7 := by omega
  have k2 : 0 ≤ im % 256 ∧ im % 256 ≤ 255 := by omega
  omega
theorem lies_66 {rd rn rm ra im kd bs st cd rg : Int} (h : (if shp 66 < 17 then narrowB 66 (shp 66) rd rn rm ra im kd bs st cd rg else wideB (shp 66) rd rn rm ra im kd bs st cd rg) = true) : 3892314112 ≤ wd 66 rd rn rm ra im kd bs st cd rg ∧ wd 66 rd rn rm ra im kd bs st cd rg ≤ 4294967295 := by
  have hs : shp 66 = 21 := by decide +kernel
  have hb : bts 66 = 3925868544 := by decide +kernel
  rw [hs] at h
  have l := lin_21 h
  clear h
  unfold wd
  rw [hs, hb, add_21]
  have k0 : 0 ≤ bs / 4 % 8 ∧ bs / 4 % 8 ≤ 7 := by omega
  have k1 : 0 ≤ bs % 4 ∧ bs % 4 ≤ 3 := by omega
  omega
theorem lies_67 {rd rn rm ra im kd bs st cd rg : Int} (h : (if shp 67 < 17 then narrowB 67 (shp 67) rd rn rm ra im kd bs st cd rg else wideB (shp 67) rd rn rm ra im kd bs st cd rg) = true) : 3892314112 ≤ wd 67 rd rn rm ra im kd bs st cd rg ∧ wd 67 rd rn rm ra im kd bs st cd rg ≤ 4294967295 := by
  have hs : shp 67 = 21 := by decide +kernel
  have hb : bts 67 = 3927965696 := by decide +kernel
  rw [hs] at h
  have l := lin_21 h
  clear h
  unfold wd
  rw [hs, hb, add_21]
  have k0 : 0 ≤ bs / 4 % 8 ∧ bs / 4 % 8 ≤ 7 := by omega
  have k1 : 0 ≤ bs % 4 ∧ bs % 4 ≤ 3 := by omega
  omega
theorem lies_68 {rd rn rm ra im kd bs st cd rg : Int} (h : (if shp 68 < 17 then narrowB 68 (shp 68) rd rn rm ra im kd bs st cd rg else wideB (shp 68) rd rn rm ra im kd bs st cd rg) = true) : 3892314112 ≤ wd 68 rd rn rm ra im kd bs st cd rg ∧ wd 68 rd rn rm ra im kd bs st cd rg ≤ 4294967295 := by
  have hs : shp 68 = 21 := by decide +kernel
  have hb : bts 68 = 3930062848 := by decide +kernel
  rw [hs] at h
  have l := lin_21 h
  clear h
  unfold wd
  rw [hs, hb, add_21]
  have k0 : 0 ≤ bs / 4 % 8 ∧ bs / 4 % 8 ≤ 7 := by omega
  have k1 : 0 ≤ bs % 4 ∧ bs % 4 ≤ 3 := by omega
  omega
theorem lies_69 {rd rn rm ra im kd bs st cd rg : Int} (h : (if shp 69 < 17 then narrowB 69 (shp 69) rd rn rm ra im kd bs st cd rg else wideB (shp 69) rd rn rm ra im kd bs st cd rg) = true) : 3892314112 ≤ wd 69 rd rn rm ra im kd bs st cd rg ∧ wd 69 rd rn rm ra im kd bs st cd rg ≤ 4294967295 := by
  have hs : shp 69 = 21 := by decide +kernel
  have hb : bts 69 = 3932160000 := by decide +kernel
  rw [hs] at h
  have l := lin_21 h
  clear h
  unfold wd
  rw [hs, hb, add_21]
  have k0 : 0 ≤ bs / 4 % 8 ∧ bs / 4 % 8 ≤ 7 := by omega
  have k1 : 0 ≤ bs % 4 ∧ bs % 4 ≤ 3 := by omega
  omega
theorem lies_70 {rd rn rm ra im kd bs st cd rg : Int} (h : (if shp 70 < 17 then narrowB 70 (shp 70) rd rn rm ra im kd bs st cd rg else wideB (shp 70) rd rn rm ra im kd bs st cd rg) = true) : 3892314112 ≤ wd 70 rd rn rm ra im kd bs st cd rg ∧ wd 70 rd rn rm ra im kd bs st cd rg ≤ 4294967295 := by
  have hs : shp 70 = 21 := by decide +kernel
  have hb : bts 70 = 3934257152 := by decide +kernel
  rw [hs] at h
  have l := lin_21 h
  clear h
  unfold wd
  rw [hs, hb, add_21]
  have k0 : 0 ≤ bs / 4 % 8 ∧ bs / 4 % 8 ≤ 7 := by omega
  have k1 : 0 ≤ bs % 4 ∧ bs % 4 ≤ 3 := by omega
  omega
theorem lies_71 {rd rn rm ra im kd bs st cd rg : Int} (h : (if shp 71 < 17 then narrowB 71 (shp 71) rd rn rm ra im kd bs st cd rg else wideB (shp 71) rd rn rm ra im kd bs st cd rg) = true) : 3892314112 ≤ wd 71 rd rn rm ra im kd bs st cd rg ∧ wd 71 rd rn rm ra im kd bs st cd rg ≤ 4294967295 := by
  have hs : shp 71 = 21 := by decide +kernel
  have hb : bts 71 = 3942645760 := by decide +kernel
  rw [hs] at h
  have l := lin_21 h
  clear h
  unfold wd
  rw [hs, hb, add_21]
  have k0 : 0 ≤ bs / 4 % 8 ∧ bs / 4 % 8 ≤ 7 := by omega
  have k1 : 0 ≤ bs % 4 ∧ bs % 4 ≤ 3 := by omega
  omega
theorem lies_72 {rd rn rm ra im kd bs st cd rg : Int} (h : (if shp 72 < 17 then narrowB 72 (shp 72) rd rn rm ra im kd bs st cd rg else wideB (shp 72) rd rn rm ra im kd bs st cd rg) = true) : 3892314112 ≤ wd 72 rd rn rm ra im kd bs st cd rg ∧ wd 72 rd rn rm ra im kd bs st cd rg ≤ 4294967295 := by
  have hs : shp 72 = 21 := by decide +kernel
  have hb : bts 72 = 3946840064 := by decide +kernel
  rw [hs] at h
  have l := lin_21 h
  clear h
  unfold wd
  rw [hs, hb, add_21]
  have k0 : 0 ≤ bs / 4 % 8 ∧ bs / 4 % 8 ≤ 7 := by omega
  have k1 : 0 ≤ bs % 4 ∧ bs % 4 ≤ 3 := by omega
  omega
theorem lies_73 {rd rn rm ra im kd bs st cd rg : Int} (h : (if shp 73 < 17 then narrowB 73 (shp 73) rd rn rm ra im kd bs st cd rg else wideB (shp 73) rd rn rm ra im kd bs st cd rg) = true) : 3892314112 ≤ wd 73 rd rn rm ra im kd bs st cd rg ∧ wd 73 rd rn rm ra im kd bs st cd rg ≤ 4294967295 := by
  have hs : shp 73 = 21 := by decide +kernel
  have hb : bts 73 = 3948937216 := by decide +kernel
  rw [hs] at h
  have l := lin_21 h
  clear h
  unfold wd
  rw [hs, hb, add_21]
  have k0 : 0 ≤ bs / 4 % 8 ∧ bs / 4 % 8 ≤ 7 := by omega
  have k1 : 0 ≤ bs % 4 ∧ bs % 4 ≤ 3 := by omega
  omega
theorem lies_74 {rd rn rm ra im kd bs st cd rg : Int} (h : (if shp 74 < 17 then narrowB 74 (shp 74) rd rn rm ra im kd bs st cd rg else wideB (shp 74) rd rn rm ra im kd bs st cd rg) = true) : 3892314112 ≤ wd 74 rd rn rm ra im kd bs st cd rg ∧ wd 74 rd rn rm ra im kd bs st cd rg ≤ 4294967295 := by
  have hs : shp 74 = 21 := by decide +kernel
  have hb : bts 74 = 3953131520 := by decide +kernel
  rw [hs] at h
  have l := lin_21 h
  clear h
  unfold wd
  rw [hs, hb, add_21]
  have k0 : 0 ≤ bs / 4 % 8 ∧ bs / 4 % 8 ≤ 7 := by omega
  have k1 : 0 ≤ bs % 4 ∧ bs % 4 ≤ 3 := by omega
  omega
theorem lies_75 {rd rn rm ra im kd bs st cd rg : Int} (h : (if shp 75 < 17 then narrowB 75 (shp 75) rd rn rm ra im kd bs st cd rg else wideB (shp 75) rd rn rm ra im kd bs st cd rg) = true) : 3892314112 ≤ wd 75 rd rn rm ra im kd bs st cd rg ∧ wd 75 rd rn rm ra im kd bs st cd rg ≤ 4294967295 := by
  have hs : shp 75 = 21 := by decide +kernel
  have hb : bts 75 = 3955228672 := by decide +kernel
  rw [hs] at h
  have l := lin_21 h
  clear h
  unfold wd
  rw [hs, hb, add_21]
  have k0 : 0 ≤ bs / 4 % 8 ∧ bs / 4 % 8 ≤ 7 := by omega
  have k1 : 0 ≤ bs % 4 ∧ bs % 4 ≤ 3 := by omega
  omega
theorem lies_76 {rd rn rm ra im kd bs st cd rg : Int} (h : (if shp 76 < 17 then narrowB 76 (shp 76) rd rn rm ra im kd bs st cd rg else wideB (shp 76) rd rn rm ra im kd bs st cd rg) = true) : 3892314112 ≤ wd 76 rd rn rm ra im kd bs st cd rg ∧ wd 76 rd rn rm ra im kd bs st cd rg ≤ 4294967295 := by
  have hs : shp 76 = 22 := by decide +kernel
  have hb : bts 76 = 3931045888 := by decide +kernel
  rw [hs] at h
  have l := lin_22 h
  clear h
  unfold wd
  rw [hs, hb, add_22]
  have k0 : 0 ≤ bs / 4 % 8 ∧ bs / 4 % 8 ≤ 7 := by omega
  have k1 : 0 ≤ bs % 4 ∧ bs % 4 ≤ 3 := by omega
  omega
theorem lies_77 {rd rn rm ra im kd bs st cd rg : Int} (h : (if shp 77 < 17 then narrowB 77 (shp 77) rd rn rm ra im kd bs st cd rg else wideB (shp 77) rd rn rm ra im kd bs st cd rg) = true) : 3892314112 ≤ wd 77 rd rn rm ra im kd bs st cd rg ∧ wd 77 rd rn rm ra im kd bs st cd rg ≤ 4294967295 := by
  have hs : shp 77 = 22 := by decide +kernel
  have hb : bts 77 = 3933143040 := by decide +kernel
  rw [hs] at h
  have l := lin_22 h
  clear h
  unfold wd
  rw [hs, hb, add_22]
  have k0 : 0 ≤ bs / 4 % 8 ∧ bs / 4 % 8 ≤ 7 := by omega
  have k1 : 0 ≤ bs % 4 ∧ bs % 4 ≤ 3 := by omega
  omega
theorem lies_78 {rd rn rm ra im kd bs st cd rg : Int} (h : (if shp 78 < 17 then narrowB 78 (shp 78) rd rn rm ra im kd bs st cd rg else wideB (shp 78) rd rn rm ra im kd bs st cd rg) = true) : 3892314112 ≤ wd 78 rd rn rm ra im kd bs st cd rg ∧ wd 78 rd rn rm ra im kd bs st cd rg ≤ 4294967295 := by
  have hs : shp 78 = 23 := by decide +kernel
  have hb : bts 78 = 3926920960 := by decide +kernel
  rw [hs] at h
  have l := lin_23 h
  clear h
  unfold wd
  rw [hs, hb, add_23]
  have k0 : 0 ≤ bs / 4 % 8 ∧ bs / 4 % 8 ≤ 7 := by omega
  have k1 : 0 ≤ bs % 4 ∧ bs % 4 ≤ 3 := by omega
  omega
theorem lies_79 {rd rn rm ra im kd bs st cd rg : Int} (h : (if shp 79 < 17 then narrowB 79 (shp 79) rd rn rm ra im kd bs st cd rg else wideB (shp 79) rd rn rm ra im kd bs st cd rg) = true) : 3892314112 ≤ wd 79 rd rn rm ra im kd bs st cd rg ∧ wd 79 rd rn rm ra im kd bs st cd rg ≤ 4294967295 := by
  have hs : shp 79 = 23 := by decide +kernel
  have hb : bts 79 = 3935309568 := by decide +kernel
  rw [hs] at h
  have l := lin_23 h
  clear h
  unfold wd
  rw [hs, hb, add_23]
  have k0 : 0 ≤ bs / 4 % 8 ∧ bs / 4 % 8 ≤ 7 := by omega
  have k1 : 0 ≤ bs % 4 ∧ bs % 4 ≤ 3 := by omega
  omega
theorem lies_80 {rd rn rm ra im kd bs st cd rg : Int} (h : (if shp 80 < 17 then narrowB 80 (shp 80) rd rn rm ra im kd bs st cd rg else wideB (shp 80) rd rn rm ra im kd bs st cd rg) = true) : 3892314112 ≤ wd 80 rd rn rm ra im kd bs st cd rg ∧ wd 80 rd rn rm ra im kd bs st cd rg ≤ 4294967295 := by
  have hs : shp 80 = 23 := by decide +kernel
  have hb : bts 80 = 3943698176 := by decide +kernel
  rw [hs] at h
  have l := lin_23 h
  clear h
  unfold wd
  rw [hs, hb, add_23]
  have k0 : 0 ≤ bs / 4 % 8 ∧ bs / 4 % 8 ≤ 7 := by omega
  have k1 : 0 ≤ bs % 4 ∧ bs % 4 ≤ 3 := by omega
  omega
theorem lies_81 {rd rn rm ra im kd bs st cd rg : Int} (h : (if shp 81 < 17 then narrowB 81 (shp 81) rd rn rm ra im kd bs st cd rg else wideB (shp 81) rd rn rm ra im kd bs st cd rg) = true) : 3892314112 ≤ wd 81 rd rn rm ra im kd bs st cd rg ∧ wd 81 rd rn rm ra im kd bs st cd rg ≤ 4294967295 := by
  have hs : shp 81 = 23 := by decide +kernel
  have hb : bts 81 = 3954183936 := by decide +kernel
  rw [hs] at h
  have l := lin_23 h
  clear h
  unfold wd
  rw [hs, hb, add_23]
  have k0 : 0 ≤ bs / 4 % 8 ∧ bs / 4 % 8 ≤ 7 := by omega
  have k1 : 0 ≤ bs % 4 ∧ bs % 4 ≤ 3 := by omega
  omega
theorem lies_82 {rd rn rm ra im kd bs st cd rg : Int} (h : (if shp 82 < 17 then narrowB 82 (shp 82) rd rn rm ra im kd bs st cd rg else wideB (shp 82) rd rn rm ra im kd bs st cd rg) = true) : 3892314112 ≤ wd 82 rd rn rm ra im kd bs st cd rg ∧ wd 82 rd rn rm ra im kd bs st cd rg ≤ 4294967295 := by
  have hs : shp 82 = 24 := by decide +kernel
  have hb : bts 82 = 4060086272 := by decide +kernel
  rw [hs] at h
  have l := lin_24 h
  clear h
  unfold wd
  rw [hs, hb, add_24]
  have k0 : 0 ≤ im / 2048 ∧ im / 2048 ≤ 1 := by omega
  have k1 : 0 ≤ im / 256 % 8 ∧ im / 256 % 8 ≤ 7 := by omega
  have k2 : 0 ≤ im % 256 ∧ im % 256 ≤ 255 := by omega
  omega
theorem lies_83 {rd rn rm ra im kd bs st cd rg : Int} (h : (if shp 83 < 17 then narrowB 83 (shp 83) rd rn rm ra im kd bs st cd rg else wideB (shp 83) rd rn rm ra im kd bs st cd rg) = true) : 3892314112 ≤ wd 83 rd rn rm ra im kd bs st cd rg ∧ wd 83 rd rn rm ra im kd bs st cd rg ≤ 4294967295 := by
  have hs : shp 83 = 24 := by decide +kernel
  have hb : bts 83 = 4070572032 := by decide +kernel
  rw [hs] at h
  have l := lin_24 h
  clear h
  unfold wd
  rw [hs, hb, add_24]
  have k0 : 0 ≤ im / 2048 ∧ im / 2048 ≤ 1 := by omega
  have k1 : 0 ≤ im / 256 % 8 ∧ im / 256 % 8 ≤ 7 := by omega
  have k2 : 0 ≤ im % 256 ∧ im % 256 ≤ 255 := by omega
  omega
theorem lies_84 {rd rn rm ra im kd bs st cd rg : Int} (h : (if shp 84 < 17 then narrowB 84 (shp 84) rd rn rm ra im kd bs st cd rg else wideB (shp 84) rd rn rm ra im kd bs st cd rg) = true) : 3892314112 ≤ wd 84 rd rn rm ra im kd bs st cd rg ∧ wd 84 rd rn rm ra im kd bs st cd rg ≤ 4294967295 := by
  have hs : shp 84 = 25 := by decide +kernel
  have hb : bts 84 = 4173332480 := by decide +kernel
  rw [hs] at h
  have l := lin_25 h
  clear h
  unfold wd
  rw [hs, hb, add_25]
  omega
theorem lies_85 {rd rn rm ra im kd bs st cd rg : Int} (h : (if shp 85 < 17 then narrowB 85 (shp 85) rd rn rm ra im kd bs st cd rg else wideB (shp 85) rd rn rm ra im kd bs st cd rg) = true) : 3892314112 ≤ wd 85 rd rn rm ra im kd bs st cd rg ∧ wd 85 rd rn rm ra im kd bs st cd rg ≤ 4294967295 := by
  have hs : shp 85 = 25 := by decide +kernel
  have hb : bts 85 = 4174381056 := by decide +kernel
  rw [hs] at h
  have l := lin_25 h
  clear h
  unfold wd
  rw [hs, hb, add_25]
  omega
theorem lies_86 {rd rn rm ra im kd bs st cd rg : Int} (h : (if shp 86 < 17 then narrowB 86 (shp 86) rd rn rm ra im kd bs st cd rg else wideB (shp 86) rd rn rm ra im kd bs st cd rg) = true) : 3892314112 ≤ wd 86 rd rn rm ra im kd bs st cd rg ∧ wd 86 rd rn rm ra im kd bs st cd rg ≤ 4294967295 := by
  have hs : shp 86 = 26 := by decide +kernel
  have hb : bts 86 = 4164943872 := by decide +kernel
  rw [hs] at h
  have l := lin_26 h
  clear h
  unfold wd
  rw [hs, hb, add_26]
  omega
theorem lies_87 {rd rn rm ra im kd bs st cd rg : Int} (h : (if shp 87 < 17 then narrowB 87 (shp 87) rd rn rm ra im kd bs st cd rg else wideB (shp 87) rd rn rm ra im kd bs st cd rg) = true) : 3892314112 ≤ wd 87 rd rn rm ra im kd bs st cd rg ∧ wd 87 rd rn rm ra im kd bs st cd rg ≤ 4294967295 := by
  have hs : shp 87 = 26 := by decide +kernel
  have hb : bts 87 = 4165992448 := by decide +kernel
  rw [hs] at h
  have l := lin_26 h
  clear h
  unfold wd
  rw [hs, hb, add_26]
  omega
theorem lies_88 {rd rn rm ra im kd bs st cd rg : Int} (h : (if shp 88 < 17 then narrowB 88 (shp 88) rd rn rm ra im kd bs st cd rg else wideB (shp 88) rd rn rm ra im kd bs st cd rg) = true) : 3892314112 ≤ wd 88 rd rn rm ra im kd bs st cd rg ∧ wd 88 rd rn rm ra im kd bs st cd rg ≤ 4294967295 := by
  have hs : shp 88 = 27 := by decide +kernel
  have hb : bts 88 = 4194365440 := by decide +kernel
  rw [hs] at h
  have l := lin_27 h
  clear h
  unfold wd
  rw [hs, hb, add_27]
  omega
theorem lies_89 {rd rn rm ra im kd bs st cd rg : Int} (h : (if shp 89 < 17 then narrowB 89 (shp 89) rd rn rm ra im kd bs st cd rg else wideB (shp 89) rd rn rm ra im kd bs st cd rg) = true) : 3892314112 ≤ wd 89 rd rn rm ra im kd bs st cd rg ∧ wd 89 rd rn rm ra im kd bs st cd rg ≤ 4294967295 := by
  have hs : shp 89 = 27 := by decide +kernel
  have hb : bts 89 = 4196462592 := by decide +kernel
  rw [hs] at h
  have l := lin_27 h
  clear h
  unfold wd
  rw [hs, hb, add_27]
  omega
theorem lies_90 {rd rn rm ra im kd bs st cd rg : Int} (h : (if shp 90 < 17 then narrowB 90 (shp 90) rd rn rm ra im kd bs st cd rg else wideB (shp 90) rd rn rm ra im kd bs st cd rg) = true) : 3892314112 ≤ wd 90 rd rn rm ra im kd bs st cd rg ∧ wd 90 rd rn rm ra im kd bs st cd rg ≤ 4294967295 := by
  have hs : shp 90 = 27 := by decide +kernel
  have hb : bts 90 = 4198559744 := by decide +kernel
  rw [hs] at h
  have l := lin_27 h
  clear h
  unfold wd
  rw [hs, hb, add_27]
  omega
theorem lies_91 {rd rn rm ra im kd bs st cd rg : Int} (h : (if shp 91 < 17 then narrowB 91 (shp 91) rd rn rm ra im kd bs st cd rg else wideB (shp 91) rd rn rm ra im kd bs st cd rg) = true) : 3892314112 ≤ wd 91 rd rn rm ra im kd bs st cd rg ∧ wd 91 rd rn rm ra im kd bs st cd rg ≤ 4294967295 := by
  have hs : shp 91 = 27 := by decide +kernel
  have hb : bts 91 = 4200656896 := by decide +kernel
  rw [hs] at h
  have l := lin_27 h
  clear h
  unfold wd
  rw [hs, hb, add_27]
  omega
theorem lies_92 {rd rn rm ra im kd bs st cd rg : Int} (h : (if shp 92 < 17 then narrowB 92 (shp 92) rd rn rm ra im kd bs st cd rg else wideB (shp 92) rd rn rm ra im kd bs st cd rg) = true) : 3892314112 ≤ wd 92 rd rn rm ra im kd bs st cd rg ∧ wd 92 rd rn rm ra im kd bs st cd rg ≤ 4294967295 := by
  have hs : shp 92 = 28 := by decide +kernel
  have hb : bts 92 = 4211142656 := by decide +kernel
  rw [hs] at h
  have l := lin_28 h
  clear h
  unfold wd
  rw [hs, hb, add_28]
  omega
theorem lies_93 {rd rn rm ra im kd bs st cd rg : Int} (h : (if shp 93 < 17 then narrowB 93 (shp 93) rd rn rm ra im kd bs st cd rg else wideB (shp 93) rd rn rm ra im kd bs st cd rg) = true) : 3892314112 ≤ wd 93 rd rn rm ra im kd bs st cd rg ∧ wd 93 rd rn rm ra im kd bs st cd rg ≤ 4294967295 := by
  have hs : shp 93 = 29 := by decide +kernel
  have hb : bts 93 = 4211081216 := by decide +kernel
  rw [hs] at h
  have l := lin_29 h
  clear h
  unfold wd
  rw [hs, hb, add_29]
  omega
theorem lies_94 {rd rn rm ra im kd bs st cd rg : Int} (h : (if shp 94 < 17 then narrowB 94 (shp 94) rd rn rm ra im kd bs st cd rg else wideB (shp 94) rd rn rm ra im kd bs st cd rg) = true) : 3892314112 ≤ wd 94 rd rn rm ra im kd bs st cd rg ∧ wd 94 rd rn rm ra im kd bs st cd rg ≤ 4294967295 := by
  have hs : shp 94 = 30 := by decide +kernel
  have hb : bts 94 = 4211081232 := by decide +kernel
  rw [hs] at h
  have l := lin_30 h
  clear h
  unfold wd
  rw [hs, hb, add_30]
  omega
theorem lies_95 {rd rn rm ra im kd bs st cd rg : Int} (h : (if shp 95 < 17 then narrowB 95 (shp 95) rd rn rm ra im kd bs st cd rg else wideB (shp 95) rd rn rm ra im kd bs st cd rg) = true) : 3892314112 ≤ wd 95 rd rn rm ra im kd bs st cd rg ∧ wd 95 rd rn rm ra im kd bs st cd rg ≤ 4294967295 := by
  have hs : shp 95 = 31 := by decide +kernel
  have hb : bts 95 = 4221566976 := by decide +kernel
  rw [hs] at h
  have l := lin_31 h
  clear h
  unfold wd
  rw [hs, hb, add_31]
  omega
theorem lies_96 {rd rn rm ra im kd bs st cd rg : Int} (h : (if shp 96 < 17 then narrowB 96 (shp 96) rd rn rm ra im kd bs st cd rg else wideB (shp 96) rd rn rm ra im kd bs st cd rg) = true) : 3892314112 ≤ wd 96 rd rn rm ra im kd bs st cd rg ∧ wd 96 rd rn rm ra im kd bs st cd rg ≤ 4294967295 := by
  have hs : shp 96 = 31 := by decide +kernel
  have hb : bts 96 = 4225761280 := by decide +kernel
  rw [hs] at h
  have l := lin_31 h
  clear h
  unfold wd
  rw [hs, hb, add_31]
  omega
theorem lies_97 {rd rn rm ra im kd bs st cd rg : Int} (h : (if shp 97 < 17 then narrowB 97 (shp 97) rd rn rm ra im kd bs st cd rg else wideB (shp 97) rd rn rm ra im kd bs st cd rg) = true) : 3892314112 ≤ wd 97 rd rn rm ra im kd bs st cd rg ∧ wd 97 rd rn rm ra im kd bs st cd rg ≤ 4294967295 := by
  have hs : shp 97 = 28 := by decide +kernel
  have hb : bts 97 = 4222677232 := by decide +kernel
  rw [hs] at h
  have l := lin_28 h
  clear h
  unfold wd
  rw [hs, hb, add_28]
  omega
theorem lies_98 {rd rn rm ra im kd bs st cd rg : Int} (h : (if shp 98 < 17 then narrowB 98 (shp 98) rd rn rm ra im kd bs st cd rg else wideB (shp 98) rd rn rm ra im kd bs st cd rg) = true) : 3892314112 ≤ wd 98 rd rn rm ra im kd bs st cd rg ∧ wd 98 rd rn rm ra im kd bs st cd rg ≤ 4294967295 := by
  have hs : shp 98 = 32 := by decide +kernel
  have hb : bts 98 = 4205899904 := by decide +kernel
  rw [hs] at h
  have l := lin_32 h
  clear h
  unfold wd
  rw [hs, hb, add_32]
  omega
theorem lies_99 {rd rn rm ra im kd bs st cd rg : Int} (h : (if shp 99 < 17 then narrowB 99 (shp 99) rd rn rm ra im kd bs st cd rg else wideB (shp 99) rd rn rm ra im kd bs st cd rg) = true) : 3892314112 ≤ wd 99 rd rn rm ra im kd bs st cd rg ∧ wd 99 rd rn rm ra im kd bs st cd rg ≤ 4294967295 := by
  have hs : shp 99 = 33 := by decide +kernel
  have hb : bts 99 = 4026564608 := by decide +kernel
  rw [hs] at h
  have l := lin_33 h
  clear h
  unfold wd
  rw [hs, hb, add_33]
  have k0 : 0 ≤ im / 1048576 % 2 ∧ im / 1048576 % 2 ≤ 1 := by omega
  have k1 : 0 ≤ im / 4096 % 64 ∧ im / 4096 % 64 ≤ 63 := by omega
  have k2 : 0 ≤ im / 262144 % 2 ∧ im / 262144 % 2 ≤ 1 := by omega
  have k3 : 0 ≤ im / 524288 % 2 ∧ im / 524288 % 2 ≤ 1 := by omega
  have k4 : 0 ≤ im / 2 % 2048 ∧ im / 2 % 2048 ≤ 2047 := by omega
  omega
theorem lies_100 {rd rn rm ra im kd bs st cd rg : Int} (h : (if shp 100 < 17 then narrowB 100 (shp 100) rd rn rm ra im kd bs st cd rg else wideB (shp 100) rd rn rm ra im kd bs st cd rg) = true) : 3892314112 ≤ wd 100 rd rn rm ra im kd bs st cd rg ∧ wd 100 rd rn rm ra im kd bs st cd rg ≤ 4294967295 := by
  have hs : shp 100 = 34 := by decide +kernel
  have hb : bts 100 = 4026568704 := by decide +kernel
  rw [hs] at h
  have l := lin_34 h
  clear h
  unfold wd
  rw [hs, hb, add_34]
  have k0 : 0 ≤ im / 16777216 % 2 ∧ im / 16777216 % 2 ≤ 1 := by omega
  have k1 : 0 ≤ im / 4096 % 1024 ∧ im / 4096 % 1024 ≤ 1023 := by omega
  have k2 : 0 ≤ j1 im ∧ j1 im ≤ 1 := j1_bd im
  have k3 : 0 ≤ j2 im ∧ j2 im ≤ 1 := j2_bd im
  have k4 : 0 ≤ im / 2 % 2048 ∧ im / 2 % 2048 ≤ 2047 := by omega
  omega

theorem narrow_lies {f rd rn rm ra im kd bs st cd rg : Int} (h : right f rd rn rm ra im kd bs st cd rg = true) (g0 : -9223372036854775808 ≤ rg) (g1 : rg ≤ 9223372036854775807) (hf : f ≤ 47) : 0 ≤ wd f rd rn rm ra im kd bs st cd rg ∧ wd f rd rn rm ra im kd bs st cd rg ≤ 59391 := by
  obtain ⟨⟨i0, _⟩, h⟩ := at_own h g0 g1
  rcases (show f = 1 ∨ f = 2 ∨ f = 3 ∨ f = 4 ∨ f = 5 ∨ f = 6 ∨ f = 7 ∨ f = 8 ∨ f = 9 ∨ f = 10 ∨ 11 ≤ f by omega) with rfl | rfl | rfl | rfl | rfl | rfl | rfl | rfl | rfl | rfl | hk
  · exact lies_1 h
  · exact lies_2 h
  · exact lies_3 h
  · exact lies_4 h
  · exact lies_5 h
  · exact lies_6 h
  · exact lies_7 h
  · exact lies_8 h
  · exact lies_9 h
  · exact lies_10 h
  rcases (show f = 11 ∨ f = 12 ∨ f = 13 ∨ f = 14 ∨ f = 15 ∨ f = 16 ∨ f = 17 ∨ f = 18 ∨ f = 19 ∨ f = 20 ∨ 21 ≤ f by omega) with rfl | rfl | rfl | rfl | rfl | rfl | rfl | rfl | rfl | rfl | hk
  · exact lies_11 h
  · exact lies_12 h
  · exact lies_13 h
  · exact lies_14 h
  · exact lies_15 h
  · exact lies_16 h
  · exact lies_17 h
  · exact lies_18 h
  · exact lies_19 h
  · exact lies_20 h
  rcases (show f = 21 ∨ f = 22 ∨ f = 23 ∨ f = 24 ∨ f = 25 ∨ f = 26 ∨ f = 27 ∨ f = 28 ∨ f = 29 ∨ f = 30 ∨ 31 ≤ f by omega) with rfl | rfl | rfl | rfl | rfl | rfl | rfl | rfl | rfl | rfl | hk
  · exact lies_21 h
  · exact lies_22 h
  · exact lies_23 h
  · exact lies_24 h
  · exact lies_25 h
  · exact lies_26 h
  · exact lies_27 h
  · exact lies_28 h
  · exact lies_29 h
  · exact lies_30 h
  rcases (show f = 31 ∨ f = 32 ∨ f = 33 ∨ f = 34 ∨ f = 35 ∨ f = 36 ∨ f = 37 ∨ f = 38 ∨ f = 39 ∨ f = 40 ∨ 41 ≤ f by omega) with rfl | rfl | rfl | rfl | rfl | rfl | rfl | rfl | rfl | rfl | hk
  · exact lies_31 h
  · exact lies_32 h
  · exact lies_33 h
  · exact lies_34 h
  · exact lies_35 h
  · exact lies_36 h
  · exact lies_37 h
  · exact lies_38 h
  · exact lies_39 h
  · exact lies_40 h
  rcases (show f = 41 ∨ f = 42 ∨ f = 43 ∨ f = 44 ∨ f = 45 ∨ f = 46 ∨ f = 47 by omega) with rfl | rfl | rfl | rfl | rfl | rfl | rfl
  · exact lies_41 h
  · exact lies_42 h
  · exact lies_43 h
  · exact lies_44 h
  · exact lies_45 h
  · exact lies_46 h
  · exact lies_47 h

theorem wide_lies {f rd rn rm ra im kd bs st cd rg : Int} (h : right f rd rn rm ra im kd bs st cd rg = true) (g0 : -9223372036854775808 ≤ rg) (g1 : rg ≤ 9223372036854775807) (hf : 48 ≤ f) : 3892314112 ≤ wd f rd rn rm ra im kd bs st cd rg ∧ wd f rd rn rm ra im kd bs st cd rg ≤ 4294967295 := by
  obtain ⟨⟨_, i1⟩, h⟩ := at_own h g0 g1
  rcases (show f = 48 ∨ f = 49 ∨ f = 50 ∨ f = 51 ∨ f = 52 ∨ f = 53 ∨ f = 54 ∨ f = 55 ∨ f = 56 ∨ f = 57 ∨ 58 ≤ f by omega) with rfl | rfl | rfl | rfl | rfl | rfl | rfl | rfl | rfl | rfl | hk
  · exact lies_48 h
  · exact lies_49 h
  · exact lies_50 h
  · exact lies_51 h
  · exact lies_52 h
  · exact lies_53 h
  · exact lies_54 h
  · exact lies_55 h
  · exact lies_56 h
  · exact lies_57 h
  rcases (show f = 58 ∨ f = 59 ∨ f = 60 ∨ f = 61 ∨ f = 62 ∨ f = 63 ∨ f = 64 ∨ f = 65 ∨ f = 66 ∨ f = 67 ∨ 68 ≤ f by omega) with rfl | rfl | rfl | rfl | rfl | rfl | rfl | rfl | rfl | rfl | hk
  · exact lies_58 h
  · exact lies_59 h
  · exact lies_60 h
  · exact lies_61 h
  · exact lies_62 h
  · exact lies_63 h
  · exact lies_64 h
  · exact lies_65 h
  · exact lies_66 h
  · exact lies_67 h
  rcases (show f = 68 ∨ f = 69 ∨ f = 70 ∨ f = 71 ∨ f = 72 ∨ f = 73 ∨ f = 74 ∨ f = 75 ∨ f = 76 ∨ f = 77 ∨ 78 ≤ f by omega) with rfl | rfl | rfl | rfl | rfl | rfl | rfl | rfl | rfl | rfl | hk
  · exact lies_68 h
  · exact lies_69 h
  · exact lies_70 h
  · exact lies_71 h
  · exact lies_72 h
  · exact lies_73 h
  · exact lies_74 h
  · exact lies_75 h
  · exact lies_76 h
  · exact lies_77 h
  rcases (show f = 78 ∨ f = 79 ∨ f = 80 ∨ f = 81 ∨ f = 82 ∨ f = 83 ∨ f = 84 ∨ f = 85 ∨ f = 86 ∨ f = 87 ∨ 88 ≤ f by omega) with rfl | rfl | rfl | rfl | rfl | rfl | rfl | rfl | rfl | rfl | hk
  · exact lies_78 h
  · exact lies_79 h
  · exact lies_80 h
  · exact lies_81 h
  · exact lies_82 h
  · exact lies_83 h
  · exact lies_84 h
  · exact lies_85 h
  · exact lies_86 h
  · exact lies_87 h
  rcases (show f = 88 ∨ f = 89 ∨ f = 90 ∨ f = 91 ∨ f = 92 ∨ f = 93 ∨ f = 94 ∨ f = 95 ∨ f = 96 ∨ f = 97 ∨ 98 ≤ f by omega) with rfl | rfl | rfl | rfl | rfl | rfl | rfl | rfl | rfl | rfl | hk
  · exact lies_88 h
  · exact lies_89 h
  · exact lies_90 h
  · exact lies_91 h
  · exact lies_92 h
  · exact lies_93 h
  · exact lies_94 h
  · exact lies_95 h
  · exact lies_96 h
  · exact lies_97 h
  rcases (show f = 98 ∨ f = 99 ∨ f = 100 by omega) with rfl | rfl | rfl
  · exact lies_98 h
  · exact lies_99 h
  · exact lies_100 h

/-- One bit more of a number. -/
theorem bit_more (n : Int) (k : Nat) : n % 2 ^ (k + 1) = n % 2 ^ k + n / 2 ^ k % 2 * 2 ^ k := by
  have hp : (0 : Int) < 2 ^ k := Int.pow_pos (by decide)
  have e : (2 : Int) ^ (k + 1) = 2 ^ k * 2 := Int.pow_succ 2 k
  rw [e]
  generalize (2 : Int) ^ k = p at *
  have a := Int.emod_emod_of_dvd n (show p ∣ p * 2 from ⟨2, rfl⟩)
  have h1 : n = p * 2 * (n / (p * 2)) + n % (p * 2) := (Int.mul_ediv_add_emod n (p * 2)).symm
  have h2 : n = p * (n / p) + n % p := (Int.mul_ediv_add_emod n p).symm
  have h3 : n / p = 2 * (n / p / 2) + n / p % 2 := by omega
  have h4 : n / p / 2 = n / (p * 2) := by rw [Int.ediv_ediv_of_nonneg (by omega)]
  rw [h4] at h3
  generalize n / (p * 2) = q at *
  generalize hr : n / p % 2 = r at *
  generalize n / p = d at *
  subst h3
  have h5 : p * (2 * q + r) = p * 2 * q + r * p := by rw [Int.mul_add, ← Int.mul_assoc, Int.mul_comm p r]
  omega

end Go.Proofs.YtegefbndpkbooaaDoor.Code

