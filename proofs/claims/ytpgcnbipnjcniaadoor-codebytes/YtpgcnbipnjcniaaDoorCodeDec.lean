/- The form of any right instruction is told by its word. -/
import Derived.Test.YtpgcnbipnjcniaaDoorCodeDecA
import Derived.Test.YtpgcnbipnjcniaaDoorCodeDecB
import Derived.Test.YtpgcnbipnjcniaaDoorCodeDecC
import Derived.Test.YtpgcnbipnjcniaaDoorCodeDecD
set_option linter.unusedVariables false
set_option linter.unusedSimpArgs false
namespace Go.Proofs.YtpgcnbipnjcniaaDoor.Code
open Go.Proofs.YtpgcnbipnjcniaaDoor.Alu Go.Proofs.YtpgcnbipnjcniaaDoor.Imm Go.Proofs.YtpgcnbipnjcniaaDoor.Inst

theorem add_1 (rd rn rm ra im kd bs st cd rg : Int) : add 1 rd rn rm ra im kd bs st cd rg = im % 32 * 64 + rm * 8 + rd := by simp +decide only [add, if_true, if_false]
theorem add_2 (rd rn rm ra im kd bs st cd rg : Int) : add 2 rd rn rm ra im kd bs st cd rg = rm * 64 + rn * 8 + rd := by simp +decide only [add, if_true, if_false]
theorem add_3 (rd rn rm ra im kd bs st cd rg : Int) : add 3 rd rn rm ra im kd bs st cd rg = im * 64 + rn * 8 + rd := by simp +decide only [add, if_true, if_false]
theorem add_4 (rd rn rm ra im kd bs st cd rg : Int) : add 4 rd rn rm ra im kd bs st cd rg = rd * 256 + im := by simp +decide only [add, if_true, if_false]
theorem add_5 (rd rn rm ra im kd bs st cd rg : Int) : add 5 rd rn rm ra im kd bs st cd rg = rm * 8 + rd := by simp +decide only [add, if_true, if_false]
theorem add_6 (rd rn rm ra im kd bs st cd rg : Int) : add 6 rd rn rm ra im kd bs st cd rg = rd / 8 * 128 + rm * 8 + rd % 8 := by simp +decide only [add, if_true, if_false]
theorem add_7 (rd rn rm ra im kd bs st cd rg : Int) : add 7 rd rn rm ra im kd bs st cd rg = rm * 8 := by simp +decide only [add, if_true, if_false]
theorem add_8 (rd rn rm ra im kd bs st cd rg : Int) : add 8 rd rn rm ra im kd bs st cd rg = rd * 256 + im / 4 := by simp +decide only [add, if_true, if_false]
theorem add_9 (rd rn rm ra im kd bs st cd rg : Int) : add 9 rd rn rm ra im kd bs st cd rg = im / 4 * 64 + rn * 8 + rd := by simp +decide only [add, if_true, if_false]
theorem add_10 (rd rn rm ra im kd bs st cd rg : Int) : add 10 rd rn rm ra im kd bs st cd rg = im / 4 := by simp +decide only [add, if_true, if_false]
theorem add_11 (rd rn rm ra im kd bs st cd rg : Int) : add 11 rd rn rm ra im kd bs st cd rg = rg / 16384 % 2 * 256 + rg % 256 := by simp +decide only [add, if_true, if_false]
theorem add_12 (rd rn rm ra im kd bs st cd rg : Int) : add 12 rd rn rm ra im kd bs st cd rg = rg / 32768 % 2 * 256 + rg % 256 := by simp +decide only [add, if_true, if_false]
theorem add_13 (rd rn rm ra im kd bs st cd rg : Int) : add 13 rd rn rm ra im kd bs st cd rg = 0 := by simp +decide only [add, if_true, if_false]
theorem add_14 (rd rn rm ra im kd bs st cd rg : Int) : add 14 rd rn rm ra im kd bs st cd rg = im := by simp +decide only [add, if_true, if_false]
theorem add_15 (rd rn rm ra im kd bs st cd rg : Int) : add 15 rd rn rm ra im kd bs st cd rg = cd * 256 + im / 2 % 256 := by simp +decide only [add, if_true, if_false]
theorem add_16 (rd rn rm ra im kd bs st cd rg : Int) : add 16 rd rn rm ra im kd bs st cd rg = im / 2 % 2048 := by simp +decide only [add, if_true, if_false]
theorem add_17 (rd rn rm ra im kd bs st cd rg : Int) : add 17 rd rn rm ra im kd bs st cd rg = im / 2048 % 2 * 67108864 + im / 4096 * 65536 + im / 256 % 8 * 4096 + rd * 256 + im % 256 := by simp +decide only [add, if_true, if_false]
theorem add_18 (rd rn rm ra im kd bs st cd rg : Int) : add 18 rd rn rm ra im kd bs st cd rg = im / 2048 * 67108864 + st * 1048576 + rn * 65536 + im / 256 % 8 * 4096 + rd * 256 + im % 256 := by simp +decide only [add, if_true, if_false]
theorem add_19 (rd rn rm ra im kd bs st cd rg : Int) : add 19 rd rn rm ra im kd bs st cd rg = im / 2048 * 67108864 + st * 1048576 + rn * 65536 + im / 256 % 8 * 4096 + rd * 256 + im % 256 := by simp +decide only [add, if_true, if_false]
theorem add_20 (rd rn rm ra im kd bs st cd rg : Int) : add 20 rd rn rm ra im kd bs st cd rg = im / 2048 * 67108864 + st * 1048576 + rn * 65536 + im / 256 % 8 * 4096 + rd * 256 + im % 256 := by simp +decide only [add, if_true, if_false]
theorem add_21 (rd rn rm ra im kd bs st cd rg : Int) : add 21 rd rn rm ra im kd bs st cd rg = st * 1048576 + rn * 65536 + bs / 4 % 8 * 4096 + rd * 256 + bs % 4 * 64 + kd * 16 + rm := by simp +decide only [add, if_true, if_false]
theorem add_22 (rd rn rm ra im kd bs st cd rg : Int) : add 22 rd rn rm ra im kd bs st cd rg = st * 1048576 + rn * 65536 + bs / 4 % 8 * 4096 + rd * 256 + bs % 4 * 64 + kd * 16 + rm := by simp +decide only [add, if_true, if_false]
theorem add_23 (rd rn rm ra im kd bs st cd rg : Int) : add 23 rd rn rm ra im kd bs st cd rg = st * 1048576 + rn * 65536 + bs / 4 % 8 * 4096 + rd * 256 + bs % 4 * 64 + kd * 16 + rm := by simp +decide only [add, if_true, if_false]
theorem add_24 (rd rn rm ra im kd bs st cd rg : Int) : add 24 rd rn rm ra im kd bs st cd rg = im / 2048 * 67108864 + st * 1048576 + rn * 65536 + im / 256 % 8 * 4096 + rd * 256 + im % 256 := by simp +decide only [add, if_true, if_false]
theorem add_25 (rd rn rm ra im kd bs st cd rg : Int) : add 25 rd rn rm ra im kd bs st cd rg = rn * 65536 + rd * 4096 + im := by simp +decide only [add, if_true, if_false]
theorem add_26 (rd rn rm ra im kd bs st cd rg : Int) : add 26 rd rn rm ra im kd bs st cd rg = rn * 65536 + rd * 4096 + bs * 16 + rm := by simp +decide only [add, if_true, if_false]
theorem add_27 (rd rn rm ra im kd bs st cd rg : Int) : add 27 rd rn rm ra im kd bs st cd rg = st * 1048576 + rn * 65536 + ra * 4096 + rd * 256 + rm := by simp +decide only [add, if_true, if_false]
theorem add_28 (rd rn rm ra im kd bs st cd rg : Int) : add 28 rd rn rm ra im kd bs st cd rg = st * 1048576 + rn * 65536 + ra * 4096 + rd * 256 + rm := by simp +decide only [add, if_true, if_false]
theorem add_29 (rd rn rm ra im kd bs st cd rg : Int) : add 29 rd rn rm ra im kd bs st cd rg = st * 1048576 + rn * 65536 + ra * 4096 + rd * 256 + rm := by simp +decide only [add, if_true, if_false]
theorem add_30 (rd rn rm ra im kd bs st cd rg : Int) : add 30 rd rn rm ra im kd bs st cd rg = st * 1048576 + rn * 65536 + ra * 4096 + rd * 256 + rm := by simp +decide only [add, if_true, if_false]
theorem add_31 (rd rn rm ra im kd bs st cd rg : Int) : add 31 rd rn rm ra im kd bs st cd rg = rn * 65536 + rd * 4096 + ra * 256 + rm := by simp +decide only [add, if_true, if_false]
theorem add_32 (rd rn rm ra im kd bs st cd rg : Int) : add 32 rd rn rm ra im kd bs st cd rg = rm * 65536 + rd * 256 + rm := by simp +decide only [add, if_true, if_false]
theorem add_33 (rd rn rm ra im kd bs st cd rg : Int) : add 33 rd rn rm ra im kd bs st cd rg = im / 1048576 % 2 * 67108864 + cd * 4194304 + im / 4096 % 64 * 65536 + im / 262144 % 2 * 8192 + im / 524288 % 2 * 2048 + im / 2 % 2048 := by simp +decide only [add, if_true, if_false]
theorem add_34 (rd rn rm ra im kd bs st cd rg : Int) : add 34 rd rn rm ra im kd bs st cd rg = im / 16777216 % 2 * 67108864 + im / 4096 % 1024 * 65536 + j1 im * 8192 + j2 im * 2048 + im / 2 % 2048 := by simp +decide only [add, if_true, if_false]

/-- A right instruction, by the document's way, at its own shape. -/
theorem at_own {f rd rn rm ra im kd bs st cd rg : Int} (h : right f rd rn rm ra im kd bs st cd rg = true) (g0 : -9223372036854775808 ≤ rg) (g1 : rg ≤ 9223372036854775807) :
    (1 ≤ f ∧ f ≤ 100) ∧ (if shp f < 17 then narrowB f (shp f) rd rn rm ra im kd bs st cd rg else wideB (shp f) rd rn rm ra im kd bs st cd rg) = true := by
  rw [right_eq f rd rn rm ra im kd bs st cd rg g0 g1] at h
  unfold refR at h
  cases hi : isF f
  · rw [shp_no hi] at h; simp at h
  · refine ⟨isF_iff.1 hi, ?_⟩
    have := shp_yes hi
    rwa [if_neg (by omega)] at h

theorem own_1 {rd rn rm ra im kd bs st cd rg : Int} (h : (if shp 1 < 17 then narrowB 1 (shp 1) rd rn rm ra im kd bs st cd rg else wideB (shp 1) rd rn rm ra im kd bs st cd rg) = true) : decN (wd 1 rd rn rm ra im kd bs st cd rg) = 1 := by
  have hs : shp 1 = 1 := by decide +kernel
  have hb : bts 1 = 0 := by decide +kernel
  rw [hs] at h
  unfold wd
  rw [hs, hb, add_1]
  exact dec_1 rfl (lin_1 h)
theorem own_2 {rd rn rm ra im kd bs st cd rg : Int} (h : (if shp 2 < 17 then narrowB 2 (shp 2) rd rn rm ra im kd bs st cd rg else wideB (shp 2) rd rn rm ra im kd bs st cd rg) = true) : decN (wd 2 rd rn rm ra im kd bs st cd rg) = 2 := by
  have hs : shp 2 = 1 := by decide +kernel
  have hb : bts 2 = 2048 := by decide +kernel
  rw [hs] at h
  unfold wd
  rw [hs, hb, add_1]
  exact dec_2 rfl (lin_1 h)
theorem own_3 {rd rn rm ra im kd bs st cd rg : Int} (h : (if shp 3 < 17 then narrowB 3 (shp 3) rd rn rm ra im kd bs st cd rg else wideB (shp 3) rd rn rm ra im kd bs st cd rg) = true) : decN (wd 3 rd rn rm ra im kd bs st cd rg) = 3 := by
  have hs : shp 3 = 1 := by decide +kernel
  have hb : bts 3 = 4096 := by decide +kernel
  rw [hs] at h
  unfold wd
  rw [hs, hb, add_1]
  exact dec_3 rfl (lin_1 h)
theorem own_4 {rd rn rm ra im kd bs st cd rg : Int} (h : (if shp 4 < 17 then narrowB 4 (shp 4) rd rn rm ra im kd bs st cd rg else wideB (shp 4) rd rn rm ra im kd bs st cd rg) = true) : decN (wd 4 rd rn rm ra im kd bs st cd rg) = 4 := by
  have hs : shp 4 = 2 := by decide +kernel
  have hb : bts 4 = 6144 := by decide +kernel
  rw [hs] at h
  unfold wd
  rw [hs, hb, add_2]
  exact dec_4 rfl (lin_2 h)
theorem own_5 {rd rn rm ra im kd bs st cd rg : Int} (h : (if shp 5 < 17 then narrowB 5 (shp 5) rd rn rm ra im kd bs st cd rg else wideB (shp 5) rd rn rm ra im kd bs st cd rg) = true) : decN (wd 5 rd rn rm ra im kd bs st cd rg) = 5 := by
  have hs : shp 5 = 2 := by decide +kernel
  have hb : bts 5 = 6656 := by decide +kernel
  rw [hs] at h
  unfold wd
  rw [hs, hb, add_2]
  exact dec_5 rfl (lin_2 h)
theorem own_6 {rd rn rm ra im kd bs st cd rg : Int} (h : (if shp 6 < 17 then narrowB 6 (shp 6) rd rn rm ra im kd bs st cd rg else wideB (shp 6) rd rn rm ra im kd bs st cd rg) = true) : decN (wd 6 rd rn rm ra im kd bs st cd rg) = 6 := by
  have hs : shp 6 = 3 := by decide +kernel
  have hb : bts 6 = 7168 := by decide +kernel
  rw [hs] at h
  unfold wd
  rw [hs, hb, add_3]
  exact dec_6 rfl (lin_3 h)
theorem own_7 {rd rn rm ra im kd bs st cd rg : Int} (h : (if shp 7 < 17 then narrowB 7 (shp 7) rd rn rm ra im kd bs st cd rg else wideB (shp 7) rd rn rm ra im kd bs st cd rg) = true) : decN (wd 7 rd rn rm ra im kd bs st cd rg) = 7 := by
  have hs : shp 7 = 3 := by decide +kernel
  have hb : bts 7 = 7680 := by decide +kernel
  rw [hs] at h
  unfold wd
  rw [hs, hb, add_3]
  exact dec_7 rfl (lin_3 h)
theorem own_8 {rd rn rm ra im kd bs st cd rg : Int} (h : (if shp 8 < 17 then narrowB 8 (shp 8) rd rn rm ra im kd bs st cd rg else wideB (shp 8) rd rn rm ra im kd bs st cd rg) = true) : decN (wd 8 rd rn rm ra im kd bs st cd rg) = 8 := by
  have hs : shp 8 = 4 := by decide +kernel
  have hb : bts 8 = 8192 := by decide +kernel
  rw [hs] at h
  unfold wd
  rw [hs, hb, add_4]
  exact dec_8 rfl (lin_4 h)
theorem own_9 {rd rn rm ra im kd bs st cd rg : Int} (h : (if shp 9 < 17 then narrowB 9 (shp 9) rd rn rm ra im kd bs st cd rg else wideB (shp 9) rd rn rm ra im kd bs st cd rg) = true) : decN (wd 9 rd rn rm ra im kd bs st cd rg) = 9 := by
  have hs : shp 9 = 4 := by decide +kernel
  have hb : bts 9 = 10240 := by decide +kernel
  rw [hs] at h
  unfold wd
  rw [hs, hb, add_4]
  exact dec_9 rfl (lin_4 h)
theorem own_10 {rd rn rm ra im kd bs st cd rg : Int} (h : (if shp 10 < 17 then narrowB 10 (shp 10) rd rn rm ra im kd bs st cd rg else wideB (shp 10) rd rn rm ra im kd bs st cd rg) = true) : decN (wd 10 rd rn rm ra im kd bs st cd rg) = 10 := by
  have hs : shp 10 = 4 := by decide +kernel
  have hb : bts 10 = 12288 := by decide +kernel
  rw [hs] at h
  unfold wd
  rw [hs, hb, add_4]
  exact dec_10 rfl (lin_4 h)
theorem own_11 {rd rn rm ra im kd bs st cd rg : Int} (h : (if shp 11 < 17 then narrowB 11 (shp 11) rd rn rm ra im kd bs st cd rg else wideB (shp 11) rd rn rm ra im kd bs st cd rg) = true) : decN (wd 11 rd rn rm ra im kd bs st cd rg) = 11 := by
  have hs : shp 11 = 4 := by decide +kernel
  have hb : bts 11 = 14336 := by decide +kernel
  rw [hs] at h
  unfold wd
  rw [hs, hb, add_4]
  exact dec_11 rfl (lin_4 h)
theorem own_12 {rd rn rm ra im kd bs st cd rg : Int} (h : (if shp 12 < 17 then narrowB 12 (shp 12) rd rn rm ra im kd bs st cd rg else wideB (shp 12) rd rn rm ra im kd bs st cd rg) = true) : decN (wd 12 rd rn rm ra im kd bs st cd rg) = 12 := by
  have hs : shp 12 = 5 := by decide +kernel
  have hb : bts 12 = 16384 := by decide +kernel
  rw [hs] at h
  unfold wd
  rw [hs, hb, add_5]
  exact dec_12 rfl (lin_5 h)
theorem own_13 {rd rn rm ra im kd bs st cd rg : Int} (h : (if shp 13 < 17 then narrowB 13 (shp 13) rd rn rm ra im kd bs st cd rg else wideB (shp 13) rd rn rm ra im kd bs st cd rg) = true) : decN (wd 13 rd rn rm ra im kd bs st cd rg) = 13 := by
  have hs : shp 13 = 5 := by decide +kernel
  have hb : bts 13 = 16448 := by decide +kernel
  rw [hs] at h
  unfold wd
  rw [hs, hb, add_5]
  exact dec_13 rfl (lin_5 h)
theorem own_14 {rd rn rm ra im kd bs st cd rg : Int} (h : (if shp 14 < 17 then narrowB 14 (shp 14) rd rn rm ra im kd bs st cd rg else wideB (shp 14) rd rn rm ra im kd bs st cd rg) = true) : decN (wd 14 rd rn rm ra im kd bs st cd rg) = 14 := by
  have hs : shp 14 = 5 := by decide +kernel
  have hb : bts 14 = 16512 := by decide +kernel
  rw [hs] at h
  unfold wd
  rw [hs, hb, add_5]
  exact dec_14 rfl (lin_5 h)
theorem own_15 {rd rn rm ra im kd bs st cd rg : Int} (h : (if shp 15 < 17 then narrowB 15 (shp 15) rd rn rm ra im kd bs st cd rg else wideB (shp 15) rd rn rm ra im kd bs st cd rg) = true) : decN (wd 15 rd rn rm ra im kd bs st cd rg) = 15 := by
  have hs : shp 15 = 5 := by decide +kernel
  have hb : bts 15 = 16576 := by decide +kernel
  rw [hs] at h
  unfold wd
  rw [hs, hb, add_5]
  exact dec_15 rfl (lin_5 h)
theorem own_16 {rd rn rm ra im kd bs st cd rg : Int} (h : (if shp 16 < 17 then narrowB 16 (shp 16) rd rn rm ra im kd bs st cd rg else wideB (shp 16) rd rn rm ra im kd bs st cd rg) = true) : decN (wd 16 rd rn rm ra im kd bs st cd rg) = 16 := by
  have hs : shp 16 = 5 := by decide +kernel
  have hb : bts 16 = 16640 := by decide +kernel
  rw [hs] at h
  unfold wd
  rw [hs, hb, add_5]
  exact dec_16 rfl (lin_5 h)
theorem own_17 {rd rn rm ra im kd bs st cd rg : Int} (h : (if shp 17 < 17 then narrowB 17 (shp 17) rd rn rm ra im kd bs st cd rg else wideB (shp 17) rd rn rm ra im kd bs st cd rg) = true) : decN (wd 17 rd rn rm ra im kd bs st cd rg) = 17 := by
  have hs : shp 17 = 5 := by decide +kernel
  have hb : bts 17 = 16704 := by decide +kernel
  rw [hs] at h
  unfold wd
  rw [hs, hb, add_5]
  exact dec_17 rfl (lin_5 h)
theorem own_18 {rd rn rm ra im kd bs st cd rg : Int} (h : (if shp 18 < 17 then narrowB 18 (shp 18) rd rn rm ra im kd bs st cd rg else wideB (shp 18) rd rn rm ra im kd bs st cd rg) = true) : decN (wd 18 rd rn rm ra im kd bs st cd rg) = 18 := by
  have hs : shp 18 = 5 := by decide +kernel
  have hb : bts 18 = 16768 := by decide +kernel
  rw [hs] at h
  unfold wd
  rw [hs, hb, add_5]
  exact dec_18 rfl (lin_5 h)
theorem own_19 {rd rn rm ra im kd bs st cd rg : Int} (h : (if shp 19 < 17 then narrowB 19 (shp 19) rd rn rm ra im kd bs st cd rg else wideB (shp 19) rd rn rm ra im kd bs st cd rg) = true) : decN (wd 19 rd rn rm ra im kd bs st cd rg) = 19 := by
  have hs : shp 19 = 5 := by decide +kernel
  have hb : bts 19 = 16832 := by decide +kernel
  rw [hs] at h
  unfold wd
  rw [hs, hb, add_5]
  exact dec_19 rfl (lin_5 h)
theorem own_20 {rd rn rm ra im kd bs st cd rg : Int} (h : (if shp 20 < 17 then narrowB 20 (shp 20) rd rn rm ra im kd bs st cd rg else wideB (shp 20) rd rn rm ra im kd bs st cd rg) = true) : decN (wd 20 rd rn rm ra im kd bs st cd rg) = 20 := by
  have hs : shp 20 = 5 := by decide +kernel
  have hb : bts 20 = 16896 := by decide +kernel
  rw [hs] at h
  unfold wd
  rw [hs, hb, add_5]
  exact dec_20 rfl (lin_5 h)
theorem own_21 {rd rn rm ra im kd bs st cd rg : Int} (h : (if shp 21 < 17 then narrowB 21 (shp 21) rd rn rm ra im kd bs st cd rg else wideB (shp 21) rd rn rm ra im kd bs st cd rg) = true) : decN (wd 21 rd rn rm ra im kd bs st cd rg) = 21 := by
  have hs : shp 21 = 5 := by decide +kernel
  have hb : bts 21 = 16960 := by decide +kernel
  rw [hs] at h
  unfold wd
  rw [hs, hb, add_5]
  exact dec_21 rfl (lin_5 h)
theorem own_22 {rd rn rm ra im kd bs st cd rg : Int} (h : (if shp 22 < 17 then narrowB 22 (shp 22) rd rn rm ra im kd bs st cd rg else wideB (shp 22) rd rn rm ra im kd bs st cd rg) = true) : decN (wd 22 rd rn rm ra im kd bs st cd rg) = 22 := by
  have hs : shp 22 = 5 := by decide +kernel
  have hb : bts 22 = 17024 := by decide +kernel
  rw [hs] at h
  unfold wd
  rw [hs, hb, add_5]
  exact dec_22 rfl (lin_5 h)
theorem own_23 {rd rn rm ra im kd bs st cd rg : Int} (h : (if shp 23 < 17 then narrowB 23 (shp 23) rd rn rm ra im kd bs st cd rg else wideB (shp 23) rd rn rm ra im kd bs st cd rg) = true) : decN (wd 23 rd rn rm ra im kd bs st cd rg) = 23 := by
  have hs : shp 23 = 5 := by decide +kernel
  have hb : bts 23 = 17088 := by decide +kernel
  rw [hs] at h
  unfold wd
  rw [hs, hb, add_5]
  exact dec_23 rfl (lin_5 h)
theorem own_24 {rd rn rm ra im kd bs st cd rg : Int} (h : (if shp 24 < 17 then narrowB 24 (shp 24) rd rn rm ra im kd bs st cd rg else wideB (shp 24) rd rn rm ra im kd bs st cd rg) = true) : decN (wd 24 rd rn rm ra im kd bs st cd rg) = 24 := by
  have hs : shp 24 = 5 := by decide +kernel
  have hb : bts 24 = 17152 := by decide +kernel
  rw [hs] at h
  unfold wd
  rw [hs, hb, add_5]
  exact dec_24 rfl (lin_5 h)
theorem own_25 {rd rn rm ra im kd bs st cd rg : Int} (h : (if shp 25 < 17 then narrowB 25 (shp 25) rd rn rm ra im kd bs st cd rg else wideB (shp 25) rd rn rm ra im kd bs st cd rg) = true) : decN (wd 25 rd rn rm ra im kd bs st cd rg) = 25 := by
  have hs : shp 25 = 5 := by decide +kernel
  have hb : bts 25 = 17216 := by decide +kernel
  rw [hs] at h
  unfold wd
  rw [hs, hb, add_5]
  exact dec_25 rfl (lin_5 h)
theorem own_26 {rd rn rm ra im kd bs st cd rg : Int} (h : (if shp 26 < 17 then narrowB 26 (shp 26) rd rn rm ra im kd bs st cd rg else wideB (shp 26) rd rn rm ra im kd bs st cd rg) = true) : decN (wd 26 rd rn rm ra im kd bs st cd rg) = 26 := by
  have hs : shp 26 = 5 := by decide +kernel
  have hb : bts 26 = 17280 := by decide +kernel
  rw [hs] at h
  unfold wd
  rw [hs, hb, add_5]
  exact dec_26 rfl (lin_5 h)
theorem own_27 {rd rn rm ra im kd bs st cd rg : Int} (h : (if shp 27 < 17 then narrowB 27 (shp 27) rd rn rm ra im kd bs st cd rg else wideB (shp 27) rd rn rm ra im kd bs st cd rg) = true) : decN (wd 27 rd rn rm ra im kd bs st cd rg) = 27 := by
  have hs : shp 27 = 5 := by decide +kernel
  have hb : bts 27 = 17344 := by decide +kernel
  rw [hs] at h
  unfold wd
  rw [hs, hb, add_5]
  exact dec_27 rfl (lin_5 h)
theorem own_28 {rd rn rm ra im kd bs st cd rg : Int} (h : (if shp 28 < 17 then narrowB 28 (shp 28) rd rn rm ra im kd bs st cd rg else wideB (shp 28) rd rn rm ra im kd bs st cd rg) = true) : decN (wd 28 rd rn rm ra im kd bs st cd rg) = 28 := by
  have hs : shp 28 = 6 := by decide +kernel
  have hb : bts 28 = 17408 := by decide +kernel
  rw [hs] at h
  unfold wd
  rw [hs, hb, add_6]
  exact dec_28 rfl (lin_6 h)
theorem own_29 {rd rn rm ra im kd bs st cd rg : Int} (h : (if shp 29 < 17 then narrowB 29 (shp 29) rd rn rm ra im kd bs st cd rg else wideB (shp 29) rd rn rm ra im kd bs st cd rg) = true) : decN (wd 29 rd rn rm ra im kd bs st cd rg) = 29 := by
  have hs : shp 29 = 6 := by decide +kernel
  have hb : bts 29 = 17664 := by decide +kernel
  rw [hs] at h
  unfold wd
  rw [hs, hb, add_6]
  exact dec_29 rfl (lin_6 h)
theorem own_30 {rd rn rm ra im kd bs st cd rg : Int} (h : (if shp 30 < 17 then narrowB 30 (shp 30) rd rn rm ra im kd bs st cd rg else wideB (shp 30) rd rn rm ra im kd bs st cd rg) = true) : decN (wd 30 rd rn rm ra im kd bs st cd rg) = 30 := by
  have hs : shp 30 = 6 := by decide +kernel
  have hb : bts 30 = 17920 := by decide +kernel
  rw [hs] at h
  unfold wd
  rw [hs, hb, add_6]
  exact dec_30 rfl (lin_6 h)
theorem own_31 {rd rn rm ra im kd bs st cd rg : Int} (h : (if shp 31 < 17 then narrowB 31 (shp 31) rd rn rm ra im kd bs st cd rg else wideB (shp 31) rd rn rm ra im kd bs st cd rg) = true) : decN (wd 31 rd rn rm ra im kd bs st cd rg) = 31 := by
  have hs : shp 31 = 7 := by decide +kernel
  have hb : bts 31 = 18176 := by decide +kernel
  rw [hs] at h
  unfold wd
  rw [hs, hb, add_7]
  exact dec_31 rfl (lin_7 h)
theorem own_32 {rd rn rm ra im kd bs st cd rg : Int} (h : (if shp 32 < 17 then narrowB 32 (shp 32) rd rn rm ra im kd bs st cd rg else wideB (shp 32) rd rn rm ra im kd bs st cd rg) = true) : decN (wd 32 rd rn rm ra im kd bs st cd rg) = 32 := by
  have hs : shp 32 = 8 := by decide +kernel
  have hb : bts 32 = 18432 := by decide +kernel
  rw [hs] at h
  unfold wd
  rw [hs, hb, add_8]
  exact dec_32 rfl (lin_8 h)
theorem own_33 {rd rn rm ra im kd bs st cd rg : Int} (h : (if shp 33 < 17 then narrowB 33 (shp 33) rd rn rm ra im kd bs st cd rg else wideB (shp 33) rd rn rm ra im kd bs st cd rg) = true) : decN (wd 33 rd rn rm ra im kd bs st cd rg) = 33 := by
  have hs : shp 33 = 2 := by decide +kernel
  have hb : bts 33 = 20480 := by decide +kernel
  rw [hs] at h
  unfold wd
  rw [hs, hb, add_2]
  exact dec_33 rfl (lin_2 h)
theorem own_34 {rd rn rm ra im kd bs st cd rg : Int} (h : (if shp 34 < 17 then narrowB 34 (shp 34) rd rn rm ra im kd bs st cd rg else wideB (shp 34) rd rn rm ra im kd bs st cd rg) = true) : decN (wd 34 rd rn rm ra im kd bs st cd rg) = 34 := by
  have hs : shp 34 = 2 := by decide +kernel
  have hb : bts 34 = 22528 := by decide +kernel
  rw [hs] at h
  unfold wd
  rw [hs, hb, add_2]
  exact dec_34 rfl (lin_2 h)
theorem own_35 {rd rn rm ra im kd bs st cd rg : Int} (h : (if shp 35 < 17 then narrowB 35 (shp 35) rd rn rm ra im kd bs st cd rg else wideB (shp 35) rd rn rm ra im kd bs st cd rg) = true) : decN (wd 35 rd rn rm ra im kd bs st cd rg) = 35 := by
  have hs : shp 35 = 9 := by decide +kernel
  have hb : bts 35 = 24576 := by decide +kernel
  rw [hs] at h
  unfold wd
  rw [hs, hb, add_9]
  exact dec_35 rfl (lin_9 h)
theorem own_36 {rd rn rm ra im kd bs st cd rg : Int} (h : (if shp 36 < 17 then narrowB 36 (shp 36) rd rn rm ra im kd bs st cd rg else wideB (shp 36) rd rn rm ra im kd bs st cd rg) = true) : decN (wd 36 rd rn rm ra im kd bs st cd rg) = 36 := by
  have hs : shp 36 = 9 := by decide +kernel
  have hb : bts 36 = 26624 := by decide +kernel
  rw [hs] at h
  unfold wd
  rw [hs, hb, add_9]
  exact dec_36 rfl (lin_9 h)
theorem own_37 {rd rn rm ra im kd bs st cd rg : Int} (h : (if shp 37 < 17 then narrowB 37 (shp 37) rd rn rm ra im kd bs st cd rg else wideB (shp 37) rd rn rm ra im kd bs st cd rg) = true) : decN (wd 37 rd rn rm ra im kd bs st cd rg) = 37 := by
  have hs : shp 37 = 8 := by decide +kernel
  have hb : bts 37 = 36864 := by decide +kernel
  rw [hs] at h
  unfold wd
  rw [hs, hb, add_8]
  exact dec_37 rfl (lin_8 h)
theorem own_38 {rd rn rm ra im kd bs st cd rg : Int} (h : (if shp 38 < 17 then narrowB 38 (shp 38) rd rn rm ra im kd bs st cd rg else wideB (shp 38) rd rn rm ra im kd bs st cd rg) = true) : decN (wd 38 rd rn rm ra im kd bs st cd rg) = 38 := by
  have hs : shp 38 = 8 := by decide +kernel
  have hb : bts 38 = 38912 := by decide +kernel
  rw [hs] at h
  unfold wd
  rw [hs, hb, add_8]
  exact dec_38 rfl (lin_8 h)
theorem own_39 {rd rn rm ra im kd bs st cd rg : Int} (h : (if shp 39 < 17 then narrowB 39 (shp 39) rd rn rm ra im kd bs st cd rg else wideB (shp 39) rd rn rm ra im kd bs st cd rg) = true) : decN (wd 39 rd rn rm ra im kd bs st cd rg) = 39 := by
  have hs : shp 39 = 8 := by decide +kernel
  have hb : bts 39 = 43008 := by decide +kernel
  rw [hs] at h
  unfold wd
  rw [hs, hb, add_8]
  exact dec_39 rfl (lin_8 h)
theorem own_40 {rd rn rm ra im kd bs st cd rg : Int} (h : (if shp 40 < 17 then narrowB 40 (shp 40) rd rn rm ra im kd bs st cd rg else wideB (shp 40) rd rn rm ra im kd bs st cd rg) = true) : decN (wd 40 rd rn rm ra im kd bs st cd rg) = 40 := by
  have hs : shp 40 = 10 := by decide +kernel
  have hb : bts 40 = 45056 := by decide +kernel
  rw [hs] at h
  unfold wd
  rw [hs, hb, add_10]
  exact dec_40 rfl (lin_10 h)
theorem own_41 {rd rn rm ra im kd bs st cd rg : Int} (h : (if shp 41 < 17 then narrowB 41 (shp 41) rd rn rm ra im kd bs st cd rg else wideB (shp 41) rd rn rm ra im kd bs st cd rg) = true) : decN (wd 41 rd rn rm ra im kd bs st cd rg) = 41 := by
  have hs : shp 41 = 10 := by decide +kernel
  have hb : bts 41 = 45184 := by decide +kernel
  rw [hs] at h
  unfold wd
  rw [hs, hb, add_10]
  exact dec_41 rfl (lin_10 h)
theorem own_42 {rd rn rm ra im kd bs st cd rg : Int} (h : (if shp 42 < 17 then narrowB 42 (shp 42) rd rn rm ra im kd bs st cd rg else wideB (shp 42) rd rn rm ra im kd bs st cd rg) = true) : decN (wd 42 rd rn rm ra im kd bs st cd rg) = 42 := by
  have hs : shp 42 = 11 := by decide +kernel
  have hb : bts 42 = 46080 := by decide +kernel
  rw [hs] at h
  unfold wd
  rw [hs, hb, add_11]
  exact dec_42 rfl (lin_11 h)
theorem own_43 {rd rn rm ra im kd bs st cd rg : Int} (h : (if shp 43 < 17 then narrowB 43 (shp 43) rd rn rm ra im kd bs st cd rg else wideB (shp 43) rd rn rm ra im kd bs st cd rg) = true) : decN (wd 43 rd rn rm ra im kd bs st cd rg) = 43 := by
  have hs : shp 43 = 12 := by decide +kernel
  have hb : bts 43 = 48128 := by decide +kernel
  rw [hs] at h
  unfold wd
  rw [hs, hb, add_12]
  exact dec_43 rfl (lin_12 h)
theorem own_44 {rd rn rm ra im kd bs st cd rg : Int} (h : (if shp 44 < 17 then narrowB 44 (shp 44) rd rn rm ra im kd bs st cd rg else wideB (shp 44) rd rn rm ra im kd bs st cd rg) = true) : decN (wd 44 rd rn rm ra im kd bs st cd rg) = 44 := by
  have hs : shp 44 = 13 := by decide +kernel
  have hb : bts 44 = 48896 := by decide +kernel
  rw [hs] at h
  unfold wd
  rw [hs, hb, add_13]
  exact dec_44 rfl (lin_13 h)
theorem own_45 {rd rn rm ra im kd bs st cd rg : Int} (h : (if shp 45 < 17 then narrowB 45 (shp 45) rd rn rm ra im kd bs st cd rg else wideB (shp 45) rd rn rm ra im kd bs st cd rg) = true) : decN (wd 45 rd rn rm ra im kd bs st cd rg) = 45 := by
  have hs : shp 45 = 14 := by decide +kernel
  have hb : bts 45 = 48640 := by decide +kernel
  rw [hs] at h
  unfold wd
  rw [hs, hb, add_14]
  exact dec_45 rfl (lin_14 h)
theorem own_46 {rd rn rm ra im kd bs st cd rg : Int} (h : (if shp 46 < 17 then narrowB 46 (shp 46) rd rn rm ra im kd bs st cd rg else wideB (shp 46) rd rn rm ra im kd bs st cd rg) = true) : decN (wd 46 rd rn rm ra im kd bs st cd rg) = 46 := by
  have hs : shp 46 = 15 := by decide +kernel
  have hb : bts 46 = 53248 := by decide +kernel
  rw [hs] at h
  unfold wd
  rw [hs, hb, add_15]
  exact dec_46 rfl (lin_15 h)
theorem own_47 {rd rn rm ra im kd bs st cd rg : Int} (h : (if shp 47 < 17 then narrowB 47 (shp 47) rd rn rm ra im kd bs st cd rg else wideB (shp 47) rd rn rm ra im kd bs st cd rg) = true) : decN (wd 47 rd rn rm ra im kd bs st cd rg) = 47 := by
  have hs : shp 47 = 16 := by decide +kernel
  have hb : bts 47 = 57344 := by decide +kernel
  rw [hs] at h
  unfold wd
  rw [hs, hb, add_16]
  exact dec_47 rfl (lin_16 h)
theorem own_48 {rd rn rm ra im kd bs st cd rg : Int} (h : (if shp 48 < 17 then narrowB 48 (shp 48) rd rn rm ra im kd bs st cd rg else wideB (shp 48) rd rn rm ra im kd bs st cd rg) = true) : decW (wd 48 rd rn rm ra im kd bs st cd rg) = 48 := by
  have hs : shp 48 = 17 := by decide +kernel
  have hb : bts 48 = 4064280576 := by decide +kernel
  rw [hs] at h
  unfold wd
  rw [hs, hb, add_17]
  exact dec_48 rfl (lin_17 h)
theorem own_49 {rd rn rm ra im kd bs st cd rg : Int} (h : (if shp 49 < 17 then narrowB 49 (shp 49) rd rn rm ra im kd bs st cd rg else wideB (shp 49) rd rn rm ra im kd bs st cd rg) = true) : decW (wd 49 rd rn rm ra im kd bs st cd rg) = 49 := by
  have hs : shp 49 = 17 := by decide +kernel
  have hb : bts 49 = 4072669184 := by decide +kernel
  rw [hs] at h
  unfold wd
  rw [hs, hb, add_17]
  exact dec_49 rfl (lin_17 h)
theorem own_50 {rd rn rm ra im kd bs st cd rg : Int} (h : (if shp 50 < 17 then narrowB 50 (shp 50) rd rn rm ra im kd bs st cd rg else wideB (shp 50) rd rn rm ra im kd bs st cd rg) = true) : decW (wd 50 rd rn rm ra im kd bs st cd rg) = 50 := by
  have hs : shp 50 = 18 := by decide +kernel
  have hb : bts 50 = 4026531840 := by decide +kernel
  rw [hs] at h
  unfold wd
  rw [hs, hb, add_18]
  exact dec_50 rfl (lin_18 h)
theorem own_51 {rd rn rm ra im kd bs st cd rg : Int} (h : (if shp 51 < 17 then narrowB 51 (shp 51) rd rn rm ra im kd bs st cd rg else wideB (shp 51) rd rn rm ra im kd bs st cd rg) = true) : decW (wd 51 rd rn rm ra im kd bs st cd rg) = 51 := by
  have hs : shp 51 = 18 := by decide +kernel
  have hb : bts 51 = 4028628992 := by decide +kernel
  rw [hs] at h
  unfold wd
  rw [hs, hb, add_18]
  exact dec_51 rfl (lin_18 h)
theorem own_52 {rd rn rm ra im kd bs st cd rg : Int} (h : (if shp 52 < 17 then narrowB 52 (shp 52) rd rn rm ra im kd bs st cd rg else wideB (shp 52) rd rn rm ra im kd bs st cd rg) = true) : decW (wd 52 rd rn rm ra im kd bs st cd rg) = 52 := by
  have hs : shp 52 = 18 := by decide +kernel
  have hb : bts 52 = 4030726144 := by decide +kernel
  rw [hs] at h
  unfold wd
  rw [hs, hb, add_18]
  exact dec_52 rfl (lin_18 h)
theorem own_53 {rd rn rm ra im kd bs st cd rg : Int} (h : (if shp 53 < 17 then narrowB 53 (shp 53) rd rn rm ra im kd bs st cd rg else wideB (shp 53) rd rn rm ra im kd bs st cd rg) = true) : decW (wd 53 rd rn rm ra im kd bs st cd rg) = 53 := by
  have hs : shp 53 = 18 := by decide +kernel
  have hb : bts 53 = 4032823296 := by decide +kernel
  rw [hs] at h
  unfold wd
  rw [hs, hb, add_18]
  exact dec_53 rfl (lin_18 h)
theorem own_54 {rd rn rm ra im kd bs st cd rg : Int} (h : (if shp 54 < 17 then narrowB 54 (shp 54) rd rn rm ra im kd bs st cd rg else wideB (shp 54) rd rn rm ra im kd bs st cd rg) = true) : decW (wd 54 rd rn rm ra im kd bs st cd rg) = 54 := by
  have hs : shp 54 = 18 := by decide +kernel
  have hb : bts 54 = 4034920448 := by decide +kernel
  rw [hs] at h
  unfold wd
  rw [hs, hb, add_18]
  exact dec_54 rfl (lin_18 h)
theorem own_55 {rd rn rm ra im kd bs st cd rg : Int} (h : (if shp 55 < 17 then narrowB 55 (shp 55) rd rn rm ra im kd bs st cd rg else wideB (shp 55) rd rn rm ra im kd bs st cd rg) = true) : decW (wd 55 rd rn rm ra im kd bs st cd rg) = 55 := by
  have hs : shp 55 = 18 := by decide +kernel
  have hb : bts 55 = 4043309056 := by decide +kernel
  rw [hs] at h
  unfold wd
  rw [hs, hb, add_18]
  exact dec_55 rfl (lin_18 h)
theorem own_56 {rd rn rm ra im kd bs st cd rg : Int} (h : (if shp 56 < 17 then narrowB 56 (shp 56) rd rn rm ra im kd bs st cd rg else wideB (shp 56) rd rn rm ra im kd bs st cd rg) = true) : decW (wd 56 rd rn rm ra im kd bs st cd rg) = 56 := by
  have hs : shp 56 = 18 := by decide +kernel
  have hb : bts 56 = 4047503360 := by decide +kernel
  rw [hs] at h
  unfold wd
  rw [hs, hb, add_18]
  exact dec_56 rfl (lin_18 h)
theorem own_57 {rd rn rm ra im kd bs st cd rg : Int} (h : (if shp 57 < 17 then narrowB 57 (shp 57) rd rn rm ra im kd bs st cd rg else wideB (shp 57) rd rn rm ra im kd bs st cd rg) = true) : decW (wd 57 rd rn rm ra im kd bs st cd rg) = 57 := by
  have hs : shp 57 = 18 := by decide +kernel
  have hb : bts 57 = 4049600512 := by decide +kernel
  rw [hs] at h
  unfold wd
  rw [hs, hb, add_18]
  exact dec_57 rfl (lin_18 h)
theorem own_58 {rd rn rm ra im kd bs st cd rg : Int} (h : (if shp 58 < 17 then narrowB 58 (shp 58) rd rn rm ra im kd bs st cd rg else wideB (shp 58) rd rn rm ra im kd bs st cd rg) = true) : decW (wd 58 rd rn rm ra im kd bs st cd rg) = 58 := by
  have hs : shp 58 = 18 := by decide +kernel
  have hb : bts 58 = 4053794816 := by decide +kernel
  rw [hs] at h
  unfold wd
  rw [hs, hb, add_18]
  exact dec_58 rfl (lin_18 h)
theorem own_59 {rd rn rm ra im kd bs st cd rg : Int} (h : (if shp 59 < 17 then narrowB 59 (shp 59) rd rn rm ra im kd bs st cd rg else wideB (shp 59) rd rn rm ra im kd bs st cd rg) = true) : decW (wd 59 rd rn rm ra im kd bs st cd rg) = 59 := by
  have hs : shp 59 = 18 := by decide +kernel
  have hb : bts 59 = 4055891968 := by decide +kernel
  rw [hs] at h
  unfold wd
  rw [hs, hb, add_18]
  exact dec_59 rfl (lin_18 h)
theorem own_60 {rd rn rm ra im kd bs st cd rg : Int} (h : (if shp 60 < 17 then narrowB 60 (shp 60) rd rn rm ra im kd bs st cd rg else wideB (shp 60) rd rn rm ra im kd bs st cd rg) = true) : decW (wd 60 rd rn rm ra im kd bs st cd rg) = 60 := by
  have hs : shp 60 = 19 := by decide +kernel
  have hb : bts 60 = 4031709184 := by decide +kernel
  rw [hs] at h
  unfold wd
  rw [hs, hb, add_19]
  exact dec_60 rfl (lin_19 h)
theorem own_61 {rd rn rm ra im kd bs st cd rg : Int} (h : (if shp 61 < 17 then narrowB 61 (shp 61) rd rn rm ra im kd bs st cd rg else wideB (shp 61) rd rn rm ra im kd bs st cd rg) = true) : decW (wd 61 rd rn rm ra im kd bs st cd rg) = 61 := by
  have hs : shp 61 = 19 := by decide +kernel
  have hb : bts 61 = 4033806336 := by decide +kernel
  rw [hs] at h
  unfold wd
  rw [hs, hb, add_19]
  exact dec_61 rfl (lin_19 h)
theorem own_62 {rd rn rm ra im kd bs st cd rg : Int} (h : (if shp 62 < 17 then narrowB 62 (shp 62) rd rn rm ra im kd bs st cd rg else wideB (shp 62) rd rn rm ra im kd bs st cd rg) = true) : decW (wd 62 rd rn rm ra im kd bs st cd rg) = 62 := by
  have hs : shp 62 = 20 := by decide +kernel
  have hb : bts 62 = 4027584256 := by decide +kernel
  rw [hs] at h
  unfold wd
  rw [hs, hb, add_20]
  exact dec_62 rfl (lin_20 h)
theorem own_63 {rd rn rm ra im kd bs st cd rg : Int} (h : (if shp 63 < 17 then narrowB 63 (shp 63) rd rn rm ra im kd bs st cd rg else wideB (shp 63) rd rn rm ra im kd bs st cd rg) = true) : decW (wd 63 rd rn rm ra im kd bs st cd rg) = 63 := by
  have hs : shp 63 = 20 := by decide +kernel
  have hb : bts 63 = 4035972864 := by decide +kernel
  rw [hs] at h
  unfold wd
  rw [hs, hb, add_20]
  exact dec_63 rfl (lin_20 h)
theorem own_64 {rd rn rm ra im kd bs st cd rg : Int} (h : (if shp 64 < 17 then narrowB 64 (shp 64) rd rn rm ra im kd bs st cd rg else wideB (shp 64) rd rn rm ra im kd bs st cd rg) = true) : decW (wd 64 rd rn rm ra im kd bs st cd rg) = 64 := by
  have hs : shp 64 = 20 := by decide +kernel
  have hb : bts 64 = 4044361472 := by decide +kernel
  rw [hs] at h
  unfold wd
  rw [hs, hb, add_20]
  exact dec_64 rfl (lin_20 h)
theorem own_65 {rd rn rm ra im kd bs st cd rg : Int} (h : (if shp 65 < 17 then narrowB 65 (shp 65) rd rn rm ra im kd bs st cd rg else wideB (shp 65) rd rn rm ra im kd bs st cd rg) = true) : decW (wd 65 rd rn rm ra im kd bs st cd rg) = 65 := by
  have hs : shp 65 = 20 := by decide +kernel
  have hb : bts 65 = 4054847232 := by decide +kernel
  rw [hs] at h
  unfold wd
  rw [hs, hb, add_20]
  exact dec_65 rfl (lin_20 h)
theorem own_66 {rd rn rm ra im kd bs st cd rg : Int} (h : (if shp 66 < 17 then narrowB 66 (shp 66) rd rn rm ra im kd bs st cd rg else wideB (shp 66) rd rn rm ra im kd bs st cd rg) = true) : decW (wd 66 rd rn rm ra im kd bs st cd rg) = 66 := by
  have hs : shp 66 = 21 := by decide +kernel
  have hb : bts 66 = 3925868544 := by decide +kernel
  rw [hs] at h
  unfold wd
  rw [hs, hb, add_21]
  exact dec_66 rfl (lin_21 h)
theorem own_67 {rd rn rm ra im kd bs st cd rg : Int} (h : (if shp 67 < 17 then narrowB 67 (shp 67) rd rn rm ra im kd bs st cd rg else wideB (shp 67) rd rn rm ra im kd bs st cd rg) = true) : decW (wd 67 rd rn rm ra im kd bs st cd rg) = 67 := by
  have hs : shp 67 = 21 := by decide +kernel
  have hb : bts 67 = 3927965696 := by decide +kernel
  rw [hs] at h
  unfold wd
  rw [hs, hb, add_21]
  exact dec_67 rfl (lin_21 h)
theorem own_68 {rd rn rm ra im kd bs st cd rg : Int} (h : (if shp 68 < 17 then narrowB 68 (shp 68) rd rn rm ra im kd bs st cd rg else wideB (shp 68) rd rn rm ra im kd bs st cd rg) = true) : decW (wd 68 rd rn rm ra im kd bs st cd rg) = 68 := by
  have hs : shp 68 = 21 := by decide +kernel
  have hb : bts 68 = 3930062848 := by decide +kernel
  rw [hs] at h
  unfold wd
  rw [hs, hb, add_21]
  exact dec_68 rfl (lin_21 h)
theorem own_69 {rd rn rm ra im kd bs st cd rg : Int} (h : (if shp 69 < 17 then narrowB 69 (shp 69) rd rn rm ra im kd bs st cd rg else wideB (shp 69) rd rn rm ra im kd bs st cd rg) = true) : decW (wd 69 rd rn rm ra im kd bs st cd rg) = 69 := by
  have hs : shp 69 = 21 := by decide +kernel
  have hb : bts 69 = 3932160000 := by decide +kernel
  rw [hs] at h
  unfold wd
  rw [hs, hb, add_21]
  exact dec_69 rfl (lin_21 h)
theorem own_70 {rd rn rm ra im kd bs st cd rg : Int} (h : (if shp 70 < 17 then narrowB 70 (shp 70) rd rn rm ra im kd bs st cd rg else wideB (shp 70) rd rn rm ra im kd bs st cd rg) = true) : decW (wd 70 rd rn rm ra im kd bs st cd rg) = 70 := by
  have hs : shp 70 = 21 := by decide +kernel
  have hb : bts 70 = 3934257152 := by decide +kernel
  rw [hs] at h
  unfold wd
  rw [hs, hb, add_21]
  exact dec_70 rfl (lin_21 h)
theorem own_71 {rd rn rm ra im kd bs st cd rg : Int} (h : (if shp 71 < 17 then narrowB 71 (shp 71) rd rn rm ra im kd bs st cd rg else wideB (shp 71) rd rn rm ra im kd bs st cd rg) = true) : decW (wd 71 rd rn rm ra im kd bs st cd rg) = 71 := by
  have hs : shp 71 = 21 := by decide +kernel
  have hb : bts 71 = 3942645760 := by decide +kernel
  rw [hs] at h
  unfold wd
  rw [hs, hb, add_21]
  exact dec_71 rfl (lin_21 h)
theorem own_72 {rd rn rm ra im kd bs st cd rg : Int} (h : (if shp 72 < 17 then narrowB 72 (shp 72) rd rn rm ra im kd bs st cd rg else wideB (shp 72) rd rn rm ra im kd bs st cd rg) = true) : decW (wd 72 rd rn rm ra im kd bs st cd rg) = 72 := by
  have hs : shp 72 = 21 := by decide +kernel
  have hb : bts 72 = 3946840064 := by decide +kernel
  rw [hs] at h
  unfold wd
  rw [hs, hb, add_21]
  exact dec_72 rfl (lin_21 h)
theorem own_73 {rd rn rm ra im kd bs st cd rg : Int} (h : (if shp 73 < 17 then narrowB 73 (shp 73) rd rn rm ra im kd bs st cd rg else wideB (shp 73) rd rn rm ra im kd bs st cd rg) = true) : decW (wd 73 rd rn rm ra im kd bs st cd rg) = 73 := by
  have hs : shp 73 = 21 := by decide +kernel
  have hb : bts 73 = 3948937216 := by decide +kernel
  rw [hs] at h
  unfold wd
  rw [hs, hb, add_21]
  exact dec_73 rfl (lin_21 h)
theorem own_74 {rd rn rm ra im kd bs st cd rg : Int} (h : (if shp 74 < 17 then narrowB 74 (shp 74) rd rn rm ra im kd bs st cd rg else wideB (shp 74) rd rn rm ra im kd bs st cd rg) = true) : decW (wd 74 rd rn rm ra im kd bs st cd rg) = 74 := by
  have hs : shp 74 = 21 := by decide +kernel
  have hb : bts 74 = 3953131520 := by decide +kernel
  rw [hs] at h
  unfold wd
  rw [hs, hb, add_21]
  exact dec_74 rfl (lin_21 h)
theorem own_75 {rd rn rm ra im kd bs st cd rg : Int} (h : (if shp 75 < 17 then narrowB 75 (shp 75) rd rn rm ra im kd bs st cd rg else wideB (shp 75) rd rn rm ra im kd bs st cd rg) = true) : decW (wd 75 rd rn rm ra im kd bs st cd rg) = 75 := by
  have hs : shp 75 = 21 := by decide +kernel
  have hb : bts 75 = 3955228672 := by decide +kernel
  rw [hs] at h
  unfold wd
  rw [hs, hb, add_21]
  exact dec_75 rfl (lin_21 h)
theorem own_76 {rd rn rm ra im kd bs st cd rg : Int} (h : (if shp 76 < 17 then narrowB 76 (shp 76) rd rn rm ra im kd bs st cd rg else wideB (shp 76) rd rn rm ra im kd bs st cd rg) = true) : decW (wd 76 rd rn rm ra im kd bs st cd rg) = 76 := by
  have hs : shp 76 = 22 := by decide +kernel
  have hb : bts 76 = 3931045888 := by decide +kernel
  rw [hs] at h
  unfold wd
  rw [hs, hb, add_22]
  exact dec_76 rfl (lin_22 h)
theorem own_77 {rd rn rm ra im kd bs st cd rg : Int} (h : (if shp 77 < 17 then narrowB 77 (shp 77) rd rn rm ra im kd bs st cd rg else wideB (shp 77) rd rn rm ra im kd bs st cd rg) = true) : decW (wd 77 rd rn rm ra im kd bs st cd rg) = 77 := by
  have hs : shp 77 = 22 := by decide +kernel
  have hb : bts 77 = 3933143040 := by decide +kernel
  rw [hs] at h
  unfold wd
  rw [hs, hb, add_22]
  exact dec_77 rfl (lin_22 h)
theorem own_78 {rd rn rm ra im kd bs st cd rg : Int} (h : (if shp 78 < 17 then narrowB 78 (shp 78) rd rn rm ra im kd bs st cd rg else wideB (shp 78) rd rn rm ra im kd bs st cd rg) = true) : decW (wd 78 rd rn rm ra im kd bs st cd rg) = 78 := by
  have hs : shp 78 = 23 := by decide +kernel
  have hb : bts 78 = 3926920960 := by decide +kernel
  rw [hs] at h
  unfold wd
  rw [hs, hb, add_23]
  exact dec_78 rfl (lin_23 h)
theorem own_79 {rd rn rm ra im kd bs st cd rg : Int} (h : (if shp 79 < 17 then narrowB 79 (shp 79) rd rn rm ra im kd bs st cd rg else wideB (shp 79) rd rn rm ra im kd bs st cd rg) = true) : decW (wd 79 rd rn rm ra im kd bs st cd rg) = 79 := by
  have hs : shp 79 = 23 := by decide +kernel
  have hb : bts 79 = 3935309568 := by decide +kernel
  rw [hs] at h
  unfold wd
  rw [hs, hb, add_23]
  exact dec_79 rfl (lin_23 h)
theorem own_80 {rd rn rm ra im kd bs st cd rg : Int} (h : (if shp 80 < 17 then narrowB 80 (shp 80) rd rn rm ra im kd bs st cd rg else wideB (shp 80) rd rn rm ra im kd bs st cd rg) = true) : decW (wd 80 rd rn rm ra im kd bs st cd rg) = 80 := by
  have hs : shp 80 = 23 := by decide +kernel
  have hb : bts 80 = 3943698176 := by decide +kernel
  rw [hs] at h
  unfold wd
  rw [hs, hb, add_23]
  exact dec_80 rfl (lin_23 h)
theorem own_81 {rd rn rm ra im kd bs st cd rg : Int} (h : (if shp 81 < 17 then narrowB 81 (shp 81) rd rn rm ra im kd bs st cd rg else wideB (shp 81) rd rn rm ra im kd bs st cd rg) = true) : decW (wd 81 rd rn rm ra im kd bs st cd rg) = 81 := by
  have hs : shp 81 = 23 := by decide +kernel
  have hb : bts 81 = 3954183936 := by decide +kernel
  rw [hs] at h
  unfold wd
  rw [hs, hb, add_23]
  exact dec_81 rfl (lin_23 h)
theorem own_82 {rd rn rm ra im kd bs st cd rg : Int} (h : (if shp 82 < 17 then narrowB 82 (shp 82) rd rn rm ra im kd bs st cd rg else wideB (shp 82) rd rn rm ra im kd bs st cd rg) = true) : decW (wd 82 rd rn rm ra im kd bs st cd rg) = 82 := by
  have hs : shp 82 = 24 := by decide +kernel
  have hb : bts 82 = 4060086272 := by decide +kernel
  rw [hs] at h
  unfold wd
  rw [hs, hb, add_24]
  exact dec_82 rfl (lin_24 h)
theorem own_83 {rd rn rm ra im kd bs st cd rg : Int} (h : (if shp 83 < 17 then narrowB 83 (shp 83) rd rn rm ra im kd bs st cd rg else wideB (shp 83) rd rn rm ra im kd bs st cd rg) = true) : decW (wd 83 rd rn rm ra im kd bs st cd rg) = 83 := by
  have hs : shp 83 = 24 := by decide +kernel
  have hb : bts 83 = 4070572032 := by decide +kernel
  rw [hs] at h
  unfold wd
  rw [hs, hb, add_24]
  exact dec_83 rfl (lin_24 h)
theorem own_84 {rd rn rm ra im kd bs st cd rg : Int} (h : (if shp 84 < 17 then narrowB 84 (shp 84) rd rn rm ra im kd bs st cd rg else wideB (shp 84) rd rn rm ra im kd bs st cd rg) = true) : decW (wd 84 rd rn rm ra im kd bs st cd rg) = 84 := by
  have hs : shp 84 = 25 := by decide +kernel
  have hb : bts 84 = 4173332480 := by decide +kernel
  rw [hs] at h
  unfold wd
  rw [hs, hb, add_25]
  exact dec_84 rfl (lin_25 h)
theorem own_85 {rd rn rm ra im kd bs st cd rg : Int} (h : (if shp 85 < 17 then narrowB 85 (shp 85) rd rn rm ra im kd bs st cd rg else wideB (shp 85) rd rn rm ra im kd bs st cd rg) = true) : decW (wd 85 rd rn rm ra im kd bs st cd rg) = 85 := by
  have hs : shp 85 = 25 := by decide +kernel
  have hb : bts 85 = 4174381056 := by decide +kernel
  rw [hs] at h
  unfold wd
  rw [hs, hb, add_25]
  exact dec_85 rfl (lin_25 h)
theorem own_86 {rd rn rm ra im kd bs st cd rg : Int} (h : (if shp 86 < 17 then narrowB 86 (shp 86) rd rn rm ra im kd bs st cd rg else wideB (shp 86) rd rn rm ra im kd bs st cd rg) = true) : decW (wd 86 rd rn rm ra im kd bs st cd rg) = 86 := by
  have hs : shp 86 = 26 := by decide +kernel
  have hb : bts 86 = 4164943872 := by decide +kernel
  rw [hs] at h
  unfold wd
  rw [hs, hb, add_26]
  exact dec_86 rfl (lin_26 h)
theorem own_87 {rd rn rm ra im kd bs st cd rg : Int} (h : (if shp 87 < 17 then narrowB 87 (shp 87) rd rn rm ra im kd bs st cd rg else wideB (shp 87) rd rn rm ra im kd bs st cd rg) = true) : decW (wd 87 rd rn rm ra im kd bs st cd rg) = 87 := by
  have hs : shp 87 = 26 := by decide +kernel
  have hb : bts 87 = 4165992448 := by decide +kernel
  rw [hs] at h
  unfold wd
  rw [hs, hb, add_26]
  exact dec_87 rfl (lin_26 h)
theorem own_88 {rd rn rm ra im kd bs st cd rg : Int} (h : (if shp 88 < 17 then narrowB 88 (shp 88) rd rn rm ra im kd bs st cd rg else wideB (shp 88) rd rn rm ra im kd bs st cd rg) = true) : decW (wd 88 rd rn rm ra im kd bs st cd rg) = 88 := by
  have hs : shp 88 = 27 := by decide +kernel
  have hb : bts 88 = 4194365440 := by decide +kernel
  rw [hs] at h
  unfold wd
  rw [hs, hb, add_27]
  exact dec_88 rfl (lin_27 h)
theorem own_89 {rd rn rm ra im kd bs st cd rg : Int} (h : (if shp 89 < 17 then narrowB 89 (shp 89) rd rn rm ra im kd bs st cd rg else wideB (shp 89) rd rn rm ra im kd bs st cd rg) = true) : decW (wd 89 rd rn rm ra im kd bs st cd rg) = 89 := by
  have hs : shp 89 = 27 := by decide +kernel
  have hb : bts 89 = 4196462592 := by decide +kernel
  rw [hs] at h
  unfold wd
  rw [hs, hb, add_27]
  exact dec_89 rfl (lin_27 h)
theorem own_90 {rd rn rm ra im kd bs st cd rg : Int} (h : (if shp 90 < 17 then narrowB 90 (shp 90) rd rn rm ra im kd bs st cd rg else wideB (shp 90) rd rn rm ra im kd bs st cd rg) = true) : decW (wd 90 rd rn rm ra im kd bs st cd rg) = 90 := by
  have hs : shp 90 = 27 := by decide +kernel
  have hb : bts 90 = 4198559744 := by decide +kernel
  rw [hs] at h
  unfold wd
  rw [hs, hb, add_27]
  exact dec_90 rfl (lin_27 h)
theorem own_91 {rd rn rm ra im kd bs st cd rg : Int} (h : (if shp 91 < 17 then narrowB 91 (shp 91) rd rn rm ra im kd bs st cd rg else wideB (shp 91) rd rn rm ra im kd bs st cd rg) = true) : decW (wd 91 rd rn rm ra im kd bs st cd rg) = 91 := by
  have hs : shp 91 = 27 := by decide +kernel
  have hb : bts 91 = 4200656896 := by decide +kernel
  rw [hs] at h
  unfold wd
  rw [hs, hb, add_27]
  exact dec_91 rfl (lin_27 h)
theorem own_92 {rd rn rm ra im kd bs st cd rg : Int} (h : (if shp 92 < 17 then narrowB 92 (shp 92) rd rn rm ra im kd bs st cd rg else wideB (shp 92) rd rn rm ra im kd bs st cd rg) = true) : decW (wd 92 rd rn rm ra im kd bs st cd rg) = 92 := by
  have hs : shp 92 = 28 := by decide +kernel
  have hb : bts 92 = 4211142656 := by decide +kernel
  rw [hs] at h
  unfold wd
  rw [hs, hb, add_28]
  exact dec_92 rfl (lin_28 h)
theorem own_93 {rd rn rm ra im kd bs st cd rg : Int} (h : (if shp 93 < 17 then narrowB 93 (shp 93) rd rn rm ra im kd bs st cd rg else wideB (shp 93) rd rn rm ra im kd bs st cd rg) = true) : decW (wd 93 rd rn rm ra im kd bs st cd rg) = 93 := by
  have hs : shp 93 = 29 := by decide +kernel
  have hb : bts 93 = 4211081216 := by decide +kernel
  rw [hs] at h
  unfold wd
  rw [hs, hb, add_29]
  exact dec_93 rfl (lin_29 h)
theorem own_94 {rd rn rm ra im kd bs st cd rg : Int} (h : (if shp 94 < 17 then narrowB 94 (shp 94) rd rn rm ra im kd bs st cd rg else wideB (shp 94) rd rn rm ra im kd bs st cd rg) = true) : decW (wd 94 rd rn rm ra im kd bs st cd rg) = 94 := by
  have hs : shp 94 = 30 := by decide +kernel
  have hb : bts 94 = 4211081232 := by decide +kernel
  rw [hs] at h
  unfold wd
  rw [hs, hb, add_30]
  exact dec_94 rfl (lin_30 h)
theorem own_95 {rd rn rm ra im kd bs st cd rg : Int} (h : (if shp 95 < 17 then narrowB 95 (shp 95) rd rn rm ra im kd bs st cd rg else wideB (shp 95) rd rn rm ra im kd bs st cd rg) = true) : decW (wd 95 rd rn rm ra im kd bs st cd rg) = 95 := by
  have hs : shp 95 = 31 := by decide +kernel
  have hb : bts 95 = 4221566976 := by decide +kernel
  rw [hs] at h
  unfold wd
  rw [hs, hb, add_31]
  exact dec_95 rfl (lin_31 h)
theorem own_96 {rd rn rm ra im kd bs st cd rg : Int} (h : (if shp 96 < 17 then narrowB 96 (shp 96) rd rn rm ra im kd bs st cd rg else wideB (shp 96) rd rn rm ra im kd bs st cd rg) = true) : decW (wd 96 rd rn rm ra im kd bs st cd rg) = 96 := by
  have hs : shp 96 = 31 := by decide +kernel
  have hb : bts 96 = 4225761280 := by decide +kernel
  rw [hs] at h
  unfold wd
  rw [hs, hb, add_31]
  exact dec_96 rfl (lin_31 h)
theorem own_97 {rd rn rm ra im kd bs st cd rg : Int} (h : (if shp 97 < 17 then narrowB 97 (shp 97) rd rn rm ra im kd bs st cd rg else wideB (shp 97) rd rn rm ra im kd bs st cd rg) = true) : decW (wd 97 rd rn rm ra im kd bs st cd rg) = 97 := by
  have hs : shp 97 = 28 := by decide +kernel
  have hb : bts 97 = 4222677232 := by decide +kernel
  rw [hs] at h
  unfold wd
  rw [hs, hb, add_28]
  exact dec_97 rfl (lin_28 h)
theorem own_98 {rd rn rm ra im kd bs st cd rg : Int} (h : (if shp 98 < 17 then narrowB 98 (shp 98) rd rn rm ra im kd bs st cd rg else wideB (shp 98) rd rn rm ra im kd bs st cd rg) = true) : decW (wd 98 rd rn rm ra im kd bs st cd rg) = 98 := by
  have hs : shp 98 = 32 := by decide +kernel
  have hb : bts 98 = 4205899904 := by decide +kernel
  rw [hs] at h
  unfold wd
  rw [hs, hb, add_32]
  exact dec_98 rfl (lin_32 h)
theorem own_99 {rd rn rm ra im kd bs st cd rg : Int} (h : (if shp 99 < 17 then narrowB 99 (shp 99) rd rn rm ra im kd bs st cd rg else wideB (shp 99) rd rn rm ra im kd bs st cd rg) = true) : decW (wd 99 rd rn rm ra im kd bs st cd rg) = 99 := by
  have hs : shp 99 = 33 := by decide +kernel
  have hb : bts 99 = 4026564608 := by decide +kernel
  rw [hs] at h
  unfold wd
  rw [hs, hb, add_33]
  exact dec_99 rfl (lin_33 h)
theorem own_100 {rd rn rm ra im kd bs st cd rg : Int} (h : (if shp 100 < 17 then narrowB 100 (shp 100) rd rn rm ra im kd bs st cd rg else wideB (shp 100) rd rn rm ra im kd bs st cd rg) = true) : decW (wd 100 rd rn rm ra im kd bs st cd rg) = 100 := by
  have hs : shp 100 = 34 := by decide +kernel
  have hb : bts 100 = 4026568704 := by decide +kernel
  rw [hs] at h
  unfold wd
  rw [hs, hb, add_34]
  exact dec_100 rfl (lin_34 h)

theorem narrow_dec {f rd rn rm ra im kd bs st cd rg : Int} (h : right f rd rn rm ra im kd bs st cd rg = true) (g0 : -9223372036854775808 ≤ rg) (g1 : rg ≤ 9223372036854775807) (hf : f ≤ 47) : decN (wd f rd rn rm ra im kd bs st cd rg) = f := by
  obtain ⟨⟨i0, _⟩, h⟩ := at_own h g0 g1
  rcases (show f = 1 ∨ f = 2 ∨ f = 3 ∨ f = 4 ∨ f = 5 ∨ f = 6 ∨ f = 7 ∨ f = 8 ∨ f = 9 ∨ f = 10 ∨ 11 ≤ f by omega) with rfl | rfl | rfl | rfl | rfl | rfl | rfl | rfl | rfl | rfl | hk
  · exact own_1 h
  · exact own_2 h
  · exact own_3 h
  · exact own_4 h
  · exact own_5 h
  · exact own_6 h
  · exact own_7 h
  · exact own_8 h
  · exact own_9 h
  · exact own_10 h
  rcases (show f = 11 ∨ f = 12 ∨ f = 13 ∨ f = 14 ∨ f = 15 ∨ f = 16 ∨ f = 17 ∨ f = 18 ∨ f = 19 ∨ f = 20 ∨ 21 ≤ f by omega) with rfl | rfl | rfl | rfl | rfl | rfl | rfl | rfl | rfl | rfl | hk
  · exact own_11 h
  · exact own_12 h
  · exact own_13 h
  · exact own_14 h
  · exact own_15 h
  · exact own_16 h
  · exact own_17 h
  · exact own_18 h
  · exact own_19 h
  · exact own_20 h
  rcases (show f = 21 ∨ f = 22 ∨ f = 23 ∨ f = 24 ∨ f = 25 ∨ f = 26 ∨ f = 27 ∨ f = 28 ∨ f = 29 ∨ f = 30 ∨ 31 ≤ f by omega) with rfl | rfl | rfl | rfl | rfl | rfl | rfl | rfl | rfl | rfl | hk
  · exact own_21 h
  · exact own_22 h
  · exact own_23 h
  · exact own_24 h
  · exact own_25 h
  · exact own_26 h
  · exact own_27 h
  · exact own_28 h
  · exact own_29 h
  · exact own_30 h
  rcases (show f = 31 ∨ f = 32 ∨ f = 33 ∨ f = 34 ∨ f = 35 ∨ f = 36 ∨ f = 37 ∨ f = 38 ∨ f = 39 ∨ f = 40 ∨ 41 ≤ f by omega) with rfl | rfl | rfl | rfl | rfl | rfl | rfl | rfl | rfl | rfl | hk
  · exact own_31 h
  · exact own_32 h
  · exact own_33 h
  · exact own_34 h
  · exact own_35 h
  · exact own_36 h
  · exact own_37 h
  · exact own_38 h
  · exact own_39 h
  · exact own_40 h
  rcases (show f = 41 ∨ f = 42 ∨ f = 43 ∨ f = 44 ∨ f = 45 ∨ f = 46 ∨ f = 47 by omega) with rfl | rfl | rfl | rfl | rfl | rfl | rfl
  · exact own_41 h
  · exact own_42 h
  · exact own_43 h
  · exact own_44 h
  · exact own_45 h
  · exact own_46 h
  · exact own_47 h

theorem wide_dec {f rd rn rm ra im kd bs st cd rg : Int} (h : right f rd rn rm ra im kd bs st cd rg = true) (g0 : -9223372036854775808 ≤ rg) (g1 : rg ≤ 9223372036854775807) (hf : 48 ≤ f) : decW (wd f rd rn rm ra im kd bs st cd rg) = f := by
  obtain ⟨⟨_, i1⟩, h⟩ := at_own h g0 g1
  rcases (show f = 48 ∨ f = 49 ∨ f = 50 ∨ f = 51 ∨ f = 52 ∨ f = 53 ∨ f = 54 ∨ f = 55 ∨ f = 56 ∨ f = 57 ∨ 58 ≤ f by omega) with rfl | rfl | rfl | rfl | rfl | rfl | rfl | rfl | rfl | rfl | hk
  · exact own_48 h
  · exact own_49 h
  · exact own_50 h
  · exact own_51 h
  · exact own_52 h
  · exact own_53 h
  · exact own_54 h
  · exact own_55 h
  · exact own_56 h
  · exact own_57 h
  rcases (show f = 58 ∨ f = 59 ∨ f = 60 ∨ f = 61 ∨ f = 62 ∨ f = 63 ∨ f = 64 ∨ f = 65 ∨ f = 66 ∨ f = 67 ∨ 68 ≤ f by omega) with rfl | rfl | rfl | rfl | rfl | rfl | rfl | rfl | rfl | rfl | hk
  · exact own_58 h
  · exact own_59 h
  · exact own_60 h
  · exact own_61 h
  · exact own_62 h
  · exact own_63 h
  · exact own_64 h
  · exact own_65 h
  · exact own_66 h
  · exact own_67 h
  rcases (show f = 68 ∨ f = 69 ∨ f = 70 ∨ f = 71 ∨ f = 72 ∨ f = 73 ∨ f = 74 ∨ f = 75 ∨ f = 76 ∨ f = 77 ∨ 78 ≤ f by omega) with rfl | rfl | rfl | rfl | rfl | rfl | rfl | rfl | rfl | rfl | hk
  · exact own_68 h
  · exact own_69 h
  · exact own_70 h
  · exact own_71 h
  · exact own_72 h
  · exact own_73 h
  · exact own_74 h
  · exact own_75 h
  · exact own_76 h
  · exact own_77 h
  rcases (show f = 78 ∨ f = 79 ∨ f = 80 ∨ f = 81 ∨ f = 82 ∨ f = 83 ∨ f = 84 ∨ f = 85 ∨ f = 86 ∨ f = 87 ∨ 88 ≤ f by omega) with rfl | rfl | rfl | rfl | rfl | rfl | rfl | rfl | rfl | rfl | hk
  · exact own_78 h
  · exact own_79 h
  · exact own_80 h
  · exact own_81 h
  · exact own_82 h
  · exact own_83 h
  · exact own_84 h
  · exact own_85 h
  · exact own_86 h
  · exact own_87 h
  rcases (show f = 88 ∨ f = 89 ∨ f = 90 ∨ f = 91 ∨ f = 92 ∨ f = 93 ∨ f = 94 ∨ f = 95 ∨ f = 96 ∨ f = 97 ∨ 98 ≤ f by omega) with rfl | rfl | rfl | rfl | rfl | rfl | rfl | rfl | rfl | rfl | hk
  · exact own_88 h
  · exact own_89 h
  · exact own_90 h
  · exact own_91 h
  · exact own_92 h
  · exact own_93 h
  · exact own_94 h
  · exact own_95 h
  · exact own_96 h
  · exact own_97 h
  rcases (show f = 98 ∨ f = 99 ∨ f = 100 by omega) with rfl | rfl | rfl
  · exact own_98 h
  · exact own_99 h
  · exact own_100 h

end Go.Proofs.YtpgcnbipnjcniaaDoor.Code
