/- The fields of any right instruction are told by its form and its word; two right ones of one length with one word are the same. -/
import Derived.Test.YtpgcnbipnjcniaaDoorCodeBackA
import Derived.Test.YtpgcnbipnjcniaaDoorCodeBackB
import Derived.Test.YtpgcnbipnjcniaaDoorCodeBackC
import Derived.Test.YtpgcnbipnjcniaaDoorCodeBackD
set_option linter.unusedVariables false
set_option linter.unusedSimpArgs false
namespace Go.Proofs.YtpgcnbipnjcniaaDoor.Code
open Go.Proofs.YtpgcnbipnjcniaaDoor.Alu Go.Proofs.YtpgcnbipnjcniaaDoor.Imm Go.Proofs.YtpgcnbipnjcniaaDoor.Inst

/-- All fields, out of a form and a word. -/
def Told (f rd rn rm ra im kd bs st cd rg w : Int) : Prop := rdOf f (shp f) w = rd ∧ rnOf f (shp f) w = rn ∧ rmOf f (shp f) w = rm ∧ raOf f (shp f) w = ra ∧ imOf f (shp f) w = im ∧ kdOf f (shp f) w = kd ∧ bsOf f (shp f) w = bs ∧ stOf f (shp f) w = st ∧ cdOf f (shp f) w = cd ∧ rgOf f (shp f) w = rg

theorem told_1 {rd rn rm ra im kd bs st cd rg : Int} (h : (if shp 1 < 17 then narrowB 1 (shp 1) rd rn rm ra im kd bs st cd rg else wideB (shp 1) rd rn rm ra im kd bs st cd rg) = true) : Told 1 rd rn rm ra im kd bs st cd rg (wd 1 rd rn rm ra im kd bs st cd rg) := by
  have hs : shp 1 = 1 := by decide +kernel
  have hb : bts 1 = 0 := by decide +kernel
  unfold Told
  rw [hs] at h ⊢
  exact back_1 rfl (lin_1 h) _ (by unfold wd; rw [hs, hb, add_1])
theorem told_2 {rd rn rm ra im kd bs st cd rg : Int} (h : (if shp 2 < 17 then narrowB 2 (shp 2) rd rn rm ra im kd bs st cd rg else wideB (shp 2) rd rn rm ra im kd bs st cd rg) = true) : Told 2 rd rn rm ra im kd bs st cd rg (wd 2 rd rn rm ra im kd bs st cd rg) := by
  have hs : shp 2 = 1 := by decide +kernel
  have hb : bts 2 = 2048 := by decide +kernel
  unfold Told
  rw [hs] at h ⊢
  exact back_2 rfl (lin_1 h) _ (by unfold wd; rw [hs, hb, add_1])
theorem told_3 {rd rn rm ra im kd bs st cd rg : Int} (h : (if shp 3 < 17 then narrowB 3 (shp 3) rd rn rm ra im kd bs st cd rg else wideB (shp 3) rd rn rm ra im kd bs st cd rg) = true) : Told 3 rd rn rm ra im kd bs st cd rg (wd 3 rd rn rm ra im kd bs st cd rg) := by
  have hs : shp 3 = 1 := by decide +kernel
  have hb : bts 3 = 4096 := by decide +kernel
  unfold Told
  rw [hs] at h ⊢
  exact back_3 rfl (lin_1 h) _ (by unfold wd; rw [hs, hb, add_1])
theorem told_4 {rd rn rm ra im kd bs st cd rg : Int} (h : (if shp 4 < 17 then narrowB 4 (shp 4) rd rn rm ra im kd bs st cd rg else wideB (shp 4) rd rn rm ra im kd bs st cd rg) = true) : Told 4 rd rn rm ra im kd bs st cd rg (wd 4 rd rn rm ra im kd bs st cd rg) := by
  have hs : shp 4 = 2 := by decide +kernel
  have hb : bts 4 = 6144 := by decide +kernel
  unfold Told
  rw [hs] at h ⊢
  exact back_4 rfl (lin_2 h) _ (by unfold wd; rw [hs, hb, add_2])
theorem told_5 {rd rn rm ra im kd bs st cd rg : Int} (h : (if shp 5 < 17 then narrowB 5 (shp 5) rd rn rm ra im kd bs st cd rg else wideB (shp 5) rd rn rm ra im kd bs st cd rg) = true) : Told 5 rd rn rm ra im kd bs st cd rg (wd 5 rd rn rm ra im kd bs st cd rg) := by
  have hs : shp 5 = 2 := by decide +kernel
  have hb : bts 5 = 6656 := by decide +kernel
  unfold Told
  rw [hs] at h ⊢
  exact back_5 rfl (lin_2 h) _ (by unfold wd; rw [hs, hb, add_2])
theorem told_6 {rd rn rm ra im kd bs st cd rg : Int} (h : (if shp 6 < 17 then narrowB 6 (shp 6) rd rn rm ra im kd bs st cd rg else wideB (shp 6) rd rn rm ra im kd bs st cd rg) = true) : Told 6 rd rn rm ra im kd bs st cd rg (wd 6 rd rn rm ra im kd bs st cd rg) := by
  have hs : shp 6 = 3 := by decide +kernel
  have hb : bts 6 = 7168 := by decide +kernel
  unfold Told
  rw [hs] at h ⊢
  exact back_6 rfl (lin_3 h) _ (by unfold wd; rw [hs, hb, add_3])
theorem told_7 {rd rn rm ra im kd bs st cd rg : Int} (h : (if shp 7 < 17 then narrowB 7 (shp 7) rd rn rm ra im kd bs st cd rg else wideB (shp 7) rd rn rm ra im kd bs st cd rg) = true) : Told 7 rd rn rm ra im kd bs st cd rg (wd 7 rd rn rm ra im kd bs st cd rg) := by
  have hs : shp 7 = 3 := by decide +kernel
  have hb : bts 7 = 7680 := by decide +kernel
  unfold Told
  rw [hs] at h ⊢
  exact back_7 rfl (lin_3 h) _ (by unfold wd; rw [hs, hb, add_3])
theorem told_8 {rd rn rm ra im kd bs st cd rg : Int} (h : (if shp 8 < 17 then narrowB 8 (shp 8) rd rn rm ra im kd bs st cd rg else wideB (shp 8) rd rn rm ra im kd bs st cd rg) = true) : Told 8 rd rn rm ra im kd bs st cd rg (wd 8 rd rn rm ra im kd bs st cd rg) := by
  have hs : shp 8 = 4 := by decide +kernel
  have hb : bts 8 = 8192 := by decide +kernel
  unfold Told
  rw [hs] at h ⊢
  exact back_8 rfl (lin_4 h) _ (by unfold wd; rw [hs, hb, add_4])
theorem told_9 {rd rn rm ra im kd bs st cd rg : Int} (h : (if shp 9 < 17 then narrowB 9 (shp 9) rd rn rm ra im kd bs st cd rg else wideB (shp 9) rd rn rm ra im kd bs st cd rg) = true) : Told 9 rd rn rm ra im kd bs st cd rg (wd 9 rd rn rm ra im kd bs st cd rg) := by
  have hs : shp 9 = 4 := by decide +kernel
  have hb : bts 9 = 10240 := by decide +kernel
  unfold Told
  rw [hs] at h ⊢
  exact back_9 rfl (lin_4 h) _ (by unfold wd; rw [hs, hb, add_4])
theorem told_10 {rd rn rm ra im kd bs st cd rg : Int} (h : (if shp 10 < 17 then narrowB 10 (shp 10) rd rn rm ra im kd bs st cd rg else wideB (shp 10) rd rn rm ra im kd bs st cd rg) = true) : Told 10 rd rn rm ra im kd bs st cd rg (wd 10 rd rn rm ra im kd bs st cd rg) := by
  have hs : shp 10 = 4 := by decide +kernel
  have hb : bts 10 = 12288 := by decide +kernel
  unfold Told
  rw [hs] at h ⊢
  exact back_10 rfl (lin_4 h) _ (by unfold wd; rw [hs, hb, add_4])
theorem told_11 {rd rn rm ra im kd bs st cd rg : Int} (h : (if shp 11 < 17 then narrowB 11 (shp 11) rd rn rm ra im kd bs st cd rg else wideB (shp 11) rd rn rm ra im kd bs st cd rg) = true) : Told 11 rd rn rm ra im kd bs st cd rg (wd 11 rd rn rm ra im kd bs st cd rg) := by
  have hs : shp 11 = 4 := by decide +kernel
  have hb : bts 11 = 14336 := by decide +kernel
  unfold Told
  rw [hs] at h ⊢
  exact back_11 rfl (lin_4 h) _ (by unfold wd; rw [hs, hb, add_4])
theorem told_12 {rd rn rm ra im kd bs st cd rg : Int} (h : (if shp 12 < 17 then narrowB 12 (shp 12) rd rn rm ra im kd bs st cd rg else wideB (shp 12) rd rn rm ra im kd bs st cd rg) = true) : Told 12 rd rn rm ra im kd bs st cd rg (wd 12 rd rn rm ra im kd bs st cd rg) := by
  have hs : shp 12 = 5 := by decide +kernel
  have hb : bts 12 = 16384 := by decide +kernel
  unfold Told
  rw [hs] at h ⊢
  exact back_12 rfl (lin_5 h) _ (by unfold wd; rw [hs, hb, add_5])
theorem told_13 {rd rn rm ra im kd bs st cd rg : Int} (h : (if shp 13 < 17 then narrowB 13 (shp 13) rd rn rm ra im kd bs st cd rg else wideB (shp 13) rd rn rm ra im kd bs st cd rg) = true) : Told 13 rd rn rm ra im kd bs st cd rg (wd 13 rd rn rm ra im kd bs st cd rg) := by
  have hs : shp 13 = 5 := by decide +kernel
  have hb : bts 13 = 16448 := by decide +kernel
  unfold Told
  rw [hs] at h ⊢
  exact back_13 rfl (lin_5 h) _ (by unfold wd; rw [hs, hb, add_5])
theorem told_14 {rd rn rm ra im kd bs st cd rg : Int} (h : (if shp 14 < 17 then narrowB 14 (shp 14) rd rn rm ra im kd bs st cd rg else wideB (shp 14) rd rn rm ra im kd bs st cd rg) = true) : Told 14 rd rn rm ra im kd bs st cd rg (wd 14 rd rn rm ra im kd bs st cd rg) := by
  have hs : shp 14 = 5 := by decide +kernel
  have hb : bts 14 = 16512 := by decide +kernel
  unfold Told
  rw [hs] at h ⊢
  exact back_14 rfl (lin_5 h) _ (by unfold wd; rw [hs, hb, add_5])
theorem told_15 {rd rn rm ra im kd bs st cd rg : Int} (h : (if shp 15 < 17 then narrowB 15 (shp 15) rd rn rm ra im kd bs st cd rg else wideB (shp 15) rd rn rm ra im kd bs st cd rg) = true) : Told 15 rd rn rm ra im kd bs st cd rg (wd 15 rd rn rm ra im kd bs st cd rg) := by
  have hs : shp 15 = 5 := by decide +kernel
  have hb : bts 15 = 16576 := by decide +kernel
  unfold Told
  rw [hs] at h ⊢
  exact back_15 rfl (lin_5 h) _ (by unfold wd; rw [hs, hb, add_5])
theorem told_16 {rd rn rm ra im kd bs st cd rg : Int} (h : (if shp 16 < 17 then narrowB 16 (shp 16) rd rn rm ra im kd bs st cd rg else wideB (shp 16) rd rn rm ra im kd bs st cd rg) = true) : Told 16 rd rn rm ra im kd bs st cd rg (wd 16 rd rn rm ra im kd bs st cd rg) := by
  have hs : shp 16 = 5 := by decide +kernel
  have hb : bts 16 = 16640 := by decide +kernel
  unfold Told
  rw [hs] at h ⊢
  exact back_16 rfl (lin_5 h) _ (by unfold wd; rw [hs, hb, add_5])
theorem told_17 {rd rn rm ra im kd bs st cd rg : Int} (h : (if shp 17 < 17 then narrowB 17 (shp 17) rd rn rm ra im kd bs st cd rg else wideB (shp 17) rd rn rm ra im kd bs st cd rg) = true) : Told 17 rd rn rm ra im kd bs st cd rg (wd 17 rd rn rm ra im kd bs st cd rg) := by
  have hs : shp 17 = 5 := by decide +kernel
  have hb : bts 17 = 16704 := by decide +kernel
  unfold Told
  rw [hs] at h ⊢
  exact back_17 rfl (lin_5 h) _ (by unfold wd; rw [hs, hb, add_5])
theorem told_18 {rd rn rm ra im kd bs st cd rg : Int} (h : (if shp 18 < 17 then narrowB 18 (shp 18) rd rn rm ra im kd bs st cd rg else wideB (shp 18) rd rn rm ra im kd bs st cd rg) = true) : Told 18 rd rn rm ra im kd bs st cd rg (wd 18 rd rn rm ra im kd bs st cd rg) := by
  have hs : shp 18 = 5 := by decide +kernel
  have hb : bts 18 = 16768 := by decide +kernel
  unfold Told
  rw [hs] at h ⊢
  exact back_18 rfl (lin_5 h) _ (by unfold wd; rw [hs, hb, add_5])
theorem told_19 {rd rn rm ra im kd bs st cd rg : Int} (h : (if shp 19 < 17 then narrowB 19 (shp 19) rd rn rm ra im kd bs st cd rg else wideB (shp 19) rd rn rm ra im kd bs st cd rg) = true) : Told 19 rd rn rm ra im kd bs st cd rg (wd 19 rd rn rm ra im kd bs st cd rg) := by
  have hs : shp 19 = 5 := by decide +kernel
  have hb : bts 19 = 16832 := by decide +kernel
  unfold Told
  rw [hs] at h ⊢
  exact back_19 rfl (lin_5 h) _ (by unfold wd; rw [hs, hb, add_5])
theorem told_20 {rd rn rm ra im kd bs st cd rg : Int} (h : (if shp 20 < 17 then narrowB 20 (shp 20) rd rn rm ra im kd bs st cd rg else wideB (shp 20) rd rn rm ra im kd bs st cd rg) = true) : Told 20 rd rn rm ra im kd bs st cd rg (wd 20 rd rn rm ra im kd bs st cd rg) := by
  have hs : shp 20 = 5 := by decide +kernel
  have hb : bts 20 = 16896 := by decide +kernel
  unfold Told
  rw [hs] at h ⊢
  exact back_20 rfl (lin_5 h) _ (by unfold wd; rw [hs, hb, add_5])
theorem told_21 {rd rn rm ra im kd bs st cd rg : Int} (h : (if shp 21 < 17 then narrowB 21 (shp 21) rd rn rm ra im kd bs st cd rg else wideB (shp 21) rd rn rm ra im kd bs st cd rg) = true) : Told 21 rd rn rm ra im kd bs st cd rg (wd 21 rd rn rm ra im kd bs st cd rg) := by
  have hs : shp 21 = 5 := by decide +kernel
  have hb : bts 21 = 16960 := by decide +kernel
  unfold Told
  rw [hs] at h ⊢
  exact back_21 rfl (lin_5 h) _ (by unfold wd; rw [hs, hb, add_5])
theorem told_22 {rd rn rm ra im kd bs st cd rg : Int} (h : (if shp 22 < 17 then narrowB 22 (shp 22) rd rn rm ra im kd bs st cd rg else wideB (shp 22) rd rn rm ra im kd bs st cd rg) = true) : Told 22 rd rn rm ra im kd bs st cd rg (wd 22 rd rn rm ra im kd bs st cd rg) := by
  have hs : shp 22 = 5 := by decide +kernel
  have hb : bts 22 = 17024 := by decide +kernel
  unfold Told
  rw [hs] at h ⊢
  exact back_22 rfl (lin_5 h) _ (by unfold wd; rw [hs, hb, add_5])
theorem told_23 {rd rn rm ra im kd bs st cd rg : Int} (h : (if shp 23 < 17 then narrowB 23 (shp 23) rd rn rm ra im kd bs st cd rg else wideB (shp 23) rd rn rm ra im kd bs st cd rg) = true) : Told 23 rd rn rm ra im kd bs st cd rg (wd 23 rd rn rm ra im kd bs st cd rg) := by
  have hs : shp 23 = 5 := by decide +kernel
  have hb : bts 23 = 17088 := by decide +kernel
  unfold Told
  rw [hs] at h ⊢
  exact back_23 rfl (lin_5 h) _ (by unfold wd; rw [hs, hb, add_5])
theorem told_24 {rd rn rm ra im kd bs st cd rg : Int} (h : (if shp 24 < 17 then narrowB 24 (shp 24) rd rn rm ra im kd bs st cd rg else wideB (shp 24) rd rn rm ra im kd bs st cd rg) = true) : Told 24 rd rn rm ra im kd bs st cd rg (wd 24 rd rn rm ra im kd bs st cd rg) := by
  have hs : shp 24 = 5 := by decide +kernel
  have hb : bts 24 = 17152 := by decide +kernel
  unfold Told
  rw [hs] at h ⊢
  exact back_24 rfl (lin_5 h) _ (by unfold wd; rw [hs, hb, add_5])
theorem told_25 {rd rn rm ra im kd bs st cd rg : Int} (h : (if shp 25 < 17 then narrowB 25 (shp 25) rd rn rm ra im kd bs st cd rg else wideB (shp 25) rd rn rm ra im kd bs st cd rg) = true) : Told 25 rd rn rm ra im kd bs st cd rg (wd 25 rd rn rm ra im kd bs st cd rg) := by
  have hs : shp 25 = 5 := by decide +kernel
  have hb : bts 25 = 17216 := by decide +kernel
  unfold Told
  rw [hs] at h ⊢
  exact back_25 rfl (lin_5 h) _ (by unfold wd; rw [hs, hb, add_5])
theorem told_26 {rd rn rm ra im kd bs st cd rg : Int} (h : (if shp 26 < 17 then narrowB 26 (shp 26) rd rn rm ra im kd bs st cd rg else wideB (shp 26) rd rn rm ra im kd bs st cd rg) = true) : Told 26 rd rn rm ra im kd bs st cd rg (wd 26 rd rn rm ra im kd bs st cd rg) := by
  have hs : shp 26 = 5 := by decide +kernel
  have hb : bts 26 = 17280 := by decide +kernel
  unfold Told
  rw [hs] at h ⊢
  exact back_26 rfl (lin_5 h) _ (by unfold wd; rw [hs, hb, add_5])
theorem told_27 {rd rn rm ra im kd bs st cd rg : Int} (h : (if shp 27 < 17 then narrowB 27 (shp 27) rd rn rm ra im kd bs st cd rg else wideB (shp 27) rd rn rm ra im kd bs st cd rg) = true) : Told 27 rd rn rm ra im kd bs st cd rg (wd 27 rd rn rm ra im kd bs st cd rg) := by
  have hs : shp 27 = 5 := by decide +kernel
  have hb : bts 27 = 17344 := by decide +kernel
  unfold Told
  rw [hs] at h ⊢
  exact back_27 rfl (lin_5 h) _ (by unfold wd; rw [hs, hb, add_5])
theorem told_28 {rd rn rm ra im kd bs st cd rg : Int} (h : (if shp 28 < 17 then narrowB 28 (shp 28) rd rn rm ra im kd bs st cd rg else wideB (shp 28) rd rn rm ra im kd bs st cd rg) = true) : Told 28 rd rn rm ra im kd bs st cd rg (wd 28 rd rn rm ra im kd bs st cd rg) := by
  have hs : shp 28 = 6 := by decide +kernel
  have hb : bts 28 = 17408 := by decide +kernel
  unfold Told
  rw [hs] at h ⊢
  exact back_28 rfl (lin_6 h) _ (by unfold wd; rw [hs, hb, add_6])
theorem told_29 {rd rn rm ra im kd bs st cd rg : Int} (h : (if shp 29 < 17 then narrowB 29 (shp 29) rd rn rm ra im kd bs st cd rg else wideB (shp 29) rd rn rm ra im kd bs st cd rg) = true) : Told 29 rd rn rm ra im kd bs st cd rg (wd 29 rd rn rm ra im kd bs st cd rg) := by
  have hs : shp 29 = 6 := by decide +kernel
  have hb : bts 29 = 17664 := by decide +kernel
  unfold Told
  rw [hs] at h ⊢
  exact back_29 rfl (lin_6 h) _ (by unfold wd; rw [hs, hb, add_6])
theorem told_30 {rd rn rm ra im kd bs st cd rg : Int} (h : (if shp 30 < 17 then narrowB 30 (shp 30) rd rn rm ra im kd bs st cd rg else wideB (shp 30) rd rn rm ra im kd bs st cd rg) = true) : Told 30 rd rn rm ra im kd bs st cd rg (wd 30 rd rn rm ra im kd bs st cd rg) := by
  have hs : shp 30 = 6 := by decide +kernel
  have hb : bts 30 = 17920 := by decide +kernel
  unfold Told
  rw [hs] at h ⊢
  exact back_30 rfl (lin_6 h) _ (by unfold wd; rw [hs, hb, add_6])
theorem told_31 {rd rn rm ra im kd bs st cd rg : Int} (h : (if shp 31 < 17 then narrowB 31 (shp 31) rd rn rm ra im kd bs st cd rg else wideB (shp 31) rd rn rm ra im kd bs st cd rg) = true) : Told 31 rd rn rm ra im kd bs st cd rg (wd 31 rd rn rm ra im kd bs st cd rg) := by
  have hs : shp 31 = 7 := by decide +kernel
  have hb : bts 31 = 18176 := by decide +kernel
  unfold Told
  rw [hs] at h ⊢
  exact back_31 rfl (lin_7 h) _ (by unfold wd; rw [hs, hb, add_7])
theorem told_32 {rd rn rm ra im kd bs st cd rg : Int} (h : (if shp 32 < 17 then narrowB 32 (shp 32) rd rn rm ra im kd bs st cd rg else wideB (shp 32) rd rn rm ra im kd bs st cd rg) = true) : Told 32 rd rn rm ra im kd bs st cd rg (wd 32 rd rn rm ra im kd bs st cd rg) := by
  have hs : shp 32 = 8 := by decide +kernel
  have hb : bts 32 = 18432 := by decide +kernel
  unfold Told
  rw [hs] at h ⊢
  exact back_32 rfl (lin_8 h) _ (by unfold wd; rw [hs, hb, add_8])
theorem told_33 {rd rn rm ra im kd bs st cd rg : Int} (h : (if shp 33 < 17 then narrowB 33 (shp 33) rd rn rm ra im kd bs st cd rg else wideB (shp 33) rd rn rm ra im kd bs st cd rg) = true) : Told 33 rd rn rm ra im kd bs st cd rg (wd 33 rd rn rm ra im kd bs st cd rg) := by
  have hs : shp 33 = 2 := by decide +kernel
  have hb : bts 33 = 20480 := by decide +kernel
  unfold Told
  rw [hs] at h ⊢
  exact back_33 rfl (lin_2 h) _ (by unfold wd; rw [hs, hb, add_2])
theorem told_34 {rd rn rm ra im kd bs st cd rg : Int} (h : (if shp 34 < 17 then narrowB 34 (shp 34) rd rn rm ra im kd bs st cd rg else wideB (shp 34) rd rn rm ra im kd bs st cd rg) = true) : Told 34 rd rn rm ra im kd bs st cd rg (wd 34 rd rn rm ra im kd bs st cd rg) := by
  have hs : shp 34 = 2 := by decide +kernel
  have hb : bts 34 = 22528 := by decide +kernel
  unfold Told
  rw [hs] at h ⊢
  exact back_34 rfl (lin_2 h) _ (by unfold wd; rw [hs, hb, add_2])
theorem told_35 {rd rn rm ra im kd bs st cd rg : Int} (h : (if shp 35 < 17 then narrowB 35 (shp 35) rd rn rm ra im kd bs st cd rg else wideB (shp 35) rd rn rm ra im kd bs st cd rg) = true) : Told 35 rd rn rm ra im kd bs st cd rg (wd 35 rd rn rm ra im kd bs st cd rg) := by
  have hs : shp 35 = 9 := by decide +kernel
  have hb : bts 35 = 24576 := by decide +kernel
  unfold Told
  rw [hs] at h ⊢
  exact back_35 rfl (lin_9 h) _ (by unfold wd; rw [hs, hb, add_9])
theorem told_36 {rd rn rm ra im kd bs st cd rg : Int} (h : (if shp 36 < 17 then narrowB 36 (shp 36) rd rn rm ra im kd bs st cd rg else wideB (shp 36) rd rn rm ra im kd bs st cd rg) = true) : Told 36 rd rn rm ra im kd bs st cd rg (wd 36 rd rn rm ra im kd bs st cd rg) := by
  have hs : shp 36 = 9 := by decide +kernel
  have hb : bts 36 = 26624 := by decide +kernel
  unfold Told
  rw [hs] at h ⊢
  exact back_36 rfl (lin_9 h) _ (by unfold wd; rw [hs, hb, add_9])
theorem told_37 {rd rn rm ra im kd bs st cd rg : Int} (h : (if shp 37 < 17 then narrowB 37 (shp 37) rd rn rm ra im kd bs st cd rg else wideB (shp 37) rd rn rm ra im kd bs st cd rg) = true) : Told 37 rd rn rm ra im kd bs st cd rg (wd 37 rd rn rm ra im kd bs st cd rg) := by
  have hs : shp 37 = 8 := by decide +kernel
  have hb : bts 37 = 36864 := by decide +kernel
  unfold Told
  rw [hs] at h ⊢
  exact back_37 rfl (lin_8 h) _ (by unfold wd; rw [hs, hb, add_8])
theorem told_38 {rd rn rm ra im kd bs st cd rg : Int} (h : (if shp 38 < 17 then narrowB 38 (shp 38) rd rn rm ra im kd bs st cd rg else wideB (shp 38) rd rn rm ra im kd bs st cd rg) = true) : Told 38 rd rn rm ra im kd bs st cd rg (wd 38 rd rn rm ra im kd bs st cd rg) := by
  have hs : shp 38 = 8 := by decide +kernel
  have hb : bts 38 = 38912 := by decide +kernel
  unfold Told
  rw [hs] at h ⊢
  exact back_38 rfl (lin_8 h) _ (by unfold wd; rw [hs, hb, add_8])
theorem told_39 {rd rn rm ra im kd bs st cd rg : Int} (h : (if shp 39 < 17 then narrowB 39 (shp 39) rd rn rm ra im kd bs st cd rg else wideB (shp 39) rd rn rm ra im kd bs st cd rg) = true) : Told 39 rd rn rm ra im kd bs st cd rg (wd 39 rd rn rm ra im kd bs st cd rg) := by
  have hs : shp 39 = 8 := by decide +kernel
  have hb : bts 39 = 43008 := by decide +kernel
  unfold Told
  rw [hs] at h ⊢
  exact back_39 rfl (lin_8 h) _ (by unfold wd; rw [hs, hb, add_8])
theorem told_40 {rd rn rm ra im kd bs st cd rg : Int} (h : (if shp 40 < 17 then narrowB 40 (shp 40) rd rn rm ra im kd bs st cd rg else wideB (shp 40) rd rn rm ra im kd bs st cd rg) = true) : Told 40 rd rn rm ra im kd bs st cd rg (wd 40 rd rn rm ra im kd bs st cd rg) := by
  have hs : shp 40 = 10 := by decide +kernel
  have hb : bts 40 = 45056 := by decide +kernel
  unfold Told
  rw [hs] at h ⊢
  exact back_40 rfl (lin_10 h) _ (by unfold wd; rw [hs, hb, add_10])
theorem told_41 {rd rn rm ra im kd bs st cd rg : Int} (h : (if shp 41 < 17 then narrowB 41 (shp 41) rd rn rm ra im kd bs st cd rg else wideB (shp 41) rd rn rm ra im kd bs st cd rg) = true) : Told 41 rd rn rm ra im kd bs st cd rg (wd 41 rd rn rm ra im kd bs st cd rg) := by
  have hs : shp 41 = 10 := by decide +kernel
  have hb : bts 41 = 45184 := by decide +kernel
  unfold Told
  rw [hs] at h ⊢
  exact back_41 rfl (lin_10 h) _ (by unfold wd; rw [hs, hb, add_10])
theorem told_42 {rd rn rm ra im kd bs st cd rg : Int} (h : (if shp 42 < 17 then narrowB 42 (shp 42) rd rn rm ra im kd bs st cd rg else wideB (shp 42) rd rn rm ra im kd bs st cd rg) = true) : Told 42 rd rn rm ra im kd bs st cd rg (wd 42 rd rn rm ra im kd bs st cd rg) := by
  have hs : shp 42 = 11 := by decide +kernel
  have hb : bts 42 = 46080 := by decide +kernel
  unfold Told
  rw [hs] at h ⊢
  exact back_42 rfl (lin_11 h) _ (by unfold wd; rw [hs, hb, add_11])
theorem told_43 {rd rn rm ra im kd bs st cd rg : Int} (h : (if shp 43 < 17 then narrowB 43 (shp 43) rd rn rm ra im kd bs st cd rg else wideB (shp 43) rd rn rm ra im kd bs st cd rg) = true) : Told 43 rd rn rm ra im kd bs st cd rg (wd 43 rd rn rm ra im kd bs st cd rg) := by
  have hs : shp 43 = 12 := by decide +kernel
  have hb : bts 43 = 48128 := by decide +kernel
  unfold Told
  rw [hs] at h ⊢
  exact back_43 rfl (lin_12 h) _ (by unfold wd; rw [hs, hb, add_12])
theorem told_44 {rd rn rm ra im kd bs st cd rg : Int} (h : (if shp 44 < 17 then narrowB 44 (shp 44) rd rn rm ra im kd bs st cd rg else wideB (shp 44) rd rn rm ra im kd bs st cd rg) = true) : Told 44 rd rn rm ra im kd bs st cd rg (wd 44 rd rn rm ra im kd bs st cd rg) := by
  have hs : shp 44 = 13 := by decide +kernel
  have hb : bts 44 = 48896 := by decide +kernel
  unfold Told
  rw [hs] at h ⊢
  exact back_44 rfl (lin_13 h) _ (by unfold wd; rw [hs, hb, add_13])
theorem told_45 {rd rn rm ra im kd bs st cd rg : Int} (h : (if shp 45 < 17 then narrowB 45 (shp 45) rd rn rm ra im kd bs st cd rg else wideB (shp 45) rd rn rm ra im kd bs st cd rg) = true) : Told 45 rd rn rm ra im kd bs st cd rg (wd 45 rd rn rm ra im kd bs st cd rg) := by
  have hs : shp 45 = 14 := by decide +kernel
  have hb : bts 45 = 48640 := by decide +kernel
  unfold Told
  rw [hs] at h ⊢
  exact back_45 rfl (lin_14 h) _ (by unfold wd; rw [hs, hb, add_14])
theorem told_46 {rd rn rm ra im kd bs st cd rg : Int} (h : (if shp 46 < 17 then narrowB 46 (shp 46) rd rn rm ra im kd bs st cd rg else wideB (shp 46) rd rn rm ra im kd bs st cd rg) = true) : Told 46 rd rn rm ra im kd bs st cd rg (wd 46 rd rn rm ra im kd bs st cd rg) := by
  have hs : shp 46 = 15 := by decide +kernel
  have hb : bts 46 = 53248 := by decide +kernel
  unfold Told
  rw [hs] at h ⊢
  exact back_46 rfl (lin_15 h) _ (by unfold wd; rw [hs, hb, add_15])
theorem told_47 {rd rn rm ra im kd bs st cd rg : Int} (h : (if shp 47 < 17 then narrowB 47 (shp 47) rd rn rm ra im kd bs st cd rg else wideB (shp 47) rd rn rm ra im kd bs st cd rg) = true) : Told 47 rd rn rm ra im kd bs st cd rg (wd 47 rd rn rm ra im kd bs st cd rg) := by
  have hs : shp 47 = 16 := by decide +kernel
  have hb : bts 47 = 57344 := by decide +kernel
  unfold Told
  rw [hs] at h ⊢
  exact back_47 rfl (lin_16 h) _ (by unfold wd; rw [hs, hb, add_16])
theorem told_48 {rd rn rm ra im kd bs st cd rg : Int} (h : (if shp 48 < 17 then narrowB 48 (shp 48) rd rn rm ra im kd bs st cd rg else wideB (shp 48) rd rn rm ra im kd bs st cd rg) = true) : Told 48 rd rn rm ra im kd bs st cd rg (wd 48 rd rn rm ra im kd bs st cd rg) := by
  have hs : shp 48 = 17 := by decide +kernel
  have hb : bts 48 = 4064280576 := by decide +kernel
  unfold Told
  rw [hs] at h ⊢
  exact back_48 rfl (lin_17 h) _ (by unfold wd; rw [hs, hb, add_17])
theorem told_49 {rd rn rm ra im kd bs st cd rg : Int} (h : (if shp 49 < 17 then narrowB 49 (shp 49) rd rn rm ra im kd bs st cd rg else wideB (shp 49) rd rn rm ra im kd bs st cd rg) = true) : Told 49 rd rn rm ra im kd bs st cd rg (wd 49 rd rn rm ra im kd bs st cd rg) := by
  have hs : shp 49 = 17 := by decide +kernel
  have hb : bts 49 = 4072669184 := by decide +kernel
  unfold Told
  rw [hs] at h ⊢
  exact back_49 rfl (lin_17 h) _ (by unfold wd; rw [hs, hb, add_17])
theorem told_50 {rd rn rm ra im kd bs st cd rg : Int} (h : (if shp 50 < 17 then narrowB 50 (shp 50) rd rn rm ra im kd bs st cd rg else wideB (shp 50) rd rn rm ra im kd bs st cd rg) = true) : Told 50 rd rn rm ra im kd bs st cd rg (wd 50 rd rn rm ra im kd bs st cd rg) := by
  have hs : shp 50 = 18 := by decide +kernel
  have hb : bts 50 = 4026531840 := by decide +kernel
  unfold Told
  rw [hs] at h ⊢
  exact back_50 rfl (lin_18 h) _ (by unfold wd; rw [hs, hb, add_18])
theorem told_51 {rd rn rm ra im kd bs st cd rg : Int} (h : (if shp 51 < 17 then narrowB 51 (shp 51) rd rn rm ra im kd bs st cd rg else wideB (shp 51) rd rn rm ra im kd bs st cd rg) = true) : Told 51 rd rn rm ra im kd bs st cd rg (wd 51 rd rn rm ra im kd bs st cd rg) := by
  have hs : shp 51 = 18 := by decide +kernel
  have hb : bts 51 = 4028628992 := by decide +kernel
  unfold Told
  rw [hs] at h ⊢
  exact back_51 rfl (lin_18 h) _ (by unfold wd; rw [hs, hb, add_18])
theorem told_52 {rd rn rm ra im kd bs st cd rg : Int} (h : (if shp 52 < 17 then narrowB 52 (shp 52) rd rn rm ra im kd bs st cd rg else wideB (shp 52) rd rn rm ra im kd bs st cd rg) = true) : Told 52 rd rn rm ra im kd bs st cd rg (wd 52 rd rn rm ra im kd bs st cd rg) := by
  have hs : shp 52 = 18 := by decide +kernel
  have hb : bts 52 = 4030726144 := by decide +kernel
  unfold Told
  rw [hs] at h ⊢
  exact back_52 rfl (lin_18 h) _ (by unfold wd; rw [hs, hb, add_18])
theorem told_53 {rd rn rm ra im kd bs st cd rg : Int} (h : (if shp 53 < 17 then narrowB 53 (shp 53) rd rn rm ra im kd bs st cd rg else wideB (shp 53) rd rn rm ra im kd bs st cd rg) = true) : Told 53 rd rn rm ra im kd bs st cd rg (wd 53 rd rn rm ra im kd bs st cd rg) := by
  have hs : shp 53 = 18 := by decide +kernel
  have hb : bts 53 = 4032823296 := by decide +kernel
  unfold Told
  rw [hs] at h ⊢
  exact back_53 rfl (lin_18 h) _ (by unfold wd; rw [hs, hb, add_18])
theorem told_54 {rd rn rm ra im kd bs st cd rg : Int} (h : (if shp 54 < 17 then narrowB 54 (shp 54) rd rn rm ra im kd bs st cd rg else wideB (shp 54) rd rn rm ra im kd bs st cd rg) = true) : Told 54 rd rn rm ra im kd bs st cd rg (wd 54 rd rn rm ra im kd bs st cd rg) := by
  have hs : shp 54 = 18 := by decide +kernel
  have hb : bts 54 = 4034920448 := by decide +kernel
  unfold Told
  rw [hs] at h ⊢
  exact back_54 rfl (lin_18 h) _ (by unfold wd; rw [hs, hb, add_18])
theorem told_55 {rd rn rm ra im kd bs st cd rg : Int} (h : (if shp 55 < 17 then narrowB 55 (shp 55) rd rn rm ra im kd bs st cd rg else wideB (shp 55) rd rn rm ra im kd bs st cd rg) = true) : Told 55 rd rn rm ra im kd bs st cd rg (wd 55 rd rn rm ra im kd bs st cd rg) := by
  have hs : shp 55 = 18 := by decide +kernel
  have hb : bts 55 = 4043309056 := by decide +kernel
  unfold Told
  rw [hs] at h ⊢
  exact back_55 rfl (lin_18 h) _ (by unfold wd; rw [hs, hb, add_18])
theorem told_56 {rd rn rm ra im kd bs st cd rg : Int} (h : (if shp 56 < 17 then narrowB 56 (shp 56) rd rn rm ra im kd bs st cd rg else wideB (shp 56) rd rn rm ra im kd bs st cd rg) = true) : Told 56 rd rn rm ra im kd bs st cd rg (wd 56 rd rn rm ra im kd bs st cd rg) := by
  have hs : shp 56 = 18 := by decide +kernel
  have hb : bts 56 = 4047503360 := by decide +kernel
  unfold Told
  rw [hs] at h ⊢
  exact back_56 rfl (lin_18 h) _ (by unfold wd; rw [hs, hb, add_18])
theorem told_57 {rd rn rm ra im kd bs st cd rg : Int} (h : (if shp 57 < 17 then narrowB 57 (shp 57) rd rn rm ra im kd bs st cd rg else wideB (shp 57) rd rn rm ra im kd bs st cd rg) = true) : Told 57 rd rn rm ra im kd bs st cd rg (wd 57 rd rn rm ra im kd bs st cd rg) := by
  have hs : shp 57 = 18 := by decide +kernel
  have hb : bts 57 = 4049600512 := by decide +kernel
  unfold Told
  rw [hs] at h ⊢
  exact back_57 rfl (lin_18 h) _ (by unfold wd; rw [hs, hb, add_18])
theorem told_58 {rd rn rm ra im kd bs st cd rg : Int} (h : (if shp 58 < 17 then narrowB 58 (shp 58) rd rn rm ra im kd bs st cd rg else wideB (shp 58) rd rn rm ra im kd bs st cd rg) = true) : Told 58 rd rn rm ra im kd bs st cd rg (wd 58 rd rn rm ra im kd bs st cd rg) := by
  have hs : shp 58 = 18 := by decide +kernel
  have hb : bts 58 = 4053794816 := by decide +kernel
  unfold Told
  rw [hs] at h ⊢
  exact back_58 rfl (lin_18 h) _ (by unfold wd; rw [hs, hb, add_18])
theorem told_59 {rd rn rm ra im kd bs st cd rg : Int} (h : (if shp 59 < 17 then narrowB 59 (shp 59) rd rn rm ra im kd bs st cd rg else wideB (shp 59) rd rn rm ra im kd bs st cd rg) = true) : Told 59 rd rn rm ra im kd bs st cd rg (wd 59 rd rn rm ra im kd bs st cd rg) := by
  have hs : shp 59 = 18 := by decide +kernel
  have hb : bts 59 = 4055891968 := by decide +kernel
  unfold Told
  rw [hs] at h ⊢
  exact back_59 rfl (lin_18 h) _ (by unfold wd; rw [hs, hb, add_18])
theorem told_60 {rd rn rm ra im kd bs st cd rg : Int} (h : (if shp 60 < 17 then narrowB 60 (shp 60) rd rn rm ra im kd bs st cd rg else wideB (shp 60) rd rn rm ra im kd bs st cd rg) = true) : Told 60 rd rn rm ra im kd bs st cd rg (wd 60 rd rn rm ra im kd bs st cd rg) := by
  have hs : shp 60 = 19 := by decide +kernel
  have hb : bts 60 = 4031709184 := by decide +kernel
  unfold Told
  rw [hs] at h ⊢
  exact back_60 rfl (lin_19 h) _ (by unfold wd; rw [hs, hb, add_19])
theorem told_61 {rd rn rm ra im kd bs st cd rg : Int} (h : (if shp 61 < 17 then narrowB 61 (shp 61) rd rn rm ra im kd bs st cd rg else wideB (shp 61) rd rn rm ra im kd bs st cd rg) = true) : Told 61 rd rn rm ra im kd bs st cd rg (wd 61 rd rn rm ra im kd bs st cd rg) := by
  have hs : shp 61 = 19 := by decide +kernel
  have hb : bts 61 = 4033806336 := by decide +kernel
  unfold Told
  rw [hs] at h ⊢
  exact back_61 rfl (lin_19 h) _ (by unfold wd; rw [hs, hb, add_19])
theorem told_62 {rd rn rm ra im kd bs st cd rg : Int} (h : (if shp 62 < 17 then narrowB 62 (shp 62) rd rn rm ra im kd bs st cd rg else wideB (shp 62) rd rn rm ra im kd bs st cd rg) = true) : Told 62 rd rn rm ra im kd bs st cd rg (wd 62 rd rn rm ra im kd bs st cd rg) := by
  have hs : shp 62 = 20 := by decide +kernel
  have hb : bts 62 = 4027584256 := by decide +kernel
  unfold Told
  rw [hs] at h ⊢
  exact back_62 rfl (lin_20 h) _ (by unfold wd; rw [hs, hb, add_20])
theorem told_63 {rd rn rm ra im kd bs st cd rg : Int} (h : (if shp 63 < 17 then narrowB 63 (shp 63) rd rn rm ra im kd bs st cd rg else wideB (shp 63) rd rn rm ra im kd bs st cd rg) = true) : Told 63 rd rn rm ra im kd bs st cd rg (wd 63 rd rn rm ra im kd bs st cd rg) := by
  have hs : shp 63 = 20 := by decide +kernel
  have hb : bts 63 = 4035972864 := by decide +kernel
  unfold Told
  rw [hs] at h ⊢
  exact back_63 rfl (lin_20 h) _ (by unfold wd; rw [hs, hb, add_20])
theorem told_64 {rd rn rm ra im kd bs st cd rg : Int} (h : (if shp 64 < 17 then narrowB 64 (shp 64) rd rn rm ra im kd bs st cd rg else wideB (shp 64) rd rn rm ra im kd bs st cd rg) = true) : Told 64 rd rn rm ra im kd bs st cd rg (wd 64 rd rn rm ra im kd bs st cd rg) := by
  have hs : shp 64 = 20 := by decide +kernel
  have hb : bts 64 = 4044361472 := by decide +kernel
  unfold Told
  rw [hs] at h ⊢
  exact back_64 rfl (lin_20 h) _ (by unfold wd; rw [hs, hb, add_20])
theorem told_65 {rd rn rm ra im kd bs st cd rg : Int} (h : (if shp 65 < 17 then narrowB 65 (shp 65) rd rn rm ra im kd bs st cd rg else wideB (shp 65) rd rn rm ra im kd bs st cd rg) = true) : Told 65 rd rn rm ra im kd bs st cd rg (wd 65 rd rn rm ra im kd bs st cd rg) := by
  have hs : shp 65 = 20 := by decide +kernel
  have hb : bts 65 = 4054847232 := by decide +kernel
  unfold Told
  rw [hs] at h ⊢
  exact back_65 rfl (lin_20 h) _ (by unfold wd; rw [hs, hb, add_20])
theorem told_66 {rd rn rm ra im kd bs st cd rg : Int} (h : (if shp 66 < 17 then narrowB 66 (shp 66) rd rn rm ra im kd bs st cd rg else wideB (shp 66) rd rn rm ra im kd bs st cd rg) = true) : Told 66 rd rn rm ra im kd bs st cd rg (wd 66 rd rn rm ra im kd bs st cd rg) := by
  have hs : shp 66 = 21 := by decide +kernel
  have hb : bts 66 = 3925868544 := by decide +kernel
  unfold Told
  rw [hs] at h ⊢
  exact back_66 rfl (lin_21 h) _ (by unfold wd; rw [hs, hb, add_21])
theorem told_67 {rd rn rm ra im kd bs st cd rg : Int} (h : (if shp 67 < 17 then narrowB 67 (shp 67) rd rn rm ra im kd bs st cd rg else wideB (shp 67) rd rn rm ra im kd bs st cd rg) = true) : Told 67 rd rn rm ra im kd bs st cd rg (wd 67 rd rn rm ra im kd bs st cd rg) := by
  have hs : shp 67 = 21 := by decide +kernel
  have hb : bts 67 = 3927965696 := by decide +kernel
  unfold Told
  rw [hs] at h ⊢
  exact back_67 rfl (lin_21 h) _ (by unfold wd; rw [hs, hb, add_21])
theorem told_68 {rd rn rm ra im kd bs st cd rg : Int} (h : (if shp 68 < 17 then narrowB 68 (shp 68) rd rn rm ra im kd bs st cd rg else wideB (shp 68) rd rn rm ra im kd bs st cd rg) = true) : Told 68 rd rn rm ra im kd bs st cd rg (wd 68 rd rn rm ra im kd bs st cd rg) := by
  have hs : shp 68 = 21 := by decide +kernel
  have hb : bts 68 = 3930062848 := by decide +kernel
  unfold Told
  rw [hs] at h ⊢
  exact back_68 rfl (lin_21 h) _ (by unfold wd; rw [hs, hb, add_21])
theorem told_69 {rd rn rm ra im kd bs st cd rg : Int} (h : (if shp 69 < 17 then narrowB 69 (shp 69) rd rn rm ra im kd bs st cd rg else wideB (shp 69) rd rn rm ra im kd bs st cd rg) = true) : Told 69 rd rn rm ra im kd bs st cd rg (wd 69 rd rn rm ra im kd bs st cd rg) := by
  have hs : shp 69 = 21 := by decide +kernel
  have hb : bts 69 = 3932160000 := by decide +kernel
  unfold Told
  rw [hs] at h ⊢
  exact back_69 rfl (lin_21 h) _ (by unfold wd; rw [hs, hb, add_21])
theorem told_70 {rd rn rm ra im kd bs st cd rg : Int} (h : (if shp 70 < 17 then narrowB 70 (shp 70) rd rn rm ra im kd bs st cd rg else wideB (shp 70) rd rn rm ra im kd bs st cd rg) = true) : Told 70 rd rn rm ra im kd bs st cd rg (wd 70 rd rn rm ra im kd bs st cd rg) := by
  have hs : shp 70 = 21 := by decide +kernel
  have hb : bts 70 = 3934257152 := by decide +kernel
  unfold Told
  rw [hs] at h ⊢
  exact back_70 rfl (lin_21 h) _ (by unfold wd; rw [hs, hb, add_21])
theorem told_71 {rd rn rm ra im kd bs st cd rg : Int} (h : (if shp 71 < 17 then narrowB 71 (shp 71) rd rn rm ra im kd bs st cd rg else wideB (shp 71) rd rn rm ra im kd bs st cd rg) = true) : Told 71 rd rn rm ra im kd bs st cd rg (wd 71 rd rn rm ra im kd bs st cd rg) := by
  have hs : shp 71 = 21 := by decide +kernel
  have hb : bts 71 = 3942645760 := by decide +kernel
  unfold Told
  rw [hs] at h ⊢
  exact back_71 rfl (lin_21 h) _ (by unfold wd; rw [hs, hb, add_21])
theorem told_72 {rd rn rm ra im kd bs st cd rg : Int} (h : (if shp 72 < 17 then narrowB 72 (shp 72) rd rn rm ra im kd bs st cd rg else wideB (shp 72) rd rn rm ra im kd bs st cd rg) = true) : Told 72 rd rn rm ra im kd bs st cd rg (wd 72 rd rn rm ra im kd bs st cd rg) := by
  have hs : shp 72 = 21 := by decide +kernel
  have hb : bts 72 = 3946840064 := by decide +kernel
  unfold Told
  rw [hs] at h ⊢
  exact back_72 rfl (lin_21 h) _ (by unfold wd; rw [hs, hb, add_21])
theorem told_73 {rd rn rm ra im kd bs st cd rg : Int} (h : (if shp 73 < 17 then narrowB 73 (shp 73) rd rn rm ra im kd bs st cd rg else wideB (shp 73) rd rn rm ra im kd bs st cd rg) = true) : Told 73 rd rn rm ra im kd bs st cd rg (wd 73 rd rn rm ra im kd bs st cd rg) := by
  have hs : shp 73 = 21 := by decide +kernel
  have hb : bts 73 = 3948937216 := by decide +kernel
  unfold Told
  rw [hs] at h ⊢
  exact back_73 rfl (lin_21 h) _ (by unfold wd; rw [hs, hb, add_21])
theorem told_74 {rd rn rm ra im kd bs st cd rg : Int} (h : (if shp 74 < 17 then narrowB 74 (shp 74) rd rn rm ra im kd bs st cd rg else wideB (shp 74) rd rn rm ra im kd bs st cd rg) = true) : Told 74 rd rn rm ra im kd bs st cd rg (wd 74 rd rn rm ra im kd bs st cd rg) := by
  have hs : shp 74 = 21 := by decide +kernel
  have hb : bts 74 = 3953131520 := by decide +kernel
  unfold Told
  rw [hs] at h ⊢
  exact back_74 rfl (lin_21 h) _ (by unfold wd; rw [hs, hb, add_21])
theorem told_75 {rd rn rm ra im kd bs st cd rg : Int} (h : (if shp 75 < 17 then narrowB 75 (shp 75) rd rn rm ra im kd bs st cd rg else wideB (shp 75) rd rn rm ra im kd bs st cd rg) = true) : Told 75 rd rn rm ra im kd bs st cd rg (wd 75 rd rn rm ra im kd bs st cd rg) := by
  have hs : shp 75 = 21 := by decide +kernel
  have hb : bts 75 = 3955228672 := by decide +kernel
  unfold Told
  rw [hs] at h ⊢
  exact back_75 rfl (lin_21 h) _ (by unfold wd; rw [hs, hb, add_21])
theorem told_76 {rd rn rm ra im kd bs st cd rg : Int} (h : (if shp 76 < 17 then narrowB 76 (shp 76) rd rn rm ra im kd bs st cd rg else wideB (shp 76) rd rn rm ra im kd bs st cd rg) = true) : Told 76 rd rn rm ra im kd bs st cd rg (wd 76 rd rn rm ra im kd bs st cd rg) := by
  have hs : shp 76 = 22 := by decide +kernel
  have hb : bts 76 = 3931045888 := by decide +kernel
  unfold Told
  rw [hs] at h ⊢
  exact back_76 rfl (lin_22 h) _ (by unfold wd; rw [hs, hb, add_22])
theorem told_77 {rd rn rm ra im kd bs st cd rg : Int} (h : (if shp 77 < 17 then narrowB 77 (shp 77) rd rn rm ra im kd bs st cd rg else wideB (shp 77) rd rn rm ra im kd bs st cd rg) = true) : Told 77 rd rn rm ra im kd bs st cd rg (wd 77 rd rn rm ra im kd bs st cd rg) := by
  have hs : shp 77 = 22 := by decide +kernel
  have hb : bts 77 = 3933143040 := by decide +kernel
  unfold Told
  rw [hs] at h ⊢
  exact back_77 rfl (lin_22 h) _ (by unfold wd; rw [hs, hb, add_22])
theorem told_78 {rd rn rm ra im kd bs st cd rg : Int} (h : (if shp 78 < 17 then narrowB 78 (shp 78) rd rn rm ra im kd bs st cd rg else wideB (shp 78) rd rn rm ra im kd bs st cd rg) = true) : Told 78 rd rn rm ra im kd bs st cd rg (wd 78 rd rn rm ra im kd bs st cd rg) := by
  have hs : shp 78 = 23 := by decide +kernel
  have hb : bts 78 = 3926920960 := by decide +kernel
  unfold Told
  rw [hs] at h ⊢
  exact back_78 rfl (lin_23 h) _ (by unfold wd; rw [hs, hb, add_23])
theorem told_79 {rd rn rm ra im kd bs st cd rg : Int} (h : (if shp 79 < 17 then narrowB 79 (shp 79) rd rn rm ra im kd bs st cd rg else wideB (shp 79) rd rn rm ra im kd bs st cd rg) = true) : Told 79 rd rn rm ra im kd bs st cd rg (wd 79 rd rn rm ra im kd bs st cd rg) := by
  have hs : shp 79 = 23 := by decide +kernel
  have hb : bts 79 = 3935309568 := by decide +kernel
  unfold Told
  rw [hs] at h ⊢
  exact back_79 rfl (lin_23 h) _ (by unfold wd; rw [hs, hb, add_23])
theorem told_80 {rd rn rm ra im kd bs st cd rg : Int} (h : (if shp 80 < 17 then narrowB 80 (shp 80) rd rn rm ra im kd bs st cd rg else wideB (shp 80) rd rn rm ra im kd bs st cd rg) = true) : Told 80 rd rn rm ra im kd bs st cd rg (wd 80 rd rn rm ra im kd bs st cd rg) := by
  have hs : shp 80 = 23 := by decide +kernel
  have hb : bts 80 = 3943698176 := by decide +kernel
  unfold Told
  rw [hs] at h ⊢
  exact back_80 rfl (lin_23 h) _ (by unfold wd; rw [hs, hb, add_23])
theorem told_81 {rd rn rm ra im kd bs st cd rg : Int} (h : (if shp 81 < 17 then narrowB 81 (shp 81) rd rn rm ra im kd bs st cd rg else wideB (shp 81) rd rn rm ra im kd bs st cd rg) = true) : Told 81 rd rn rm ra im kd bs st cd rg (wd 81 rd rn rm ra im kd bs st cd rg) := by
  have hs : shp 81 = 23 := by decide +kernel
  have hb : bts 81 = 3954183936 := by decide +kernel
  unfold Told
  rw [hs] at h ⊢
  exact back_81 rfl (lin_23 h) _ (by unfold wd; rw [hs, hb, add_23])
theorem told_82 {rd rn rm ra im kd bs st cd rg : Int} (h : (if shp 82 < 17 then narrowB 82 (shp 82) rd rn rm ra im kd bs st cd rg else wideB (shp 82) rd rn rm ra im kd bs st cd rg) = true) : Told 82 rd rn rm ra im kd bs st cd rg (wd 82 rd rn rm ra im kd bs st cd rg) := by
  have hs : shp 82 = 24 := by decide +kernel
  have hb : bts 82 = 4060086272 := by decide +kernel
  unfold Told
  rw [hs] at h ⊢
  exact back_82 rfl (lin_24 h) _ (by unfold wd; rw [hs, hb, add_24])
theorem told_83 {rd rn rm ra im kd bs st cd rg : Int} (h : (if shp 83 < 17 then narrowB 83 (shp 83) rd rn rm ra im kd bs st cd rg else wideB (shp 83) rd rn rm ra im kd bs st cd rg) = true) : Told 83 rd rn rm ra im kd bs st cd rg (wd 83 rd rn rm ra im kd bs st cd rg) := by
  have hs : shp 83 = 24 := by decide +kernel
  have hb : bts 83 = 4070572032 := by decide +kernel
  unfold Told
  rw [hs] at h ⊢
  exact back_83 rfl (lin_24 h) _ (by unfold wd; rw [hs, hb, add_24])
theorem told_84 {rd rn rm ra im kd bs st cd rg : Int} (h : (if shp 84 < 17 then narrowB 84 (shp 84) rd rn rm ra im kd bs st cd rg else wideB (shp 84) rd rn rm ra im kd bs st cd rg) = true) : Told 84 rd rn rm ra im kd bs st cd rg (wd 84 rd rn rm ra im kd bs st cd rg) := by
  have hs : shp 84 = 25 := by decide +kernel
  have hb : bts 84 = 4173332480 := by decide +kernel
  unfold Told
  rw [hs] at h ⊢
  exact back_84 rfl (lin_25 h) _ (by unfold wd; rw [hs, hb, add_25])
theorem told_85 {rd rn rm ra im kd bs st cd rg : Int} (h : (if shp 85 < 17 then narrowB 85 (shp 85) rd rn rm ra im kd bs st cd rg else wideB (shp 85) rd rn rm ra im kd bs st cd rg) = true) : Told 85 rd rn rm ra im kd bs st cd rg (wd 85 rd rn rm ra im kd bs st cd rg) := by
  have hs : shp 85 = 25 := by decide +kernel
  have hb : bts 85 = 4174381056 := by decide +kernel
  unfold Told
  rw [hs] at h ⊢
  exact back_85 rfl (lin_25 h) _ (by unfold wd; rw [hs, hb, add_25])
theorem told_86 {rd rn rm ra im kd bs st cd rg : Int} (h : (if shp 86 < 17 then narrowB 86 (shp 86) rd rn rm ra im kd bs st cd rg else wideB (shp 86) rd rn rm ra im kd bs st cd rg) = true) : Told 86 rd rn rm ra im kd bs st cd rg (wd 86 rd rn rm ra im kd bs st cd rg) := by
  have hs : shp 86 = 26 := by decide +kernel
  have hb : bts 86 = 4164943872 := by decide +kernel
  unfold Told
  rw [hs] at h ⊢
  exact back_86 rfl (lin_26 h) _ (by unfold wd; rw [hs, hb, add_26])
theorem told_87 {rd rn rm ra im kd bs st cd rg : Int} (h : (if shp 87 < 17 then narrowB 87 (shp 87) rd rn rm ra im kd bs st cd rg else wideB (shp 87) rd rn rm ra im kd bs st cd rg) = true) : Told 87 rd rn rm ra im kd bs st cd rg (wd 87 rd rn rm ra im kd bs st cd rg) := by
  have hs : shp 87 = 26 := by decide +kernel
  have hb : bts 87 = 4165992448 := by decide +kernel
  unfold Told
  rw [hs] at h ⊢
  exact back_87 rfl (lin_26 h) _ (by unfold wd; rw [hs, hb, add_26])
theorem told_88 {rd rn rm ra im kd bs st cd rg : Int} (h : (if shp 88 < 17 then narrowB 88 (shp 88) rd rn rm ra im kd bs st cd rg else wideB (shp 88) rd rn rm ra im kd bs st cd rg) = true) : Told 88 rd rn rm ra im kd bs st cd rg (wd 88 rd rn rm ra im kd bs st cd rg) := by
  have hs : shp 88 = 27 := by decide +kernel
  have hb : bts 88 = 4194365440 := by decide +kernel
  unfold Told
  rw [hs] at h ⊢
  exact back_88 rfl (lin_27 h) _ (by unfold wd; rw [hs, hb, add_27])
theorem told_89 {rd rn rm ra im kd bs st cd rg : Int} (h : (if shp 89 < 17 then narrowB 89 (shp 89) rd rn rm ra im kd bs st cd rg else wideB (shp 89) rd rn rm ra im kd bs st cd rg) = true) : Told 89 rd rn rm ra im kd bs st cd rg (wd 89 rd rn rm ra im kd bs st cd rg) := by
  have hs : shp 89 = 27 := by decide +kernel
  have hb : bts 89 = 4196462592 := by decide +kernel
  unfold Told
  rw [hs] at h ⊢
  exact back_89 rfl (lin_27 h) _ (by unfold wd; rw [hs, hb, add_27])
theorem told_90 {rd rn rm ra im kd bs st cd rg : Int} (h : (if shp 90 < 17 then narrowB 90 (shp 90) rd rn rm ra im kd bs st cd rg else wideB (shp 90) rd rn rm ra im kd bs st cd rg) = true) : Told 90 rd rn rm ra im kd bs st cd rg (wd 90 rd rn rm ra im kd bs st cd rg) := by
  have hs : shp 90 = 27 := by decide +kernel
  have hb : bts 90 = 4198559744 := by decide +kernel
  unfold Told
  rw [hs] at h ⊢
  exact back_90 rfl (lin_27 h) _ (by unfold wd; rw [hs, hb, add_27])
theorem told_91 {rd rn rm ra im kd bs st cd rg : Int} (h : (if shp 91 < 17 then narrowB 91 (shp 91) rd rn rm ra im kd bs st cd rg else wideB (shp 91) rd rn rm ra im kd bs st cd rg) = true) : Told 91 rd rn rm ra im kd bs st cd rg (wd 91 rd rn rm ra im kd bs st cd rg) := by
  have hs : shp 91 = 27 := by decide +kernel
  have hb : bts 91 = 4200656896 := by decide +kernel
  unfold Told
  rw [hs] at h ⊢
  exact back_91 rfl (lin_27 h) _ (by unfold wd; rw [hs, hb, add_27])
theorem told_92 {rd rn rm ra im kd bs st cd rg : Int} (h : (if shp 92 < 17 then narrowB 92 (shp 92) rd rn rm ra im kd bs st cd rg else wideB (shp 92) rd rn rm ra im kd bs st cd rg) = true) : Told 92 rd rn rm ra im kd bs st cd rg (wd 92 rd rn rm ra im kd bs st cd rg) := by
  have hs : shp 92 = 28 := by decide +kernel
  have hb : bts 92 = 4211142656 := by decide +kernel
  unfold Told
  rw [hs] at h ⊢
  exact back_92 rfl (lin_28 h) _ (by unfold wd; rw [hs, hb, add_28])
theorem told_93 {rd rn rm ra im kd bs st cd rg : Int} (h : (if shp 93 < 17 then narrowB 93 (shp 93) rd rn rm ra im kd bs st cd rg else wideB (shp 93) rd rn rm ra im kd bs st cd rg) = true) : Told 93 rd rn rm ra im kd bs st cd rg (wd 93 rd rn rm ra im kd bs st cd rg) := by
  have hs : shp 93 = 29 := by decide +kernel
  have hb : bts 93 = 4211081216 := by decide +kernel
  unfold Told
  rw [hs] at h ⊢
  exact back_93 rfl (lin_29 h) _ (by unfold wd; rw [hs, hb, add_29])
theorem told_94 {rd rn rm ra im kd bs st cd rg : Int} (h : (if shp 94 < 17 then narrowB 94 (shp 94) rd rn rm ra im kd bs st cd rg else wideB (shp 94) rd rn rm ra im kd bs st cd rg) = true) : Told 94 rd rn rm ra im kd bs st cd rg (wd 94 rd rn rm ra im kd bs st cd rg) := by
  have hs : shp 94 = 30 := by decide +kernel
  have hb : bts 94 = 4211081232 := by decide +kernel
  unfold Told
  rw [hs] at h ⊢
  exact back_94 rfl (lin_30 h) _ (by unfold wd; rw [hs, hb, add_30])
theorem told_95 {rd rn rm ra im kd bs st cd rg : Int} (h : (if shp 95 < 17 then narrowB 95 (shp 95) rd rn rm ra im kd bs st cd rg else wideB (shp 95) rd rn rm ra im kd bs st cd rg) = true) : Told 95 rd rn rm ra im kd bs st cd rg (wd 95 rd rn rm ra im kd bs st cd rg) := by
  have hs : shp 95 = 31 := by decide +kernel
  have hb : bts 95 = 4221566976 := by decide +kernel
  unfold Told
  rw [hs] at h ⊢
  exact back_95 rfl (lin_31 h) _ (by unfold wd; rw [hs, hb, add_31])
theorem told_96 {rd rn rm ra im kd bs st cd rg : Int} (h : (if shp 96 < 17 then narrowB 96 (shp 96) rd rn rm ra im kd bs st cd rg else wideB (shp 96) rd rn rm ra im kd bs st cd rg) = true) : Told 96 rd rn rm ra im kd bs st cd rg (wd 96 rd rn rm ra im kd bs st cd rg) := by
  have hs : shp 96 = 31 := by decide +kernel
  have hb : bts 96 = 4225761280 := by decide +kernel
  unfold Told
  rw [hs] at h ⊢
  exact back_96 rfl (lin_31 h) _ (by unfold wd; rw [hs, hb, add_31])
theorem told_97 {rd rn rm ra im kd bs st cd rg : Int} (h : (if shp 97 < 17 then narrowB 97 (shp 97) rd rn rm ra im kd bs st cd rg else wideB (shp 97) rd rn rm ra im kd bs st cd rg) = true) : Told 97 rd rn rm ra im kd bs st cd rg (wd 97 rd rn rm ra im kd bs st cd rg) := by
  have hs : shp 97 = 28 := by decide +kernel
  have hb : bts 97 = 4222677232 := by decide +kernel
  unfold Told
  rw [hs] at h ⊢
  exact back_97 rfl (lin_28 h) _ (by unfold wd; rw [hs, hb, add_28])
theorem told_98 {rd rn rm ra im kd bs st cd rg : Int} (h : (if shp 98 < 17 then narrowB 98 (shp 98) rd rn rm ra im kd bs st cd rg else wideB (shp 98) rd rn rm ra im kd bs st cd rg) = true) : Told 98 rd rn rm ra im kd bs st cd rg (wd 98 rd rn rm ra im kd bs st cd rg) := by
  have hs : shp 98 = 32 := by decide +kernel
  have hb : bts 98 = 4205899904 := by decide +kernel
  unfold Told
  rw [hs] at h ⊢
  exact back_98 rfl (lin_32 h) _ (by unfold wd; rw [hs, hb, add_32])
theorem told_99 {rd rn rm ra im kd bs st cd rg : Int} (h : (if shp 99 < 17 then narrowB 99 (shp 99) rd rn rm ra im kd bs st cd rg else wideB (shp 99) rd rn rm ra im kd bs st cd rg) = true) : Told 99 rd rn rm ra im kd bs st cd rg (wd 99 rd rn rm ra im kd bs st cd rg) := by
  have hs : shp 99 = 33 := by decide +kernel
  have hb : bts 99 = 4026564608 := by decide +kernel
  unfold Told
  rw [hs] at h ⊢
  exact back_99 rfl (lin_33 h) _ (by unfold wd; rw [hs, hb, add_33])
theorem told_100 {rd rn rm ra im kd bs st cd rg : Int} (h : (if shp 100 < 17 then narrowB 100 (shp 100) rd rn rm ra im kd bs st cd rg else wideB (shp 100) rd rn rm ra im kd bs st cd rg) = true) : Told 100 rd rn rm ra im kd bs st cd rg (wd 100 rd rn rm ra im kd bs st cd rg) := by
  have hs : shp 100 = 34 := by decide +kernel
  have hb : bts 100 = 4026568704 := by decide +kernel
  unfold Told
  rw [hs] at h ⊢
  exact back_100 rfl (lin_34 h) _ (by unfold wd; rw [hs, hb, add_34])

theorem told {f rd rn rm ra im kd bs st cd rg : Int} (h : right f rd rn rm ra im kd bs st cd rg = true) (g0 : -9223372036854775808 ≤ rg) (g1 : rg ≤ 9223372036854775807) : Told f rd rn rm ra im kd bs st cd rg (wd f rd rn rm ra im kd bs st cd rg) := by
  obtain ⟨⟨i0, i1⟩, h⟩ := at_own h g0 g1
  rcases (show f = 1 ∨ f = 2 ∨ f = 3 ∨ f = 4 ∨ f = 5 ∨ f = 6 ∨ f = 7 ∨ f = 8 ∨ f = 9 ∨ f = 10 ∨ 11 ≤ f by omega) with rfl | rfl | rfl | rfl | rfl | rfl | rfl | rfl | rfl | rfl | hk
  · exact told_1 h
  · exact told_2 h
  · exact told_3 h
  · exact told_4 h
  · exact told_5 h
  · exact told_6 h
  · exact told_7 h
  · exact told_8 h
  · exact told_9 h
  · exact told_10 h
  rcases (show f = 11 ∨ f = 12 ∨ f = 13 ∨ f = 14 ∨ f = 15 ∨ f = 16 ∨ f = 17 ∨ f = 18 ∨ f = 19 ∨ f = 20 ∨ 21 ≤ f by omega) with rfl | rfl | rfl | rfl | rfl | rfl | rfl | rfl | rfl | rfl | hk
  · exact told_11 h
  · exact told_12 h
  · exact told_13 h
  · exact told_14 h
  · exact told_15 h
  · exact told_16 h
  · exact told_17 h
  · exact told_18 h
  · exact told_19 h
  · exact told_20 h
  rcases (show f = 21 ∨ f = 22 ∨ f = 23 ∨ f = 24 ∨ f = 25 ∨ f = 26 ∨ f = 27 ∨ f = 28 ∨ f = 29 ∨ f = 30 ∨ 31 ≤ f by omega) with rfl | rfl | rfl | rfl | rfl | rfl | rfl | rfl | rfl | rfl | hk
  · exact told_21 h
  · exact told_22 h
  · exact told_23 h
  · exact told_24 h
  · exact told_25 h
  · exact told_26 h
  · exact told_27 h
  · exact told_28 h
  · exact told_29 h
  · exact told_30 h
  rcases (show f = 31 ∨ f = 32 ∨ f = 33 ∨ f = 34 ∨ f = 35 ∨ f = 36 ∨ f = 37 ∨ f = 38 ∨ f = 39 ∨ f = 40 ∨ 41 ≤ f by omega) with rfl | rfl | rfl | rfl | rfl | rfl | rfl | rfl | rfl | rfl | hk
  · exact told_31 h
  · exact told_32 h
  · exact told_33 h
  · exact told_34 h
  · exact told_35 h
  · exact told_36 h
  · exact told_37 h
  · exact told_38 h
  · exact told_39 h
  · exact told_40 h
  rcases (show f = 41 ∨ f = 42 ∨ f = 43 ∨ f = 44 ∨ f = 45 ∨ f = 46 ∨ f = 47 ∨ f = 48 ∨ f = 49 ∨ f = 50 ∨ 51 ≤ f by omega) with rfl | rfl | rfl | rfl | rfl | rfl | rfl | rfl | rfl | rfl | hk
  · exact told_41 h
  · exact told_42 h
  · exact told_43 h
  · exact told_44 h
  · exact told_45 h
  · exact told_46 h
  · exact told_47 h
  · exact told_48 h
  · exact told_49 h
  · exact told_50 h
  rcases (show f = 51 ∨ f = 52 ∨ f = 53 ∨ f = 54 ∨ f = 55 ∨ f = 56 ∨ f = 57 ∨ f = 58 ∨ f = 59 ∨ f = 60 ∨ 61 ≤ f by omega) with rfl | rfl | rfl | rfl | rfl | rfl | rfl | rfl | rfl | rfl | hk
  · exact told_51 h
  · exact told_52 h
  · exact told_53 h
  · exact told_54 h
  · exact told_55 h
  · exact told_56 h
  · exact told_57 h
  · exact told_58 h
  · exact told_59 h
  · exact told_60 h
  rcases (show f = 61 ∨ f = 62 ∨ f = 63 ∨ f = 64 ∨ f = 65 ∨ f = 66 ∨ f = 67 ∨ f = 68 ∨ f = 69 ∨ f = 70 ∨ 71 ≤ f by omega) with rfl | rfl | rfl | rfl | rfl | rfl | rfl | rfl | rfl | rfl | hk
  · exact told_61 h
  · exact told_62 h
  · exact told_63 h
  · exact told_64 h
  · exact told_65 h
  · exact told_66 h
  · exact told_67 h
  · exact told_68 h
  · exact told_69 h
  · exact told_70 h
  rcases (show f = 71 ∨ f = 72 ∨ f = 73 ∨ f = 74 ∨ f = 75 ∨ f = 76 ∨ f = 77 ∨ f = 78 ∨ f = 79 ∨ f = 80 ∨ 81 ≤ f by omega) with rfl | rfl | rfl | rfl | rfl | rfl | rfl | rfl | rfl | rfl | hk
  · exact told_71 h
  · exact told_72 h
  · exact told_73 h
  · exact told_74 h
  · exact told_75 h
  · exact told_76 h
  · exact told_77 h
  · exact told_78 h
  · exact told_79 h
  · exact told_80 h
  rcases (show f = 81 ∨ f = 82 ∨ f = 83 ∨ f = 84 ∨ f = 85 ∨ f = 86 ∨ f = 87 ∨ f = 88 ∨ f = 89 ∨ f = 90 ∨ 91 ≤ f by omega) with rfl | rfl | rfl | rfl | rfl | rfl | rfl | rfl | rfl | rfl | hk
  · exact told_81 h
  · exact told_82 h
  · exact told_83 h
  · exact told_84 h
  · exact told_85 h
  · exact told_86 h
  · exact told_87 h
  · exact told_88 h
  · exact told_89 h
  · exact told_90 h
  rcases (show f = 91 ∨ f = 92 ∨ f = 93 ∨ f = 94 ∨ f = 95 ∨ f = 96 ∨ f = 97 ∨ f = 98 ∨ f = 99 ∨ f = 100 by omega) with rfl | rfl | rfl | rfl | rfl | rfl | rfl | rfl | rfl | rfl
  · exact told_91 h
  · exact told_92 h
  · exact told_93 h
  · exact told_94 h
  · exact told_95 h
  · exact told_96 h
  · exact told_97 h
  · exact told_98 h
  · exact told_99 h
  · exact told_100 h

/-- Two right instructions of one length that have one word are the same. -/
theorem once {f rd rn rm ra im kd bs st cd rg f' rd' rn' rm' ra' im' kd' bs' st' cd' rg' : Int} (h : right f rd rn rm ra im kd bs st cd rg = true) (g0 : -9223372036854775808 ≤ rg) (g1 : rg ≤ 9223372036854775807) (h' : right f' rd' rn' rm' ra' im' kd' bs' st' cd' rg' = true) (g0' : -9223372036854775808 ≤ rg') (g1' : rg' ≤ 9223372036854775807)
    (hl : (f ≤ 47 ∧ f' ≤ 47) ∨ (48 ≤ f ∧ 48 ≤ f')) (e : wd f rd rn rm ra im kd bs st cd rg = wd f' rd' rn' rm' ra' im' kd' bs' st' cd' rg') : f = f' ∧ rd = rd' ∧ rn = rn' ∧ rm = rm' ∧ ra = ra' ∧ im = im' ∧ kd = kd' ∧ bs = bs' ∧ st = st' ∧ cd = cd' ∧ rg = rg' := by
  have hf : f = f' := by
    rcases hl with ⟨a, b⟩ | ⟨a, b⟩
    · rw [← narrow_dec h g0 g1 a, ← narrow_dec h' g0' g1' b, e]
    · rw [← wide_dec h g0 g1 a, ← wide_dec h' g0' g1' b, e]
  subst hf
  have t := told h g0 g1
  have t' := told h' g0' g1'
  rw [e] at t
  obtain ⟨t0, t1, t2, t3, t4, t5, t6, t7, t8, t9⟩ := t
  obtain ⟨u0, u1, u2, u3, u4, u5, u6, u7, u8, u9⟩ := t'
  exact ⟨rfl, t0.symm.trans u0, t1.symm.trans u1, t2.symm.trans u2, t3.symm.trans u3, t4.symm.trans u4, t5.symm.trans u5, t6.symm.trans u6, t7.symm.trans u7, t8.symm.trans u8, t9.symm.trans u9⟩

end Go.Proofs.YtpgcnbipnjcniaaDoor.Code
