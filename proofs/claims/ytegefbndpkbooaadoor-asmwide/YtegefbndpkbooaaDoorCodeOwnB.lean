/- What the code reads out of the bits of a right instruction is that one again. -/
import Derived.Test.YtegefbndpkbooaaDoorCodeOwn
set_option linter.unusedVariables false
set_option linter.unusedSimpArgs false
namespace Go.Proofs.YtegefbndpkbooaaDoor.Code
open Go.Proofs.YtegefbndpkbooaaDoor.Alu Go.Proofs.YtegefbndpkbooaaDoor.Imm Go.Proofs.YtegefbndpkbooaaDoor.Inst

theorem cb_1 {f rd rn rm ra im kd bs st cd rg : Int} (l : (0 ≤ rd ∧ rd ≤ 7) ∧ (rn = 0) ∧ (0 ≤ rm ∧ rm ≤ 7) ∧ (ra = 0) ∧ (0 ≤ im ∧ im ≤ 32 ∧ (f = 1 → im ≤ 31) ∧ (¬ f = 1 → 1 ≤ im)) ∧ (kd = 0) ∧ (bs = 0) ∧ (st = 0) ∧ (cd = 0) ∧ (rg = 0)) : cF f 1 (add 1 rd rn rm ra im kd bs st cd rg) = [rd, rn, rm, ra, im, kd, bs, st, cd, rg] := by
  rw [cF_1, add_1]
  obtain ⟨h1, h2, h3, h4, ⟨h5, h6, h7, h8⟩, h9⟩ := l
  have e : (im % 32 * 64 + rm * 8 + rd) / 64 % 32 = im % 32 := by omega
  rw [e]
  refine list10 (by omega) (by omega) (by omega) (by omega) ?_ (by omega) (by omega) (by omega) (by omega) (by omega)
  unfold fr
  by_cases hf : f = 1
  · have := h7 hf; subst hf
    rw [if_neg (by simp)]; omega
  · have := h8 hf
    have hb : (f == 1) = false := by rw [beq_eq_false_iff_ne]; exact hf
    rw [hb]
    by_cases h0 : im % 32 = 0
    · rw [if_pos ⟨h0, rfl⟩]; omega
    · rw [if_neg (fun h => h0 h.1)]; omega
theorem cb_2 {f rd rn rm ra im kd bs st cd rg : Int} (l : (0 ≤ rd ∧ rd ≤ 7) ∧ (0 ≤ rn ∧ rn ≤ 7) ∧ (0 ≤ rm ∧ rm ≤ 7) ∧ (ra = 0) ∧ (im = 0) ∧ (kd = 0) ∧ (bs = 0) ∧ (st = 0) ∧ (cd = 0) ∧ (rg = 0)) : cF f 2 (add 2 rd rn rm ra im kd bs st cd rg) = [rd, rn, rm, ra, im, kd, bs, st, cd, rg] := by
  rw [cF_2, add_2]
  refine list10 ?_ ?_ ?_ ?_ ?_ ?_ ?_ ?_ ?_ ?_ <;> omega
theorem cb_3 {f rd rn rm ra im kd bs st cd rg : Int} (l : (0 ≤ rd ∧ rd ≤ 7) ∧ (0 ≤ rn ∧ rn ≤ 7) ∧ (rm = 0) ∧ (ra = 0) ∧ (0 ≤ im ∧ im ≤ 7) ∧ (kd = 0) ∧ (bs = 0) ∧ (st = 0) ∧ (cd = 0) ∧ (rg = 0)) : cF f 3 (add 3 rd rn rm ra im kd bs st cd rg) = [rd, rn, rm, ra, im, kd, bs, st, cd, rg] := by
  rw [cF_3, add_3]
  refine list10 ?_ ?_ ?_ ?_ ?_ ?_ ?_ ?_ ?_ ?_ <;> omega
theorem cb_4 {f rd rn rm ra im kd bs st cd rg : Int} (l : (0 ≤ rd ∧ rd ≤ 7) ∧ (rn = 0) ∧ (rm = 0) ∧ (ra = 0) ∧ (0 ≤ im ∧ im ≤ 255) ∧ (kd = 0) ∧ (bs = 0) ∧ (st = 0) ∧ (cd = 0) ∧ (rg = 0)) : cF f 4 (add 4 rd rn rm ra im kd bs st cd rg) = [rd, rn, rm, ra, im, kd, bs, st, cd, rg] := by
  rw [cF_4, add_4]
  refine list10 ?_ ?_ ?_ ?_ ?_ ?_ ?_ ?_ ?_ ?_ <;> omega
theorem cb_5 {f rd rn rm ra im kd bs st cd rg : Int} (l : (0 ≤ rd ∧ rd ≤ 7) ∧ (rn = 0) ∧ (0 ≤ rm ∧ rm ≤ 7) ∧ (ra = 0) ∧ (im = 0) ∧ (kd = 0) ∧ (bs = 0) ∧ (st = 0) ∧ (cd = 0) ∧ (rg = 0)) : cF f 5 (add 5 rd rn rm ra im kd bs st cd rg) = [rd, rn, rm, ra, im, kd, bs, st, cd, rg] := by
  rw [cF_5, add_5]
  refine list10 ?_ ?_ ?_ ?_ ?_ ?_ ?_ ?_ ?_ ?_ <;> omega
theorem cb_6 {f rd rn rm ra im kd bs st cd rg : Int} (l : (0 ≤ rd ∧ rd ≤ 14) ∧ (rn = 0) ∧ (0 ≤ rm ∧ rm ≤ 14) ∧ (ra = 0) ∧ (im = 0) ∧ (kd = 0) ∧ (bs = 0) ∧ (st = 0) ∧ (cd = 0) ∧ (rg = 0)) : cF f 6 (add 6 rd rn rm ra im kd bs st cd rg) = [rd, rn, rm, ra, im, kd, bs, st, cd, rg] := by
  rw [cF_6, add_6]
  refine list10 ?_ ?_ ?_ ?_ ?_ ?_ ?_ ?_ ?_ ?_ <;> omega
theorem cb_7 {f rd rn rm ra im kd bs st cd rg : Int} (l : (rd = 0) ∧ (rn = 0) ∧ (0 ≤ rm ∧ rm ≤ 14) ∧ (ra = 0) ∧ (im = 0) ∧ (kd = 0) ∧ (bs = 0) ∧ (st = 0) ∧ (cd = 0) ∧ (rg = 0)) : cF f 7 (add 7 rd rn rm ra im kd bs st cd rg) = [rd, rn, rm, ra, im, kd, bs, st, cd, rg] := by
  rw [cF_7, add_7]
  refine list10 ?_ ?_ ?_ ?_ ?_ ?_ ?_ ?_ ?_ ?_ <;> omega
theorem cb_8 {f rd rn rm ra im kd bs st cd rg : Int} (l : (0 ≤ rd ∧ rd ≤ 7) ∧ (rn = 0) ∧ (rm = 0) ∧ (ra = 0) ∧ (0 ≤ im ∧ im ≤ 1020 ∧ im % 4 = 0) ∧ (kd = 0) ∧ (bs = 0) ∧ (st = 0) ∧ (cd = 0) ∧ (rg = 0)) : cF f 8 (add 8 rd rn rm ra im kd bs st cd rg) = [rd, rn, rm, ra, im, kd, bs, st, cd, rg] := by
  rw [cF_8, add_8]
  refine list10 ?_ ?_ ?_ ?_ ?_ ?_ ?_ ?_ ?_ ?_ <;> omega
theorem cb_9 {f rd rn rm ra im kd bs st cd rg : Int} (l : (0 ≤ rd ∧ rd ≤ 7) ∧ (0 ≤ rn ∧ rn ≤ 7) ∧ (rm = 0) ∧ (ra = 0) ∧ (0 ≤ im ∧ im ≤ 124 ∧ im % 4 = 0) ∧ (kd = 0) ∧ (bs = 0) ∧ (st = 0) ∧ (cd = 0) ∧ (rg = 0)) : cF f 9 (add 9 rd rn rm ra im kd bs st cd rg) = [rd, rn, rm, ra, im, kd, bs, st, cd, rg] := by
  rw [cF_9, add_9]
  refine list10 ?_ ?_ ?_ ?_ ?_ ?_ ?_ ?_ ?_ ?_ <;> omega
theorem cb_10 {f rd rn rm ra im kd bs st cd rg : Int} (l : (rd = 0) ∧ (rn = 0) ∧ (rm = 0) ∧ (ra = 0) ∧ (0 ≤ im ∧ im ≤ 508 ∧ im % 4 = 0) ∧ (kd = 0) ∧ (bs = 0) ∧ (st = 0) ∧ (cd = 0) ∧ (rg = 0)) : cF f 10 (add 10 rd rn rm ra im kd bs st cd rg) = [rd, rn, rm, ra, im, kd, bs, st, cd, rg] := by
  rw [cF_10, add_10]
  refine list10 ?_ ?_ ?_ ?_ ?_ ?_ ?_ ?_ ?_ ?_ <;> omega
theorem cb_11 {f rd rn rm ra im kd bs st cd rg : Int} (l : (rd = 0) ∧ (rn = 0) ∧ (rm = 0) ∧ (ra = 0) ∧ (im = 0) ∧ (kd = 0) ∧ (bs = 0) ∧ (st = 0) ∧ (cd = 0) ∧ ((1 ≤ rg ∧ rg ≤ 255 ∨ 16384 ≤ rg ∧ rg ≤ 16639))) : cF f 11 (add 11 rd rn rm ra im kd bs st cd rg) = [rd, rn, rm, ra, im, kd, bs, st, cd, rg] := by
  rw [cF_11, add_11]
  refine list10 ?_ ?_ ?_ ?_ ?_ ?_ ?_ ?_ ?_ ?_ <;> omega
theorem cb_12 {f rd rn rm ra im kd bs st cd rg : Int} (l : (rd = 0) ∧ (rn = 0) ∧ (rm = 0) ∧ (ra = 0) ∧ (im = 0) ∧ (kd = 0) ∧ (bs = 0) ∧ (st = 0) ∧ (cd = 0) ∧ ((1 ≤ rg ∧ rg ≤ 255 ∨ 32768 ≤ rg ∧ rg ≤ 33023))) : cF f 12 (add 12 rd rn rm ra im kd bs st cd rg) = [rd, rn, rm, ra, im, kd, bs, st, cd, rg] := by
  rw [cF_12, add_12]
  refine list10 ?_ ?_ ?_ ?_ ?_ ?_ ?_ ?_ ?_ ?_ <;> omega
theorem cb_13 {f rd rn rm ra im kd bs st cd rg : Int} (l : (rd = 0) ∧ (rn = 0) ∧ (rm = 0) ∧ (ra = 0) ∧ (im = 0) ∧ (kd = 0) ∧ (bs = 0) ∧ (st = 0) ∧ (cd = 0) ∧ (rg = 0)) : cF f 13 (add 13 rd rn rm ra im kd bs st cd rg) = [rd, rn, rm, ra, im, kd, bs, st, cd, rg] := by
  rw [cF_13]
  refine list10 ?_ ?_ ?_ ?_ ?_ ?_ ?_ ?_ ?_ ?_ <;> omega
theorem cb_14 {f rd rn rm ra im kd bs st cd rg : Int} (l : (rd = 0) ∧ (rn = 0) ∧ (rm = 0) ∧ (ra = 0) ∧ (0 ≤ im ∧ im ≤ 255) ∧ (kd = 0) ∧ (bs = 0) ∧ (st = 0) ∧ (cd = 0) ∧ (rg = 0)) : cF f 14 (add 14 rd rn rm ra im kd bs st cd rg) = [rd, rn, rm, ra, im, kd, bs, st, cd, rg] := by
  rw [cF_14, add_14]
  refine list10 ?_ ?_ ?_ ?_ ?_ ?_ ?_ ?_ ?_ ?_ <;> omega
theorem cb_15 {f rd rn rm ra im kd bs st cd rg : Int} (l : (rd = 0) ∧ (rn = 0) ∧ (rm = 0) ∧ (ra = 0) ∧ (-256 ≤ im ∧ im ≤ 254 ∧ im % 2 = 0) ∧ (kd = 0) ∧ (bs = 0) ∧ (st = 0) ∧ (0 ≤ cd ∧ cd ≤ 13) ∧ (rg = 0)) : cF f 15 (add 15 rd rn rm ra im kd bs st cd rg) = [rd, rn, rm, ra, im, kd, bs, st, cd, rg] := by
  rw [cF_15, add_15]
  unfold sx
  refine list10 ?_ ?_ ?_ ?_ ?_ ?_ ?_ ?_ ?_ ?_ <;> omega
theorem cb_16 {f rd rn rm ra im kd bs st cd rg : Int} (l : (rd = 0) ∧ (rn = 0) ∧ (rm = 0) ∧ (ra = 0) ∧ (-2048 ≤ im ∧ im ≤ 2046 ∧ im % 2 = 0) ∧ (kd = 0) ∧ (bs = 0) ∧ (st = 0) ∧ (cd = 0) ∧ (rg = 0)) : cF f 16 (add 16 rd rn rm ra im kd bs st cd rg) = [rd, rn, rm, ra, im, kd, bs, st, cd, rg] := by
  rw [cF_16, add_16]
  unfold sx
  refine list10 ?_ ?_ ?_ ?_ ?_ ?_ ?_ ?_ ?_ ?_ <;> omega
theorem cb_17 {f rd rn rm ra im kd bs st cd rg : Int} (l : ((0 ≤ rd ∧ rd ≤ 12 ∨ rd = 14)) ∧ (rn = 0) ∧ (rm = 0) ∧ (ra = 0) ∧ (0 ≤ im ∧ im ≤ 65535) ∧ (kd = 0) ∧ (bs = 0) ∧ (st = 0) ∧ (cd = 0) ∧ (rg = 0)) : cF f 17 (add 17 rd rn rm ra im kd bs st cd rg) = [rd, rn, rm, ra, im, kd, bs, st, cd, rg] := by
  rw [cF_17, add_17]
  unfold oft
  have b1 : 0 ≤ rd ∧ rd ≤ 15 := by omega
  have b2 : 0 ≤ rn ∧ rn ≤ 15 := by omega
  have b4 : 0 ≤ st ∧ st ≤ 1 := by omega
  have z1 : ra = 0 := by omega
  have z2 : kd = 0 := by omega
  have z3 : cd = 0 := by omega
  have z4 : rg = 0 := by omega
  have z5 : bs = 0 := by omega
  have z6 : rm = 0 := by omega
  have z7 : rn = 0 ∨ ¬ 17 = 17 := by omega
  have z8 : st = 0 ∨ ¬ 17 = 17 := by omega
  have bi : 0 ≤ im ∧ im ≤ 65535 := by omega
  clear l
  obtain ⟨t, ht⟩ : ∃ t, t = im / 2048 % 2 := ⟨_, rfl⟩
  obtain ⟨u, hu⟩ : ∃ u, u = im / 256 % 8 := ⟨_, rfl⟩
  obtain ⟨v, hv⟩ : ∃ v, v = im % 256 := ⟨_, rfl⟩
  obtain ⟨q, hq⟩ : ∃ q, q = im / 4096 := ⟨_, rfl⟩
  rw [← ht, ← hu, ← hv, ← hq]
  have bt : 0 ≤ t ∧ t ≤ 1 := by omega
  have bu : 0 ≤ u ∧ u ≤ 7 := by omega
  have bv : 0 ≤ v ∧ v ≤ 255 := by omega
  have bq : 0 ≤ q ∧ q ≤ 15 := by omega
  have hi : q * 4096 + (t * 2048 + u * 256 + v) = im := by omega
  clear ht hu hv bi hq
  have et : (t * 67108864 + q * 65536 + u * 4096 + rd * 256 + v) / 67108864 % 2 = t := by clear hi; omega
  have eu : (t * 67108864 + q * 65536 + u * 4096 + rd * 256 + v) / 4096 % 8 = u := by clear hi; omega
  have ev : (t * 67108864 + q * 65536 + u * 4096 + rd * 256 + v) % 256 = v := by clear hi; omega
  have eq : (t * 67108864 + q * 65536 + u * 4096 + rd * 256 + v) / 65536 % 16 = q := by clear hi; omega
  rw [et, eu, ev, eq, hi]
  refine list10 ?_ ?_ z6.symm z1.symm rfl z2.symm z5.symm ?_ z3.symm z4.symm
  · clear hi; omega
  · clear hi; omega
  · clear hi; omega
theorem cb_18 {f rd rn rm ra im kd bs st cd rg : Int} (l : ((0 ≤ rd ∧ rd ≤ 12 ∨ rd = 14)) ∧ ((0 ≤ rn ∧ rn ≤ 12 ∨ rn = 14)) ∧ (rm = 0) ∧ (ra = 0) ∧ (0 ≤ im ∧ im ≤ 4095) ∧ (kd = 0) ∧ (bs = 0) ∧ (0 ≤ st ∧ st ≤ 1) ∧ (cd = 0) ∧ (rg = 0)) : cF f 18 (add 18 rd rn rm ra im kd bs st cd rg) = [rd, rn, rm, ra, im, kd, bs, st, cd, rg] := by
  rw [cF_18, add_18]
  unfold oft
  have b1 : 0 ≤ rd ∧ rd ≤ 15 := by omega
  have b2 : 0 ≤ rn ∧ rn ≤ 15 := by omega
  have b4 : 0 ≤ st ∧ st ≤ 1 := by omega
  have z1 : ra = 0 := by omega
  have z2 : kd = 0 := by omega
  have z3 : cd = 0 := by omega
  have z4 : rg = 0 := by omega
  have z5 : bs = 0 := by omega
  have z6 : rm = 0 := by omega
  have z7 : rn = 0 ∨ ¬ 18 = 17 := by omega
  have z8 : st = 0 ∨ ¬ 18 = 17 := by omega
  have bi : 0 ≤ im ∧ im ≤ 4095 := by omega
  clear l
  obtain ⟨t, ht⟩ : ∃ t, t = im / 2048 := ⟨_, rfl⟩
  obtain ⟨u, hu⟩ : ∃ u, u = im / 256 % 8 := ⟨_, rfl⟩
  obtain ⟨v, hv⟩ : ∃ v, v = im % 256 := ⟨_, rfl⟩
  rw [← ht, ← hu, ← hv]
  have bt : 0 ≤ t ∧ t ≤ 1 := by omega
  have bu : 0 ≤ u ∧ u ≤ 7 := by omega
  have bv : 0 ≤ v ∧ v ≤ 255 := by omega
  have hi : t * 2048 + u * 256 + v = im := by omega
  clear ht hu hv bi
  have et : (t * 67108864 + st * 1048576 + rn * 65536 + u * 4096 + rd * 256 + v) / 67108864 % 2 = t := by clear hi; omega
  have eu : (t * 67108864 + st * 1048576 + rn * 65536 + u * 4096 + rd * 256 + v) / 4096 % 8 = u := by clear hi; omega
  have ev : (t * 67108864 + st * 1048576 + rn * 65536 + u * 4096 + rd * 256 + v) % 256 = v := by clear hi; omega
  rw [et, eu, ev, hi]
  refine list10 ?_ ?_ z6.symm z1.symm rfl z2.symm z5.symm ?_ z3.symm z4.symm
  · clear hi; omega
  · clear hi; omega
  · clear hi; omega
theorem cb_19 {f rd rn rm ra im kd bs st cd rg : Int} (l : ((0 ≤ rd ∧ rd ≤ 12 ∨ rd = 14)) ∧ (rn = 0) ∧ (rm = 0) ∧ (ra = 0) ∧ (0 ≤ im ∧ im ≤ 4095) ∧ (kd = 0) ∧ (bs = 0) ∧ (0 ≤ st ∧ st ≤ 1) ∧ (cd = 0) ∧ (rg = 0)) : cF f 19 (add 19 rd rn rm ra im kd bs st cd rg) = [rd, rn, rm, ra, im, kd, bs, st, cd, rg] := by
  rw [cF_19, add_19]
  unfold oft
  have b1 : 0 ≤ rd ∧ rd ≤ 15 := by omega
  have b2 : 0 ≤ rn ∧ rn ≤ 15 := by omega
  have b4 : 0 ≤ st ∧ st ≤ 1 := by omega
  have z1 : ra = 0 := by omega
  have z2 : kd = 0 := by omega
  have z3 : cd = 0 := by omega
  have z4 : rg = 0 := by omega
  have z5 : bs = 0 := by omega
  have z6 : rm = 0 := by omega
  have z7 : rn = 0 ∨ ¬ 19 = 17 := by omega
  have z8 : st = 0 ∨ ¬ 19 = 17 := by omega
  have bi : 0 ≤ im ∧ im ≤ 4095 := by omega
  clear l
  obtain ⟨t, ht⟩ : ∃ t, t = im / 2048 := ⟨_, rfl⟩
  obtain ⟨u, hu⟩ : ∃ u, u = im / 256 % 8 := ⟨_, rfl⟩
  obtain ⟨v, hv⟩ : ∃ v, v = im % 256 := ⟨_, rfl⟩
  rw [← ht, ← hu, ← hv]
  have bt : 0 ≤ t ∧ t ≤ 1 := by omega
  have bu : 0 ≤ u ∧ u ≤ 7 := by omega
  have bv : 0 ≤ v ∧ v ≤ 255 := by omega
  have hi : t * 2048 + u * 256 + v = im := by omega
  clear ht hu hv bi
  have et : (t * 67108864 + st * 1048576 + rn * 65536 + u * 4096 + rd * 256 + v) / 67108864 % 2 = t := by clear hi; omega
  have eu : (t * 67108864 + st * 1048576 + rn * 65536 + u * 4096 + rd * 256 + v) / 4096 % 8 = u := by clear hi; omega
  have ev : (t * 67108864 + st * 1048576 + rn * 65536 + u * 4096 + rd * 256 + v) % 256 = v := by clear hi; omega
  rw [et, eu, ev, hi]
  refine list10 ?_ ?_ z6.symm z1.symm rfl z2.symm z5.symm ?_ z3.symm z4.symm
  · clear hi; omega
  · clear hi; omega
  · clear hi; omega
theorem cb_20 {f rd rn rm ra im kd bs st cd rg : Int} (l : (rd = 0) ∧ ((0 ≤ rn ∧ rn ≤ 12 ∨ rn = 14)) ∧ (rm = 0) ∧ (ra = 0) ∧ (0 ≤ im ∧ im ≤ 4095) ∧ (kd = 0) ∧ (bs = 0) ∧ (st = 0) ∧ (cd = 0) ∧ (rg = 0)) : cF f 20 (add 20 rd rn rm ra im kd bs st cd rg) = [rd, rn, rm, ra, im, kd, bs, st, cd, rg] := by
  rw [cF_20, add_20]
  unfold oft
  have b1 : 0 ≤ rd ∧ rd ≤ 15 := by omega
  have b2 : 0 ≤ rn ∧ rn ≤ 15 := by omega
  have b4 : 0 ≤ st ∧ st ≤ 1 := by omega
  have z1 : ra = 0 := by omega
  have z2 : kd = 0 := by omega
  have z3 : cd = 0 := by omega
  have z4 : rg = 0 := by omega
  have z5 : bs = 0 := by omega
  have z6 : rm = 0 := by omega
  have z7 : rn = 0 ∨ ¬ 20 = 17 := by omega
  have z8 : st = 0 ∨ ¬ 20 = 17 := by omega
  have bi : 0 ≤ im ∧ im ≤ 4095 := by omega
  clear l
  obtain ⟨t, ht⟩ : ∃ t, t = im / 2048 := ⟨_, rfl⟩
  obtain ⟨u, hu⟩ : ∃ u, u = im / 256 % 8 := ⟨_, rfl⟩
  obtain ⟨v, hv⟩ : ∃ v, v = im % 256 := ⟨_, rfl⟩
  rw [← ht, ← hu, ← hv]
  have bt : 0 ≤ t ∧ t ≤ 1 := by omega
  have bu : 0 ≤ u ∧ u ≤ 7 := by omega
  have bv : 0 ≤ v ∧ v ≤ 255 := by omega
  have hi : t * 2048 + u * 256 + v = im := by omega
  clear ht hu hv bi
  have et : (t * 67108864 + st * 1048576 + rn * 65536 + u * 4096 + rd * 256 + v) / 67108864 % 2 = t := by clear hi; omega
  have eu : (t * 67108864 + st * 1048576 + rn * 65536 + u * 4096 + rd * 256 + v) / 4096 % 8 = u := by clear hi; omega
  have ev : (t * 67108864 + st * 1048576 + rn * 65536 + u * 4096 + rd * 256 + v) % 256 = v := by clear hi; omega
  rw [et, eu, ev, hi]
  refine list10 ?_ ?_ z6.symm z1.symm rfl z2.symm z5.symm ?_ z3.symm z4.symm
  · clear hi; omega
  · clear hi; omega
  · clear hi; omega
theorem cb_21 {f rd rn rm ra im kd bs st cd rg : Int} (l : ((0 ≤ rd ∧ rd ≤ 12 ∨ rd = 14)) ∧ ((0 ≤ rn ∧ rn ≤ 12 ∨ rn = 14)) ∧ ((0 ≤ rm ∧ rm ≤ 12 ∨ rm = 14)) ∧ (ra = 0) ∧ (im = 0) ∧ (0 ≤ st ∧ st ≤ 1) ∧ (cd = 0) ∧ (rg = 0) ∧ ((kd = 0 ∧ 0 ≤ bs ∧ bs ≤ 31) ∨ ((kd = 1 ∨ kd = 2) ∧ 1 ≤ bs ∧ bs ≤ 32) ∨ (kd = 3 ∧ 1 ≤ bs ∧ bs ≤ 31))) : cF f 21 (add 21 rd rn rm ra im kd bs st cd rg) = [rd, rn, rm, ra, im, kd, bs, st, cd, rg] := by
  rw [cF_21, add_21]
  have b1 : 0 ≤ rd ∧ rd ≤ 15 := by omega
  have b2 : 0 ≤ rn ∧ rn ≤ 15 := by omega
  have b3 : 0 ≤ rm ∧ rm ≤ 15 := by omega
  have b4 : 0 ≤ st ∧ st ≤ 1 := by omega
  have b5 : 0 ≤ kd ∧ kd ≤ 3 := by omega
  have b6 : 0 ≤ bs ∧ bs ≤ 32 := by omega
  have z1 : ra = 0 := by omega
  have z2 : im = 0 := by omega
  have z3 : cd = 0 := by omega
  have z4 : rg = 0 := by omega
  have lk : (kd = 0 ∧ 0 ≤ bs ∧ bs ≤ 31) ∨ ((kd = 1 ∨ kd = 2) ∧ 1 ≤ bs ∧ bs ≤ 32) ∨ (kd = 3 ∧ 1 ≤ bs ∧ bs ≤ 31) := by omega
  clear l
  obtain ⟨u, hu⟩ : ∃ u, u = bs / 4 % 8 := ⟨_, rfl⟩
  obtain ⟨v, hv⟩ : ∃ v, v = bs % 4 := ⟨_, rfl⟩
  rw [← hu, ← hv]
  have bu : 0 ≤ u ∧ u ≤ 7 := by omega
  have bv : 0 ≤ v ∧ v ≤ 3 := by omega
  have huv : u * 4 + v = bs % 32 := by omega
  clear hu hv
  have ek : (st * 1048576 + rn * 65536 + u * 4096 + rd * 256 + v * 64 + kd * 16 + rm) / 16 % 4 = kd := by clear huv lk b6; omega
  have eu : (st * 1048576 + rn * 65536 + u * 4096 + rd * 256 + v * 64 + kd * 16 + rm) / 4096 % 8 = u := by clear huv lk b6; omega
  have ev : (st * 1048576 + rn * 65536 + u * 4096 + rd * 256 + v * 64 + kd * 16 + rm) / 64 % 4 = v := by clear huv lk b6; omega
  rw [ek, eu, ev, huv]
  refine list10 ?_ ?_ ?_ z1.symm z2.symm rfl ?_ ?_ z3.symm z4.symm
  · clear huv lk b6; omega
  · clear huv lk b6; omega
  · clear huv lk b6; omega
  · unfold fr
    by_cases hk : kd = 0
    · clear ek eu ev; rw [if_neg (by simp [hk])]; omega
    · have hb : (kd == 0) = false := by rw [beq_eq_false_iff_ne]; exact hk
      rw [hb]
      clear ek eu ev
      by_cases h0 : bs % 32 = 0
      · rw [if_pos ⟨h0, rfl⟩]; omega
      · rw [if_neg (fun h => h0 h.1)]; omega
  · clear huv lk b6; omega
theorem cb_22 {f rd rn rm ra im kd bs st cd rg : Int} (l : ((0 ≤ rd ∧ rd ≤ 12 ∨ rd = 14)) ∧ (rn = 0) ∧ ((0 ≤ rm ∧ rm ≤ 12 ∨ rm = 14)) ∧ (ra = 0) ∧ (im = 0) ∧ (0 ≤ st ∧ st ≤ 1) ∧ (cd = 0) ∧ (rg = 0) ∧ ((kd = 0 ∧ 0 ≤ bs ∧ bs ≤ 31) ∨ ((kd = 1 ∨ kd = 2) ∧ 1 ≤ bs ∧ bs ≤ 32) ∨ (kd = 3 ∧ 1 ≤ bs ∧ bs ≤ 31))) : cF f 22 (add 22 rd rn rm ra im kd bs st cd rg) = [rd, rn, rm, ra, im, kd, bs, st, cd, rg] := by
  rw [cF_22, add_22]
  have b1 : 0 ≤ rd ∧ rd ≤ 15 := by omega
  have b2 : 0 ≤ rn ∧ rn ≤ 15 := by omega
  have b3 : 0 ≤ rm ∧ rm ≤ 15 := by omega
  have b4 : 0 ≤ st ∧ st ≤ 1 := by omega
  have b5 : 0 ≤ kd ∧ kd ≤ 3 := by omega
  have b6 : 0 ≤ bs ∧ bs ≤ 32 := by omega
  have z1 : ra = 0 := by omega
  have z2 : im = 0 := by omega
  have z3 : cd = 0 := by omega
  have z4 : rg = 0 := by omega
  have lk : (kd = 0 ∧ 0 ≤ bs ∧ bs ≤ 31) ∨ ((kd = 1 ∨ kd = 2) ∧ 1 ≤ bs ∧ bs ≤ 32) ∨ (kd = 3 ∧ 1 ≤ bs ∧ bs ≤ 31) := by omega
  clear l
  obtain ⟨u, hu⟩ : ∃ u, u = bs / 4 % 8 := ⟨_, rfl⟩
  obtain ⟨v, hv⟩ : ∃ v, v = bs % 4 := ⟨_, rfl⟩
  rw [← hu, ← hv]
  have bu : 0 ≤ u ∧ u ≤ 7 := by omega
  have bv : 0 ≤ v ∧ v ≤ 3 := by omega
  have huv : u * 4 + v = bs % 32 := by omega
  clear hu hv
  have ek : (st * 1048576 + rn * 65536 + u * 4096 + rd * 256 + v * 64 + kd * 16 + rm) / 16 % 4 = kd := by clear huv lk b6; omega
  have eu : (st * 1048576 + rn * 65536 + u * 4096 + rd * 256 + v * 64 + kd * 16 + rm) / 4096 % 8 = u := by clear huv lk b6; omega
  have ev : (st * 1048576 + rn * 65536 + u * 4096 + rd * 256 + v * 64 + kd * 16 + rm) / 64 % 4 = v := by clear huv lk b6; omega
  rw [ek, eu, ev, huv]
  refine list10 ?_ ?_ ?_ z1.symm z2.symm rfl ?_ ?_ z3.symm z4.symm
  · clear huv lk b6; omega
  · clear huv lk b6; omega
  · clear huv lk b6; omega
  · unfold fr
    by_cases hk : kd = 0
    · clear ek eu ev; rw [if_neg (by simp [hk])]; omega
    · have hb : (kd == 0) = false := by rw [beq_eq_false_iff_ne]; exact hk
      rw [hb]
      clear ek eu ev
      by_cases h0 : bs % 32 = 0
      · rw [if_pos ⟨h0, rfl⟩]; omega
      · rw [if_neg (fun h => h0 h.1)]; omega
  · clear huv lk b6; omega
theorem cb_23 {f rd rn rm ra im kd bs st cd rg : Int} (l : (rd = 0) ∧ ((0 ≤ rn ∧ rn ≤ 12 ∨ rn = 14)) ∧ ((0 ≤ rm ∧ rm ≤ 12 ∨ rm = 14)) ∧ (ra = 0) ∧ (im = 0) ∧ (st = 0) ∧ (cd = 0) ∧ (rg = 0) ∧ ((kd = 0 ∧ 0 ≤ bs ∧ bs ≤ 31) ∨ ((kd = 1 ∨ kd = 2) ∧ 1 ≤ bs ∧ bs ≤ 32) ∨ (kd = 3 ∧ 1 ≤ bs ∧ bs ≤ 31))) : cF f 23 (add 23 rd rn rm ra im kd bs st cd rg) = [rd, rn, rm, ra, im, kd, bs, st, cd, rg] := by
  rw [cF_23, add_23]
  have b1 : 0 ≤ rd ∧ rd ≤ 15 := by omega
  have b2 : 0 ≤ rn ∧ rn ≤ 15 := by omega
  have b3 : 0 ≤ rm ∧ rm ≤ 15 := by omega
  have b4 : 0 ≤ st ∧ st ≤ 1 := by omega
  have b5 : 0 ≤ kd ∧ kd ≤ 3 := by omega
  have b6 : 0 ≤ bs ∧ bs ≤ 32 := by omega
  have z1 : ra = 0 := by omega
  have z2 : im = 0 := by omega
  have z3 : cd = 0 := by omega
  have z4 : rg = 0 := by omega
  have lk : (kd = 0 ∧ 0 ≤ bs ∧ bs ≤ 31) ∨ ((kd = 1 ∨ kd = 2) ∧ 1 ≤ bs ∧ bs ≤ 32) ∨ (kd = 3 ∧ 1 ≤ bs ∧ bs ≤ 31) := by omega
  clear l
  obtain ⟨u, hu⟩ : ∃ u, u = bs / 4 % 8 := ⟨_, rfl⟩
  obtain ⟨v, hv⟩ : ∃ v, v = bs % 4 := ⟨_, rfl⟩
  rw [← hu, ← hv]
  have bu : 0 ≤ u ∧ u ≤ 7 := by omega
  have bv : 0 ≤ v ∧ v ≤ 3 := by omega
  have huv : u * 4 + v = bs % 32 := by omega
  clear hu hv
  have ek : (st * 1048576 + rn * 65536 + u * 4096 + rd * 256 + v * 64 + kd * 16 + rm) / 16 % 4 = kd := by clear huv lk b6; omega
  have eu : (st * 1048576 + rn * 65536 + u * 4096 + rd * 256 + v * 64 + kd * 16 + rm) / 4096 % 8 = u := by clear huv lk b6; omega
  have ev : (st * 1048576 + rn * 65536 + u * 4096 + rd * 256 + v * 64 + kd * 16 + rm) / 64 % 4 = v := by clear huv lk b6; omega
  rw [ek, eu, ev, huv]
  refine list10 ?_ ?_ ?_ z1.symm z2.symm rfl ?_ ?_ z3.symm z4.symm
  · clear huv lk b6; omega
  · clear huv lk b6; omega
  · clear huv lk b6; omega
  · unfold fr
    by_cases hk : kd = 0
    · clear ek eu ev; rw [if_neg (by simp [hk])]; omega
    · have hb : (kd == 0) = false := by rw [beq_eq_false_iff_ne]; exact hk
      rw [hb]
      clear ek eu ev
      by_cases h0 : bs % 32 = 0
      · rw [if_pos ⟨h0, rfl⟩]; omega
      · rw [if_neg (fun h => h0 h.1)]; omega
  · clear huv lk b6; omega
theorem cb_24 {f rd rn rm ra im kd bs st cd rg : Int} (l : ((0 ≤ rd ∧ rd ≤ 12 ∨ rd = 14)) ∧ ((0 ≤ rn ∧ rn ≤ 12 ∨ rn = 14)) ∧ (rm = 0) ∧ (ra = 0) ∧ (0 ≤ im ∧ im ≤ 4095) ∧ (kd = 0) ∧ (bs = 0) ∧ (st = 0) ∧ (cd = 0) ∧ (rg = 0)) : cF f 24 (add 24 rd rn rm ra im kd bs st cd rg) = [rd, rn, rm, ra, im, kd, bs, st, cd, rg] := by
  rw [cF_24, add_24]
  unfold oft
  have b1 : 0 ≤ rd ∧ rd ≤ 15 := by omega
  have b2 : 0 ≤ rn ∧ rn ≤ 15 := by omega
  have b4 : 0 ≤ st ∧ st ≤ 1 := by omega
  have z1 : ra = 0 := by omega
  have z2 : kd = 0 := by omega
  have z3 : cd = 0 := by omega
  have z4 : rg = 0 := by omega
  have z5 : bs = 0 := by omega
  have z6 : rm = 0 := by omega
  have z7 : rn = 0 ∨ ¬ 24 = 17 := by omega
  have z8 : st = 0 ∨ ¬ 24 = 17 := by omega
  have bi : 0 ≤ im ∧ im ≤ 4095 := by omega
  clear l
  obtain ⟨t, ht⟩ : ∃ t, t = im / 2048 := ⟨_, rfl⟩
  obtain ⟨u, hu⟩ : ∃ u, u = im / 256 % 8 := ⟨_, rfl⟩
  obtain ⟨v, hv⟩ : ∃ v, v = im % 256 := ⟨_, rfl⟩
  rw [← ht, ← hu, ← hv]
  have bt : 0 ≤ t ∧ t ≤ 1 := by omega
  have bu : 0 ≤ u ∧ u ≤ 7 := by omega
  have bv : 0 ≤ v ∧ v ≤ 255 := by omega
  have hi : t * 2048 + u * 256 + v = im := by omega
  clear ht hu hv bi
  have et : (t * 67108864 + st * 1048576 + rn * 65536 + u * 4096 + rd * 256 + v) / 67108864 % 2 = t := by clear hi; omega
  have eu : (t * 67108864 + st * 1048576 + rn * 65536 + u * 4096 + rd * 256 + v) / 4096 % 8 = u := by clear hi; omega
  have ev : (t * 67108864 + st * 1048576 + rn * 65536 + u * 4096 + rd * 256 + v) % 256 = v := by clear hi; omega
  rw [et, eu, ev, hi]
  refine list10 ?_ ?_ z6.symm z1.symm rfl z2.symm z5.symm ?_ z3.symm z4.symm
  · clear hi; omega
  · clear hi; omega
  · clear hi; omega
theorem cb_25 {f rd rn rm ra im kd bs st cd rg : Int} (l : ((0 ≤ rd ∧ rd ≤ 12 ∨ rd = 14)) ∧ (0 ≤ rn ∧ rn ≤ 14) ∧ (rm = 0) ∧ (ra = 0) ∧ (0 ≤ im ∧ im ≤ 4095) ∧ (kd = 0) ∧ (bs = 0) ∧ (st = 0) ∧ (cd = 0) ∧ (rg = 0)) : cF f 25 (add 25 rd rn rm ra im kd bs st cd rg) = [rd, rn, rm, ra, im, kd, bs, st, cd, rg] := by
  rw [cF_25, add_25]
  refine list10 ?_ ?_ ?_ ?_ ?_ ?_ ?_ ?_ ?_ ?_ <;> omega
theorem cb_26 {f rd rn rm ra im kd bs st cd rg : Int} (l : ((0 ≤ rd ∧ rd ≤ 12 ∨ rd = 14)) ∧ (0 ≤ rn ∧ rn ≤ 14) ∧ ((0 ≤ rm ∧ rm ≤ 12 ∨ rm = 14)) ∧ (ra = 0) ∧ (im = 0) ∧ (kd = 0) ∧ (0 ≤ bs ∧ bs ≤ 3) ∧ (st = 0) ∧ (cd = 0) ∧ (rg = 0)) : cF f 26 (add 26 rd rn rm ra im kd bs st cd rg) = [rd, rn, rm, ra, im, kd, bs, st, cd, rg] := by
  rw [cF_26, add_26]
  refine list10 ?_ ?_ ?_ ?_ ?_ ?_ ?_ ?_ ?_ ?_ <;> omega
theorem cb_27 {f rd rn rm ra im kd bs st cd rg : Int} (l : ((0 ≤ rd ∧ rd ≤ 12 ∨ rd = 14)) ∧ ((0 ≤ rn ∧ rn ≤ 12 ∨ rn = 14)) ∧ ((0 ≤ rm ∧ rm ≤ 12 ∨ rm = 14)) ∧ (ra = 0) ∧ (im = 0) ∧ (kd = 0) ∧ (bs = 0) ∧ (0 ≤ st ∧ st ≤ 1) ∧ (cd = 0) ∧ (rg = 0)) : cF f 27 (add 27 rd rn rm ra im kd bs st cd rg) = [rd, rn, rm, ra, im, kd, bs, st, cd, rg] := by
  rw [cF_27, add_27]
  refine list10 ?_ ?_ ?_ ?_ ?_ ?_ ?_ ?_ ?_ ?_ <;> omega
theorem cb_28 {f rd rn rm ra im kd bs st cd rg : Int} (l : ((0 ≤ rd ∧ rd ≤ 12 ∨ rd = 14)) ∧ ((0 ≤ rn ∧ rn ≤ 12 ∨ rn = 14)) ∧ ((0 ≤ rm ∧ rm ≤ 12 ∨ rm = 14)) ∧ (ra = 0) ∧ (im = 0) ∧ (kd = 0) ∧ (bs = 0) ∧ (st = 0) ∧ (cd = 0) ∧ (rg = 0)) : cF f 28 (add 28 rd rn rm ra im kd bs st cd rg) = [rd, rn, rm, ra, im, kd, bs, st, cd, rg] := by
  rw [cF_28, add_28]
  refine list10 ?_ ?_ ?_ ?_ ?_ ?_ ?_ ?_ ?_ ?_ <;> omega
theorem cb_29 {f rd rn rm ra im kd bs st cd rg : Int} (l : ((0 ≤ rd ∧ rd ≤ 12 ∨ rd = 14)) ∧ ((0 ≤ rn ∧ rn ≤ 12 ∨ rn = 14)) ∧ ((0 ≤ rm ∧ rm ≤ 12 ∨ rm = 14)) ∧ ((0 ≤ ra ∧ ra ≤ 12 ∨ ra = 14)) ∧ (im = 0) ∧ (kd = 0) ∧ (bs = 0) ∧ (st = 0) ∧ (cd = 0) ∧ (rg = 0)) : cF f 29 (add 29 rd rn rm ra im kd bs st cd rg) = [rd, rn, rm, ra, im, kd, bs, st, cd, rg] := by
  rw [cF_29, add_29]
  refine list10 ?_ ?_ ?_ ?_ ?_ ?_ ?_ ?_ ?_ ?_ <;> omega
theorem cb_30 {f rd rn rm ra im kd bs st cd rg : Int} (l : ((0 ≤ rd ∧ rd ≤ 12 ∨ rd = 14)) ∧ ((0 ≤ rn ∧ rn ≤ 12 ∨ rn = 14)) ∧ ((0 ≤ rm ∧ rm ≤ 12 ∨ rm = 14)) ∧ ((0 ≤ ra ∧ ra ≤ 12 ∨ ra = 14)) ∧ (im = 0) ∧ (kd = 0) ∧ (bs = 0) ∧ (st = 0) ∧ (cd = 0) ∧ (rg = 0)) : cF f 30 (add 30 rd rn rm ra im kd bs st cd rg) = [rd, rn, rm, ra, im, kd, bs, st, cd, rg] := by
  rw [cF_30, add_30]
  refine list10 ?_ ?_ ?_ ?_ ?_ ?_ ?_ ?_ ?_ ?_ <;> omega
theorem cb_31 {f rd rn rm ra im kd bs st cd rg : Int} (l : ((0 ≤ rd ∧ rd ≤ 12 ∨ rd = 14)) ∧ ((0 ≤ rn ∧ rn ≤ 12 ∨ rn = 14)) ∧ ((0 ≤ rm ∧ rm ≤ 12 ∨ rm = 14)) ∧ ((0 ≤ ra ∧ ra ≤ 12 ∨ ra = 14)) ∧ (im = 0) ∧ (kd = 0) ∧ (bs = 0) ∧ (st = 0) ∧ (cd = 0) ∧ (rg = 0)) : cF f 31 (add 31 rd rn rm ra im kd bs st cd rg) = [rd, rn, rm, ra, im, kd, bs, st, cd, rg] := by
  rw [cF_31, add_31]
  refine list10 ?_ ?_ ?_ ?_ ?_ ?_ ?_ ?_ ?_ ?_ <;> omega
theorem cb_32 {f rd rn rm ra im kd bs st cd rg : Int} (l : ((0 ≤ rd ∧ rd ≤ 12 ∨ rd = 14)) ∧ (rn = 0) ∧ ((0 ≤ rm ∧ rm ≤ 12 ∨ rm = 14)) ∧ (ra = 0) ∧ (im = 0) ∧ (kd = 0) ∧ (bs = 0) ∧ (st = 0) ∧ (cd = 0) ∧ (rg = 0)) : cF f 32 (add 32 rd rn rm ra im kd bs st cd rg) = [rd, rn, rm, ra, im, kd, bs, st, cd, rg] := by
  rw [cF_32, add_32]
  have b1 : 0 ≤ rd ∧ rd ≤ 15 := by omega
  have b3 : 0 ≤ rm ∧ rm ≤ 15 := by omega
  have e1 : ∀ r, 0 ≤ r → r ≤ 15 → (r * 65536 + rd * 256 + rm) / 256 % 16 = rd := by clear l; intro r r0 r1; omega
  have e2 : ∀ r, 0 ≤ r → r ≤ 15 → (r * 65536 + rd * 256 + rm) % 16 = rm := by clear l e1; intro r r0 r1; omega
  rw [e1 rm b3.1 b3.2, e2 rm b3.1 b3.2]
  clear e1 e2
  refine list10 rfl ?_ rfl ?_ ?_ ?_ ?_ ?_ ?_ ?_ <;> omega
theorem cb_33 {f rd rn rm ra im kd bs st cd rg : Int} (l : (rd = 0) ∧ (rn = 0) ∧ (rm = 0) ∧ (ra = 0) ∧ (-1048576 ≤ im ∧ im ≤ 1048574 ∧ im % 2 = 0) ∧ (kd = 0) ∧ (bs = 0) ∧ (st = 0) ∧ (0 ≤ cd ∧ cd ≤ 13) ∧ (rg = 0)) : cF f 33 (add 33 rd rn rm ra im kd bs st cd rg) = [rd, rn, rm, ra, im, kd, bs, st, cd, rg] := by
  rw [cF_33, add_33]
  unfold ofc sx
  have z : rd = 0 ∧ rn = 0 ∧ rm = 0 ∧ ra = 0 ∧ kd = 0 ∧ bs = 0 ∧ st = 0 ∧ rg = 0 := by omega
  have bi : -1048576 ≤ im ∧ im ≤ 1048574 ∧ im % 2 = 0 := by omega
  have bc : 0 ≤ cd ∧ cd ≤ 15 := by omega
  clear l
  obtain ⟨a, ha⟩ : ∃ a, a = im / 1048576 % 2 := ⟨_, rfl⟩
  obtain ⟨b, hb⟩ : ∃ b, b = im / 4096 % 64 := ⟨_, rfl⟩
  obtain ⟨c, hc⟩ : ∃ c, c = im / 262144 % 2 := ⟨_, rfl⟩
  obtain ⟨d, hd⟩ : ∃ d, d = im / 524288 % 2 := ⟨_, rfl⟩
  obtain ⟨e, he⟩ : ∃ e, e = im / 2 % 2048 := ⟨_, rfl⟩
  rw [← ha, ← hb, ← hc, ← hd, ← he]
  have ba : 0 ≤ a ∧ a ≤ 1 := by omega
  have bb : 0 ≤ b ∧ b ≤ 63 := by omega
  have bc' : 0 ≤ c ∧ c ≤ 1 := by omega
  have bd : 0 ≤ d ∧ d ≤ 1 := by omega
  have be : 0 ≤ e ∧ e ≤ 2047 := by omega
  have hi : a * 1048576 + d * 524288 + c * 262144 + b * 4096 + e * 2 - a * 2097152 = im := by omega
  clear ha hb hc hd he bi
  have ea : (a * 67108864 + cd * 4194304 + b * 65536 + c * 8192 + d * 2048 + e) / 67108864 % 2 = a := by clear hi; omega
  have ed : (a * 67108864 + cd * 4194304 + b * 65536 + c * 8192 + d * 2048 + e) / 2048 % 2 = d := by clear hi; omega
  have ec : (a * 67108864 + cd * 4194304 + b * 65536 + c * 8192 + d * 2048 + e) / 8192 % 2 = c := by clear hi; omega
  have eb : (a * 67108864 + cd * 4194304 + b * 65536 + c * 8192 + d * 2048 + e) / 65536 % 64 = b := by clear hi; omega
  have ee : (a * 67108864 + cd * 4194304 + b * 65536 + c * 8192 + d * 2048 + e) % 2048 = e := by clear hi; omega
  rw [ea, ed, ec, eb, ee]
  clear ea ed ec eb ee
  have es : (a * 1048576 + d * 524288 + c * 262144 + b * 4096 + e * 2) / 1048576 % 2 = a := by clear hi; omega
  rw [es]
  clear es
  refine list10 (by omega) (by omega) (by omega) (by omega) (by omega) (by omega) (by omega) (by omega) ?_ (by omega)
  clear hi; omega
theorem cb_34 {f rd rn rm ra im kd bs st cd rg : Int} (l : (rd = 0) ∧ (rn = 0) ∧ (rm = 0) ∧ (ra = 0) ∧ (-16777216 ≤ im ∧ im ≤ 16777214 ∧ im % 2 = 0) ∧ (kd = 0) ∧ (bs = 0) ∧ (st = 0) ∧ (cd = 0) ∧ (rg = 0)) : cF f 34 (add 34 rd rn rm ra im kd bs st cd rg) = [rd, rn, rm, ra, im, kd, bs, st, cd, rg] := by
  rw [cF_34, add_34]
  have z : rd = 0 ∧ rn = 0 ∧ rm = 0 ∧ ra = 0 ∧ kd = 0 ∧ bs = 0 ∧ st = 0 ∧ cd = 0 ∧ rg = 0 := by omega
  have bi : -16777216 ≤ im ∧ im ≤ 16777214 ∧ im % 2 = 0 := by omega
  clear l
  refine list10 (by omega) (by omega) (by omega) (by omega) ?_ (by omega) (by omega) (by omega) (by omega) (by omega)
  clear z
  have b1 := j1_bd im
  have b2 := j2_bd im
  have k1 : j1 im = sm (im / 8388608 % 2) (im / 16777216 % 2) := rfl
  have k2 : j2 im = sm (im / 4194304 % 2) (im / 16777216 % 2) := rfl
  obtain ⟨a, ha⟩ : ∃ a, a = im / 16777216 % 2 := ⟨_, rfl⟩
  obtain ⟨b, hb⟩ : ∃ b, b = im / 4096 % 1024 := ⟨_, rfl⟩
  obtain ⟨e, he⟩ : ∃ e, e = im / 2 % 2048 := ⟨_, rfl⟩
  obtain ⟨p, hp⟩ : ∃ p, p = im / 8388608 % 2 := ⟨_, rfl⟩
  obtain ⟨q, hq⟩ : ∃ q, q = im / 4194304 % 2 := ⟨_, rfl⟩
  rw [← ha, ← hp] at k1
  rw [← ha, ← hq] at k2
  rw [← ha, ← hb, ← he]
  generalize j1 im = c at *
  generalize j2 im = d at *
  have ba : 0 ≤ a ∧ a ≤ 1 := by omega
  have bb : 0 ≤ b ∧ b ≤ 1023 := by omega
  have be : 0 ≤ e ∧ e ≤ 2047 := by omega
  have bp : 0 ≤ p ∧ p ≤ 1 := by omega
  have bq : 0 ≤ q ∧ q ≤ 1 := by omega
  have hi : a * 16777216 + p * 8388608 + q * 4194304 + b * 4096 + e * 2 - a * 33554432 = im := by omega
  clear ha hb he hp hq bi
  unfold ofj sx
  have ea : (a * 67108864 + b * 65536 + c * 8192 + d * 2048 + e) / 67108864 % 2 = a := by clear hi k1 k2; omega
  have ed : (a * 67108864 + b * 65536 + c * 8192 + d * 2048 + e) / 2048 % 2 = d := by clear hi k1 k2; omega
  have ec : (a * 67108864 + b * 65536 + c * 8192 + d * 2048 + e) / 8192 % 2 = c := by clear hi k1 k2; omega
  have eb : (a * 67108864 + b * 65536 + c * 8192 + d * 2048 + e) / 65536 % 1024 = b := by clear hi k1 k2; omega
  have ee : (a * 67108864 + b * 65536 + c * 8192 + d * 2048 + e) % 2048 = e := by clear hi k1 k2; omega
  rw [ea, ed, ec, eb, ee]
  have mc : sm c a = p := by rw [k1]; unfold sm; split <;> split <;> omega
  have md : sm d a = q := by rw [k2]; unfold sm; split <;> split <;> omega
  rw [mc, md]
  clear ea ed ec eb ee
  have es : (a * 16777216 + p * 8388608 + q * 4194304 + b * 4096 + e * 2) / 16777216 % 2 = a := by clear hi k1 k2 mc md; omega
  rw [es]
  omega

theorem own_back {f rd rn rm ra im kd bs st cd rg : Int} (h : right f rd rn rm ra im kd bs st cd rg = true) (g0 : -9223372036854775808 ≤ rg) (g1 : rg ≤ 9223372036854775807) : cF f (shp f) (add (shp f) rd rn rm ra im kd bs st cd rg) = [rd, rn, rm, ra, im, kd, bs, st, cd, rg] := by
  obtain ⟨⟨i0, i1⟩, h⟩ := at_own h g0 g1
  have hs := shp_yes (isF_yes ⟨i0, i1⟩)
  generalize shp f = s at *
  clear i0 i1 g0 g1
  obtain ⟨s0, s1, _⟩ := hs
  rcases (show s = 1 ∨ s = 2 ∨ s = 3 ∨ s = 4 ∨ s = 5 ∨ s = 6 ∨ s = 7 ∨ s = 8 ∨ s = 9 ∨ s = 10 ∨ s = 11 ∨ s = 12 ∨ 13 ≤ s by omega) with rfl | rfl | rfl | rfl | rfl | rfl | rfl | rfl | rfl | rfl | rfl | rfl | hk
  · exact cb_1 (lin_1 h)
  · exact cb_2 (lin_2 h)
  · exact cb_3 (lin_3 h)
  · exact cb_4 (lin_4 h)
  · exact cb_5 (lin_5 h)
  · exact cb_6 (lin_6 h)
  · exact cb_7 (lin_7 h)
  · exact cb_8 (lin_8 h)
  · exact cb_9 (lin_9 h)
  · exact cb_10 (lin_10 h)
  · exact cb_11 (lin_11 h)
  · exact cb_12 (lin_12 h)
  rcases (show s = 13 ∨ s = 14 ∨ s = 15 ∨ s = 16 ∨ s = 17 ∨ s = 18 ∨ s = 19 ∨ s = 20 ∨ s = 21 ∨ s = 22 ∨ s = 23 ∨ s = 24 ∨ 25 ≤ s by omega) with rfl | rfl | rfl | rfl | rfl | rfl | rfl | rfl | rfl | rfl | rfl | rfl | hk
  · exact cb_13 (lin_13 h)
  · exact cb_14 (lin_14 h)
  · exact cb_15 (lin_15 h)
  · exact cb_16 (lin_16 h)
  · exact cb_17 (lin_17 h)
  · exact cb_18 (lin_18 h)
  · exact cb_19 (lin_19 h)
  · exact cb_20 (lin_20 h)
  · exact cb_21 (lin_21 h)
  · exact cb_22 (lin_22 h)
  · exact cb_23 (lin_23 h)
  · exact cb_24 (lin_24 h)
  rcases (show s = 25 ∨ s = 26 ∨ s = 27 ∨ s = 28 ∨ s = 29 ∨ s = 30 ∨ s = 31 ∨ s = 32 ∨ s = 33 ∨ s = 34 by omega) with rfl | rfl | rfl | rfl | rfl | rfl | rfl | rfl | rfl | rfl
  · exact cb_25 (lin_25 h)
  · exact cb_26 (lin_26 h)
  · exact cb_27 (lin_27 h)
  · exact cb_28 (lin_28 h)
  · exact cb_29 (lin_29 h)
  · exact cb_30 (lin_30 h)
  · exact cb_31 (lin_31 h)
  · exact cb_32 (lin_32 h)
  · exact cb_33 (lin_33 h)
  · exact cb_34 (lin_34 h)

end Go.Proofs.YtegefbndpkbooaaDoor.Code

