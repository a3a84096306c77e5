/- The program's way and the document's say the same of every instruction. -/
import Derived.Test.YtpgcnbipnjcniaaDoorInstMath
import Derived.Test.YtpgcnbipnjcniaaDoorBits64
set_option linter.unusedVariables false
set_option linter.unusedSimpArgs false
namespace Go.Proofs.YtpgcnbipnjcniaaDoor.Inst
open Go.Proofs.YtpgcnbipnjcniaaDoor.Alu Go.Proofs.YtpgcnbipnjcniaaDoor.Imm

theorem wrd_eq (n : Int) : wrd n = wrf n := by
  unfold wrd wrf wi
  by_cases h : n < 0 ∨ 4096 ≤ n
  · rw [er_out h, decide_eq_false (by decide), decide_eq_false (by omega)]; rfl
  · rw [decide_eq_true (show 0 ≤ n ∧ n ≤ 4095 by omega)]
    cases hh : has n
    · rw [er_no (by omega) (by omega) hh]; rfl
    · rw [er_of (by omega) (by omega) hh]; rfl

theorem brl_eq (k b : Int) : brl k b = brf k b := by
  unfold brl brf stp wi
  rw [Bool.eq_iff_iff]
  split
  · simp only [decide_eq_true_eq]; omega
  · split
    · rw [if_neg (by omega)]; simp only [Bool.and_eq_true, decide_eq_true_eq]; omega
    · split
      · simp only [decide_eq_true_eq]; omega
      · simp only [Bool.and_eq_true, decide_eq_true_eq, Bool.false_eq_true, false_iff]; omega

theorem stp1 (n a b : Int) : stp n a b 1 = wi n a b := by unfold stp wi; rw [decide_eq_decide]; omega
theorem stp2 (n a b : Int) : stp n a b 2 = (wi n a b && decide (n % 2 = 0)) := by unfold stp wi; rw [Bool.eq_iff_iff]; simp only [Bool.and_eq_true, decide_eq_true_eq]; omega
theorem stp4 (n a b : Int) : stp n a b 4 = (wi n a b && decide (n % 4 = 0)) := by unfold stp wi; rw [Bool.eq_iff_iff]; simp only [Bool.and_eq_true, decide_eq_true_eq]; omega

theorem i64_andNot_nat (a b : Nat) (ha : a < 9223372036854775808) (hb : b < 9223372036854775808) : bits .andNot .i64 (a : Int) (b : Int) = ((a &&& (18446744073709551615 - b) : Nat) : Int) := by
  have hx : a &&& (18446744073709551615 - b) < 2 ^ 63 := by
    rw [Nat.and_comm]; exact Nat.and_lt_two_pow _ (by omega)
  show IntKind.i64.wrap ((BitVec.ofInt 64 (a : Int) &&& ~~~ BitVec.ofInt 64 (b : Int)).toNat : Int) = _
  rw [BitVec.toNat_and, BitVec.toNat_not, ofInt_i64 a ha, ofInt_i64 b hb, IntKind.wrap_i64]
  have e : 2 ^ 64 - 1 - b = 18446744073709551615 - b := by omega
  rw [e]
  omega

theorem i64_andNot_neg (a : Int) (b : Nat) (h0 : -9223372036854775808 ≤ a) (h1 : a < 0) (hb : b < 9223372036854775808) : bits .andNot .i64 a (b : Int) ≠ 0 := by
  obtain ⟨n, hn, e⟩ : ∃ n : Nat, n < 9223372036854775808 ∧ (BitVec.ofInt 64 a).toNat = n + 9223372036854775808 := by
    refine ⟨(a + 9223372036854775808).toNat, by omega, ?_⟩
    rw [BitVec.toNat_ofInt]; omega
  show IntKind.i64.wrap ((BitVec.ofInt 64 a &&& ~~~ BitVec.ofInt 64 (b : Int)).toNat : Int) ≠ 0
  rw [BitVec.toNat_and, BitVec.toNat_not, ofInt_i64 b hb, e, IntKind.wrap_i64]
  have t : ((n + 9223372036854775808) &&& (2 ^ 64 - 1 - b)).testBit 63 = true := by
    rw [Nat.testBit_and, Bool.and_eq_true]
    constructor
    · rw [Nat.add_comm, show (9223372036854775808 : Nat) = 2 ^ 63 from rfl, Nat.testBit_two_pow_add_eq, Nat.testBit_lt_two_pow (by omega)]; rfl
    · obtain ⟨m, hm, e2⟩ : ∃ m : Nat, m < 2 ^ 63 ∧ 2 ^ 64 - 1 - b = 2 ^ 63 + m := ⟨9223372036854775807 - b, by omega, by omega⟩
      rw [e2, Nat.testBit_two_pow_add_eq, Nat.testBit_lt_two_pow hm]; rfl
  have g : 2 ^ 63 ≤ ((n + 9223372036854775808) &&& (2 ^ 64 - 1 - b)) := Nat.ge_two_pow_of_testBit t
  have l : ((n + 9223372036854775808) &&& (2 ^ 64 - 1 - b)) < 2 ^ 64 := Nat.and_lt_two_pow _ (by omega)
  omega

/-- A number and the other bits of a mask of eight low bits and one upper one: nothing, just if beside the low ones it has that one alone. -/
theorem and_zero (l p : Nat) (hp : 8 ≤ p) (hp2 : p < 63) (hl : l < 9223372036854775808) : (l &&& (18446744073709551615 - (255 + 2 ^ p))) = 0 ↔ l < 256 ∨ (2 ^ p ≤ l ∧ l < 2 ^ p + 256) := by
  have hpow : 2 ^ p ≤ 2 ^ 62 := Nat.pow_le_pow_right (by decide) (by omega)
  have hpow8 : 2 ^ 8 ≤ 2 ^ p := Nat.pow_le_pow_right (by decide) hp
  have hm : ∀ i, i < 64 → (18446744073709551615 - (255 + 2 ^ p)).testBit i = !((255 + 2 ^ p).testBit i) := by
    intro i hi
    have : 18446744073709551615 - (255 + 2 ^ p) = 2 ^ 64 - ((255 + 2 ^ p) + 1) := by omega
    rw [this, Nat.testBit_two_pow_sub_succ (by omega)]
    simp [hi]
  have ht : ∀ i, (255 + 2 ^ p).testBit i = (decide (i < 8) || decide (i = p)) := by
    intro i
    rw [Nat.add_comm]
    have e1 := Nat.two_pow_add_eq_or_of_lt (i := p) (b := 255) (by omega) 1
    rw [Nat.mul_one] at e1
    rw [e1, Nat.testBit_or, Nat.testBit_two_pow, show (255 : Nat) = 2 ^ 8 - 1 from rfl, Nat.testBit_two_pow_sub_one]
    rw [Bool.or_comm]
    congr 1
    rw [decide_eq_decide]; exact eq_comm
  constructor
  · intro h
    have hz : ∀ i, l.testBit i = true → i < 8 ∨ i = p := by
      intro i hi
      by_cases h64 : i < 64
      · have := congrArg (fun x => Nat.testBit x i) h
        simp only [Nat.testBit_and, hm i h64, ht i, hi, Nat.zero_testBit, Bool.true_and] at this
        have h2 : 8 ≤ i → i = p := by simpa using this
        omega
      · have : l < 2 ^ i := Nat.lt_of_lt_of_le hl (Nat.pow_le_pow_right (n := 2) (by decide) (show 63 ≤ i by omega))
        rw [Nat.testBit_lt_two_pow this] at hi; cases hi
    cases hb : l.testBit p
    · refine .inl ?_
      apply Nat.lt_pow_two_of_testBit (n := 8)
      intro i hi
      cases hc : l.testBit i
      · rfl
      · rcases hz i hc with h' | rfl
        · omega
        · rw [hb] at hc; cases hc
    · refine .inr ?_
      have h1 : 2 ^ p ≤ l := Nat.ge_two_pow_of_testBit hb
      refine ⟨h1, ?_⟩
      have : l - 2 ^ p < 2 ^ 8 := by
        apply Nat.lt_pow_two_of_testBit (n := 8)
        intro i hi
        have e : l = 2 ^ p + (l - 2 ^ p) := by omega
        have hlt : l < 2 ^ (p + 1) := by
          apply Nat.lt_pow_two_of_testBit
          intro j hj
          cases hc : l.testBit j
          · rfl
          · rcases hz j hc with h' | rfl <;> omega
        have hs : l - 2 ^ p < 2 ^ p := by rw [Nat.pow_succ] at hlt; omega
        cases hc : (l - 2 ^ p).testBit i
        · rfl
        · have hip : i < p := by
            rcases Nat.lt_or_ge i p with h' | h'
            · exact h'
            · rw [Nat.testBit_lt_two_pow (Nat.lt_of_lt_of_le hs (Nat.pow_le_pow_right (by decide) h'))] at hc; cases hc
          have hl' : l.testBit i = true := by rw [e, Nat.testBit_two_pow_add_gt hip]; exact hc
          rcases hz i hl' with h' | h' <;> omega
      omega
  · intro h
    apply Nat.eq_of_testBit_eq
    intro i
    rw [Nat.testBit_and, Nat.zero_testBit]
    by_cases h64 : i < 64
    · rw [hm i h64, ht i]
      cases hc : l.testBit i
      · rfl
      · have : i < 8 ∨ i = p := by
          rcases h with h | ⟨h1, h2⟩
          · rcases Nat.lt_or_ge i 8 with h' | h'
            · exact .inl h'
            · rw [Nat.testBit_lt_two_pow (Nat.lt_of_lt_of_le (show l < 2 ^ 8 by omega) (Nat.pow_le_pow_right (by decide) h'))] at hc; cases hc
          · have e : l = 2 ^ p + (l - 2 ^ p) := by omega
            rw [e] at hc
            rcases Nat.lt_trichotomy i p with h' | h' | h'
            · rw [Nat.testBit_two_pow_add_gt h'] at hc
              rcases Nat.lt_or_ge i 8 with h8 | h8
              · exact .inl h8
              · rw [Nat.testBit_lt_two_pow (Nat.lt_of_lt_of_le (show l - 2 ^ p < 2 ^ 8 by omega) (Nat.pow_le_pow_right (by decide) h8))] at hc; cases hc
            · exact .inr h'
            · have : 2 ^ p + (l - 2 ^ p) < 2 ^ (p + 1) := by rw [Nat.pow_succ]; omega
              rw [Nat.testBit_lt_two_pow (Nat.lt_of_lt_of_le this (Nat.pow_le_pow_right (by decide) h'))] at hc; cases hc
        simp; omega
    · rw [Nat.testBit_lt_two_pow (Nat.lt_of_lt_of_le hl (Nat.pow_le_pow_right (n := 2) (by decide) (show 63 ≤ i by omega)))]; rfl

theorem som_eq (l : Int) (p : Nat) (hp : 8 ≤ p) (hp2 : p < 63) (m q : Int) (hm : m = ((255 + 2 ^ p : Nat) : Int)) (hq : q = ((2 ^ p : Nat) : Int)) (h0 : -9223372036854775808 ≤ l) (h1 : l ≤ 9223372036854775807) :
    som l m = (wi l 1 255 || wi l q (q + 255)) := by
  have hpow : 2 ^ p ≤ 2 ^ 62 := Nat.pow_le_pow_right (by decide) (by omega)
  have hpow8 : 2 ^ 8 ≤ 2 ^ p := Nat.pow_le_pow_right (by decide) hp
  subst hm hq
  unfold som wi
  by_cases h : l < 0
  · rw [decide_eq_false (i64_andNot_neg l _ h0 h (by omega)), Bool.and_false, eq_comm, Bool.or_eq_false_iff, decide_eq_false_iff_not, decide_eq_false_iff_not]; constructor <;> omega
  · obtain ⟨n, rfl⟩ := Int.eq_ofNat_of_zero_le (show 0 ≤ l by omega)
    rw [i64_andNot_nat n _ (by omega) (by omega)]
    have := and_zero n p hp hp2 (by omega)
    rw [Bool.eq_iff_iff]
    simp only [Bool.and_eq_true, Bool.or_eq_true, decide_eq_true_eq]
    have e : ((n &&& (18446744073709551615 - (255 + 2 ^ p)) : Nat) : Int) = 0 ↔ (n &&& (18446744073709551615 - (255 + 2 ^ p))) = 0 := by omega
    rw [e, this]
    omega

theorem som_push (l : Int) (h0 : -9223372036854775808 ≤ l) (h1 : l ≤ 9223372036854775807) : som l 16639 = (wi l 1 255 || wi l 16384 16639) :=
  som_eq l 14 (by decide) (by decide) 16639 16384 (by decide) (by decide) h0 h1
theorem som_pop (l : Int) (h0 : -9223372036854775808 ≤ l) (h1 : l ≤ 9223372036854775807) : som l 33023 = (wi l 1 255 || wi l 32768 33023) :=
  som_eq l 15 (by decide) (by decide) 33023 32768 (by decide) (by decide) h0 h1

theorem low_eq (r : Int) : low r = wi r 0 7 := rfl

set_option maxHeartbeats 2000000 in
/-- Both ways, at one shape. -/
theorem at_shape (f s rd rn rm ra im kd bs st cd rg : Int) (h1 : 1 ≤ s) (h2 : s ≤ 34) (h29 : f = 29 → s = 6) (g0 : -9223372036854775808 ≤ rg) (g1 : rg ≤ 9223372036854775807) :
    (regR s rd rn rm ra && (pairR f s rd rm ra && (immR f s im && (shiR s kd bs && (setR s st && (cndR s cd && rgsR s rg)))))) =
    (if s < 17 then narrowB f s rd rn rm ra im kd bs st cd rg else wideB s rd rn rm ra im kd bs st cd rg) := by
  have hp := som_push rg g0 g1
  have hq := som_pop rg g0 g1
  have hw := wrd_eq im
  have hb := brl_eq kd bs
  obtain ⟨bw, hbw⟩ : ∃ b, wrf im = b := ⟨_, rfl⟩
  obtain ⟨bb, hbb⟩ : ∃ b, brf kd bs = b := ⟨_, rfl⟩
  rw [hbw] at hw
  rw [hbb] at hb
  by_cases hf : f = 29
  · obtain rfl := h29 hf
    subst hf
    simp only [regR, pairR, immR, shiR, setR, cndR, rgsR, narrowB, inB, cls_low, cls_any, cls_wide, cls_none, low_eq, only, may, wid]
    simp +decide only [if_true, if_false]
    rw [Bool.eq_iff_iff]
    simp +decide only [wi, Bool.and_eq_true, Bool.or_eq_true, Bool.not_eq_true', decide_eq_true_eq, decide_eq_false_iff_not, Bool.false_eq_true, false_and, and_false, or_false, false_or, true_or, or_true, true_and, and_true, not_true, not_false_iff, ne_eq]
    omega
  clear h29
  obtain rfl | rfl | rfl | rfl | rfl | rfl | rfl | rfl | rfl | rfl | rfl | rfl | rfl | rfl | rfl | rfl | rfl | rfl | rfl | rfl | rfl | rfl | rfl | rfl | rfl | rfl | rfl | rfl | rfl | rfl | rfl | rfl | rfl | rfl : s = 1 ∨ s = 2 ∨ s = 3 ∨ s = 4 ∨ s = 5 ∨ s = 6 ∨ s = 7 ∨ s = 8 ∨ s = 9 ∨ s = 10 ∨ s = 11 ∨ s = 12 ∨ s = 13 ∨ s = 14 ∨ s = 15 ∨ s = 16 ∨ s = 17 ∨ s = 18 ∨ s = 19 ∨ s = 20 ∨ s = 21 ∨ s = 22 ∨ s = 23 ∨ s = 24 ∨ s = 25 ∨ s = 26 ∨ s = 27 ∨ s = 28 ∨ s = 29 ∨ s = 30 ∨ s = 31 ∨ s = 32 ∨ s = 33 ∨ s = 34 := by omega
  all_goals
    simp only [regR, pairR, immR, shiR, setR, cndR, rgsR, narrowB, plainB, wideB, moreB, inB, cls_low, cls_any, cls_wide, cls_none, stp1, stp2, stp4, hp, hq, hw, hb, hbw, hbb, low_eq, only, may, wid]
    clear hp hq hw hb hbw hbb g0 g1
    simp +decide only [if_true, if_false]
    rw [Bool.eq_iff_iff]
    by_cases h1f : f = 1 <;> simp +decide only [hf, h1f, wi, if_true, if_false, Bool.and_eq_true, Bool.or_eq_true, Bool.not_eq_true', decide_eq_true_eq, decide_eq_false_iff_not, Bool.false_eq_true, false_and, and_false, or_false, false_or, true_or, or_true, or_false, true_and, and_true, not_true, not_false_iff, ne_eq, decide_true, decide_false] <;> first | omega | (cases bw <;> cases bb <;> simp only [Bool.false_eq_true, and_false, false_and, true_and, and_true, eq_self, iff_self] <;> omega)

theorem right_eq (f rd rn rm ra im kd bs st cd rg : Int) (g0 : -9223372036854775808 ≤ rg) (g1 : rg ≤ 9223372036854775807) :
    right f rd rn rm ra im kd bs st cd rg = refR f rd rn rm ra im kd bs st cd rg := by
  unfold right refR
  cases h : isF f
  · rw [shp_no h]; rfl
  · have hs := shp_yes h
    rw [Bool.true_and, if_neg (by omega)]
    exact at_shape f (shp f) rd rn rm ra im kd bs st cd rg hs.1 hs.2.1 hs.2.2 g0 g1

end Go.Proofs.YtpgcnbipnjcniaaDoor.Inst
