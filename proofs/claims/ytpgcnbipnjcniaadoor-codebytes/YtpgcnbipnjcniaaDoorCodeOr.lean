/- Words as sums of parts that have no bit in common. -/
import Derived.WalkKit
import Derived.Laws.BitsAllLaws
import Derived.Test.YtpgcnbipnjcniaaDoorBits64
set_option linter.unusedVariables false
namespace Go.Proofs.YtpgcnbipnjcniaaDoor.Code

theorem or_add : ∀ a b : Nat, a &&& b = 0 → a ||| b = a + b := by
  intro a
  induction a using Nat.strongRecOn with
  | ind a ih =>
    intro b h
    by_cases ha : a = 0
    · subst ha; simp
    · have h1 : (a / 2) &&& (b / 2) = 0 := by rw [← Nat.and_div_two, h]
      have h2 := ih (a / 2) (by omega) (b / 2) h1
      have h3 : (a ||| b) / 2 = a / 2 ||| b / 2 := Nat.or_div_two
      have t : (a &&& b).testBit 0 = (0 : Nat).testBit 0 := by rw [h]
      rw [Nat.testBit_and, Nat.zero_testBit] at t
      simp only [Nat.testBit_zero] at t
      have t' : ¬ (a % 2 = 1 ∧ b % 2 = 1) := by
        intro ⟨x, y⟩; simp [x, y] at t
      have u : (a ||| b).testBit 0 = (a.testBit 0 || b.testBit 0) := Nat.testBit_or a b 0
      simp only [Nat.testBit_zero] at u
      have v : (a ||| b) % 2 = 1 ↔ a % 2 = 1 ∨ b % 2 = 1 := by
        have := Bool.eq_iff_iff.1 u
        simp only [Bool.or_eq_true, decide_eq_true_eq] at this
        exact this
      omega

/-- A number has its bits among those of a mask. -/
def In (a : Int) (m : Nat) : Prop := 0 ≤ a ∧ a.toNat &&& m = a.toNat ∧ m < 4294967296
theorem In.le {a : Int} {m : Nat} (h : In a m) : 0 ≤ a ∧ a < 4294967296 := by
  obtain ⟨h0, h1, h2⟩ := h
  have : a.toNat &&& m ≤ m := Nat.and_le_right
  omega
theorem in_piece (c k : Nat) (p m : Nat) (n a : Int) (hp : 2 ^ k = p) (hm : (2 ^ c - 1) * p = m) (hn : 0 ≤ n) (hn2 : n < 2 ^ c) (hl : m < 4294967296) (ha : a = n * p) : In a m := by
  subst hp hm ha
  obtain ⟨N, rfl⟩ := Int.eq_ofNat_of_zero_le hn
  have e : (N : Int) * ((2 ^ k : Nat) : Int) = ((N * 2 ^ k : Nat) : Int) := by simp
  have hN : N < 2 ^ c := by exact_mod_cast hn2
  rw [e]
  refine ⟨by omega, ?_, hl⟩
  rw [Int.toNat_natCast, ← Nat.shiftLeft_eq, ← Nat.shiftLeft_eq, ← Nat.shiftLeft_and_distrib, Nat.and_two_pow_sub_one_eq_mod, Nat.mod_eq_of_lt hN]
theorem and_of {a b m k : Nat} (ha : a &&& m = a) (hb : b &&& k = b) (h : m &&& k = 0) : a &&& b = 0 := by
  rw [← ha, ← hb]
  calc (a &&& m) &&& (b &&& k) = (a &&& b) &&& (m &&& k) := by
        apply Nat.eq_of_testBit_eq; intro i; simp only [Nat.testBit_and]
        cases a.testBit i <;> cases m.testBit i <;> cases b.testBit i <;> rfl
    _ = 0 := by rw [h, Nat.and_zero]
theorem or_of {a b m k : Nat} (ha : a &&& m = a) (hb : b &&& k = b) : (a ||| b) &&& (m ||| k) = a ||| b := by
  apply Nat.eq_of_testBit_eq; intro i
  have h1 := congrArg (fun x => Nat.testBit x i) ha
  have h2 := congrArg (fun x => Nat.testBit x i) hb
  simp only [Nat.testBit_and, Nat.testBit_or] at *
  revert h1 h2
  cases a.testBit i <;> cases m.testBit i <;> cases b.testBit i <;> cases k.testBit i <;> simp
theorem in_join {a b : Int} {m k : Nat} (ha : In a m) (hb : In b k) (h : m &&& k = 0) : bits .or .u32 a b = a + b ∧ In (a + b) (m ||| k) := by
  have la := ha.le
  have lb := hb.le
  obtain ⟨a0, a1, a2⟩ := ha
  obtain ⟨b0, b1, b2⟩ := hb
  have e := or_add _ _ (and_of a1 b1 h)
  have en : (a + b).toNat = a.toNat ||| b.toNat := by rw [e]; omega
  refine ⟨by rw [u32_or a b la.1 la.2 lb.1 lb.2, e]; omega, by omega, ?_, ?_⟩
  · rw [en]; exact or_of a1 b1
  · exact Nat.or_lt_two_pow (n := 32) a2 b2
theorem in_join64 {a b : Int} {m k : Nat} (ha : In a m) (hb : In b k) (h : m &&& k = 0) : bits .or .i64 a b = a + b ∧ In (a + b) (m ||| k) := by
  have la := ha.le
  have lb := hb.le
  obtain ⟨a0, a1, a2⟩ := ha
  obtain ⟨b0, b1, b2⟩ := hb
  have e := or_add _ _ (and_of a1 b1 h)
  have en : (a + b).toNat = a.toNat ||| b.toNat := by rw [e]; omega
  refine ⟨by rw [Alu.i64_or a b (by omega) (by omega) (by omega) (by omega), e]; omega, by omega, ?_, ?_⟩
  · rw [en]; exact or_of a1 b1
  · exact Nat.or_lt_two_pow (n := 32) a2 b2
theorem in_zero (m : Nat) (h : m < 4294967296) : In 0 m := ⟨by decide, by simp, h⟩
theorem In.wider {a : Int} {m k : Nat} (h : In a m) (hk : m &&& k = m) (hl : k < 4294967296) : In a k := by
  obtain ⟨h0, h1, h2⟩ := h
  refine ⟨h0, ?_, hl⟩
  rw [← h1, Nat.and_assoc, hk]
/-- Of two numbers without a bit in common: the sum less one is the other, by its bits. -/
theorem in_less {a b : Int} {m k : Nat} (ha : In a m) (hb : In b k) (h : m &&& k = 0) : bits .and .u32 (a + b) a = a ∧ bits .andNot .u32 (a + b) a = b := by
  have hs := (in_join ha hb h).2.le
  have la := ha.le
  have lb := hb.le
  obtain ⟨a0, a1, a2⟩ := ha
  obtain ⟨b0, b1, b2⟩ := hb
  have hz := and_of a1 b1 h
  have e := or_add _ _ hz
  have en : (a + b).toNat = a.toNat ||| b.toNat := by rw [e]; omega
  rw [u32_and _ _ hs.1 hs.2 la.1 la.2, u32_andNot _ _ hs.1 hs.2 la.1 la.2, en]
  obtain ⟨A, rfl⟩ := Int.eq_ofNat_of_zero_le la.1
  obtain ⟨B, rfl⟩ := Int.eq_ofNat_of_zero_le lb.1
  simp only [Int.toNat_natCast] at *
  constructor
  · have : (A ||| B) &&& A = A := by
      apply Nat.eq_of_testBit_eq; intro i; simp only [Nat.testBit_and, Nat.testBit_or]
      cases A.testBit i <;> cases B.testBit i <;> rfl
    rw [this]
  · have : (A ||| B) &&& (4294967295 - A) = B := by
      apply Nat.eq_of_testBit_eq; intro i
      have h1 := congrArg (fun x => Nat.testBit x i) hz
      have e2 : 4294967295 - A = 2 ^ 32 - (A + 1) := by omega
      rw [e2, Nat.testBit_and, Nat.testBit_or, Nat.testBit_two_pow_sub_succ (by omega)]
      simp only [Nat.testBit_and, Nat.zero_testBit] at h1
      by_cases hi : i < 32
      · revert h1
        simp only [hi, decide_true, Bool.true_and]
        cases A.testBit i <;> cases B.testBit i <;> simp
      · have hB : B.testBit i = false := Nat.testBit_lt_two_pow (Nat.lt_of_lt_of_le (show B < 2 ^ 32 by omega) (Nat.pow_le_pow_right (by decide) (by omega)))
        simp [hi, hB]
    rw [this]
end Go.Proofs.YtpgcnbipnjcniaaDoor.Code
