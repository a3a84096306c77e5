/- Plain facts on words, sums and shifts, by numbers alone. -/
import Derived.WalkKit
set_option linter.unusedVariables false
namespace Go.Proofs.YtpgcnbipnjcniaaDoor.Alu

def b01 (c : Int) : Int := if c = 0 then 0 else 1
def bit (x n : Int) : Int := if 0 ≤ n ∧ n < 32 then x / 2 ^ n.toNat % 2 else 0
def sg (x : Int) : Int := if 2147483648 ≤ x then x - 4294967296 else x
def addS (x y c : Int) : Int := (x + y + b01 c) % 4294967296
def addC (x y c : Int) : Int := (x + y + b01 c) / 4294967296
def addV (x y c : Int) : Int := if sg x + sg y + b01 c = sg (addS x y c) then 0 else 1
def one (k x : Int) : Int := if k = 0 then x * 2 % 4294967296 else if k = 1 then x / 2 else if k = 2 then x / 2 + x / 2147483648 * 2147483648 else x / 2 + x % 2 * 2147483648
def out1 (k x : Int) : Int := if k = 0 then x / 2147483648 else x % 2
def shW (k x : Int) : Nat → Int
  | 0 => x
  | n + 1 => one k (shW k x n)
def shC (k x c : Int) : Nat → Int
  | 0 => b01 c
  | n + 1 => out1 k (shW k x n)
def src (k i n : Int) : Int := if k = 0 then i - n else if k = 3 then (i + n) % 32 else if 31 < i + n ∧ k = 2 then 31 else i + n

theorem b01_bd (c : Int) : 0 ≤ b01 c ∧ b01 c ≤ 1 := by unfold b01; split <;> omega
theorem b01_zero : b01 0 = 0 := rfl
theorem b01_one : b01 1 = 1 := rfl
theorem addS_bd (x y c : Int) : 0 ≤ addS x y c ∧ addS x y c < 4294967296 := by unfold addS; omega
theorem addC_bd (x y c : Int) (hx : 0 ≤ x) (hx2 : x < 4294967296) (hy : 0 ≤ y) (hy2 : y < 4294967296) : 0 ≤ addC x y c ∧ addC x y c ≤ 1 := by
  have := b01_bd c; unfold addC; omega
theorem addV_bd (x y c : Int) : 0 ≤ addV x y c ∧ addV x y c ≤ 1 := by unfold addV; split <;> omega
theorem one_bd (k x : Int) (hx : 0 ≤ x) (hx2 : x < 4294967296) : 0 ≤ one k x ∧ one k x < 4294967296 := by
  unfold one; split
  · omega
  · split
    · omega
    · split <;> omega
theorem shW_bd (k x : Int) (hx : 0 ≤ x) (hx2 : x < 4294967296) (n : Nat) : 0 ≤ shW k x n ∧ shW k x n < 4294967296 := by
  induction n with
  | zero => exact ⟨hx, hx2⟩
  | succ n ih => exact one_bd k _ ih.1 ih.2
theorem out1_bd (k x : Int) (hx : 0 ≤ x) (hx2 : x < 4294967296) : 0 ≤ out1 k x ∧ out1 k x ≤ 1 := by
  unfold out1; split <;> omega
theorem shC_bd (k x c : Int) (hx : 0 ≤ x) (hx2 : x < 4294967296) (n : Nat) : 0 ≤ shC k x c n ∧ shC k x c n ≤ 1 := by
  cases n with
  | zero => exact b01_bd c
  | succ n => exact out1_bd k _ (shW_bd k x hx hx2 n).1 (shW_bd k x hx hx2 n).2
theorem bit_bd (x n : Int) : 0 ≤ bit x n ∧ bit x n ≤ 1 := by unfold bit; split <;> omega

/-- A bit, by the numbers' own test. -/
theorem bit_nat (X i : Nat) (h : i < 32) : bit (X : Int) (i : Int) = ((X.testBit i).toNat : Int) := by
  unfold bit
  rw [if_pos ⟨by omega, by omega⟩, Int.toNat_natCast, Nat.toNat_testBit]
  simp
theorem bit_out (x n : Int) (h : n < 0 ∨ 31 < n) : bit x n = 0 := by unfold bit; rw [if_neg (by omega)]

theorem top_bit (x : Int) (hx : 0 ≤ x) (hx2 : x < 4294967296) : x / 2147483648 = bit x 31 := by
  unfold bit; rw [if_pos (by decide)]
  show _ = x / 2 ^ 31 % 2
  omega
theorem low_bit (x : Int) : x % 2 = bit x 0 := by
  unfold bit; rw [if_pos (by decide)]
  show _ = x / 2 ^ 0 % 2
  omega

/-- The bits of a word that is shifted by one. -/
theorem one_bit (k x i : Int) (hk : 0 ≤ k) (hk2 : k ≤ 3) (hx : 0 ≤ x) (hx2 : x < 4294967296) (hi : 0 ≤ i) (hi2 : i ≤ 31) : bit (one k x) i = bit x (src k i 1) := by
  obtain ⟨X, rfl⟩ := Int.eq_ofNat_of_zero_le hx
  obtain ⟨j, rfl⟩ := Int.eq_ofNat_of_zero_le hi
  have hX : X < 2 ^ 32 := by omega
  by_cases h0 : k = 0
  · have e : one k (X : Int) = ((X <<< 1 % 2 ^ 32 : Nat) : Int) := by
      unfold one; rw [if_pos h0, Nat.shiftLeft_eq]; omega
    rw [e, bit_nat _ _ (by omega), Nat.testBit_mod_two_pow, Nat.testBit_shiftLeft]
    unfold src; rw [if_pos h0]
    by_cases hj : j = 0
    · subst hj; rw [bit_out _ _ (by omega)]; simp
    · rw [show ((j : Int) - 1) = ((j - 1 : Nat) : Int) by omega, bit_nat _ _ (by omega)]
      have : j < 32 := by omega
      have h1 : 1 ≤ j := by omega
      simp [this, h1]
  · by_cases h1 : k = 1
    · have e : one k (X : Int) = ((X >>> 1 : Nat) : Int) := by
        unfold one; rw [if_neg h0, if_pos h1, Nat.shiftRight_eq_div_pow]; omega
      rw [e, bit_nat _ _ (by omega), Nat.testBit_shiftRight]
      unfold src; rw [if_neg h0, if_neg (by omega), if_neg (by omega)]
      by_cases hj : j = 31
      · subst hj; rw [bit_out _ _ (by omega), Nat.testBit_lt_two_pow (by omega)]; rfl
      · rw [show ((j : Int) + 1) = ((1 + j : Nat) : Int) by omega, bit_nat _ _ (by omega)]
    · by_cases h2 : k = 2
      · have e : one k (X : Int) = ((2 ^ 31 * (X / 2 ^ 31) + X >>> 1 : Nat) : Int) := by
          unfold one; rw [if_neg h0, if_neg h1, if_pos h2, Nat.shiftRight_eq_div_pow]; omega
        have hl : X >>> 1 < 2 ^ 31 := by rw [Nat.shiftRight_eq_div_pow]; omega
        rw [e, bit_nat _ _ (by omega), Nat.testBit_two_pow_mul_add _ hl, Nat.testBit_shiftRight]
        unfold src; rw [if_neg h0, if_neg (show ¬ k = 3 by omega)]
        by_cases hj : j = 31
        · subst hj; rw [if_neg (by omega), if_pos ⟨by omega, h2⟩, show (31 : Int) = ((31 : Nat) : Int) from rfl, bit_nat _ _ (by omega)]
          rw [← Nat.shiftRight_eq_div_pow, Nat.testBit_shiftRight]
        · rw [if_pos (by omega), if_neg (by omega), show ((j : Int) + 1) = ((1 + j : Nat) : Int) by omega, bit_nat _ _ (by omega)]
      · have h3 : k = 3 := by omega
        have e : one k (X : Int) = ((2 ^ 31 * (X % 2) + X >>> 1 : Nat) : Int) := by
          unfold one; rw [if_neg h0, if_neg h1, if_neg h2, Nat.shiftRight_eq_div_pow]; omega
        have hl : X >>> 1 < 2 ^ 31 := by rw [Nat.shiftRight_eq_div_pow]; omega
        rw [e, bit_nat _ _ (by omega), Nat.testBit_two_pow_mul_add _ hl, Nat.testBit_shiftRight]
        unfold src; rw [if_neg h0, if_pos h3]
        by_cases hj : j = 31
        · subst hj; rw [if_neg (by omega), show (((31 : Nat) : Int) + 1) % 32 = ((0 : Nat) : Int) from rfl, bit_nat _ _ (by omega)]
          rw [show X % 2 = X % 2 ^ 1 from rfl, Nat.testBit_mod_two_pow]; simp
        · rw [if_pos (by omega), show ((j : Int) + 1) % 32 = ((1 + j : Nat) : Int) by omega, bit_nat _ _ (by omega)]

/-- The bits of a word that is shifted. -/
theorem shW_bit (k x : Int) (hk : 0 ≤ k) (hk2 : k ≤ 3) (hx : 0 ≤ x) (hx2 : x < 4294967296) (n : Nat) :
    ∀ i : Int, 0 ≤ i → i ≤ 31 → bit (shW k x n) i = bit x (src k i n) := by
  induction n with
  | zero =>
    intro i hi hi2
    show bit x i = _
    have : src k i ((0 : Nat) : Int) = i := by
      unfold src; split
      · omega
      · split
        · omega
        · split <;> omega
    rw [this]
  | succ n ih =>
    intro i hi hi2
    have hb := shW_bd k x hx hx2 n
    show bit (one k (shW k x n)) i = _
    rw [one_bit k _ i hk hk2 hb.1 hb.2 hi hi2]
    by_cases h0 : k = 0
    · unfold src at ih ⊢
      simp only [h0, if_true] at ih ⊢
      by_cases hj : i = 0
      · rw [bit_out _ _ (by omega), bit_out _ _ (by omega)]
      · rw [ih (i - 1) (by omega) (by omega)]; congr 1; omega
    · by_cases h3 : k = 3
      · unfold src at ih ⊢
        simp only [h3, if_true] at ih ⊢
        have := ih ((i + 1) % 32) (by omega) (by omega)
        simp at this ⊢
        rw [this]; congr 1; omega
      · by_cases h2 : k = 2
        · unfold src at ih ⊢
          simp only [h0, h3, if_false] at ih ⊢
          by_cases hj : i = 31
          · have e1 : (if 31 < (31 : Int) + (n : Int) ∧ k = 2 then (31 : Int) else 31 + (n : Int)) = 31 := by split <;> omega
            rw [if_pos ⟨by omega, h2⟩, ih 31 (by omega) (by omega), e1, if_pos ⟨by omega, h2⟩]
          · rw [if_neg (by omega), ih (i + 1) (by omega) (by omega)]
            by_cases hn : 31 < i + 1 + (n : Int)
            · rw [if_pos ⟨hn, h2⟩, if_pos ⟨by omega, h2⟩]
            · rw [if_neg (by omega), if_neg (by omega)]; congr 1; omega
        · have h1 : k = 1 := by omega
          unfold src at ih ⊢
          simp only [h0, h3, h2, and_false, if_false] at ih ⊢
          by_cases hj : i = 31
          · rw [bit_out _ _ (by omega), bit_out _ _ (by omega)]
          · rw [ih (i + 1) (by omega) (by omega)]; congr 1; omega

/-- The bit that went out, by where it stood. -/
theorem shC_src (k x c : Int) (hk : 0 ≤ k) (hk2 : k ≤ 3) (hx : 0 ≤ x) (hx2 : x < 4294967296) (n : Nat) :
    shC k x c (n + 1) = if k = 0 then bit x (32 - (n + 1)) else bit x (src k 0 n) := by
  have hb := shW_bd k x hx hx2 n
  show out1 k (shW k x n) = _
  unfold out1
  by_cases h0 : k = 0
  · rw [if_pos h0, if_pos h0, top_bit _ hb.1 hb.2, shW_bit k x hk hk2 hx hx2 n 31 (by omega) (by omega)]
    unfold src; rw [if_pos h0]; congr 1; omega
  · rw [if_neg h0, if_neg h0, low_bit, shW_bit k x hk hk2 hx hx2 n 0 (by omega) (by omega)]

/-- A word, bit by bit from the upper end. -/
theorem word_step (y : Int) (hy : 0 ≤ y) (hy2 : y < 4294967296) (j : Nat) (hj : j ≤ 31) :
    y / 2 ^ (j + 1) * 2 + bit y j = y / 2 ^ j := by
  have h := bit_nat y.toNat j (by omega)
  rw [Int.toNat_of_nonneg hy] at h
  unfold bit at h ⊢
  rw [if_pos ⟨by omega, by omega⟩] at h ⊢
  rw [Int.toNat_natCast, Int.pow_succ, ← Int.ediv_ediv_of_nonneg (Int.pow_nonneg (by decide))]
  omega
theorem word_eq (x y : Int) (hx : 0 ≤ x) (hx2 : x < 4294967296) (hy : 0 ≤ y) (hy2 : y < 4294967296)
    (h : ∀ i : Int, 0 ≤ i → i ≤ 31 → bit x i = bit y i) : x = y := by
  obtain ⟨X, rfl⟩ := Int.eq_ofNat_of_zero_le hx
  obtain ⟨Y, rfl⟩ := Int.eq_ofNat_of_zero_le hy
  have : X = Y := by
    apply Nat.eq_of_testBit_eq
    intro i
    by_cases hi : i < 32
    · have := h i (by omega) (by omega)
      rw [bit_nat _ _ hi, bit_nat _ _ hi] at this
      cases hX : X.testBit i <;> cases hY : Y.testBit i <;> simp [hX, hY] at this ⊢
    · have p : 2 ^ 32 ≤ 2 ^ i := Nat.pow_le_pow_right (by decide) (by omega)
      rw [Nat.testBit_lt_two_pow (by omega), Nat.testBit_lt_two_pow (by omega)]
  rw [this]
end Go.Proofs.YtpgcnbipnjcniaaDoor.Alu
