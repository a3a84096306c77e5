/- AluMath, AluWalks, AluShift, AluRest, AluMore, joined. -/
import Derived.WalkKit
import Derived.Test.YtegefbndpkbooaaDoorChecked
import Derived.ProofKit
import Derived.Handy
import Derived.Outline

/-! Plain facts on words, sums and shifts, by numbers alone. -/
set_option linter.unusedVariables false
namespace Go.Proofs.YtegefbndpkbooaaDoor.Alu

def b01 (c : Int) : Int := if c = 0 then 0 else 1
def bit (x n : Int) : Int := if 0 ≤ n ∧ n < 32 then x / 2 ^ n.toNat % 2 else 0
def sg (x : Int) : Int := if 2147483648 ≤ x then x - 4294967296 else x
def addS (x y c : Int) : Int := (x + y + b01 c) % 4294967296
def addC (x y c : Int) : Int := (x + y + b01 c) / 4294967296
def addV (x y c : Int) : Int := if sg x + sg y + b01 c = sg (addS x y c) then 0 else 1
def one (k x : Int) : Int := if k = 0 then x * 2 % 4294967296 else if k = 1 then x / 2 else if k = 2 then x / 2 + x / 2147483648 * 2147483648 else x / 2 + x % 2 * 2147483648
def out1 (k x : Int) : Int := if k = 0 then x / 2147483648 else x % 2
def shW (k x : Int) : Nat → Int
  | 0 => x
  | n + 1 => one k (shW k x n)
def shC (k x c : Int) : Nat → Int
  | 0 => b01 c
  | n + 1 => out1 k (shW k x n)
def src (k i n : Int) : Int := if k = 0 then i - n else if k = 3 then (i + n) % 32 else if 31 < i + n ∧ k = 2 then 31 else i + n

theorem b01_bd (c : Int) : 0 ≤ b01 c ∧ b01 c ≤ 1 := by unfold b01; split <;> omega
theorem b01_zero : b01 0 = 0 := rfl
theorem b01_one : b01 1 = 1 := rfl
theorem addS_bd (x y c : Int) : 0 ≤ addS x y c ∧ addS x y c < 4294967296 := by unfold addS; omega
theorem addC_bd (x y c : Int) (hx : 0 ≤ x) (hx2 : x < 4294967296) (hy : 0 ≤ y) (hy2 : y < 4294967296) : 0 ≤ addC x y c ∧ addC x y c ≤ 1 := by
  have := b01_bd c; unfold addC; omega
theorem addV_bd (x y c : Int) : 0 ≤ addV x y c ∧ addV x y c ≤ 1 := by unfold addV; split <;> omega
theorem one_bd (k x : Int) (hx : 0 ≤ x) (hx2 : x < 4294967296) : 0 ≤ one k x ∧ one k x < 4294967296 := by
  unfold one; split
  · omega
  · split
    · omega
    · split <;> omega
theorem shW_bd (k x : Int) (hx : 0 ≤ x) (hx2 : x < 4294967296) (n : Nat) : 0 ≤ shW k x n ∧ shW k x n < 4294967296 := by
  induction n with
  | zero => exact ⟨hx, hx2⟩
  | succ n ih => exact one_bd k _ ih.1 ih.2
theorem out1_bd (k x : Int) (hx : 0 ≤ x) (hx2 : x < 4294967296) : 0 ≤ out1 k x ∧ out1 k x ≤ 1 := by
  unfold out1; split <;> omega
theorem shC_bd (k x c : Int) (hx : 0 ≤ x) (hx2 : x < 4294967296) (n : Nat) : 0 ≤ shC k x c n ∧ shC k x c n ≤ 1 := by
  cases n with
  | zero => exact b01_bd c
  | succ n => exact out1_bd k _ (shW_bd k x hx hx2 n).1 (shW_bd k x hx hx2 n).2
theorem bit_bd (x n : Int) : 0 ≤ bit x n ∧ bit x n ≤ 1 := by unfold bit; split <;> omega

/-- A bit, by the numbers' own test. -/
theorem bit_nat (X i : Nat) (h : i < 32) : bit (X : Int) (i : Int) = ((X.testBit i).toNat : Int) := by
  unfold bit
  rw [if_pos ⟨by omega, by omega⟩, Int.toNat_natCast, Nat.toNat_testBit]
  simp
theorem bit_out (x n : Int) (h : n < 0 ∨ 31 < n) : bit x n = 0 := by unfold bit; rw [if_neg (by omega)]

theorem top_bit (x : Int) (hx : 0 ≤ x) (hx2 : x < 4294967296) : x / 2147483648 = bit x 31 := by
  unfold bit; rw [if_pos (by decide)]
  show _ = x / 2 ^ 31 % 2
  omega
theorem low_bit (x : Int) : x % 2 = bit x 0 := by
  unfold bit; rw [if_pos (by decide)]
  show _ = x / 2 ^ 0 % 2
  omega

/-- The bits of a word that is shifted by one. -/
theorem one_bit (k x i : Int) (hk : 0 ≤ k) (hk2 : k ≤ 3) (hx : 0 ≤ x) (hx2 : x < 4294967296) (hi : 0 ≤ i) (hi2 : i ≤ 31) : bit (one k x) i = bit x (src k i 1) := by
  obtain ⟨X, rfl⟩ := Int.eq_ofNat_of_zero_le hx
  obtain ⟨j, rfl⟩ := Int.eq_ofNat_of_zero_le hi
  have hX : X < 2 ^ 32 := by omega
  by_cases h0 : k = 0
  · have e : one k (X : Int) = ((X <<< 1 % 2 ^ 32 : Nat) : Int) := by
      unfold one; rw [if_pos h0, Nat.shiftLeft_eq]; omega
    rw [e, bit_nat _ _ (by omega), Nat.testBit_mod_two_pow, Nat.testBit_shiftLeft]
    unfold src; rw [if_pos h0]
    by_cases hj : j = 0
    · subst hj; rw [bit_out _ _ (by omega)]; simp
    · rw [show ((j : Int) - 1) = ((j - 1 : Nat) : Int) by omega, bit_nat _ _ (by omega)]
      have : j < 32 := by omega
      have h1 : 1 ≤ j := by omega
      simp [this, h1]
  · by_cases h1 : k = 1
    · have e : one k (X : Int) = ((X >>> 1 : Nat) : Int) := by
        unfold one; rw [if_neg h0, if_pos h1, Nat.shiftRight_eq_div_pow]; omega
      rw [e, bit_nat _ _ (by omega), Nat.testBit_shiftRight]
      unfold src; rw [if_neg h0, if_neg (by omega), if_neg (by omega)]
      by_cases hj : j = 31
      · subst hj; rw [bit_out _ _ (by omega), Nat.testBit_lt_two_pow (by omega)]; rfl
      · rw [show ((j : Int) + 1) = ((1 + j : Nat) : Int) by omega, bit_nat _ _ (by omega)]
    · by_cases h2 : k = 2
      · have e : one k (X : Int) = ((2 ^ 31 * (X / 2 ^ 31) + X >>> 1 : Nat) : Int) := by
          unfold one; rw [if_neg h0, if_neg h1, if_pos h2, Nat.shiftRight_eq_div_pow]; omega
        have hl : X >>> 1 < 2 ^ 31 := by rw [Nat.shiftRight_eq_div_pow]; omega
        rw [e, bit_nat _ _ (by omega), Nat.testBit_two_pow_mul_add _ hl, Nat.testBit_shiftRight]
        unfold src; rw [if_neg h0, if_neg (show ¬ k = 3 by omega)]
        by_cases hj : j = 31
        · subst hj; rw [if_neg (by omega), if_pos ⟨by omega, h2⟩, show (31 : Int) = ((31 : Nat) : Int) from rfl, bit_nat _ _ (by omega)]
          rw [← Nat.shiftRight_eq_div_pow, Nat.testBit_shiftRight]
        · rw [if_pos (by omega), if_neg (by omega), show ((j : Int) + 1) = ((1 + j : Nat) : Int) by omega, bit_nat _ _ (by omega)]
      · have h3 : k = 3 := by omega
        have e : one k (X : Int) = ((2 ^ 31 * (X % 2) + X >>> 1 : Nat) : Int) := by
          unfold one; rw [if_neg h0, if_neg h1, if_neg h2, Nat.shiftRight_eq_div_pow]; omega
        have hl : X >>> 1 < 2 ^ 31 := by rw [Nat.shiftRight_eq_div_pow]; omega
        rw [e, bit_nat _ _ (by omega), Nat.testBit_two_pow_mul_add _ hl, Nat.testBit_shiftRight]
        unfold src; rw [if_neg h0, if_pos h3]
        by_cases hj : j = 31
        · subst hj; rw [if_neg (by omega), show (((31 : Nat) : Int) + 1) % 32 = ((0 : Nat) : Int) from rfl, bit_nat _ _ (by omega)]
          rw [show X % 2 = X % 2 ^ 1 from rfl, Nat.testBit_mod_two_pow]; simp
        · rw [if_pos (by omega), show ((j : Int) + 1) % 32 = ((1 + j : Nat) : Int) by omega, bit_nat _ _ (by omega)]

/-- The bits of a word that is shifted. -/
theorem shW_bit (k x : Int) (hk : 0 ≤ k) (hk2 : k ≤ 3) (hx : 0 ≤ x) (hx2 : x < 4294967296) (n : Nat) :
    ∀ i : Int, 0 ≤ i → i ≤ 31 → bit (shW k x n) i = bit x (src k i n) := by
  induction n with
  | zero =>
    intro i hi hi2
    show bit x i = _
    have : src k i ((0 : Nat) : Int) = i := by
      unfold src; split
      · omega
      · split
        · omega
        · split <;> omega
    rw [this]
  | succ n ih =>
    intro i hi hi2
    have hb := shW_bd k x hx hx2 n
    show bit (one k (shW k x n)) i = _
    rw [one_bit k _ i hk hk2 hb.1 hb.2 hi hi2]
    by_cases h0 : k = 0
    · unfold src at ih ⊢
      simp only [h0, if_true] at ih ⊢
      by_cases hj : i = 0
      · rw [bit_out _ _ (by omega), bit_out _ _ (by omega)]
      · rw [ih (i - 1) (by omega) (by omega)]; congr 1; omega
    · by_cases h3 : k = 3
      · unfold src at ih ⊢
        simp only [h3, if_true] at ih ⊢
        have := ih ((i + 1) % 32) (by omega) (by omega)
        simp at this ⊢
        rw [this]; congr 1; omega
      · by_cases h2 : k = 2
        · unfold src at ih ⊢
          simp only [h0, h3, if_false] at ih ⊢
          by_cases hj : i = 31
          · have e1 : (if 31 < (31 : Int) + (n : Int) ∧ k = 2 then (31 : Int) else 31 + (n : Int)) = 31 := by split <;> omega
            rw [if_pos ⟨by omega, h2⟩, ih 31 (by omega) (by omega), e1, if_pos ⟨by omega, h2⟩]
          · rw [if_neg (by omega), ih (i + 1) (by omega) (by omega)]
            by_cases hn : 31 < i + 1 + (n : Int)
            · rw [if_pos ⟨hn, h2⟩, if_pos ⟨by omega, h2⟩]
            · rw [if_neg (by omega), if_neg (by omega)]; congr 1; omega
        · have h1 : k = 1 := by omega
          unfold src at ih ⊢
          simp only [h0, h3, h2, and_false, if_false] at ih ⊢
          by_cases hj : i = 31
          · rw [bit_out _ _ (by omega), bit_out _ _ (by omega)]
          · rw [ih (i + 1) (by omega) (by omega)]; congr 1; omega

/-- The bit that went out, by where it stood. -/
theorem shC_src (k x c : Int) (hk : 0 ≤ k) (hk2 : k ≤ 3) (hx : 0 ≤ x) (hx2 : x < 4294967296) (n : Nat) :
    shC k x c (n + 1) = if k = 0 then bit x (32 - (n + 1)) else bit x (src k 0 n) := by
  have hb := shW_bd k x hx hx2 n
  show out1 k (shW k x n) = _
  unfold out1
  by_cases h0 : k = 0
  · rw [if_pos h0, if_pos h0, top_bit _ hb.1 hb.2, shW_bit k x hk hk2 hx hx2 n 31 (by omega) (by omega)]
    unfold src; rw [if_pos h0]; congr 1; omega
  · rw [if_neg h0, if_neg h0, low_bit, shW_bit k x hk hk2 hx hx2 n 0 (by omega) (by omega)]

/-- A word, bit by bit from the upper end. -/
theorem word_step (y : Int) (hy : 0 ≤ y) (hy2 : y < 4294967296) (j : Nat) (hj : j ≤ 31) :
    y / 2 ^ (j + 1) * 2 + bit y j = y / 2 ^ j := by
  have h := bit_nat y.toNat j (by omega)
  rw [Int.toNat_of_nonneg hy] at h
  unfold bit at h ⊢
  rw [if_pos ⟨by omega, by omega⟩] at h ⊢
  rw [Int.toNat_natCast, Int.pow_succ, ← Int.ediv_ediv_of_nonneg (Int.pow_nonneg (by decide))]
  omega
theorem word_eq (x y : Int) (hx : 0 ≤ x) (hx2 : x < 4294967296) (hy : 0 ≤ y) (hy2 : y < 4294967296)
    (h : ∀ i : Int, 0 ≤ i → i ≤ 31 → bit x i = bit y i) : x = y := by
  obtain ⟨X, rfl⟩ := Int.eq_ofNat_of_zero_le hx
  obtain ⟨Y, rfl⟩ := Int.eq_ofNat_of_zero_le hy
  have : X = Y := by
    apply Nat.eq_of_testBit_eq
    intro i
    by_cases hi : i < 32
    · have := h i (by omega) (by omega)
      rw [bit_nat _ _ hi, bit_nat _ _ hi] at this
      cases hX : X.testBit i <;> cases hY : Y.testBit i <;> simp [hX, hY] at this ⊢
    · have p : 2 ^ 32 ≤ 2 ^ i := Nat.pow_le_pow_right (by decide) (by omega)
      rw [Nat.testBit_lt_two_pow (by omega), Nat.testBit_lt_two_pow (by omega)]
  rw [this]

end Go.Proofs.YtegefbndpkbooaaDoor.Alu

/-! What each function of package alu, and each of the document's own, answers: contracts. -/
set_option linter.unusedVariables false
namespace Go.Proofs.YtegefbndpkbooaaDoor.Alu
open Go.RowKit

theorem ret_int {k : IntKind} {a b : Int} (h : a = b) : Ending.returned (.int k a) = .returned (.int k b) := by rw [h]
theorem ret_ints2 {k l : IntKind} {a b c d : Int} (h : a = b) (g : c = d) : Ending.returned (.tuple #[.int k a, .int l c]) = .returned (.tuple #[.int k b, .int l d]) := by rw [h, g]
theorem ret_ints3 {k l m : IntKind} {a b c d e f : Int} (h : a = b) (g : c = d) (i : e = f) : Ending.returned (.tuple #[.int k a, .int l c, .int m e]) = .returned (.tuple #[.int k b, .int l d, .int m f]) := by rw [h, g, i]

theorem asBit_any (c : Int) (w : World) :
    Calls Tryd.prog 80 #[.int .u32 c] w fun e w' => e = .returned (.int .u32 (b01 c)) ∧ w' = w := by
  by_cases h : c = 0
  · have hb : (c != 0) = false := by simp [h]
    go_enter Tryd.func80, Tryd.ntmps80
    go_wp2
    go_ret
    exact ⟨ret_int (by simp [b01, h]), rfl⟩
  · have hb : (c != 0) = true := by simp [h]
    go_enter Tryd.func80, Tryd.ntmps80
    go_wp2
    go_ret
    exact ⟨ret_int (by simp [b01, h]), rfl⟩

theorem bits_and1 (x : Int) (hx : 0 ≤ x) (hx2 : x < 4294967296) : bits .and .u32 x 1 = x % 2 := by
  rw [u32_and x 1 hx hx2 (by decide) (by decide), show (1 : Int).toNat = 1 from rfl, nat_mask1]; omega

theorem shr_bd (x : Int) (n : Nat) (hx : 0 ≤ x) (hx2 : x < 4294967296) : 0 ≤ x / 2 ^ n ∧ x / 2 ^ n < 4294967296 := by
  have hp : (0 : Int) < 2 ^ n := Int.pow_pos (by decide)
  refine ⟨Int.ediv_nonneg hx (by omega), Int.lt_of_le_of_lt (Int.ediv_le_self _ hx) hx2⟩

theorem Bit_any (x n : Int) (hx : 0 ≤ x) (hx2 : x < 4294967296) (w : World) :
    Calls Tryd.prog 73 #[.int .u32 x, .int .i64 n] w fun e w' => e = .returned (.int .u32 (bit x n)) ∧ w' = w := by
  have hs := shr_bd x n.toNat hx hx2
  by_cases h1 : n < 0
  · go_enter Tryd.func73, Tryd.ntmps73
    go_wp2
    go_ret
    exact ⟨ret_int (by rw [bit_out _ _ (by omega)]), rfl⟩
  · by_cases h2 : 32 ≤ n
    · go_enter Tryd.func73, Tryd.ntmps73
      go_wp2
      go_ret
      exact ⟨ret_int (by rw [bit_out _ _ (by omega)]), rfl⟩
    · go_enter Tryd.func73, Tryd.ntmps73
      go_wp2
      go_ret
      exact ⟨ret_int (by rw [bits_and1 _ hs.1 hs.2]; unfold bit; rw [if_pos (by omega)]), rfl⟩

theorem topBit_any (x : Int) (hx : 0 ≤ x) (hx2 : x < 4294967296) (w : World) :
    Calls Tryd.prog 82 #[.int .u32 x] w fun e w' => e = .returned (.int .u32 (x / 2147483648)) ∧ w' = w := by
  go_enter Tryd.func82, Tryd.ntmps82
  go_wp2_with (go_at_call 73; refine (Bit_any _ _ hx hx2 _).mono ?_; rintro e w' ⟨rfl, rfl⟩)
  go_ret
  exact ⟨ret_int (top_bit x hx hx2).symm, rfl⟩

theorem lowBit_any (x : Int) (hx : 0 ≤ x) (hx2 : x < 4294967296) (w : World) :
    Calls Tryd.prog 83 #[.int .u32 x] w fun e w' => e = .returned (.int .u32 (x % 2)) ∧ w' = w := by
  go_enter Tryd.func83, Tryd.ntmps83
  go_wp2_with (go_at_call 73; refine (Bit_any _ _ hx hx2 _).mono ?_; rintro e w' ⟨rfl, rfl⟩)
  go_ret
  exact ⟨ret_int (low_bit x).symm, rfl⟩

/-- The top bit of what Add looks at: both summands have one sign, the low bits the other. -/
theorem over_eq (x y s : Int) (hx : 0 ≤ x) (hx2 : x < 4294967296) (hy : 0 ≤ y) (hy2 : y < 4294967296) (hs : 0 ≤ s) (hs2 : s < 4294967296) :
    bits .and .u32 (bits .xor .u32 x s) (bits .xor .u32 y s) / 2147483648 = if x / 2147483648 ≠ s / 2147483648 ∧ y / 2147483648 ≠ s / 2147483648 then 1 else 0 := by
  obtain ⟨X, rfl⟩ := Int.eq_ofNat_of_zero_le hx
  obtain ⟨Y, rfl⟩ := Int.eq_ofNat_of_zero_le hy
  obtain ⟨S, rfl⟩ := Int.eq_ofNat_of_zero_le hs
  have a1 : X ^^^ S < 2 ^ 32 := Nat.xor_lt_two_pow (by omega) (by omega)
  have a2 : Y ^^^ S < 2 ^ 32 := Nat.xor_lt_two_pow (by omega) (by omega)
  have a3 : (X ^^^ S) &&& (Y ^^^ S) < 2 ^ 32 := Nat.and_lt_two_pow _ a2
  rw [u32_xor_nat _ _ (by omega) (by omega), u32_xor_nat _ _ (by omega) (by omega), u32_and_nat _ _ (by omega) (by omega)]
  have t : ∀ Z : Nat, Z < 2 ^ 32 → ((Z : Int) / 2147483648) = ((Z.testBit 31).toNat : Int) := by
    intro Z hZ
    rw [top_bit _ (by omega) (by omega), show (31 : Int) = ((31 : Nat) : Int) from rfl, bit_nat _ _ (by omega)]
  rw [t _ a3, t X (by omega), t Y (by omega), t S (by omega), Nat.testBit_and, Nat.testBit_xor, Nat.testBit_xor]
  cases X.testBit 31 <;> cases Y.testBit 31 <;> cases S.testBit 31 <;> simp

theorem bits_u32_bd (o : BinOp) (a b : Int) : 0 ≤ bits o .u32 a b ∧ bits o .u32 a b < 4294967296 := by
  unfold bits
  simp only [IntKind.wrap_u32]
  omega

theorem addV_eq (x y c : Int) (hx : 0 ≤ x) (hx2 : x < 4294967296) (hy : 0 ≤ y) (hy2 : y < 4294967296) :
    (if x / 2147483648 ≠ addS x y c / 2147483648 ∧ y / 2147483648 ≠ addS x y c / 2147483648 then (1 : Int) else 0) = addV x y c := by
  have hb := b01_bd c
  unfold addV addS sg
  generalize b01 c = b at *
  split <;> split <;> split <;> split <;> (try split) <;> omega

theorem sg_bd (x : Int) (hx : 0 ≤ x) (hx2 : x < 4294967296) : -2147483648 ≤ sg x ∧ sg x ≤ 2147483647 := by unfold sg; split <;> omega

theorem addV_mk (x y c s v : Int) (b : Int) (hb : b01 c = b) (hs : (x + y + b) % 4294967296 = s) (h : (sg x + sg y + b != sg s) = (v == 1)) (hv : v = 0 ∨ v = 1) : v = addV x y c := by
  unfold addV addS; rw [hb, hs]
  rcases hv with rfl | rfl
  · rw [if_pos (by simpa using h)]
  · rw [if_neg (by simpa using h)]

theorem or_turn (x : Int) (hx : 0 ≤ x) (hx2 : x < 4294967296) : bits .or .u32 (x / 2) (x * 2147483648 % 4294967296) = x / 2 + x % 2 * 2147483648 := by
  obtain ⟨X, rfl⟩ := Int.eq_ofNat_of_zero_le hx
  have e1 : (X : Int) / 2 = ((X / 2 : Nat) : Int) := by omega
  have e2 : (X : Int) * 2147483648 % 4294967296 = ((X % 2 * 2147483648 : Nat) : Int) := by omega
  rw [e1, e2, u32_or_nat _ _ (by omega) (by omega), Nat.or_comm, nat_join 31 _ _ (by omega) (by omega)]
  omega

theorem shiftByOne_any (k x : Int) (hk : 0 ≤ k) (hk2 : k ≤ 3) (hx : 0 ≤ x) (hx2 : x < 4294967296) (w : World) :
    Calls Tryd.prog 81 #[.int .i64 k, .int .u32 x] w fun e w' => e = .returned (.tuple #[.int .u32 (one k x), .int .u32 (out1 k x)]) ∧ w' = w := by
  have hcase : k = 0 ∨ k = 1 ∨ k = 2 ∨ k = 3 := by omega
  rcases hcase with rfl | rfl | rfl | rfl
  · go_enter Tryd.func81, Tryd.ntmps81
    go_wp2_with (go_at_call 82; refine (topBit_any _ hx hx2 _).mono ?_; rintro e w' ⟨rfl, rfl⟩)
    go_ret2
    exact ⟨rfl, rfl⟩
  · go_enter Tryd.func81, Tryd.ntmps81
    go_wp2_with (go_at_call 83; refine (lowBit_any _ hx hx2 _).mono ?_; rintro e w' ⟨rfl, rfl⟩)
    go_ret2
    exact ⟨rfl, rfl⟩
  · go_enter Tryd.func81, Tryd.ntmps81
    go_wp2_with (go_at_call 83; refine (lowBit_any _ hx hx2 _).mono ?_; rintro e w' ⟨rfl, rfl⟩)
    go_ret2
    exact ⟨ret_ints2 (by unfold one wrap32; rw [if_neg (by decide), if_neg (by decide), if_pos rfl]; omega) rfl, rfl⟩
  · go_enter Tryd.func81, Tryd.ntmps81
    go_wp2_with (go_at_call 83; refine (lowBit_any _ hx hx2 _).mono ?_; rintro e w' ⟨rfl, rfl⟩)
    go_ret2
    exact ⟨ret_ints2 (by rw [or_turn x hx hx2]; rfl) rfl, rfl⟩

end Go.Proofs.YtegefbndpkbooaaDoor.Alu

/-! What Shift answers, by package alu and by the document: contracts. -/
set_option linter.unusedVariables false
namespace Go.Proofs.YtegefbndpkbooaaDoor.Alu
open Go.RowKit

theorem hide {P : Prop} (h : P) : Hid P := h
theorem unhide {P : Prop} (h : Hid P) : P := h.out

theorem Shift_no (k x n c : Int) (h : k < 0 ∨ 3 < k ∨ n < 0 ∨ 255 < n) (w : World) :
    Calls Tryd.prog 79 #[.int .i64 k, .int .u32 x, .int .i64 n, .int .u32 c] w fun e w' => e = .returned (.tuple #[.int .u32 0, .int .u32 0, .int .i64 11]) ∧ w' = w := by
  by_cases h1 : k < 0
  · go_enter Tryd.func79, Tryd.ntmps79
    go_wp2
    go_ret3
    exact ⟨rfl, rfl⟩
  · by_cases h2 : 3 < k
    · go_enter Tryd.func79, Tryd.ntmps79
      go_wp2
      go_ret3
      exact ⟨rfl, rfl⟩
    · by_cases h3 : n < 0
      · go_enter Tryd.func79, Tryd.ntmps79
        go_wp2
        go_ret3
        exact ⟨rfl, rfl⟩
      · have h4 : 255 < n := by omega
        clear h
        go_enter Tryd.func79, Tryd.ntmps79
        go_wp2
        go_ret3
        exact ⟨rfl, rfl⟩

theorem Shift_yes (k x n c : Int) (hk : 0 ≤ k) (hk2 : k ≤ 3) (hn : 0 ≤ n) (hn2 : n ≤ 255) (hx : 0 ≤ x) (hx2 : x < 4294967296) (w : World) :
    Calls Tryd.prog 79 #[.int .i64 k, .int .u32 x, .int .i64 n, .int .u32 c] w fun e w' => e = .returned (.tuple #[.int .u32 (shW k x n.toNat), .int .u32 (shC k x c n.toNat), .int .i64 0]) ∧ w' = w := by
  go_enter Tryd.func79, Tryd.ntmps79
  go_wp2_with (go_at_call 80; refine (asBit_any _ _).mono ?_; rintro e w' ⟨rfl, rfl⟩)
  go_loop [1, 11, 29] (fun y d i => ∃ j : Nat, (j : Int) ≤ n ∧ i = .int .i64 j ∧ y = .int .u32 (shW k x j) ∧ d = .int .u32 (shC k x c j)) (fun _ _ i => n.toNat - (intOf i).toNat)
  case atStart => exact ⟨0, by omega, rfl, rfl, rfl⟩
  case round =>
    obtain ⟨j, hj, rfl, rfl, rfl⟩ := hrel
    have hb := shW_bd k x hx hx2 j
    by_cases hlt : (j : Int) < n
    · go_wp2_with (go_at_call 81; refine (shiftByOne_any _ _ hk hk2 hb.1 hb.2 _).mono ?_; rintro e w' ⟨rfl, rfl⟩)
      go_round
      case rel => exact ⟨j + 1, by omega, by go_num, rfl, rfl⟩
      case measure => simp [intOf]; omega
    · have e : n.toNat = j := by omega
      have E : Hid (n.toNat = j) := e
      clear e
      go_wp2
      go_ret3
      exact ⟨ret_ints3 (by rw [E.out]) (by rw [E.out]) rfl, rfl⟩

end Go.Proofs.YtegefbndpkbooaaDoor.Alu

/-! What the document's Shift, Wide, Pair, Len and the statements' anchor answer: contracts. -/
set_option linter.unusedVariables false
namespace Go.Proofs.YtegefbndpkbooaaDoor.Alu
open Go.RowKit

theorem pair_or (lo hi : Int) (hx : 0 ≤ lo) (hx2 : lo < 4294967296) (hy : 0 ≤ hi) (hy2 : hi < 4294967296) : bits .or .u64 (hi * 4294967296) lo = hi * 4294967296 + lo := by
  obtain ⟨L, rfl⟩ := Int.eq_ofNat_of_zero_le hx
  obtain ⟨H, rfl⟩ := Int.eq_ofNat_of_zero_le hy
  rw [show (H : Int) * 4294967296 = ((H * 4294967296 : Nat) : Int) by omega, u64_or_nat _ _ (by omega) (by omega), nat_join 32 _ _ (by omega) (by omega)]
  omega

theorem bitLen_le32 (n : Nat) (h : n < 4294967296) : bitLen n ≤ 32 := by
  unfold bitLen
  split
  · omega
  · rename_i h0
    have := (Nat.log2_lt h0).2 (show n < 2 ^ 32 from h)
    omega

theorem len_at (x y : Int) (m : Nat) (hx : 0 ≤ x) (hy : y.toNat = x.toNat / 2 ^ m) (hp : m = 0 ∨ 1 ≤ y) : (m : Int) + (bitLen y.toNat : Int) = (bitLen x.toNat : Int) := by
  rcases hp with rfl | hp
  · rw [hy]; simp
  · rw [bitLen_shift x.toNat m (by omega), hy]; omega

theorem wrap_len (i : Nat) (h : i < 256) (m : Int) (h0 : 0 ≤ m) (h1 : m ≤ 100) : wrap64 (m + wrap64 (bitLen i : Int)) = m + (bitLen i : Int) := by
  have := bitLen_le8 i h
  unfold wrap64; omega

theorem bitLen_half (n : Nat) (h : 0 < n) : bitLen n = 1 + bitLen (n / 2) := by
  by_cases h1 : n = 1
  · subst h1; rfl
  · exact bitLen_shift n 1 (by omega)

end Go.Proofs.YtegefbndpkbooaaDoor.Alu

/-! Further plain facts: other bits, differences, turns. -/
set_option linter.unusedVariables false
namespace Go.Proofs.YtegefbndpkbooaaDoor.Alu
open Go.RowKit

theorem xor_ones (a : Nat) (h : a < 4294967296) : 4294967295 ^^^ a = 4294967295 - a := by
  have e : (BitVec.allOnes 32 ^^^ BitVec.ofNat 32 a).toNat = (~~~ BitVec.ofNat 32 a).toNat := by rw [BitVec.allOnes_xor]
  rw [BitVec.toNat_xor, BitVec.toNat_not, BitVec.toNat_allOnes, BitVec.toNat_ofNat, Nat.mod_eq_of_lt (by omega)] at e
  simpa using e
theorem not32 (a : Int) (h : 0 ≤ a) (h2 : a ≤ 4294967295) : bits .xor .u32 IntKind.u32.max a = 4294967295 - a := by
  obtain ⟨A, rfl⟩ := Int.eq_ofNat_of_zero_le h
  rw [show IntKind.u32.max = ((4294967295 : Nat) : Int) from rfl, u32_xor_nat _ _ (by decide) (by omega), xor_ones A (by omega)]
  omega
theorem bit_shr (x n : Int) (hx : 0 ≤ x) (hx2 : x < 4294967296) (h0 : 0 ≤ n) (h1 : n < 32) : bits .and .u32 (x / 2 ^ n.toNat) 1 = bit x n := by
  have hs := shr_bd x n.toNat hx hx2
  rw [bits_and1 _ hs.1 hs.2]; unfold bit; rw [if_pos ⟨h0, h1⟩]
theorem take_S (x y : Int) (hx : 0 ≤ x) (hx2 : x < 4294967296) (hy : 0 ≤ y) (hy2 : y < 4294967296) : addS x (4294967295 - y) 1 = (x - y) % 4294967296 := by
  unfold addS; rw [b01_one]; omega
theorem take_C (x y : Int) (hx : 0 ≤ x) (hx2 : x < 4294967296) (hy : 0 ≤ y) (hy2 : y < 4294967296) : addC x (4294967295 - y) 1 = if y ≤ x then 1 else 0 := by
  unfold addC; rw [b01_one]; split <;> omega
theorem take_V (x y : Int) (hx : 0 ≤ x) (hx2 : x < 4294967296) (hy : 0 ≤ y) (hy2 : y < 4294967296) :
    addV x (4294967295 - y) 1 = if (x - y) % 4294967296 / 2147483648 = 1 then (if sg x < sg y then 0 else 1) else (if sg x < sg y then 1 else 0) := by
  unfold addV; rw [take_S x y hx hx2 hy hy2, b01_one]; unfold sg
  split <;> split <;> split <;> split <;> (try split) <;> (try split) <;> omega
theorem ret_bool {a b : Bool} (h : a = b) : Ending.returned (.bool a) = .returned (.bool b) := by rw [h]
theorem take_test (x y : Int) (hx : 0 ≤ x) (hx2 : x < 4294967296) (hy : 0 ≤ y) (hy2 : y < 4294967296) :
    (((x - y) % 4294967296 / 2147483648 != addV x (4294967295 - y) 1) == decide (wrap32 x < wrap32 y)) = true := by
  have hx' : wrap32 x = sg x := by unfold wrap32 sg; split <;> omega
  have hy' : wrap32 y = sg y := by unfold wrap32 sg; split <;> omega
  rw [take_V x y hx hx2 hy hy2, hx', hy']
  have hs : (x - y) % 4294967296 / 2147483648 = 1 ∨ (x - y) % 4294967296 / 2147483648 = 0 := by omega
  rcases hs with h | h <;> by_cases g : sg x < sg y <;> simp [h, g]
theorem pair_sum (a b c d : Int) (ha : 0 ≤ a) (ha2 : a < 4294967296) (hb : 0 ≤ b) (hb2 : b < 4294967296) (hc : 0 ≤ c) (hc2 : c < 4294967296) (hd : 0 ≤ d) (hd2 : d < 4294967296) :
    addS b d (addC a c 0) * 4294967296 + addS a c 0 = (b * 4294967296 + a + (d * 4294967296 + c)) % 18446744073709551616 := by
  unfold addS addC b01; rw [if_pos rfl]; split <;> omega
theorem pair_less (a b c d : Int) (ha : 0 ≤ a) (ha2 : a < 4294967296) (hb : 0 ≤ b) (hb2 : b < 4294967296) (hc : 0 ≤ c) (hc2 : c < 4294967296) (hd : 0 ≤ d) (hd2 : d < 4294967296) :
    addS b (4294967295 - d) (addC a (4294967295 - c) 1) * 4294967296 + addS a (4294967295 - c) 1 = (b * 4294967296 + a - (d * 4294967296 + c)) % 18446744073709551616 := by
  unfold addS addC; rw [b01_one]; unfold b01; split <;> omega
theorem pair_borrow (a b c d : Int) (ha : 0 ≤ a) (ha2 : a < 4294967296) (hb : 0 ≤ b) (hb2 : b < 4294967296) (hc : 0 ≤ c) (hc2 : c < 4294967296) (hd : 0 ≤ d) (hd2 : d < 4294967296) :
    addC b (4294967295 - d) (addC a (4294967295 - c) 1) = if b * 4294967296 + a < d * 4294967296 + c then 0 else 1 := by
  unfold addC; rw [b01_one]; unfold b01; split <;> split <;> omega
theorem wrap32_sg (x : Int) (hx : 0 ≤ x) (hx2 : x < 4294967296) : wrap32 x = sg x := by unfold wrap32 sg; split <;> omega
/-- A word that is turned by n bits, and then by 32 less n, is the word. -/
theorem turn_back (x n : Int) (hx : 0 ≤ x) (hx2 : x < 4294967296) (hn : 0 ≤ n) (hn2 : n ≤ 32) : shW 3 (shW 3 x n.toNat) (32 - n).toNat = x := by
  have b1 := shW_bd 3 x hx hx2 n.toNat
  have b2 := shW_bd 3 _ b1.1 b1.2 (32 - n).toNat
  refine word_eq _ _ b2.1 b2.2 hx hx2 fun i hi hi2 => ?_
  rw [shW_bit 3 _ (by decide) (by decide) b1.1 b1.2 _ i hi hi2]
  have hs : ∀ (i : Int) (m : Nat), src 3 i m = (i + m) % 32 := by intro i m; unfold src; simp
  rw [hs, shW_bit 3 x (by decide) (by decide) hx hx2 _ _ (by omega) (by omega), hs]
  congr 1; omega
/-- Shifted up and back a word keeps its other bits. -/
theorem out_back (x n : Int) (hx : 0 ≤ x) (hx2 : x < 4294967296) (hn : 0 ≤ n) (hn2 : n ≤ 32) (j : Nat) (hj : j < 32) :
    bit (shW 1 (shW 0 x n.toNat) n.toNat) j = if (j : Int) < 32 - n then bit x j else 0 := by
  have b1 := shW_bd 0 x hx hx2 n.toNat
  rw [shW_bit 1 _ (by decide) (by decide) b1.1 b1.2 _ j (by omega) (by omega)]
  have h1 : src 1 j (n.toNat : Nat) = j + n := by unfold src; simp; omega
  rw [h1]
  by_cases h : (j : Int) < 32 - n
  · rw [if_pos h, shW_bit 0 x (by decide) (by decide) hx hx2 _ _ (by omega) (by omega)]
    have h0 : src 0 (j + n) (n.toNat : Nat) = j := by unfold src; simp; omega
    rw [h0]
  · rw [if_neg h, bit_out _ _ (by omega)]
theorem sg_word (y : Int) (hy : 0 ≤ y) (hy2 : y < 4294967296) : sg y % 4294967296 = y := by unfold sg; split <;> omega
theorem half_sg (y : Int) (hy : 0 ≤ y) (hy2 : y < 4294967296) :
    wrap32 ((wrap32 (sg y - wrap32 (bits BinOp.and IntKind.u32 (sg y % 4294967296) 1))).tdiv 2) = sg (one 2 y) := by
  rw [sg_word y hy hy2, bits_and1 y hy hy2]
  have e : (2 : Int) * ((sg y - y % 2) / 2) = sg y - y % 2 := by unfold sg; split <;> omega
  have hb := sg_bd y hy hy2
  have e1 : wrap32 (y % 2) = y % 2 := by unfold wrap32; omega
  have e2 : wrap32 (sg y - y % 2) = sg y - y % 2 := by
    unfold wrap32; unfold sg at hb ⊢; split <;> omega
  rw [e1, e2, ← e, Int.mul_comm, Int.mul_tdiv_cancel _ (by decide)]
  rw [show one 2 y = y / 2 + y / 2147483648 * 2147483648 from rfl]
  unfold wrap32 sg
  split <;> split <;> omega

end Go.Proofs.YtegefbndpkbooaaDoor.Alu

