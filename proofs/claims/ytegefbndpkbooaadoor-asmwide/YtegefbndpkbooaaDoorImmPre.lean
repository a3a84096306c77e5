/- ImmMath, ImmMore, joined. -/
import Derived.Test.YtegefbndpkbooaaDoorAluAll
import Derived.Laws.MathBits

/-! Numbers, words and carries of layer 2 as plain functions; a word is the word of one number at most. -/
set_option linter.unusedVariables false
namespace Go.Proofs.YtegefbndpkbooaaDoor.Imm
open Go.Proofs.YtegefbndpkbooaaDoor.Alu

def fac (u : Int) : Int := if u = 0 then 1 else if u = 1 then 65537 else if u = 2 then 16777472 else 16843009
def has (n : Int) : Bool := decide (n < 256) || decide (1024 ≤ n) || !decide (n % 256 = 0)
def wd (n : Int) : Int := if 1024 ≤ n then (128 + n % 128) * 2 ^ (32 - n / 128).toNat else n % 256 * fac (n / 256)
def er (n : Int) : Int := if n < 0 ∨ 4096 ≤ n then 11 else if has n then 0 else 20
def wdA (n : Int) : Int := if er n = 0 then wd n else 0
def cyA (n c : Int) : Int := if er n = 0 then (if 1024 ≤ n then wd n / 2147483648 else b01 c) else 0
def rep (x u : Int) : Bool := decide (x / fac u ≤ 255) && decide (x / fac u * fac u = x)
def orB (x : Int) : Bool := rep x 0 || rep x 1 || rep x 2 || rep x 3
def orN (x : Int) : Int := if rep x 0 then x / fac 0 else if rep x 1 then 256 + x / fac 1 else if rep x 2 then 512 + x / fac 2 else if rep x 3 then 768 + x / fac 3 else 0
def up (x : Int) : Nat := bitLen x.toNat - 8
def otB (x : Int) : Bool := decide (0 < up x) && decide (x / 2 ^ up x * 2 ^ up x = x)
def otN (x : Int) : Int := if otB x then (32 - up x) * 128 + x / 2 ^ up x % 128 else 0
def ofN (x : Int) : Int := if orB x then orN x else otN x
def ofE (x : Int) : Int := if orB x || otB x then 0 else 20

theorem back_fin : ∀ i : Fin 64, ∀ j : Fin 64, has ((i.val * 64 + j.val : Nat) : Int) = true → ofN (wd ((i.val * 64 + j.val : Nat) : Int)) = ((i.val * 64 + j.val : Nat) : Int) ∧ ofE (wd ((i.val * 64 + j.val : Nat) : Int)) = 0 := by
  decide +kernel

end Go.Proofs.YtegefbndpkbooaaDoor.Imm

/-! Numbers and words of layer 2: what is found is told back; a byte that is turned. -/
set_option linter.unusedVariables false
namespace Go.Proofs.YtegefbndpkbooaaDoor.Imm
open Go.Proofs.YtegefbndpkbooaaDoor.Alu

theorem back (n : Int) (h0 : 0 ≤ n) (h1 : n < 4096) (h : has n = true) : ofN (wd n) = n ∧ ofE (wd n) = 0 := by
  have := back_fin ⟨n.toNat / 64, by omega⟩ ⟨n.toNat % 64, by omega⟩
  have e : ((n.toNat / 64 * 64 + n.toNat % 64 : Nat) : Int) = n := by omega
  simp only [e] at this
  exact this h

theorem wd_once (a b : Int) (a0 : 0 ≤ a) (a1 : a < 4096) (ha : has a = true) (b0 : 0 ≤ b) (b1 : b < 4096) (hb : has b = true) (h : wd a = wd b) : a = b := by
  rw [← (back a a0 a1 ha).1, h, (back b b0 b1 hb).1]

theorem er_ok {n : Int} (h : er n = 0) : 0 ≤ n ∧ n < 4096 ∧ has n = true := by
  unfold er at h
  split at h
  · omega
  · split at h
    · exact ⟨by omega, by omega, by assumption⟩
    · omega
theorem er_of {n : Int} (h0 : 0 ≤ n) (h1 : n < 4096) (h : has n = true) : er n = 0 := by
  unfold er; rw [if_neg (by omega), if_pos h]
theorem er_out {n : Int} (h : n < 0 ∨ 4096 ≤ n) : er n = 11 := by unfold er; rw [if_pos h]
theorem er_no {n : Int} (h0 : 0 ≤ n) (h1 : n < 4096) (h : has n = false) : er n = 20 := by
  unfold er; rw [if_neg (by omega), if_neg (by simp [h])]
theorem er_cases (n : Int) : er n = 0 ∨ er n = 11 ∨ er n = 20 := by
  unfold er; split
  · exact .inr (.inl rfl)
  · split <;> simp

theorem has_yes {n : Int} (h : n < 256 ∨ 1024 ≤ n ∨ n % 256 ≠ 0) : has n = true := by
  unfold has; simp only [Bool.or_eq_true, decide_eq_true_eq, Bool.not_eq_true', decide_eq_false_iff_not]; omega
theorem has_not {n : Int} (h : 256 ≤ n ∧ n < 1024 ∧ n % 256 = 0) : has n = false := by
  unfold has; simp only [Bool.or_eq_false_iff, decide_eq_false_iff_not, Bool.not_eq_false', decide_eq_true_eq]; omega

theorem wd_low (n u b : Int) (hn : n = u * 256 + b) (h0 : 0 ≤ u) (h1 : u ≤ 3) (hb : 0 ≤ b) (hb1 : b < 256) : wd n = b * fac u := by
  unfold wd
  rw [if_neg (by omega), show n % 256 = b by omega, show n / 256 = u by omega]
theorem wd_high (n b : Int) (k : Nat) (hn : n = (32 - k) * 128 + b % 128) (hk : 1 ≤ k) (hk1 : k ≤ 24) (hb : 128 ≤ b) (hb1 : b < 256) : wd n = b * 2 ^ k := by
  unfold wd
  rw [if_pos (by omega), show (32 - n / 128).toNat = k by omega, show 128 + n % 128 = b by omega]

theorem fac_at (u : Int) : fac u = 1 ∨ fac u = 65537 ∨ fac u = 16777472 ∨ fac u = 16843009 := by
  unfold fac; split
  · simp
  · split
    · simp
    · split <;> simp

theorem wd_bd (n : Int) (h0 : 0 ≤ n) (h1 : n < 4096) : 0 ≤ wd n ∧ wd n < 4294967296 := by
  unfold wd
  split
  · have h24 : (32 - n / 128).toNat ≤ 24 := by omega
    generalize (32 - n / 128).toNat = k at *
    have hp : (0 : Int) < 2 ^ k := Int.pow_pos (by decide)
    have hl : (2 : Int) ^ k ≤ 2 ^ 24 := by exact_mod_cast (Nat.pow_le_pow_right (by decide) h24 : (2 : Nat) ^ k ≤ 2 ^ 24)
    have hb : 0 ≤ 128 + n % 128 ∧ 128 + n % 128 ≤ 255 := by omega
    generalize 128 + n % 128 = b at *
    refine ⟨Int.mul_nonneg hb.1 (by omega), ?_⟩
    have := Int.mul_le_mul hb.2 hl (by omega) (by decide)
    omega
  · rcases fac_at (n / 256) with h | h | h | h <;> rw [h] <;> omega

theorem wdA_bd (n : Int) : 0 ≤ wdA n ∧ wdA n < 4294967296 := by
  unfold wdA
  split
  · rename_i h; obtain ⟨a, b, _⟩ := er_ok h; exact wd_bd n a b
  · omega

theorem ror8 : ∀ x : Fin 256, shW 3 ((x.val : Nat) : Int) 8 = ((x.val : Nat) : Int) * 16777216 := by decide +kernel

theorem ror_small (x : Int) (h0 : 0 ≤ x) (h1 : x < 256) : ∀ i : Nat, i ≤ 23 → shW 3 x (8 + i) = x * 2 ^ (24 - i)
  | 0, _ => by
    have := ror8 ⟨x.toNat, by omega⟩
    simp only [Int.toNat_of_nonneg h0] at this
    exact this
  | i + 1, h => by
    have ih := ror_small x h0 h1 i (by omega)
    show one 3 (shW 3 x (8 + i)) = _
    rw [ih]
    obtain ⟨m, hm⟩ : ∃ m, 24 - i = m + 1 := ⟨23 - i, by omega⟩
    rw [hm, show 24 - (i + 1) = m by omega, Int.pow_succ]
    unfold one
    rw [if_neg (by decide), if_neg (by decide), if_neg (by decide)]
    generalize (2 : Int) ^ m = p
    rw [← Int.mul_assoc]
    omega

theorem shW_turned (n : Int) (h0 : 1024 ≤ n) (h1 : n < 4096) : shW 3 (128 + n % 128) (n / 128).toNat = wd n := by
  obtain ⟨i, hi⟩ : ∃ i : Nat, (n / 128).toNat = 8 + i := ⟨(n / 128).toNat - 8, by omega⟩
  rw [hi, ror_small _ (by omega) (by omega) i (by omega)]
  unfold wd
  rw [if_pos h0, show (32 - n / 128).toNat = 24 - i by omega]

theorem shC_turned (n c : Int) (h0 : 1024 ≤ n) (h1 : n < 4096) : shC 3 (128 + n % 128) c (n / 128).toNat = wd n / 2147483648 := by
  rw [← shW_turned n h0 h1]
  obtain ⟨i, hi⟩ : ∃ i : Nat, (n / 128).toNat = i + 1 := ⟨(n / 128).toNat - 1, by omega⟩
  rw [hi]
  show out1 3 (shW 3 (128 + n % 128) i) = one 3 (shW 3 (128 + n % 128) i) / 2147483648
  have hb := shW_bd 3 (128 + n % 128) (by omega) (by omega) i
  unfold out1 one
  rw [if_neg (by decide), if_neg (by decide), if_neg (by decide), if_neg (by decide)]
  omega

theorem ofE_cases (x : Int) : ofE x = 0 ∨ ofE x = 20 := by unfold ofE; split <;> simp

theorem ofE_no {x : Int} (h : ofE x = 20) : ofN x = 0 := by
  unfold ofE at h
  split at h
  · omega
  · rename_i hn
    rw [Bool.or_eq_true, not_or] at hn
    unfold ofN otN
    rw [if_neg hn.1, if_neg hn.2]

theorem rep_iff (x u : Int) : rep x u = true ↔ x / fac u ≤ 255 ∧ x / fac u * fac u = x := by
  unfold rep; rw [Bool.and_eq_true, decide_eq_true_eq, decide_eq_true_eq]

theorem up_bd (x : Int) (h0 : 0 ≤ x) (h1 : x < 4294967296) (hu : 0 < up x) : up x ≤ 24 ∧ 128 ≤ x / 2 ^ up x ∧ x / 2 ^ up x < 256 := by
  obtain ⟨X, rfl⟩ := Int.eq_ofNat_of_zero_le h0
  unfold up at *
  rw [Int.toNat_natCast] at *
  unfold bitLen at *
  split at hu
  · omega
  · rename_i hz
    rw [if_neg hz]
    have hlt := Nat.lt_log2_self (n := X)
    have hge := Nat.log2_self_le hz
    have h32 := (Nat.log2_lt hz).2 (show X < 2 ^ 32 by omega)
    generalize X.log2 = L at *
    obtain ⟨k, hk⟩ : ∃ k, L = k + 7 := ⟨L - 7, by omega⟩
    subst hk
    rw [show k + 7 + 1 - 8 = k by omega]
    have hp : 0 < 2 ^ k := Nat.pow_pos (by decide)
    have e : ((X : Int) / 2 ^ k) = ((X / 2 ^ k : Nat) : Int) := by simp
    rw [e]
    refine ⟨by omega, ?_, ?_⟩
    · have : 128 ≤ X / 2 ^ k := (Nat.le_div_iff_mul_le hp).2 (by rw [Nat.pow_add] at hge; omega)
      omega
    · have : X / 2 ^ k < 256 := (Nat.div_lt_iff_lt_mul hp).2 (by rw [Nat.pow_succ, Nat.pow_add] at hlt; omega)
      omega

theorem found {x : Int} (h0 : 0 ≤ x) (h1 : x < 4294967296) (h : ofE x = 0) : 0 ≤ ofN x ∧ ofN x < 4096 ∧ has (ofN x) = true ∧ wd (ofN x) = x := by
  have h00 : (fac 0) = 1 := rfl
  have h01 : (fac 1) = 65537 := rfl
  have h02 : (fac 2) = 16777472 := rfl
  have h03 : (fac 3) = 16843009 := rfl
  have r0 := rep_iff x 0
  have r1 := rep_iff x 1
  have r2 := rep_iff x 2
  have r3 := rep_iff x 3
  rw [h00] at r0
  rw [h01] at r1
  rw [h02] at r2
  rw [h03] at r3
  unfold ofN
  by_cases ho : orB x = true
  · rw [if_pos ho]
    unfold orB at ho
    unfold orN
    rw [h00, h01, h02, h03]
    by_cases c0 : rep x 0 = true
    · rw [if_pos c0]; have := r0.1 c0
      exact ⟨by omega, by omega, has_yes (by omega), by rw [wd_low _ 0 (x / 1) (by omega) (by omega) (by omega) (by omega) (by omega), h00]; omega⟩
    · rw [if_neg c0]
      have c0' : ¬ (x / 1 ≤ 255 ∧ x / 1 * 1 = x) := fun k => c0 (r0.2 k)
      by_cases c1 : rep x 1 = true
      · rw [if_pos c1]; have := r1.1 c1
        exact ⟨by omega, by omega, has_yes (by omega), by rw [wd_low _ 1 (x / 65537) (by omega) (by omega) (by omega) (by omega) (by omega), h01]; omega⟩
      · rw [if_neg c1]
        by_cases c2 : rep x 2 = true
        · rw [if_pos c2]; have := r2.1 c2
          exact ⟨by omega, by omega, has_yes (by omega), by rw [wd_low _ 2 (x / 16777472) (by omega) (by omega) (by omega) (by omega) (by omega), h02]; omega⟩
        · rw [if_neg c2]
          by_cases c3 : rep x 3 = true
          · rw [if_pos c3]; have := r3.1 c3
            exact ⟨by omega, by omega, has_yes (by omega), by rw [wd_low _ 3 (x / 16843009) (by omega) (by omega) (by omega) (by omega) (by omega), h03]; omega⟩
          · simp [c0, c1, c2, c3] at ho
  · rw [if_neg ho]
    unfold ofE at h
    by_cases ht : otB x = true
    · unfold otN
      rw [if_pos ht]
      unfold otB at ht
      rw [Bool.and_eq_true, decide_eq_true_eq, decide_eq_true_eq] at ht
      obtain ⟨u1, u2, u3⟩ := up_bd x h0 h1 ht.1
      have hw := wd_high ((32 - (up x : Int)) * 128 + x / 2 ^ up x % 128) (x / 2 ^ up x) (up x) rfl ht.1 u1 u2 u3
      exact ⟨by omega, by omega, has_yes (by omega), by rw [hw]; exact ht.2⟩
    · rw [if_neg (by simp [ho, ht])] at h
      omega

theorem none_found {x : Int} (h : ofE x = 20) (n : Int) (h0 : 0 ≤ n) (h1 : n < 4096) (hn : has n = true) : wd n ≠ x := by
  intro e
  have := (back n h0 h1 hn).2
  rw [e] at this
  omega

theorem found_is {x : Int} (n : Int) (h0 : 0 ≤ n) (h1 : n < 4096) (hn : has n = true) (e : wd n = x) : ofN x = n ∧ ofE x = 0 := by
  rw [← e]; exact back n h0 h1 hn

end Go.Proofs.YtegefbndpkbooaaDoor.Imm

