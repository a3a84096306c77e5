/- CodeOr, CodeOrs, CodeOrs2, joined. -/
import Derived.WalkKit
import Derived.Laws.BitsAllLaws
import Derived.Test.YtegefbndpkbooaaDoorBits64

/-! Words as sums of parts that have no bit in common. -/
set_option linter.unusedVariables false
namespace Go.Proofs.YtegefbndpkbooaaDoor.Code

theorem or_add : ∀ a b : Nat, a &&& b = 0 → a ||| b = a + b := by
  intro a
  induction a using Nat.strongRecOn with
  | ind a ih =>
    intro b h
    by_cases ha : a = 0
    · subst ha; simp
    · have h1 : (a / 2) &&& (b / 2) = 0 := by rw [← Nat.and_div_two, h]
      have h2 := ih (a / 2) (by omega) (b / 2) h1
      have h3 : (a ||| b) / 2 = a / 2 ||| b / 2 := Nat.or_div_two
      have t : (a &&& b).testBit 0 = (0 : Nat).testBit 0 := by rw [h]
      rw [Nat.testBit_and, Nat.zero_testBit] at t
      simp only [Nat.testBit_zero] at t
      have t' : ¬ (a % 2 = 1 ∧ b % 2 = 1) := by
        intro ⟨x, y⟩; simp [x, y] at t
      have u : (a ||| b).testBit 0 = (a.testBit 0 || b.testBit 0) := Nat.testBit_or a b 0
      simp only [Nat.testBit_zero] at u
      have v : (a ||| b) % 2 = 1 ↔ a % 2 = 1 ∨ b % 2 = 1 := by
        have := Bool.eq_iff_iff.1 u
        simp only [Bool.or_eq_true, decide_eq_true_eq] at this
        exact this
      omega

/-- A number has its bits among those of a mask. -/
def In (a : Int) (m : Nat) : Prop := 0 ≤ a ∧ a.toNat &&& m = a.toNat ∧ m < 4294967296
theorem In.le {a : Int} {m : Nat} (h : In a m) : 0 ≤ a ∧ a < 4294967296 := by
  obtain ⟨h0, h1, h2⟩ := h
  have : a.toNat &&& m ≤ m := Nat.and_le_right
  omega
theorem in_piece (c k : Nat) (p m : Nat) (n a : Int) (hp : 2 ^ k = p) (hm : (2 ^ c - 1) * p = m) (hn : 0 ≤ n) (hn2 : n < 2 ^ c) (hl : m < 4294967296) (ha : a = n * p) : In a m := by
  subst hp hm ha
  obtain ⟨N, rfl⟩ := Int.eq_ofNat_of_zero_le hn
  have e : (N : Int) * ((2 ^ k : Nat) : Int) = ((N * 2 ^ k : Nat) : Int) := by simp
  have hN : N < 2 ^ c := by exact_mod_cast hn2
  rw [e]
  refine ⟨by omega, ?_, hl⟩
  rw [Int.toNat_natCast, ← Nat.shiftLeft_eq, ← Nat.shiftLeft_eq, ← Nat.shiftLeft_and_distrib, Nat.and_two_pow_sub_one_eq_mod, Nat.mod_eq_of_lt hN]
theorem and_of {a b m k : Nat} (ha : a &&& m = a) (hb : b &&& k = b) (h : m &&& k = 0) : a &&& b = 0 := by
  rw [← ha, ← hb]
  calc (a &&& m) &&& (b &&& k) = (a &&& b) &&& (m &&& k) := by
        apply Nat.eq_of_testBit_eq; intro i; simp only [Nat.testBit_and]
        cases a.testBit i <;> cases m.testBit i <;> cases b.testBit i <;> rfl
    _ = 0 := by rw [h, Nat.and_zero]
theorem or_of {a b m k : Nat} (ha : a &&& m = a) (hb : b &&& k = b) : (a ||| b) &&& (m ||| k) = a ||| b := by
  apply Nat.eq_of_testBit_eq; intro i
  have h1 := congrArg (fun x => Nat.testBit x i) ha
  have h2 := congrArg (fun x => Nat.testBit x i) hb
  simp only [Nat.testBit_and, Nat.testBit_or] at *
  revert h1 h2
  cases a.testBit i <;> cases m.testBit i <;> cases b.testBit i <;> cases k.testBit i <;> simp
theorem in_join {a b : Int} {m k : Nat} (ha : In a m) (hb : In b k) (h : m &&& k = 0) : bits .or .u32 a b = a + b ∧ In (a + b) (m ||| k) := by
  have la := ha.le
  have lb := hb.le
  obtain ⟨a0, a1, a2⟩ := ha
  obtain ⟨b0, b1, b2⟩ := hb
  have e := or_add _ _ (and_of a1 b1 h)
  have en : (a + b).toNat = a.toNat ||| b.toNat := by rw [e]; omega
  refine ⟨by rw [u32_or a b la.1 la.2 lb.1 lb.2, e]; omega, by omega, ?_, ?_⟩
  · rw [en]; exact or_of a1 b1
  · exact Nat.or_lt_two_pow (n := 32) a2 b2
theorem in_join64 {a b : Int} {m k : Nat} (ha : In a m) (hb : In b k) (h : m &&& k = 0) : bits .or .i64 a b = a + b ∧ In (a + b) (m ||| k) := by
  have la := ha.le
  have lb := hb.le
  obtain ⟨a0, a1, a2⟩ := ha
  obtain ⟨b0, b1, b2⟩ := hb
  have e := or_add _ _ (and_of a1 b1 h)
  have en : (a + b).toNat = a.toNat ||| b.toNat := by rw [e]; omega
  refine ⟨by rw [Alu.i64_or a b (by omega) (by omega) (by omega) (by omega), e]; omega, by omega, ?_, ?_⟩
  · rw [en]; exact or_of a1 b1
  · exact Nat.or_lt_two_pow (n := 32) a2 b2
theorem in_zero (m : Nat) (h : m < 4294967296) : In 0 m := ⟨by decide, by simp, h⟩
theorem In.wider {a : Int} {m k : Nat} (h : In a m) (hk : m &&& k = m) (hl : k < 4294967296) : In a k := by
  obtain ⟨h0, h1, h2⟩ := h
  refine ⟨h0, ?_, hl⟩
  rw [← h1, Nat.and_assoc, hk]
/-- Of two numbers without a bit in common: the sum less one is the other, by its bits. -/
theorem in_less {a b : Int} {m k : Nat} (ha : In a m) (hb : In b k) (h : m &&& k = 0) : bits .and .u32 (a + b) a = a ∧ bits .andNot .u32 (a + b) a = b := by
  have hs := (in_join ha hb h).2.le
  have la := ha.le
  have lb := hb.le
  obtain ⟨a0, a1, a2⟩ := ha
  obtain ⟨b0, b1, b2⟩ := hb
  have hz := and_of a1 b1 h
  have e := or_add _ _ hz
  have en : (a + b).toNat = a.toNat ||| b.toNat := by rw [e]; omega
  rw [u32_and _ _ hs.1 hs.2 la.1 la.2, u32_andNot _ _ hs.1 hs.2 la.1 la.2, en]
  obtain ⟨A, rfl⟩ := Int.eq_ofNat_of_zero_le la.1
  obtain ⟨B, rfl⟩ := Int.eq_ofNat_of_zero_le lb.1
  simp only [Int.toNat_natCast] at *
  constructor
  · have : (A ||| B) &&& A = A := by
      apply Nat.eq_of_testBit_eq; intro i; simp only [Nat.testBit_and, Nat.testBit_or]
      cases A.testBit i <;> cases B.testBit i <;> rfl
    rw [this]
  · have : (A ||| B) &&& (4294967295 - A) = B := by
      apply Nat.eq_of_testBit_eq; intro i
      have h1 := congrArg (fun x => Nat.testBit x i) hz
      have e2 : 4294967295 - A = 2 ^ 32 - (A + 1) := by omega
      rw [e2, Nat.testBit_and, Nat.testBit_or, Nat.testBit_two_pow_sub_succ (by omega)]
      simp only [Nat.testBit_and, Nat.zero_testBit] at h1
      by_cases hi : i < 32
      · revert h1
        simp only [hi, decide_true, Bool.true_and]
        cases A.testBit i <;> cases B.testBit i <;> simp
      · have hB : B.testBit i = false := Nat.testBit_lt_two_pow (Nat.lt_of_lt_of_le (show B < 2 ^ 32 by omega) (Nat.pow_le_pow_right (by decide) (by omega)))
        simp [hi, hB]
    rw [this]

end Go.Proofs.YtegefbndpkbooaaDoor.Code

/-! Ors of parts that have no bit in common, as sums. -/
set_option linter.unusedVariables false
namespace Go.Proofs.YtegefbndpkbooaaDoor.Code

theorem or_tw {a b c : Int} (ha : 0 ≤ a ∧ a ≤ 1) (hb : 0 ≤ b ∧ b ≤ 7) (hc : 0 ≤ c ∧ c ≤ 255) : (bits .or .u32 (bits .or .u32 (a * 67108864) (b * 4096)) c) = ((a * 67108864 + b * 4096) + c) ∧ In ((a * 67108864 + b * 4096) + c) 67137791 := by
  have p0 : In (a * 67108864) 67108864 := in_piece 1 26 67108864 67108864 a _ (by decide) (by decide) (by omega) (by omega) (by decide) (by omega)
  have p1 : In (b * 4096) 28672 := in_piece 3 12 4096 28672 b _ (by decide) (by decide) (by omega) (by omega) (by decide) (by omega)
  obtain ⟨q2, p2⟩ := in_join p0 p1 (by decide)
  have p3 : In (c) 255 := in_piece 8 0 1 255 c _ (by decide) (by decide) (by omega) (by omega) (by decide) (by omega)
  obtain ⟨q4, p4⟩ := in_join p2 p3 (by decide)
  rw [q2, q4]
  exact ⟨rfl, p4⟩

theorem or_cw {a b c d e : Int} (ha : 0 ≤ a ∧ a ≤ 1) (hb : 0 ≤ b ∧ b ≤ 63) (hc : 0 ≤ c ∧ c ≤ 1) (hd : 0 ≤ d ∧ d ≤ 1) (he : 0 ≤ e ∧ e ≤ 2047) : (bits .or .u32 (bits .or .u32 (bits .or .u32 (bits .or .u32 (a * 67108864) (b * 65536)) (c * 8192)) (d * 2048)) e) = ((((a * 67108864 + b * 65536) + c * 8192) + d * 2048) + e) ∧ In ((((a * 67108864 + b * 65536) + c * 8192) + d * 2048) + e) 71249919 := by
  have p0 : In (a * 67108864) 67108864 := in_piece 1 26 67108864 67108864 a _ (by decide) (by decide) (by omega) (by omega) (by decide) (by omega)
  have p1 : In (b * 65536) 4128768 := in_piece 6 16 65536 4128768 b _ (by decide) (by decide) (by omega) (by omega) (by decide) (by omega)
  obtain ⟨q2, p2⟩ := in_join p0 p1 (by decide)
  have p3 : In (c * 8192) 8192 := in_piece 1 13 8192 8192 c _ (by decide) (by decide) (by omega) (by omega) (by decide) (by omega)
  obtain ⟨q4, p4⟩ := in_join p2 p3 (by decide)
  have p5 : In (d * 2048) 2048 := in_piece 1 11 2048 2048 d _ (by decide) (by decide) (by omega) (by omega) (by decide) (by omega)
  obtain ⟨q6, p6⟩ := in_join p4 p5 (by decide)
  have p7 : In (e) 2047 := in_piece 11 0 1 2047 e _ (by decide) (by decide) (by omega) (by omega) (by decide) (by omega)
  obtain ⟨q8, p8⟩ := in_join p6 p7 (by decide)
  rw [q2, q4, q6, q8]
  exact ⟨rfl, p8⟩

theorem or_jw {a b c d e : Int} (ha : 0 ≤ a ∧ a ≤ 1) (hb : 0 ≤ b ∧ b ≤ 1023) (hc : 0 ≤ c ∧ c ≤ 1) (hd : 0 ≤ d ∧ d ≤ 1) (he : 0 ≤ e ∧ e ≤ 2047) : (bits .or .u32 (bits .or .u32 (bits .or .u32 (bits .or .u32 (a * 67108864) (b * 65536)) (c * 8192)) (d * 2048)) e) = ((((a * 67108864 + b * 65536) + c * 8192) + d * 2048) + e) ∧ In ((((a * 67108864 + b * 65536) + c * 8192) + d * 2048) + e) 134164479 := by
  have p0 : In (a * 67108864) 67108864 := in_piece 1 26 67108864 67108864 a _ (by decide) (by decide) (by omega) (by omega) (by decide) (by omega)
  have p1 : In (b * 65536) 67043328 := in_piece 10 16 65536 67043328 b _ (by decide) (by decide) (by omega) (by omega) (by decide) (by omega)
  obtain ⟨q2, p2⟩ := in_join p0 p1 (by decide)
  have p3 : In (c * 8192) 8192 := in_piece 1 13 8192 8192 c _ (by decide) (by decide) (by omega) (by omega) (by decide) (by omega)
  obtain ⟨q4, p4⟩ := in_join p2 p3 (by decide)
  have p5 : In (d * 2048) 2048 := in_piece 1 11 2048 2048 d _ (by decide) (by decide) (by omega) (by omega) (by decide) (by omega)
  obtain ⟨q6, p6⟩ := in_join p4 p5 (by decide)
  have p7 : In (e) 2047 := in_piece 11 0 1 2047 e _ (by decide) (by decide) (by omega) (by omega) (by decide) (by omega)
  obtain ⟨q8, p8⟩ := in_join p6 p7 (by decide)
  rw [q2, q4, q6, q8]
  exact ⟨rfl, p8⟩

theorem or_ot {a b c : Int} (ha : 0 ≤ a ∧ a ≤ 1) (hb : 0 ≤ b ∧ b ≤ 7) (hc : 0 ≤ c ∧ c ≤ 255) : (bits .or .i64 (bits .or .i64 (a * 2048) (b * 256)) c) = ((a * 2048 + b * 256) + c) ∧ In ((a * 2048 + b * 256) + c) 4095 := by
  have p0 : In (a * 2048) 2048 := in_piece 1 11 2048 2048 a _ (by decide) (by decide) (by omega) (by omega) (by decide) (by omega)
  have p1 : In (b * 256) 1792 := in_piece 3 8 256 1792 b _ (by decide) (by decide) (by omega) (by omega) (by decide) (by omega)
  obtain ⟨q2, p2⟩ := in_join64 p0 p1 (by decide)
  have p3 : In (c) 255 := in_piece 8 0 1 255 c _ (by decide) (by decide) (by omega) (by omega) (by decide) (by omega)
  obtain ⟨q4, p4⟩ := in_join64 p2 p3 (by decide)
  rw [q2, q4]
  exact ⟨rfl, p4⟩

theorem or_oc {a b c d e : Int} (ha : 0 ≤ a ∧ a ≤ 1) (hb : 0 ≤ b ∧ b ≤ 1) (hc : 0 ≤ c ∧ c ≤ 1) (hd : 0 ≤ d ∧ d ≤ 63) (he : 0 ≤ e ∧ e ≤ 2047) : (bits .or .u32 (bits .or .u32 (bits .or .u32 (bits .or .u32 (a * 1048576) (b * 524288)) (c * 262144)) (d * 4096)) (e * 2)) = ((((a * 1048576 + b * 524288) + c * 262144) + d * 4096) + e * 2) ∧ In ((((a * 1048576 + b * 524288) + c * 262144) + d * 4096) + e * 2) 2097150 := by
  have p0 : In (a * 1048576) 1048576 := in_piece 1 20 1048576 1048576 a _ (by decide) (by decide) (by omega) (by omega) (by decide) (by omega)
  have p1 : In (b * 524288) 524288 := in_piece 1 19 524288 524288 b _ (by decide) (by decide) (by omega) (by omega) (by decide) (by omega)
  obtain ⟨q2, p2⟩ := in_join p0 p1 (by decide)
  have p3 : In (c * 262144) 262144 := in_piece 1 18 262144 262144 c _ (by decide) (by decide) (by omega) (by omega) (by decide) (by omega)
  obtain ⟨q4, p4⟩ := in_join p2 p3 (by decide)
  have p5 : In (d * 4096) 258048 := in_piece 6 12 4096 258048 d _ (by decide) (by decide) (by omega) (by omega) (by decide) (by omega)
  obtain ⟨q6, p6⟩ := in_join p4 p5 (by decide)
  have p7 : In (e * 2) 4094 := in_piece 11 1 2 4094 e _ (by decide) (by decide) (by omega) (by omega) (by decide) (by omega)
  obtain ⟨q8, p8⟩ := in_join p6 p7 (by decide)
  rw [q2, q4, q6, q8]
  exact ⟨rfl, p8⟩

theorem or_oj {a b c d e : Int} (ha : 0 ≤ a ∧ a ≤ 1) (hb : 0 ≤ b ∧ b ≤ 1) (hc : 0 ≤ c ∧ c ≤ 1) (hd : 0 ≤ d ∧ d ≤ 1023) (he : 0 ≤ e ∧ e ≤ 2047) : (bits .or .u32 (bits .or .u32 (bits .or .u32 (bits .or .u32 (a * 16777216) (b * 8388608)) (c * 4194304)) (d * 4096)) (e * 2)) = ((((a * 16777216 + b * 8388608) + c * 4194304) + d * 4096) + e * 2) ∧ In ((((a * 16777216 + b * 8388608) + c * 4194304) + d * 4096) + e * 2) 33554430 := by
  have p0 : In (a * 16777216) 16777216 := in_piece 1 24 16777216 16777216 a _ (by decide) (by decide) (by omega) (by omega) (by decide) (by omega)
  have p1 : In (b * 8388608) 8388608 := in_piece 1 23 8388608 8388608 b _ (by decide) (by decide) (by omega) (by omega) (by decide) (by omega)
  obtain ⟨q2, p2⟩ := in_join p0 p1 (by decide)
  have p3 : In (c * 4194304) 4194304 := in_piece 1 22 4194304 4194304 c _ (by decide) (by decide) (by omega) (by omega) (by decide) (by omega)
  obtain ⟨q4, p4⟩ := in_join p2 p3 (by decide)
  have p5 : In (d * 4096) 4190208 := in_piece 10 12 4096 4190208 d _ (by decide) (by decide) (by omega) (by omega) (by decide) (by omega)
  obtain ⟨q6, p6⟩ := in_join p4 p5 (by decide)
  have p7 : In (e * 2) 4094 := in_piece 11 1 2 4094 e _ (by decide) (by decide) (by omega) (by omega) (by decide) (by omega)
  obtain ⟨q8, p8⟩ := in_join p6 p7 (by decide)
  rw [q2, q4, q6, q8]
  exact ⟨rfl, p8⟩

theorem or_1 {a b c : Int} (ha : 0 ≤ a ∧ a ≤ 31) (hb : 0 ≤ b ∧ b ≤ 7) (hc : 0 ≤ c ∧ c ≤ 7) : (bits .or .u32 (bits .or .u32 (a * 64) (b * 8)) c) = ((a * 64 + b * 8) + c) ∧ In ((a * 64 + b * 8) + c) 2047 := by
  have p0 : In (a * 64) 1984 := in_piece 5 6 64 1984 a _ (by decide) (by decide) (by omega) (by omega) (by decide) (by omega)
  have p1 : In (b * 8) 56 := in_piece 3 3 8 56 b _ (by decide) (by decide) (by omega) (by omega) (by decide) (by omega)
  obtain ⟨q2, p2⟩ := in_join p0 p1 (by decide)
  have p3 : In (c) 7 := in_piece 3 0 1 7 c _ (by decide) (by decide) (by omega) (by omega) (by decide) (by omega)
  obtain ⟨q4, p4⟩ := in_join p2 p3 (by decide)
  rw [q2, q4]
  exact ⟨rfl, p4⟩

theorem or_2 {a b c : Int} (ha : 0 ≤ a ∧ a ≤ 7) (hb : 0 ≤ b ∧ b ≤ 7) (hc : 0 ≤ c ∧ c ≤ 7) : (bits .or .u32 (bits .or .u32 (a * 64) (b * 8)) c) = ((a * 64 + b * 8) + c) ∧ In ((a * 64 + b * 8) + c) 511 := by
  have p0 : In (a * 64) 448 := in_piece 3 6 64 448 a _ (by decide) (by decide) (by omega) (by omega) (by decide) (by omega)
  have p1 : In (b * 8) 56 := in_piece 3 3 8 56 b _ (by decide) (by decide) (by omega) (by omega) (by decide) (by omega)
  obtain ⟨q2, p2⟩ := in_join p0 p1 (by decide)
  have p3 : In (c) 7 := in_piece 3 0 1 7 c _ (by decide) (by decide) (by omega) (by omega) (by decide) (by omega)
  obtain ⟨q4, p4⟩ := in_join p2 p3 (by decide)
  rw [q2, q4]
  exact ⟨rfl, p4⟩

theorem or_4 {a b : Int} (ha : 0 ≤ a ∧ a ≤ 7) (hb : 0 ≤ b ∧ b ≤ 255) : (bits .or .u32 (a * 256) b) = (a * 256 + b) ∧ In (a * 256 + b) 2047 := by
  have p0 : In (a * 256) 1792 := in_piece 3 8 256 1792 a _ (by decide) (by decide) (by omega) (by omega) (by decide) (by omega)
  have p1 : In (b) 255 := in_piece 8 0 1 255 b _ (by decide) (by decide) (by omega) (by omega) (by decide) (by omega)
  obtain ⟨q2, p2⟩ := in_join p0 p1 (by decide)
  rw [q2]
  exact ⟨rfl, p2⟩

theorem or_5 {a b : Int} (ha : 0 ≤ a ∧ a ≤ 7) (hb : 0 ≤ b ∧ b ≤ 7) : (bits .or .u32 (a * 8) b) = (a * 8 + b) ∧ In (a * 8 + b) 63 := by
  have p0 : In (a * 8) 56 := in_piece 3 3 8 56 a _ (by decide) (by decide) (by omega) (by omega) (by decide) (by omega)
  have p1 : In (b) 7 := in_piece 3 0 1 7 b _ (by decide) (by decide) (by omega) (by omega) (by decide) (by omega)
  obtain ⟨q2, p2⟩ := in_join p0 p1 (by decide)
  rw [q2]
  exact ⟨rfl, p2⟩

theorem or_6 {a b c : Int} (ha : 0 ≤ a ∧ a ≤ 1) (hb : 0 ≤ b ∧ b ≤ 15) (hc : 0 ≤ c ∧ c ≤ 7) : (bits .or .u32 (bits .or .u32 (a * 128) (b * 8)) c) = ((a * 128 + b * 8) + c) ∧ In ((a * 128 + b * 8) + c) 255 := by
  have p0 : In (a * 128) 128 := in_piece 1 7 128 128 a _ (by decide) (by decide) (by omega) (by omega) (by decide) (by omega)
  have p1 : In (b * 8) 120 := in_piece 4 3 8 120 b _ (by decide) (by decide) (by omega) (by omega) (by decide) (by omega)
  obtain ⟨q2, p2⟩ := in_join p0 p1 (by decide)
  have p3 : In (c) 7 := in_piece 3 0 1 7 c _ (by decide) (by decide) (by omega) (by omega) (by decide) (by omega)
  obtain ⟨q4, p4⟩ := in_join p2 p3 (by decide)
  rw [q2, q4]
  exact ⟨rfl, p4⟩

theorem or_11 {a b : Int} (ha : 0 ≤ a ∧ a ≤ 1) (hb : 0 ≤ b ∧ b ≤ 255) : (bits .or .u32 (a * 256) b) = (a * 256 + b) ∧ In (a * 256 + b) 511 := by
  have p0 : In (a * 256) 256 := in_piece 1 8 256 256 a _ (by decide) (by decide) (by omega) (by omega) (by decide) (by omega)
  have p1 : In (b) 255 := in_piece 8 0 1 255 b _ (by decide) (by decide) (by omega) (by omega) (by decide) (by omega)
  obtain ⟨q2, p2⟩ := in_join p0 p1 (by decide)
  rw [q2]
  exact ⟨rfl, p2⟩

theorem or_15 {a b : Int} (ha : 0 ≤ a ∧ a ≤ 15) (hb : 0 ≤ b ∧ b ≤ 255) : (bits .or .u32 (a * 256) b) = (a * 256 + b) ∧ In (a * 256 + b) 4095 := by
  have p0 : In (a * 256) 3840 := in_piece 4 8 256 3840 a _ (by decide) (by decide) (by omega) (by omega) (by decide) (by omega)
  have p1 : In (b) 255 := in_piece 8 0 1 255 b _ (by decide) (by decide) (by omega) (by omega) (by decide) (by omega)
  obtain ⟨q2, p2⟩ := in_join p0 p1 (by decide)
  rw [q2]
  exact ⟨rfl, p2⟩

theorem or_17 {a b t u v : Int} (ha : 0 ≤ a ∧ a ≤ 15) (hb : 0 ≤ b ∧ b ≤ 15) (ht : 0 ≤ t ∧ t ≤ 1) (hu : 0 ≤ u ∧ u ≤ 7) (hv : 0 ≤ v ∧ v ≤ 255) : (bits .or .u32 (bits .or .u32 (a * 65536) (b * 256)) (bits .or .u32 (bits .or .u32 (t * 67108864) (u * 4096)) v)) = ((a * 65536 + b * 256) + ((t * 67108864 + u * 4096) + v)) ∧ In ((a * 65536 + b * 256) + ((t * 67108864 + u * 4096) + v)) 68124671 := by
  have p0 : In (a * 65536) 983040 := in_piece 4 16 65536 983040 a _ (by decide) (by decide) (by omega) (by omega) (by decide) (by omega)
  have p1 : In (b * 256) 3840 := in_piece 4 8 256 3840 b _ (by decide) (by decide) (by omega) (by omega) (by decide) (by omega)
  obtain ⟨q2, p2⟩ := in_join p0 p1 (by decide)
  have p3 : In (t * 67108864) 67108864 := in_piece 1 26 67108864 67108864 t _ (by decide) (by decide) (by omega) (by omega) (by decide) (by omega)
  have p4 : In (u * 4096) 28672 := in_piece 3 12 4096 28672 u _ (by decide) (by decide) (by omega) (by omega) (by decide) (by omega)
  obtain ⟨q5, p5⟩ := in_join p3 p4 (by decide)
  have p6 : In (v) 255 := in_piece 8 0 1 255 v _ (by decide) (by decide) (by omega) (by omega) (by decide) (by omega)
  obtain ⟨q7, p7⟩ := in_join p5 p6 (by decide)
  obtain ⟨q8, p8⟩ := in_join p2 p7 (by decide)
  rw [q2, q5, q7, q8]
  exact ⟨rfl, p8⟩

theorem or_18 {a b c t u v : Int} (ha : 0 ≤ a ∧ a ≤ 1) (hb : 0 ≤ b ∧ b ≤ 15) (hc : 0 ≤ c ∧ c ≤ 15) (ht : 0 ≤ t ∧ t ≤ 1) (hu : 0 ≤ u ∧ u ≤ 7) (hv : 0 ≤ v ∧ v ≤ 255) : (bits .or .u32 (bits .or .u32 (bits .or .u32 (a * 1048576) (b * 65536)) (c * 256)) (bits .or .u32 (bits .or .u32 (t * 67108864) (u * 4096)) v)) = (((a * 1048576 + b * 65536) + c * 256) + ((t * 67108864 + u * 4096) + v)) ∧ In (((a * 1048576 + b * 65536) + c * 256) + ((t * 67108864 + u * 4096) + v)) 69173247 := by
  have p0 : In (a * 1048576) 1048576 := in_piece 1 20 1048576 1048576 a _ (by decide) (by decide) (by omega) (by omega) (by decide) (by omega)
  have p1 : In (b * 65536) 983040 := in_piece 4 16 65536 983040 b _ (by decide) (by decide) (by omega) (by omega) (by decide) (by omega)
  obtain ⟨q2, p2⟩ := in_join p0 p1 (by decide)
  have p3 : In (c * 256) 3840 := in_piece 4 8 256 3840 c _ (by decide) (by decide) (by omega) (by omega) (by decide) (by omega)
  obtain ⟨q4, p4⟩ := in_join p2 p3 (by decide)
  have p5 : In (t * 67108864) 67108864 := in_piece 1 26 67108864 67108864 t _ (by decide) (by decide) (by omega) (by omega) (by decide) (by omega)
  have p6 : In (u * 4096) 28672 := in_piece 3 12 4096 28672 u _ (by decide) (by decide) (by omega) (by omega) (by decide) (by omega)
  obtain ⟨q7, p7⟩ := in_join p5 p6 (by decide)
  have p8 : In (v) 255 := in_piece 8 0 1 255 v _ (by decide) (by decide) (by omega) (by omega) (by decide) (by omega)
  obtain ⟨q9, p9⟩ := in_join p7 p8 (by decide)
  obtain ⟨q10, p10⟩ := in_join p4 p9 (by decide)
  rw [q2, q4, q7, q9, q10]
  exact ⟨rfl, p10⟩

theorem or_21 {a b c d e g i : Int} (ha : 0 ≤ a ∧ a ≤ 1) (hb : 0 ≤ b ∧ b ≤ 15) (hc : 0 ≤ c ∧ c ≤ 7) (hd : 0 ≤ d ∧ d ≤ 15) (he : 0 ≤ e ∧ e ≤ 3) (hg : 0 ≤ g ∧ g ≤ 3) (hi : 0 ≤ i ∧ i ≤ 15) : (bits .or .u32 (bits .or .u32 (bits .or .u32 (bits .or .u32 (bits .or .u32 (bits .or .u32 (a * 1048576) (b * 65536)) (c * 4096)) (d * 256)) (e * 64)) (g * 16)) i) = ((((((a * 1048576 + b * 65536) + c * 4096) + d * 256) + e * 64) + g * 16) + i) ∧ In ((((((a * 1048576 + b * 65536) + c * 4096) + d * 256) + e * 64) + g * 16) + i) 2064383 := by
  have p0 : In (a * 1048576) 1048576 := in_piece 1 20 1048576 1048576 a _ (by decide) (by decide) (by omega) (by omega) (by decide) (by omega)
  have p1 : In (b * 65536) 983040 := in_piece 4 16 65536 983040 b _ (by decide) (by decide) (by omega) (by omega) (by decide) (by omega)
  obtain ⟨q2, p2⟩ := in_join p0 p1 (by decide)
  have p3 : In (c * 4096) 28672 := in_piece 3 12 4096 28672 c _ (by decide) (by decide) (by omega) (by omega) (by decide) (by omega)
  obtain ⟨q4, p4⟩ := in_join p2 p3 (by decide)
  have p5 : In (d * 256) 3840 := in_piece 4 8 256 3840 d _ (by decide) (by decide) (by omega) (by omega) (by decide) (by omega)
  obtain ⟨q6, p6⟩ := in_join p4 p5 (by decide)
  have p7 : In (e * 64) 192 := in_piece 2 6 64 192 e _ (by decide) (by decide) (by omega) (by omega) (by decide) (by omega)
  obtain ⟨q8, p8⟩ := in_join p6 p7 (by decide)
  have p9 : In (g * 16) 48 := in_piece 2 4 16 48 g _ (by decide) (by decide) (by omega) (by omega) (by decide) (by omega)
  obtain ⟨q10, p10⟩ := in_join p8 p9 (by decide)
  have p11 : In (i) 15 := in_piece 4 0 1 15 i _ (by decide) (by decide) (by omega) (by omega) (by decide) (by omega)
  obtain ⟨q12, p12⟩ := in_join p10 p11 (by decide)
  rw [q2, q4, q6, q8, q10, q12]
  exact ⟨rfl, p12⟩

theorem or_25 {a b c : Int} (ha : 0 ≤ a ∧ a ≤ 15) (hb : 0 ≤ b ∧ b ≤ 15) (hc : 0 ≤ c ∧ c ≤ 4095) : (bits .or .u32 (bits .or .u32 (a * 65536) (b * 4096)) c) = ((a * 65536 + b * 4096) + c) ∧ In ((a * 65536 + b * 4096) + c) 1048575 := by
  have p0 : In (a * 65536) 983040 := in_piece 4 16 65536 983040 a _ (by decide) (by decide) (by omega) (by omega) (by decide) (by omega)
  have p1 : In (b * 4096) 61440 := in_piece 4 12 4096 61440 b _ (by decide) (by decide) (by omega) (by omega) (by decide) (by omega)
  obtain ⟨q2, p2⟩ := in_join p0 p1 (by decide)
  have p3 : In (c) 4095 := in_piece 12 0 1 4095 c _ (by decide) (by decide) (by omega) (by omega) (by decide) (by omega)
  obtain ⟨q4, p4⟩ := in_join p2 p3 (by decide)
  rw [q2, q4]
  exact ⟨rfl, p4⟩

theorem or_26 {a b c d : Int} (ha : 0 ≤ a ∧ a ≤ 15) (hb : 0 ≤ b ∧ b ≤ 15) (hc : 0 ≤ c ∧ c ≤ 3) (hd : 0 ≤ d ∧ d ≤ 15) : (bits .or .u32 (bits .or .u32 (bits .or .u32 (a * 65536) (b * 4096)) (c * 16)) d) = (((a * 65536 + b * 4096) + c * 16) + d) ∧ In (((a * 65536 + b * 4096) + c * 16) + d) 1044543 := by
  have p0 : In (a * 65536) 983040 := in_piece 4 16 65536 983040 a _ (by decide) (by decide) (by omega) (by omega) (by decide) (by omega)
  have p1 : In (b * 4096) 61440 := in_piece 4 12 4096 61440 b _ (by decide) (by decide) (by omega) (by omega) (by decide) (by omega)
  obtain ⟨q2, p2⟩ := in_join p0 p1 (by decide)
  have p3 : In (c * 16) 48 := in_piece 2 4 16 48 c _ (by decide) (by decide) (by omega) (by omega) (by decide) (by omega)
  obtain ⟨q4, p4⟩ := in_join p2 p3 (by decide)
  have p5 : In (d) 15 := in_piece 4 0 1 15 d _ (by decide) (by decide) (by omega) (by omega) (by decide) (by omega)
  obtain ⟨q6, p6⟩ := in_join p4 p5 (by decide)
  rw [q2, q4, q6]
  exact ⟨rfl, p6⟩

theorem or_27 {a b c d e : Int} (ha : 0 ≤ a ∧ a ≤ 1) (hb : 0 ≤ b ∧ b ≤ 15) (hc : 0 ≤ c ∧ c ≤ 15) (hd : 0 ≤ d ∧ d ≤ 15) (he : 0 ≤ e ∧ e ≤ 15) : (bits .or .u32 (bits .or .u32 (bits .or .u32 (bits .or .u32 (a * 1048576) (b * 65536)) (c * 4096)) (d * 256)) e) = ((((a * 1048576 + b * 65536) + c * 4096) + d * 256) + e) ∧ In ((((a * 1048576 + b * 65536) + c * 4096) + d * 256) + e) 2096911 := by
  have p0 : In (a * 1048576) 1048576 := in_piece 1 20 1048576 1048576 a _ (by decide) (by decide) (by omega) (by omega) (by decide) (by omega)
  have p1 : In (b * 65536) 983040 := in_piece 4 16 65536 983040 b _ (by decide) (by decide) (by omega) (by omega) (by decide) (by omega)
  obtain ⟨q2, p2⟩ := in_join p0 p1 (by decide)
  have p3 : In (c * 4096) 61440 := in_piece 4 12 4096 61440 c _ (by decide) (by decide) (by omega) (by omega) (by decide) (by omega)
  obtain ⟨q4, p4⟩ := in_join p2 p3 (by decide)
  have p5 : In (d * 256) 3840 := in_piece 4 8 256 3840 d _ (by decide) (by decide) (by omega) (by omega) (by decide) (by omega)
  obtain ⟨q6, p6⟩ := in_join p4 p5 (by decide)
  have p7 : In (e) 15 := in_piece 4 0 1 15 e _ (by decide) (by decide) (by omega) (by omega) (by decide) (by omega)
  obtain ⟨q8, p8⟩ := in_join p6 p7 (by decide)
  rw [q2, q4, q6, q8]
  exact ⟨rfl, p8⟩

theorem or_31 {a b c d : Int} (ha : 0 ≤ a ∧ a ≤ 15) (hb : 0 ≤ b ∧ b ≤ 15) (hc : 0 ≤ c ∧ c ≤ 15) (hd : 0 ≤ d ∧ d ≤ 15) : (bits .or .u32 (bits .or .u32 (bits .or .u32 (a * 65536) (b * 4096)) (c * 256)) d) = (((a * 65536 + b * 4096) + c * 256) + d) ∧ In (((a * 65536 + b * 4096) + c * 256) + d) 1048335 := by
  have p0 : In (a * 65536) 983040 := in_piece 4 16 65536 983040 a _ (by decide) (by decide) (by omega) (by omega) (by decide) (by omega)
  have p1 : In (b * 4096) 61440 := in_piece 4 12 4096 61440 b _ (by decide) (by decide) (by omega) (by omega) (by decide) (by omega)
  obtain ⟨q2, p2⟩ := in_join p0 p1 (by decide)
  have p3 : In (c * 256) 3840 := in_piece 4 8 256 3840 c _ (by decide) (by decide) (by omega) (by omega) (by decide) (by omega)
  obtain ⟨q4, p4⟩ := in_join p2 p3 (by decide)
  have p5 : In (d) 15 := in_piece 4 0 1 15 d _ (by decide) (by decide) (by omega) (by omega) (by decide) (by omega)
  obtain ⟨q6, p6⟩ := in_join p4 p5 (by decide)
  rw [q2, q4, q6]
  exact ⟨rfl, p6⟩

theorem or_32 {a b c : Int} (ha : 0 ≤ a ∧ a ≤ 15) (hb : 0 ≤ b ∧ b ≤ 15) (hc : 0 ≤ c ∧ c ≤ 15) : (bits .or .u32 (bits .or .u32 (a * 65536) (b * 256)) c) = ((a * 65536 + b * 256) + c) ∧ In ((a * 65536 + b * 256) + c) 986895 := by
  have p0 : In (a * 65536) 983040 := in_piece 4 16 65536 983040 a _ (by decide) (by decide) (by omega) (by omega) (by decide) (by omega)
  have p1 : In (b * 256) 3840 := in_piece 4 8 256 3840 b _ (by decide) (by decide) (by omega) (by omega) (by decide) (by omega)
  obtain ⟨q2, p2⟩ := in_join p0 p1 (by decide)
  have p3 : In (c) 15 := in_piece 4 0 1 15 c _ (by decide) (by decide) (by omega) (by omega) (by decide) (by omega)
  obtain ⟨q4, p4⟩ := in_join p2 p3 (by decide)
  rw [q2, q4]
  exact ⟨rfl, p4⟩

theorem or_33 {a b c d e g : Int} (ha : 0 ≤ a ∧ a ≤ 1) (hb : 0 ≤ b ∧ b ≤ 63) (hc : 0 ≤ c ∧ c ≤ 1) (hd : 0 ≤ d ∧ d ≤ 1) (he : 0 ≤ e ∧ e ≤ 2047) (hg : 0 ≤ g ∧ g ≤ 15) : (bits .or .u32 (bits .or .u32 (bits .or .u32 (bits .or .u32 (bits .or .u32 (a * 67108864) (b * 65536)) (c * 8192)) (d * 2048)) e) (g * 4194304)) = (((((a * 67108864 + b * 65536) + c * 8192) + d * 2048) + e) + g * 4194304) ∧ In (((((a * 67108864 + b * 65536) + c * 8192) + d * 2048) + e) + g * 4194304) 134164479 := by
  have p0 : In (a * 67108864) 67108864 := in_piece 1 26 67108864 67108864 a _ (by decide) (by decide) (by omega) (by omega) (by decide) (by omega)
  have p1 : In (b * 65536) 4128768 := in_piece 6 16 65536 4128768 b _ (by decide) (by decide) (by omega) (by omega) (by decide) (by omega)
  obtain ⟨q2, p2⟩ := in_join p0 p1 (by decide)
  have p3 : In (c * 8192) 8192 := in_piece 1 13 8192 8192 c _ (by decide) (by decide) (by omega) (by omega) (by decide) (by omega)
  obtain ⟨q4, p4⟩ := in_join p2 p3 (by decide)
  have p5 : In (d * 2048) 2048 := in_piece 1 11 2048 2048 d _ (by decide) (by decide) (by omega) (by omega) (by decide) (by omega)
  obtain ⟨q6, p6⟩ := in_join p4 p5 (by decide)
  have p7 : In (e) 2047 := in_piece 11 0 1 2047 e _ (by decide) (by decide) (by omega) (by omega) (by decide) (by omega)
  obtain ⟨q8, p8⟩ := in_join p6 p7 (by decide)
  have p9 : In (g * 4194304) 62914560 := in_piece 4 22 4194304 62914560 g _ (by decide) (by decide) (by omega) (by omega) (by decide) (by omega)
  obtain ⟨q10, p10⟩ := in_join p8 p9 (by decide)
  rw [q2, q4, q6, q8, q10]
  exact ⟨rfl, p10⟩

end Go.Proofs.YtegefbndpkbooaaDoor.Code

/-! Ors of parts that have no bit in common, as sums, in int. -/
set_option linter.unusedVariables false
namespace Go.Proofs.YtegefbndpkbooaaDoor.Code

theorem or_f6 {a b : Int} (ha : 0 ≤ a ∧ a ≤ 1) (hb : 0 ≤ b ∧ b ≤ 7) : (bits .or .i64 (a * 8) b) = (a * 8 + b) ∧ In (a * 8 + b) 15 := by
  have p0 : In (a * 8) 8 := in_piece 1 3 8 8 a _ (by decide) (by decide) (by omega) (by omega) (by decide) (by omega)
  have p1 : In (b) 7 := in_piece 3 0 1 7 b _ (by decide) (by decide) (by omega) (by omega) (by decide) (by omega)
  obtain ⟨q2, p2⟩ := in_join64 p0 p1 (by decide)
  rw [q2]
  exact ⟨rfl, p2⟩

theorem or_f11 {a b : Int} (ha : 0 ≤ a ∧ a ≤ 1) (hb : 0 ≤ b ∧ b ≤ 255) : (bits .or .i64 (a * 16384) b) = (a * 16384 + b) ∧ In (a * 16384 + b) 16639 := by
  have p0 : In (a * 16384) 16384 := in_piece 1 14 16384 16384 a _ (by decide) (by decide) (by omega) (by omega) (by decide) (by omega)
  have p1 : In (b) 255 := in_piece 8 0 1 255 b _ (by decide) (by decide) (by omega) (by omega) (by decide) (by omega)
  obtain ⟨q2, p2⟩ := in_join64 p0 p1 (by decide)
  rw [q2]
  exact ⟨rfl, p2⟩

theorem or_f12 {a b : Int} (ha : 0 ≤ a ∧ a ≤ 1) (hb : 0 ≤ b ∧ b ≤ 255) : (bits .or .i64 (a * 32768) b) = (a * 32768 + b) ∧ In (a * 32768 + b) 33023 := by
  have p0 : In (a * 32768) 32768 := in_piece 1 15 32768 32768 a _ (by decide) (by decide) (by omega) (by omega) (by decide) (by omega)
  have p1 : In (b) 255 := in_piece 8 0 1 255 b _ (by decide) (by decide) (by omega) (by omega) (by decide) (by omega)
  obtain ⟨q2, p2⟩ := in_join64 p0 p1 (by decide)
  rw [q2]
  exact ⟨rfl, p2⟩

theorem or_f17 {a b : Int} (ha : 0 ≤ a ∧ a ≤ 15) (hb : 0 ≤ b ∧ b ≤ 4095) : (bits .or .i64 (a * 4096) b) = (a * 4096 + b) ∧ In (a * 4096 + b) 65535 := by
  have p0 : In (a * 4096) 61440 := in_piece 4 12 4096 61440 a _ (by decide) (by decide) (by omega) (by omega) (by decide) (by omega)
  have p1 : In (b) 4095 := in_piece 12 0 1 4095 b _ (by decide) (by decide) (by omega) (by omega) (by decide) (by omega)
  obtain ⟨q2, p2⟩ := in_join64 p0 p1 (by decide)
  rw [q2]
  exact ⟨rfl, p2⟩

theorem or_f21 {a b : Int} (ha : 0 ≤ a ∧ a ≤ 7) (hb : 0 ≤ b ∧ b ≤ 3) : (bits .or .i64 (a * 4) b) = (a * 4 + b) ∧ In (a * 4 + b) 31 := by
  have p0 : In (a * 4) 28 := in_piece 3 2 4 28 a _ (by decide) (by decide) (by omega) (by omega) (by decide) (by omega)
  have p1 : In (b) 3 := in_piece 2 0 1 3 b _ (by decide) (by decide) (by omega) (by omega) (by decide) (by omega)
  obtain ⟨q2, p2⟩ := in_join64 p0 p1 (by decide)
  rw [q2]
  exact ⟨rfl, p2⟩

end Go.Proofs.YtegefbndpkbooaaDoor.Code

