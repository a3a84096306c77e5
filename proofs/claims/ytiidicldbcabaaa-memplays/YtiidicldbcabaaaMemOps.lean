/- flashPlace, ramPlace, ofFlash, Load, Store and Half of package mem: contracts. -/
import Derived.Test.YtiidicldbcabaaaMemNewB
import Derived.Test.YtiidicldbcabaaaBits64
set_option linter.unusedVariables false
namespace Go.Proofs.Ytiidicldbcabaaa.Mem
open Go.RowKit

/-- How far an address is behind the flash's first byte. -/
def fp (a : Int) : Int := (a - 134217728) % 4294967296
/-- Which word of RAM an address is. -/
def rp (a : Int) : Int := (a - 536870912) % 4294967296 / 4
theorem fp_range (a : Int) : 0 ≤ fp a ∧ fp a < 4294967296 := by unfold fp; omega
theorem rp_range (a : Int) : 0 ≤ rp a ∧ rp a < 1073741824 := by unfold rp; omega

theorem flashPlace_any (a : Int) (w : World) : Calls Try.prog 21 #[.int .u32 a] w fun e w' => e = .returned (.int .u32 (fp a)) ∧ w' = w := by
  go_enter Try.func21, Try.ntmps21
  go_wp2_with fail
  go_ret
  exact ⟨rfl, rfl⟩

theorem ramPlace_any (a : Int) (w : World) : Calls Try.prog 22 #[.int .u32 a] w fun e w' => e = .returned (.tuple #[.int .u32 (rp a), .bool (decide (rp a < 16384))]) ∧ w' = w := by
  go_enter Try.func22, Try.ntmps22
  go_wp2_with fail
  go_ret2
  exact ⟨rfl, rfl⟩

/-- The first k of so many bytes, the lowest one first. -/
def lsum (f : Nat → Int) (s : Nat) : Nat → Int
  | 0 => 0
  | k + 1 => lsum f s k + f (s + k) * 256 ^ k

theorem lsum_range (f : Nat → Int) (s k : Nat) (h : ∀ i, i < k → 0 ≤ f (s + i) ∧ f (s + i) < 256) : 0 ≤ lsum f s k ∧ lsum f s k < 256 ^ k := by
  induction k with
  | zero => simp [lsum]
  | succ k ih =>
    have h1 := ih (fun i hi => h i (by omega))
    have h2 := h k (by omega)
    have hp : (0 : Int) < 256 ^ k := Int.pow_pos (by decide)
    have e : (256 : Int) ^ (k + 1) = 256 ^ k * 256 := Int.pow_succ ..
    have h3 : f (s + k) * 256 ^ k ≤ 255 * 256 ^ k := Int.mul_le_mul_of_nonneg_right (by omega) (by omega)
    have h4 : 0 ≤ f (s + k) * 256 ^ k := Int.mul_nonneg h2.1 (by omega)
    simp only [lsum, e]
    omega
theorem u32_low (i : Nat) (a b : Int) (h1 : 0 ≤ a) (h2 : a < 4294967296) (h3 : 0 ≤ b) (h4 : b < 4294967296) (ha : a % 2 ^ i = 0) (hb : b < 2 ^ i) : bits .or .u32 b a = b + a := by
  rw [u32_or b a h3 h4 h1 h2, Nat.or_comm, ← u32_or a b h1 h2 h3 h4, Alu.u32_join i a b h1 h2 h3 h4 ha hb]; omega
theorem or_lsum (f : Nat → Int) (s k : Nat) (hk : k < 4) (h : ∀ i, i ≤ k → 0 ≤ f (s + i) ∧ f (s + i) < 256) :
    bits .or .u32 (lsum f s k) (f (s + k) % 4294967296 * 2 ^ (8 * k) % 4294967296) = lsum f s (k + 1) := by
  have h1 := lsum_range f s k (fun i hi => h i (by omega))
  have h2 := h k (Nat.le_refl _)
  show _ = lsum f s k + f (s + k) * 256 ^ k
  generalize lsum f s k = x at *
  generalize f (s + k) = b at *
  rcases (show k = 0 ∨ k = 1 ∨ k = 2 ∨ k = 3 by omega) with rfl | rfl | rfl | rfl
  · simp only [Nat.mul_zero, Int.pow_zero, Int.mul_one] at *
    rw [u32_low 0 _ x (by omega) (by omega) h1.1 (by omega) (by omega) (by omega)]; omega
  · simp only [Nat.reduceMul, Int.reducePow] at *
    rw [u32_low 8 _ x (by omega) (by omega) h1.1 (by omega) (by omega) (by omega)]; omega
  · simp only [Nat.reduceMul, Int.reducePow] at *
    rw [u32_low 16 _ x (by omega) (by omega) h1.1 (by omega) (by omega) (by omega)]; omega
  · simp only [Nat.reduceMul, Int.reducePow] at *
    rw [u32_low 24 _ x (by omega) (by omega) h1.1 (by omega) (by omega) (by omega)]; omega

set_option maxRecDepth 100000 in
theorem ofFlash_any {w : World} {B F R n : Nat} {f g : Nat → Int} (h : Is w B F R n f g) (hf : ∀ i, i < n → 0 ≤ f i ∧ f i < 256) (a : Int) (z : Nat) (hz0 : 0 < z) (hz : z ≤ 4) (hfit : fp a + z ≤ n) (hn : n ≤ 65536) :
    Calls Try.prog 23 #[.pointer (some ⟨B, 0, none⟩), .int .u32 a, .int .i64 z] w fun e w' => e = .returned (.tuple #[.int .u32 (lsum f (fp a).toNat z), .int .i64 0]) ∧ w' = w := by
  have c0 := h.c0
  obtain ⟨r1, r2⟩ := fp_range a
  obtain ⟨s, hs⟩ := Int.eq_ofNat_of_zero_le r1
  have hsn : s < n := by omega
  have hfit' : (s : Int) + z ≤ n := by omega
  go_enter Try.func23, Try.ntmps23
  go_wp2_with (go_at_call 21; refine (flashPlace_any _ _).mono ?_; rintro e w' ⟨rfl, rfl⟩; rw [hs])
  go_loop [9, 34] (fun x i => ∃ k : Nat, k ≤ z ∧ i = .int .i64 k ∧ x = .int .u32 (lsum f s k)) (fun _ i => z - (intOf i).toNat)
  case atStart => exact ⟨0, by omega, rfl, rfl⟩
  case round =>
    obtain ⟨k, hk, rfl, rfl⟩ := hrel
    by_cases hlt : k < z
    · have hc := h.cf (s + k) (by omega)
      have HO : Hid (bits .or .u32 (lsum f s k) (f (s + k) % 4294967296 * 2 ^ (8 * k) % 4294967296) = lsum f s (k + 1)) := or_lsum f s k (by omega) (fun i hi => hf _ (by omega))
      go_wp2
      go_round
      case rel => exact ⟨k + 1, by omega, by go_num, by rw [HO.out]⟩
      case measure => simp [intOf]; omega
    · obtain rfl : k = z := by omega
      have e : (fp a).toNat = s := by omega
      go_wp2
      go_ret2
      exact ⟨rfl, rfl⟩

set_option maxRecDepth 100000 in
theorem ofFlash_no {w : World} {B F R n : Nat} {f g : Nat → Int} (h : Is w B F R n f g) (a : Int) (z : Nat) (hz : z ≤ 4) (hfit : (n : Int) < fp a + z) (hn : n ≤ 65536) :
    Calls Try.prog 23 #[.pointer (some ⟨B, 0, none⟩), .int .u32 a, .int .i64 z] w fun e w' => e = .returned (.tuple #[.int .u32 0, .int .i64 61]) ∧ w' = w := by
  have c0 := h.c0
  obtain ⟨r1, r2⟩ := fp_range a
  obtain ⟨s, hs⟩ := Int.eq_ofNat_of_zero_le r1
  have hfit' : (n : Int) < s + z := by omega
  go_enter Try.func23, Try.ntmps23
  go_wp2_with (go_at_call 21; refine (flashPlace_any _ _).mono ?_; rintro e w' ⟨rfl, rfl⟩; rw [hs])
  go_ret2
  exact ⟨rfl, rfl⟩

/-- What Load tells: the word, and the error. -/
def ldE (n : Nat) (a : Int) : Int := if a % 4 = 0 then (if rp a < 16384 then 0 else if fp a + 4 ≤ n then 0 else 61) else 60
def ldV (n : Nat) (f g : Nat → Int) (a : Int) : Int := if a % 4 = 0 then (if rp a < 16384 then g (rp a).toNat else if fp a + 4 ≤ n then lsum f (fp a).toNat 4 else 0) else 0
/-- What Store tells. -/
def stE (a : Int) : Int := if a % 4 = 0 then (if fp a < 65536 then 62 else if rp a < 16384 then 0 else 61) else 60
/-- What Half tells. -/
def hfE (n : Nat) (a : Int) : Int := if a % 2 = 0 then (if fp a + 2 ≤ n then 0 else 61) else 60
def hfV (n : Nat) (f : Nat → Int) (a : Int) : Int := if a % 2 = 0 then (if fp a + 2 ≤ n then lsum f (fp a).toNat 2 else 0) else 0

set_option maxRecDepth 100000 in
theorem Load_any {w : World} {B F R n : Nat} {f g : Nat → Int} (h : Is w B F R n f g) (hf : ∀ i, i < n → 0 ≤ f i ∧ f i < 256) (hn : n ≤ 65536) (a : Int) (h0 : 0 ≤ a) (h1 : a < 4294967296) :
    Calls Try.prog 13 #[.pointer (some ⟨B, 0, none⟩), .int .u32 a] w fun e w' => e = .returned (.tuple #[.int .u32 (ldV n f g a), .int .i64 (ldE n a)]) ∧ w' = w := by
  have c1 := h.c1
  by_cases ha : a % 4 = 0
  · by_cases hr : rp a < 16384
    · obtain ⟨k, hk⟩ := Int.eq_ofNat_of_zero_le (rp_range a).1
      have hc := h.cr k (by omega)
      have hk' : (k : Int) < 16384 := by omega
      have eV : ldV n f g a = g k := by unfold ldV; rw [if_pos ha, if_pos hr, hk]; rfl
      have eE : ldE n a = 0 := by unfold ldE; rw [if_pos ha, if_pos hr]
      rw [eV, eE]
      go_enter Try.func13, Try.ntmps13
      go_wp2_with (go_at_call 22; refine (ramPlace_any _ _).mono ?_; rintro e w' ⟨rfl, rfl⟩; rw [hk])
      go_ret2
      exact ⟨rfl, rfl⟩
    · by_cases hf2 : fp a + 4 ≤ n
      · have eV : ldV n f g a = lsum f (fp a).toNat 4 := by unfold ldV; rw [if_pos ha, if_neg hr, if_pos hf2]
        have eE : ldE n a = 0 := by unfold ldE; rw [if_pos ha, if_neg hr, if_pos hf2]
        rw [eV, eE]
        go_enter Try.func13, Try.ntmps13
        go_wp2_with (first | (go_at_call 22; refine (ramPlace_any _ _).mono ?_; rintro e w' ⟨rfl, rfl⟩) | (go_at_call 23; refine (ofFlash_any h hf a 4 (by decide) (by decide) hf2 hn).mono ?_; rintro e w' ⟨rfl, rfl⟩))
        go_ret2
        exact ⟨rfl, rfl⟩
      · have eV : ldV n f g a = 0 := by unfold ldV; rw [if_pos ha, if_neg hr, if_neg hf2]
        have eE : ldE n a = 61 := by unfold ldE; rw [if_pos ha, if_neg hr, if_neg hf2]
        rw [eV, eE]
        go_enter Try.func13, Try.ntmps13
        go_wp2_with (first | (go_at_call 22; refine (ramPlace_any _ _).mono ?_; rintro e w' ⟨rfl, rfl⟩) | (go_at_call 23; refine (ofFlash_no h a 4 (by decide) (by show _ < fp a + (4 : Int); omega) hn).mono ?_; rintro e w' ⟨rfl, rfl⟩))
        go_ret2
        exact ⟨rfl, rfl⟩
  · have eV : ldV n f g a = 0 := by unfold ldV; rw [if_neg ha]
    have eE : ldE n a = 60 := by unfold ldE; rw [if_neg ha]
    rw [eV, eE]
    go_enter Try.func13, Try.ntmps13
    go_wp2_with fail
    all_goals go_ret2
    all_goals exact ⟨rfl, rfl⟩

set_option maxRecDepth 100000 in
theorem Store_any {w : World} {B F R n : Nat} {f g : Nat → Int} (h : Is w B F R n f g) (a x : Int) (h0 : 0 ≤ a) (h1 : a < 4294967296) :
    Calls Try.prog 12 #[.pointer (some ⟨B, 0, none⟩), .int .u32 a, .int .u32 x] w fun e w' => e = .returned (.int .i64 (stE a)) ∧ w' = if stE a = 0 then w.setCell ⟨R, (rp a).toNat, none⟩ (.int .u32 x) else w := by
  have c1 := h.c1
  by_cases ha : a % 4 = 0
  · by_cases hp : fp a < 65536
    · have eE : stE a = 62 := by unfold stE; rw [if_pos ha, if_pos hp]
      rw [eE, if_neg (by decide)]
      go_enter Try.func12, Try.ntmps12
      go_wp2_with (go_at_call 21; refine (flashPlace_any _ _).mono ?_; rintro e w' ⟨rfl, rfl⟩)
      go_ret
      exact ⟨rfl, rfl⟩
    · by_cases hr : rp a < 16384
      · obtain ⟨k, hk⟩ := Int.eq_ofNat_of_zero_le (rp_range a).1
        have hc := h.cr k (by omega)
        have hz := h.free k
        have hk' : (k : Int) < 16384 := by omega
        have eE : stE a = 0 := by unfold stE; rw [if_pos ha, if_neg hp, if_pos hr]
        rw [eE, if_pos rfl, hk, Int.toNat_natCast]
        go_enter Try.func12, Try.ntmps12
        go_wp2_with (first | (go_at_call 21; refine (flashPlace_any _ _).mono ?_; rintro e w' ⟨rfl, rfl⟩) | (go_at_call 22; refine (ramPlace_any _ _).mono ?_; rintro e w' ⟨rfl, rfl⟩; rw [hk]))
        go_ret
        exact ⟨rfl, rfl⟩
      · have eE : stE a = 61 := by unfold stE; rw [if_pos ha, if_neg hp, if_neg hr]
        have hd : decide (rp a < 16384) = false := decide_eq_false hr
        rw [eE, if_neg (by decide)]
        go_enter Try.func12, Try.ntmps12
        go_wp2_with (first | (go_at_call 21; refine (flashPlace_any _ _).mono ?_; rintro e w' ⟨rfl, rfl⟩) | (go_at_call 22; refine (ramPlace_any _ _).mono ?_; rintro e w' ⟨rfl, rfl⟩))
        go_ret
        exact ⟨rfl, rfl⟩
  · have eE : stE a = 60 := by unfold stE; rw [if_neg ha]
    rw [eE, if_neg (by decide)]
    go_enter Try.func12, Try.ntmps12
    go_wp2_with fail
    all_goals go_ret
    all_goals exact ⟨rfl, rfl⟩

set_option maxRecDepth 100000 in
theorem Half_any {w : World} {B F R n : Nat} {f g : Nat → Int} (h : Is w B F R n f g) (hf : ∀ i, i < n → 0 ≤ f i ∧ f i < 256) (hn : n ≤ 65536) (a : Int) (h0 : 0 ≤ a) (h1 : a < 4294967296) :
    Calls Try.prog 15 #[.pointer (some ⟨B, 0, none⟩), .int .u32 a] w fun e w' => e = .returned (.tuple #[.int .u32 (hfV n f a), .int .i64 (hfE n a)]) ∧ w' = w := by
  by_cases ha : a % 2 = 0
  · by_cases hf2 : fp a + 2 ≤ n
    · have eV : hfV n f a = lsum f (fp a).toNat 2 := by unfold hfV; rw [if_pos ha, if_pos hf2]
      have eE : hfE n a = 0 := by unfold hfE; rw [if_pos ha, if_pos hf2]
      rw [eV, eE]
      go_enter Try.func15, Try.ntmps15
      go_wp2_with (go_at_call 23; refine (ofFlash_any h hf a 2 (by decide) (by decide) hf2 hn).mono ?_; rintro e w' ⟨rfl, rfl⟩)
      go_ret2
      exact ⟨rfl, rfl⟩
    · have eV : hfV n f a = 0 := by unfold hfV; rw [if_pos ha, if_neg hf2]
      have eE : hfE n a = 61 := by unfold hfE; rw [if_pos ha, if_neg hf2]
      rw [eV, eE]
      go_enter Try.func15, Try.ntmps15
      go_wp2_with (go_at_call 23; refine (ofFlash_no h a 2 (by decide) (by show _ < fp a + (2 : Int); omega) hn).mono ?_; rintro e w' ⟨rfl, rfl⟩)
      go_ret2
      exact ⟨rfl, rfl⟩
  · have eV : hfV n f a = 0 := by unfold hfV; rw [if_neg ha]
    have eE : hfE n a = 60 := by unfold hfE; rw [if_neg ha]
    rw [eV, eE]
    go_enter Try.func15, Try.ntmps15
    go_wp2_with fail
    all_goals go_ret2
    all_goals exact ⟨rfl, rfl⟩

end Go.Proofs.Ytiidicldbcabaaa.Mem
