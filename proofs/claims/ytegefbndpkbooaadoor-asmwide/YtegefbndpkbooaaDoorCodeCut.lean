/- What the small functions of package code answer: contracts. -/
import Derived.Test.YtegefbndpkbooaaDoorCodeOrA
import Derived.Test.YtegefbndpkbooaaDoorCodeDoc
import Derived.Test.YtegefbndpkbooaaDoorAluAll
import Derived.Test.YtegefbndpkbooaaDoorBits64
set_option linter.unusedVariables false
namespace Go.Proofs.YtegefbndpkbooaaDoor.Code
open Go.RowKit Go.Proofs.YtegefbndpkbooaaDoor.Alu

/-- The bits of x from h down to l. -/
def ct (x h l : Int) : Int := x / pw l % pw (h - l + 1)

theorem ct_bd (x h l : Int) (hx : 0 ≤ x) (hx2 : x < 4294967296) : 0 ≤ ct x h l ∧ ct x h l < 4294967296 := by
  have hp : (0 : Int) < pw l := Int.pow_pos (by decide)
  have hq : (0 : Int) < pw (h - l + 1) := Int.pow_pos (by decide)
  have h0 : 0 ≤ x / pw l := Int.ediv_nonneg hx (by omega)
  have h1 : x / pw l ≤ x := Int.ediv_le_self _ hx
  have h2 : x / pw l % pw (h - l + 1) ≤ x / pw l := by
    have := Int.emod_add_mul_ediv (x / pw l) (pw (h - l + 1))
    have : 0 ≤ pw (h - l + 1) * (x / pw l / pw (h - l + 1)) := Int.mul_nonneg (by omega) (Int.ediv_nonneg h0 (by omega))
    omega
  exact ⟨Int.emod_nonneg _ (by omega), by unfold ct; omega⟩
theorem mask_eq (x h l : Int) (hx : 0 ≤ x) (hx2 : x < 4294967296) (l0 : 0 ≤ l) (lh : l ≤ h) (h1 : h ≤ 30) : bits .and .u32 (x / 2 ^ l.toNat) ((2 ^ (h - l + 1).toNat - 1) % 4294967296) = ct x h l := by
  have hs := shr_bd x l.toNat hx hx2
  have hk : (h - l + 1).toNat ≤ 31 := by omega
  have hl : (2 : Nat) ^ (h - l + 1).toNat ≤ 2 ^ 31 := Nat.pow_le_pow_right (by decide) hk
  have hp : 0 < (2 : Nat) ^ (h - l + 1).toNat := Nat.pow_pos (by decide)
  have e : (2 : Int) ^ (h - l + 1).toNat = ((2 ^ (h - l + 1).toNat : Nat) : Int) := by simp
  rw [u32_mask (h - l + 1).toNat _ _ hs.1 hs.2 (by rw [e]; omega) (by omega)]
  rfl

theorem cut_any (x h l : Int) (hx : 0 ≤ x) (hx2 : x < 4294967296) (l0 : 0 ≤ l) (lh : l ≤ h) (h1 : h ≤ 30) (w : World) :
    Calls Tryd.prog 35 #[.int .u32 x, .int .i64 h, .int .i64 l] w fun e w' => e = .returned (.int .u32 (ct x h l)) ∧ w' = w.drew := by
  have HC : Hid (ct x h l = x / pw l % pw (h - l + 1)) := rfl
  go_enter Tryd.func35, Tryd.ntmps35
  go_wp2_with fail
  go_region
  go_wp2_with fail
  go_ret
  exact ⟨ret_int (mask_eq x h l hx hx2 l0 lh h1), rfl⟩

theorem field_any (x h l : Int) (hx : 0 ≤ x) (hx2 : x < 4294967296) (l0 : 0 ≤ l) (lh : l ≤ h) (h1 : h ≤ 30) (w : World) :
    Calls Tryd.prog 63 #[.int .u32 x, .int .i64 h, .int .i64 l] w fun e w' => e = .returned (.int .i64 (ct x h l)) ∧ w' = w.drew := by
  have hc := ct_bd x h l hx hx2
  go_enter Tryd.func63, Tryd.ntmps63
  go_wp2_with (go_at_call 35; refine (cut_any _ _ _ hx hx2 l0 lh h1 _).mono ?_; rintro e w' ⟨rfl, rfl⟩)
  go_ret
  exact ⟨rfl, rfl⟩

/-- How far a shift goes that is written as n. -/
def fr (n : Int) (b : Bool) : Int := if n = 0 ∧ b = false then 32 else n
theorem far_any (n : Int) (b : Bool) (w : World) :
    Calls Tryd.prog 65 #[.int .i64 n, .bool b] w fun e w' => e = .returned (.int .i64 (fr n b)) ∧ w' = w := by
  have HF : Hid (fr n b = if n = 0 ∧ b = false then 32 else n) := rfl
  by_cases hn : n = 0
  · subst hn
    cases b
    all_goals
      go_enter Tryd.func65, Tryd.ntmps65
      go_wp2_with fail
      go_ret
      exact ⟨ret_int (by rw [HF.out]; rfl), rfl⟩
  · have hb : (n == 0) = false := by rw [beq_eq_false_iff_ne]; exact hn
    have HN := hide hn
    clear hn
    go_enter Tryd.func65, Tryd.ntmps65
    go_wp2_with fail
    go_ret
    exact ⟨ret_int (by rw [HF.out, if_neg (fun h => unhide HN h.1)]), rfl⟩

/-- 1, if two bits are alike. -/
def sm (a b : Int) : Int := if a = b then 1 else 0
theorem same_any (a b : Int) (ha : 0 ≤ a ∧ a ≤ 1) (hb : 0 ≤ b ∧ b ≤ 1) (w : World) :
    Calls Tryd.prog 74 #[.int .u32 a, .int .u32 b] w fun e w' => e = .returned (.int .u32 (sm a b)) ∧ w' = w := by
  obtain rfl | rfl : a = 0 ∨ a = 1 := by omega
  all_goals
    obtain rfl | rfl : b = 0 ∨ b = 1 := by omega
    all_goals
      go_enter Tryd.func74, Tryd.ntmps74
      go_wp2_with fail
      go_ret
      exact ⟨ret_int (by decide), rfl⟩

/-- A number in two's complement whose sign is the bit of p. -/
def sx (x p : Int) : Int := x - x / p % 2 * (2 * p)
theorem pw31 (k : Int) (k0 : 0 ≤ k) (k1 : k ≤ 30) : pw (k + 1) ≤ 2147483648 := by
  have h1 : (2 : Nat) ^ (k + 1).toNat ≤ 2 ^ 31 := Nat.pow_le_pow_right (by decide) (by omega)
  have e : (2 : Int) ^ (k + 1).toNat = ((2 ^ (k + 1).toNat : Nat) : Int) := by simp
  unfold pw; rw [e]; omega
theorem sx_eq (x b q p : Int) (hx : 0 ≤ x) (hx2 : x < 4294967296) (hb : 0 ≤ b ∧ b ≤ 1) (hq : 1 ≤ q) (hq2 : q ≤ 2147483648) (HB : b = x / p % 2) (HP : q = 2 * p) : wrap64 (x - wrap64 (b * q)) = sx x p := by
  unfold sx
  rw [← HB, ← HP]
  obtain rfl | rfl : b = 0 ∨ b = 1 := by omega
  · rw [Int.zero_mul, IntWalk.wrap64_in 0 ⟨by omega, by omega⟩, IntWalk.wrap64_in _ ⟨by omega, by omega⟩]
  · rw [Int.one_mul, IntWalk.wrap64_in q ⟨by omega, by omega⟩, IntWalk.wrap64_in _ ⟨by omega, by omega⟩]
theorem signed_any (x k p : Int) (hx : 0 ≤ x) (hx2 : x < 4294967296) (k0 : 0 ≤ k) (k1 : k ≤ 30) (hp : pw k = p) (hp2 : pw (k + 1) = 2 * p) (w : World) :
    Calls Tryd.prog 68 #[.int .u32 x, .int .i64 k] w fun e w' => e = .returned (.int .i64 (sx x p)) ∧ w' = w := by
  have hb := bit_bd x k
  have hq := pw_bd (k + 1) (by omega)
  have HB : Hid (bit x k = x / p % 2) := by rw [← hp]; unfold bit; rw [if_pos ⟨k0, by omega⟩]; rfl
  have HP := hide hp2
  clear hp hp2
  go_enter Tryd.func68, Tryd.ntmps68
  go_wp2_with (go_at_call 73; refine (Bit_any _ _ hx hx2 _).mono ?_; rintro e w' ⟨rfl, rfl⟩)
  go_ret
  exact ⟨ret_int (sx_eq x _ _ p hx hx2 hb hq.1 (pw31 k k0 k1) HB.out (unhide HP)), rfl⟩

theorem ct_at (x : Int) {h l A C : Int} (hA : pw l = A) (hC : pw (h - l + 1) = C) : ct x h l = x / A % C := by subst hA hC; rfl
theorem bit_at (x : Int) {k A : Int} (h0 : 0 ≤ k) (h1 : k < 32) (hA : pw k = A) : bit x k = x / A % 2 := by subst hA; unfold bit; rw [if_pos ⟨h0, h1⟩]; rfl

/-- The low twelve bits of a number, as wide instructions have them. -/
def tw (x : Int) : Int := x / 2048 % 2 * 67108864 + x / 256 % 8 * 4096 + x % 256
theorem twelveBits_any (x : Int) (hx : 0 ≤ x) (hx2 : x < 4294967296) (w : World) :
    Calls Tryd.prog 75 #[.int .u32 x] w fun e w' => e = .returned (.int .u32 (tw x)) ∧ w' = w.drew.drew := by
  have e1 := bit_at x (k := 11) (by decide) (by decide) (by decide : pw 11 = 2048)
  have e2 := ct_at x (h := 10) (l := 8) (by decide : pw 8 = 256) (by decide : pw (10 - 8 + 1) = 8)
  have e3 := ct_at x (h := 7) (l := 0) (by decide : pw 0 = 1) (by decide : pw (7 - 0 + 1) = 256)
  have HT : Hid (tw x = x / 2048 % 2 * 67108864 + x / 256 % 8 * 4096 + x % 256) := rfl
  go_enter Tryd.func75, Tryd.ntmps75
  go_wp2_with (first | (go_at_call 73; refine (Bit_any _ _ hx hx2 _).mono ?_; rintro e w' ⟨rfl, rfl⟩) | (go_at_call 35; refine (cut_any _ _ _ hx hx2 (by decide) (by decide) (by decide) _).mono ?_; rintro e w' ⟨rfl, rfl⟩))
  go_ret
  exact ⟨ret_int ((or_tw (by omega) (by omega) (by omega)).1.trans HT.out.symm), rfl⟩

def cwb (x : Int) : Int := x / 1048576 % 2 * 67108864 + x / 4096 % 64 * 65536 + x / 262144 % 2 * 8192 + x / 524288 % 2 * 2048 + x / 2 % 2048
theorem condWideBits_any (x : Int) (hx : 0 ≤ x) (hx2 : x < 4294967296) (w : World) :
    Calls Tryd.prog 76 #[.int .u32 x] w fun e w' => e = .returned (.int .u32 (cwb x)) ∧ w' = w.drew.drew := by
  have e1 := bit_at x (k := 20) (by decide) (by decide) (by decide : pw 20 = 1048576)
  have e2 := ct_at x (h := 17) (l := 12) (by decide : pw 12 = 4096) (by decide : pw (17 - 12 + 1) = 64)
  have e3 := bit_at x (k := 18) (by decide) (by decide) (by decide : pw 18 = 262144)
  have e4 := bit_at x (k := 19) (by decide) (by decide) (by decide : pw 19 = 524288)
  have e5 := ct_at x (h := 11) (l := 1) (by decide : pw 1 = 2) (by decide : pw (11 - 1 + 1) = 2048)
  have HT : Hid (cwb x = x / 1048576 % 2 * 67108864 + x / 4096 % 64 * 65536 + x / 262144 % 2 * 8192 + x / 524288 % 2 * 2048 + x / 2 % 2048) := rfl
  go_enter Tryd.func76, Tryd.ntmps76
  go_wp2_with (first | (go_at_call 73; refine (Bit_any _ _ hx hx2 _).mono ?_; rintro e w' ⟨rfl, rfl⟩) | (go_at_call 35; refine (cut_any _ _ _ hx hx2 (by decide) (by decide) (by decide) _).mono ?_; rintro e w' ⟨rfl, rfl⟩))
  go_ret
  exact ⟨ret_int ((or_cw (by omega) (by omega) (by omega) (by omega) (by omega)).1.trans HT.out.symm), rfl⟩

theorem sm_bd (a b : Int) : 0 ≤ sm a b ∧ sm a b ≤ 1 := by unfold sm; split <;> omega
def jwb (x : Int) : Int := x / 16777216 % 2 * 67108864 + x / 4096 % 1024 * 65536 + sm (x / 8388608 % 2) (x / 16777216 % 2) * 8192 + sm (x / 4194304 % 2) (x / 16777216 % 2) * 2048 + x / 2 % 2048
theorem jumpWideBits_any (x : Int) (hx : 0 ≤ x) (hx2 : x < 4294967296) (w : World) :
    Calls Tryd.prog 77 #[.int .u32 x] w fun e w' => e = .returned (.int .u32 (jwb x)) ∧ w' = w.drew.drew := by
  have e1 := bit_at x (k := 24) (by decide) (by decide) (by decide : pw 24 = 16777216)
  have e2 := ct_at x (h := 21) (l := 12) (by decide : pw 12 = 4096) (by decide : pw (21 - 12 + 1) = 1024)
  have e3 := bit_at x (k := 23) (by decide) (by decide) (by decide : pw 23 = 8388608)
  have e4 := bit_at x (k := 22) (by decide) (by decide) (by decide : pw 22 = 4194304)
  have e5 := ct_at x (h := 11) (l := 1) (by decide : pw 1 = 2) (by decide : pw (11 - 1 + 1) = 2048)
  have s1 := sm_bd (x / 8388608 % 2) (x / 16777216 % 2)
  have s2 := sm_bd (x / 4194304 % 2) (x / 16777216 % 2)
  have HT : Hid (jwb x = x / 16777216 % 2 * 67108864 + x / 4096 % 1024 * 65536 + sm (x / 8388608 % 2) (x / 16777216 % 2) * 8192 + sm (x / 4194304 % 2) (x / 16777216 % 2) * 2048 + x / 2 % 2048) := rfl
  go_enter Tryd.func77, Tryd.ntmps77
  go_wp2_with (first | (go_at_call 73; refine (Bit_any _ _ hx hx2 _).mono ?_; rintro e w' ⟨rfl, rfl⟩) | (go_at_call 35; refine (cut_any _ _ _ hx hx2 (by decide) (by decide) (by decide) _).mono ?_; rintro e w' ⟨rfl, rfl⟩) | (go_at_call 74; refine (same_any _ _ (by omega) (by omega) _).mono ?_; rintro e w' ⟨rfl, rfl⟩))
  go_ret
  exact ⟨ret_int ((or_jw (by omega) (by omega) (by omega) (by omega) (by omega)).1.trans HT.out.symm), rfl⟩

def oft (x : Int) : Int := x / 67108864 % 2 * 2048 + x / 4096 % 8 * 256 + x % 256
theorem ofTwelve_any (x : Int) (hx : 0 ≤ x) (hx2 : x < 4294967296) (w : World) :
    Calls Tryd.prog 64 #[.int .u32 x] w fun e w' => e = .returned (.int .i64 (oft x)) ∧ w' = w.drew.drew.drew := by
  have e1 := ct_at x (h := 26) (l := 26) (by decide : pw 26 = 67108864) (by decide : pw (26 - 26 + 1) = 2)
  have e2 := ct_at x (h := 14) (l := 12) (by decide : pw 12 = 4096) (by decide : pw (14 - 12 + 1) = 8)
  have e3 := ct_at x (h := 7) (l := 0) (by decide : pw 0 = 1) (by decide : pw (7 - 0 + 1) = 256)
  have HT : Hid (oft x = x / 67108864 % 2 * 2048 + x / 4096 % 8 * 256 + x % 256) := rfl
  go_enter Tryd.func64, Tryd.ntmps64
  go_wp2_with (go_at_call 63; refine (field_any _ _ _ hx hx2 (by decide) (by decide) (by decide) _).mono ?_; rintro e w' ⟨rfl, rfl⟩)
  go_ret
  exact ⟨ret_int ((or_ot (by omega) (by omega) (by omega)).1.trans HT.out.symm), rfl⟩

def ofc (x : Int) : Int := sx (x / 67108864 % 2 * 1048576 + x / 2048 % 2 * 524288 + x / 8192 % 2 * 262144 + x / 65536 % 64 * 4096 + x % 2048 * 2) 1048576
theorem ofCondWide_any (x : Int) (hx : 0 ≤ x) (hx2 : x < 4294967296) (w : World) :
    Calls Tryd.prog 66 #[.int .u32 x] w fun e w' => e = .returned (.int .i64 (ofc x)) ∧ w' = w.drew.drew := by
  have e1 := bit_at x (k := 26) (by decide) (by decide) (by decide : pw 26 = 67108864)
  have e2 := bit_at x (k := 11) (by decide) (by decide) (by decide : pw 11 = 2048)
  have e3 := bit_at x (k := 13) (by decide) (by decide) (by decide : pw 13 = 8192)
  have e4 := ct_at x (h := 21) (l := 16) (by decide : pw 16 = 65536) (by decide : pw (21 - 16 + 1) = 64)
  have e5 := ct_at x (h := 10) (l := 0) (by decide : pw 0 = 1) (by decide : pw (10 - 0 + 1) = 2048)
  have ho := (or_oc (a := x / 67108864 % 2) (b := x / 2048 % 2) (c := x / 8192 % 2) (d := x / 65536 % 64) (e := x % 2048) (by omega) (by omega) (by omega) (by omega) (by omega)).1
  have HT : Hid (ofc x = sx (x / 67108864 % 2 * 1048576 + x / 2048 % 2 * 524288 + x / 8192 % 2 * 262144 + x / 65536 % 64 * 4096 + x % 2048 * 2) 1048576) := rfl
  go_enter Tryd.func66, Tryd.ntmps66
  go_wp2_with (first | (go_at_call 73; refine (Bit_any _ _ hx hx2 _).mono ?_; rintro e w' ⟨rfl, rfl⟩) | (go_at_call 35; refine (cut_any _ _ _ hx hx2 (by decide) (by decide) (by decide) _).mono ?_; rintro e w' ⟨rfl, rfl⟩) | (go_at_call 68; refine (signed_any _ _ 1048576 (by omega) (by omega) (by decide) (by decide) (by decide) (by decide) _).mono ?_; rintro e w' ⟨rfl, rfl⟩))
  go_ret
  exact ⟨ret_int HT.out.symm, rfl⟩

def ofj (x : Int) : Int := sx (x / 67108864 % 2 * 16777216 + sm (x / 8192 % 2) (x / 67108864 % 2) * 8388608 + sm (x / 2048 % 2) (x / 67108864 % 2) * 4194304 + x / 65536 % 1024 * 4096 + x % 2048 * 2) 16777216
theorem ofJumpWide_any (x : Int) (hx : 0 ≤ x) (hx2 : x < 4294967296) (w : World) :
    Calls Tryd.prog 67 #[.int .u32 x] w fun e w' => e = .returned (.int .i64 (ofj x)) ∧ w' = w.drew.drew := by
  have e1 := bit_at x (k := 26) (by decide) (by decide) (by decide : pw 26 = 67108864)
  have e2 := bit_at x (k := 13) (by decide) (by decide) (by decide : pw 13 = 8192)
  have e3 := bit_at x (k := 11) (by decide) (by decide) (by decide : pw 11 = 2048)
  have e4 := ct_at x (h := 25) (l := 16) (by decide : pw 16 = 65536) (by decide : pw (25 - 16 + 1) = 1024)
  have e5 := ct_at x (h := 10) (l := 0) (by decide : pw 0 = 1) (by decide : pw (10 - 0 + 1) = 2048)
  have s1 := sm_bd (x / 8192 % 2) (x / 67108864 % 2)
  have s2 := sm_bd (x / 2048 % 2) (x / 67108864 % 2)
  have ho := (or_oj (a := x / 67108864 % 2) (b := sm (x / 8192 % 2) (x / 67108864 % 2)) (c := sm (x / 2048 % 2) (x / 67108864 % 2)) (d := x / 65536 % 1024) (e := x % 2048) (by omega) (by omega) (by omega) (by omega) (by omega)).1
  have HT : Hid (ofj x = sx (x / 67108864 % 2 * 16777216 + sm (x / 8192 % 2) (x / 67108864 % 2) * 8388608 + sm (x / 2048 % 2) (x / 67108864 % 2) * 4194304 + x / 65536 % 1024 * 4096 + x % 2048 * 2) 16777216) := rfl
  go_enter Tryd.func67, Tryd.ntmps67
  go_wp2_with (first | (go_at_call 73; refine (Bit_any _ _ hx hx2 _).mono ?_; rintro e w' ⟨rfl, rfl⟩) | (go_at_call 35; refine (cut_any _ _ _ hx hx2 (by decide) (by decide) (by decide) _).mono ?_; rintro e w' ⟨rfl, rfl⟩) | (go_at_call 74; refine (same_any _ _ (by omega) (by omega) _).mono ?_; rintro e w' ⟨rfl, rfl⟩) | (go_at_call 68; refine (signed_any _ _ 16777216 (by omega) (by omega) (by decide) (by decide) (by decide) (by decide) _).mono ?_; rintro e w' ⟨rfl, rfl⟩))
  go_ret
  exact ⟨ret_int HT.out.symm, rfl⟩

end Go.Proofs.YtegefbndpkbooaaDoor.Code

