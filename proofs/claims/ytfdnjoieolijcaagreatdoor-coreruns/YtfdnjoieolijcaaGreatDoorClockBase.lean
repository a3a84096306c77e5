/- How long an instruction takes, by the program and by the document: contracts. -/
import Derived.Test.YtfdnjoieolijcaaGreatDoorClockWalks
import Derived.Test.YtfdnjoieolijcaaGreatDoorInstRules
import Derived.Lib.Tables
set_option linter.unusedVariables false
namespace Go.Proofs.YtfdnjoieolijcaaGreatDoor.Clock
open Go.RowKit Go.Proofs.YtfdnjoieolijcaaGreatDoor.Alu

/-- How many of the lowest k bits are set. -/
def ones : Nat → Nat → Nat
  | 0, _ => 0
  | k + 1, n => n % 2 + ones k (n / 2)
theorem ones_zero (k : Nat) : ones k 0 = 0 := by induction k with
  | zero => rfl
  | succ k ih => simp [ones, ih]
theorem ones_add (j k : Nat) : ∀ n, ones (j + k) n = ones j n + ones k (n / 2 ^ j) := by
  induction j with
  | zero => intro n; simp [ones]
  | succ j ih => intro n; rw [show j + 1 + k = (j + k) + 1 by omega, ones, ones, ih, Nat.div_div_eq_div_mul, Nat.pow_succ, Nat.mul_comm 2]; omega
theorem ones_mod (k : Nat) : ∀ n, ones k (n % 2 ^ k) = ones k n := by
  induction k with
  | zero => intro n; rfl
  | succ k ih =>
    intro n
    have h1 : n % 2 ^ (k + 1) % 2 = n % 2 := by rw [Nat.pow_succ, Nat.mul_comm, Nat.mod_mul_right_mod]
    have h2 : n % 2 ^ (k + 1) / 2 = n / 2 % 2 ^ k := by rw [Nat.pow_succ, Nat.mul_comm, Nat.mod_mul_right_div_self]
    rw [ones, ones, h1, h2, ih]
theorem ones_le (k : Nat) : ∀ n, ones k n ≤ k := by
  induction k with
  | zero => intro n; exact Nat.le_refl _
  | succ k ih => intro n; have := ih (n / 2); rw [ones]; omega
theorem ones_done (j k n : Nat) (hj : j ≤ k) (h : n / 2 ^ j = 0) : ones j n = ones k n := by
  obtain ⟨m, rfl⟩ := Nat.exists_eq_add_of_le hj
  rw [ones_add, h, ones_zero]; rfl
theorem ones_next (j n : Nat) : ones (j + 1) n = ones j n + n / 2 ^ j % 2 := by rw [ones_add]; simp [ones]
theorem pop_fin : ∀ i : Fin 256, Lib.pop8 (i.val : Int) = (ones 8 i.val : Int) := by decide +kernel
theorem pop_any (x : Int) (h0 : 0 ≤ x) (h1 : x < 256) : Lib.pop8 x = (ones 8 x.toNat : Int) := by
  have := pop_fin ⟨x.toNat, by omega⟩
  rw [← this]; congr 1; show x = ((x.toNat : Nat) : Int); omega
theorem ones_two (x : Int) (h0 : 0 ≤ x) (h1 : x < 65536) : Lib.pop8 (x / 256 % 256) + Lib.pop8 (x % 256) = (ones 16 x.toNat : Int) := by
  rw [pop_any _ (by omega) (by omega), pop_any _ (by omega) (by omega), show 16 = 8 + 8 from rfl, ones_add, ← ones_mod 8 x.toNat, ← ones_mod 8 (x.toNat / 2 ^ 8)]
  rw [show (x % 256).toNat = x.toNat % 2 ^ 8 by omega, show (x / 256 % 256).toNat = x.toNat / 2 ^ 8 % 2 ^ 8 by omega]
  omega
theorem pop_bd (x : Int) (h0 : 0 ≤ x) (h1 : x < 256) : 0 ≤ Lib.pop8 x ∧ Lib.pop8 x ≤ 8 := by
  rw [pop_any x h0 h1]; have := ones_le 8 x.toNat; omega

set_option maxRecDepth 100000 in
theorem OnesCount32_any (x : Int) (hx : 0 ≤ x) (hx2 : x < 65536) (w : World) :
    Calls Tryz.prog 155 #[.int .u32 x] w fun e w' => e = .returned (.int .i64 (ones 16 x.toNat)) ∧ Below w.heap.size w w' := by
  have HO := hide (ones_two x hx hx2)
  have p1 := pop_bd (x % 256) (by omega) (by omega)
  have p2 := pop_bd (x / 256 % 256) (by omega) (by omega)
  have m0 : bits .and .u32 x 255 = x % 256 := u32_mask 8 x 255 (by omega) (by omega) (by decide) (by decide)
  have m1 : bits .and .u32 (x / 256) 255 = x / 256 % 256 := u32_mask 8 (x / 256) 255 (by omega) (by omega) (by decide) (by decide)
  have m2 : bits .and .u32 (x / 65536) 255 = 0 := by rw [show x / 65536 = 0 by omega]; decide
  have m3 : x / 16777216 = 0 := by omega
  have z3 : Lib.pop8 0 = 0 := by decide +kernel
  go_enter Tryz.func155, Tryz.ntmps155
  go_wp2
  go_region
  all_goals
    go_wp2
    go_ret
    exact ⟨ret_int (unhide HO), by go_grown⟩

/-- How long it takes to push or pop registers. -/
def lc (rg : Int) : Int := 1 + (ones 16 rg.toNat : Int) + 2 * bit rg 15

theorem listCycles_any (x : Int) (hx : 0 ≤ x) (hx2 : x < 65536) (w : World) :
    Calls Tryz.prog 204 #[.int .u32 x] w fun e w' => e = .returned (.int .i64 (lc x)) ∧ Below w.heap.size w w' := by
  have ho := ones_le 16 x.toNat
  have hb := bit_bd x 15
  have HL : Hid (lc x = 1 + (ones 16 x.toNat : Int) + 2 * bit x 15) := rfl
  generalize HN : ones 16 x.toNat = n at *
  go_enter Tryz.func204, Tryz.ntmps204
  go_wp2_with fail
  refine (OnesCount32_any _ hx hx2 _).mono ?_
  rintro e w1 ⟨rfl, hb1⟩
  rw [HN]
  go_wp2_with (go_at_call 189; refine (Bit_any _ _ hx (by omega) _).mono ?_; rintro e w' ⟨rfl, rfl⟩)
  go_ret
  exact ⟨ret_int (by rw [HL.out]), hb1⟩

/-- How long a branch with a condition takes. -/
def cnd (t : Bool) : Int := if t then 3 else 1

theorem condCycles_any (t : Bool) (w : World) :
    Calls Tryz.prog 203 #[.bool t] w fun e w' => e = .returned (.int .i64 (cnd t)) ∧ w' = w := by
  cases t
  all_goals
    go_enter Tryz.func203, Tryz.ntmps203
    go_wp2_with fail
    go_ret
    exact ⟨rfl, rfl⟩

/-- How long a right instruction takes. -/
def bas (f : Int) (t : Bool) (a b rg : Int) : Int :=
  if f = 46 ∨ f = 99 then cnd t else if f = 47 ∨ f = 100 ∨ f = 31 then 3
  else if 32 ≤ f ∧ f ≤ 38 ∨ 84 ≤ f ∧ f ≤ 87 then 2 else if f = 42 ∨ f = 43 then lc rg
  else if f = 93 ∨ f = 94 then 2 else if f = 97 then dv a b else 1

theorem bas_cond {f : Int} {t : Bool} {a b rg : Int} (h : f = 46 ∨ f = 99) : cnd t = bas f t a b rg := by unfold bas; rw [if_pos h]
theorem bas_3 {f : Int} {t : Bool} {a b rg : Int} (h : f = 47 ∨ f = 100 ∨ f = 31) : 3 = bas f t a b rg := by unfold bas; rw [if_neg (by omega), if_pos h]
theorem bas_mem {f : Int} {t : Bool} {a b rg : Int} (h : 32 ≤ f ∧ f ≤ 38 ∨ 84 ≤ f ∧ f ≤ 87) : 2 = bas f t a b rg := by unfold bas; rw [if_neg (by omega), if_neg (by omega), if_pos h]
theorem bas_list {f : Int} {t : Bool} {a b rg : Int} (h : f = 42 ∨ f = 43) : lc rg = bas f t a b rg := by unfold bas; rw [if_neg (by omega), if_neg (by omega), if_neg (by omega), if_pos h]
theorem bas_mul {f : Int} {t : Bool} {a b rg : Int} (h : f = 93 ∨ f = 94) : 2 = bas f t a b rg := by unfold bas; rw [if_neg (by omega), if_neg (by omega), if_neg (by omega), if_neg (by omega), if_pos h]
theorem bas_div {f : Int} {t : Bool} {a b rg : Int} (h : f = 97) : dv a b = bas f t a b rg := by unfold bas; rw [if_neg (by omega), if_neg (by omega), if_neg (by omega), if_neg (by omega), if_neg (by omega), if_pos h]
theorem bas_1 {f : Int} {t : Bool} {a b rg : Int} (h : ¬ (f = 46 ∨ f = 99) ∧ ¬ (f = 47 ∨ f = 100 ∨ f = 31) ∧ ¬ (32 ≤ f ∧ f ≤ 38 ∨ 84 ≤ f ∧ f ≤ 87) ∧ ¬ (f = 42 ∨ f = 43) ∧ ¬ (f = 93 ∨ f = 94) ∧ f ≠ 97) : 1 = bas f t a b rg := by
  unfold bas; rw [if_neg h.1, if_neg h.2.1, if_neg h.2.2.1, if_neg h.2.2.2.1, if_neg h.2.2.2.2.1, if_neg h.2.2.2.2.2]

theorem base_any (f rd rn rm ra im kd bs st cd rg : Int) (t : Bool) (a b : Int) (ha : 0 ≤ a) (ha2 : a < 4294967296) (hb : 0 ≤ b) (hb2 : b < 4294967296) (hr : f = 42 ∨ f = 43 → 0 ≤ rg ∧ rg < 65536) (w : World) :
    Calls Tryz.prog 169 #[.agg #[.int .i64 f, .int .i64 rd, .int .i64 rn, .int .i64 rm, .int .i64 ra, .int .i64 im, .int .i64 kd, .int .i64 bs, .int .i64 st, .int .i64 cd, .int .i64 rg], .bool t, .int .u32 a, .int .u32 b] w fun e w' => e = .returned (.int .i64 (bas f t a b rg)) ∧ Below w.heap.size w w' := by
  have hB := (Below.refl w.heap.size w).alloc (Nat.le_refl _) (.cells #[.int .i64 f, .int .i64 rd, .int .i64 rn, .int .i64 rm, .int .i64 ra, .int .i64 im, .int .i64 kd, .int .i64 bs, .int .i64 st, .int .i64 cd, .int .i64 rg] 52)
  by_cases h1 : f = 46 ∨ f = 99
  · have HE := hide (bas_cond (t := t) (a := a) (b := b) (rg := rg) h1)
    go_enter Tryz.func169, Tryz.ntmps169
    go_wp2_with (go_at_call 203; refine (condCycles_any _ _).mono ?_; rintro e w' ⟨rfl, rfl⟩)
    all_goals
      go_ret
      exact ⟨ret_int (unhide HE), hB⟩
  by_cases h2 : f = 47 ∨ f = 100 ∨ f = 31
  · have HE := hide (bas_3 (t := t) (a := a) (b := b) (rg := rg) h2)
    go_enter Tryz.func169, Tryz.ntmps169
    go_wp2_with fail
    all_goals
      go_ret
      exact ⟨ret_int (unhide HE), hB⟩
  by_cases h3 : 32 ≤ f ∧ f ≤ 38 ∨ 84 ≤ f ∧ f ≤ 87
  · have HE := hide (bas_mem (t := t) (a := a) (b := b) (rg := rg) h3)
    go_enter Tryz.func169, Tryz.ntmps169
    go_wp2_with fail
    all_goals
      go_ret
      exact ⟨ret_int (unhide HE), hB⟩
  by_cases h4 : f = 42 ∨ f = 43
  · have HE := hide (bas_list (t := t) (a := a) (b := b) (rg := rg) h4)
    have hr' := hr h4
    go_enter Tryz.func169, Tryz.ntmps169
    go_wp2_with fail
    all_goals
      refine (listCycles_any _ (by omega) (by omega) _).mono ?_
      rintro e w1 ⟨rfl, hb1⟩
      go_wp2_with fail
      go_ret
      exact ⟨ret_int (unhide HE), next1 hb1⟩
  by_cases h5 : f = 93 ∨ f = 94
  · have HE := hide (bas_mul (t := t) (a := a) (b := b) (rg := rg) h5)
    go_enter Tryz.func169, Tryz.ntmps169
    go_wp2_with fail
    all_goals
      go_ret
      exact ⟨ret_int (unhide HE), hB⟩
  by_cases h6 : f = 97
  · subst h6
    have HE := hide (bas_div (f := 97) (t := t) (a := a) (b := b) (rg := rg) rfl)
    go_enter Tryz.func169, Tryz.ntmps169
    go_wp2_with (go_at_call 205; refine (Div_any _ _ ha ha2 hb hb2 _).mono ?_; rintro e w' ⟨rfl, rfl⟩)
    go_ret
    exact ⟨ret_int (unhide HE), hB⟩
  have HE := hide (bas_1 (t := t) (a := a) (b := b) (rg := rg) ⟨h1, h2, h3, h4, h5, h6⟩)
  go_enter Tryz.func169, Tryz.ntmps169
  go_wp2_with fail
  all_goals
    go_ret
    exact ⟨ret_int (unhide HE), hB⟩

/-- The registers of a right Push or Pop. -/
theorem right_list {f rd rn rm ra im kd bs st cd rg : Int} (h : Inst.right f rd rn rm ra im kd bs st cd rg = true) (g0 : -9223372036854775808 ≤ rg) (g1 : rg ≤ 9223372036854775807) (hf : f = 42 ∨ f = 43) : 0 ≤ rg ∧ rg < 65536 ∧ (f = 42 → rg < 32768) := by
  unfold Inst.right at h
  simp only [Bool.and_eq_true] at h
  obtain ⟨hF, _, _, _, _, _, _, h⟩ := h
  rcases hf with rfl | rfl
  · rw [show Inst.shp 42 = 11 by decide +kernel, Inst.rgsR, if_pos rfl, Inst.som_push rg g0 g1] at h
    simp only [Inst.wi, Bool.or_eq_true, decide_eq_true_eq] at h
    omega
  · rw [show Inst.shp 43 = 12 by decide +kernel, Inst.rgsR, if_neg (by decide), if_pos rfl, Inst.som_pop rg g0 g1] at h
    simp only [Inst.wi, Bool.or_eq_true, decide_eq_true_eq] at h
    omega

theorem Base_yes (f rd rn rm ra im kd bs st cd rg : Int) (hR : Inst.right f rd rn rm ra im kd bs st cd rg = true) (g0 : -9223372036854775808 ≤ rg) (g1 : rg ≤ 9223372036854775807) (t : Bool) (a b : Int) (ha : 0 ≤ a) (ha2 : a < 4294967296) (hb : 0 ≤ b) (hb2 : b < 4294967296) (w : World) (hL : Inst.Laid w) :
    Calls Tryz.prog 123 #[.agg #[.int .i64 f, .int .i64 rd, .int .i64 rn, .int .i64 rm, .int .i64 ra, .int .i64 im, .int .i64 kd, .int .i64 bs, .int .i64 st, .int .i64 cd, .int .i64 rg], .bool t, .int .u32 a, .int .u32 b] w fun e w' => e = .returned (.tuple #[.int .i64 (bas f t a b rg), .int .i64 0]) ∧ Below w.heap.size w w' := by
  have hr := fun h => (right_list hR g0 g1 h).imp id And.left
  have HR := hide hR
  clear hR
  go_enter Tryz.func123, Tryz.ntmps123
  go_wp2_with fail
  refine (Inst.Right_any _ _ _ _ _ _ _ _ _ _ _ _ (hL.alloc _)).mono ?_
  rintro e w1 ⟨rfl, hb1⟩
  rw [unhide HR]
  obtain ⟨hc, hfz⟩ := bcell hb1
  go_wp2_with fail
  refine (base_any _ _ _ _ _ _ _ _ _ _ _ _ _ _ ha ha2 hb hb2 hr _).mono ?_
  rintro e w2 ⟨rfl, hb3⟩
  go_wp2_with fail
  go_ret2
  exact ⟨rfl, next1 (next hb1 hb3)⟩

theorem Base_no (f rd rn rm ra im kd bs st cd rg : Int) (hR : Inst.right f rd rn rm ra im kd bs st cd rg = false) (t : Bool) (a b : Int) (w : World) (hL : Inst.Laid w) :
    Calls Tryz.prog 123 #[.agg #[.int .i64 f, .int .i64 rd, .int .i64 rn, .int .i64 rm, .int .i64 ra, .int .i64 im, .int .i64 kd, .int .i64 bs, .int .i64 st, .int .i64 cd, .int .i64 rg], .bool t, .int .u32 a, .int .u32 b] w fun e w' => e = .returned (.tuple #[.int .i64 0, .int .i64 10]) ∧ Below w.heap.size w w' := by
  have HR := hide hR
  clear hR
  go_enter Tryz.func123, Tryz.ntmps123
  go_wp2_with fail
  refine (Inst.Right_any _ _ _ _ _ _ _ _ _ _ _ _ (hL.alloc _)).mono ?_
  rintro e w1 ⟨rfl, hb1⟩
  rw [unhide HR]
  go_wp2_with fail
  go_ret2
  exact ⟨rfl, next1 hb1⟩

theorem refDiv_any (a b : Int) (ha : 0 ≤ a) (ha2 : a < 4294967296) (hb : 0 ≤ b) (hb2 : b < 4294967296) (w : World) :
    Calls Tryz.prog 88 #[.int .u32 a, .int .u32 b] w fun e w' => e = .returned (.int .i64 (dv a b)) ∧ w' = w := by
  have la := bitLen_le32 a.toNat (by omega)
  have lb := bitLen_le32 b.toNat (by omega)
  have hz : b = 0 ↔ bitLen b.toNat = 0 := by
    constructor
    · rintro rfl; rfl
    · intro h; unfold bitLen at h; split at h <;> omega
  have HD : Hid (∀ v : Int, (b = 0 ∨ bitLen a.toNat < bitLen b.toNat → v = 2) → (¬ (b = 0 ∨ bitLen a.toNat < bitLen b.toNat) → v = 3 + ((bitLen a.toNat : Int) - bitLen b.toNat) / 4) → v = dv a b) := by
    intro v h1 h2; unfold dv; split
    · exact h1 ‹_›
    · exact h2 ‹_›
  have HZ := hide hz
  clear hz
  go_enter Tryz.func88, Tryz.ntmps88
  go_wp2_with (go_at_call 134; refine (refLen_any _ (by omega) (by omega) _).mono ?_; rintro e w' ⟨rfl, rfl⟩)
  · go_ret
    exact ⟨ret_int (HD.out _ (fun _ => rfl) (fun h => absurd (.inl (HZ.out.2 ‹_›)) h)), rfl⟩
  · go_ret
    have hlt : bitLen a.toNat < bitLen b.toNat := by
      rename_i h1 h2
      rcases h2 with h | h
      · simp at h; omega
      · exact h
    exact ⟨ret_int (HD.out _ (fun _ => rfl) (fun h => absurd (.inr hlt) h)), rfl⟩
  · go_ret
    exact ⟨ret_int (HD.out _ (fun h => absurd h (fun g => g.elim (fun e => by have := HZ.out.1 e; omega) (fun e => by omega))) (fun _ => rfl)), rfl⟩

end Go.Proofs.YtfdnjoieolijcaaGreatDoor.Clock

