/- The document's word of a right instruction: its form's bits and the parts of its fields, none of which has a bit in common with another. -/
import Derived.Test.YtegefbndpkbooaaDoorCodeOrA
import Derived.Test.YtegefbndpkbooaaDoorCodeTab
import Derived.Test.YtegefbndpkbooaaDoorCodeDocB
import Derived.Test.YtegefbndpkbooaaDoorCodeBacks
set_option linter.unusedVariables false
set_option linter.unusedSimpArgs false
namespace Go.Proofs.YtegefbndpkbooaaDoor.Code
open Go.Proofs.YtegefbndpkbooaaDoor.Alu Go.Proofs.YtegefbndpkbooaaDoor.Imm Go.Proofs.YtegefbndpkbooaaDoor.Inst

/-- The part of a field that an entry of the table names. -/
def pc (l : List (List Int)) (g : List Int) (k : Nat) : Int := bt (g.getD (ent l k 0).toNat 0) (ent l k 1) (ent l k 3)
/-- The parts' sum, up to an entry. -/
def sumK (l : List (List Int)) (g : List Int) : Nat → Int
  | 0 => 0
  | k + 1 => sumK l g k + pc l g k * pw (ent l k 2)
/-- Where an entry's bits stand. -/
def mK (l : List (List Int)) (k : Nat) : Nat := (2 ^ (ent l k 3).toNat - 1) * 2 ^ (ent l k 2).toNat
def mU (l : List (List Int)) (m : Nat) : Nat → Nat
  | 0 => m
  | k + 1 => mU l m k ||| mK l k

theorem pw_pos (n : Int) : 0 < pw n := Int.pow_pos (by decide)
theorem pc_bd (l : List (List Int)) (g : List Int) (k : Nat) : 0 ≤ pc l g k ∧ pc l g k < pw (ent l k 3) := by
  unfold pc bt
  exact ⟨Int.emod_nonneg _ (by have := pw_pos (ent l k 3); omega), Int.emod_lt_of_pos _ (pw_pos _)⟩
theorem in_part (l : List (List Int)) (g : List Int) (k : Nat) (h : mK l k < 4294967296) : In (pc l g k * pw (ent l k 2)) (mK l k) :=
  in_piece (ent l k 3).toNat (ent l k 2).toNat _ _ (pc l g k) _ rfl rfl (pc_bd l g k).1 (pc_bd l g k).2 h (by unfold pw; simp)

/-- The table's entries up to one have their bits apart from each other's, and from a mask's. -/
def Apart (l : List (List Int)) (m : Nat) : Prop := m < 4294967296 ∧ ∀ k, k < l.length → mK l k < 4294967296 ∧ mU l m k &&& mK l k = 0
theorem in_sum {l : List (List Int)} {m : Nat} (h : Apart l m) (g : List Int) {w : Int} (hw : In w m) : ∀ k, k ≤ l.length → In (w + sumK l g k) (mU l m k)
  | 0, _ => by show In (w + 0) m; rw [Int.add_zero]; exact hw
  | k + 1, hk => by
    have ih := in_sum h g hw k (by omega)
    obtain ⟨h1, h2⟩ := h.2 k (by omega)
    have := (in_join ih (in_part l g k h1) h2).2
    show In (w + (sumK l g k + pc l g k * pw (ent l k 2))) _
    rw [← Int.add_assoc]; exact this
/-- Where a mask has none of an entry's bits a number of it has noughts there. -/
theorem in_none {x : Int} {m : Nat} (h : In x m) (a c : Nat) (hd : m &&& ((2 ^ c - 1) * 2 ^ a) = 0) : x / 2 ^ a % 2 ^ c = 0 := by
  obtain ⟨h0, h1, _⟩ := h
  obtain ⟨X, rfl⟩ := Int.eq_ofNat_of_zero_le h0
  rw [Int.toNat_natCast] at h1
  have e : (X >>> a) &&& (2 ^ c - 1) = 0 := by
    apply Nat.eq_of_testBit_eq
    intro i
    rw [Nat.testBit_and, Nat.testBit_shiftRight, Nat.zero_testBit, Nat.testBit_two_pow_sub_one]
    have t1 := congrArg (fun y => Nat.testBit y (a + i)) h1
    have t2 := congrArg (fun y => Nat.testBit y (a + i)) hd
    simp only [Nat.testBit_and, Nat.zero_testBit] at t1 t2
    rw [← Nat.shiftLeft_eq, Nat.testBit_shiftLeft, Nat.testBit_two_pow_sub_one] at t2
    have hi : a + i - a = i := by omega
    simp only [hi, ge_iff_le, Nat.le_add_right, decide_true, Bool.true_and] at t2
    rw [← t1]
    revert t2
    cases X.testBit (a + i) <;> cases m.testBit (a + i) <;> simp
  rw [Nat.and_two_pow_sub_one_eq_mod, Nat.shiftRight_eq_div_pow] at e
  have : ((X / 2 ^ a % 2 ^ c : Nat) : Int) = 0 := by rw [e]; rfl
  simpa using this
theorem none_at {l : List (List Int)} {m : Nat} (h : Apart l m) (g : List Int) {w : Int} (hw : In w m) (k : Nat) (hk : k < l.length) : bt (w + sumK l g k) (ent l k 2) (ent l k 3) = 0 := by
  have hi := in_sum h g hw k (by omega)
  have := in_none hi _ _ (h.2 k hk).2
  unfold bt
  rw [if_neg (by have := hi.le; omega)]
  exact this

/-! ### The forms' bits and the shapes' masks -/
theorem apart_fin : ∀ f : Fin 101, (bitL.getD f.val 0).toNat < 4294967296 ∧ 0 ≤ bitL.getD f.val 0 ∧ ∀ k : Fin 7, k.val < (tabL.getD (shpL.getD f.val 0).toNat []).length →
    mK (tabL.getD (shpL.getD f.val 0).toNat []) k.val < 4294967296 ∧ mU (tabL.getD (shpL.getD f.val 0).toNat []) (bitL.getD f.val 0).toNat k.val &&& mK (tabL.getD (shpL.getD f.val 0).toNat []) k.val = 0
    ∧ mU (tabL.getD (shpL.getD f.val 0).toNat []) 0 k.val &&& mK (tabL.getD (shpL.getD f.val 0).toNat []) k.val = 0 := by decide +kernel
theorem mask_fin : ∀ f : Fin 101, mU (tabL.getD (shpL.getD f.val 0).toNat []) 0 (tabL.getD (shpL.getD f.val 0).toNat []).length &&& (bitL.getD f.val 0).toNat = 0 := by decide +kernel
theorem apart_of {f : Int} (h0 : 1 ≤ f) (h1 : f ≤ 100) : Apart (fl (shp f)) (bts f).toNat ∧ Apart (fl (shp f)) 0 ∧ In (bts f) (bts f).toNat ∧ mU (fl (shp f)) 0 (fl (shp f)).length &&& (bts f).toNat = 0 := by
  have hf := isF_yes ⟨h0, h1⟩
  have es : shp f = shpL.getD f.toNat 0 := by unfold shp; rw [if_pos hf]
  have eb : bts f = bitL.getD f.toNat 0 := by unfold bts; rw [if_pos hf]
  obtain ⟨a, b, c⟩ := apart_fin ⟨f.toNat, by omega⟩
  have d := mask_fin ⟨f.toNat, by omega⟩
  have hl := len_bd (shp f) (shp_bd f).1 (shp_bd f).2
  unfold fl at *
  rw [es] at hl
  rw [es, eb]
  refine ⟨⟨a, fun k hk => ?_⟩, ⟨by decide, fun k hk => ?_⟩, ⟨b, by simp, a⟩, d⟩
  · have := c ⟨k, by omega⟩ hk; exact ⟨this.1, this.2.1⟩
  · have := c ⟨k, by omega⟩ hk; exact ⟨this.1, this.2.2⟩

theorem tone_22 (a p q r : Int) (ha : 0 ≤ a ∧ a ≤ 1) (hp : 0 ≤ p ∧ p ≤ 1) (hq : 0 ≤ q ∧ q ≤ 1) (hr : 0 ≤ r ∧ r < 4194304) : tone (a * 16777216 + p * 8388608 + q * 4194304 + r) 4194304 = a * 16777216 + p * 8388608 + (if q = a then 1 else 0) * 4194304 + r := by
  unfold tone
  rw [show (a * 16777216 + p * 8388608 + q * 4194304 + r) / 4194304 % 2 = q by omega, show (a * 16777216 + p * 8388608 + q * 4194304 + r) / 16777216 % 2 = a by omega]
  generalize (if q = a then (1 : Int) else 0) = c
  omega
theorem tone_23 (a p q r : Int) (ha : 0 ≤ a ∧ a ≤ 1) (hp : 0 ≤ p ∧ p ≤ 1) (hq : 0 ≤ q ∧ q ≤ 1) (hr : 0 ≤ r ∧ r < 4194304) : tone (a * 16777216 + p * 8388608 + q * 4194304 + r) 8388608 = a * 16777216 + (if p = a then 1 else 0) * 8388608 + q * 4194304 + r := by
  unfold tone
  rw [show (a * 16777216 + p * 8388608 + q * 4194304 + r) / 8388608 % 2 = p by omega, show (a * 16777216 + p * 8388608 + q * 4194304 + r) / 16777216 % 2 = a by omega]
  generalize (if p = a then (1 : Int) else 0) = c
  omega
theorem tn_parts (n : Int) (h0 : 0 ≤ n) (h1 : n ≤ 33554431) : 0 ≤ tn n ∧ tn n ≤ 33554431 ∧ tn n / 16777216 % 2 = n / 16777216 % 2 ∧ tn n / 4194304 % 2 = (if n / 4194304 % 2 = n / 16777216 % 2 then 1 else 0) ∧ tn n / 8388608 % 2 = (if n / 8388608 % 2 = n / 16777216 % 2 then 1 else 0) ∧ tn n / 4096 % 1024 = n / 4096 % 1024 ∧ tn n / 2 % 2048 = n / 2 % 2048 := by
  obtain ⟨a, ha⟩ : ∃ a, a = n / 16777216 % 2 := ⟨_, rfl⟩
  obtain ⟨p, hp⟩ : ∃ p, p = n / 8388608 % 2 := ⟨_, rfl⟩
  obtain ⟨q, hq⟩ : ∃ q, q = n / 4194304 % 2 := ⟨_, rfl⟩
  obtain ⟨r, hr⟩ : ∃ r, r = n % 4194304 := ⟨_, rfl⟩
  have hn : n = a * 16777216 + p * 8388608 + q * 4194304 + r := by omega
  have ba : 0 ≤ a ∧ a ≤ 1 := by omega
  have bp : 0 ≤ p ∧ p ≤ 1 := by omega
  have bq : 0 ≤ q ∧ q ≤ 1 := by omega
  have br : 0 ≤ r ∧ r < 4194304 := by omega
  rw [← ha, ← hp, ← hq]
  have e1 : n / 4096 % 1024 = r / 4096 := by omega
  have e2 : n / 2 % 2048 = r / 2 % 2048 := by omega
  rw [e1, e2]
  clear e1 e2 ha hp hq hr h0 h1
  have hc : 0 ≤ (if q = a then (1 : Int) else 0) ∧ (if q = a then (1 : Int) else 0) ≤ 1 := by split <;> omega
  have hd : 0 ≤ (if p = a then (1 : Int) else 0) ∧ (if p = a then (1 : Int) else 0) ≤ 1 := by split <;> omega
  unfold tn
  rw [hn, tone_22 a p q r ba bp bq br, tone_23 a p _ r ba bp hc br]
  clear hn
  generalize (if q = a then (1 : Int) else 0) = c at *
  generalize (if p = a then (1 : Int) else 0) = d at *
  omega

theorem sum_1 {f rd rn rm ra im kd bs st cd rg : Int} (l : (0 ≤ rd ∧ rd ≤ 7) ∧ (rn = 0) ∧ (0 ≤ rm ∧ rm ≤ 7) ∧ (ra = 0) ∧ (0 ≤ im ∧ im ≤ 32 ∧ (f = 1 → im ≤ 31) ∧ (¬ f = 1 → 1 ≤ im)) ∧ (kd = 0) ∧ (bs = 0) ∧ (st = 0) ∧ (cd = 0) ∧ (rg = 0)) : sumK (fl 1) [rd, rn, rm, ra, im, kd, bs, st, cd, rg] (fl 1).length = add 1 rd rn rm ra im kd bs st cd rg := by
  rw [fl_1, add_1]
  show (((0 + bt im 0 5 * pw 6) + bt rm 0 3 * pw 3) + bt rd 0 3 * pw 0) = _
  have h0 : bt im 0 5 = im % 32 := by
    show (if im < 0 then im + 1099511627776 else im) / 1 % 32 = _
    split <;> omega
  have h1 : bt rm 0 3 = rm % 8 := by
    show (if rm < 0 then rm + 1099511627776 else rm) / 1 % 8 = _
    split <;> omega
  have h2 : bt rd 0 3 = rd % 8 := by
    show (if rd < 0 then rd + 1099511627776 else rd) / 1 % 8 = _
    split <;> omega
  rw [h0, h1, h2, show pw 0 = 1 from by decide, show pw 3 = 8 from by decide, show pw 6 = 64 from by decide]
  clear h0 h1 h2
  omega
theorem sum_2 {f rd rn rm ra im kd bs st cd rg : Int} (l : (0 ≤ rd ∧ rd ≤ 7) ∧ (0 ≤ rn ∧ rn ≤ 7) ∧ (0 ≤ rm ∧ rm ≤ 7) ∧ (ra = 0) ∧ (im = 0) ∧ (kd = 0) ∧ (bs = 0) ∧ (st = 0) ∧ (cd = 0) ∧ (rg = 0)) : sumK (fl 2) [rd, rn, rm, ra, im, kd, bs, st, cd, rg] (fl 2).length = add 2 rd rn rm ra im kd bs st cd rg := by
  rw [fl_2, add_2]
  show (((0 + bt rm 0 3 * pw 6) + bt rn 0 3 * pw 3) + bt rd 0 3 * pw 0) = _
  have h0 : bt rm 0 3 = rm % 8 := by
    show (if rm < 0 then rm + 1099511627776 else rm) / 1 % 8 = _
    split <;> omega
  have h1 : bt rn 0 3 = rn % 8 := by
    show (if rn < 0 then rn + 1099511627776 else rn) / 1 % 8 = _
    split <;> omega
  have h2 : bt rd 0 3 = rd % 8 := by
    show (if rd < 0 then rd + 1099511627776 else rd) / 1 % 8 = _
    split <;> omega
  rw [h0, h1, h2, show pw 0 = 1 from by decide, show pw 3 = 8 from by decide, show pw 6 = 64 from by decide]
  clear h0 h1 h2
  omega
theorem sum_3 {f rd rn rm ra im kd bs st cd rg : Int} (l : (0 ≤ rd ∧ rd ≤ 7) ∧ (0 ≤ rn ∧ rn ≤ 7) ∧ (rm = 0) ∧ (ra = 0) ∧ (0 ≤ im ∧ im ≤ 7) ∧ (kd = 0) ∧ (bs = 0) ∧ (st = 0) ∧ (cd = 0) ∧ (rg = 0)) : sumK (fl 3) [rd, rn, rm, ra, im, kd, bs, st, cd, rg] (fl 3).length = add 3 rd rn rm ra im kd bs st cd rg := by
  rw [fl_3, add_3]
  show (((0 + bt im 0 3 * pw 6) + bt rn 0 3 * pw 3) + bt rd 0 3 * pw 0) = _
  have h0 : bt im 0 3 = im % 8 := by
    show (if im < 0 then im + 1099511627776 else im) / 1 % 8 = _
    split <;> omega
  have h1 : bt rn 0 3 = rn % 8 := by
    show (if rn < 0 then rn + 1099511627776 else rn) / 1 % 8 = _
    split <;> omega
  have h2 : bt rd 0 3 = rd % 8 := by
    show (if rd < 0 then rd + 1099511627776 else rd) / 1 % 8 = _
    split <;> omega
  rw [h0, h1, h2, show pw 0 = 1 from by decide, show pw 3 = 8 from by decide, show pw 6 = 64 from by decide]
  clear h0 h1 h2
  omega
theorem sum_4 {f rd rn rm ra im kd bs st cd rg : Int} (l : (0 ≤ rd ∧ rd ≤ 7) ∧ (rn = 0) ∧ (rm = 0) ∧ (ra = 0) ∧ (0 ≤ im ∧ im ≤ 255) ∧ (kd = 0) ∧ (bs = 0) ∧ (st = 0) ∧ (cd = 0) ∧ (rg = 0)) : sumK (fl 4) [rd, rn, rm, ra, im, kd, bs, st, cd, rg] (fl 4).length = add 4 rd rn rm ra im kd bs st cd rg := by
  rw [fl_4, add_4]
  show ((0 + bt rd 0 3 * pw 8) + bt im 0 8 * pw 0) = _
  have h0 : bt rd 0 3 = rd % 8 := by
    show (if rd < 0 then rd + 1099511627776 else rd) / 1 % 8 = _
    split <;> omega
  have h1 : bt im 0 8 = im % 256 := by
    show (if im < 0 then im + 1099511627776 else im) / 1 % 256 = _
    split <;> omega
  rw [h0, h1, show pw 0 = 1 from by decide, show pw 8 = 256 from by decide]
  clear h0 h1
  omega
theorem sum_5 {f rd rn rm ra im kd bs st cd rg : Int} (l : (0 ≤ rd ∧ rd ≤ 7) ∧ (rn = 0) ∧ (0 ≤ rm ∧ rm ≤ 7) ∧ (ra = 0) ∧ (im = 0) ∧ (kd = 0) ∧ (bs = 0) ∧ (st = 0) ∧ (cd = 0) ∧ (rg = 0)) : sumK (fl 5) [rd, rn, rm, ra, im, kd, bs, st, cd, rg] (fl 5).length = add 5 rd rn rm ra im kd bs st cd rg := by
  rw [fl_5, add_5]
  show ((0 + bt rm 0 3 * pw 3) + bt rd 0 3 * pw 0) = _
  have h0 : bt rm 0 3 = rm % 8 := by
    show (if rm < 0 then rm + 1099511627776 else rm) / 1 % 8 = _
    split <;> omega
  have h1 : bt rd 0 3 = rd % 8 := by
    show (if rd < 0 then rd + 1099511627776 else rd) / 1 % 8 = _
    split <;> omega
  rw [h0, h1, show pw 0 = 1 from by decide, show pw 3 = 8 from by decide]
  clear h0 h1
  omega
theorem sum_6 {f rd rn rm ra im kd bs st cd rg : Int} (l : (0 ≤ rd ∧ rd ≤ 14) ∧ (rn = 0) ∧ (0 ≤ rm ∧ rm ≤ 14) ∧ (ra = 0) ∧ (im = 0) ∧ (kd = 0) ∧ (bs = 0) ∧ (st = 0) ∧ (cd = 0) ∧ (rg = 0)) : sumK (fl 6) [rd, rn, rm, ra, im, kd, bs, st, cd, rg] (fl 6).length = add 6 rd rn rm ra im kd bs st cd rg := by
  rw [fl_6, add_6]
  show (((0 + bt rd 3 1 * pw 7) + bt rm 0 4 * pw 3) + bt rd 0 3 * pw 0) = _
  have h0 : bt rd 3 1 = rd / 8 % 2 := by
    show (if rd < 0 then rd + 1099511627776 else rd) / 8 % 2 = _
    split <;> omega
  have h1 : bt rm 0 4 = rm % 16 := by
    show (if rm < 0 then rm + 1099511627776 else rm) / 1 % 16 = _
    split <;> omega
  have h2 : bt rd 0 3 = rd % 8 := by
    show (if rd < 0 then rd + 1099511627776 else rd) / 1 % 8 = _
    split <;> omega
  rw [h0, h1, h2, show pw 0 = 1 from by decide, show pw 3 = 8 from by decide, show pw 7 = 128 from by decide]
  clear h0 h1 h2
  omega
theorem sum_7 {f rd rn rm ra im kd bs st cd rg : Int} (l : (rd = 0) ∧ (rn = 0) ∧ (0 ≤ rm ∧ rm ≤ 14) ∧ (ra = 0) ∧ (im = 0) ∧ (kd = 0) ∧ (bs = 0) ∧ (st = 0) ∧ (cd = 0) ∧ (rg = 0)) : sumK (fl 7) [rd, rn, rm, ra, im, kd, bs, st, cd, rg] (fl 7).length = add 7 rd rn rm ra im kd bs st cd rg := by
  rw [fl_7, add_7]
  show (0 + bt rm 0 4 * pw 3) = _
  have h0 : bt rm 0 4 = rm % 16 := by
    show (if rm < 0 then rm + 1099511627776 else rm) / 1 % 16 = _
    split <;> omega
  rw [h0, show pw 3 = 8 from by decide]
  clear h0
  omega
theorem sum_8 {f rd rn rm ra im kd bs st cd rg : Int} (l : (0 ≤ rd ∧ rd ≤ 7) ∧ (rn = 0) ∧ (rm = 0) ∧ (ra = 0) ∧ (0 ≤ im ∧ im ≤ 1020 ∧ im % 4 = 0) ∧ (kd = 0) ∧ (bs = 0) ∧ (st = 0) ∧ (cd = 0) ∧ (rg = 0)) : sumK (fl 8) [rd, rn, rm, ra, im, kd, bs, st, cd, rg] (fl 8).length = add 8 rd rn rm ra im kd bs st cd rg := by
  rw [fl_8, add_8]
  show ((0 + bt rd 0 3 * pw 8) + bt im 2 8 * pw 0) = _
  have h0 : bt rd 0 3 = rd % 8 := by
    show (if rd < 0 then rd + 1099511627776 else rd) / 1 % 8 = _
    split <;> omega
  have h1 : bt im 2 8 = im / 4 % 256 := by
    show (if im < 0 then im + 1099511627776 else im) / 4 % 256 = _
    split <;> omega
  rw [h0, h1, show pw 0 = 1 from by decide, show pw 8 = 256 from by decide]
  clear h0 h1
  omega
theorem sum_9 {f rd rn rm ra im kd bs st cd rg : Int} (l : (0 ≤ rd ∧ rd ≤ 7) ∧ (0 ≤ rn ∧ rn ≤ 7) ∧ (rm = 0) ∧ (ra = 0) ∧ (0 ≤ im ∧ im ≤ 124 ∧ im % 4 = 0) ∧ (kd = 0) ∧ (bs = 0) ∧ (st = 0) ∧ (cd = 0) ∧ (rg = 0)) : sumK (fl 9) [rd, rn, rm, ra, im, kd, bs, st, cd, rg] (fl 9).length = add 9 rd rn rm ra im kd bs st cd rg := by
  rw [fl_9, add_9]
  show (((0 + bt im 2 5 * pw 6) + bt rn 0 3 * pw 3) + bt rd 0 3 * pw 0) = _
  have h0 : bt im 2 5 = im / 4 % 32 := by
    show (if im < 0 then im + 1099511627776 else im) / 4 % 32 = _
    split <;> omega
  have h1 : bt rn 0 3 = rn % 8 := by
    show (if rn < 0 then rn + 1099511627776 else rn) / 1 % 8 = _
    split <;> omega
  have h2 : bt rd 0 3 = rd % 8 := by
    show (if rd < 0 then rd + 1099511627776 else rd) / 1 % 8 = _
    split <;> omega
  rw [h0, h1, h2, show pw 0 = 1 from by decide, show pw 3 = 8 from by decide, show pw 6 = 64 from by decide]
  clear h0 h1 h2
  omega
theorem sum_10 {f rd rn rm ra im kd bs st cd rg : Int} (l : (rd = 0) ∧ (rn = 0) ∧ (rm = 0) ∧ (ra = 0) ∧ (0 ≤ im ∧ im ≤ 508 ∧ im % 4 = 0) ∧ (kd = 0) ∧ (bs = 0) ∧ (st = 0) ∧ (cd = 0) ∧ (rg = 0)) : sumK (fl 10) [rd, rn, rm, ra, im, kd, bs, st, cd, rg] (fl 10).length = add 10 rd rn rm ra im kd bs st cd rg := by
  rw [fl_10, add_10]
  show (0 + bt im 2 7 * pw 0) = _
  have h0 : bt im 2 7 = im / 4 % 128 := by
    show (if im < 0 then im + 1099511627776 else im) / 4 % 128 = _
    split <;> omega
  rw [h0, show pw 0 = 1 from by decide]
  clear h0
  omega
theorem sum_11 {f rd rn rm ra im kd bs st cd rg : Int} (l : (rd = 0) ∧ (rn = 0) ∧ (rm = 0) ∧ (ra = 0) ∧ (im = 0) ∧ (kd = 0) ∧ (bs = 0) ∧ (st = 0) ∧ (cd = 0) ∧ ((1 ≤ rg ∧ rg ≤ 255 ∨ 16384 ≤ rg ∧ rg ≤ 16639))) : sumK (fl 11) [rd, rn, rm, ra, im, kd, bs, st, cd, rg] (fl 11).length = add 11 rd rn rm ra im kd bs st cd rg := by
  rw [fl_11, add_11]
  show ((0 + bt rg 14 1 * pw 8) + bt rg 0 8 * pw 0) = _
  have h0 : bt rg 14 1 = rg / 16384 % 2 := by
    show (if rg < 0 then rg + 1099511627776 else rg) / 16384 % 2 = _
    split <;> omega
  have h1 : bt rg 0 8 = rg % 256 := by
    show (if rg < 0 then rg + 1099511627776 else rg) / 1 % 256 = _
    split <;> omega
  rw [h0, h1, show pw 0 = 1 from by decide, show pw 8 = 256 from by decide]
  clear h0 h1
  omega
theorem sum_12 {f rd rn rm ra im kd bs st cd rg : Int} (l : (rd = 0) ∧ (rn = 0) ∧ (rm = 0) ∧ (ra = 0) ∧ (im = 0) ∧ (kd = 0) ∧ (bs = 0) ∧ (st = 0) ∧ (cd = 0) ∧ ((1 ≤ rg ∧ rg ≤ 255 ∨ 32768 ≤ rg ∧ rg ≤ 33023))) : sumK (fl 12) [rd, rn, rm, ra, im, kd, bs, st, cd, rg] (fl 12).length = add 12 rd rn rm ra im kd bs st cd rg := by
  rw [fl_12, add_12]
  show ((0 + bt rg 15 1 * pw 8) + bt rg 0 8 * pw 0) = _
  have h0 : bt rg 15 1 = rg / 32768 % 2 := by
    show (if rg < 0 then rg + 1099511627776 else rg) / 32768 % 2 = _
    split <;> omega
  have h1 : bt rg 0 8 = rg % 256 := by
    show (if rg < 0 then rg + 1099511627776 else rg) / 1 % 256 = _
    split <;> omega
  rw [h0, h1, show pw 0 = 1 from by decide, show pw 8 = 256 from by decide]
  clear h0 h1
  omega
theorem sum_13 {f rd rn rm ra im kd bs st cd rg : Int} (l : (rd = 0) ∧ (rn = 0) ∧ (rm = 0) ∧ (ra = 0) ∧ (im = 0) ∧ (kd = 0) ∧ (bs = 0) ∧ (st = 0) ∧ (cd = 0) ∧ (rg = 0)) : sumK (fl 13) [rd, rn, rm, ra, im, kd, bs, st, cd, rg] (fl 13).length = add 13 rd rn rm ra im kd bs st cd rg := by
  rw [fl_13]; rfl
theorem sum_14 {f rd rn rm ra im kd bs st cd rg : Int} (l : (rd = 0) ∧ (rn = 0) ∧ (rm = 0) ∧ (ra = 0) ∧ (0 ≤ im ∧ im ≤ 255) ∧ (kd = 0) ∧ (bs = 0) ∧ (st = 0) ∧ (cd = 0) ∧ (rg = 0)) : sumK (fl 14) [rd, rn, rm, ra, im, kd, bs, st, cd, rg] (fl 14).length = add 14 rd rn rm ra im kd bs st cd rg := by
  rw [fl_14, add_14]
  show (0 + bt im 0 8 * pw 0) = _
  have h0 : bt im 0 8 = im % 256 := by
    show (if im < 0 then im + 1099511627776 else im) / 1 % 256 = _
    split <;> omega
  rw [h0, show pw 0 = 1 from by decide]
  clear h0
  omega
theorem sum_15 {f rd rn rm ra im kd bs st cd rg : Int} (l : (rd = 0) ∧ (rn = 0) ∧ (rm = 0) ∧ (ra = 0) ∧ (-256 ≤ im ∧ im ≤ 254 ∧ im % 2 = 0) ∧ (kd = 0) ∧ (bs = 0) ∧ (st = 0) ∧ (0 ≤ cd ∧ cd ≤ 13) ∧ (rg = 0)) : sumK (fl 15) [rd, rn, rm, ra, im, kd, bs, st, cd, rg] (fl 15).length = add 15 rd rn rm ra im kd bs st cd rg := by
  rw [fl_15, add_15]
  show ((0 + bt cd 0 4 * pw 8) + bt im 1 8 * pw 0) = _
  have h0 : bt cd 0 4 = cd % 16 := by
    show (if cd < 0 then cd + 1099511627776 else cd) / 1 % 16 = _
    split <;> omega
  have h1 : bt im 1 8 = im / 2 % 256 := by
    show (if im < 0 then im + 1099511627776 else im) / 2 % 256 = _
    split <;> omega
  rw [h0, h1, show pw 0 = 1 from by decide, show pw 8 = 256 from by decide]
  clear h0 h1
  omega
theorem sum_16 {f rd rn rm ra im kd bs st cd rg : Int} (l : (rd = 0) ∧ (rn = 0) ∧ (rm = 0) ∧ (ra = 0) ∧ (-2048 ≤ im ∧ im ≤ 2046 ∧ im % 2 = 0) ∧ (kd = 0) ∧ (bs = 0) ∧ (st = 0) ∧ (cd = 0) ∧ (rg = 0)) : sumK (fl 16) [rd, rn, rm, ra, im, kd, bs, st, cd, rg] (fl 16).length = add 16 rd rn rm ra im kd bs st cd rg := by
  rw [fl_16, add_16]
  show (0 + bt im 1 11 * pw 0) = _
  have h0 : bt im 1 11 = im / 2 % 2048 := by
    show (if im < 0 then im + 1099511627776 else im) / 2 % 2048 = _
    split <;> omega
  rw [h0, show pw 0 = 1 from by decide]
  clear h0
  omega
theorem sum_17 {f rd rn rm ra im kd bs st cd rg : Int} (l : ((0 ≤ rd ∧ rd ≤ 12 ∨ rd = 14)) ∧ (rn = 0) ∧ (rm = 0) ∧ (ra = 0) ∧ (0 ≤ im ∧ im ≤ 65535) ∧ (kd = 0) ∧ (bs = 0) ∧ (st = 0) ∧ (cd = 0) ∧ (rg = 0)) : sumK (fl 17) [rd, rn, rm, ra, im, kd, bs, st, cd, rg] (fl 17).length = add 17 rd rn rm ra im kd bs st cd rg := by
  rw [fl_17, add_17]
  show (((((0 + bt im 11 1 * pw 26) + bt im 12 4 * pw 16) + bt im 8 3 * pw 12) + bt im 0 8 * pw 0) + bt rd 0 4 * pw 8) = _
  have h0 : bt im 11 1 = im / 2048 % 2 := by
    show (if im < 0 then im + 1099511627776 else im) / 2048 % 2 = _
    split <;> omega
  have h1 : bt im 12 4 = im / 4096 % 16 := by
    show (if im < 0 then im + 1099511627776 else im) / 4096 % 16 = _
    split <;> omega
  have h2 : bt im 8 3 = im / 256 % 8 := by
    show (if im < 0 then im + 1099511627776 else im) / 256 % 8 = _
    split <;> omega
  have h3 : bt im 0 8 = im % 256 := by
    show (if im < 0 then im + 1099511627776 else im) / 1 % 256 = _
    split <;> omega
  have h4 : bt rd 0 4 = rd % 16 := by
    show (if rd < 0 then rd + 1099511627776 else rd) / 1 % 16 = _
    split <;> omega
  rw [h0, h1, h2, h3, h4, show pw 0 = 1 from by decide, show pw 8 = 256 from by decide, show pw 12 = 4096 from by decide, show pw 16 = 65536 from by decide, show pw 26 = 67108864 from by decide]
  clear h0 h1 h2 h3 h4
  omega
theorem sum_18 {f rd rn rm ra im kd bs st cd rg : Int} (l : ((0 ≤ rd ∧ rd ≤ 12 ∨ rd = 14)) ∧ ((0 ≤ rn ∧ rn ≤ 12 ∨ rn = 14)) ∧ (rm = 0) ∧ (ra = 0) ∧ (0 ≤ im ∧ im ≤ 4095) ∧ (kd = 0) ∧ (bs = 0) ∧ (0 ≤ st ∧ st ≤ 1) ∧ (cd = 0) ∧ (rg = 0)) : sumK (fl 18) [rd, rn, rm, ra, im, kd, bs, st, cd, rg] (fl 18).length = add 18 rd rn rm ra im kd bs st cd rg := by
  rw [fl_18, add_18]
  show ((((((0 + bt im 11 1 * pw 26) + bt im 8 3 * pw 12) + bt im 0 8 * pw 0) + bt st 0 1 * pw 20) + bt rn 0 4 * pw 16) + bt rd 0 4 * pw 8) = _
  have h0 : bt im 11 1 = im / 2048 % 2 := by
    show (if im < 0 then im + 1099511627776 else im) / 2048 % 2 = _
    split <;> omega
  have h1 : bt im 8 3 = im / 256 % 8 := by
    show (if im < 0 then im + 1099511627776 else im) / 256 % 8 = _
    split <;> omega
  have h2 : bt im 0 8 = im % 256 := by
    show (if im < 0 then im + 1099511627776 else im) / 1 % 256 = _
    split <;> omega
  have h3 : bt st 0 1 = st % 2 := by
    show (if st < 0 then st + 1099511627776 else st) / 1 % 2 = _
    split <;> omega
  have h4 : bt rn 0 4 = rn % 16 := by
    show (if rn < 0 then rn + 1099511627776 else rn) / 1 % 16 = _
    split <;> omega
  have h5 : bt rd 0 4 = rd % 16 := by
    show (if rd < 0 then rd + 1099511627776 else rd) / 1 % 16 = _
    split <;> omega
  rw [h0, h1, h2, h3, h4, h5, show pw 0 = 1 from by decide, show pw 8 = 256 from by decide, show pw 12 = 4096 from by decide, show pw 16 = 65536 from by decide, show pw 20 = 1048576 from by decide, show pw 26 = 67108864 from by decide]
  clear h0 h1 h2 h3 h4 h5
  omega
theorem sum_19 {f rd rn rm ra im kd bs st cd rg : Int} (l : ((0 ≤ rd ∧ rd ≤ 12 ∨ rd = 14)) ∧ (rn = 0) ∧ (rm = 0) ∧ (ra = 0) ∧ (0 ≤ im ∧ im ≤ 4095) ∧ (kd = 0) ∧ (bs = 0) ∧ (0 ≤ st ∧ st ≤ 1) ∧ (cd = 0) ∧ (rg = 0)) : sumK (fl 19) [rd, rn, rm, ra, im, kd, bs, st, cd, rg] (fl 19).length = add 19 rd rn rm ra im kd bs st cd rg := by
  rw [fl_19, add_19]
  show (((((0 + bt im 11 1 * pw 26) + bt im 8 3 * pw 12) + bt im 0 8 * pw 0) + bt st 0 1 * pw 20) + bt rd 0 4 * pw 8) = _
  have h0 : bt im 11 1 = im / 2048 % 2 := by
    show (if im < 0 then im + 1099511627776 else im) / 2048 % 2 = _
    split <;> omega
  have h1 : bt im 8 3 = im / 256 % 8 := by
    show (if im < 0 then im + 1099511627776 else im) / 256 % 8 = _
    split <;> omega
  have h2 : bt im 0 8 = im % 256 := by
    show (if im < 0 then im + 1099511627776 else im) / 1 % 256 = _
    split <;> omega
  have h3 : bt st 0 1 = st % 2 := by
    show (if st < 0 then st + 1099511627776 else st) / 1 % 2 = _
    split <;> omega
  have h4 : bt rd 0 4 = rd % 16 := by
    show (if rd < 0 then rd + 1099511627776 else rd) / 1 % 16 = _
    split <;> omega
  rw [h0, h1, h2, h3, h4, show pw 0 = 1 from by decide, show pw 8 = 256 from by decide, show pw 12 = 4096 from by decide, show pw 20 = 1048576 from by decide, show pw 26 = 67108864 from by decide]
  clear h0 h1 h2 h3 h4
  omega
theorem sum_20 {f rd rn rm ra im kd bs st cd rg : Int} (l : (rd = 0) ∧ ((0 ≤ rn ∧ rn ≤ 12 ∨ rn = 14)) ∧ (rm = 0) ∧ (ra = 0) ∧ (0 ≤ im ∧ im ≤ 4095) ∧ (kd = 0) ∧ (bs = 0) ∧ (st = 0) ∧ (cd = 0) ∧ (rg = 0)) : sumK (fl 20) [rd, rn, rm, ra, im, kd, bs, st, cd, rg] (fl 20).length = add 20 rd rn rm ra im kd bs st cd rg := by
  rw [fl_20, add_20]
  show ((((0 + bt im 11 1 * pw 26) + bt im 8 3 * pw 12) + bt im 0 8 * pw 0) + bt rn 0 4 * pw 16) = _
  have h0 : bt im 11 1 = im / 2048 % 2 := by
    show (if im < 0 then im + 1099511627776 else im) / 2048 % 2 = _
    split <;> omega
  have h1 : bt im 8 3 = im / 256 % 8 := by
    show (if im < 0 then im + 1099511627776 else im) / 256 % 8 = _
    split <;> omega
  have h2 : bt im 0 8 = im % 256 := by
    show (if im < 0 then im + 1099511627776 else im) / 1 % 256 = _
    split <;> omega
  have h3 : bt rn 0 4 = rn % 16 := by
    show (if rn < 0 then rn + 1099511627776 else rn) / 1 % 16 = _
    split <;> omega
  rw [h0, h1, h2, h3, show pw 0 = 1 from by decide, show pw 12 = 4096 from by decide, show pw 16 = 65536 from by decide, show pw 26 = 67108864 from by decide]
  clear h0 h1 h2 h3
  omega
theorem sum_21 {f rd rn rm ra im kd bs st cd rg : Int} (l : ((0 ≤ rd ∧ rd ≤ 12 ∨ rd = 14)) ∧ ((0 ≤ rn ∧ rn ≤ 12 ∨ rn = 14)) ∧ ((0 ≤ rm ∧ rm ≤ 12 ∨ rm = 14)) ∧ (ra = 0) ∧ (im = 0) ∧ (0 ≤ st ∧ st ≤ 1) ∧ (cd = 0) ∧ (rg = 0) ∧ ((kd = 0 ∧ 0 ≤ bs ∧ bs ≤ 31) ∨ ((kd = 1 ∨ kd = 2) ∧ 1 ≤ bs ∧ bs ≤ 32) ∨ (kd = 3 ∧ 1 ≤ bs ∧ bs ≤ 31))) : sumK (fl 21) [rd, rn, rm, ra, im, kd, bs, st, cd, rg] (fl 21).length = add 21 rd rn rm ra im kd bs st cd rg := by
  rw [fl_21, add_21]
  show (((((((0 + bt bs 2 3 * pw 12) + bt bs 0 2 * pw 6) + bt kd 0 2 * pw 4) + bt st 0 1 * pw 20) + bt rn 0 4 * pw 16) + bt rd 0 4 * pw 8) + bt rm 0 4 * pw 0) = _
  have h0 : bt bs 2 3 = bs / 4 % 8 := by
    show (if bs < 0 then bs + 1099511627776 else bs) / 4 % 8 = _
    split <;> omega
  have h1 : bt bs 0 2 = bs % 4 := by
    show (if bs < 0 then bs + 1099511627776 else bs) / 1 % 4 = _
    split <;> omega
  have h2 : bt kd 0 2 = kd % 4 := by
    show (if kd < 0 then kd + 1099511627776 else kd) / 1 % 4 = _
    split <;> omega
  have h3 : bt st 0 1 = st % 2 := by
    show (if st < 0 then st + 1099511627776 else st) / 1 % 2 = _
    split <;> omega
  have h4 : bt rn 0 4 = rn % 16 := by
    show (if rn < 0 then rn + 1099511627776 else rn) / 1 % 16 = _
    split <;> omega
  have h5 : bt rd 0 4 = rd % 16 := by
    show (if rd < 0 then rd + 1099511627776 else rd) / 1 % 16 = _
    split <;> omega
  have h6 : bt rm 0 4 = rm % 16 := by
    show (if rm < 0 then rm + 1099511627776 else rm) / 1 % 16 = _
    split <;> omega
  rw [h0, h1, h2, h3, h4, h5, h6, show pw 0 = 1 from by decide, show pw 4 = 16 from by decide, show pw 6 = 64 from by decide, show pw 8 = 256 from by decide, show pw 12 = 4096 from by decide, show pw 16 = 65536 from by decide, show pw 20 = 1048576 from by decide]
  clear h0 h1 h2 h3 h4 h5 h6
  omega
theorem sum_22 {f rd rn rm ra im kd bs st cd rg : Int} (l : ((0 ≤ rd ∧ rd ≤ 12 ∨ rd = 14)) ∧ (rn = 0) ∧ ((0 ≤ rm ∧ rm ≤ 12 ∨ rm = 14)) ∧ (ra = 0) ∧ (im = 0) ∧ (0 ≤ st ∧ st ≤ 1) ∧ (cd = 0) ∧ (rg = 0) ∧ ((kd = 0 ∧ 0 ≤ bs ∧ bs ≤ 31) ∨ ((kd = 1 ∨ kd = 2) ∧ 1 ≤ bs ∧ bs ≤ 32) ∨ (kd = 3 ∧ 1 ≤ bs ∧ bs ≤ 31))) : sumK (fl 22) [rd, rn, rm, ra, im, kd, bs, st, cd, rg] (fl 22).length = add 22 rd rn rm ra im kd bs st cd rg := by
  rw [fl_22, add_22]
  show ((((((0 + bt bs 2 3 * pw 12) + bt bs 0 2 * pw 6) + bt kd 0 2 * pw 4) + bt st 0 1 * pw 20) + bt rd 0 4 * pw 8) + bt rm 0 4 * pw 0) = _
  have h0 : bt bs 2 3 = bs / 4 % 8 := by
    show (if bs < 0 then bs + 1099511627776 else bs) / 4 % 8 = _
    split <;> omega
  have h1 : bt bs 0 2 = bs % 4 := by
    show (if bs < 0 then bs + 1099511627776 else bs) / 1 % 4 = _
    split <;> omega
  have h2 : bt kd 0 2 = kd % 4 := by
    show (if kd < 0 then kd + 1099511627776 else kd) / 1 % 4 = _
    split <;> omega
  have h3 : bt st 0 1 = st % 2 := by
    show (if st < 0 then st + 1099511627776 else st) / 1 % 2 = _
    split <;> omega
  have h4 : bt rd 0 4 = rd % 16 := by
    show (if rd < 0 then rd + 1099511627776 else rd) / 1 % 16 = _
    split <;> omega
  have h5 : bt rm 0 4 = rm % 16 := by
    show (if rm < 0 then rm + 1099511627776 else rm) / 1 % 16 = _
    split <;> omega
  rw [h0, h1, h2, h3, h4, h5, show pw 0 = 1 from by decide, show pw 4 = 16 from by decide, show pw 6 = 64 from by decide, show pw 8 = 256 from by decide, show pw 12 = 4096 from by decide, show pw 20 = 1048576 from by decide]
  clear h0 h1 h2 h3 h4 h5
  omega
theorem sum_23 {f rd rn rm ra im kd bs st cd rg : Int} (l : (rd = 0) ∧ ((0 ≤ rn ∧ rn ≤ 12 ∨ rn = 14)) ∧ ((0 ≤ rm ∧ rm ≤ 12 ∨ rm = 14)) ∧ (ra = 0) ∧ (im = 0) ∧ (st = 0) ∧ (cd = 0) ∧ (rg = 0) ∧ ((kd = 0 ∧ 0 ≤ bs ∧ bs ≤ 31) ∨ ((kd = 1 ∨ kd = 2) ∧ 1 ≤ bs ∧ bs ≤ 32) ∨ (kd = 3 ∧ 1 ≤ bs ∧ bs ≤ 31))) : sumK (fl 23) [rd, rn, rm, ra, im, kd, bs, st, cd, rg] (fl 23).length = add 23 rd rn rm ra im kd bs st cd rg := by
  rw [fl_23, add_23]
  show (((((0 + bt bs 2 3 * pw 12) + bt bs 0 2 * pw 6) + bt kd 0 2 * pw 4) + bt rn 0 4 * pw 16) + bt rm 0 4 * pw 0) = _
  have h0 : bt bs 2 3 = bs / 4 % 8 := by
    show (if bs < 0 then bs + 1099511627776 else bs) / 4 % 8 = _
    split <;> omega
  have h1 : bt bs 0 2 = bs % 4 := by
    show (if bs < 0 then bs + 1099511627776 else bs) / 1 % 4 = _
    split <;> omega
  have h2 : bt kd 0 2 = kd % 4 := by
    show (if kd < 0 then kd + 1099511627776 else kd) / 1 % 4 = _
    split <;> omega
  have h3 : bt rn 0 4 = rn % 16 := by
    show (if rn < 0 then rn + 1099511627776 else rn) / 1 % 16 = _
    split <;> omega
  have h4 : bt rm 0 4 = rm % 16 := by
    show (if rm < 0 then rm + 1099511627776 else rm) / 1 % 16 = _
    split <;> omega
  rw [h0, h1, h2, h3, h4, show pw 0 = 1 from by decide, show pw 4 = 16 from by decide, show pw 6 = 64 from by decide, show pw 12 = 4096 from by decide, show pw 16 = 65536 from by decide]
  clear h0 h1 h2 h3 h4
  omega
theorem sum_24 {f rd rn rm ra im kd bs st cd rg : Int} (l : ((0 ≤ rd ∧ rd ≤ 12 ∨ rd = 14)) ∧ ((0 ≤ rn ∧ rn ≤ 12 ∨ rn = 14)) ∧ (rm = 0) ∧ (ra = 0) ∧ (0 ≤ im ∧ im ≤ 4095) ∧ (kd = 0) ∧ (bs = 0) ∧ (st = 0) ∧ (cd = 0) ∧ (rg = 0)) : sumK (fl 24) [rd, rn, rm, ra, im, kd, bs, st, cd, rg] (fl 24).length = add 24 rd rn rm ra im kd bs st cd rg := by
  rw [fl_24, add_24]
  show (((((0 + bt im 11 1 * pw 26) + bt im 8 3 * pw 12) + bt im 0 8 * pw 0) + bt rn 0 4 * pw 16) + bt rd 0 4 * pw 8) = _
  have h0 : bt im 11 1 = im / 2048 % 2 := by
    show (if im < 0 then im + 1099511627776 else im) / 2048 % 2 = _
    split <;> omega
  have h1 : bt im 8 3 = im / 256 % 8 := by
    show (if im < 0 then im + 1099511627776 else im) / 256 % 8 = _
    split <;> omega
  have h2 : bt im 0 8 = im % 256 := by
    show (if im < 0 then im + 1099511627776 else im) / 1 % 256 = _
    split <;> omega
  have h3 : bt rn 0 4 = rn % 16 := by
    show (if rn < 0 then rn + 1099511627776 else rn) / 1 % 16 = _
    split <;> omega
  have h4 : bt rd 0 4 = rd % 16 := by
    show (if rd < 0 then rd + 1099511627776 else rd) / 1 % 16 = _
    split <;> omega
  rw [h0, h1, h2, h3, h4, show pw 0 = 1 from by decide, show pw 8 = 256 from by decide, show pw 12 = 4096 from by decide, show pw 16 = 65536 from by decide, show pw 26 = 67108864 from by decide]
  clear h0 h1 h2 h3 h4
  omega
theorem sum_25 {f rd rn rm ra im kd bs st cd rg : Int} (l : ((0 ≤ rd ∧ rd ≤ 12 ∨ rd = 14)) ∧ (0 ≤ rn ∧ rn ≤ 14) ∧ (rm = 0) ∧ (ra = 0) ∧ (0 ≤ im ∧ im ≤ 4095) ∧ (kd = 0) ∧ (bs = 0) ∧ (st = 0) ∧ (cd = 0) ∧ (rg = 0)) : sumK (fl 25) [rd, rn, rm, ra, im, kd, bs, st, cd, rg] (fl 25).length = add 25 rd rn rm ra im kd bs st cd rg := by
  rw [fl_25, add_25]
  show (((0 + bt rn 0 4 * pw 16) + bt rd 0 4 * pw 12) + bt im 0 12 * pw 0) = _
  have h0 : bt rn 0 4 = rn % 16 := by
    show (if rn < 0 then rn + 1099511627776 else rn) / 1 % 16 = _
    split <;> omega
  have h1 : bt rd 0 4 = rd % 16 := by
    show (if rd < 0 then rd + 1099511627776 else rd) / 1 % 16 = _
    split <;> omega
  have h2 : bt im 0 12 = im % 4096 := by
    show (if im < 0 then im + 1099511627776 else im) / 1 % 4096 = _
    split <;> omega
  rw [h0, h1, h2, show pw 0 = 1 from by decide, show pw 12 = 4096 from by decide, show pw 16 = 65536 from by decide]
  clear h0 h1 h2
  omega
theorem sum_26 {f rd rn rm ra im kd bs st cd rg : Int} (l : ((0 ≤ rd ∧ rd ≤ 12 ∨ rd = 14)) ∧ (0 ≤ rn ∧ rn ≤ 14) ∧ ((0 ≤ rm ∧ rm ≤ 12 ∨ rm = 14)) ∧ (ra = 0) ∧ (im = 0) ∧ (kd = 0) ∧ (0 ≤ bs ∧ bs ≤ 3) ∧ (st = 0) ∧ (cd = 0) ∧ (rg = 0)) : sumK (fl 26) [rd, rn, rm, ra, im, kd, bs, st, cd, rg] (fl 26).length = add 26 rd rn rm ra im kd bs st cd rg := by
  rw [fl_26, add_26]
  show ((((0 + bt rn 0 4 * pw 16) + bt rd 0 4 * pw 12) + bt bs 0 2 * pw 4) + bt rm 0 4 * pw 0) = _
  have h0 : bt rn 0 4 = rn % 16 := by
    show (if rn < 0 then rn + 1099511627776 else rn) / 1 % 16 = _
    split <;> omega
  have h1 : bt rd 0 4 = rd % 16 := by
    show (if rd < 0 then rd + 1099511627776 else rd) / 1 % 16 = _
    split <;> omega
  have h2 : bt bs 0 2 = bs % 4 := by
    show (if bs < 0 then bs + 1099511627776 else bs) / 1 % 4 = _
    split <;> omega
  have h3 : bt rm 0 4 = rm % 16 := by
    show (if rm < 0 then rm + 1099511627776 else rm) / 1 % 16 = _
    split <;> omega
  rw [h0, h1, h2, h3, show pw 0 = 1 from by decide, show pw 4 = 16 from by decide, show pw 12 = 4096 from by decide, show pw 16 = 65536 from by decide]
  clear h0 h1 h2 h3
  omega
theorem sum_27 {f rd rn rm ra im kd bs st cd rg : Int} (l : ((0 ≤ rd ∧ rd ≤ 12 ∨ rd = 14)) ∧ ((0 ≤ rn ∧ rn ≤ 12 ∨ rn = 14)) ∧ ((0 ≤ rm ∧ rm ≤ 12 ∨ rm = 14)) ∧ (ra = 0) ∧ (im = 0) ∧ (kd = 0) ∧ (bs = 0) ∧ (0 ≤ st ∧ st ≤ 1) ∧ (cd = 0) ∧ (rg = 0)) : sumK (fl 27) [rd, rn, rm, ra, im, kd, bs, st, cd, rg] (fl 27).length = add 27 rd rn rm ra im kd bs st cd rg := by
  rw [fl_27, add_27]
  show ((((0 + bt st 0 1 * pw 20) + bt rn 0 4 * pw 16) + bt rd 0 4 * pw 8) + bt rm 0 4 * pw 0) = _
  have h0 : bt st 0 1 = st % 2 := by
    show (if st < 0 then st + 1099511627776 else st) / 1 % 2 = _
    split <;> omega
  have h1 : bt rn 0 4 = rn % 16 := by
    show (if rn < 0 then rn + 1099511627776 else rn) / 1 % 16 = _
    split <;> omega
  have h2 : bt rd 0 4 = rd % 16 := by
    show (if rd < 0 then rd + 1099511627776 else rd) / 1 % 16 = _
    split <;> omega
  have h3 : bt rm 0 4 = rm % 16 := by
    show (if rm < 0 then rm + 1099511627776 else rm) / 1 % 16 = _
    split <;> omega
  rw [h0, h1, h2, h3, show pw 0 = 1 from by decide, show pw 8 = 256 from by decide, show pw 16 = 65536 from by decide, show pw 20 = 1048576 from by decide]
  clear h0 h1 h2 h3
  omega
theorem sum_28 {f rd rn rm ra im kd bs st cd rg : Int} (l : ((0 ≤ rd ∧ rd ≤ 12 ∨ rd = 14)) ∧ ((0 ≤ rn ∧ rn ≤ 12 ∨ rn = 14)) ∧ ((0 ≤ rm ∧ rm ≤ 12 ∨ rm = 14)) ∧ (ra = 0) ∧ (im = 0) ∧ (kd = 0) ∧ (bs = 0) ∧ (st = 0) ∧ (cd = 0) ∧ (rg = 0)) : sumK (fl 28) [rd, rn, rm, ra, im, kd, bs, st, cd, rg] (fl 28).length = add 28 rd rn rm ra im kd bs st cd rg := by
  rw [fl_28, add_28]
  show (((0 + bt rn 0 4 * pw 16) + bt rd 0 4 * pw 8) + bt rm 0 4 * pw 0) = _
  have h0 : bt rn 0 4 = rn % 16 := by
    show (if rn < 0 then rn + 1099511627776 else rn) / 1 % 16 = _
    split <;> omega
  have h1 : bt rd 0 4 = rd % 16 := by
    show (if rd < 0 then rd + 1099511627776 else rd) / 1 % 16 = _
    split <;> omega
  have h2 : bt rm 0 4 = rm % 16 := by
    show (if rm < 0 then rm + 1099511627776 else rm) / 1 % 16 = _
    split <;> omega
  rw [h0, h1, h2, show pw 0 = 1 from by decide, show pw 8 = 256 from by decide, show pw 16 = 65536 from by decide]
  clear h0 h1 h2
  omega
theorem sum_29 {f rd rn rm ra im kd bs st cd rg : Int} (l : ((0 ≤ rd ∧ rd ≤ 12 ∨ rd = 14)) ∧ ((0 ≤ rn ∧ rn ≤ 12 ∨ rn = 14)) ∧ ((0 ≤ rm ∧ rm ≤ 12 ∨ rm = 14)) ∧ ((0 ≤ ra ∧ ra ≤ 12 ∨ ra = 14)) ∧ (im = 0) ∧ (kd = 0) ∧ (bs = 0) ∧ (st = 0) ∧ (cd = 0) ∧ (rg = 0)) : sumK (fl 29) [rd, rn, rm, ra, im, kd, bs, st, cd, rg] (fl 29).length = add 29 rd rn rm ra im kd bs st cd rg := by
  rw [fl_29, add_29]
  show ((((0 + bt rn 0 4 * pw 16) + bt ra 0 4 * pw 12) + bt rd 0 4 * pw 8) + bt rm 0 4 * pw 0) = _
  have h0 : bt rn 0 4 = rn % 16 := by
    show (if rn < 0 then rn + 1099511627776 else rn) / 1 % 16 = _
    split <;> omega
  have h1 : bt ra 0 4 = ra % 16 := by
    show (if ra < 0 then ra + 1099511627776 else ra) / 1 % 16 = _
    split <;> omega
  have h2 : bt rd 0 4 = rd % 16 := by
    show (if rd < 0 then rd + 1099511627776 else rd) / 1 % 16 = _
    split <;> omega
  have h3 : bt rm 0 4 = rm % 16 := by
    show (if rm < 0 then rm + 1099511627776 else rm) / 1 % 16 = _
    split <;> omega
  rw [h0, h1, h2, h3, show pw 0 = 1 from by decide, show pw 8 = 256 from by decide, show pw 12 = 4096 from by decide, show pw 16 = 65536 from by decide]
  clear h0 h1 h2 h3
  omega
theorem sum_30 {f rd rn rm ra im kd bs st cd rg : Int} (l : ((0 ≤ rd ∧ rd ≤ 12 ∨ rd = 14)) ∧ ((0 ≤ rn ∧ rn ≤ 12 ∨ rn = 14)) ∧ ((0 ≤ rm ∧ rm ≤ 12 ∨ rm = 14)) ∧ ((0 ≤ ra ∧ ra ≤ 12 ∨ ra = 14)) ∧ (im = 0) ∧ (kd = 0) ∧ (bs = 0) ∧ (st = 0) ∧ (cd = 0) ∧ (rg = 0)) : sumK (fl 30) [rd, rn, rm, ra, im, kd, bs, st, cd, rg] (fl 30).length = add 30 rd rn rm ra im kd bs st cd rg := by
  rw [fl_30, add_30]
  show ((((0 + bt rn 0 4 * pw 16) + bt ra 0 4 * pw 12) + bt rd 0 4 * pw 8) + bt rm 0 4 * pw 0) = _
  have h0 : bt rn 0 4 = rn % 16 := by
    show (if rn < 0 then rn + 1099511627776 else rn) / 1 % 16 = _
    split <;> omega
  have h1 : bt ra 0 4 = ra % 16 := by
    show (if ra < 0 then ra + 1099511627776 else ra) / 1 % 16 = _
    split <;> omega
  have h2 : bt rd 0 4 = rd % 16 := by
    show (if rd < 0 then rd + 1099511627776 else rd) / 1 % 16 = _
    split <;> omega
  have h3 : bt rm 0 4 = rm % 16 := by
    show (if rm < 0 then rm + 1099511627776 else rm) / 1 % 16 = _
    split <;> omega
  rw [h0, h1, h2, h3, show pw 0 = 1 from by decide, show pw 8 = 256 from by decide, show pw 12 = 4096 from by decide, show pw 16 = 65536 from by decide]
  clear h0 h1 h2 h3
  omega
theorem sum_31 {f rd rn rm ra im kd bs st cd rg : Int} (l : ((0 ≤ rd ∧ rd ≤ 12 ∨ rd = 14)) ∧ ((0 ≤ rn ∧ rn ≤ 12 ∨ rn = 14)) ∧ ((0 ≤ rm ∧ rm ≤ 12 ∨ rm = 14)) ∧ ((0 ≤ ra ∧ ra ≤ 12 ∨ ra = 14)) ∧ (im = 0) ∧ (kd = 0) ∧ (bs = 0) ∧ (st = 0) ∧ (cd = 0) ∧ (rg = 0)) : sumK (fl 31) [rd, rn, rm, ra, im, kd, bs, st, cd, rg] (fl 31).length = add 31 rd rn rm ra im kd bs st cd rg := by
  rw [fl_31, add_31]
  show ((((0 + bt rn 0 4 * pw 16) + bt rd 0 4 * pw 12) + bt ra 0 4 * pw 8) + bt rm 0 4 * pw 0) = _
  have h0 : bt rn 0 4 = rn % 16 := by
    show (if rn < 0 then rn + 1099511627776 else rn) / 1 % 16 = _
    split <;> omega
  have h1 : bt rd 0 4 = rd % 16 := by
    show (if rd < 0 then rd + 1099511627776 else rd) / 1 % 16 = _
    split <;> omega
  have h2 : bt ra 0 4 = ra % 16 := by
    show (if ra < 0 then ra + 1099511627776 else ra) / 1 % 16 = _
    split <;> omega
  have h3 : bt rm 0 4 = rm % 16 := by
    show (if rm < 0 then rm + 1099511627776 else rm) / 1 % 16 = _
    split <;> omega
  rw [h0, h1, h2, h3, show pw 0 = 1 from by decide, show pw 8 = 256 from by decide, show pw 12 = 4096 from by decide, show pw 16 = 65536 from by decide]
  clear h0 h1 h2 h3
  omega
theorem sum_32 {f rd rn rm ra im kd bs st cd rg : Int} (l : ((0 ≤ rd ∧ rd ≤ 12 ∨ rd = 14)) ∧ (rn = 0) ∧ ((0 ≤ rm ∧ rm ≤ 12 ∨ rm = 14)) ∧ (ra = 0) ∧ (im = 0) ∧ (kd = 0) ∧ (bs = 0) ∧ (st = 0) ∧ (cd = 0) ∧ (rg = 0)) : sumK (fl 32) [rd, rn, rm, ra, im, kd, bs, st, cd, rg] (fl 32).length = add 32 rd rn rm ra im kd bs st cd rg := by
  rw [fl_32, add_32]
  show (((0 + bt rm 0 4 * pw 16) + bt rd 0 4 * pw 8) + bt rm 0 4 * pw 0) = _
  have h0 : bt rm 0 4 = rm % 16 := by
    show (if rm < 0 then rm + 1099511627776 else rm) / 1 % 16 = _
    split <;> omega
  have h1 : bt rd 0 4 = rd % 16 := by
    show (if rd < 0 then rd + 1099511627776 else rd) / 1 % 16 = _
    split <;> omega
  have h2 : bt rm 0 4 = rm % 16 := by
    show (if rm < 0 then rm + 1099511627776 else rm) / 1 % 16 = _
    split <;> omega
  rw [h0, h1, show pw 0 = 1 from by decide, show pw 8 = 256 from by decide, show pw 16 = 65536 from by decide]
  clear h0 h1 h2
  omega
theorem sum_33 {f rd rn rm ra im kd bs st cd rg : Int} (l : (rd = 0) ∧ (rn = 0) ∧ (rm = 0) ∧ (ra = 0) ∧ (-1048576 ≤ im ∧ im ≤ 1048574 ∧ im % 2 = 0) ∧ (kd = 0) ∧ (bs = 0) ∧ (st = 0) ∧ (0 ≤ cd ∧ cd ≤ 13) ∧ (rg = 0)) : sumK (fl 33) [rd, rn, rm, ra, im, kd, bs, st, cd, rg] (fl 33).length = add 33 rd rn rm ra im kd bs st cd rg := by
  rw [fl_33, add_33]
  show ((((((0 + bt im 20 1 * pw 26) + bt cd 0 4 * pw 22) + bt im 12 6 * pw 16) + bt im 18 1 * pw 13) + bt im 19 1 * pw 11) + bt im 1 11 * pw 0) = _
  have h0 : bt im 20 1 = im / 1048576 % 2 := by
    show (if im < 0 then im + 1099511627776 else im) / 1048576 % 2 = _
    split <;> omega
  have h1 : bt cd 0 4 = cd % 16 := by
    show (if cd < 0 then cd + 1099511627776 else cd) / 1 % 16 = _
    split <;> omega
  have h2 : bt im 12 6 = im / 4096 % 64 := by
    show (if im < 0 then im + 1099511627776 else im) / 4096 % 64 = _
    split <;> omega
  have h3 : bt im 18 1 = im / 262144 % 2 := by
    show (if im < 0 then im + 1099511627776 else im) / 262144 % 2 = _
    split <;> omega
  have h4 : bt im 19 1 = im / 524288 % 2 := by
    show (if im < 0 then im + 1099511627776 else im) / 524288 % 2 = _
    split <;> omega
  have h5 : bt im 1 11 = im / 2 % 2048 := by
    show (if im < 0 then im + 1099511627776 else im) / 2 % 2048 = _
    split <;> omega
  rw [h0, h1, h2, h3, h4, h5, show pw 0 = 1 from by decide, show pw 11 = 2048 from by decide, show pw 13 = 8192 from by decide, show pw 16 = 65536 from by decide, show pw 22 = 4194304 from by decide, show pw 26 = 67108864 from by decide]
  clear h0 h1 h2 h3 h4 h5
  omega
theorem exp_34 (rd rn rm ra t kd bs st cd rg : Int) : sumK [[4, 24, 26, 1], [4, 12, 16, 10], [4, 23, 13, 1], [4, 22, 11, 1], [4, 1, 0, 11]] [rd, rn, rm, ra, t, kd, bs, st, cd, rg] 5 = (((((0 + bt t 24 1 * pw 26) + bt t 12 10 * pw 16) + bt t 23 1 * pw 13) + bt t 22 1 * pw 11) + bt t 1 11 * pw 0) := rfl
theorem sum_34 {f rd rn rm ra im kd bs st cd rg : Int} (l : (rd = 0) ∧ (rn = 0) ∧ (rm = 0) ∧ (ra = 0) ∧ (-16777216 ≤ im ∧ im ≤ 16777214 ∧ im % 2 = 0) ∧ (kd = 0) ∧ (bs = 0) ∧ (st = 0) ∧ (cd = 0) ∧ (rg = 0)) : sumK (fl 34) [rd, rn, rm, ra, tn (bt im 0 25), kd, bs, st, cd, rg] (fl 34).length = add 34 rd rn rm ra im kd bs st cd rg := by
  rw [fl_34, add_34]
  refine (exp_34 rd rn rm ra (tn (bt im 0 25)) kd bs st cd rg).trans ?_
  have bi : -16777216 ≤ im ∧ im ≤ 16777214 ∧ im % 2 = 0 := by omega
  clear l
  have h : bt im 0 25 = im % 33554432 := by
    show (if im < 0 then im + 1099511627776 else im) / 1 % 33554432 = _
    split <;> omega
  rw [h]
  have m24 : im % 33554432 / 16777216 % 2 = im / 16777216 % 2 := by omega
  have m23 : im % 33554432 / 8388608 % 2 = im / 8388608 % 2 := by omega
  have m22 : im % 33554432 / 4194304 % 2 = im / 4194304 % 2 := by omega
  have m12 : im % 33554432 / 4096 % 1024 = im / 4096 % 1024 := by omega
  have m1 : im % 33554432 / 2 % 2048 = im / 2 % 2048 := by omega
  obtain ⟨t0, t1, e24, e22, e23, e12, e1⟩ := tn_parts (im % 33554432) (by omega) (by omega)
  rw [m24] at e24
  rw [m22, m24] at e22
  rw [m23, m24] at e23
  rw [m12] at e12
  rw [m1] at e1
  have k0 : bt (tn (im % 33554432)) 24 1 = im / 16777216 % 2 := (bt_at _ t0 (by decide : pw 24 = 16777216) (by decide : pw 1 = 2)).trans e24
  have k1 : bt (tn (im % 33554432)) 12 10 = im / 4096 % 1024 := (bt_at _ t0 (by decide : pw 12 = 4096) (by decide : pw 10 = 1024)).trans e12
  have k2 : bt (tn (im % 33554432)) 23 1 = j1 im := (bt_at _ t0 (by decide : pw 23 = 8388608) (by decide : pw 1 = 2)).trans e23
  have k3 : bt (tn (im % 33554432)) 22 1 = j2 im := (bt_at _ t0 (by decide : pw 22 = 4194304) (by decide : pw 1 = 2)).trans e22
  have k4 : bt (tn (im % 33554432)) 1 11 = im / 2 % 2048 := (bt_at _ t0 (by decide : pw 1 = 2) (by decide : pw 11 = 2048)).trans e1
  rw [k0, k1, k2, k3, k4, show pw 26 = 67108864 from by decide, show pw 16 = 65536 from by decide, show pw 13 = 8192 from by decide, show pw 11 = 2048 from by decide, show pw 0 = 1 from by decide]
  clear k0 k1 k2 k3 k4 t0 t1 e24 e22 e23 e12 e1 h m24 m23 m22 m12 m1
  omega

/-- The fields as the document takes them: of a wide jump how far it goes is turned. -/
def gF (s rd rn rm ra im kd bs st cd rg : Int) : List Int := [rd, rn, rm, ra, if s = 34 then tn (bt im 0 25) else im, kd, bs, st, cd, rg]
theorem sum_all {f rd rn rm ra im kd bs st cd rg : Int} (h : right f rd rn rm ra im kd bs st cd rg = true) (g0 : -9223372036854775808 ≤ rg) (g1 : rg ≤ 9223372036854775807) : sumK (fl (shp f)) (gF (shp f) rd rn rm ra im kd bs st cd rg) (fl (shp f)).length = add (shp f) rd rn rm ra im kd bs st cd rg := by
  obtain ⟨⟨i0, i1⟩, h⟩ := at_own h g0 g1
  have hs := shp_yes (isF_yes ⟨i0, i1⟩)
  generalize shp f = s at *
  clear i0 i1 g0 g1
  obtain ⟨s0, s1, _⟩ := hs
  rcases (show s = 1 ∨ s = 2 ∨ s = 3 ∨ s = 4 ∨ s = 5 ∨ s = 6 ∨ s = 7 ∨ s = 8 ∨ s = 9 ∨ s = 10 ∨ s = 11 ∨ s = 12 ∨ 13 ≤ s by omega) with rfl | rfl | rfl | rfl | rfl | rfl | rfl | rfl | rfl | rfl | rfl | rfl | hk
  · exact sum_1 (f := f) (im := im) (lin_1 h)
  · exact sum_2 (f := f) (im := im) (lin_2 h)
  · exact sum_3 (f := f) (im := im) (lin_3 h)
  · exact sum_4 (f := f) (im := im) (lin_4 h)
  · exact sum_5 (f := f) (im := im) (lin_5 h)
  · exact sum_6 (f := f) (im := im) (lin_6 h)
  · exact sum_7 (f := f) (im := im) (lin_7 h)
  · exact sum_8 (f := f) (im := im) (lin_8 h)
  · exact sum_9 (f := f) (im := im) (lin_9 h)
  · exact sum_10 (f := f) (im := im) (lin_10 h)
  · exact sum_11 (f := f) (im := im) (lin_11 h)
  · exact sum_12 (f := f) (im := im) (lin_12 h)
  rcases (show s = 13 ∨ s = 14 ∨ s = 15 ∨ s = 16 ∨ s = 17 ∨ s = 18 ∨ s = 19 ∨ s = 20 ∨ s = 21 ∨ s = 22 ∨ s = 23 ∨ s = 24 ∨ 25 ≤ s by omega) with rfl | rfl | rfl | rfl | rfl | rfl | rfl | rfl | rfl | rfl | rfl | rfl | hk
  · exact sum_13 (f := f) (im := im) (lin_13 h)
  · exact sum_14 (f := f) (im := im) (lin_14 h)
  · exact sum_15 (f := f) (im := im) (lin_15 h)
  · exact sum_16 (f := f) (im := im) (lin_16 h)
  · exact sum_17 (f := f) (im := im) (lin_17 h)
  · exact sum_18 (f := f) (im := im) (lin_18 h)
  · exact sum_19 (f := f) (im := im) (lin_19 h)
  · exact sum_20 (f := f) (im := im) (lin_20 h)
  · exact sum_21 (f := f) (im := im) (lin_21 h)
  · exact sum_22 (f := f) (im := im) (lin_22 h)
  · exact sum_23 (f := f) (im := im) (lin_23 h)
  · exact sum_24 (f := f) (im := im) (lin_24 h)
  rcases (show s = 25 ∨ s = 26 ∨ s = 27 ∨ s = 28 ∨ s = 29 ∨ s = 30 ∨ s = 31 ∨ s = 32 ∨ s = 33 ∨ s = 34 by omega) with rfl | rfl | rfl | rfl | rfl | rfl | rfl | rfl | rfl | rfl
  · exact sum_25 (f := f) (im := im) (lin_25 h)
  · exact sum_26 (f := f) (im := im) (lin_26 h)
  · exact sum_27 (f := f) (im := im) (lin_27 h)
  · exact sum_28 (f := f) (im := im) (lin_28 h)
  · exact sum_29 (f := f) (im := im) (lin_29 h)
  · exact sum_30 (f := f) (im := im) (lin_30 h)
  · exact sum_31 (f := f) (im := im) (lin_31 h)
  · exact sum_32 (f := f) (im := im) (lin_32 h)
  · exact sum_33 (f := f) (im := im) (lin_33 h)
  · exact sum_34 (f := f) (im := im) (lin_34 h)

/-- A right instruction's word has its form's bits and its fields' apart. -/
theorem apart_add {f rd rn rm ra im kd bs st cd rg : Int} (h : right f rd rn rm ra im kd bs st cd rg = true) (g0 : -9223372036854775808 ≤ rg) (g1 : rg ≤ 9223372036854775807) :
    bits .or .u32 (bts f) (add (shp f) rd rn rm ra im kd bs st cd rg) = wd f rd rn rm ra im kd bs st cd rg ∧ bits .and .u32 (wd f rd rn rm ra im kd bs st cd rg) (bts f) = bts f ∧ bits .andNot .u32 (wd f rd rn rm ra im kd bs st cd rg) (bts f) = add (shp f) rd rn rm ra im kd bs st cd rg ∧ (0 ≤ wd f rd rn rm ra im kd bs st cd rg ∧ wd f rd rn rm ra im kd bs st cd rg < 4294967296) := by
  obtain ⟨⟨i0, i1⟩, _⟩ := at_own h g0 g1
  obtain ⟨_, a0, hb, hm⟩ := apart_of i0 i1
  have hi := in_sum a0 (gF (shp f) rd rn rm ra im kd bs st cd rg) (in_zero 0 (by decide)) (fl (shp f)).length (Nat.le_refl _)
  rw [Int.zero_add, sum_all h g0 g1] at hi
  rw [Nat.and_comm] at hm
  obtain ⟨j1, j2⟩ := in_join hb hi hm
  obtain ⟨k1, k2⟩ := in_less hb hi hm
  exact ⟨j1, k1, k2, j2.le⟩

end Go.Proofs.YtegefbndpkbooaaDoor.Code

