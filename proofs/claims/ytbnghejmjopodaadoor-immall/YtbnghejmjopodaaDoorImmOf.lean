/- What imm.Of, imm.Is, the document's Of and the statements' anchor answer: contracts. -/
import Derived.Test.YtbnghejmjopodaaDoorImmWalks
set_option linter.unusedVariables false
namespace Go.Proofs.YtbnghejmjopodaaDoor.Imm
open Go.RowKit Go.Proofs.YtbnghejmjopodaaDoor.Alu

theorem rep_yes {x u f : Int} (hf : fac u = f) (ha : x / f ≤ 255) (hb : (x / f * f == x) = true) : rep x u = true := by
  subst hf; unfold rep; rw [Bool.and_eq_true, decide_eq_true_eq, decide_eq_true_eq]; exact ⟨ha, by simpa using hb⟩
theorem rep_big {x u f : Int} (hf : fac u = f) (ha : ¬ x / f ≤ 255) : rep x u = false := by
  subst hf; unfold rep; rw [Bool.and_eq_false_iff]; exact .inl (by simpa using ha)
theorem rep_off {x u f : Int} (hf : fac u = f) (hb : (x / f * f == x) = false) : rep x u = false := by
  subst hf; unfold rep; rw [Bool.and_eq_false_iff]; exact .inr (by simpa using hb)
theorem or_none {x : Int} (h : ∀ u : Nat, u < 4 → rep x u = false) : orN x = 0 ∧ orB x = false := by
  have a := h 0 (by decide); have b := h 1 (by decide); have c := h 2 (by decide); have d := h 3 (by decide)
  unfold orN orB
  simp_all
theorem or_at {x : Int} (j : Nat) (hj : j < 4) (f : Int) (hf : fac j = f) (h : ∀ u : Nat, u < j → rep x u = false) (hy : rep x j = true) : orN x = (j : Int) * 256 + x / f ∧ orB x = true := by
  subst hf
  unfold orN orB
  match j, hj with
  | 0, _ => simp only [Int.natCast_zero] at *; simp_all
  | 1, _ =>
    have a := h 0 (by decide)
    simp only [Int.natCast_zero, Int.natCast_one] at *; simp_all
  | 2, _ =>
    have a := h 0 (by decide); have b := h 1 (by decide)
    simp only [Int.natCast_zero, Int.natCast_one] at *; simp_all
  | 3, _ =>
    have a := h 0 (by decide); have b := h 1 (by decide); have c := h 2 (by decide)
    simp only [Int.natCast_zero, Int.natCast_one] at *; simp_all
theorem more {x : Int} {j : Nat} (h : ∀ u : Nat, u < j → rep x u = false) (hj : rep x j = false) : ∀ u : Nat, u < j + 1 → rep x u = false := by
  intro u hu
  rcases Nat.lt_succ_iff_lt_or_eq.1 hu with h' | rfl
  · exact h u h'
  · exact hj

theorem ofRepeated_any (x : Int) (h0 : 0 ≤ x) (h1 : x < 4294967296) (w : World) (hF : Fac w) :
    Calls Tryd.prog 20 #[.int .u32 x] w fun e w' => e = .returned (.tuple #[.int .i64 (orN x), .bool (orB x)]) ∧ w' = w := by
  obtain ⟨c0, c1, c2, c3⟩ := hF
  have i0 : ∀ w, (Instr.index 44 (.agg #[.int .u32 1, .int .u32 65537, .int .u32 16777472, .int .u32 16843009]) (.int .i64 0)).run Tryd.prog w = .ok (.int .u32 1) w := fun _ => by kernel_rfl
  have i1 : ∀ w, (Instr.index 44 (.agg #[.int .u32 1, .int .u32 65537, .int .u32 16777472, .int .u32 16843009]) (.int .i64 1)).run Tryd.prog w = .ok (.int .u32 65537) w := fun _ => by kernel_rfl
  have i2 : ∀ w, (Instr.index 44 (.agg #[.int .u32 1, .int .u32 65537, .int .u32 16777472, .int .u32 16843009]) (.int .i64 2)).run Tryd.prog w = .ok (.int .u32 16777472) w := fun _ => by kernel_rfl
  have i3 : ∀ w, (Instr.index 44 (.agg #[.int .u32 1, .int .u32 65537, .int .u32 16777472, .int .u32 16843009]) (.int .i64 3)).run Tryd.prog w = .ok (.int .u32 16843009) w := fun _ => by kernel_rfl
  go_enter Tryd.func20, Tryd.ntmps20
  go_wp2_with fail
  go_loop [8] (fun i => ∃ j : Nat, j ≤ 4 ∧ i = .int .i64 j ∧ Hid (∀ u : Nat, u < j → rep x u = false)) (fun i => 4 - (intOf i).toNat)
  case atStart => exact ⟨0, by omega, rfl, fun u hu => by omega⟩
  case round =>
    obtain ⟨j, hj, rfl, hno⟩ := hrel
    obtain rfl | rfl | rfl | rfl | rfl : j = 0 ∨ j = 1 ∨ j = 2 ∨ j = 3 ∨ j = 4 := by omega
    · by_cases ha : x ≤ 255
      · have hor : bits .or .i64 0 x = 0 + x := i64_join 8 0 x (by omega) (by omega) (by omega) (by omega) (by decide) (by omega)
        have HR : Hid (orN x = _ ∧ orB x = true) := or_at 0 (by decide) 1 rfl hno.out (rep_yes (f := 1) (by rfl) (by omega) (by rw [beq_iff_eq]; omega))
        go_wp2_with fail
        go_ret2
        exact ⟨ret_ib (by rw [HR.out.1]; simp) HR.out.2.symm, rfl⟩
      · have HR : Hid (rep x 0 = false) := rep_big (f := 1) (by rfl) (by omega)
        go_wp2_with fail
        go_round
        case rel => exact ⟨0 + 1, by omega, rfl, more (j := 0) hno HR.out⟩
        case measure => simp [intOf]
    · have hm : 0 ≤ x / 65537 * 65537 ∧ x / 65537 * 65537 < 4294967296 := by omega
      have hq : 0 ≤ x / 65537 := by omega
      by_cases ha : x / 65537 ≤ 255
      · cases hb : x / 65537 * 65537 == x
        · have HR : Hid (rep x 1 = false) := rep_off (by rfl) hb
          go_wp2_with fail
          go_round
          case rel => exact ⟨1 + 1, by omega, rfl, more (j := 1) hno HR.out⟩
          case measure => simp [intOf]
        · have hor : bits .or .i64 256 (x / 65537) = 256 + x / 65537 := i64_join 8 256 (x / 65537) (by omega) (by omega) (by omega) (by omega) (by decide) (by omega)
          have HR : Hid (orN x = _ ∧ orB x = true) := or_at 1 (by decide) 65537 rfl hno.out (rep_yes (by rfl) ha hb)
          go_wp2_with fail
          go_ret2
          exact ⟨ret_ib (by rw [HR.out.1]; simp) HR.out.2.symm, rfl⟩
      · have HR : Hid (rep x 1 = false) := rep_big (by rfl) ha
        go_wp2_with fail
        go_round
        case rel => exact ⟨1 + 1, by omega, rfl, more (j := 1) hno HR.out⟩
        case measure => simp [intOf]
    · have hm : 0 ≤ x / 16777472 * 16777472 ∧ x / 16777472 * 16777472 < 4294967296 := by omega
      have hq : 0 ≤ x / 16777472 := by omega
      by_cases ha : x / 16777472 ≤ 255
      · cases hb : x / 16777472 * 16777472 == x
        · have HR : Hid (rep x 2 = false) := rep_off (by rfl) hb
          go_wp2_with fail
          go_round
          case rel => exact ⟨2 + 1, by omega, rfl, more (j := 2) hno HR.out⟩
          case measure => simp [intOf]
        · have hor : bits .or .i64 512 (x / 16777472) = 512 + x / 16777472 := i64_join 8 512 (x / 16777472) (by omega) (by omega) (by omega) (by omega) (by decide) (by omega)
          have HR : Hid (orN x = _ ∧ orB x = true) := or_at 2 (by decide) 16777472 rfl hno.out (rep_yes (by rfl) ha hb)
          go_wp2_with fail
          go_ret2
          exact ⟨ret_ib (by rw [HR.out.1]; simp) HR.out.2.symm, rfl⟩
      · exact absurd (show x / 16777472 ≤ 255 by omega) ha
    · have hm : 0 ≤ x / 16843009 * 16843009 ∧ x / 16843009 * 16843009 < 4294967296 := by omega
      have hq : 0 ≤ x / 16843009 := by omega
      by_cases ha : x / 16843009 ≤ 255
      · cases hb : x / 16843009 * 16843009 == x
        · have HR : Hid (rep x 3 = false) := rep_off (by rfl) hb
          go_wp2_with fail
          go_round
          case rel => exact ⟨3 + 1, by omega, rfl, more (j := 3) hno HR.out⟩
          case measure => simp [intOf]
        · have hor : bits .or .i64 768 (x / 16843009) = 768 + x / 16843009 := i64_join 8 768 (x / 16843009) (by omega) (by omega) (by omega) (by omega) (by decide) (by omega)
          have HR : Hid (orN x = _ ∧ orB x = true) := or_at 3 (by decide) 16843009 rfl hno.out (rep_yes (by rfl) ha hb)
          go_wp2_with fail
          go_ret2
          exact ⟨ret_ib (by rw [HR.out.1]; simp) HR.out.2.symm, rfl⟩
      · exact absurd (show x / 16843009 ≤ 255 by omega) ha
    · have HR := hide (or_none hno.out)
      go_wp2_with fail
      go_ret2
      exact ⟨ret_ib HR.out.1.symm HR.out.2.symm, rfl⟩

theorem ofTurned_none (x : Int) (h0 : 0 ≤ x) (h1 : x < 4294967296) (hu : bitLen x.toNat ≤ 8) (w : World) :
    Calls Tryd.prog 21 #[.int .u32 x] w fun e w' => e = .returned (.tuple #[.int .i64 0, .bool false]) ∧ w' = w := by
  go_enter Tryd.func21, Tryd.ntmps21
  go_wp2_with fail
  refine (Len_any _ h0 h1 _).mono ?_
  rintro e w' ⟨rfl, rfl⟩
  have hL : 0 ≤ ((bitLen x.toNat : Nat) : Int) ∧ ((bitLen x.toNat : Nat) : Int) ≤ 8 := by omega
  generalize ((bitLen x.toNat : Nat) : Int) = L at *
  go_wp2_with fail
  go_ret2
  exact ⟨rfl, rfl⟩

theorem ofTurned_some (x : Int) (k : Nat) (h0 : 0 ≤ x) (h1 : x < 4294967296) (hk : bitLen x.toNat = k + 8) (hk0 : 0 < k) (w : World) :
    Calls Tryd.prog 21 #[.int .u32 x] w fun e w' => e = .returned (.tuple #[.int .i64 (otN x), .bool (otB x)]) ∧ w' = w := by
  have hup : up x = k := by unfold up; omega
  have hb := up_bd x h0 h1 (by omega)
  rw [hup] at hb
  go_enter Tryd.func21, Tryd.ntmps21
  go_wp2_with fail
  refine (Len_any _ h0 h1 _).mono ?_
  rintro e w' ⟨rfl, rfl⟩
  rw [hk]
  have hpp : (0 : Int) < 2 ^ k := Int.pow_pos (by decide)
  have hle : x / 2 ^ k * 2 ^ k ≤ x := Int.ediv_mul_le x (by omega)
  have hge : 0 ≤ x / 2 ^ k * 2 ^ k := Int.mul_nonneg (by omega) (by omega)
  have hmod : x / 2 ^ k * 2 ^ k % 4294967296 = x / 2 ^ k * 2 ^ k := Int.emod_eq_of_lt hge (by omega)
  have hA : bits .and .u32 (x / 2 ^ k) 127 = x / 2 ^ k % 128 := u32_mask 7 _ 127 (by omega) (by omega) (by decide) (by decide)
  have hO : bits .or .i64 ((32 - (k : Int)) * 128) (x / 2 ^ k % 128) = (32 - (k : Int)) * 128 + x / 2 ^ k % 128 := i64_join 7 _ _ (by omega) (by omega) (by omega) (by omega) (by omega) (by omega)
  have HN : Hid (otB x = decide (x / 2 ^ k * 2 ^ k = x) ∧ otN x = if otB x then (32 - (k : Int)) * 128 + x / 2 ^ k % 128 else 0) := by
    constructor
    · unfold otB; rw [hup]; simp [hk0]
    · unfold otN; rw [hup]
  cases ht : x / 2 ^ k * 2 ^ k != x
  · go_wp2_with fail
    go_ret2
    have hB : otB x = true := by rw [HN.out.1]; simpa using ht
    exact ⟨ret_ib (by rw [HN.out.2, if_pos hB]) hB.symm, rfl⟩
  · go_wp2_with fail
    go_ret2
    have hB : otB x = false := by rw [HN.out.1]; simpa using ht
    exact ⟨ret_ib (by rw [HN.out.2, hB]; rfl) hB.symm, rfl⟩

theorem ofTurned_any (x : Int) (h0 : 0 ≤ x) (h1 : x < 4294967296) (w : World) :
    Calls Tryd.prog 21 #[.int .u32 x] w fun e w' => e = .returned (.tuple #[.int .i64 (otN x), .bool (otB x)]) ∧ w' = w := by
  by_cases h : bitLen x.toNat ≤ 8
  · have hB : otB x = false := by unfold otB up; simp [h]
    have hN : otN x = 0 := by unfold otN; rw [hB]; rfl
    rw [hB, hN]
    exact ofTurned_none x h0 h1 h w
  · exact ofTurned_some x (bitLen x.toNat - 8) h0 h1 (by omega) (by omega) w

theorem ret_ii {k l : IntKind} {a b c d : Int} (h : a = b) (g : c = d) : Ending.returned (.tuple #[.int k a, .int l c]) = .returned (.tuple #[.int k b, .int l d]) := by rw [h, g]

theorem Of_any (x : Int) (h0 : 0 ≤ x) (h1 : x < 4294967296) (w : World) (hF : Fac w) :
    Calls Tryd.prog 13 #[.int .u32 x] w fun e w' => e = .returned (.tuple #[.int .i64 (ofN x), .int .i64 (ofE x)]) ∧ w' = w := by
  have HN : Hid (ofN x = if orB x then orN x else otN x) := rfl
  have HE : Hid (ofE x = if orB x || otB x then 0 else 20) := rfl
  have HT : Hid (otB x = false → otN x = 0) := fun h => by unfold otN; rw [h]; rfl
  go_enter Tryd.func13, Tryd.ntmps13
  go_wp2_with fail
  refine (ofRepeated_any _ h0 h1 _ hF).mono ?_
  rintro e w' ⟨rfl, rfl⟩
  cases hr : orB x
  · go_wp2_with fail
    refine (ofTurned_any _ h0 h1 _).mono ?_
    rintro e w' ⟨rfl, rfl⟩
    cases ht : otB x
    · go_wp2_with fail
      go_ret2
      exact ⟨ret_ii (by rw [HN.out, hr]; exact (HT.out ht).symm) (by rw [HE.out, hr, ht]; rfl), rfl⟩
    · go_wp2_with fail
      go_ret2
      exact ⟨ret_ii (by rw [HN.out, hr]; rfl) (by rw [HE.out, hr, ht]; rfl), rfl⟩
  · go_wp2_with fail
    go_ret2
    exact ⟨ret_ii (by rw [HN.out, hr]; rfl) (by rw [HE.out, hr]; rfl), rfl⟩

theorem Is_any (x : Int) (h0 : 0 ≤ x) (h1 : x < 4294967296) (w : World) (hF : Fac w) :
    Calls Tryd.prog 15 #[.int .u32 x] w fun e w' => e = .returned (.bool (ofE x == 0)) ∧ w' = w := by
  go_enter Tryd.func15, Tryd.ntmps15
  go_wp2_with fail
  refine (Of_any _ h0 h1 _ hF).mono ?_
  rintro e w' ⟨rfl, rfl⟩
  go_wp2_with fail
  go_ret
  exact ⟨rfl, rfl⟩

/-- The first number whose word x is; -1: there is none. -/
def refOf (x : Int) : Int := if ofE x = 0 then ofN x else -1

set_option maxRecDepth 100000 in
theorem refOf_any (x : Int) (h0 : 0 ≤ x) (h1 : x < 4294967296) (w : World) :
    Calls Tryd.prog 14 #[.int .u32 x] w fun e w' => e = .returned (.int .i64 (refOf x)) ∧ w' = w := by
  go_enter Tryd.func14, Tryd.ntmps14
  go_wp2_with fail
  go_loop [3] (fun i => ∃ j : Nat, j ≤ 4096 ∧ i = .int .i64 j ∧ Hid (∀ m : Nat, m < j → has m = true → wd m ≠ x)) (fun i => 4096 - (intOf i).toNat)
  case atStart => exact ⟨0, by omega, rfl, fun u hu => by omega⟩
  case round =>
    obtain ⟨j, hj, rfl, hno⟩ := hrel
    by_cases hlt : j < 4096
    · go_wp2_with fail
      refine (refWord_any (j : Int) (by omega) (by omega) _).mono ?_
      rintro e w' ⟨rfl, rfl⟩
      cases hh : has (j : Int)
      · go_wp2_with fail
        go_round
        case rel =>
          refine ⟨j + 1, by omega, rfl, fun m hm hy => ?_⟩
          rcases Nat.lt_succ_iff_lt_or_eq.1 hm with h' | rfl
          · exact hno.out m h' hy
          · rw [hh] at hy; cases hy
        case measure => simp [intOf]; omega
      · have hw : wdA (j : Int) = wd j := by unfold wdA; rw [er_of (by omega) (by omega) hh]; rfl
        rw [hw]
        cases he : x == wd (j : Int)
        · go_wp2_with fail
          go_round
          case rel =>
            refine ⟨j + 1, by omega, rfl, fun m hm hy => ?_⟩
            rcases Nat.lt_succ_iff_lt_or_eq.1 hm with h' | rfl
            · exact hno.out m h' hy
            · intro e; rw [e] at he; simp at he
          case measure => simp [intOf]; omega
        · have HR : Hid (refOf x = j) := by
            have e : wd (j : Int) = x := by rw [beq_iff_eq] at he; exact he.symm
            have := found_is (j : Int) (by omega) (by omega) hh e
            unfold refOf; rw [if_pos this.2]; exact this.1
          go_wp2_with fail
          go_ret
          exact ⟨ret_int HR.out.symm, rfl⟩
    · have HR : Hid (refOf x = -1) := by
        rcases ofE_cases x with h | h
        · obtain ⟨a, b, c, d⟩ := found h0 h1 h
          have := hno.out (ofN x).toNat (by omega)
          rw [Int.toNat_of_nonneg a] at this
          exact absurd d (this c)
        · exact hide (by unfold refOf; rw [if_neg (by omega)])
      go_wp2_with fail
      go_ret
      exact ⟨ret_int HR.out.symm, rfl⟩

set_option maxRecDepth 100000 in
theorem anchor_any (w : World) (hF : Fac w) :
    Calls Tryd.prog 9 #[] w fun e w' => e = .returned (.bool true) ∧ w' = w := by
  have a1 : wdA 427 = 11206827 := by decide +kernel
  have a2 : er 427 = 0 := by decide +kernel
  have b1 : wdA 1024 = 2147483648 := by decide +kernel
  have b2 : er 1024 = 0 := by decide +kernel
  have d1 : ofN 260 = 3970 := by decide +kernel
  have d2 : ofE 260 = 0 := by decide +kernel
  go_enter Tryd.func9, Tryd.ntmps9
  go_wp2_with fail
  refine (Word_any _ _ hF).mono ?_
  rintro e w' ⟨rfl, rfl⟩
  go_wp2_with fail
  refine (Word_any _ _ hF).mono ?_
  rintro e w' ⟨rfl, rfl⟩
  go_wp2_with fail
  refine (Of_any _ (by omega) (by omega) _ hF).mono ?_
  rintro e w' ⟨rfl, rfl⟩
  go_wp2_with fail
  go_ret
  exact ⟨rfl, rfl⟩

end Go.Proofs.YtbnghejmjopodaaDoor.Imm
