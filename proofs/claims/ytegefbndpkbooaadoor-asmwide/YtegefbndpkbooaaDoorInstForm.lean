/- What the functions of a form answer: contracts. -/
import Derived.Test.YtegefbndpkbooaaDoorInstWalks
set_option linter.unusedVariables false
namespace Go.Proofs.YtegefbndpkbooaaDoor.Inst
open Go.RowKit Go.Proofs.YtegefbndpkbooaaDoor.Alu Go.Proofs.YtegefbndpkbooaaDoor.Imm

def wdF (f : Int) : Bool := decide (48 ≤ f ∧ f ≤ 100)
def siz (f : Int) : Int := if isF f then (if wdF f then 4 else 2) else 0
def brc (f : Int) : Bool := decide (f = 46 ∨ f = 47 ∨ f = 99 ∨ f = 100 ∨ f = 31)

theorem Wide_any (f : Int) (w : World) :
    Calls Tryd.prog 37 #[.int .i64 f] w fun e w' => e = .returned (.bool (wdF f)) ∧ w' = w := by
  have HI : Hid (isF f = decide (1 ≤ f ∧ f ≤ 100)) := rfl
  cases h : isF f
  · have hb : Hid (¬ (1 ≤ f ∧ f ≤ 100)) := by intro hh; rw [isF_yes hh] at h; cases h
    go_enter Tryd.func37, Tryd.ntmps37
    go_wp2_with (go_at_call 36; refine (Is_any _ _).mono ?_; rintro e w' ⟨rfl, rfl⟩)
    go_ret
    exact ⟨ret_bool (by unfold wdF; rw [eq_comm, decide_eq_false_iff_not]; have := hb.out; omega), rfl⟩
  · have hb := isF_iff.1 h
    go_enter Tryd.func37, Tryd.ntmps37
    go_wp2_with (go_at_call 36; refine (Is_any _ _).mono ?_; rintro e w' ⟨rfl, rfl⟩)
    go_ret
    exact ⟨ret_bool (by unfold wdF; rw [Bool.eq_iff_iff, decide_eq_true_eq, decide_eq_true_eq]; omega), rfl⟩

theorem Size_any (f : Int) (w : World) :
    Calls Tryd.prog 26 #[.int .i64 f] w fun e w' => e = .returned (.int .i64 (siz f)) ∧ w' = w := by
  have HS : Hid (siz f = if isF f then (if wdF f then 4 else 2) else 0) := rfl
  cases h : isF f
  · go_enter Tryd.func26, Tryd.ntmps26
    go_wp2_with (first | (go_at_call 36; refine (Is_any _ _).mono ?_; rintro e w' ⟨rfl, rfl⟩) | (go_at_call 37; refine (Wide_any _ _).mono ?_; rintro e w' ⟨rfl, rfl⟩))
    go_ret
    exact ⟨ret_int (by rw [HS.out, h]; rfl), rfl⟩
  · cases h2 : wdF f
    all_goals
      go_enter Tryd.func26, Tryd.ntmps26
      go_wp2_with (first | (go_at_call 36; refine (Is_any _ _).mono ?_; rintro e w' ⟨rfl, rfl⟩) | (go_at_call 37; refine (Wide_any _ _).mono ?_; rintro e w' ⟨rfl, rfl⟩))
      go_ret
      exact ⟨ret_int (by rw [HS.out, h, h2]; rfl), rfl⟩

theorem Bytes_any (f rd rn rm ra im kd bs st cd rg : Int) (w : World) :
    Calls Tryd.prog 11 #[.agg #[.int .i64 f, .int .i64 rd, .int .i64 rn, .int .i64 rm, .int .i64 ra, .int .i64 im, .int .i64 kd, .int .i64 bs, .int .i64 st, .int .i64 cd, .int .i64 rg]] w fun e w' => e = .returned (.int .i64 (siz f)) ∧ Below w.heap.size w w' := by
  go_enter Tryd.func11, Tryd.ntmps11
  go_wp2_with (go_at_call 26; refine (Size_any _ _).mono ?_; rintro e w' ⟨rfl, rfl⟩)
  go_ret
  exact ⟨rfl, (Below.refl _ _).alloc (Nat.le_refl _) _⟩

theorem Branch_any (f rd rn rm ra im kd bs st cd rg : Int) (w : World) :
    Calls Tryd.prog 12 #[.agg #[.int .i64 f, .int .i64 rd, .int .i64 rn, .int .i64 rm, .int .i64 ra, .int .i64 im, .int .i64 kd, .int .i64 bs, .int .i64 st, .int .i64 cd, .int .i64 rg]] w fun e w' => e = .returned (.bool (brc f)) ∧ Below w.heap.size w w' := by
  go_enter Tryd.func12, Tryd.ntmps12
  go_wp2_with fail
  all_goals
    go_ret
    exact ⟨ret_bool (by go_light; rw [Bool.eq_iff_iff]; simp_all [brc]), (Below.refl _ _).alloc (Nat.le_refl _) _⟩

/-- The table of bits lies in its block. -/
def Bts (w : World) : Prop := ∀ i : Nat, i ≤ 100 → w.cell? ⟨0, i, none⟩ = some (.int .u32 (bitL.getD i 0))

theorem Bits_any (f : Int) (w : World) (hS : Bts w) :
    Calls Tryd.prog 38 #[.int .i64 f] w fun e w' => e = .returned (.int .u32 (bts f)) ∧ w' = w := by
  have HE : Hid (bts f = if isF f then bitL.getD f.toNat 0 else 0) := rfl
  cases h : isF f
  · go_enter Tryd.func38, Tryd.ntmps38
    go_wp2_with (go_at_call 36; refine (Is_any _ _).mono ?_; rintro e w' ⟨rfl, rfl⟩)
    go_ret
    exact ⟨ret_int (by rw [HE.out, h]; rfl), rfl⟩
  · have hb := isF_iff.1 h
    have hc := hS f.toNat (by omega)
    have HE2 : Hid (bts f = bitL.getD f.toNat 0) := by rw [HE.out, if_pos h]; exact rfl
    clear HE
    generalize bitL.getD f.toNat 0 = s at *
    go_enter Tryd.func38, Tryd.ntmps38
    go_wp2_with (go_at_call 36; refine (Is_any _ _).mono ?_; rintro e w' ⟨rfl, rfl⟩)
    go_ret
    exact ⟨ret_int HE2.out.symm, rfl⟩

end Go.Proofs.YtegefbndpkbooaaDoor.Inst

