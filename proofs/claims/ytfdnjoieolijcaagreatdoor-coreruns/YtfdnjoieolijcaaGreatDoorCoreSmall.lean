import Derived.Test.YtfdnjoieolijcaaGreatDoorCoreBase
import Derived.Deep.QuietTactic
import Derived.BigQuiet
import Derived.BigRegion
import Derived.Deep.Light
set_option linter.unusedVariables false
namespace Go.Proofs.YtfdnjoieolijcaaGreatDoor.Core
open Go.RowKit Go.Proofs.YtfdnjoieolijcaaGreatDoor.Mem Go.Proofs.YtfdnjoieolijcaaGreatDoor.Alu

theorem asBitC_any (c : Int) (w : World) :
    Calls Tryz.prog 71 #[.int .u32 c] w fun e w' => e = .returned (.int .u32 (b01 c)) ∧ w' = w := by
  go_enter Tryz.func71, Tryz.ntmps71
  go_wp2
  all_goals
    go_ret
    exact ⟨ret_int (by simp_all [b01]), rfl⟩

/-- Rd as it is set: of the stack's address the low two bits are noughts. -/
def putV (rd x : Int) : Int := if rd = 13 then bits .andNot .u32 x 3 else x
def Wo.put (W : Wo) (x : Int) : Wo := W.reg W.i.rd.toNat (putV W.i.rd x)

theorem put_any {w : World} {B : Nat} {W : Wo} (h : Wk w B W) (h0 : 0 ≤ W.i.rd) (h1 : W.i.rd < 16) (x : Int) :
    Calls Tryz.prog 154 #[.pointer (some ⟨B, 0, none⟩), .int .u32 x] w fun e w' => e = .returned (.tuple #[]) ∧ Wk w' B (W.put x) ∧ Off [B] w w' := by
  have crd := h.crd
  obtain ⟨k, hk⟩ := Int.eq_ofNat_of_zero_le h0
  have eW : W.put x = W.reg k (putV k x) := by unfold Wo.put; rw [hk]; rfl
  rw [hk] at crd
  rw [eW]
  have c1 := h.reg k (by omega)
  have f1 := h.free k
  have hk' : (k : Int) < 16 := by omega
  by_cases h13 : k = 13
  · subst h13
    go_enter Tryz.func154, Tryz.ntmps154
    go_wp2_with fail
    go_region
    go_end0
    exact ⟨rfl, h.drew.putR 13 (by decide) _, (Off.refl _ _).drew.set (by simp) _⟩
  · have h13' : ¬ (k : Int) = 13 := by omega
    have eP : putV k x = x := by unfold putV; rw [if_neg h13']
    rw [eP]
    go_enter Tryz.func154, Tryz.ntmps154
    go_wp2_with fail
    go_region
    go_end0
    exact ⟨rfl, h.drew.putR k (by omega) _, (Off.refl _ _).drew.set (by simp) _⟩

/-- Flags that tell of a word. -/
def sgnS (s : St) (x : Int) : St := { s with n := bit x 31, z := 1 - b01 x }
def Wo.sgn (W : Wo) (x : Int) : Wo := { W with s := sgnS W.s x }

theorem signs_any {w : World} {B : Nat} {W : Wo} (h : Wk w B W) (x : Int) (hx : 0 ≤ x ∧ x < 4294967296) :
    Calls Tryz.prog 194 #[.pointer (some ⟨B, 0, none⟩), .int .u32 x] w fun e w' => e = .returned (.tuple #[]) ∧ Wk w' B (W.sgn x) ∧ Off [B] w w' := by
  have c1 := h.cn
  have c2 := h.cz
  have f1 := h.free 16
  have f2 := h.free 17
  have hb : 0 ≤ b01 x ∧ b01 x ≤ 1 := by unfold b01; split <;> omega
  go_enter Tryz.func194, Tryz.ntmps194
  go_wp2_with (first | (go_at_call 189; refine (Bit_any _ _ hx.1 hx.2 _).mono ?_; rintro e w' ⟨rfl, rfl⟩) | (go_at_call 71; refine (asBitC_any _ _).mono ?_; rintro e w' ⟨rfl, rfl⟩))
  go_end0
  exact ⟨rfl, (h.putN _).putZ _, ((Off.refl _ _).set (by simp) _).set (by simp) _⟩

/-- The first operand. -/
def fstV (W : Wo) : Int := if Inst.shp W.i.f = 4 ∨ Inst.shp W.i.f = 5 ∨ Inst.shp W.i.f = 6 ∨ Inst.shp W.i.f = 19 ∨ Inst.shp W.i.f = 22 then W.s.R W.i.rd.toNat else W.s.R W.i.rn.toNat

theorem first_any {w : World} {B : Nat} {W : Wo} (h : Wk w B W) (hS : Inst.Shs w) (h0 : 0 ≤ W.i.rd ∧ W.i.rd < 16) (h1 : 0 ≤ W.i.rn ∧ W.i.rn < 16) :
    Calls Tryz.prog 190 #[.pointer (some ⟨B, 0, none⟩)] w fun e w' => e = .returned (.int .u32 (fstV W)) ∧ ∃ m, w' = w.drewN m := by
  have crd := h.crd
  have crn := h.crn
  have cf := h.cf
  obtain ⟨k, hk⟩ := Int.eq_ofNat_of_zero_le h0.1
  obtain ⟨j, hj⟩ := Int.eq_ofNat_of_zero_le h1.1
  have HF : Hid (fstV W = if Inst.shp W.i.f = 4 ∨ Inst.shp W.i.f = 5 ∨ Inst.shp W.i.f = 6 ∨ Inst.shp W.i.f = 19 ∨ Inst.shp W.i.f = 22 then W.s.R k else W.s.R j) := by unfold Hid fstV; rw [hk, hj]; rfl
  rw [hk] at crd
  rw [hj] at crn
  have hk' : (k : Int) < 16 := by omega
  have hj' : (j : Int) < 16 := by omega
  have c1 := h.reg k (by omega)
  have c2 := h.reg j (by omega)
  go_enter Tryz.func190, Tryz.ntmps190
  go_wp2_with (first | (go_at_call 179; refine (Inst.Shape_any _ _ hS).mono ?_; rintro e w' ⟨rfl, rfl⟩))
  all_goals
    go_quiet (fail)
    go_wp2_with fail
    go_ret
    exact ⟨ret_int (by rw [HF.out]; go_light; simp_all), _, rfl⟩

/-- Are flags set? -/
def setsB (W : Wo) : Bool :=
  if Inst.shp W.i.f = 18 ∨ Inst.shp W.i.f = 19 ∨ Inst.shp W.i.f = 21 ∨ Inst.shp W.i.f = 22 ∨ Inst.shp W.i.f = 27 then W.i.st == 1
  else if Inst.shp W.i.f = 6 then W.i.f == 29 else if Inst.shp W.i.f = 24 then false else true

theorem sets_any {w : World} {B : Nat} {W : Wo} (h : Wk w B W) (hS : Inst.Shs w) :
    Calls Tryz.prog 193 #[.pointer (some ⟨B, 0, none⟩)] w fun e w' => e = .returned (.bool (setsB W)) ∧ w' = w := by
  have cst := h.cst
  have cf := h.cf
  go_enter Tryz.func193, Tryz.ntmps193
  go_wp2_with (first | (go_at_call 179; refine (Inst.Shape_any _ _ hS).mono ?_; rintro e w' ⟨rfl, rfl⟩))
  all_goals
    go_ret
    exact ⟨by go_light; simp_all [setsB], rfl⟩

/-- Does what comes of it stay in Rd? -/
def keepB (W : Wo) : Bool :=
  if Inst.shp W.i.f = 20 ∨ Inst.shp W.i.f = 23 then false else if W.i.f = 9 ∨ W.i.f = 22 ∨ W.i.f = 29 ∨ W.i.f = 23 ∨ W.i.f = 20 then false else true

theorem keeps_any {w : World} {B : Nat} {W : Wo} (h : Wk w B W) (hS : Inst.Shs w) :
    Calls Tryz.prog 197 #[.pointer (some ⟨B, 0, none⟩)] w fun e w' => e = .returned (.bool (keepB W)) ∧ w' = w := by
  have cf := h.cf
  go_enter Tryz.func197, Tryz.ntmps197
  go_wp2_with (first | (go_at_call 179; refine (Inst.Shape_any _ _ hS).mono ?_; rintro e w' ⟨rfl, rfl⟩))
  all_goals
    go_ret
    exact ⟨by go_light; simp_all [keepB], rfl⟩

/-- Which shift. -/
def skd (f : Int) : Int := if f = 1 ∨ f = 14 ∨ f = 88 then 0 else if f = 2 ∨ f = 15 ∨ f = 89 then 1 else if f = 3 ∨ f = 16 ∨ f = 90 then 2 else 3

theorem shiftKind_any (f : Int) (w : World) :
    Calls Tryz.prog 192 #[.int .i64 f] w fun e w' => e = .returned (.int .i64 (skd f)) ∧ w' = w := by
  go_enter Tryz.func192, Tryz.ntmps192
  go_wp2
  all_goals
    go_ret
    exact ⟨ret_int (by go_light; simp_all [skd]), rfl⟩

/-- What goes bit by bit. -/
def cmbV (f x y : Int) : Int :=
  if f = 12 ∨ f = 50 ∨ f = 66 ∨ f = 20 ∨ f = 62 ∨ f = 78 then bits .and .u32 x y else if f = 24 ∨ f = 52 ∨ f = 68 then bits .or .u32 x y
  else if f = 13 ∨ f = 54 ∨ f = 70 ∨ f = 63 ∨ f = 79 then bits .xor .u32 x y else if f = 26 ∨ f = 51 ∨ f = 67 then bits .andNot .u32 x y
  else if f = 53 ∨ f = 69 then bits .or .u32 x (4294967295 - y) else if f = 27 ∨ f = 61 ∨ f = 77 then 4294967295 - y else y

theorem combined_any (f x y : Int) (hy : 0 ≤ y ∧ y < 4294967296) (w : World) :
    Calls Tryz.prog 196 #[.int .i64 f, .int .u32 x, .int .u32 y] w fun e w' => e = .returned (.int .u32 (cmbV f x y)) ∧ w' = w := by
  have HN : Hid (bits .xor .u32 IntKind.u32.max y = 4294967295 - y) := by have := not32 y hy.1 (by omega); exact this
  go_enter Tryz.func196, Tryz.ntmps196
  go_wp2
  all_goals
    go_ret
    exact ⟨ret_int (by go_light; simp_all [cmbV, HN.out]), rfl⟩

end Go.Proofs.YtfdnjoieolijcaaGreatDoor.Core

