/- What an instruction does that has no part in memory: package core. -/
import Derived.Test.YtfdnjoieolijcaaGreatDoorCoreJump
set_option linter.unusedVariables false
namespace Go.Proofs.YtfdnjoieolijcaaGreatDoor.Core
open Go.RowKit Go.Proofs.YtfdnjoieolijcaaGreatDoor.Mem Go.Proofs.YtfdnjoieolijcaaGreatDoor.Alu

def isShift (f : Int) : Bool := f == 1 || f == 2 || f == 3 || f == 14 || f == 15 || f == 16 || f == 19 || f == 88 || f == 89 || f == 90 || f == 91
def isComb (f : Int) : Bool := f == 12 || f == 24 || f == 13 || f == 26 || f == 20 || f == 8 || f == 27 || f == 30 || f == 50 || f == 52 || f == 54 || f == 51 || f == 53 || f == 62 || f == 63 || f == 60 || f == 61 || f == 66 || f == 68 || f == 70 || f == 67 || f == 69 || f == 78 || f == 79 || f == 76 || f == 77
def isSum (f : Int) : Bool := f == 4 || f == 6 || f == 10 || f == 28 || f == 82 || f == 17 || f == 23 || f == 5 || f == 7 || f == 11 || f == 83 || f == 18 || f == 21 || f == 9 || f == 22 || f == 29 || f == 55 || f == 56 || f == 58 || f == 57 || f == 59 || f == 65 || f == 64 || f == 71 || f == 72 || f == 74 || f == 73 || f == 75 || f == 81 || f == 80
def compW (W : Wo) : Wo :=
  if isShift W.i.f then shiftW W else if isComb W.i.f then combW W else if isSum W.i.f then sumW W
  else if W.i.f = 25 ∨ W.i.f = 92 ∨ W.i.f = 93 ∨ W.i.f = 94 then multW W else if W.i.f = 95 ∨ W.i.f = 96 then longW W
  else if W.i.f = 97 then W.put (quoV W) else if W.i.f = 98 then W.put (clzV W) else if W.i.f = 48 ∨ W.i.f = 49 then W.put (halfV W)
  else if W.i.f = 39 ∨ W.i.f = 40 ∨ W.i.f = 41 then stkW W else if W.i.f = 46 ∨ W.i.f = 47 ∨ W.i.f = 99 ∨ W.i.f = 100 then jmpW W
  else if W.i.f = 31 then backW W (W.s.R W.i.rm.toNat) else if W.i.f = 45 then { W with hk := 2, hc := W.i.im } else W
theorem Wk.cast {w : World} {B : Nat} {U V : Wo} (h : Wk w B U) (e : V = U) : Wk w B V := e ▸ h

set_option maxRecDepth 100000 in
set_option maxHeartbeats 8000000 in
theorem compute_any {w : World} {B : Nat} {W : Wo} (h : Wk w B W) (hL : Inst.Laid w) (hB : NoTab B) (ok : Ok W) (hne : W.i.f = 95 ∨ W.i.f = 96 → W.i.rd ≠ W.i.ra) :
    Calls Tryz.prog 122 #[.pointer (some ⟨B, 0, none⟩)] w fun e w' => e = .returned (.tuple #[]) ∧ Wk w' B (compW W) ∧ Off [B] w w' := by
  have cf := h.cf
  have HN := hide hne
  clear hne
  obtain ⟨k, hk, hkn, hk', hk2⟩ := rn_of ok.f.rm
  have crm := h.crm
  rw [hk] at crm
  have ck := h.reg k hk2
  have cim := h.cim
  have c33 := h.chk
  have f33 := h.free 33
  have c34 := h.chc
  have f34 := h.free 34
  have HK := hide hkn
  clear hk hkn
  go_enter Tryz.func122, Tryz.ntmps122
  go_wp2_with (first
    | (go_at_call 158; refine (shift_any h hL hB ok).mono ?_; rintro e w1 ⟨rfl, h1, o1⟩)
    | (go_at_call 159; refine (combine_any h hL hB ok).mono ?_; rintro e w1 ⟨rfl, h1, o1⟩)
    | (go_at_call 160; refine (sum_any h hL hB ok).mono ?_; rintro e w1 ⟨rfl, h1, o1⟩)
    | (go_at_call 161; refine (multiply_any h hL hB ok).mono ?_; rintro e w1 ⟨rfl, h1, o1⟩)
    | (go_at_call 162; refine (multiplyLong_any h hL ok (unhide HN (by go_light; simp_all))).mono ?_; rintro e w1 ⟨rfl, h1, o1⟩)
    | (go_at_call 163; refine (divide_any h hL hB ok).mono ?_; rintro e w1 ⟨rfl, h1, o1⟩)
    | (go_at_call 164; refine (countNoughts_any h hL hB ok).mono ?_; rintro e w1 ⟨rfl, h1, o1⟩)
    | (go_at_call 165; refine (moveHalf_any h hL hB ok).mono ?_; rintro e w1 ⟨rfl, h1, o1⟩)
    | (go_at_call 166; refine (moveStack_any h hL hB ok).mono ?_; rintro e w1 ⟨rfl, h1, o1⟩)
    | (go_at_call 167; refine (jump_any h).mono ?_; rintro e w1 ⟨rfl, h1, o1⟩))
  all_goals try
    (go_end0
     exact ⟨rfl, h1.cast (by unfold compW; go_light; simp_all [isShift, isComb, isSum]), o1⟩)
  · go_region_with (first | (go_at_call 168; refine (goBack_any h.drew _).mono ?_; rintro e w1 ⟨rfl, h1, o1⟩))
    all_goals go_wp2_with fail
    all_goals go_end0
    all_goals exact ⟨rfl, h1.cast (by have e := unhide HK; unfold compW; rw [e]; go_light; simp_all [isShift, isComb, isSum]), (Off.refl _ _).drew.trans o1⟩
  · go_end0
    exact ⟨rfl, ((h.putHk _).putHc _).cast (by unfold compW; go_light; simp_all [isShift, isComb, isSum]), ((Off.refl _ _).set (by simp) _).set (by simp) _⟩
  · go_end0
    exact ⟨rfl, h.cast (by unfold compW; go_light; simp_all [isShift, isComb, isSum]), Off.refl _ _⟩
end Go.Proofs.YtfdnjoieolijcaaGreatDoor.Core

