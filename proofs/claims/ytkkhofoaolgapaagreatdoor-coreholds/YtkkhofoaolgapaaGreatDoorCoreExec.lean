/- What any instruction does: package core. -/
import Derived.Test.YtkkhofoaolgapaaGreatDoorCorePush
import Derived.Test.YtkkhofoaolgapaaGreatDoorCoreMach
set_option linter.unusedVariables false
namespace Go.Proofs.YtkkhofoaolgapaaGreatDoor.Core
open Go.RowKit Go.Proofs.YtkkhofoaolgapaaGreatDoor.Mem Go.Proofs.YtkkhofoaolgapaaGreatDoor.Alu

def isLd (f : Int) : Bool := f == 32 || f == 34 || f == 36 || f == 38 || f == 85 || f == 87
def isSt (f : Int) : Bool := f == 33 || f == 35 || f == 37 || f == 84 || f == 86
/-- What is told, what the step's box is, and what RAM is behind an instruction. -/
def exeE (n : Nat) (f g : Nat → Int) (W : Wo) : Int :=
  if isLd W.i.f then ldE n (adrV W) else if isSt W.i.f then storE W else if W.i.f = 42 then pshE g W else if W.i.f = 43 then popE n f g W else 0
def exeW (n : Nat) (f g : Nat → Int) (W : Wo) : Wo :=
  if isLd W.i.f then loadW n f g W else if isSt W.i.f then W.dat (adrV W) 1 else if W.i.f = 42 then pshS W else if W.i.f = 43 then popW n f g W else compW W
def exeG (g : Nat → Int) (W : Wo) : Nat → Int := if isSt W.i.f then storG g W else if W.i.f = 42 then pshG g W else g

theorem isCast {w : World} {M F R n : Nat} {f g g' : Nat → Int} (h : Is w M F R n f g) (e : g' = g) : Is w M F R n f g' := e ▸ h

set_option maxRecDepth 100000 in
set_option maxHeartbeats 4000000 in
theorem execute_any {w : World} {B F R n : Nat} {W : Wo} {f g : Nat → Int} (h : Wk w B W) (hL : Inst.Laid w) (hB : NoTab B) (ok : Ok W) (hne : W.i.f = 95 ∨ W.i.f = 96 → W.i.rd ≠ W.i.ra) (hm : Is w W.m F R n f g) (hf : ∀ i, i < n → 0 ≤ f i ∧ f i < 256) (hn : n ≤ 65536) (hgb : ∀ i, 0 ≤ g i ∧ g i < 4294967296) :
    Calls Tryz.prog 51 #[.pointer (some ⟨B, 0, none⟩)] w fun e w' => e = .returned (.int .i64 (exeE n f g W)) ∧ Wk w' B (exeW n f g W) ∧ Is w' W.m F R n f (exeG g W) ∧ Off [B, R] w w' := by
  have cf := h.cf
  have HN := hide hne
  have hA := hide (wkApart h hm)
  have HB : Hid (∀ w', Off [B] w w' → Is w' W.m F R n f g) := fun w' o => isOff hm o (by simpa using hA.out.1) (by simpa using hA.out.2.1) (by simpa using hA.out.2.2)
  clear hne
  go_enter Tryz.func51, Tryz.ntmps51
  go_wp2_with (first
    | (go_at_call 77; refine (load_any h ok hm hf hn).mono ?_; rintro e w1 ⟨rfl, h1, o1⟩; have m1 := HB.out _ o1; replace o1 : Off [B, R] w w1 := o1.mono (by simp))
    | (go_at_call 78; refine (store_any h ok hm).mono ?_; rintro e w1 ⟨rfl, h1, m1, o1⟩)
    | (go_at_call 79; refine (push_any h ok hm).mono ?_; rintro e w1 ⟨rfl, h1, m1, o1⟩)
    | (go_at_call 80; refine (pop_any h ok hm hf hn hgb).mono ?_; rintro e w1 ⟨rfl, h1, o1⟩; have m1 := HB.out _ o1; replace o1 : Off [B, R] w w1 := o1.mono (by simp))
    | (go_at_call 81; refine (compute_any h hL hB ok (unhide HN)).mono ?_; rintro e w1 ⟨rfl, h1, o1⟩; have m1 := HB.out _ o1; replace o1 : Off [B, R] w w1 := o1.mono (by simp)))
  all_goals
    go_ret
    exact ⟨ret_int (by unfold exeE; go_light; simp_all [isLd, isSt]), h1.cast (by unfold exeW; go_light; simp_all [isLd, isSt]), isCast m1 (by unfold exeG; go_light; simp_all [isSt]), o1⟩
end Go.Proofs.YtkkhofoaolgapaaGreatDoor.Core

