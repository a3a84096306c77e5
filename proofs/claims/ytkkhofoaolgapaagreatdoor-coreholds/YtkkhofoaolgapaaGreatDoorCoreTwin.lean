/- What an instruction does hangs on nothing of where its memory lies. No function of the program is walked here. -/
import Derived.Test.YtkkhofoaolgapaaGreatDoorCoreExec
set_option linter.unusedVariables false
namespace Go.Proofs.YtkkhofoaolgapaaGreatDoor.Core
open Go.RowKit Go.Proofs.YtkkhofoaolgapaaGreatDoor.Mem Go.Proofs.YtkkhofoaolgapaaGreatDoor.Alu

/-- The same, with its memory elsewhere. -/
def Wo.on (W : Wo) (x : Nat) : Wo := { W with m := x }
theorem fin_on (W : Wo) (x : Nat) (v : Int) (F : Wo → Wo) (hF : ∀ U : Wo, F (U.on x) = (F U).on x) : (W.on x).fin v F = (W.fin v F).on x := by
  have h1 : (if keepB (W.on x) then (W.on x).put v else W.on x) = (if keepB W then W.put v else W).on x := by
    show (if keepB W then (W.on x).put v else W.on x) = _
    split <;> rfl
  unfold Wo.fin
  dsimp only
  rw [h1]
  show (if setsB W then _ else _) = _
  by_cases hs : setsB W = true
  · rw [if_pos hs, if_pos hs]; exact hF ((if keepB W then W.put v else W).sgn v)
  · rw [if_neg hs, if_neg hs]
theorem shift_on (W : Wo) (x : Nat) : shiftW (W.on x) = (shiftW W).on x := by
  show (if setsB W then _ else _) = (if setsB W then _ else _ : Wo).on x
  split <;> rfl
theorem comb_on (W : Wo) (x : Nat) : combW (W.on x) = (combW W).on x := fin_on W x _ _ (fun _ => rfl)
theorem sum_on (W : Wo) (x : Nat) : sumW (W.on x) = (sumW W).on x := fin_on W x _ _ (fun _ => rfl)
theorem mult_on (W : Wo) (x : Nat) : multW (W.on x) = (multW W).on x := by
  show (if W.i.f = 25 then _ else if W.i.f = 93 then _ else if W.i.f = 94 then _ else _) = (if W.i.f = 25 then _ else if W.i.f = 93 then _ else if W.i.f = 94 then _ else _ : Wo).on x
  repeat' split
  all_goals rfl
theorem stk_on (W : Wo) (x : Nat) : stkW (W.on x) = (stkW W).on x := by
  show (if W.i.f = 39 then _ else if W.i.f = 40 then _ else if W.i.f = 41 then _ else _) = (if W.i.f = 39 then _ else if W.i.f = 40 then _ else if W.i.f = 41 then _ else _ : Wo).on x
  repeat' split
  all_goals rfl
theorem jmp_on (W : Wo) (x : Nat) : jmpW (W.on x) = (jmpW W).on x := by
  show (if (W.i.f = 46 ∨ W.i.f = 99) ∧ holdsB W.s W.i.cd = false then _ else _) = (if (W.i.f = 46 ∨ W.i.f = 99) ∧ holdsB W.s W.i.cd = false then _ else _ : Wo).on x
  split <;> rfl
theorem back_on (W : Wo) (x : Nat) (a : Int) : backW (W.on x) a = (backW W a).on x := by
  show (if bits .andNot .u32 a 1 = 4294967294 then _ else _) = (if bits .andNot .u32 a 1 = 4294967294 then _ else _ : Wo).on x
  split <;> rfl
theorem on_if (c : Prop) [Decidable c] (A B : Wo) (x : Nat) : (if c then A else B).on x = if c then A.on x else B.on x := by split <;> rfl
theorem comp_on (W : Wo) (x : Nat) : compW (W.on x) = (compW W).on x := by
  have e : (W.on x).i = W.i := rfl
  unfold compW
  have e2 : (W.on x).s = W.s := rfl
  simp only [on_if, e, e2, shift_on, comb_on, sum_on, mult_on, stk_on, jmp_on, back_on]
  rfl
theorem ldd_on (W : Wo) (x : Nat) (r v : Int) : lddW (W.on x) r v = (lddW W r v).on x := by
  unfold lddW
  split
  · exact back_on _ _ _
  · rfl
theorem popR_on (n : Nat) (f g : Nat → Int) (x : Nat) : ∀ (k r : Nat) (W : Wo), popR n f g k r (W.on x) = ((popR n f g k r W).1.on x, (popR n f g k r W).2)
  | 0, r, W => rfl
  | k + 1, r, W => by
    have e1 : listB (W.on x) r = listB W r := rfl
    have e2 : (W.on x).s = W.s := rfl
    unfold popR
    rw [e1, e2]
    split
    · split
      · rw [show lddW ((W.on x).reg 13 ((W.s.R 13 + 4) % 4294967296)) r (ldV n f g (W.s.R 13)) = (lddW (W.reg 13 ((W.s.R 13 + 4) % 4294967296)) r (ldV n f g (W.s.R 13))).on x from ldd_on (W.reg 13 ((W.s.R 13 + 4) % 4294967296)) x r (ldV n f g (W.s.R 13))]
        exact popR_on n f g x k (r + 1) _
      · rfl
    · exact popR_on n f g x k (r + 1) W
theorem popW_on (n : Nat) (f g : Nat → Int) (W : Wo) (x : Nat) : popW n f g (W.on x) = (popW n f g W).on x := by
  show (popR n f g 16 0 ((popS W).on x)).1 = _
  rw [popR_on]; rfl
theorem popE_on (n : Nat) (f g : Nat → Int) (W : Wo) (x : Nat) : popE n f g (W.on x) = popE n f g W := by
  show (popR n f g 16 0 ((popS W).on x)).2 = _
  rw [popR_on]; rfl
theorem pshR_on (x : Nat) : ∀ (k r : Nat) (W : Wo) (p : Int) (g : Nat → Int), pshR k r (W.on x) p g = pshR k r W p g
  | 0, r, W, p, g => rfl
  | k + 1, r, W, p, g => by
    have e1 : listB (W.on x) r = listB W r := rfl
    have e2 : (W.on x).s = W.s := rfl
    unfold pshR
    rw [e1, e2]
    split
    · split
      · exact pshR_on x k (r + 1) W _ _
      · rfl
    · exact pshR_on x k (r + 1) W p g
theorem pshE_on (g : Nat → Int) (W : Wo) (x : Nat) : pshE g (W.on x) = pshE g W := by
  show (pshR 16 0 ((pshS W).on x) (pshP W) g).2 = _
  rw [pshR_on]; rfl
theorem pshG_on (g : Nat → Int) (W : Wo) (x : Nat) : pshG g (W.on x) = pshG g W := by
  show (pshR 16 0 ((pshS W).on x) (pshP W) g).1 = _
  rw [pshR_on]; rfl
theorem load_on (n : Nat) (f g : Nat → Int) (W : Wo) (x : Nat) : loadW n f g (W.on x) = (loadW n f g W).on x := by
  show (if ldE n (adrV W) = 0 then _ else _) = (if ldE n (adrV W) = 0 then _ else _ : Wo).on x
  split <;> rfl
theorem exeW_on (n : Nat) (f g : Nat → Int) (W : Wo) (x : Nat) : exeW n f g (W.on x) = (exeW n f g W).on x := by
  have e : (W.on x).i = W.i := rfl
  have e2 : adrV (W.on x) = adrV W := rfl
  have e3 : pshS (W.on x) = (pshS W).on x := rfl
  unfold exeW
  simp only [on_if, e, e2, e3, load_on, popW_on, comp_on]
  rfl
theorem exeE_on (n : Nat) (f g : Nat → Int) (W : Wo) (x : Nat) : exeE n f g (W.on x) = exeE n f g W := by
  have e : (W.on x).i = W.i := rfl
  have e2 : adrV (W.on x) = adrV W := rfl
  have e3 : storE (W.on x) = storE W := rfl
  unfold exeE
  simp only [e, e2, e3, pshE_on, popE_on]
theorem exeG_on (g : Nat → Int) (W : Wo) (x : Nat) : exeG g (W.on x) = exeG g W := by
  have e : (W.on x).i = W.i := rfl
  have e3 : storG g (W.on x) = storG g W := rfl
  unfold exeG
  simp only [e, e3, pshG_on]
end Go.Proofs.YtkkhofoaolgapaaGreatDoor.Core

