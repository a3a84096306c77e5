/- A machine that runs: what its steps leave is a machine that may be. No function of the program is walked here. -/
import Derived.Test.YtkkhofoaolgapaaGreatDoorCoreStep
import Derived.Test.YtkkhofoaolgapaaGreatDoorCoreTwin
set_option linter.unusedVariables false
namespace Go.Proofs.YtkkhofoaolgapaaGreatDoor.Core
open Go.RowKit Go.Proofs.YtkkhofoaolgapaaGreatDoor.Mem Go.Proofs.YtkkhofoaolgapaaGreatDoor.Alu

def Mc.on (M : Mc) (x : Nat) : Mc := { M with m := x }
theorem stW0_on (M : Mc) (j : Ins) (x : Nat) : stW0 (M.on x) j = (stW0 M j).on x := rfl
theorem stE_on (n : Nat) (f g : Nat → Int) (M : Mc) (j : Ins) (e0 : Int) (x : Nat) : stE n f g (M.on x) j e0 = stE n f g M j e0 := by
  unfold stE; rw [stW0_on, exeE_on]
theorem stG_on (n : Nat) (f g : Nat → Int) (M : Mc) (j : Ins) (e0 : Int) (x : Nat) : stG n f g (M.on x) j e0 = stG n f g M j e0 := by
  unfold stG; rw [stW0_on, exeG_on]
theorem stM_on (n : Nat) (f g : Nat → Int) (M : Mc) (j : Ins) (e0 : Int) (x : Nat) : stM n f g (M.on x) j e0 = (stM n f g M j e0).on x := by
  unfold stM
  rw [stE_on, stW0_on, exeW_on]
  split <;> rfl
theorem stV_on (n : Nat) (f g : Nat → Int) (M : Mc) (j : Ins) (e0 : Int) (x : Nat) : stV n f g (M.on x) j e0 = stV n f g M j e0 := by
  unfold stV
  rw [stE_on, stW0_on, exeW_on]
  split <;> rfl
theorem stR_on (n : Nat) (f g : Nat → Int) (M : Mc) (j : Ins) (e0 : Int) (x : Nat) : stR n f g (M.on x) j e0 = stR n f g M j e0 := by
  unfold stR; rw [stE_on]

/-- What is so behind a step that went well. -/
structure Went (M M' : Mc) (j : Ins) : Prop where
  s : Good M'.s
  cy : M'.cy = M.cy + (basI M.s j + Clock.mss M.fl M.l (M.s.R 15) (Inst.siz j.f) * M.wait)
  lo : M.cy + 1 ≤ M'.cy
  hi : M'.cy ≤ M.cy + 33
  wt : M'.wait = M.wait
  m : M'.m = M.m
  hk : M'.hk = 0 ∨ M'.hk = 1 ∨ M'.hk = 2
theorem at_fit {n : Nat} {f : Nat → Int} {a : Int} {i : Ins} (h : AtI n f a i 0) : i.right = true ∧ Fit i := by
  obtain ⟨hr, g0, g1⟩ := at_right h
  exact ⟨hr, (fit_of_right hr g0 g1).1⟩
theorem stE_ok {n : Nat} {f g : Nat → Int} {M : Mc} {j : Ins} {e0 : Int} (h : stE n f g M j e0 = 0) : e0 = 0 := by
  by_cases h0 : e0 = 0
  · exact h0
  · unfold stE at h; rw [if_neg h0] at h; exact h
theorem went_of {n : Nat} {f g : Nat → Int} {M : Mc} {j : Ins} {e0 : Int} (hM : May M) (hf : ∀ i, i < n → 0 ≤ f i ∧ f i < 256) (hg : Words g) (hat : AtI n f (M.s.R 15) j e0) (hs : stE n f g M j e0 = 0) : Went M (stM n f g M j e0) j := by
  have e := stE_ok hs
  subst e
  obtain ⟨hr, hfit⟩ := at_fit hat
  have hF := exe_fine hf hg (ok_0 hM.s hfit)
  have hB := basI_bd hM.s j
  have hP := mul_bd (Clock.mss_bd M.fl M.l (M.s.R 15) (Inst.siz j.f)) hM.wt
  have eM : stM n f g M j 0 = aft M j (exeW n f g (stW0 M j)) := if_pos hs
  rw [eM]
  refine ⟨hF.g, rfl, ?_, ?_, rfl, rfl, ?_⟩
  · show M.cy + 1 ≤ M.cy + (basI M.s j + Clock.mss M.fl M.l (M.s.R 15) (Inst.siz j.f) * M.wait); omega
  · show M.cy + (basI M.s j + Clock.mss M.fl M.l (M.s.R 15) (Inst.siz j.f) * M.wait) ≤ M.cy + 33; omega
  · rcases hF.k with ⟨a, _⟩ | ⟨a, _⟩ | ⟨a, _⟩
    · exact .inl a
    · exact .inr (.inl a)
    · exact .inr (.inr a)
theorem words_of {n : Nat} {f g : Nat → Int} {M : Mc} {j : Ins} {e0 : Int} (hM : May M) (hg : Words g) (hat : AtI n f (M.s.R 15) j e0) : Words (stG n f g M j e0) := by
  unfold stG
  split
  · rename_i h; subst h; exact exe_words hg (ok_0 hM.s (at_fit hat).2)
  · exact hg
theorem Went.may {M M' : Mc} {j : Ins} (h : Went M M' j) (hM : May M) (hc : M.cy ≤ 1000000) : May M' := ⟨h.s, by have := h.lo; have := h.hi; have := hM.cy; omega, by rw [h.wt]; exact hM.wt⟩
end Go.Proofs.YtkkhofoaolgapaaGreatDoor.Core

