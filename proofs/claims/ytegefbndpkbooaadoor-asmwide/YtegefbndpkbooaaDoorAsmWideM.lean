/- Which jumps are wide. No function of the program is walked here. -/
import Derived.Test.YtegefbndpkbooaaDoorAsmNear
import Derived.Test.YtegefbndpkbooaaDoorAsmLabel
set_option linter.unusedVariables false
namespace Go.Proofs.YtegefbndpkbooaaDoor.Asm
open Go.RowKit Go.Proofs.YtegefbndpkbooaaDoor.Core

theorem jmp_is {n : Nat} {X : Nat → It} {i : Nat} (hi : i < n) (h2 : (X i).k = 2) : (prg n X).jmp i = true := by
  show (decide (i < n) && (X i).k == 2) = true
  rw [decide_eq_true hi, h2]; rfl
/-- A narrow jump reaches. -/
theorem narrow_near {n : Nat} {X : Nat → It} (hr : ∀ i, i < n → rightT (X i) = true) {R : Nat} (hE : (prg n X).Ends R false) {i : Nat} (hi : i < n) (h2 : (X i).k = 2) (hw : (prg n X).it R i = false) : reachB (X i).c ((prg n X).far ((prg n X).it R) i) = true := by
  have l := hE.last
  simp only [Bool.false_eq_true, if_false] at l
  have hb := l.2 i hi
  unfold Prg.bad at hb
  rw [hw, jmp_is hi h2] at hb
  have q : (prg n X).near i ((prg n X).far ((prg n X).it R) i) = true := by simpa using hb
  obtain ⟨_, hc, _⟩ := right_jump (hr i hi) h2
  rw [← near_is _ _ hc.1 hc.2]; exact q
/-- A wide one stands in more than 200 bytes. -/
theorem wide_long {n : Nat} {X : Nat → It} (hr : ∀ i, i < n → rightT (X i) = true) (hgo : ∀ i, i < n → (X i).k = 2 → goalF X n (X i).l < n) {R : Nat} {i : Nat} (hi : i < n) (h2 : (X i).k = 2) (hw : (prg n X).it R i = true) : 200 ≤ (prg n X).at_ ((prg n X).it R) n := by
  obtain ⟨s, hs, hb⟩ := Prg.it_was R i hw
  obtain ⟨_, _, hn⟩ := Prg.bad_true hb
  obtain ⟨_, hc, _⟩ := right_jump (hr i hi) h2
  have hOk := prg_ok hr
  have hn' : reachB (X i).c ((prg n X).far ((prg n X).it s) i) = false := by rw [← near_is _ _ hc.1 hc.2]; exact hn
  have hg := hgo i hi h2
  have a := Prg.at_ge hOk ((prg n X).it s) i
  have b := Prg.at_mono hOk ((prg n X).it s) (show i ≤ n by omega)
  have c := Prg.at_ge hOk ((prg n X).it s) (goalF X n (X i).l)
  have d := Prg.at_mono hOk ((prg n X).it s) (show goalF X n (X i).l ≤ n by omega)
  have e1 := Prg.at_even hOk ((prg n X).it s) i
  have e2 := Prg.at_even hOk ((prg n X).it s) (goalF X n (X i).l)
  have ef : (prg n X).far ((prg n X).it s) i = (prg n X).at_ ((prg n X).it s) (goalF X n (X i).l) - (prg n X).at_ ((prg n X).it s) i - 4 := rfl
  have m := Prg.at_more hOk (W := (prg n X).it s) (V := (prg n X).it R) (fun j h => Prg.it_sub (P := prg n X) (show s ≤ R by omega) j h) n
  unfold reachB at hn'
  rw [ef] at hn'
  split at hn'
  · unfold Inst.stp at hn'; rw [decide_eq_false_iff_not] at hn'; omega
  · unfold Inst.stp at hn'; rw [decide_eq_false_iff_not] at hn'; omega
theorem size_jump {n : Nat} {X : Nat → It} {W : Nat → Bool} {i : Nat} (hi : i < n) (h2 : (X i).k = 2) (a : Int) : (prg n X).sz i (W i) a = if W i then 4 else 2 := by
  rw [prg_sz hi]; unfold szT; rw [if_neg (by omega), if_pos h2]
/-- What the statement asks of a jump's way. -/
theorem near_law {c n : Int} (h : reachB c n = true) : (-256 ≤ n ∧ n ≤ 254) ∨ (c = -1 ∧ -2048 ≤ n ∧ n ≤ 2046) := by
  unfold reachB at h
  split at h
  · unfold Inst.stp at h; rw [decide_eq_true_eq] at h; exact .inr ⟨by assumption, h.1, h.2.1⟩
  · unfold Inst.stp at h; rw [decide_eq_true_eq] at h; exact .inl ⟨h.1, h.2.1⟩
end Go.Proofs.YtegefbndpkbooaaDoor.Asm

