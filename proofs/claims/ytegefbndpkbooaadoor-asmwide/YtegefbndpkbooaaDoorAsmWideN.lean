/- A jump, its label, how far it goes, how wide it is. No function of the program is walked here. -/
import Derived.Test.YtegefbndpkbooaaDoorAsmWideM
set_option linter.unusedVariables false
namespace Go.Proofs.YtegefbndpkbooaaDoor.Asm
open Go.RowKit Go.Proofs.YtegefbndpkbooaaDoor.Core

theorem wide_jump {n : Nat} {X : Nat → It} (hr : ∀ i, i < n → rightT (X i) = true) (hO : OnceM X n) (hF : Found X n) {R : Nat} (hE : (prg n X).Ends R false) {i : Nat} (hi : i < n) (h2 : (X i).k = 2) :
    ∃ g, g < n ∧ X g = hereI (X i).l ∧ (∀ j, j < n → X j = hereI (X i).l → j = g) ∧ (prg n X).far ((prg n X).it R) i = (prg n X).at_ ((prg n X).it R) g - (prg n X).at_ ((prg n X).it R) i - 4 ∧
      (((prg n X).it R i = false ∧ ((-256 ≤ (prg n X).far ((prg n X).it R) i ∧ (prg n X).far ((prg n X).it R) i ≤ 254) ∨ ((X i).c = -1 ∧ -2048 ≤ (prg n X).far ((prg n X).it R) i ∧ (prg n X).far ((prg n X).it R) i ≤ 2046))) ∨
        ((prg n X).it R i = true ∧ 200 ≤ (prg n X).at_ ((prg n X).it R) n)) := by
  obtain ⟨g, hg, hm⟩ := hF i hi h2
  have hgo : ∀ i, i < n → (X i).k = 2 → goalF X n (X i).l < n := fun i hi h2 => by
    obtain ⟨j, hj, hm⟩ := hF i hi h2
    rw [goalF_is hO hj hm]
    exact hj
  have hgg := goalF_is hO hg hm
  have hx : X g = hereI (X i).l := by
    have := (right_mark (hr g hg) hm.1).1
    rw [hm.2] at this
    exact this
  refine ⟨g, hg, hx, fun j hj hxj => ?_, ?_, ?_⟩
  · have hmj : mk_ (X j) (X i).l := by rw [hxj]; exact ⟨rfl, rfl⟩
    rw [← goalF_is hO hj hmj, hgg]
  · rw [← hgg]; rfl
  · cases hw : (prg n X).it R i
    · exact .inl ⟨rfl, near_law (narrow_near hr hE hi h2 hw)⟩
    · exact .inr ⟨rfl, wide_long hr hgo hi h2 hw⟩

end Go.Proofs.YtegefbndpkbooaaDoor.Asm

