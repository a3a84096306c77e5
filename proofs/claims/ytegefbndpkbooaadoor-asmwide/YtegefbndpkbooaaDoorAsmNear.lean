/- What a jump reaches. No function of the program is walked here. -/
import Derived.Test.YtegefbndpkbooaaDoorAsmPrg
set_option linter.unusedVariables false
namespace Go.Proofs.YtegefbndpkbooaaDoor.Asm
open Go.RowKit Go.Proofs.YtegefbndpkbooaaDoor.Core

theorem right_47 (n : Int) : Inst.right 47 0 0 0 0 n 0 0 0 0 0 = Inst.stp n (-2048) 2046 2 := by
  have h1 : Inst.isF 47 = true := by decide +kernel
  have h2 : Inst.shp 47 = 16 := by decide +kernel
  have h3 : Inst.regR 16 0 0 0 0 = true := by decide +kernel
  have h4 : Inst.pairR 47 16 0 0 0 = true := by decide +kernel
  have h5 : Inst.shiR 16 0 0 = true := by decide +kernel
  have h6 : Inst.setR 16 0 = true := by decide +kernel
  have h7 : Inst.cndR 16 0 = true := by decide +kernel
  have h8 : Inst.rgsR 16 0 = true := by decide +kernel
  unfold Inst.right
  rw [h1, h2, h3, h4, h5, h6, h7, h8]
  show (true && (true && (true && (Inst.immR 47 16 n && (true && (true && (true && true))))))) = _
  simp [Inst.immR]
theorem right_100 (n : Int) : Inst.right 100 0 0 0 0 n 0 0 0 0 0 = Inst.stp n (-16777216) 16777214 2 := by
  have h1 : Inst.isF 100 = true := by decide +kernel
  have h2 : Inst.shp 100 = 34 := by decide +kernel
  have h3 : Inst.regR 34 0 0 0 0 = true := by decide +kernel
  have h4 : Inst.pairR 100 34 0 0 0 = true := by decide +kernel
  have h5 : Inst.shiR 34 0 0 = true := by decide +kernel
  have h6 : Inst.setR 34 0 = true := by decide +kernel
  have h7 : Inst.cndR 34 0 = true := by decide +kernel
  have h8 : Inst.rgsR 34 0 = true := by decide +kernel
  unfold Inst.right
  rw [h1, h2, h3, h4, h5, h6, h7, h8]
  simp [Inst.immR]
theorem right_46 (n c : Int) : Inst.right 46 0 0 0 0 n 0 0 0 c 0 = (Inst.stp n (-256) 254 2 && Inst.stp c 0 13 1) := by
  have h1 : Inst.isF 46 = true := by decide +kernel
  have h2 : Inst.shp 46 = 15 := by decide +kernel
  have h3 : Inst.regR 15 0 0 0 0 = true := by decide +kernel
  have h4 : Inst.pairR 46 15 0 0 0 = true := by decide +kernel
  have h5 : Inst.shiR 15 0 0 = true := by decide +kernel
  have h6 : Inst.setR 15 0 = true := by decide +kernel
  have h8 : Inst.rgsR 15 0 = true := by decide +kernel
  unfold Inst.right
  rw [h1, h2, h3, h4, h5, h6, h8]
  simp [Inst.immR, Inst.cndR]
theorem right_99 (n c : Int) : Inst.right 99 0 0 0 0 n 0 0 0 c 0 = (Inst.stp n (-1048576) 1048574 2 && Inst.stp c 0 13 1) := by
  have h1 : Inst.isF 99 = true := by decide +kernel
  have h2 : Inst.shp 99 = 33 := by decide +kernel
  have h3 : Inst.regR 33 0 0 0 0 = true := by decide +kernel
  have h4 : Inst.pairR 99 33 0 0 0 = true := by decide +kernel
  have h5 : Inst.shiR 33 0 0 = true := by decide +kernel
  have h6 : Inst.setR 33 0 = true := by decide +kernel
  have h8 : Inst.rgsR 33 0 = true := by decide +kernel
  unfold Inst.right
  rw [h1, h2, h3, h4, h5, h6, h8]
  simp [Inst.immR, Inst.cndR]
/-- What a narrow jump reaches. -/
def reachB (c n : Int) : Bool := if c = -1 then Inst.stp n (-2048) 2046 2 else Inst.stp n (-256) 254 2
theorem near_is (c n : Int) (h0 : -1 ≤ c) (h1 : c ≤ 13) : (brI c n false).right = reachB c n := by
  unfold reachB brI Ins.right
  by_cases hc : c = -1
  · rw [if_pos hc, if_pos hc]; exact right_47 n
  · rw [if_neg hc, if_neg hc]
    refine (right_46 n c).trans ?_
    have : Inst.stp c 0 13 1 = true := by unfold Inst.stp; rw [decide_eq_true_eq]; omega
    rw [this, Bool.and_true]
theorem wide_is (c n : Int) (h0 : -1 ≤ c) (h1 : c ≤ 13) (hn : -100000 ≤ n) (hn2 : n ≤ 100000) (he : n % 2 = 0) : (brI c n true).right = true := by
  unfold brI Ins.right
  by_cases hc : c = -1
  · rw [if_pos hc]
    refine (right_100 n).trans ?_
    unfold Inst.stp; rw [decide_eq_true_eq]; omega
  · rw [if_neg hc]
    refine (right_99 n c).trans ?_
    rw [Bool.and_eq_true]
    unfold Inst.stp; rw [decide_eq_true_eq, decide_eq_true_eq]; omega
/-- As a program is laid at last, each jump's instruction is right. -/
theorem jump_right {n : Nat} {X : Nat → It} (h : ∀ i, i < n → rightT (X i) = true) {W : Nat → Bool} (hb : ∀ i, i < n → (prg n X).bad W i = false) (hle : (prg n X).at_ W n ≤ 65536) {i : Nat} (hi : i < n) (h2 : (X i).k = 2) (hg : goalF X n (X i).l < n) :
    (brI (X i).c ((prg n X).far W i) (W i)).right = true := by
  obtain ⟨_, hc, _⟩ := right_jump (h i hi) h2
  have hOk := prg_ok (n := n) (X := X) h
  cases hw : W i
  · have hbi := hb i hi
    unfold Prg.bad at hbi
    rw [hw] at hbi
    have e : (prg n X).jmp i = true := by show (decide (i < n) && (X i).k == 2) = true; rw [decide_eq_true hi, h2]; rfl
    rw [e] at hbi
    have q : (prg n X).near i ((prg n X).far W i) = true := by simpa using hbi
    exact q
  · have a := Prg.at_ge hOk W i
    have b := Prg.at_mono hOk W (show i ≤ n by omega)
    have c := Prg.at_ge hOk W (goalF X n (X i).l)
    have d := Prg.at_mono hOk W (show goalF X n (X i).l ≤ n by omega)
    have e1 := Prg.at_even hOk W i
    have e2 := Prg.at_even hOk W (goalF X n (X i).l)
    have ef : (prg n X).far W i = (prg n X).at_ W (goalF X n (X i).l) - (prg n X).at_ W i - 4 := rfl
    refine wide_is _ _ hc.1 hc.2 ?_ ?_ ?_ <;> rw [ef] <;> omega
end Go.Proofs.YtegefbndpkbooaaDoor.Asm

