/- The document's example, by numbers: two instructions, and what they leave. No function of the program is walked here. -/
import Derived.Test.YtkkhofoaolgapaaGreatDoorCoreRunE
import Derived.Test.YtkkhofoaolgapaaGreatDoorCoreBuilt
set_option linter.unusedVariables false
namespace Go.Proofs.YtkkhofoaolgapaaGreatDoor.Core
open Go.RowKit Go.Proofs.YtkkhofoaolgapaaGreatDoor.Mem Go.Proofs.YtkkhofoaolgapaaGreatDoor.Alu

def an1 : Ins := ⟨8, 0, 0, 0, 0, 5, 0, 0, 0, 0, 0⟩
def an2 : Ins := ⟨31, 0, 0, 14, 0, 0, 0, 0, 0, 0, 0⟩
def anI (k : Nat) : Ins := if k = 0 then an1 else an2
def anF : Nat → Int := flaF anI 2
def noG : Nat → Int := fun _ => 0
theorem an_len : (prgB anI 2).length = 4 := by decide +kernel
def anS : St := (zerS.reg 14 4294967295).reg 15 134217728
def anA : Mc := { newM 0 0 with s := bitsS anS }
def anB : Mc := stM 4 anF noG anA an1 0
def anC : Mc := stM 4 anF noG anB an2 0
theorem an_v1 : hfV 4 anF 134217728 = 8197 ∧ hfE 4 134217728 = 0 ∧ Code.beg 8197 = false := by decide +kernel
theorem an_v2 : hfV 4 anF 134217730 = 18288 ∧ hfE 4 134217730 = 0 ∧ Code.beg 18288 = false := by decide +kernel
theorem an_r1 : Inst.right 8 0 0 0 0 5 0 0 0 0 0 = true ∧ Code.wd 8 0 0 0 0 5 0 0 0 0 0 = 8197 ∧ Inst.wdF 8 = false := by decide +kernel
theorem an_r2 : Inst.right 31 0 0 14 0 0 0 0 0 0 0 = true ∧ Code.wd 31 0 0 14 0 0 0 0 0 0 0 = 18288 ∧ Inst.wdF 31 = false := by decide +kernel
theorem an_at1 : AtI 4 anF 134217728 an1 0 := .inr (.inl ⟨an_v1.2.1, by rw [an_v1.1]; exact an_v1.2.2, by rw [an_v1.1]; exact .inl ⟨⟨an_r1.1, by decide, by decide, an_r1.2.1, an_r1.2.2⟩, rfl⟩⟩)
theorem an_at2 : AtI 4 anF 134217730 an2 0 := .inr (.inl ⟨an_v2.2.1, by rw [an_v2.1]; exact an_v2.2.2, by rw [an_v2.1]; exact .inl ⟨⟨an_r2.1, by decide, by decide, an_r2.2.1, an_r2.2.2⟩, rfl⟩⟩)
theorem an_e1 : stE 4 anF noG anA an1 0 = 0 := by decide +kernel
theorem an_e2 : stE 4 anF noG anB an2 0 = 0 := by decide +kernel
theorem an_b : anB.s.R 15 = 134217730 ∧ anB.hk = 0 ∧ anB.cy = 1 := by decide +kernel
theorem an_c : anC.hk = 1 ∧ anC.hc = 0 ∧ anC.cy = 4 ∧ anC.s.R 0 = 5 := by decide +kernel
theorem an_a : anA.s.R 15 = 134217728 ∧ anA.hk = 0 ∧ anA.cy = 0 := by decide +kernel
theorem an_g (M : Mc) (j : Ins) (h : j = an1 ∨ j = an2) : stG 4 anF noG M j 0 = noG := by
  unfold stG exeG
  rcases h with rfl | rfl
  · rw [if_pos rfl, if_neg (show ¬ isSt (stW0 M an1).i.f = true from (by decide : ¬ isSt 8 = true)), if_neg (show ¬ (stW0 M an1).i.f = 42 from (by decide : ¬ (8 : Int) = 42))]
  · rw [if_pos rfl, if_neg (show ¬ isSt (stW0 M an2).i.f = true from (by decide : ¬ isSt 31 = true)), if_neg (show ¬ (stW0 M an2).i.f = 42 from (by decide : ¬ (31 : Int) = 42))]
theorem no_words : Words noG := fun _ => by unfold noG; omega
theorem good_bits {s : St} (h : Regs s) : Good (bitsS s) := ⟨h, b01_bd _, b01_bd _, b01_bd _, b01_bd _⟩
theorem zer_regs : Regs zerS := fun _ => by unfold zerS; dsimp only; omega
theorem an_regs : Regs anS := Regs.put (Regs.put zer_regs 14 _ (by omega)) 15 _ (by omega)
theorem an_may : May anA := ⟨good_bits an_regs, by rw [an_a.2.2]; omega, by show 0 ≤ (0 : Int) ∧ (0 : Int) ≤ 7; omega⟩
theorem anF_bd (i : Nat) (h : i < 4) : 0 ≤ anF i ∧ anF i < 256 := flaF_bd anI 2 i
theorem an_mayB : May anB := (went_of an_may anF_bd no_words (by rw [an_a.1]; exact an_at1) an_e1).may an_may (by rw [an_a.2.2]; omega)

def anM (m : Nat) (k : Nat) : Mc := if k = 0 then anA.on m else if k = 1 then anB.on m else anC.on m
theorem an_on {M : Mc} (h : May M) (m : Nat) : May (M.on m) := ⟨h.s, h.cy, h.wt⟩
theorem an_line (m : Nat) : Line 4 anF 9 2 (anM m) (fun _ => noG) where
  step := fun k hk => by
    rcases (show k = 0 ∨ k = 1 by omega) with rfl | rfl
    · refine ⟨an_a.2.1, ?_, an_on an_may m, no_words, an1, ?_, ?_, ?_, an_g _ _ (.inl rfl)⟩
      · show anA.cy < 9; rw [an_a.2.2]; omega
      · show AtI 4 anF (anA.s.R 15) an1 0; rw [an_a.1]; exact an_at1
      · show stE 4 anF noG (anA.on m) an1 0 = 0; rw [stE_on]; exact an_e1
      · show stM 4 anF noG (anA.on m) an1 0 = anB.on m; rw [stM_on]; rfl
    · refine ⟨an_b.2.1, ?_, an_on an_mayB m, no_words, an2, ?_, ?_, ?_, an_g _ _ (.inr rfl)⟩
      · show anB.cy < 9; rw [an_b.2.2]; omega
      · show AtI 4 anF (anB.s.R 15) an2 0; rw [an_b.1]; exact an_at2
      · show stE 4 anF noG (anB.on m) an2 0 = 0; rw [stE_on]; exact an_e2
      · show stM 4 anF noG (anB.on m) an2 0 = anC.on m; rw [stM_on]; rfl
  halt := .inl an_c.1
  m := fun k hk => by
    rcases (show k = 0 ∨ k = 1 ∨ k = 2 by omega) with rfl | rfl | rfl <;> rfl
end Go.Proofs.YtkkhofoaolgapaaGreatDoor.Core

