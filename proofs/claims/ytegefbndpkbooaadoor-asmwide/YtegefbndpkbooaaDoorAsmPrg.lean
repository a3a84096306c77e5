/- A program of items, by numbers. No function of the program is walked here. -/
import Derived.Test.YtegefbndpkbooaaDoorAsmMath
import Derived.Test.YtegefbndpkbooaaDoorAsmSizes
import Derived.Test.YtegefbndpkbooaaDoorAsmAll
set_option linter.unusedVariables false
namespace Go.Proofs.YtegefbndpkbooaaDoor.Asm
open Go.RowKit Go.Proofs.YtegefbndpkbooaaDoor.Core

/-- How many bytes an item has. -/
def szT (x : It) (b : Bool) (a : Int) : Int := if x.k = 1 then Inst.siz x.i.f else if x.k = 2 then (if b then 4 else 2) else if x.k = 4 then misN a x.t else 0
def prg (n : Nat) (X : Nat → It) : Prg := ⟨n, fun i b a => if i < n then szT (X i) b a else 0, fun i => decide (i < n) && (X i).k == 2, fun i => goalF X n (X i).l, fun i f => (brI (X i).c f false).right⟩
/-- The sizes as they stand: all but of what is padded. -/
def SzOk (n : Nat) (X : Nat → It) (W : Nat → Bool) (sz : Nat → Int) : Prop := ∀ i, i < n → (X i).k ≠ 4 → sz i = szT (X i) (W i) 0

theorem siz_is (f : Int) : Inst.siz f = 0 ∨ Inst.siz f = 2 ∨ Inst.siz f = 4 := by
  unfold Inst.siz
  split
  · split
    · exact .inr (.inr rfl)
    · exact .inr (.inl rfl)
  · exact .inl rfl
theorem szT_a {x : It} (h : x.k ≠ 4) (b : Bool) (a a' : Int) : szT x b a = szT x b a' := by
  unfold szT
  split
  · rfl
  · split
    · rfl
    · first | rfl | (rw [if_neg h, if_neg h])
theorem right_to {x : It} (h : rightT x = true) (h4 : x.k = 4) : x.t = 4 ∨ x.t = 8 ∨ x.t = 16 := by
  unfold rightT at h
  rw [if_neg (by omega), if_neg (by omega), if_neg (by omega), if_pos h4] at h
  simp only [Bool.and_eq_true, Bool.or_eq_true, beq_iff_eq] at h
  omega
theorem right_kind {x : It} (h : rightT x = true) : x.k = 1 ∨ x.k = 2 ∨ x.k = 3 ∨ x.k = 4 := by
  unfold rightT at h
  by_cases h1 : x.k = 1
  · exact .inl h1
  by_cases h2 : x.k = 2
  · exact .inr (.inl h2)
  by_cases h3 : x.k = 3
  · exact .inr (.inr (.inl h3))
  by_cases h4 : x.k = 4
  · exact .inr (.inr (.inr h4))
  rw [if_neg h1, if_neg h2, if_neg h3, if_neg h4] at h; cases h
theorem right_jump {x : It} (h : rightT x = true) (h2 : x.k = 2) : x = goI x.c x.l ∧ (-1 ≤ x.c ∧ x.c ≤ 13) ∧ 0 ≤ x.l ∧ x.l ≤ 65535 := by
  unfold rightT at h
  rw [if_neg (by omega), if_pos h2] at h
  simp only [Bool.and_eq_true, eqIt_iff, condB, labB, decide_eq_true_eq] at h
  exact ⟨h.1, h.2.1, h.2.2⟩
theorem right_mark {x : It} (h : rightT x = true) (h3 : x.k = 3) : x = hereI x.l ∧ 0 ≤ x.l ∧ x.l ≤ 65535 := by
  unfold rightT at h
  rw [if_neg (by omega), if_neg (by omega), if_pos h3] at h
  simp only [Bool.and_eq_true, eqIt_iff, labB, decide_eq_true_eq] at h
  exact h
theorem right_code {x : It} (h : rightT x = true) (h1 : x.k = 1) : x = doI x.i ∧ x.i.right = true := by
  unfold rightT at h
  rw [if_pos h1] at h
  simp only [Bool.and_eq_true, eqIt_iff] at h
  exact ⟨h.1, h.2.1⟩
theorem right_pad {x : It} (h : rightT x = true) (h4 : x.k = 4) : x = padI x.t := by
  unfold rightT at h
  rw [if_neg (by omega), if_neg (by omega), if_neg (by omega), if_pos h4] at h
  simp only [Bool.and_eq_true, eqIt_iff] at h
  exact h.1
theorem mis_bd (a t : Int) (ht : t = 4 ∨ t = 8 ∨ t = 16) : 0 ≤ misN a t ∧ misN a t < t ∧ (a + misN a t) % t = 0 := by
  unfold misN
  rcases ht with rfl | rfl | rfl <;> omega
theorem mis_mono (a a' t : Int) (ht : t = 4 ∨ t = 8 ∨ t = 16) (h : a ≤ a') : a + misN a t ≤ a' + misN a' t := by
  unfold misN
  rcases ht with rfl | rfl | rfl <;> omega
theorem mis_even (a t : Int) (ht : t = 4 ∨ t = 8 ∨ t = 16) (h : a % 2 = 0) : misN a t % 2 = 0 := by
  unfold misN
  rcases ht with rfl | rfl | rfl <;> omega
theorem mis_far (a t : Int) (ht : t = 4 ∨ t = 8 ∨ t = 16) : misN (16 + a) t = misN a t := by
  unfold misN
  rcases ht with rfl | rfl | rfl <;> omega
theorem szT_bd {x : It} (h : rightT x = true) (b : Bool) (a : Int) : 0 ≤ szT x b a ∧ szT x b a ≤ 15 := by
  unfold szT
  split
  · rcases siz_is x.i.f with e | e | e <;> rw [e] <;> omega
  · split
    · cases b <;> simp
    · split
      · rename_i h4
        have ht := right_to h h4
        have := mis_bd a x.t ht
        omega
      · omega
theorem prg_sz {n : Nat} {X : Nat → It} {i : Nat} (hi : i < n) (b : Bool) (a : Int) : (prg n X).sz i b a = szT (X i) b a := if_pos hi
theorem prg_ok {n : Nat} {X : Nat → It} (h : ∀ i, i < n → rightT (X i) = true) : (prg n X).Ok where
  pos := fun i b a _ => by
    by_cases hi : i < n
    · rw [prg_sz hi]; exact (szT_bd (h i hi) b a).1
    · show 0 ≤ if i < n then _ else _; rw [if_neg hi]; exact Int.le_refl _
  mono := fun i b b' a a' hb ha haa => by
    by_cases hi : i < n
    · rw [prg_sz hi, prg_sz hi]
      unfold szT
      split
      · omega
      · split
        · cases b <;> cases b' <;> simp at hb ⊢ <;> omega
        · split
          · rename_i h4; exact mis_mono a a' _ (right_to (h i hi) h4) haa
          · omega
    · show a + (if i < n then _ else _) ≤ a' + (if i < n then _ else _); rw [if_neg hi, if_neg hi]; omega
  even := fun i b a ha => by
    by_cases hi : i < n
    · rw [prg_sz hi]
      unfold szT
      split
      · rcases siz_is (X i).i.f with e | e | e <;> rw [e] <;> rfl
      · split
        · cases b <;> rfl
        · split
          · rename_i h4; exact mis_even a _ (right_to (h i hi) h4) ha
          · rfl
    · show (if i < n then _ else _) % 2 = 0; rw [if_neg hi]; rfl
theorem size_wide {n : Nat} {X : Nat → It} {W : Nat → Bool} {sz : Nat → Int} (h : SzOk n X W sz) {i : Nat} (hi : i < n) (h2 : (X i).k = 2) : (sz i != 2) = W i := by
  rw [h i hi (by omega)]
  unfold szT
  rw [if_neg (by omega), if_pos h2]
  cases W i <;> rfl
end Go.Proofs.YtegefbndpkbooaaDoor.Asm

