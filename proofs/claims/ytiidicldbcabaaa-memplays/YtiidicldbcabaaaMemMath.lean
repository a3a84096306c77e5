/- Words that were stored, as a list: what is loaded of them, and how many are not nought. Plain maths, no program. -/
import Derived.ProofKit
set_option linter.unusedVariables false
namespace Go.Proofs.Ytiidicldbcabaaa.Mem

/-- The word at an address: the last one of the list that has it, else nought. -/
def ld (L : List (Int × Int)) (a : Int) : Int := L.foldl (fun x e => if e.1 = a then e.2 else x) 0
/-- What was stored, with one word more: the elder one of that address goes. -/
def st (L : List (Int × Int)) (a x : Int) : List (Int × Int) := L.filter (fun e => e.1 != a) ++ [(a, x)]

theorem ld_nil (a : Int) : ld [] a = 0 := rfl
theorem ld_snoc (L : List (Int × Int)) (e : Int × Int) (a : Int) : ld (L ++ [e]) a = if e.1 = a then e.2 else ld L a := by
  unfold ld; rw [List.foldl_append]; rfl
theorem fold_none (L : List (Int × Int)) (a : Int) (h : ∀ e ∈ L, e.1 ≠ a) : ∀ x, L.foldl (fun x e => if e.1 = a then e.2 else x) x = x := by
  induction L with
  | nil => intro x; rfl
  | cons e L ih =>
    intro x
    rw [List.foldl_cons, if_neg (h e (by simp))]
    exact ih (fun f hf => h f (by simp [hf])) x
theorem ld_none (L : List (Int × Int)) (a : Int) (h : ∀ e ∈ L, e.1 ≠ a) : ld L a = 0 := fold_none L a h 0
theorem ld_filter (L : List (Int × Int)) (a b : Int) (h : b ≠ a) : ld (L.filter (fun e => e.1 != a)) b = ld L b := by
  unfold ld
  generalize (0 : Int) = x
  induction L generalizing x with
  | nil => rfl
  | cons e L ih =>
    by_cases he : e.1 = a
    · rw [List.filter_cons_of_neg (by simp [he]), List.foldl_cons, if_neg (by omega)]; exact ih x
    · rw [List.filter_cons_of_pos (by simp [he]), List.foldl_cons, List.foldl_cons]; exact ih _
theorem ld_st (L : List (Int × Int)) (a x b : Int) : ld (st L a x) b = if a = b then x else ld L b := by
  unfold st; rw [ld_snoc]
  by_cases h : a = b
  · rw [if_pos h, if_pos h]
  · rw [if_neg h, if_neg h, ld_filter L a b (fun e => h e.symm)]

/-- Each address just once. -/
def Apart (L : List (Int × Int)) : Prop := (L.map (·.1)).Nodup
theorem apart_nil : Apart [] := List.nodup_nil
theorem apart_st (L : List (Int × Int)) (a x : Int) (h : Apart L) : Apart (st L a x) := by
  unfold Apart st
  rw [List.map_append, List.nodup_append]
  refine ⟨List.Nodup.sublist (List.Sublist.map _ List.filter_sublist) h, by simp, ?_⟩
  intro b hb c hc
  simp only [List.map_cons, List.map_nil, List.mem_singleton] at hc
  subst hc
  obtain ⟨e, he, rfl⟩ := List.mem_map.1 hb
  have := (List.mem_filter.1 he).2
  simpa using this
theorem len_st (L : List (Int × Int)) (a x : Int) : (st L a x).length ≤ L.length + 1 := by
  unfold st; rw [List.length_append]; have := List.length_filter_le (fun e : Int × Int => e.1 != a) L; simp; omega
theorem mem_st {L : List (Int × Int)} {a x : Int} {e : Int × Int} (h : e ∈ st L a x) : e ∈ L ∨ e = (a, x) := by
  unfold st at h
  rcases List.mem_append.1 h with h | h
  · exact .inl (List.mem_filter.1 h).1
  · exact .inr (by simpa using h)

/-- How many of the first n numbers a word other than nought belongs to. -/
def cnt (n : Nat) (f : Nat → Int) : Nat := ((List.range n).filter (fun i => f i != 0)).length
theorem cnt_zero (f : Nat → Int) : cnt 0 f = 0 := rfl
theorem cnt_succ (n : Nat) (f : Nat → Int) : cnt (n + 1) f = cnt n f + if f n = 0 then 0 else 1 := by
  unfold cnt
  rw [List.range_succ, List.filter_append, List.length_append]
  by_cases h : f n = 0 <;> simp [h]
theorem cnt_same (n : Nat) (f g : Nat → Int) (h : ∀ i, i < n → f i = g i) : cnt n f = cnt n g := by
  induction n with
  | zero => rfl
  | succ n ih => rw [cnt_succ, cnt_succ, ih (fun i hi => h i (by omega)), h n (by omega)]
theorem cnt_none (n : Nat) : cnt n (fun _ => 0) = 0 := by
  induction n with
  | zero => rfl
  | succ n ih => rw [cnt_succ, ih]; rfl
theorem cnt_put (n j : Nat) (f : Nat → Int) (x : Int) (hj : j < n) (h : f j = 0) : cnt n (fun i => if i = j then x else f i) = cnt n f + if x = 0 then 0 else 1 := by
  induction n with
  | zero => omega
  | succ n ih =>
    rw [cnt_succ, cnt_succ]
    by_cases hn : j = n
    · subst hn
      rw [cnt_same j (fun i => if i = j then x else f i) f (fun i hi => if_neg (by omega)), if_pos rfl, h]
      simp
    · rw [ih (by omega), show (if n = j then x else f n) = f n from if_neg (fun e => hn e.symm)]; omega

/-- As many words of RAM aren't nought as of the list. -/
theorem cnt_list (B : Int) (n : Nat) (L : List (Int × Int)) (h : Apart L) (hk : ∀ e ∈ L, ∃ i, i < n ∧ e.1 = B + 4 * (i : Nat)) : cnt n (fun i => ld L (B + 4 * (i : Nat))) = (L.filter (fun e => e.2 != 0)).length := by
  suffices H : ∀ M : List (Int × Int), Apart M.reverse → (∀ e ∈ M, ∃ i, i < n ∧ e.1 = B + 4 * (i : Nat)) → cnt n (fun i => ld M.reverse (B + 4 * (i : Nat))) = (M.reverse.filter (fun e => e.2 != 0)).length by
    have := H L.reverse (by rw [List.reverse_reverse]; exact h) (fun e he => hk e (List.mem_reverse.1 he))
    rwa [List.reverse_reverse] at this
  intro M
  induction M with
  | nil => intro _ _; exact cnt_none n
  | cons e M ih =>
    intro hA hM
    rw [List.reverse_cons] at hA ⊢
    unfold Apart at hA
    rw [List.map_append, List.nodup_append] at hA
    obtain ⟨j, hj, hej⟩ := hM e (by simp)
    have h0 : ld M.reverse (B + 4 * (j : Nat)) = 0 := ld_none _ _ (fun f hf => by
      have := hA.2.2 f.1 (List.mem_map.2 ⟨f, hf, rfl⟩) e.1 (by simp)
      omega)
    have hih := ih hA.1 (fun f hf => hM f (by simp [hf]))
    have hs := cnt_same n (fun i => ld (M.reverse ++ [e]) (B + 4 * (i : Nat))) (fun i => if i = j then e.2 else ld M.reverse (B + 4 * (i : Nat))) (fun i hi => by
      show ld (M.reverse ++ [e]) (B + 4 * (i : Nat)) = if i = j then e.2 else ld M.reverse (B + 4 * (i : Nat))
      rw [ld_snoc, hej]
      by_cases hij : i = j
      · subst hij; rw [if_pos rfl, if_pos rfl]
      · rw [if_neg (by omega), if_neg hij])
    rw [hs, cnt_put n j (fun i => ld M.reverse (B + 4 * (i : Nat))) e.2 hj h0, hih, List.filter_append, List.length_append]
    by_cases hz : e.2 = 0 <;> simp [hz]

end Go.Proofs.Ytiidicldbcabaaa.Mem
