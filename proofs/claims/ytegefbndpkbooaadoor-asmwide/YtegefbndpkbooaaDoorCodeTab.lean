/- The document's table of fields: of a shape which field, from which of its bits on, at which bit of the word, how many. -/
import Derived.WalkKit
set_option linter.unusedVariables false
namespace Go.Proofs.YtegefbndpkbooaaDoor.Code

def tabL : List (List (List Int)) := [[], [[4, 0, 6, 5], [2, 0, 3, 3], [0, 0, 0, 3]], [[2, 0, 6, 3], [1, 0, 3, 3], [0, 0, 0, 3]], [[4, 0, 6, 3], [1, 0, 3, 3], [0, 0, 0, 3]], [[0, 0, 8, 3], [4, 0, 0, 8]], [[2, 0, 3, 3], [0, 0, 0, 3]], [[0, 3, 7, 1], [2, 0, 3, 4], [0, 0, 0, 3]], [[2, 0, 3, 4]], [[0, 0, 8, 3], [4, 2, 0, 8]], [[4, 2, 6, 5], [1, 0, 3, 3], [0, 0, 0, 3]], [[4, 2, 0, 7]], [[9, 14, 8, 1], [9, 0, 0, 8]], [[9, 15, 8, 1], [9, 0, 0, 8]], [], [[4, 0, 0, 8]], [[8, 0, 8, 4], [4, 1, 0, 8]], [[4, 1, 0, 11]], [[4, 11, 26, 1], [4, 12, 16, 4], [4, 8, 12, 3], [4, 0, 0, 8], [0, 0, 8, 4]], [[4, 11, 26, 1], [4, 8, 12, 3], [4, 0, 0, 8], [7, 0, 20, 1], [1, 0, 16, 4], [0, 0, 8, 4]], [[4, 11, 26, 1], [4, 8, 12, 3], [4, 0, 0, 8], [7, 0, 20, 1], [0, 0, 8, 4]], [[4, 11, 26, 1], [4, 8, 12, 3], [4, 0, 0, 8], [1, 0, 16, 4]], [[6, 2, 12, 3], [6, 0, 6, 2], [5, 0, 4, 2], [7, 0, 20, 1], [1, 0, 16, 4], [0, 0, 8, 4], [2, 0, 0, 4]], [[6, 2, 12, 3], [6, 0, 6, 2], [5, 0, 4, 2], [7, 0, 20, 1], [0, 0, 8, 4], [2, 0, 0, 4]], [[6, 2, 12, 3], [6, 0, 6, 2], [5, 0, 4, 2], [1, 0, 16, 4], [2, 0, 0, 4]], [[4, 11, 26, 1], [4, 8, 12, 3], [4, 0, 0, 8], [1, 0, 16, 4], [0, 0, 8, 4]], [[1, 0, 16, 4], [0, 0, 12, 4], [4, 0, 0, 12]], [[1, 0, 16, 4], [0, 0, 12, 4], [6, 0, 4, 2], [2, 0, 0, 4]], [[7, 0, 20, 1], [1, 0, 16, 4], [0, 0, 8, 4], [2, 0, 0, 4]], [[1, 0, 16, 4], [0, 0, 8, 4], [2, 0, 0, 4]], [[1, 0, 16, 4], [3, 0, 12, 4], [0, 0, 8, 4], [2, 0, 0, 4]], [[1, 0, 16, 4], [3, 0, 12, 4], [0, 0, 8, 4], [2, 0, 0, 4]], [[1, 0, 16, 4], [0, 0, 12, 4], [3, 0, 8, 4], [2, 0, 0, 4]], [[2, 0, 16, 4], [0, 0, 8, 4], [2, 0, 0, 4]], [[4, 20, 26, 1], [8, 0, 22, 4], [4, 12, 16, 6], [4, 18, 13, 1], [4, 19, 11, 1], [4, 1, 0, 11]], [[4, 24, 26, 1], [4, 12, 16, 10], [4, 23, 13, 1], [4, 22, 11, 1], [4, 1, 0, 11]]]
def fl (s : Int) : List (List Int) := tabL.getD s.toNat []
/-- A table's numbers in a row. -/
def flat : List (List Int) → List Int
  | [] => []
  | r :: l => r ++ flat l
def ent (l : List (List Int)) (k j : Nat) : Int := (l.getD k []).getD j 0
theorem fl_1 : fl 1 = [[4, 0, 6, 5], [2, 0, 3, 3], [0, 0, 0, 3]] := rfl
theorem fl_2 : fl 2 = [[2, 0, 6, 3], [1, 0, 3, 3], [0, 0, 0, 3]] := rfl
theorem fl_3 : fl 3 = [[4, 0, 6, 3], [1, 0, 3, 3], [0, 0, 0, 3]] := rfl
theorem fl_4 : fl 4 = [[0, 0, 8, 3], [4, 0, 0, 8]] := rfl
theorem fl_5 : fl 5 = [[2, 0, 3, 3], [0, 0, 0, 3]] := rfl
theorem fl_6 : fl 6 = [[0, 3, 7, 1], [2, 0, 3, 4], [0, 0, 0, 3]] := rfl
theorem fl_7 : fl 7 = [[2, 0, 3, 4]] := rfl
theorem fl_8 : fl 8 = [[0, 0, 8, 3], [4, 2, 0, 8]] := rfl
theorem fl_9 : fl 9 = [[4, 2, 6, 5], [1, 0, 3, 3], [0, 0, 0, 3]] := rfl
theorem fl_10 : fl 10 = [[4, 2, 0, 7]] := rfl
theorem fl_11 : fl 11 = [[9, 14, 8, 1], [9, 0, 0, 8]] := rfl
theorem fl_12 : fl 12 = [[9, 15, 8, 1], [9, 0, 0, 8]] := rfl
theorem fl_13 : fl 13 = [] := rfl
theorem fl_14 : fl 14 = [[4, 0, 0, 8]] := rfl
theorem fl_15 : fl 15 = [[8, 0, 8, 4], [4, 1, 0, 8]] := rfl
theorem fl_16 : fl 16 = [[4, 1, 0, 11]] := rfl
theorem fl_17 : fl 17 = [[4, 11, 26, 1], [4, 12, 16, 4], [4, 8, 12, 3], [4, 0, 0, 8], [0, 0, 8, 4]] := rfl
theorem fl_18 : fl 18 = [[4, 11, 26, 1], [4, 8, 12, 3], [4, 0, 0, 8], [7, 0, 20, 1], [1, 0, 16, 4], [0, 0, 8, 4]] := rfl
theorem fl_19 : fl 19 = [[4, 11, 26, 1], [4, 8, 12, 3], [4, 0, 0, 8], [7, 0, 20, 1], [0, 0, 8, 4]] := rfl
theorem fl_20 : fl 20 = [[4, 11, 26, 1], [4, 8, 12, 3], [4, 0, 0, 8], [1, 0, 16, 4]] := rfl
theorem fl_21 : fl 21 = [[6, 2, 12, 3], [6, 0, 6, 2], [5, 0, 4, 2], [7, 0, 20, 1], [1, 0, 16, 4], [0, 0, 8, 4], [2, 0, 0, 4]] := rfl
theorem fl_22 : fl 22 = [[6, 2, 12, 3], [6, 0, 6, 2], [5, 0, 4, 2], [7, 0, 20, 1], [0, 0, 8, 4], [2, 0, 0, 4]] := rfl
theorem fl_23 : fl 23 = [[6, 2, 12, 3], [6, 0, 6, 2], [5, 0, 4, 2], [1, 0, 16, 4], [2, 0, 0, 4]] := rfl
theorem fl_24 : fl 24 = [[4, 11, 26, 1], [4, 8, 12, 3], [4, 0, 0, 8], [1, 0, 16, 4], [0, 0, 8, 4]] := rfl
theorem fl_25 : fl 25 = [[1, 0, 16, 4], [0, 0, 12, 4], [4, 0, 0, 12]] := rfl
theorem fl_26 : fl 26 = [[1, 0, 16, 4], [0, 0, 12, 4], [6, 0, 4, 2], [2, 0, 0, 4]] := rfl
theorem fl_27 : fl 27 = [[7, 0, 20, 1], [1, 0, 16, 4], [0, 0, 8, 4], [2, 0, 0, 4]] := rfl
theorem fl_28 : fl 28 = [[1, 0, 16, 4], [0, 0, 8, 4], [2, 0, 0, 4]] := rfl
theorem fl_29 : fl 29 = [[1, 0, 16, 4], [3, 0, 12, 4], [0, 0, 8, 4], [2, 0, 0, 4]] := rfl
theorem fl_30 : fl 30 = [[1, 0, 16, 4], [3, 0, 12, 4], [0, 0, 8, 4], [2, 0, 0, 4]] := rfl
theorem fl_31 : fl 31 = [[1, 0, 16, 4], [0, 0, 12, 4], [3, 0, 8, 4], [2, 0, 0, 4]] := rfl
theorem fl_32 : fl 32 = [[2, 0, 16, 4], [0, 0, 8, 4], [2, 0, 0, 4]] := rfl
theorem fl_33 : fl 33 = [[4, 20, 26, 1], [8, 0, 22, 4], [4, 12, 16, 6], [4, 18, 13, 1], [4, 19, 11, 1], [4, 1, 0, 11]] := rfl
theorem fl_34 : fl 34 = [[4, 24, 26, 1], [4, 12, 16, 10], [4, 23, 13, 1], [4, 22, 11, 1], [4, 1, 0, 11]] := rfl

theorem ent_fin : ∀ s : Fin 35, ∀ k : Fin 7, k.val < (tabL.getD s.val []).length → 0 ≤ ent (tabL.getD s.val []) k.val 0 ∧ ent (tabL.getD s.val []) k.val 0 ≤ 9 ∧ 0 ≤ ent (tabL.getD s.val []) k.val 1 ∧ ent (tabL.getD s.val []) k.val 1 ≤ 24 ∧ 0 ≤ ent (tabL.getD s.val []) k.val 2 ∧ ent (tabL.getD s.val []) k.val 2 ≤ 31 ∧ 1 ≤ ent (tabL.getD s.val []) k.val 3 ∧ ent (tabL.getD s.val []) k.val 3 ≤ 12 ∧ ent (tabL.getD s.val []) k.val 2 + ent (tabL.getD s.val []) k.val 3 ≤ 32 := by decide +kernel
theorem len_fin : ∀ s : Fin 35, (tabL.getD s.val []).length ≤ 7 ∧ (flat (tabL.getD s.val [])).length = 4 * (tabL.getD s.val []).length := by decide +kernel
theorem flat_fin : ∀ s : Fin 35, ∀ k : Fin 7, ∀ j : Fin 4, k.val < (tabL.getD s.val []).length → (flat (tabL.getD s.val []))[4 * k.val + j.val]? = some (ent (tabL.getD s.val []) k.val j.val) := by decide +kernel
theorem ent_bd (s : Int) (h0 : 0 ≤ s) (h1 : s ≤ 34) (k : Nat) (hk : k < (fl s).length) : 0 ≤ ent (fl s) k 0 ∧ ent (fl s) k 0 ≤ 9 ∧ 0 ≤ ent (fl s) k 1 ∧ ent (fl s) k 1 ≤ 24 ∧ 0 ≤ ent (fl s) k 2 ∧ ent (fl s) k 2 ≤ 31 ∧ 1 ≤ ent (fl s) k 3 ∧ ent (fl s) k 3 ≤ 12 ∧ ent (fl s) k 2 + ent (fl s) k 3 ≤ 32 := by
  have hl := (len_fin ⟨s.toNat, by omega⟩).1
  exact ent_fin ⟨s.toNat, by omega⟩ ⟨k, Nat.lt_of_lt_of_le hk hl⟩ hk
theorem len_bd (s : Int) (h0 : 0 ≤ s) (h1 : s ≤ 34) : (fl s).length ≤ 7 := (len_fin ⟨s.toNat, by omega⟩).1
theorem flat_at (s : Int) (h0 : 0 ≤ s) (h1 : s ≤ 34) (k j : Nat) (hk : k < (fl s).length) (hj : j < 4) : (flat (fl s))[4 * k + j]? = some (ent (fl s) k j) := by
  have hl := (len_fin ⟨s.toNat, by omega⟩).1
  exact flat_fin ⟨s.toNat, by omega⟩ ⟨k, Nat.lt_of_lt_of_le hk hl⟩ ⟨j, hj⟩ hk

end Go.Proofs.YtegefbndpkbooaaDoor.Code

