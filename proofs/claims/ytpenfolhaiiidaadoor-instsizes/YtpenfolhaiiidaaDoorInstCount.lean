/- How many of the first forms have a shape: plain numbers. -/
import Derived.Test.YtpenfolhaiiidaaDoorInstMath
set_option linter.unusedVariables false
namespace Go.Proofs.YtpenfolhaiiidaaDoor.Inst

def cnt (s : Int) (j : Nat) : Int := ((shpL.tail.take j).count s : Nat)
def nar (j : Nat) : Int := if j ≤ 47 then j else 47
def wdn (j : Nat) : Int := if j ≤ 47 then 0 else j - 47

theorem shp_nat (j : Nat) (h : j < 100) : shpL.tail[j]? = some (shp ((j : Int) + 1)) := by
  have hl : shpL.length = 101 := by decide +kernel
  have e : ((j : Int) + 1).toNat = j + 1 := by omega
  unfold shp
  rw [if_pos (isF_yes (by omega)), e, List.getElem?_tail, List.getD_eq_getElem?_getD, List.getElem?_eq_getElem (by omega)]; rfl
theorem take_next (j : Nat) (h : j < 100) : shpL.tail.take (j + 1) = shpL.tail.take j ++ [shp ((j : Int) + 1)] := by
  rw [List.take_add_one, shp_nat j h]; rfl
theorem cnt_bd (s : Int) (j : Nat) : 0 ≤ cnt s j ∧ cnt s j ≤ j := by
  unfold cnt
  have h1 := List.count_le_length (a := s) (l := shpL.tail.take j)
  have h2 := List.length_take_le j shpL.tail
  omega
theorem cnt_yes (s : Int) (j : Nat) (h : j < 100) (e : shp ((j : Int) + 1) = s) : cnt s (j + 1) = cnt s j + 1 := by
  unfold cnt
  rw [take_next j h, List.count_append, e]; simp
theorem cnt_no (s : Int) (j : Nat) (h : j < 100) (e : shp ((j : Int) + 1) ≠ s) : cnt s (j + 1) = cnt s j := by
  unfold cnt
  rw [take_next j h, List.count_append]
  have : List.count s [shp ((j : Int) + 1)] = 0 := by rw [List.count_eq_zero]; simpa using fun h => e h.symm
  rw [this]; rfl
theorem cnt_fin : ∀ i : Fin 34, 0 < (shpL.tail.take 100).count ((i.val : Int) + 1) := by decide +kernel
theorem cnt_all : ∀ x ∈ shpL.tail.take 100, 1 ≤ x ∧ x ≤ 34 := by decide +kernel
theorem cnt_some (s : Int) (h1 : 1 ≤ s) (h2 : s ≤ 34) : 0 < cnt s 100 := by
  have := cnt_fin ⟨(s - 1).toNat, by omega⟩
  have e : (((s - 1).toNat : Nat) : Int) + 1 = s := by omega
  simp only [e] at this
  unfold cnt; omega
theorem cnt_none (s : Int) (h : s < 1 ∨ 34 < s) : cnt s 100 = 0 := by
  unfold cnt
  have : List.count s (shpL.tail.take 100) = 0 := by
    rw [List.count_eq_zero]; intro hm; have := cnt_all s hm; omega
  rw [this]; rfl

end Go.Proofs.YtpenfolhaiiidaaDoor.Inst
