/- What the document's tables of shapes and bits answer: contracts. -/
import Derived.Test.YtfdnjoieolijcaaDoorInstWalks
import Derived.Great.BuildSlice
import Derived.Deep.WholeRow
set_option linter.unusedVariables false
namespace Go.Proofs.YtfdnjoieolijcaaDoor.Inst
open Go.RowKit Go.Proofs.YtfdnjoieolijcaaDoor.Alu Go.Proofs.YtfdnjoieolijcaaDoor.Imm

def refS : List Int := shpL.tail
def zerS : Array Value := Array.replicate 100 (.int .i64 0)
def tabS : Array Value := (refS.map (Value.int .i64)).toArray
theorem tabS_at (n : Nat) (h0 : 0 < n) (h : n ≤ 100) : tabS[n - 1]? = some (.int .i64 (shpL.getD n 0)) := by
  have e : shpL.tail[n - 1]? = shpL[n - 1 + 1]? := by rw [List.getElem?_tail]
  have hl : shpL.length = 101 := by decide +kernel
  have hn : n - 1 + 1 = n := by omega
  rw [hn] at e
  unfold tabS refS
  simp only [List.getElem?_toArray, List.getElem?_map, e, List.getD_eq_getElem?_getD]
  rw [List.getElem?_eq_getElem (by omega)]; rfl
theorem zeroS : ∀ w, (zeroValue 85).run Tryd.prog w = .ok (.agg zerS) w :=
  (zero_of_info (P := Tryd.prog) (t := 85) (v := .agg zerS) (n := 100) (by kernel_rfl)).1

set_option maxRecDepth 100000 in
theorem refShape_any (f : Int) (w : World) :
    Calls Tryd.prog 44 #[.int .i64 f] w fun e w' => e = .returned (.int .i64 (shp f)) ∧ Below w.heap.size w w' := by
  have hz := zeroS
  by_cases h : 1 ≤ f ∧ f ≤ 100
  · have ht := tabS_at f.toNat (by omega) (by omega)
    have HE : Hid (shpL.getD f.toNat 0 = shp f) := by unfold shp; rw [if_pos (isF_yes h)]; exact rfl
    generalize shpL.getD f.toNat 0 = s at *
    go_enter Tryd.func44, Tryd.ntmps44
    go_wp2_with (first
      | (refine wpList_buildFlatArr rfl 85 3 100 _ rfl .i64 refS (by kernel_rfl) (by kernel_rfl) (by kernel_rfl) (by kernel_rfl) ?_; change wpList _ _ _ _ (Act.put _ _ (.agg tabS)) _)
      | (refine wpList_store_rowTo rfl 85 _ _ rfl rfl _ tabS rfl rfl 85 zerS (heap_alloc_last _ _) (by kernel_rfl) (by kernel_rfl) (by kernel_rfl) ?_; rw [World.setRow_alloc_new]))
    go_ret
    exact ⟨ret_int HE.out, (Below.refl _ _).alloc (Nat.le_refl _) _⟩
  · have HE : Hid (shp f = 0) := by unfold shp; rw [isF_no h]; exact rfl
    go_enter Tryd.func44, Tryd.ntmps44
    go_wp2_with (first
      | (refine wpList_buildFlatArr rfl 85 3 100 _ rfl .i64 refS (by kernel_rfl) (by kernel_rfl) (by kernel_rfl) (by kernel_rfl) ?_; change wpList _ _ _ _ (Act.put _ _ (.agg tabS)) _)
      | (refine wpList_store_rowTo rfl 85 _ _ rfl rfl _ tabS rfl rfl 85 zerS (heap_alloc_last _ _) (by kernel_rfl) (by kernel_rfl) (by kernel_rfl) ?_; rw [World.setRow_alloc_new]))
    all_goals
      first
      | (exfalso; omega)
      | (go_ret
         exact ⟨ret_int HE.out.symm, (Below.refl _ _).alloc (Nat.le_refl _) _⟩)

end Go.Proofs.YtfdnjoieolijcaaDoor.Inst

