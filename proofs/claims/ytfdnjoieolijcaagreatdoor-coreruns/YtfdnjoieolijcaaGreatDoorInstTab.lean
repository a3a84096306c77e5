/- What the document's tables of shapes and bits answer: contracts. -/
import Derived.Test.YtfdnjoieolijcaaGreatDoorInstWalks
import Derived.Great.BuildSlice
import Derived.Deep.WholeRow
set_option linter.unusedVariables false
namespace Go.Proofs.YtfdnjoieolijcaaGreatDoor.Inst
open Go.RowKit Go.Proofs.YtfdnjoieolijcaaGreatDoor.Alu Go.Proofs.YtfdnjoieolijcaaGreatDoor.Imm

def refS : List Int := shpL.tail
def zerS : Array Value := Array.replicate 100 (.int .i64 0)
def tabS : Array Value := (refS.map (Value.int .i64)).toArray
theorem tabS_at (n : Nat) (h0 : 0 < n) (h : n ≤ 100) : tabS[n - 1]? = some (.int .i64 (shpL.getD n 0)) := by
  have e : shpL.tail[n - 1]? = shpL[n - 1 + 1]? := by rw [List.getElem?_tail]
  have hl : shpL.length = 101 := by decide +kernel
  have hn : n - 1 + 1 = n := by omega
  rw [hn] at e
  unfold tabS refS
  simp only [List.getElem?_toArray, List.getElem?_map, e, List.getD_eq_getElem?_getD]
  rw [List.getElem?_eq_getElem (by omega)]; rfl
theorem zeroS : ∀ w, (zeroValue 159).run Tryz.prog w = .ok (.agg zerS) w :=
  (zero_of_info (P := Tryz.prog) (t := 159) (v := .agg zerS) (n := 100) (by kernel_rfl)).1

set_option maxRecDepth 100000 in
theorem refShape_any (f : Int) (w : World) :
    Calls Tryz.prog 40 #[.int .i64 f] w fun e w' => e = .returned (.int .i64 (shp f)) ∧ Below w.heap.size w w' := by
  have hz := zeroS
  by_cases h : 1 ≤ f ∧ f ≤ 100
  · have ht := tabS_at f.toNat (by omega) (by omega)
    have HE : Hid (shpL.getD f.toNat 0 = shp f) := by unfold shp; rw [if_pos (isF_yes h)]; exact rfl
    generalize shpL.getD f.toNat 0 = s at *
    go_enter Tryz.func40, Tryz.ntmps40
    go_wp2_with (first
      | (refine wpList_buildFlatArr rfl 159 3 100 _ rfl .i64 refS (by kernel_rfl) (by kernel_rfl) (by kernel_rfl) (by kernel_rfl) ?_; change wpList _ _ _ _ (Act.put _ _ (.agg tabS)) _)
      | (refine wpList_store_rowTo rfl 159 _ _ rfl rfl _ tabS rfl rfl 159 zerS (heap_alloc_last _ _) (by kernel_rfl) (by kernel_rfl) (by kernel_rfl) ?_; rw [World.setRow_alloc_new]))
    go_ret
    exact ⟨ret_int HE.out, (Below.refl _ _).alloc (Nat.le_refl _) _⟩
  · have HE : Hid (shp f = 0) := by unfold shp; rw [isF_no h]; exact rfl
    go_enter Tryz.func40, Tryz.ntmps40
    go_wp2_with (first
      | (refine wpList_buildFlatArr rfl 159 3 100 _ rfl .i64 refS (by kernel_rfl) (by kernel_rfl) (by kernel_rfl) (by kernel_rfl) ?_; change wpList _ _ _ _ (Act.put _ _ (.agg tabS)) _)
      | (refine wpList_store_rowTo rfl 159 _ _ rfl rfl _ tabS rfl rfl 159 zerS (heap_alloc_last _ _) (by kernel_rfl) (by kernel_rfl) (by kernel_rfl) ?_; rw [World.setRow_alloc_new]))
    all_goals
      first
      | (exfalso; omega)
      | (go_ret
         exact ⟨ret_int HE.out.symm, (Below.refl _ _).alloc (Nat.le_refl _) _⟩)

def refB : List Int := bitL.tail
def zerB : Array Value := Array.replicate 100 (.int .u32 0)
def tabB : Array Value := (refB.map (Value.int .u32)).toArray
theorem tabB_at (n : Nat) (h0 : 0 < n) (h : n ≤ 100) : tabB[n - 1]? = some (.int .u32 (bitL.getD n 0)) := by
  have e : bitL.tail[n - 1]? = bitL[n - 1 + 1]? := by rw [List.getElem?_tail]
  have hl : bitL.length = 101 := by decide +kernel
  have hn : n - 1 + 1 = n := by omega
  rw [hn] at e
  unfold tabB refB
  simp only [List.getElem?_toArray, List.getElem?_map, e, List.getD_eq_getElem?_getD]
  rw [List.getElem?_eq_getElem (by omega)]; rfl
theorem zeroB : ∀ w, (zeroValue 211).run Tryz.prog w = .ok (.agg zerB) w :=
  (zero_of_info (P := Tryz.prog) (t := 211) (v := .agg zerB) (n := 100) (by kernel_rfl)).1

set_option maxRecDepth 100000 in
theorem refBits_any (f : Int) (w : World) :
    Calls Tryz.prog 109 #[.int .i64 f] w fun e w' => e = .returned (.int .u32 (bts f)) ∧ Below w.heap.size w w' := by
  have hz := zeroB
  by_cases h : 1 ≤ f ∧ f ≤ 100
  · have ht := tabB_at f.toNat (by omega) (by omega)
    have HE : Hid (bitL.getD f.toNat 0 = bts f) := by unfold bts; rw [if_pos (isF_yes h)]; exact rfl
    generalize bitL.getD f.toNat 0 = s at *
    go_enter Tryz.func109, Tryz.ntmps109
    go_wp2_with (first
      | (refine wpList_buildFlatArr rfl 211 24 100 _ rfl .u32 refB (by kernel_rfl) (by kernel_rfl) (by kernel_rfl) (by kernel_rfl) ?_; change wpList _ _ _ _ (Act.put _ _ (.agg tabB)) _)
      | (refine wpList_store_rowTo rfl 211 _ _ rfl rfl _ tabB rfl rfl 211 zerB (heap_alloc_last _ _) (by kernel_rfl) (by kernel_rfl) (by kernel_rfl) ?_; rw [World.setRow_alloc_new]))
    go_ret
    exact ⟨ret_int HE.out, (Below.refl _ _).alloc (Nat.le_refl _) _⟩
  · have HE : Hid (bts f = 0) := by unfold bts; rw [isF_no h]; exact rfl
    go_enter Tryz.func109, Tryz.ntmps109
    go_wp2_with (first
      | (refine wpList_buildFlatArr rfl 211 24 100 _ rfl .u32 refB (by kernel_rfl) (by kernel_rfl) (by kernel_rfl) (by kernel_rfl) ?_; change wpList _ _ _ _ (Act.put _ _ (.agg tabB)) _)
      | (refine wpList_store_rowTo rfl 211 _ _ rfl rfl _ tabB rfl rfl 211 zerB (heap_alloc_last _ _) (by kernel_rfl) (by kernel_rfl) (by kernel_rfl) ?_; rw [World.setRow_alloc_new]))
    all_goals
      first
      | (exfalso; omega)
      | (go_ret
         exact ⟨ret_int HE.out.symm, (Below.refl _ _).alloc (Nat.le_refl _) _⟩)

end Go.Proofs.YtfdnjoieolijcaaGreatDoor.Inst

