/- A machine's state is set: package core. -/
import Derived.Test.YtfdnjoieolijcaaGreatDoorCoreOwn
set_option linter.unusedVariables false
namespace Go.Proofs.YtfdnjoieolijcaaGreatDoor.Core
open Go.RowKit Go.Proofs.YtfdnjoieolijcaaGreatDoor.Mem Go.Proofs.YtfdnjoieolijcaaGreatDoor.Alu

/-- Cells from a place on are others. -/
def upd : Array Value → Nat → List Value → Array Value
  | cs, _, [] => cs
  | cs, o, v :: r => upd (cs.setIfInBounds o v) (o + 1) r
theorem setCells_heap (b : Nat) (t : TypeId) : ∀ (vs : List Value) (o : Nat) (cs : Array Value) (w : World), w.heap[b]? = some (.cells cs t (0, 0)) → (w.setCells b o vs).heap[b]? = some (.cells (upd cs o vs) t (0, 0))
  | [], _, _, _, h => h
  | v :: r, o, cs, w, h => by
    rw [World.setCells]
    exact setCells_heap b t r (o + 1) _ _ (setRam_heap w o v h)
theorem setCells_off (b : Nat) : ∀ (vs : List Value) (o : Nat) (w : World), Off [b] w (w.setCells b o vs)
  | [], _, w => Off.refl _ _
  | v :: r, o, w => by
    rw [World.setCells]
    exact ((Off.refl [b] w).set (p := ⟨b, o, none⟩) (by simp) v).trans (setCells_off b r (o + 1) _)
theorem Mx.there {w : World} {C : Nat} {M : Mc} (h : Mx w C M) : w.there C 2 20 := fun j hj => by
  refine ⟨?_, h.free _⟩
  have hs : (mcc M).size = 27 := rfl
  rw [cell_of_row w C (2 + j) (mcc M) _ _ h, Array.getElem?_eq_getElem (by omega)]; rfl
theorem Mx.setS {w : World} {C : Nat} {M : Mc} (h : Mx w C M) (s : St) : Mx (w.setCells C 2 (stv s).toList) C { M with s := s } := by
  have e : upd (mcc M) 2 (stv s).toList = mcc { M with s := s } := by
    simp only [stv, mcc, upd, List.setIfInBounds_toArray, List.set_cons_zero, List.set_cons_succ]
  have := setCells_heap C _ (stv s).toList 2 _ w h
  rw [e] at this
  exact this

set_option maxHeartbeats 2000000 in
theorem SetC_any {w : World} {C : Nat} {M : Mc} (h : Mx w C M) (s : St) :
    Calls Tryz.prog 10 #[.pointer (some ⟨C, 0, none⟩), .agg (stv s)] w fun e w' => e = .returned (.tuple #[]) ∧ Mx w' C { M with s := bitsS s } ∧ Off [C] w w' := by
  have HX := hide (Sx.new w s)
  have hB := (Below.refl w.heap.size w).alloc (Nat.le_refl _) (.cells (stv s) 27)
  go_enter Tryz.func10, Tryz.ntmps10
  go_wp2_with (refine wpList_load_row rfl 27 (.tmp 3) rfl _ rfl 27 _ (0, 0) _ (unhide HX) Tryz.underlying27 rfl info_st ?_)
  refine (withBits_any s _).mono ?_
  rintro e w1 ⟨rfl, hb1⟩
  have hb2 : Below w.heap.size w w1 := hB.trans (hb1.mono hB.size)
  have h1 : Mx w1 C M := h.below hb2
  have HT := hide h1.there
  clear hb1 hB
  go_wp2_with (refine wpList_store_mid rfl 27 (.tmp 8) (.tmp 6) rfl C 2 (stv (bitsS s)) rfl rfl (unhide HT) info_st (one_st _) ?_)
  go_end0
  exact ⟨rfl, h1.setS _, (Off.of_below hb2).trans (setCells_off C _ 2 _)⟩
end Go.Proofs.YtfdnjoieolijcaaGreatDoor.Core

