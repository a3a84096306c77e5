/- Ram's function hands on all words of RAM that aren't nought, rising, each with its address: the iterator's contract. -/
import Derived.RangeFuncNested
import Derived.RangeFuncBound
import Derived.RangeFuncCalls
import Derived.RangeFuncLeaves
import Derived.Shelf.Abstract
import Derived.Shelf.RegionOpen
import Derived.WalkKit
import Derived.OwnWalkIn
import Derived.TacticsInMore
import Derived.LoopNIn
import Derived.LoopIn
import Derived.Test.YtiidicldbcabaaaMemLaws
import Derived.Test.YtiidicldbcabaaaMemMath
set_option linter.unusedVariables false
namespace Go.Proofs.Ytiidicldbcabaaa.Mem
open Go.RowKit Go.Shelf

attribute [local go_sem] Oper.semAt_some

/-- A place of RAM whose word isn't nought. -/
def Pl (g : Nat → Int) : Type := { i : Nat // i < 16384 ∧ g i ≠ 0 }
/-- Those below k, rising. -/
def upTo (g : Nat → Int) (k : Nat) : List (Pl g) := (List.range k).filterMap fun i => if h : i < 16384 ∧ g i ≠ 0 then some ⟨i, h⟩ else none
theorem upTo_zero (g : Nat → Int) : upTo g 0 = [] := rfl
theorem upTo_yes (g : Nat → Int) (k : Nat) (h : k < 16384 ∧ g k ≠ 0) : upTo g (k + 1) = upTo g k ++ [⟨k, h⟩] := by
  unfold upTo; rw [List.range_succ, List.filterMap_append]; simp only [List.filterMap_cons, List.filterMap_nil, dif_pos h]
theorem upTo_not (g : Nat → Int) (k : Nat) (h : g k = 0) : upTo g (k + 1) = upTo g k := by
  have hn : ¬ (k < 16384 ∧ g k ≠ 0) := fun e => e.2 h
  unfold upTo; rw [List.range_succ, List.filterMap_append]; simp only [List.filterMap_cons, List.filterMap_nil, dif_neg hn, List.append_nil]
theorem upTo_lt (g : Nat → Int) (k : Nat) (x : Pl g) (h : x ∈ upTo g k) : x.1 < k := by
  unfold upTo at h
  obtain ⟨i, hi, he⟩ := List.mem_filterMap.1 h
  split at he
  · cases he; exact List.mem_range.1 hi
  · cases he
theorem upTo_len (g : Nat → Int) (k : Nat) (hk : k ≤ 16384) : (upTo g k).length = cnt k g := by
  induction k with
  | zero => rfl
  | succ k ih =>
    rw [cnt_succ, ← ih (by omega)]
    by_cases h : g k = 0
    · rw [upTo_not g k h, if_pos h]; rfl
    · rw [upTo_yes g k ⟨by omega, h⟩, if_neg h, List.length_append]; rfl
theorem cnt_le (k : Nat) (g : Nat → Int) : cnt k g ≤ k := by
  unfold cnt; have := List.length_filter_le (fun i => g i != 0) (List.range k); simpa using this

abbrev encs (g : Nat → Int) (x : Pl g) : Array Value := #[.int .u32 (536870912 + 4 * (x.1 : Int)), .int .u32 (g x.1)]

theorem Ram_any (B : Nat) (w : World) :
    Calls Try.prog 17 #[.pointer (some ⟨B, 0, none⟩)] w fun e w' => e = .returned (.func (.func 25) #[] #[.pointer (some ⟨w.heap.size, 0, none⟩)]) ∧ w' = w.alloc (.cells #[.pointer (some ⟨B, 0, none⟩)] 25) := by
  go_enter Try.func17, Try.ntmps17
  go_wp2
  go_ret
  exact ⟨rfl, rfl⟩

set_option maxRecDepth 100000 in
set_option maxHeartbeats 2000000 in
theorem Ram1_stops (n : Nat) (hn : 1 ≤ n) (n₀ Bm B F R nf : Nat) (f g : Nat → Int) (w : World) (hn₀ : n₀ ≤ w.heap.size) (hR : R < n₀) (hbx : w.cell? ⟨Bm, 0, none⟩ = some (.pointer (some ⟨B, 0, none⟩))) (hI : Is w B F R nf f g) :
    SeqStopsK Fence.wide n Try.prog 25 #[.pointer (some ⟨Bm, 0, none⟩)] (encs g) (Below n₀) (fun xs => xs = upTo g 16384) (fun pre => ∃ j : Nat, ∃ h : j < 16384 ∧ g j ≠ 0, pre = upTo g j ++ [⟨j, h⟩]) 16384 w := fun l J Jx W hW hJ hJx hY h0 => by
  have hIW : Is W B F R nf f g := hI.below hW
  have hcb : W.cell? ⟨Bm, 0, none⟩ = some (.pointer (some ⟨B, 0, none⟩)) := (hW.cell (p := ⟨Bm, 0, none⟩) (World.block_lt_of_cell? w _ hbx)).trans hbx
  have hc1 := hIW.c1
  refine callsIn_of_wp Try.func25 rfl trivial ?_ rfl
  simp only [Try.ntmps25, List.size_toArray, List.length_cons, List.length_nil, Nat.reduceAdd, Nat.reduceSub, Array.replicate_succ, Array.replicate_zero, List.push_toArray, List.append_toArray, List.nil_append, List.cons_append]
  gi_wp2
  gi_loopw [10] (fun i wr => ∃ k : Nat, k ≤ 16384 ∧ i = .int .i64 k ∧ J (upTo g k) wr ∧ Below n₀ W wr) (fun i _ => 16384 - (intOf i).toNat)
  case atStart => exact ⟨0, Nat.zero_le _, rfl, h0, Below.refl _ _⟩
  case round =>
    obtain ⟨k, hk, rfl, hJs, hnx⟩ := hrel
    by_cases hlt : k < 16384
    · have hck : wr.cell? ⟨R, k, none⟩ = some (.int .u32 (g k)) := (hnx.cell (p := ⟨R, k, none⟩) hR).trans (hIW.cr k hlt)
      have hk2 : (k : Int) < 16384 := by omega
      by_cases hz : g k = 0
      · have HU : Hid (upTo g (k + 1) = upTo g k) := upTo_not g k hz
        gi_wp2
        refine ⟨fun _ h => (by cases h), ?_⟩
        gi_wp2
        go_roundw
        case rel => exact ⟨k + 1, by omega, by simp, by rw [HU.out]; exact hJs, hnx⟩
        case measure => simp [intOf]; omega
      · have HU : Hid (upTo g (k + 1) = upTo g k ++ [⟨k, hlt, hz⟩]) := upTo_yes g k ⟨hlt, hz⟩
        have hd : (g k != 0) = true := by simpa using hz
        obtain ⟨fn, tmps, assign, body, hy, hR⟩ := hY _ (⟨k, hlt, hz⟩ : Pl g) wr hJs (by have := upTo_len g k hk; have := cnt_le k g; omega)
        dsimp only [encs] at hy
        gi_wp2
        refine hR.mono ?_
        rintro e W3 (⟨rfl, hJ3, hk3⟩ | ⟨rfl, hJx3⟩)
        · gi_wp2
          go_roundw
          case rel => exact ⟨k + 1, by omega, by simp, by rw [HU.out]; exact hJ3, hnx.trans hk3⟩
          case measure => simp [intOf]; omega
        · gi_wp2
          refine bodyPost_ret (results_none rfl _ _ _) rfl ?_
          exact ⟨⟨_, rfl⟩, .inr ⟨_, ⟨k, ⟨hlt, hz⟩, rfl⟩, hJx3⟩⟩
    · obtain rfl : k = 16384 := by omega
      gi_wp2
      go_end0
      exact ⟨⟨_, rfl⟩, .inl ⟨_, rfl, hJs⟩⟩

end Go.Proofs.Ytiidicldbcabaaa.Mem

