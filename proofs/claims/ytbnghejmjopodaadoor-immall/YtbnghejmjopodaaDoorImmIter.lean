/- imm.All's function hands on all numbers that have words, rising, each with its word: the iterator's contract. -/
import Derived.RangeFuncNested
import Derived.RangeFuncBound
import Derived.RangeFuncCalls
import Derived.RangeFuncLeaves
import Derived.Shelf.Abstract
import Derived.Shelf.RegionOpen
import Derived.WalkKit
import Derived.OwnWalkIn
import Derived.TacticsInMore
import Derived.LoopNIn
import Derived.LoopIn
import Derived.Test.YtbnghejmjopodaaDoorImmOf
set_option linter.unusedVariables false
namespace Go.Proofs.YtbnghejmjopodaaDoor.Imm
open Go.RowKit Go.Shelf Go.Proofs.YtbnghejmjopodaaDoor.Alu

attribute [local go_sem] Oper.semAt_some

/-- The numbers below j that have words, rising. -/
def upTo (j : Nat) : List Int := ((List.range j).map fun i : Nat => (i : Int)).filter has

theorem upTo_yes (j : Nat) (h : has j = true) : upTo (j + 1) = upTo j ++ [(j : Int)] := by
  unfold upTo; rw [List.range_succ, List.map_append, List.filter_append]; simp [h]
theorem upTo_not (j : Nat) (h : has j = false) : upTo (j + 1) = upTo j := by
  unfold upTo; rw [List.range_succ, List.map_append, List.filter_append]; simp [h]
theorem mem_upTo (j : Nat) (m : Int) : m ∈ upTo j ↔ 0 ≤ m ∧ m < j ∧ has m = true := by
  unfold upTo
  rw [List.mem_filter, List.mem_map]
  constructor
  · rintro ⟨⟨i, hi, rfl⟩, hh⟩
    rw [List.mem_range] at hi
    exact ⟨by omega, by omega, hh⟩
  · rintro ⟨h0, h1, hh⟩
    exact ⟨⟨m.toNat, by rw [List.mem_range]; omega, by omega⟩, hh⟩
theorem upTo_le (j : Nat) : (upTo j).length ≤ j := by
  unfold upTo
  have := List.length_filter_le has ((List.range j).map fun i : Nat => (i : Int))
  simpa using this
theorem upTo_gap (a : Nat) : ∀ d : Nat, (∀ m : Int, (a : Int) ≤ m → m < a + d → has m = false) → upTo (a + d) = upTo a
  | 0, _ => rfl
  | d + 1, h => by
    rw [← Nat.add_assoc, upTo_not _ (h _ (by omega) (by omega))]
    exact upTo_gap a d (fun m h0 h1 => h m h0 (by omega))

abbrev encs (k : Int) : Array Value := #[.int .i64 k, .int .u32 (wdA k)]

theorem Fac.below {n₀ : Nat} {W W' : World} (h : Fac W) (hb : Below n₀ W W') (h0 : 0 < n₀) : Fac W' :=
  ⟨(hb.cell (p := ⟨0, 0, none⟩) h0).trans h.c0, (hb.cell (p := ⟨0, 1, none⟩) h0).trans h.c1, (hb.cell (p := ⟨0, 2, none⟩) h0).trans h.c2, (hb.cell (p := ⟨0, 3, none⟩) h0).trans h.c3⟩

set_option maxRecDepth 100000 in
set_option maxHeartbeats 2000000 in
theorem All1_stops (n : Nat) (hn : 1 ≤ n) (n₀ : Nat) (h00 : 0 < n₀) (w : World) (hn₀ : n₀ ≤ w.heap.size) (hF : Fac w) :
    SeqStopsK Fence.wide n Tryd.prog 22 #[] encs (Below n₀) (fun xs => xs = upTo 4096) (fun pre => ∃ j : Nat, j < 4096 ∧ has j = true ∧ pre = upTo (j + 1)) 4096 w := fun l J Jx W hW hJ hJx hY h0 => by
  have hFW : Fac W := hF.below (hW.mono hn₀) h00
  refine callsIn_of_wp Tryd.func22 rfl trivial ?_ rfl
  simp only [Tryd.ntmps22, List.size_toArray, List.length_cons, List.length_nil, Nat.reduceAdd, Nat.reduceSub, Array.replicate_succ, Array.replicate_zero, List.push_toArray, List.append_toArray, List.nil_append, List.cons_append]
  gi_wp2
  gi_loopw [5] (fun i wr => ∃ k : Nat, k ≤ 4096 ∧ i = .int .i64 k ∧ J (upTo k) wr ∧ Below n₀ W wr) (fun i _ => 4096 - (intOf i).toNat)
  case atStart => exact ⟨0, Nat.zero_le _, rfl, h0, Below.refl _ _⟩
  case round =>
    obtain ⟨k, hk, rfl, hJs, hnx⟩ := hrel
    by_cases hlt : k < 4096
    · have hFr : Fac wr := hFW.below hnx h00
      cases hh : has (k : Int)
      · have he := er_no (n := (k : Int)) (by omega) (by omega) hh
        gi_wp2_with (refine ⟨trivial, ?_⟩; gi_at_call 10; refine (callsIn_wide.2 (Word_any _ _ hFr)).mono ?_; rintro e w' ⟨rfl, rfl⟩)
        refine ⟨fun _ h => (by cases h), ?_⟩
        gi_wp2
        go_roundw
        case rel => exact ⟨k + 1, by omega, by simp, by rw [upTo_not k hh]; exact hJs, hnx⟩
        case measure => simp [intOf]; omega
      · have he := er_of (n := (k : Int)) (by omega) (by omega) hh
        obtain ⟨fn, tmps, assign, body, hy, hR⟩ := hY _ (k : Int) wr hJs (by have := upTo_le k; omega)
        dsimp only [encs] at hy
        gi_wp2_with (refine ⟨trivial, ?_⟩; gi_at_call 10; refine (callsIn_wide.2 (Word_any _ _ hFr)).mono ?_; rintro e w' ⟨rfl, rfl⟩)
        refine hR.mono ?_
        rintro e W3 (⟨rfl, hJ3, hk3⟩ | ⟨rfl, hJx3⟩)
        · gi_wp2
          go_roundw
          case rel => exact ⟨k + 1, by omega, by simp, by rw [upTo_yes k hh]; exact hJ3, hnx.trans hk3⟩
          case measure => simp [intOf]; omega
        · gi_wp2
          refine bodyPost_ret (results_none rfl _ _ _) rfl ?_
          exact ⟨⟨_, rfl⟩, .inr ⟨_, ⟨k, hlt, hh, (upTo_yes k hh).symm⟩, hJx3⟩⟩
    · obtain rfl : k = 4096 := by omega
      gi_wp2
      go_end0
      exact ⟨⟨_, rfl⟩, .inl ⟨_, rfl, hJs⟩⟩

end Go.Proofs.YtbnghejmjopodaaDoor.Imm
