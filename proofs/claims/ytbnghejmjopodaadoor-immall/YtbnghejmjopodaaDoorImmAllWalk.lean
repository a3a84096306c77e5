/- The statement ImmAll's own walk. -/
import Derived.Test.YtbnghejmjopodaaDoorImmIter
set_option linter.unusedVariables false
namespace Go.Proofs.YtbnghejmjopodaaDoor.Imm
open Go.RowKit Go.Shelf Go.Proofs.YtbnghejmjopodaaDoor.Alu

attribute [local go_sem] Oper.semAt_some

theorem All_any (w : World) :
    Calls Tryd.prog 16 #[] w fun e w' => e = .returned (.func (.func 22) #[] #[]) ∧ w' = w := by
  go_enter Tryd.func16, Tryd.ntmps16
  go_wp2
  go_ret
  exact ⟨rfl, rfl⟩

theorem upTo_end : (upTo 4096).length = 4093 := by decide +kernel

/-- No round of the iterator ends so: what came behind pre, k, is not the next number that has a word. -/
def Off (xs : List Int) : Prop := ∀ j : Nat, j < 4096 → has j = true → xs ≠ upTo (j + 1)

theorem off_of {last k : Int} (hl : -1 ≤ last) (h : ∀ j : Nat, j < 4096 → has j = true → k = j → upTo (last + 1).toNat = upTo j → False) : Off (upTo (last + 1).toNat ++ [k]) := by
  intro j hj hh e
  rw [upTo_yes j hh] at e
  obtain ⟨e1, e2⟩ := List.append_inj' e rfl
  exact h j hj hh (by simpa using e2) e1

theorem off_low {last k : Int} (hl : -1 ≤ last) (hk : k ≤ last) : Off (upTo (last + 1).toNat ++ [k]) :=
  off_of hl fun j hj hh e1 e2 => by
    have : (j : Int) ∈ upTo j := by rw [← e2, mem_upTo]; exact ⟨by omega, by omega, hh⟩
    rw [mem_upTo] at this
    omega
theorem off_none {last k : Int} (hl : -1 ≤ last) (hk : ¬ er k = 0) : Off (upTo (last + 1).toNat ++ [k]) :=
  off_of hl fun j hj hh e1 e2 => by
    subst e1
    exact hk (er_of (by omega) (by omega) hh)
theorem off_gap {last k m : Int} (hl : -1 ≤ last) (h0 : last < m) (h1 : m < k) (hm : has m = true) : Off (upTo (last + 1).toNat ++ [k]) :=
  off_of hl fun j hj hh e1 e2 => by
    subst e1
    have : m ∈ upTo (last + 1).toNat := by rw [e2, mem_upTo]; exact ⟨by omega, by omega, hm⟩
    rw [mem_upTo] at this
    omega
theorem upTo_next {last k : Int} (hl : -1 ≤ last) (hk : last < k) (he : er k = 0) (h : ∀ m : Int, last < m → m < k → has m = false) : upTo (last + 1).toNat ++ [k] = upTo (k + 1).toNat := by
  obtain ⟨k0, k1, k2⟩ := er_ok he
  obtain ⟨K, rfl⟩ := Int.eq_ofNat_of_zero_le k0
  rw [show ((K : Int) + 1).toNat = K + 1 by omega, upTo_yes K k2]
  have := upTo_gap (last + 1).toNat (K - (last + 1).toNat) (fun m h0 h1 => h m (by omega) (by omega))
  rw [show (last + 1).toNat + (K - (last + 1).toNat) = K by omega] at this
  rw [this]

theorem Fac.pos {w : World} (h : Fac w) : 0 < w.heap.size := by
  have := h.c0
  rcases Nat.eq_zero_or_pos w.heap.size with e | e
  · simp [World.cell?, Array.getElem?_eq_none (show w.heap.size ≤ 0 by omega)] at this
  · exact e

theorem boxed_kept {W W' : World} {row : Option Nat} {B : Nat} {t : TypeId} {v : Value} (h : Boxed W B t v) (hg : W.grownBy W' row) (hr : ∀ r, row = some r → ∃ o : Obj, W.heap[r]? = some o ∧ o.isCells = false) : Boxed W' B t v :=
  boxed_own B t (fun _ : Unit => v) () W W' row h hg hr

set_option maxRecDepth 100000 in
set_option maxHeartbeats 2000000 in
theorem ImmAll_any (stop : Int) (w : World) (hF : Fac w) :
    Calls Tryd.prog 6 #[.int .i64 stop] w fun e w' => e = .returned (.bool true) ∧ Below w.heap.size w w' := by
  refine (callsIn_wide (n := 9)).1 ?_
  refine callsIn_of_wp_marks Tryd.func6 rfl trivial ?_ rfl
  simp only [Tryd.ntmps6, List.size_toArray, List.length_cons, List.length_nil, Nat.reduceAdd, Nat.reduceSub, Array.replicate_succ, Array.replicate_zero, List.push_toArray, List.append_toArray, List.nil_append, List.cons_append]
  have h00 := hF.pos
  have hB2 : Below w.heap.size w ((w.alloc (.cells #[.int .i64 stop] 3)).alloc (.cells #[.bool false] 4)) := ((Below.refl _ w).alloc (Nat.le_refl _) _).alloc (by simp) _
  have hF2 := hF.below hB2 h00
  gi_wp2
  refine ⟨trivial, ?_⟩
  refine (callsIn_wide.2 (anchor_any _ hF2)).mono ?_
  rintro e w' ⟨rfl, rfl⟩
  gi_wp2
  refine ⟨trivial, ?_⟩
  refine (callsIn_wide.2 (All_any _)).mono ?_
  rintro e w' ⟨rfl, rfl⟩
  gi_wp2
  have x0 := Boxed.new w 3 (.int .i64 stop)
  have x1 := Boxed.new (w.alloc (.cells #[.int .i64 stop] 3)) 4 (.bool false)
  have x2 := Boxed.new ((w.alloc (.cells #[.int .i64 stop] 3)).alloc (.cells #[.bool false] 4)) 3 (.int .i64 (-1))
  have x3 := Boxed.new (((w.alloc (.cells #[.int .i64 stop] 3)).alloc (.cells #[.bool false] 4)).alloc (.cells #[.int .i64 (-1)] 3)) 3 (.int .i64 0)
  simp only [World.size_alloc] at x1 x2 x3
  have hB4 : Below w.heap.size w ((((w.alloc (.cells #[.int .i64 stop] 3)).alloc (.cells #[.bool false] 4)).alloc (.cells #[.int .i64 (-1)] 3)).alloc (.cells #[.int .i64 0] 3)) := (hB2.alloc (by simp; omega) _).alloc (by simp; omega) _
  have hF4 := hF.below hB4 h00
  refine wpIn_rangeFunc_ownF rfl (by omega) (gf := 22) (lb := #[]) rfl trivial (enters_of Tryd.func22 (by kernel_rfl) rfl)
    (All1_stops _ (by omega) w.heap.size h00 _ (by simp; omega) hF4) belowK_t (belowK_b (by simp; omega)) (Below.refl _ _) (fun _ => rfl)
    (fun pre W => (∃ last : Int, (-1 ≤ last ∧ last ≤ 4095) ∧ pre = upTo (last + 1).toNat ∧ Boxed W w.heap.size 3 (.int .i64 stop) ∧ Boxed W (w.heap.size + 1) 4 (.bool false) ∧
      Boxed W (w.heap.size + 1 + 1) 3 (.int .i64 last) ∧ Boxed W (w.heap.size + 1 + 1 + 1) 3 (.int .i64 pre.length)) ∧ Below w.heap.size w W)
    (fun c pre W => (c = .ret ∧ (Boxed W (w.heap.size + 1) 4 (.bool true) ∨ (Boxed W (w.heap.size + 1) 4 (.bool false) ∧ Off pre))) ∧ Below w.heap.size w W)
    (OwnFrom.and (Own.from (fun s A B row hs hg hr => by
      obtain ⟨last, h1, h2, d0, d1, d2, d3⟩ := hs
      exact ⟨last, h1, h2, boxed_kept d0 hg hr, boxed_kept d1 hg hr, boxed_kept d2 hg hr, boxed_kept d3 hg hr⟩) _) (ownFrom_below (Nat.le_refl _) (by simp; omega)))
    (fun c => OwnFrom.and (Own.from (fun s A B row hs hg hr => ⟨hs.1, hs.2.imp (fun h => boxed_kept h hg hr) (fun h => ⟨boxed_kept h.1 hg hr, h.2⟩)⟩) _) (ownFrom_below (Nat.le_refl _) (by simp; omega)))
    ⟨⟨-1, by omega, rfl, ((x0.alloc _).alloc _).alloc _, (x1.alloc _).alloc _, x2.alloc _, x3⟩, hB4⟩
    (fun k => { tmps := #[.int .i64 stop, .pointer (some ⟨w.heap.size, 0, none⟩), .pointer (some ⟨w.heap.size + 1, 0, none⟩), .pointer (some ⟨w.heap.size + 1 + 1, 0, none⟩), .pointer (some ⟨w.heap.size + 1 + 1 + 1, 0, none⟩), .int .i64 k, .int .u32 (wdA k), undef, undef, undef, undef, undef, .bool true, .bool false, .func (.func 22) #[] #[], .int .i64 k, .int .u32 (wdA k), undef, undef, undef, undef, undef, undef, undef, undef, undef, undef, undef, undef, undef, undef, undef, undef, undef, undef, undef, undef, undef, undef, undef, undef, undef, undef, undef, undef, undef, undef, undef, undef, undef, undef, undef, undef, undef, undef, undef, undef, undef, undef], defers := [] }) ?assign ?body ?done ?stop
  case assign =>
    intro l x W K hK
    gi_wp2
    exact hK
  case body =>
    clear x0 x1 x2 x3 hB4 hF4 hB2 hF2
    rintro l pre k W ⟨⟨last, hl, rfl, d0, d1, d2, d3⟩, hB⟩ _
    have hFW := hF.below hB h00
    have q0 := d0.cell
    have q1 := d1.cell
    have q2 := d2.cell
    have q3 := d3.cell
    have g1 := d1.frozen
    have g2 := d2.frozen
    have g3 := d3.frozen
    by_cases hk : k ≤ last
    · gi_wp2_with (refine ⟨trivial, ?_⟩; gi_at_call 10; refine (CallsIn.inRound l (callsIn_wide.2 (Word_any _ _ hFW))).mono ?_; rintro e w' ⟨rfl, rfl⟩)
      exact ⟨KeepsOthers.setCell _ _ _, ⟨rfl, .inr ⟨d1.set _, off_low hl.1 hk⟩⟩, hB.setCell (p := ⟨w.heap.size + 1, 0, none⟩) (by simp) _⟩
    by_cases he : er k = 0
    · obtain ⟨k0, k1, k2⟩ := er_ok he
      have hk' : last < k := by omega
      gi_wp2_with (refine ⟨trivial, ?_⟩; gi_at_call 10; refine (CallsIn.inRound l (callsIn_wide.2 (Word_any _ _ hFW))).mono ?_; rintro e w' ⟨rfl, rfl⟩)
      gi_loop [9] (fun m => ∃ j : Nat, last + 1 + j ≤ k ∧ m = .int .i64 (last + 1 + j) ∧ Hid (∀ i : Int, last < i → i < last + 1 + j → has i = false)) (fun m => (k - intOf m).toNat)
      case atStart => exact ⟨0, by omega, by simp, fun i h0 h1 => by omega⟩
      case round =>
        obtain ⟨j, hj, rfl, hno⟩ := hrel
        by_cases hlt : last + 1 + (j : Int) < k
        · cases hh : has (last + 1 + (j : Int))
          · gi_wp2_with (refine ⟨trivial, ?_⟩; gi_at_call 12; refine (CallsIn.inRound l (callsIn_wide.2 (refWord_any (last + 1 + (j : Int)) (by omega) (by omega) _))).mono ?_; rintro e w' ⟨rfl, rfl⟩)
            go_round
            case rel =>
              refine ⟨j + 1, by omega, by simp; omega, fun i h0 h1 => ?_⟩
              by_cases hi : i < last + 1 + (j : Int)
              · exact hno.out i h0 hi
              · rw [show i = last + 1 + (j : Int) by omega]; exact hh
            case measure => simp [intOf]; omega
          · gi_wp2_with (refine ⟨trivial, ?_⟩; gi_at_call 12; refine (CallsIn.inRound l (callsIn_wide.2 (refWord_any (last + 1 + (j : Int)) (by omega) (by omega) _))).mono ?_; rintro e w' ⟨rfl, rfl⟩)
            exact ⟨KeepsOthers.setCell _ _ _, ⟨rfl, .inr ⟨d1.set _, off_gap hl.1 (by omega) hlt hh⟩⟩, hB.setCell (p := ⟨w.heap.size + 1, 0, none⟩) (by simp) _⟩
        · have HN : Hid (upTo (last + 1).toNat ++ [k] = upTo (k + 1).toNat) := upTo_next hl.1 hk' he (fun m h0 h1 => hno.out m h0 (by omega))
          gi_wp2
          · refine ⟨((KeepsOthers.setCell _ _ _).trans (KeepsOthers.setCell _ _ _)).trans (KeepsOthers.setCell _ _ _), ⟨rfl, .inl (((d1.other (by omega) _).other (by omega) _).set _)⟩, ?_⟩
            exact ((hB.setCell (p := ⟨w.heap.size + 1 + 1, 0, none⟩) (by simp; omega) _).setCell (p := ⟨w.heap.size + 1 + 1 + 1, 0, none⟩) (by simp; omega) _).setCell (p := ⟨w.heap.size + 1, 0, none⟩) (by simp) _
          · have hlen : (((upTo (last + 1).toNat ++ [k]).length : Nat) : Int) = ((upTo (last + 1).toNat).length : Int) + 1 := by simp
            refine ⟨(KeepsOthers.setCell _ _ _).trans (KeepsOthers.setCell _ _ _), ?_, ⟨k, by omega, HN.out, (d0.other (by omega) _).other (by omega) _, (d1.other (by omega) _).other (by omega) _, (d2.set _).other (by omega) _, ?_⟩, ?_⟩
            · exact ((Below.refl w.heap.size _).setCell (p := ⟨w.heap.size + 1 + 1, 0, none⟩) (by simp; omega) _).setCell (p := ⟨w.heap.size + 1 + 1 + 1, 0, none⟩) (by simp; omega) _
            · rw [hlen]; exact (d3.other (by omega) _).set _
            · exact (hB.setCell (p := ⟨w.heap.size + 1 + 1, 0, none⟩) (by simp; omega) _).setCell (p := ⟨w.heap.size + 1 + 1 + 1, 0, none⟩) (by simp; omega) _
    · have he' : (er k != 0) = true := by simpa using he
      gi_wp2_with (refine ⟨trivial, ?_⟩; gi_at_call 10; refine (CallsIn.inRound l (callsIn_wide.2 (Word_any _ _ hFW))).mono ?_; rintro e w' ⟨rfl, rfl⟩)
      exact ⟨KeepsOthers.setCell _ _ _, ⟨rfl, .inr ⟨d1.set _, off_none hl.1 he⟩⟩, hB.setCell (p := ⟨w.heap.size + 1, 0, none⟩) (by simp) _⟩
  case done =>
    rintro D ys W hD rfl ⟨⟨last, hl, hy, d0, d1, d2, d3⟩, hB⟩ hK
    have hlast : last = 4095 := by
      have : (4095 : Int) ∈ upTo (last + 1).toNat := by rw [← hy, mem_upTo]; exact ⟨by omega, by omega, by decide +kernel⟩
      rw [mem_upTo] at this
      omega
    subst hlast
    rw [upTo_end] at d3
    have q1 := d1.cell
    have q2 := d2.cell
    have q3 := d3.cell
    have g1 := d1.frozen
    gi_wp2
    have hK' := (KeepsOthers.setCell W ⟨w.heap.size + 1, 0, none⟩ (.bool true)).same D _ hK rfl
    refine ⟨by simp, .inl ⟨_, _, rfl, run_takeDeferred hK', ?_⟩⟩
    have hc5 := cell_kept (d1.set (.bool true)).cell (grownBy_putObj' _ D (.deferred none)) (fun r e => by cases e; exact ⟨_, hK', rfl⟩)
    refine ⟨.bool true, ?_, rfl, (hB.setCell (p := ⟨w.heap.size + 1, 0, none⟩) (by simp) _).trans (belowK_b (w := w) (Nat.le_refl _) _ D _ _ (by simp at hD; omega) hK' rfl rfl)⟩
    simp [results, Tryd.f6, go_sem, hc5]
  case stop =>
    rintro D c pre W hD ⟨j, hj, hh, hp⟩ ⟨⟨rfl, hr⟩, hB⟩ hK
    rcases hr with d1 | ⟨_, ho⟩
    · gi_wp2
      refine ⟨by simp, .inl ⟨_, _, rfl, run_takeDeferred hK, ?_⟩⟩
      have hc5 := cell_kept d1.cell (grownBy_putObj' _ D (.deferred none)) (fun r e => by cases e; exact ⟨_, hK, rfl⟩)
      refine ⟨.bool true, ?_, rfl, hB.trans (belowK_b (w := w) (Nat.le_refl _) W D _ _ (by simp at hD; omega) hK rfl rfl)⟩
      simp [results, Tryd.f6, go_sem, hc5]
    · exact absurd hp (ho j hj hh)

end Go.Proofs.YtbnghejmjopodaaDoor.Imm
