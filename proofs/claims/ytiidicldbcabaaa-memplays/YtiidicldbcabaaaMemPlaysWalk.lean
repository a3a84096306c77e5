/- The statement MemPlays' own walk. -/
import Derived.Test.YtiidicldbcabaaaMemPlay
import Derived.Test.YtiidicldbcabaaaMemLeastWalk
set_option linter.unusedVariables false
namespace Go.Proofs.Ytiidicldbcabaaa.Mem
open Go.RowKit Go.Shelf

attribute [local go_sem] Oper.semAt_some

theorem keeps_below {W W' : World} (h : Below W.heap.size W W') : KeepsOthers W W' := ⟨h.size, fun k o hk _ => (h.block k (lt_of_heap hk)).trans hk⟩
theorem at_ram (n : Nat) (f g : Nat → Int) (i : Nat) (hi : i < 16384) : ldV n f g (536870912 + 4 * (i : Int)) = g i ∧ ldE n (536870912 + 4 * (i : Int)) = 0 := by
  have e1 : rp (536870912 + 4 * (i : Int)) = i := by unfold rp; omega
  have h4 : (536870912 + 4 * (i : Int)) % 4 = 0 := by omega
  refine ⟨?_, ?_⟩
  · unfold ldV; rw [if_pos h4, e1, if_pos (by omega), Int.toNat_natCast]
  · unfold ldE; rw [if_pos h4, e1, if_pos (by omega)]
theorem ownFrom_mark (B D : Nat) (hD : D < B) {β : Type} (o : Obj) : OwnFrom B (fun (_ : β) W => W.heap[D]? = some o) := fun s W W' row hs hg hr =>
  (hg.block D (lt_of_heap hs) (fun e => by have := (hr D e.symm).1; omega)).trans hs
/-- How many of the first k words aren't nought. -/
def nzc (L : List (Int × Int)) (k : Nat) : Nat := ((L.take k).filter (fun e => e.2 != 0)).length
theorem nzc_le (L : List (Int × Int)) (k : Nat) : nzc L k ≤ L.length := by
  unfold nzc; have := List.length_filter_le (fun e : Int × Int => e.2 != 0) (L.take k); simp at *; omega
theorem nzc_succ (L : List (Int × Int)) (k : Nat) (hk : k < L.length) : nzc L (k + 1) = nzc L k + if (L.getD k (0, 0)).2 = 0 then 0 else 1 := by
  unfold nzc
  have e : L.getD k (0, 0) = L[k] := by simp [List.getD, hk]
  rw [List.take_succ_eq_append_getElem hk, List.filter_append, ← e, List.length_append]
  generalize L.getD k (0, 0) = d
  by_cases h : d.2 = 0 <;> simp [h]
theorem nzc_all {L : List (Int × Int)} {k : Nat} (h : Good L k) : cnt 16384 (ramOf L) = nzc L L.length := by
  unfold nzc; rw [List.take_length]
  exact cnt_list 536870912 16384 L h.apart h.at_

set_option maxRecDepth 100000 in
set_option maxHeartbeats 4000000 in
theorem MemPlays_big (q : Option Addr) (n c : Nat) (p : Option Addr) (m cap : Nat) (w : World) (hn : 300 < n ∨ 60 < m) :
    Calls Try.prog 3 #[.slice q n c, .slice p m cap] w fun e w' => e = .returned (.bool true) ∧ Below w.heap.size w w' := by
  have hn' : (decide ((300 : Int) < n) || decide ((60 : Int) < m)) = true := by
    rcases hn with h | h
    · rw [decide_eq_true (show (300 : Int) < n by omega)]; rfl
    · rw [decide_eq_true (show (60 : Int) < m by omega)]; simp
  refine (callsIn_wide (n := 9)).1 ?_
  refine callsIn_of_wp_marks Try.func3 rfl trivial ?_ rfl
  simp only [Try.ntmps3, List.size_toArray, List.length_cons, List.length_nil, Nat.reduceAdd, Nat.reduceSub, Array.replicate_succ, Array.replicate_zero, List.push_toArray, List.append_toArray, List.nil_append, List.cons_append]
  gi_wp2
  refine ⟨trivial, ?_⟩
  refine (callsIn_wide.2 (anchor_any _)).mono ?_
  rintro e w1 ⟨rfl, hb1⟩
  have x0 : Boxed w1 w.heap.size 4 (.bool false) := boxed_below (Boxed.new w 4 (.bool false)) hb1 (by simp)
  have hB := ((Below.refl w.heap.size w).alloc (Nat.le_refl _) (.cells #[.bool false] 4)).trans (hb1.mono (by simp))
  have q3 := x0.cell
  have g3 := x0.frozen
  gi_wp2
  all_goals
    have hc := (x0.set (.bool true)).cell
    refine ⟨.bool true, ?_, rfl, hB.setCell (p := ⟨w.heap.size, 0, none⟩) (Nat.le_refl _) _⟩
    simp [results, Try.f3, go_sem, hc]

set_option maxRecDepth 100000 in
set_option maxHeartbeats 8000000 in
theorem MemPlays_any (q : Option Addr) (n c : Nat) (f : Nat → Int) (p : Option Addr) (m cap : Nat) (G : Nat → Nat → Int) (w : World) (hn : n ≤ 300) (hm : m ≤ 60) (hS : Sl w .u8 q n f) (hf : ∀ i, i < n → 0 ≤ f i ∧ f i < 256) (hG : Args.Recs w [.i64, .u32, .u32] p m cap G) :
    Calls Try.prog 3 #[.slice q n c, .slice p m cap] w fun e w' => e = .returned (.bool true) ∧ Below w.heap.size w w' := by
  have hn1 : ¬ (300 : Int) < n := by omega
  have hm1 : ¬ (60 : Int) < m := by omega
  refine (callsIn_wide (n := 9)).1 ?_
  refine callsIn_of_wp_marks Try.func3 rfl trivial ?_ rfl
  simp only [Try.ntmps3, List.size_toArray, List.length_cons, List.length_nil, Nat.reduceAdd, Nat.reduceSub, Array.replicate_succ, Array.replicate_zero, List.push_toArray, List.append_toArray, List.nil_append, List.cons_append]
  gi_wp2
  refine ⟨trivial, ?_⟩
  refine (callsIn_wide.2 (anchor_any _)).mono ?_
  rintro e w1 ⟨rfl, hb1⟩
  have x0 : Boxed w1 w.heap.size 4 (.bool false) := boxed_below (Boxed.new w 4 (.bool false)) hb1 (by simp)
  have hB := ((Below.refl w.heap.size w).alloc (Nat.le_refl _) (.cells #[.bool false] 4)).trans (hb1.mono (by simp))
  have hw1 : w.heap.size < w1.heap.size := x0.lt
  clear hb1
  gi_wp2
  refine ⟨trivial, ?_⟩
  refine (callsIn_wide.2 (New_ok q n c f _ (hS.below hB) (by omega))).mono ?_
  rintro e w2 ⟨B, F, R, rfl, hI, hle, hb2⟩
  gi_wp2
  refine ⟨trivial, ?_⟩
  have hI2 := hI.alloc (.cells #[.slice q n c, .slice none 0 0] 31)
  refine (callsIn_wide.2 (Copy_any hI2 (by omega))).mono ?_
  rintro e w3 ⟨B', F', R', rfl, hI3, hle3, hb3⟩
  have hP : Play w q n c f w2.heap.size B F R B' F' R' none 0 [] w3 := by
    have hsz := hb2.size
    have hR := hI.ltR
    rw [World.size_alloc] at hle3
    exact ⟨(hb3.block _ (by simp; omega)).trans ((Below.heap_alloc _ _ _ (by omega)).trans ((hb2.block _ hw1).trans x0)), (hb3.block _ (by simp)).trans (heap_alloc_new w2 _), .inl rfl, fun ad e => (by cases e), hI2.below hb3, hI3,
      ((hB.trans (hb2.mono hB.size)).alloc (by have := hB.size; omega) _).trans (hb3.mono (by simp; omega)), by omega, by omega⟩
  clear hI hI2 hI3 hle hle3 hb2 hb3 x0 hB
  gi_wp2
  gi_loopw [56] (fun i wr => ∃ k : Nat, k ≤ m ∧ i = .int .i64 k ∧ ∃ lp lc L, Good L k ∧ Play w q n c f w2.heap.size B F R B' F' R' lp lc L wr) (fun i _ => m - (intOf i).toNat)
  case atStart => exact ⟨0, Nat.zero_le _, rfl, none, 0, [], ⟨apart_nil, fun e h => (by cases h), Nat.le_refl _⟩, hP⟩
  case round =>
    clear hP
    obtain ⟨k, hk, rfl, lp, lc, L, hg, hP⟩ := hrel
    generalize w2.heap.size = X at *
    by_cases hlt : k < m
    · obtain ⟨b, off, rfl, hb, hc⟩ : ∃ b off, p = some ⟨b, off, none⟩ ∧ b < w.heap.size ∧ ∀ i, i < m → ∀ j kd, ([.i64, .u32, .u32] : List IntKind)[j]? = some kd → w.cell? ⟨b, off + (i * 3 + j), none⟩ = some (.int kd (G i j)) ∧ (Lit.int kd (G i j)).wf = true := by
        rcases hG.cells with h | h
        · omega
        · exact h
      obtain ⟨c0, _⟩ := hc k hlt 0 .i64 rfl
      obtain ⟨c1, hwA⟩ := hc k hlt 1 .u32 rfl
      obtain ⟨c2, hwX⟩ := hc k hlt 2 .u32 rfl
      have hA := wf32 hwA
      clear hc hwA hwX hG
      generalize G k 0 = K at *
      generalize G k 1 = A at *
      generalize G k 2 = Y at *
      have d0 : wr.cell? ⟨b, off + k * 3, none⟩ = some (.int .i64 K) := (hP.lb.cell (p := ⟨b, off + k * 3, none⟩) hb).trans c0
      have d1 : wr.cell? ⟨b, off + k * 3 + 1, none⟩ = some (.int .u32 A) := (hP.lb.cell (p := ⟨b, off + k * 3 + 1, none⟩) hb).trans (by rw [Nat.add_assoc]; exact c1)
      have d2 : wr.cell? ⟨b, off + k * 3 + 2, none⟩ = some (.int .u32 Y) := (hP.lb.cell (p := ⟨b, off + k * 3 + 2, none⟩) hb).trans (by rw [Nat.add_assoc]; exact c2)
      clear c0 c1 c2
      have hP1 := hP.alloc (.cells #[.int .i64 K, .int .u32 A, .int .u32 Y] 35)
      have hS1 := hS.below hP1.lb
      have x0 := hP1.x0
      have x1 := hP1.x1
      have hLl : L.length ≤ 100 := by have := hg.len; omega
      by_cases h1 : K = 1
      · have e1 : (K == 1) = true := by simpa using h1
        have hO : (wr.alloc (.cells #[.int .i64 K, .int .u32 A, .int .u32 Y] 35)).heap[wr.heap.size]? = some (.cells #[.int .i64 K, .int .u32 A, .int .u32 Y] 35 (0, 0)) := heap_alloc_new wr _
        have hOX : wr.heap.size ≠ X := by have := lt_of_heap hP.xb; omega
        clear h1 hP
        by_cases hE : stE A = 0
        · gi_wp2
          refine ⟨trivial, ?_⟩
          refine (callsIn_wide.2 (refStore_yes q lp n c lc L A Y _ hP1.lr hLl hE hA.1 hA.2)).mono ?_
          rintro e w4 ⟨lp', lc', rfl, hr4, ha4, hb4⟩
          have hO4 := (hb4.block wr.heap.size (by simp)).trans hO
          have hP4 := hP1.below hb4
          have y0 := hP4.x0
          have y1 := hP4.x1
          have z0 := hP4.xf 0
          have z1 := hP4.xf 1
          have hM5 := hP1.stored3 hb4 (lc' := lc') (L' := st L A Y) ha4
          have HP6 : Hid (Play w q n c f X B F R B' F' R' lp' lc' (st L A Y) (((w4.setCell ⟨X, 0, none⟩ (.slice q n c)).setCell ⟨X, 1, none⟩ (.slice lp' (st L A Y).length lc')).setCell ⟨R, (rp A).toNat, none⟩ (.int .u32 Y))) := hP1.stored4 hb4 hE hA.1 hA.2 hr4 ha4
          have hO5 : ((w4.setCell ⟨X, 0, none⟩ (.slice q n c)).setCell ⟨X, 1, none⟩ (.slice lp' (st L A Y).length lc')).heap[wr.heap.size]? = some (.cells #[.int .i64 K, .int .u32 A, .int .u32 Y] 35 (0, 0)) := (Below.heap_setCell _ _ _ _ hOX).trans ((Below.heap_setCell _ _ _ _ hOX).trans hO4)
          have o1 : ((w4.setCell ⟨X, 0, none⟩ (.slice q n c)).setCell ⟨X, 1, none⟩ (.slice lp' (st L A Y).length lc')).cell? ⟨wr.heap.size, 1, none⟩ = some (.int .u32 A) := by simp only [World.cell?, hO5]; rfl
          have o2 : ((w4.setCell ⟨X, 0, none⟩ (.slice q n c)).setCell ⟨X, 1, none⟩ (.slice lp' (st L A Y).length lc')).cell? ⟨wr.heap.size, 2, none⟩ = some (.int .u32 Y) := by simp only [World.cell?, hO5]; rfl
          have HG : Hid (Good (st L A Y) (k + 1)) := hg.st hE hA.1 hA.2
          clear hO hO4 hO5 hP4 hP1 hb4 hr4 ha4 x0 x1 hS1
          gi_wp2
          refine ⟨trivial, ?_⟩
          refine (callsIn_wide.2 (Store_yes hM5 A Y hA.1 hA.2 hE)).mono ?_
          rintro e w6 ⟨rfl, rfl⟩
          gi_wp2
          go_roundw
          case rel => exact ⟨k + 1, by omega, by simp, _, _, _, HG.out, HP6.out⟩
          case measure => simp [intOf]; omega
        · gi_wp2
          refine ⟨trivial, ?_⟩
          refine (callsIn_wide.2 (refStore_no q lp n c L.length lc A Y _ hE hA.1 hA.2)).mono ?_
          rintro e w4 ⟨rfl, hb4⟩
          have hO4 := (hb4.block wr.heap.size (by simp)).trans hO
          have hP4 := hP1.below hb4
          have y0 := hP4.x0
          have y1 := hP4.x1
          have z0 := hP4.xf 0
          have z1 := hP4.xf 1
          have hP5 := hP4.put (lc' := lc) hP4.lr hP4.ap (fun i _ => rfl)
          have HP6 : Hid (Play w q n c f X B F R B' F' R' lp lc L ((w4.setCell ⟨X, 0, none⟩ (.slice q n c)).setCell ⟨X, 1, none⟩ (.slice lp L.length lc))) := hP5
          have hM5 := hP5.mem
          have hO5 : ((w4.setCell ⟨X, 0, none⟩ (.slice q n c)).setCell ⟨X, 1, none⟩ (.slice lp L.length lc)).heap[wr.heap.size]? = some (.cells #[.int .i64 K, .int .u32 A, .int .u32 Y] 35 (0, 0)) := (Below.heap_setCell _ _ _ _ hOX).trans ((Below.heap_setCell _ _ _ _ hOX).trans hO4)
          have o1 : ((w4.setCell ⟨X, 0, none⟩ (.slice q n c)).setCell ⟨X, 1, none⟩ (.slice lp L.length lc)).cell? ⟨wr.heap.size, 1, none⟩ = some (.int .u32 A) := by simp only [World.cell?, hO5]; rfl
          have o2 : ((w4.setCell ⟨X, 0, none⟩ (.slice q n c)).setCell ⟨X, 1, none⟩ (.slice lp L.length lc)).cell? ⟨wr.heap.size, 2, none⟩ = some (.int .u32 Y) := by simp only [World.cell?, hO5]; rfl
          have HG : Hid (Good L (k + 1)) := hg.more
          clear hO hO4 hO5 hP4 hP1 hb4 x0 x1 hS1 hP5
          gi_wp2
          refine ⟨trivial, ?_⟩
          refine (callsIn_wide.2 (Store_no hM5 A Y hA.1 hA.2 hE)).mono ?_
          rintro e w6 ⟨rfl, rfl⟩
          gi_wp2
          go_roundw
          case rel => exact ⟨k + 1, by omega, by simp, _, _, _, HG.out, HP6.out⟩
          case measure => simp [intOf]; omega
      have e1 : (K == 1) = false := by simpa using h1
      by_cases h2 : K = 2
      · have e2 : (K == 2) = true := by simpa using h2
        clear h1 h2 hP
        gi_wp2
        refine ⟨trivial, ?_⟩
        refine (callsIn_wide.2 (Load_any hP1.mem hf (by omega) A hA.1 hA.2)).mono ?_
        rintro e w4 ⟨rfl, rfl⟩
        gi_wp2
        refine ⟨trivial, ?_⟩
        refine (callsIn_wide.2 (refLoad_any q lp n c lc f L A _ hS1 hP1.lr hLl hn hf hA.1 hA.2)).mono ?_
        rintro e w5 ⟨rfl, hb5⟩
        have HP6 : Hid (Play w q n c f X B F R B' F' R' lp lc L w5) := hP1.below hb5
        clear hb5 x0 x1 hS1
        gi_wp2
        go_roundw
        case rel => exact ⟨k + 1, by omega, by simp, _, _, _, hg.more, HP6.out⟩
        case measure => simp [intOf]; omega
      have e2 : (K == 2) = false := by simpa using h2
      by_cases h3 : K = 3
      · have e3 : (K == 3) = true := by simpa using h3
        clear h1 h2 h3 hP
        gi_wp2
        refine ⟨trivial, ?_⟩
        refine (callsIn_wide.2 (Half_any hP1.mem hf (by omega) A hA.1 hA.2)).mono ?_
        rintro e w4 ⟨rfl, rfl⟩
        gi_wp2
        refine ⟨trivial, ?_⟩
        refine (callsIn_wide.2 (refHalf_any q lp n c L.length lc f A _ hS1 hn hf hA.1 hA.2)).mono ?_
        rintro e w5 ⟨rfl, hb5⟩
        have HP6 : Hid (Play w q n c f X B F R B' F' R' lp lc L w5) := hP1.below hb5
        clear hb5 x0 x1 hS1
        gi_wp2
        go_roundw
        case rel => exact ⟨k + 1, by omega, by simp, _, _, _, hg.more, HP6.out⟩
        case measure => simp [intOf]; omega
      · have e3 : (K == 3) = false := by simpa using h3
        clear h1 h2 h3 hP
        gi_wp2
        go_roundw
        case rel => exact ⟨k + 1, by omega, by simp, _, _, _, hg.more, hP1⟩
        case measure => simp [intOf]; omega
    · obtain rfl : k = m := by omega
      clear hG hlt
      have hsz := hP.lb.size
      have hNX := lt_of_heap hP.xb
      gi_wp2
      refine ⟨trivial, ?_⟩
      refine (callsIn_wide.2 (Ram_any B' _)).mono ?_
      rintro e w3 ⟨rfl, rfl⟩
      simp only [World.size_alloc]
      gi_wp2
      have y0 := Boxed.new wr 3 (.int .i64 0)
      have y1 := Boxed.new (wr.alloc (.cells #[.int .i64 0] 3)) 25 (.pointer (some ⟨B', 0, none⟩))
      rw [World.size_alloc] at y1
      have hRN := hP.cop.ltR
      refine wpIn_rangeFunc_ownF rfl (by omega) (gf := 25) (lb := #[.pointer (some ⟨wr.heap.size + 1, 0, none⟩)]) rfl trivial (enters_of Try.func25 (by kernel_rfl) rfl)
        (Ram1_stops _ (by omega) wr.heap.size (wr.heap.size + 1) B' F' R' n f (fun _ => 0) _ (by simp; omega) hRN y1.cell ((hP.cop.alloc _).alloc _)) belowK_t (belowK_b (by simp; omega)) (Below.refl _ _) (fun _ => rfl)
        (fun pre W => Below (wr.heap.size + 1) (wr.alloc (.cells #[.int .i64 0] 3)) W) (fun _ _ _ => True)
        (ownFrom_below (by simp) (by simp)) (fun _ _ _ _ _ _ _ _ => trivial)
        ((Below.refl _ _).alloc (by simp) _)
        ?a1 ?assign ?body ?done ?stop
      case assign =>
        intro l x W K hK
        gi_wp2
        exact hK
      case body =>
        rintro l pre x W _ _
        exact absurd rfl x.2.2
      case stop =>
        rintro D c' pre W _ ⟨j, hj, _⟩ _ _
        exact absurd rfl hj.2
      case done =>
        rintro D ys W hD _ hB1 hK1
        clear y1
        have hPW : Play w q n c f X B F R B' F' R' lp lc L W := hP.below (((Below.refl _ wr).alloc (Nat.le_refl _) _).trans (hB1.mono (by omega)))
        have yN : Boxed W wr.heap.size 3 (.int .i64 0) := boxed_below y0 hB1 (by omega)
        have hBN : Below wr.heap.size wr W := ((Below.refl _ wr).alloc (Nat.le_refl _) _).trans (hB1.mono (by omega))
        clear y0 hB1
        gi_wp2
        refine ⟨trivial, ?_⟩
        refine (callsIn_wide.2 (Ram_any B _)).mono ?_
        rintro e w4 ⟨rfl, rfl⟩
        simp only [World.size_alloc]
        gi_wp2
        have u0 := Boxed.new W 33 (.int .u32 0)
        have u1 := Boxed.new (W.alloc (.cells #[.int .u32 0] 33)) 25 (.pointer (some ⟨B, 0, none⟩))
        rw [World.size_alloc] at u1
        have hRN2 := hP.mem.ltR
        have hWN := hBN.size
        have hNW : wr.heap.size < W.heap.size := yN.lt
        have hDW := lt_of_heap hK1
        have hB3 : Below wr.heap.size wr ((W.alloc (.cells #[.int .u32 0] 33)).alloc (.cells #[.pointer (some ⟨B, 0, none⟩)] 25)) := (hBN.alloc hBN.size _).alloc (by simp; omega) _
        refine wpIn_rangeFunc_ownF rfl (by omega) (gf := 25) (lb := #[.pointer (some ⟨W.heap.size + 1, 0, none⟩)]) rfl trivial (enters_of Try.func25 (by kernel_rfl) rfl)
          (Ram1_stops _ (by omega) wr.heap.size (W.heap.size + 1) B F R n f (ramOf L) _ (by simp; omega) hRN2 u1.cell ((hPW.mem.alloc _).alloc _)) belowK_t (belowK_b (by simp; omega)) (Below.refl _ _) (fun _ => rfl)
          (fun pre W' => ((Boxed W' wr.heap.size 3 (.int .i64 pre.length) ∧ Boxed W' W.heap.size 33 (.int .u32 (lastA pre))) ∧ W'.heap[D]? = some (.deferred (some []))) ∧ Below wr.heap.size wr W') (fun _ pre _ => Off pre)
          (OwnFrom.and (OwnFrom.and (Own.from (fun s A B row hs hg hr => ⟨boxed_kept hs.1 hg hr, boxed_kept hs.2 hg hr⟩) _) (ownFrom_mark _ D (by simp; omega) _)) (ownFrom_below (Nat.le_refl _) (by simp; omega))) (fun _ _ _ _ _ h _ _ => h)
          ⟨⟨⟨(yN.alloc _).alloc _, u0.alloc _⟩, (Below.heap_alloc _ _ _ (by simp; omega)).trans ((Below.heap_alloc _ _ _ hDW).trans hK1)⟩, hB3⟩
          ?a2 ?assign2 ?body2 ?done2 ?stop2
        case assign2 =>
          intro l x W' K hK
          gi_wp2
          exact hK
        case stop2 =>
          rintro D2 c' pre W' _ ⟨j, hj, hp⟩ ho _
          exact absurd hp (ho j hj)
        case body2 =>
          clear u0 u1 hB3 yN
          rintro l pre x W' ⟨⟨⟨d4, d5⟩, hDm⟩, hB⟩ hlen
          have hPB := hP.below hB
          obtain ⟨v1, v2⟩ := at_ram n f (ramOf L) x.1 x.2.1
          have hx1 := x.2.1
          have hv := x.2.2
          have HL : Hid (lastA (pre ++ [x]) = 536870912 + 4 * (x.1 : Int)) := lastA_snoc pre x
          have HO : Hid (536870912 + 4 * (x.1 : Int) ≤ lastA pre → Off (pre ++ [x])) := off_low pre x
          have hlr := lastA_range pre
          have x0 := hPB.x0
          have x1 := hPB.x1
          have hLl : L.length ≤ 100 := by have := hg.len; omega
          have hSW := hS.below hPB.lb
          have hA0 : 0 ≤ 536870912 + 4 * (x.1 : Int) := by omega
          have hA1 : 536870912 + 4 * (x.1 : Int) < 4294967296 := by omega
          have hv2 : (ramOf L x.1 == 0) = false := by simpa using hv
          clear hv hx1
          generalize 536870912 + 4 * (x.1 : Int) = A at *
          generalize ramOf L x.1 = v at *
          gi_wp2
          refine ⟨trivial, ?_⟩
          refine (CallsIn.inRound l (callsIn_wide.2 (refLoad_any q lp n c lc f L A W' hSW hPB.lr hLl hn hf hA0 hA1))).mono ?_
          rintro e W5 ⟨rfl, hb5⟩
          rw [v1, v2]
          have hK5 := keeps_below hb5
          have hP5 := hPB.below hb5
          have e4 := boxed_below d4 hb5 d4.lt
          have e5 := boxed_below d5 hb5 d5.lt
          have hDm5 := (hb5.block D (lt_of_heap hDm)).trans hDm
          have hB5 := hB.trans (hb5.mono hB.size)
          have hb5' := hb5.mono hB.size
          have q4 := e4.cell
          have q5 := e5.cell
          have g4 := e4.frozen
          have g5 := e5.frozen
          have hr : Boxed W5 w.heap.size 4 (.bool false) := hP5.rb
          have q6 := hr.cell
          have g6 := hr.frozen
          clear d4 d5 hDm hb5 x0 x1 hPB hP5
          generalize lastA pre = la at *
          by_cases hle : A ≤ la
          · gi_wp2
            exact ⟨hK5.trans (KeepsOthers.setCell _ _ _), HO.out hle⟩
          · have hDN : D ≠ W.heap.size ∧ D ≠ wr.heap.size := by simp at hD; omega
            gi_wp2
            have hlen2 : (((pre ++ [x]).length : Nat) : Int) = (pre.length : Int) + 1 := by simp
            refine ⟨(hK5.trans (KeepsOthers.setCell _ _ _)).trans (KeepsOthers.setCell _ _ _), ?_, ⟨⟨?_, ?_⟩, ?_⟩, ?_⟩
            · exact (hb5'.setCell (p := ⟨W.heap.size, 0, none⟩) (by show _ ≤ W.heap.size; omega) _).setCell (p := ⟨wr.heap.size, 0, none⟩) (Nat.le_refl _) _
            · rw [hlen2]; exact (e4.other (by omega) _).set _
            · rw [HL.out]; exact (e5.set _).other (by omega) _
            · exact (Below.heap_setCell _ _ _ _ hDN.2).trans ((Below.heap_setCell _ _ _ _ hDN.1).trans hDm5)
            · exact (hB5.setCell (p := ⟨W.heap.size, 0, none⟩) (by show _ ≤ W.heap.size; omega) _).setCell (p := ⟨wr.heap.size, 0, none⟩) (Nat.le_refl _) _
        case done2 =>
          rintro D2 ys W6 hD2 rfl ⟨⟨⟨d4, d5⟩, hDm⟩, hB⟩ hK2
          have hPB := hP.below hB
          have HN : Hid (cnt 16384 (ramOf L) = nzc L L.length) := nzc_all hg
          rw [upTo_len _ _ (Nat.le_refl _), HN.out] at d4
          have hlen : L.length ≤ 60 := by have := hg.len; omega
          clear d5 u0 u1 hB3 yN
          have x1 := hPB.x1
          have hDD : D < D2 := by simp at hD2; omega
          have hwD : w.heap.size ≤ D := by simp at hD; omega
          gi_wp2
          clear hB hBN hP hPW hK1 hg HN hRN hRN2 hsz hNX hWN hNW hDW hD hD2
          generalize wr.heap.size = N at *
          gi_loopw [26, 166] (fun t i wt => ∃ j : Nat, j ≤ L.length ∧ i = .int .i64 j ∧ t = .int .i64 (nzc L j) ∧ Below W6.heap.size W6 wt) (fun _ i _ => L.length - (intOf i).toNat)
          case atStart => exact ⟨0, Nat.zero_le _, rfl, rfl, Below.refl _ _⟩
          case round =>
            obtain ⟨j, hj, rfl, rfl, hbt⟩ := hrel
            have hnz := nzc_le L j
            by_cases hjl : j < L.length
            · obtain ⟨b, rfl, hb, hc⟩ : ∃ b, lp = some ⟨b, 0, none⟩ ∧ b < W6.heap.size ∧ ∀ i, i < L.length → W6.cell? ⟨b, i * 2, none⟩ = some (.int .u32 (L.getD i (0, 0)).1) ∧ W6.cell? ⟨b, i * 2 + 1, none⟩ = some (.int .u32 (L.getD i (0, 0)).2) := by
                rcases hPB.lr with h | h
                · omega
                · exact h
              have c0 := (hbt.cell (p := ⟨b, j * 2, none⟩) hb).trans (hc j hjl).1
              have c1 := (hbt.cell (p := ⟨b, j * 2 + 1, none⟩) hb).trans (hc j hjl).2
              have HS : Hid (nzc L (j + 1) = nzc L j + if (L.getD j (0, 0)).2 = 0 then 0 else 1) := nzc_succ L j hjl
              clear hc
              generalize (L.getD j (0, 0)).1 = A at *
              generalize (L.getD j (0, 0)).2 = Z at *
              by_cases hZ : Z = 0
              · have hd : (Z != 0) = false := by simpa using hZ
                have HS' : Hid (nzc L (j + 1) = nzc L j) := by show _ = _; rw [HS.out, if_pos hZ]; rfl
                clear hZ HS
                gi_wp2
                go_roundw
                case rel => exact ⟨j + 1, by omega, by simp, by rw [HS'.out], hbt.alloc hbt.size _⟩
                case measure => simp [intOf]; omega
              · have hd : (Z != 0) = true := by simpa using hZ
                have HS' : Hid (nzc L (j + 1) = nzc L j + 1) := by show _ = _; rw [HS.out, if_neg hZ]
                clear hZ HS
                gi_wp2
                go_roundw
                case rel => exact ⟨j + 1, by omega, by simp, by rw [HS'.out]; simp, hbt.alloc hbt.size _⟩
                case measure => simp [intOf]; omega
            · obtain rfl : j = L.length := by omega
              have hPt := hPB.below hbt
              have HS : Hid (Sl wr .u8 q n f) := hS.below hPt.lb
              have hcN := (boxed_below d4 hbt d4.lt).cell
              have hMt := hPt.mem
              gi_wp2
              refine wpIn_wide.2 ?_
              refine wp_region_noPanic ?_
              refine wp_region_held_drew (S := fun w' => (convert 22 9 (.slice q n c)).run Try.prog w' = .ok (.string (strOf n f)) w' ∧ w'.cell? ⟨N, 0, none⟩ = some (.int .i64 (nzc L L.length))) (by kernel_rfl) ⟨conv_run _ q n c f HS.out.drew, hcN⟩ (fun hHeld => ?_)
              refine wpAnyH_take (i := 0) (v := ?_) rfl (by kernel_rfl) (by kernel_rfl) (by kernel_rfl) (fun _ _ _ h => h) (Or.inl ⟨by rfl, ?_⟩) (by assumption) ?_
              rotate_left
              · intro w hSw; (try dsimp only at hSw); go_simp; (try with_reducible rfl)
              (try simp only [Act.put, List.getElem_toArray, List.getElem_cons_zero, List.setIfInBounds_toArray, List.set_cons_zero, List.set_cons_succ])
              refine wpAnyH_take (i := 1) (v := ?_) rfl (by kernel_rfl) (by kernel_rfl) (by kernel_rfl) (fun _ _ _ h => h) (Or.inl ⟨by rfl, ?_⟩) (by assumption) ?_
              rotate_left
              · intro w hSw; (try dsimp only at hSw); go_simp; (try with_reducible rfl)
              (try simp only [Act.put, List.getElem_toArray, List.getElem_cons_zero, List.getElem_cons_succ, List.setIfInBounds_toArray, List.set_cons_zero, List.set_cons_succ])
              refine wpAnyH_take (i := 2) (v := ?_) rfl (by kernel_rfl) (by kernel_rfl) (by kernel_rfl) (fun _ _ _ h => h) (Or.inl ⟨by rfl, ?_⟩) (by assumption) ?_
              rotate_left
              · intro w hSw; (try dsimp only at hSw); go_simp; (try with_reducible rfl)
              (try simp only [Act.put, List.getElem_toArray, List.getElem_cons_zero, List.getElem_cons_succ, List.setIfInBounds_toArray, List.set_cons_zero, List.set_cons_succ])
              refine wpAnyH_take (i := 3) (v := ?_) rfl (by kernel_rfl) (by kernel_rfl) (by kernel_rfl) (fun _ _ _ h => h) (Or.inl ⟨by rfl, ?_⟩) (by assumption) ?_
              rotate_left
              · intro w hSw; (try dsimp only at hSw); go_simp; (try with_reducible rfl)
              (try simp only [Act.put, List.getElem_toArray, List.getElem_cons_zero, List.getElem_cons_succ, List.setIfInBounds_toArray, List.set_cons_zero, List.set_cons_succ])
              refine wpAnyH_take (i := 4) (v := ?_) rfl (by kernel_rfl) (by kernel_rfl) (by kernel_rfl) (fun _ _ _ h => h) (Or.inl ⟨by rfl, ?_⟩) (by assumption) ?_
              rotate_left
              · intro w hSw; (try dsimp only at hSw); go_simp; (try with_reducible rfl)
              (try simp only [Act.put, List.getElem_toArray, List.getElem_cons_zero, List.getElem_cons_succ, List.setIfInBounds_toArray, List.set_cons_zero, List.set_cons_succ])
              refine wpAnyH_take (i := 7) (v := ?_) rfl (by kernel_rfl) (by kernel_rfl) (by kernel_rfl) (fun _ _ _ h => h) (Or.inl ⟨by rfl, ?_⟩) (by assumption) ?_
              rotate_left
              · intro w hSw; (try dsimp only at hSw); go_simp; (try with_reducible rfl)
              (try simp only [Act.put, List.getElem_toArray, List.getElem_cons_zero, List.getElem_cons_succ, List.setIfInBounds_toArray, List.set_cons_zero, List.set_cons_succ])
              refine wpAnyH_take (i := 8) (v := ?_) rfl (by kernel_rfl) (by kernel_rfl) (by kernel_rfl) (fun _ _ _ h => h) (Or.inl ⟨by rfl, ?_⟩) (by assumption) ?_
              rotate_left
              · intro w hSw; (try dsimp only at hSw); go_simp; (try with_reducible rfl)
              (try simp only [Act.put, List.getElem_toArray, List.getElem_cons_zero, List.getElem_cons_succ, List.setIfInBounds_toArray, List.set_cons_zero, List.set_cons_succ])
              refine wpAnyH_ready (rs := [5]) (by kernel_rfl) (by simp) ?_
              refine AllReadyH.cons rfl (fun K hK => ?_) AllReadyH.nil
              go_simp
              with_reducible refine (Flash_any hMt.drew (by omega)).mono ?_
              rintro e w7 ⟨rfl, hg7, hb7⟩
              have hb8 : Below wr.heap.size wr w7 := ((Below.refl _ wr).drew).trans hb7
              have hP7 := hPt.below hb8
              have hc7 := conv_run w7 (some ⟨wr.heap.size, 0, none⟩) n n f (.inr ⟨_, _, rfl, lt_of_heap hg7, fun i hi => by rw [Nat.zero_add]; exact cell_row hg7 i hi⟩)
              have hd7 := boxed_below (boxed_below d4 hbt d4.lt) hb8 (boxed_below d4 hbt d4.lt).lt
              have hr7 : Boxed w7 w.heap.size 4 (.bool false) := hP7.rb
              have hDm7 := (hb8.block D (lt_of_heap ((hbt.block D (lt_of_heap hDm)).trans hDm))).trans ((hbt.block D (lt_of_heap hDm)).trans hDm)
              have hK7 := (hb8.block D2 (lt_of_heap ((hbt.block D2 (lt_of_heap hK2)).trans hK2))).trans ((hbt.block D2 (lt_of_heap hK2)).trans hK2)
              refine hK.out _ _ ⟨conv_run _ q n c f (hS.below hP7.lb), hd7.cell⟩ (fun hHeld => ?_)
              clear hK K
              (try simp only [Act.put, List.getElem_toArray, List.getElem_cons_zero, List.getElem_cons_succ, List.setIfInBounds_toArray, List.set_cons_zero, List.set_cons_succ])
              refine wpAnyH_ready (rs := [6]) (by kernel_rfl) (by simp) ?_
              refine AllReadyH.cons rfl (fun K hK => ?_) AllReadyH.nil
              go_simp
              refine hK.out _ _ hHeld (fun hHeld => ?_)
              clear hK K
              (try simp only [Act.put, List.getElem_toArray, List.getElem_cons_zero, List.getElem_cons_succ, List.setIfInBounds_toArray, List.set_cons_zero, List.set_cons_succ])
              refine wpAnyH_take (i := 9) (v := ?_) rfl (by kernel_rfl) (by kernel_rfl) (by kernel_rfl) (fun _ _ _ h => h) (Or.inl ⟨by rfl, ?_⟩) (by assumption) ?_
              rotate_left
              · intro w hSw; (try dsimp only at hSw); go_simp; (try with_reducible rfl)
              (try simp only [Act.put, List.getElem_toArray, List.getElem_cons_zero, List.getElem_cons_succ, List.setIfInBounds_toArray, List.set_cons_zero, List.set_cons_succ])
              refine wpAnyH_take (i := 10) (v := ?_) rfl (by kernel_rfl) (by kernel_rfl) (by kernel_rfl) (fun _ _ _ h => h) (Or.inl ⟨by rfl, ?_⟩) (by assumption) ?_
              rotate_left
              · intro w hSw; (try dsimp only at hSw); go_simp; (try with_reducible rfl)
              (try simp only [Act.put, List.getElem_toArray, List.getElem_cons_zero, List.getElem_cons_succ, List.setIfInBounds_toArray, List.set_cons_zero, List.set_cons_succ])
              have q8 := hr7.cell
              have g8 := hr7.frozen
              refine wpAnyH_ready (rs := [11]) (by kernel_rfl) (by simp) ?_
              refine AllReadyH.cons rfl (fun K hK => ?_) AllReadyH.nil
              go_simp
              have hB8 := hP7.lb.setCell (p := ⟨w.heap.size, 0, none⟩) (Nat.le_refl _) (.bool true)
              have hNe : N ≠ w.heap.size := fun e => by
                have h1 : w7.heap[N]? = some (.cells #[.int .i64 (nzc L L.length)] 3 (0, 0)) := hd7
                have h2 : w7.heap[w.heap.size]? = some (.cells #[.bool false] 4 (0, 0)) := hr7
                rw [e, h2] at h1; simp at h1
              have hDs : D ≠ w.heap.size := fun e => by
                have h2 : w7.heap[w.heap.size]? = some (.cells #[.bool false] 4 (0, 0)) := hr7
                rw [e, h2] at hDm7; simp at hDm7
              refine hK.out _ _ ⟨conv_run _ q n c f (hS.below hB8), (hd7.other hNe _).cell⟩ (fun hHeld => ?_)
              clear hK K
              refine wpAnyH_done (by kernel_rfl) ?_ _
              refine NoPanic.normal ?_
              gi_wp2
              have hK2' : (w7.setCell ⟨w.heap.size, 0, none⟩ (.bool true)).heap[D2]? = some (.deferred (some [])) := (Below.heap_setCell _ _ _ _ (by show D2 ≠ w.heap.size; omega)).trans hK7
              have hK1' : ((w7.setCell ⟨w.heap.size, 0, none⟩ (.bool true)).putObj D2 (.deferred none)).heap[D]? = some (.deferred (some [])) := by
                have h1 : (w7.setCell ⟨w.heap.size, 0, none⟩ (.bool true)).heap[D]? = some (.deferred (some [])) := (Below.heap_setCell _ _ _ _ hDs).trans hDm7
                exact ((grownBy_putObj' (w7.setCell ⟨w.heap.size, 0, none⟩ (.bool true)) D2 (.deferred none)).block D (lt_of_heap h1) (fun e => by have := Option.some.inj e; omega)).trans h1
              refine ⟨by simp, .inl ⟨_, _, rfl, run_takeDeferred hK2', by simp, .inl ⟨_, _, rfl, run_takeDeferred hK1', ?_⟩⟩⟩
              have hc5 := cell_kept (cell_kept (hr7.set (.bool true)).cell (grownBy_putObj' _ D2 (.deferred none)) (fun r e => by cases e; exact ⟨_, hK2', rfl⟩)) (grownBy_putObj' _ D (.deferred none)) (fun r e => by cases e; exact ⟨_, hK1', rfl⟩)
              refine ⟨.bool true, ?_, rfl, (hB8.trans (belowK_b (w := w) (Nat.le_refl _) _ D2 _ _ (by omega) hK2' rfl rfl)).trans (belowK_b (w := w) (Nat.le_refl _) _ D _ _ (by omega) hK1' rfl rfl)⟩
              simp [results, Try.f3, go_sem, hc5]

end Go.Proofs.Ytiidicldbcabaaa.Mem

