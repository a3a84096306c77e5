/- The statement MemLeast's own walk. -/
import Derived.Test.YtiidicldbcabaaaMemIter
set_option linter.unusedVariables false
namespace Go.Proofs.Ytiidicldbcabaaa.Mem
open Go.RowKit Go.Shelf

attribute [local go_sem] Oper.semAt_some

/-- RAM behind k words: each at every other place, but one that is nought. -/
def gl (z : Nat → Int) (zero : Int) (k : Nat) (j : Nat) : Int := if j % 2 = 0 ∧ j / 2 < k ∧ ((j / 2 : Nat) : Int) ≠ zero then z (j / 2) else 0
/-- The words, but the one. -/
def zl (z : Nat → Int) (zero : Int) (i : Nat) : Int := if (i : Int) = zero then 0 else z i

theorem gl_zero (z : Nat → Int) (zero : Int) (j : Nat) : gl z zero 0 j = 0 := by unfold gl; rw [if_neg (by omega)]
theorem gl_put (z : Nat → Int) (zero : Int) (k : Nat) (h : (k : Int) ≠ zero) (j : Nat) : put (gl z zero k) (2 * k) (z k) j = gl z zero (k + 1) j := by
  unfold put gl
  by_cases hj : j = 2 * k
  · subst hj
    rw [if_pos rfl, if_pos ⟨by omega, by omega, by rw [show 2 * k / 2 = k by omega]; exact h⟩, show 2 * k / 2 = k by omega]
  · rw [if_neg hj]
    by_cases h2 : j % 2 = 0 ∧ j / 2 < k ∧ ((j / 2 : Nat) : Int) ≠ zero
    · rw [if_pos h2, if_pos ⟨h2.1, by omega, h2.2.2⟩]
    · rw [if_neg h2, if_neg (fun e => h2 ⟨e.1, by omega, e.2.2⟩)]
theorem gl_skip (z : Nat → Int) (zero x : Int) (k : Nat) (h : (k : Int) = zero) (j : Nat) : put (put (gl z zero k) (2 * k) x) (2 * k) 0 j = gl z zero (k + 1) j := by
  unfold put gl
  by_cases hj : j = 2 * k
  · subst hj
    rw [if_pos rfl, if_neg (fun e => e.2.2 (by rw [show 2 * k / 2 = k by omega]; exact h))]
  · rw [if_neg hj, if_neg hj]
    by_cases h2 : j % 2 = 0 ∧ j / 2 < k ∧ ((j / 2 : Nat) : Int) ≠ zero
    · rw [if_pos h2, if_pos ⟨h2.1, by omega, h2.2.2⟩]
    · rw [if_neg h2, if_neg (fun e => h2 ⟨e.1, by omega, e.2.2⟩)]
theorem cnt_more (a b : Nat) (g : Nat → Int) (h : ∀ j, a ≤ j → g j = 0) : cnt (a + b) g = cnt a g := by
  induction b with
  | zero => rfl
  | succ b ih => rw [← Nat.add_assoc, cnt_succ, ih, h _ (by omega)]; rfl
theorem cnt_gl (z : Nat → Int) (zero : Int) (n : Nat) (hn : n ≤ 100) : cnt 16384 (gl z zero n) = cnt n (zl z zero) := by
  have h1 : cnt 16384 (gl z zero n) = cnt (2 * n) (gl z zero n) := by
    have := cnt_more (2 * n) (16384 - 2 * n) (gl z zero n) (fun j hj => by unfold gl; rw [if_neg (by omega)])
    rwa [show 2 * n + (16384 - 2 * n) = 16384 by omega] at this
  rw [h1]
  suffices H : ∀ m, m ≤ n → cnt (2 * m) (gl z zero n) = cnt m (zl z zero) from H n (Nat.le_refl _)
  intro m
  induction m with
  | zero => intro _; rfl
  | succ m ih =>
    intro hm
    rw [show 2 * (m + 1) = 2 * m + 1 + 1 by omega, cnt_succ, cnt_succ, ih (by omega), cnt_succ]
    have e1 : gl z zero n (2 * m + 1) = 0 := by unfold gl; rw [if_neg (by omega)]
    have e2 : gl z zero n (2 * m) = zl z zero m := by
      unfold gl zl
      rw [show 2 * m / 2 = m by omega]
      by_cases h : (m : Int) = zero
      · rw [if_neg (fun e => e.2.2 h), if_pos h]
      · rw [if_pos ⟨by omega, by omega, h⟩, if_neg h]
    rw [e1, e2]; simp

theorem st_at (k : Nat) (hk : k < 100) : stE (536870912 + 8 * (k : Int)) = 0 ∧ (rp (536870912 + 8 * (k : Int))).toNat = 2 * k := by
  have e1 : rp (536870912 + 8 * (k : Int)) = 2 * k := by unfold rp; omega
  refine ⟨?_, by omega⟩
  unfold stE fp
  rw [if_pos (by omega), if_neg (by omega), e1, if_pos (by omega)]

theorem boxed_kept {W W' : World} {row : Option Nat} {B : Nat} {t : TypeId} {v : Value} (h : Boxed W B t v) (hg : W.grownBy W' row) (hr : ∀ r, row = some r → ∃ o : Obj, W.heap[r]? = some o ∧ o.isCells = false) : Boxed W' B t v :=
  boxed_own B t (fun _ : Unit => v) () W W' row h hg hr

theorem Store_at {w : World} {B F R n : Nat} {f g : Nat → Int} (h : Is w B F R n f g) (k : Nat) (hk : k < 100) (x : Int) :
    Calls Try.prog 12 #[.pointer (some ⟨B, 0, none⟩), .int .u32 (536870912 + 8 * (k : Int)), .int .u32 x] w fun e w' => e = .returned (.int .i64 0) ∧ w' = w.setCell ⟨R, 2 * k, none⟩ (.int .u32 x) := by
  have := Store_yes h (536870912 + 8 * (k : Int)) x (by omega) (by omega) (st_at k hk).1
  rwa [(st_at k hk).2] at this

theorem boxed_below {W W' : World} {m B : Nat} {t : TypeId} {v : Value} (h : Boxed W B t v) (hb : Below m W W') (hlt : B < m) : Boxed W' B t v := (hb.block B hlt).trans h
theorem boxed_ram {W : World} {B R i : Nat} {t : TypeId} {v u : Value} (h : Boxed W B t v) (hne : B ≠ R) : Boxed (W.setCell ⟨R, i, none⟩ u) B t v := (Below.heap_setCell _ _ _ _ hne).trans h

/-- What lies in the world behind the four boxes, the anchor and New. -/
structure Begun (w : World) (q : Option Addr) (n cap : Nat) (zero stop : Int) (B F R : Nat) (g : Nat → Int) (W : World) : Prop where
  x0 : Boxed W w.heap.size 54 (.slice q n cap)
  x1 : Boxed W (w.heap.size + 1) 3 (.int .i64 zero)
  x2 : Boxed W (w.heap.size + 1 + 1) 3 (.int .i64 stop)
  x3 : Boxed W (w.heap.size + 1 + 1 + 1) 4 (.bool false)
  mem : Is W B F R 0 (fun _ => 0) g
  lb : Below w.heap.size w W
  ge : w.heap.size + 4 ≤ B ∧ w.heap.size + 4 ≤ F ∧ w.heap.size + 4 ≤ R
theorem Begun.store {w W : World} {q : Option Addr} {n cap : Nat} {zero stop : Int} {B F R : Nat} {g : Nat → Int} (h : Begun w q n cap zero stop B F R g W) (i : Nat) (x : Int) : Begun w q n cap zero stop B F R (put g i x) (W.setCell ⟨R, i, none⟩ (.int .u32 x)) := by
  have := h.ge
  exact ⟨boxed_ram h.x0 (by omega), boxed_ram h.x1 (by omega), boxed_ram h.x2 (by omega), boxed_ram h.x3 (by omega), h.mem.store i x, h.lb.setCell (p := ⟨R, i, none⟩) (by show _ ≤ R; omega) _, h.ge⟩
theorem Begun.same {w W : World} {q : Option Addr} {n cap : Nat} {zero stop : Int} {B F R : Nat} {g g' : Nat → Int} (h : Begun w q n cap zero stop B F R g W) (hg : ∀ i, g i = g' i) : Begun w q n cap zero stop B F R g' W :=
  ⟨h.x0, h.x1, h.x2, h.x3, h.mem.same (fun i _ => hg i), h.lb, h.ge⟩
theorem begun {w w1 w2 : World} {q : Option Addr} {n cap : Nat} {zero stop : Int} {B F R : Nat}
    (hb1 : Below ((((w.alloc (.cells #[.slice q n cap] 54)).alloc (.cells #[.int .i64 zero] 3)).alloc (.cells #[.int .i64 stop] 3)).alloc (.cells #[.bool false] 4)).heap.size ((((w.alloc (.cells #[.slice q n cap] 54)).alloc (.cells #[.int .i64 zero] 3)).alloc (.cells #[.int .i64 stop] 3)).alloc (.cells #[.bool false] 4)) w1)
    (hI : Is w2 B F R 0 (fun _ => 0) (fun _ => 0)) (hle : w1.heap.size ≤ B ∧ w1.heap.size ≤ F ∧ w1.heap.size ≤ R) (hb2 : Below w1.heap.size w1 w2) : Begun w q n cap zero stop B F R (fun _ => 0) w2 := by
  have x0 := Boxed.new w 54 (.slice q n cap)
  have x1 := Boxed.new (w.alloc (.cells #[.slice q n cap] 54)) 3 (.int .i64 zero)
  have x2 := Boxed.new ((w.alloc (.cells #[.slice q n cap] 54)).alloc (.cells #[.int .i64 zero] 3)) 3 (.int .i64 stop)
  have x3 := Boxed.new (((w.alloc (.cells #[.slice q n cap] 54)).alloc (.cells #[.int .i64 zero] 3)).alloc (.cells #[.int .i64 stop] 3)) 4 (.bool false)
  have hB4 : Below w.heap.size w ((((w.alloc (.cells #[.slice q n cap] 54)).alloc (.cells #[.int .i64 zero] 3)).alloc (.cells #[.int .i64 stop] 3)).alloc (.cells #[.bool false] 4)) := ((((Below.refl _ w).alloc (Nat.le_refl _) _).alloc (by simp) _).alloc (by simp; omega) _).alloc (by simp; omega) _
  have hb3 := hb2.mono hb1.size
  have hbb := hb1.trans hb3
  have hsz := hb1.size
  simp only [World.size_alloc] at x1 x2 x3 hbb hsz
  exact ⟨boxed_below (((x0.alloc _).alloc _).alloc _) hbb (by omega), boxed_below ((x1.alloc _).alloc _) hbb (by omega), boxed_below (x2.alloc _) hbb (by omega), boxed_below x3 hbb (by omega), hI, hB4.trans (hbb.mono (by omega)), by omega⟩

set_option maxRecDepth 100000 in
set_option maxHeartbeats 4000000 in
theorem MemLeast_big (p : Option Addr) (n cap : Nat) (zero stop : Int) (w : World) (hn : 100 < n) :
    Calls Try.prog 7 #[.slice p n cap, .int .i64 zero, .int .i64 stop] w fun e w' => e = .returned (.bool true) ∧ Below w.heap.size w w' := by
  have hn' : (100 : Int) < n := by omega
  refine (callsIn_wide (n := 9)).1 ?_
  refine callsIn_of_wp_marks Try.func7 rfl trivial ?_ rfl
  simp only [Try.ntmps7, List.size_toArray, List.length_cons, List.length_nil, Nat.reduceAdd, Nat.reduceSub, Array.replicate_succ, Array.replicate_zero, List.push_toArray, List.append_toArray, List.nil_append, List.cons_append]
  gi_wp2
  refine ⟨trivial, ?_⟩
  refine (callsIn_wide.2 (anchor_any _)).mono ?_
  rintro e w1 ⟨rfl, hb1⟩
  gi_wp2
  refine ⟨trivial, ?_⟩
  refine (callsIn_wide.2 (New_ok none 0 0 (fun _ => 0) _ (Sl.zero _ _ _ _) (by decide))).mono ?_
  rintro e w2 ⟨B, F, R, rfl, hI, hle, hb2⟩
  have hG := begun hb1 hI hle hb2
  have q0 := hG.x0.cell
  have q3 := hG.x3.cell
  have g3 := hG.x3.frozen
  clear hb1 hb2 hI hle
  gi_wp2
  have hc := (hG.x3.set (.bool true)).cell
  refine ⟨.bool true, ?_, rfl, hG.lb.setCell (p := ⟨w.heap.size + 1 + 1 + 1, 0, none⟩) (by show _ ≤ w.heap.size + 1 + 1 + 1; omega) _⟩
  simp [results, Try.f7, go_sem, hc]

/-- The address of the last one that came. -/
def lastA {g : Nat → Int} (pre : List (Pl g)) : Int := match pre.getLast? with
  | none => 0
  | some x => 536870912 + 4 * (x.1 : Int)
theorem lastA_snoc {g : Nat → Int} (pre : List (Pl g)) (x : Pl g) : lastA (pre ++ [x]) = 536870912 + 4 * (x.1 : Int) := by simp [lastA]
theorem lastA_range {g : Nat → Int} (pre : List (Pl g)) : 0 ≤ lastA pre ∧ lastA pre ≤ 536936444 := by
  unfold lastA; split
  · omega
  · rename_i x _; have := x.2.1; omega
/-- No round of the iterator ends so. -/
def Off {g : Nat → Int} (xs : List (Pl g)) : Prop := ∀ (j : Nat) (h : j < 16384 ∧ g j ≠ 0), xs ≠ upTo g j ++ [⟨j, h⟩]
theorem off_low {g : Nat → Int} (pre : List (Pl g)) (x : Pl g) (h : 536870912 + 4 * (x.1 : Int) ≤ lastA pre) : Off (pre ++ [x]) := by
  intro j hj e
  obtain ⟨e1, e2⟩ := List.append_inj' e rfl
  have e3 : x = ⟨j, hj⟩ := (List.cons.inj e2).1
  subst e3
  subst e1
  unfold lastA at h
  split at h
  · have : ((⟨j, hj⟩ : Pl g).1 : Int) = j := rfl
    omega
  · rename_i y hy
    have := upTo_lt g j y (List.mem_of_getLast? hy)
    have e : ((⟨j, hj⟩ : Pl g).1 : Int) = j := rfl
    omega
theorem gl_at {z : Nat → Int} {zero : Int} {n : Nat} (x : Pl (gl z zero n)) : x.1 % 2 = 0 ∧ x.1 / 2 < n ∧ ((x.1 / 2 : Nat) : Int) ≠ zero ∧ gl z zero n x.1 = z (x.1 / 2) := by
  have := x.2.2
  by_cases h : x.1 % 2 = 0 ∧ x.1 / 2 < n ∧ ((x.1 / 2 : Nat) : Int) ≠ zero
  · exact ⟨h.1, h.2.1, h.2.2, by unfold gl; rw [if_pos h]⟩
  · exact absurd (by unfold gl; rw [if_neg h]) this

set_option maxRecDepth 100000 in
set_option maxHeartbeats 4000000 in
theorem MemLeast_any (p : Option Addr) (n cap : Nat) (z : Nat → Int) (zero stop : Int) (w : World) (hn : n ≤ 100) (hS : Sl w .u32 p n z) (hz : ∀ i, i < n → 0 ≤ z i ∧ z i < 4294967296) :
    Calls Try.prog 7 #[.slice p n cap, .int .i64 zero, .int .i64 stop] w fun e w' => e = .returned (.bool true) ∧ Below w.heap.size w w' := by
  have hn' : ¬ (100 : Int) < n := by omega
  refine (callsIn_wide (n := 9)).1 ?_
  refine callsIn_of_wp_marks Try.func7 rfl trivial ?_ rfl
  simp only [Try.ntmps7, List.size_toArray, List.length_cons, List.length_nil, Nat.reduceAdd, Nat.reduceSub, Array.replicate_succ, Array.replicate_zero, List.push_toArray, List.append_toArray, List.nil_append, List.cons_append]
  gi_wp2
  refine ⟨trivial, ?_⟩
  refine (callsIn_wide.2 (anchor_any _)).mono ?_
  rintro e w1 ⟨rfl, hb1⟩
  gi_wp2
  refine ⟨trivial, ?_⟩
  refine (callsIn_wide.2 (New_ok none 0 0 (fun _ => 0) _ (Sl.zero _ _ _ _) (by decide))).mono ?_
  rintro e w2 ⟨B, F, R, rfl, hI, hle, hb2⟩
  have hG := begun hb1 hI hle hb2
  have q0 := hG.x0.cell
  clear hb1 hb2 hI hle
  gi_wp2
  gi_loopw [9, 39] (fun t i wr => ∃ k : Nat, k ≤ n ∧ i = .int .i64 k ∧ t = .int .i64 (cnt k (zl z zero)) ∧ Begun w p n cap zero stop B F R (gl z zero k) wr) (fun _ i _ => n - (intOf i).toNat)
  case atStart => exact ⟨0, Nat.zero_le _, rfl, rfl, hG.same (fun i => (gl_zero z zero i).symm)⟩
  case round =>
    clear hG q0
    obtain ⟨k, hk, rfl, rfl, hG⟩ := hrel
    by_cases hlt : k < n
    · obtain ⟨b, off, rfl, hb, hc⟩ : ∃ b off, p = some ⟨b, off, none⟩ ∧ b < w.heap.size ∧ ∀ i, i < n → w.cell? ⟨b, off + i, none⟩ = some (.int .u32 (z i)) := by
        rcases hS with h | h
        · omega
        · exact h
      have hck := (hG.lb.cell (p := ⟨b, off + k, none⟩) hb).trans (hc k hlt)
      have hG2 := hG.store (2 * k) (z k)
      have hw1 := cnt_le k (zl z zero)
      by_cases hz0 : (k : Int) = zero
      · have HC : Hid (cnt (k + 1) (zl z zero) = cnt k (zl z zero)) := by show _ = _; rw [cnt_succ]; simp [zl, hz0]
        have hd : ((k : Int) == zero) = true := by simpa using hz0
        have HG := hG2.store (2 * k) 0
        have HG' : Hid (Begun w _ n cap zero stop B F R (gl z zero (k + 1)) ((wr.setCell ⟨R, 2 * k, none⟩ (.int .u32 (z k))).setCell ⟨R, 2 * k, none⟩ (.int .u32 0))) := HG.same (gl_skip z zero (z k) k hz0)
        have hM1 := hG.mem
        have hM2 := hG2.mem
        have hx1 := hG2.x1.cell
        clear HG hG hG2 hz0
        gi_wp2
        refine ⟨trivial, ?_⟩
        refine (callsIn_wide.2 (Store_at hM1 k (by omega) (z k))).mono ?_
        rintro e w3 ⟨rfl, rfl⟩
        generalize wr.setCell ⟨R, 2 * k, none⟩ (.int .u32 (z k)) = wr2 at *
        gi_wp2
        refine ⟨trivial, ?_⟩
        refine (callsIn_wide.2 (Store_at hM2 k (by omega) 0)).mono ?_
        rintro e w3 ⟨rfl, rfl⟩
        gi_wp2
        go_roundw
        case rel => exact ⟨k + 1, by omega, by simp, by rw [HC.out], HG'.out⟩
        case measure => simp [intOf]; omega
      · have HG' : Hid (Begun w _ n cap zero stop B F R (gl z zero (k + 1)) (wr.setCell ⟨R, 2 * k, none⟩ (.int .u32 (z k)))) := hG2.same (gl_put z zero k hz0)
        have hd : ((k : Int) == zero) = false := by simpa using hz0
        have hM1 := hG.mem
        have hx1 := hG2.x1.cell
        by_cases hzk : z k = 0
        · have HC : Hid (cnt (k + 1) (zl z zero) = cnt k (zl z zero)) := by show _ = _; rw [cnt_succ]; simp [zl, hz0, hzk]
          have hd2 : (z k != 0) = false := by simpa using hzk
          clear hG hG2 hz0 hzk
          gi_wp2
          refine ⟨trivial, ?_⟩
          refine (callsIn_wide.2 (Store_at hM1 k (by omega) (z k))).mono ?_
          rintro e w3 ⟨rfl, rfl⟩
          generalize wr.setCell ⟨R, 2 * k, none⟩ (.int .u32 (z k)) = wr2 at *
          gi_wp2
          go_roundw
          case rel => exact ⟨k + 1, by omega, by simp, by rw [HC.out], HG'.out⟩
          case measure => simp [intOf]; omega
        · have HC : Hid (cnt (k + 1) (zl z zero) = cnt k (zl z zero) + 1) := by show _ = _; rw [cnt_succ]; simp [zl, hz0, hzk]
          have hd2 : (z k != 0) = true := by simpa using hzk
          clear hG hG2 hz0 hzk
          gi_wp2
          refine ⟨trivial, ?_⟩
          refine (callsIn_wide.2 (Store_at hM1 k (by omega) (z k))).mono ?_
          rintro e w3 ⟨rfl, rfl⟩
          generalize wr.setCell ⟨R, 2 * k, none⟩ (.int .u32 (z k)) = wr2 at *
          gi_wp2
          go_roundw
          case rel => exact ⟨k + 1, by omega, by simp, by rw [HC.out]; simp, HG'.out⟩
          case measure => simp [intOf]; omega
    · obtain rfl : k = n := by omega
      have hM := hG.mem
      have hge := hG.ge
      have hlb := hG.lb
      gi_wp2
      refine ⟨trivial, ?_⟩
      refine (callsIn_wide.2 (Ram_any B _)).mono ?_
      rintro e w3 ⟨rfl, rfl⟩
      simp only [World.size_alloc]
      gi_wp2
      have hRN := hM.ltR
      have y0 := Boxed.new wr 3 (.int .i64 0)
      have y1 := Boxed.new (wr.alloc (.cells #[.int .i64 0] 3)) 33 (.int .u32 0)
      have y2 := Boxed.new ((wr.alloc (.cells #[.int .i64 0] 3)).alloc (.cells #[.int .u32 0] 33)) 25 (.pointer (some ⟨B, 0, none⟩))
      simp only [World.size_alloc] at y1 y2
      have hsw := hlb.size
      have hB4 : Below w.heap.size w (((wr.alloc (.cells #[.int .i64 0] 3)).alloc (.cells #[.int .u32 0] 33)).alloc (.cells #[.pointer (some ⟨B, 0, none⟩)] 25)) := ((hlb.alloc hlb.size _).alloc (by simp; omega) _).alloc (by simp; omega) _
      refine wpIn_rangeFunc_ownF rfl (by omega) (gf := 25) (lb := #[.pointer (some ⟨wr.heap.size + 1 + 1, 0, none⟩)]) rfl trivial (enters_of Try.func25 (by kernel_rfl) rfl)
        (Ram1_stops _ (by omega) wr.heap.size (wr.heap.size + 1 + 1) B F R 0 (fun _ => 0) (gl z zero k) _ (by simp; omega) hRN y2.cell (((hM.alloc _).alloc _).alloc _)) belowK_t (belowK_b (by simp; omega)) (Below.refl _ _) (fun _ => rfl)
        (fun pre W => (Boxed W w.heap.size 54 (.slice p k cap) ∧ Boxed W (w.heap.size + 1) 3 (.int .i64 zero) ∧ Boxed W (w.heap.size + 1 + 1) 3 (.int .i64 stop) ∧ Boxed W (w.heap.size + 1 + 1 + 1) 4 (.bool false) ∧
          Boxed W wr.heap.size 3 (.int .i64 pre.length) ∧ Boxed W (wr.heap.size + 1) 33 (.int .u32 (lastA pre))) ∧ Below w.heap.size w W)
        (fun c pre W => (c = .ret ∧ (Boxed W (w.heap.size + 1 + 1 + 1) 4 (.bool true) ∨ (Boxed W (w.heap.size + 1 + 1 + 1) 4 (.bool false) ∧ Off pre))) ∧ Below w.heap.size w W)
        (OwnFrom.and (Own.from (fun s A B row hs hg hr => ⟨boxed_kept hs.1 hg hr, boxed_kept hs.2.1 hg hr, boxed_kept hs.2.2.1 hg hr, boxed_kept hs.2.2.2.1 hg hr, boxed_kept hs.2.2.2.2.1 hg hr, boxed_kept hs.2.2.2.2.2 hg hr⟩) _) (ownFrom_below (Nat.le_refl _) (by simp; omega)))
        (fun c => OwnFrom.and (Own.from (fun s A B row hs hg hr => ⟨hs.1, hs.2.imp (fun h => boxed_kept h hg hr) (fun h => ⟨boxed_kept h.1 hg hr, h.2⟩)⟩) _) (ownFrom_below (Nat.le_refl _) (by simp; omega)))
        ⟨⟨((hG.x0.alloc _).alloc _).alloc _, ((hG.x1.alloc _).alloc _).alloc _, ((hG.x2.alloc _).alloc _).alloc _, ((hG.x3.alloc _).alloc _).alloc _, (y0.alloc _).alloc _, y1.alloc _⟩, hB4⟩
        ?a1 ?assign ?body ?done ?stop
      case assign =>
        intro l x W K hK
        gi_wp2
        exact hK
      case body =>
        clear y0 y1 y2 hB4
        rintro l pre x W ⟨⟨d0, d1, d2, d3, d4, d5⟩, hB⟩ hlen
        obtain ⟨e1, e2, e3, e4⟩ := gl_at x
        have hv := x.2.2
        obtain ⟨m, hm⟩ : ∃ m, x.1 = 2 * m := ⟨x.1 / 2, by omega⟩
        have hA : 536870912 + 4 * (x.1 : Int) = 536870912 + 8 * (m : Int) := by omega
        rw [show x.1 / 2 = m by omega] at e2 e3 e4
        rw [e4] at hv
        have HL : Hid (lastA (pre ++ [x]) = 536870912 + 8 * (m : Int)) := by rw [← hA]; exact lastA_snoc pre x
        have HO : Hid (536870912 + 8 * (m : Int) ≤ lastA pre → Off (pre ++ [x])) := fun h => off_low pre x (by omega)
        have hlr := lastA_range pre
        rw [e4, hA]
        obtain ⟨b, off, rfl, hb, hc⟩ : ∃ b off, p = some ⟨b, off, none⟩ ∧ b < w.heap.size ∧ ∀ i, i < k → w.cell? ⟨b, off + i, none⟩ = some (.int .u32 (z i)) := by
          rcases hS with h | h
          · omega
          · exact h
        have hck := (hB.cell (p := ⟨b, off + m, none⟩) hb).trans (hc m e2)
        have hzm := hz m e2
        have q0 := d0.cell
        have q1 := d1.cell
        have q2 := d2.cell
        have q3 := d3.cell
        have q4 := d4.cell
        have q5 := d5.cell
        have g3 := d3.frozen
        have g4 := d4.frozen
        have g5 := d5.frozen
        have hv2 : (z m == 0) = false := by simpa using hv
        have he3 : ((m : Int) == zero) = false := by simpa using e3
        have hmm : (m : Int) < k := by omega
        have hq : (536870912 + 8 * (m : Int) - 536870912) / 8 = m := by omega
        clear e1 e4 hv hA hm hz hc hG hM hn' e3
        generalize lastA pre = la at *
        by_cases hle : 536870912 + 8 * (m : Int) ≤ la
        · gi_wp2
          exact ⟨KeepsOthers.setCell _ _ _, ⟨rfl, .inr ⟨d3.set _, HO.out hle⟩⟩, hB.setCell (p := ⟨w.heap.size + 1 + 1 + 1, 0, none⟩) (by show _ ≤ w.heap.size + 1 + 1 + 1; omega) _⟩
        · gi_wp2
          · refine ⟨((KeepsOthers.setCell _ _ _).trans (KeepsOthers.setCell _ _ _)).trans (KeepsOthers.setCell _ _ _), ⟨rfl, .inl (((d3.other (by omega) _).other (by omega) _).set _)⟩, ?_⟩
            exact ((hB.setCell (p := ⟨wr.heap.size + 1, 0, none⟩) (by show _ ≤ wr.heap.size + 1; omega) _).setCell (p := ⟨wr.heap.size, 0, none⟩) (by show _ ≤ wr.heap.size; omega) _).setCell (p := ⟨w.heap.size + 1 + 1 + 1, 0, none⟩) (by show _ ≤ w.heap.size + 1 + 1 + 1; omega) _
          · have hlen2 : (((pre ++ [x]).length : Nat) : Int) = (pre.length : Int) + 1 := by simp
            refine ⟨(KeepsOthers.setCell _ _ _).trans (KeepsOthers.setCell _ _ _), ?_, ⟨(d0.other (by omega) _).other (by omega) _, (d1.other (by omega) _).other (by omega) _, (d2.other (by omega) _).other (by omega) _, (d3.other (by omega) _).other (by omega) _, ?_, ?_⟩, ?_⟩
            · exact ((Below.refl wr.heap.size _).setCell (p := ⟨wr.heap.size + 1, 0, none⟩) (by show _ ≤ wr.heap.size + 1; omega) _).setCell (p := ⟨wr.heap.size, 0, none⟩) (Nat.le_refl _) _
            · rw [hlen2]; exact (d4.other (by omega) _).set _
            · rw [HL.out]; exact (d5.set _).other (by omega) _
            · exact (hB.setCell (p := ⟨wr.heap.size + 1, 0, none⟩) (by show _ ≤ wr.heap.size + 1; omega) _).setCell (p := ⟨wr.heap.size, 0, none⟩) (by show _ ≤ wr.heap.size; omega) _
      case done =>
        rintro D ys W hD rfl ⟨⟨d0, d1, d2, d3, d4, d5⟩, hB⟩ hK
        rw [upTo_len _ _ (Nat.le_refl _), cnt_gl z zero k hn] at d4
        have q4 := d4.cell
        have q3 := d3.cell
        have g3 := d3.frozen
        gi_wp2
        have hK' := (KeepsOthers.setCell W ⟨w.heap.size + 1 + 1 + 1, 0, none⟩ (.bool true)).same D _ hK rfl
        refine ⟨by simp, .inl ⟨_, _, rfl, run_takeDeferred hK', ?_⟩⟩
        have hc5 := cell_kept (d3.set (.bool true)).cell (grownBy_putObj' _ D (.deferred none)) (fun r e => by cases e; exact ⟨_, hK', rfl⟩)
        refine ⟨.bool true, ?_, rfl, (hB.setCell (p := ⟨w.heap.size + 1 + 1 + 1, 0, none⟩) (by show _ ≤ w.heap.size + 1 + 1 + 1; omega) _).trans (belowK_b (w := w) (Nat.le_refl _) _ D _ _ (by simp at hD; omega) hK' rfl rfl)⟩
        simp [results, Try.f7, go_sem, hc5]
      case stop =>
        rintro D c pre W hD ⟨j, hh, hp⟩ ⟨⟨rfl, hr⟩, hB⟩ hK
        rcases hr with d3 | ⟨_, ho⟩
        · gi_wp2
          refine ⟨by simp, .inl ⟨_, _, rfl, run_takeDeferred hK, ?_⟩⟩
          have hc5 := cell_kept d3.cell (grownBy_putObj' _ D (.deferred none)) (fun r e => by cases e; exact ⟨_, hK, rfl⟩)
          refine ⟨.bool true, ?_, rfl, hB.trans (belowK_b (w := w) (Nat.le_refl _) W D _ _ (by simp at hD; omega) hK rfl rfl)⟩
          simp [results, Try.f7, go_sem, hc5]
        · exact absurd hp (ho j hh)

end Go.Proofs.Ytiidicldbcabaaa.Mem

