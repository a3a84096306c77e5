/- The document's own memory: Store of remontoireref06: contract. -/
import Derived.Test.YtiidicldbcabaaaMemRefL
set_option linter.unusedVariables false
namespace Go.Proofs.Ytiidicldbcabaaa.Mem
open Go.RowKit

/-- The cells of a list of stored words. -/
def lcells : List (Int × Int) → List Value
  | [] => []
  | e :: L => .int .u32 e.1 :: .int .u32 e.2 :: lcells L
theorem lcells_snoc (L : List (Int × Int)) (e : Int × Int) : lcells (L ++ [e]) = lcells L ++ [.int .u32 e.1, .int .u32 e.2] := by
  induction L with
  | nil => rfl
  | cons d L ih => simp only [List.cons_append, lcells, ih]
theorem lcells_len (L : List (Int × Int)) : (lcells L).length = L.length * 2 := by
  induction L with
  | nil => rfl
  | cons d L ih => simp only [lcells, List.length_cons, ih]; omega
theorem lcells_get (L : List (Int × Int)) (i : Nat) (hi : i < L.length) : (lcells L)[i * 2]? = some (.int .u32 (L.getD i (0, 0)).1) ∧ (lcells L)[i * 2 + 1]? = some (.int .u32 (L.getD i (0, 0)).2) := by
  induction L generalizing i with
  | nil => simp at hi
  | cons d L ih =>
    cases i with
    | zero => exact ⟨rfl, rfl⟩
    | succ i =>
      have := ih i (by simpa using hi)
      rw [show (i + 1) * 2 = i * 2 + 1 + 1 by omega]
      simpa [lcells] using this
theorem own_lr {w : World} {base : Nat} {lp : Option Addr} {m lc : Nat} {L : List (Int × Int)} (h : w.ownsRow base 47 2 (.slice lp m lc) L.length (lcells L)) :
    m = L.length ∧ Lr w lp L ∧ ∀ ad, lp = some ad → base ≤ ad.block := by
  rcases h.2 with ⟨hv, hn⟩ | ⟨g, cap, cur, hv, hb, hg, h1, h2, h3, h4⟩
  · cases hv
    exact ⟨hn.symm, .inl hn, fun ad e => by cases e⟩
  · cases hv
    refine ⟨rfl, .inr ⟨g, rfl, lt_of_heap hg, fun i hi => ?_⟩, fun ad e => by cases e; exact hb⟩
    have key : ∀ j, j < L.length * 2 → w.cell? ⟨g, j, none⟩ = (lcells L)[j]? := fun j hj => by
      have e : w.cell? ⟨g, j, none⟩ = cur[j]? := by simp [World.cell?, hg]
      rw [e, ← h4, List.getElem?_take_of_lt hj, Array.getElem?_toList]
    obtain ⟨e1, e2⟩ := lcells_get L i hi
    exact ⟨(key _ (by omega)).trans e1, (key _ (by omega)).trans e2⟩

theorem infoW : (Try.prog.info? 47).map (fun i => (i.zero, i.size, i.bytes)) = some (some (.agg #[.int .u32 0, .int .u32 0]), 2, 8) := by kernel_rfl

/-- Of the first k those of other addresses. -/
def flt (L : List (Int × Int)) (a : Int) (k : Nat) : List (Int × Int) := (L.take k).filter (fun e => e.1 != a)
theorem flt_len (L : List (Int × Int)) (a : Int) (k : Nat) : (flt L a k).length ≤ L.length := by
  unfold flt; have := List.length_filter_le (fun e : Int × Int => e.1 != a) (L.take k); simp at *; omega
theorem flt_yes (L : List (Int × Int)) (a : Int) (k : Nat) (hk : k < L.length) (h : (L.getD k (0, 0)).1 ≠ a) : flt L a (k + 1) = flt L a k ++ [((L.getD k (0, 0)).1, (L.getD k (0, 0)).2)] := by
  unfold flt
  have e : L.getD k (0, 0) = L[k] := by simp [List.getD, hk]
  rw [List.take_succ_eq_append_getElem hk, List.filter_append, ← e]
  generalize L.getD k (0, 0) = d at *
  simp [h]
theorem flt_no (L : List (Int × Int)) (a : Int) (k : Nat) (hk : k < L.length) (h : (L.getD k (0, 0)).1 = a) : flt L a (k + 1) = flt L a k := by
  unfold flt
  have e : L.getD k (0, 0) = L[k] := by simp [List.getD, hk]
  rw [List.take_succ_eq_append_getElem hk, List.filter_append, ← e]
  generalize L.getD k (0, 0) = d at *
  simp [h]
theorem flt_all (L : List (Int × Int)) (a x : Int) : flt L a L.length ++ [(a, x)] = st L a x := by unfold flt st; rw [List.take_length]

/-- What lies behind the two boxes of Store: the memory's and the result's. -/
structure Two (W : World) (S : Nat) (v0 v1 u0 u1 : Value) : Prop where
  b0 : W.heap[S]? = some (.cells #[v0, v1] 31 (0, 0))
  b1 : W.heap[S + 1]? = some (.cells #[u0, u1] 31 (0, 0))
theorem Two.new (w : World) (v0 v1 u0 u1 : Value) : Two ((w.alloc (.cells #[v0, v1] 31)).alloc (.cells #[u0, u1] 31)) w.heap.size v0 v1 u0 u1 := by
  refine ⟨(Below.heap_alloc _ _ _ (by simp)).trans (heap_alloc_new w _), ?_⟩
  have := heap_alloc_new (w.alloc (.cells #[v0, v1] 31)) (.cells #[u0, u1] 31)
  rwa [World.size_alloc] at this
theorem Two.below {W W' : World} {S : Nat} {v0 v1 u0 u1 : Value} (h : Two W S v0 v1 u0 u1) (hb : Below (S + 2) W W') : Two W' S v0 v1 u0 u1 := ⟨(hb.block _ (by omega)).trans h.b0, (hb.block _ (by omega)).trans h.b1⟩
section
variable {W : World} {S : Nat} {v0 v1 u0 u1 : Value}
theorem Two.c0 (h : Two W S v0 v1 u0 u1) : W.cell? ⟨S, 0, none⟩ = some v0 := by simp [World.cell?, h.b0]
theorem Two.c1 (h : Two W S v0 v1 u0 u1) : W.cell? ⟨S, 1, none⟩ = some v1 := by simp [World.cell?, h.b0]
theorem Two.d0 (h : Two W S v0 v1 u0 u1) : W.cell? ⟨S + 1, 0, none⟩ = some u0 := by simp [World.cell?, h.b1]
theorem Two.d1 (h : Two W S v0 v1 u0 u1) : W.cell? ⟨S + 1, 1, none⟩ = some u1 := by simp [World.cell?, h.b1]
theorem Two.f (h : Two W S v0 v1 u0 u1) (i : Nat) : W.frozen? ⟨S, i, none⟩ = false := free_row h.b0 i
theorem Two.g (h : Two W S v0 v1 u0 u1) (i : Nat) : W.frozen? ⟨S + 1, i, none⟩ = false := free_row h.b1 i
end

set_option maxRecDepth 100000 in
set_option maxHeartbeats 2000000 in
theorem refStore_yes (q lp : Option Addr) (n c lc : Nat) (L : List (Int × Int)) (a x : Int) (w : World) (hL : Lr w lp L) (hl : L.length ≤ 100) (hE : stE a = 0) (h0 : 0 ≤ a) (h1 : a < 4294967296) :
    Calls Try.prog 11 #[.agg #[.slice q n c, .slice lp L.length lc], .int .u32 a, .int .u32 x] w fun e w' => ∃ lp' lc', e = .returned (.tuple #[.agg #[.slice q n c, .slice lp' (st L a x).length lc'], .int .i64 0]) ∧ Lr w' lp' (st L a x) ∧ (∀ ad, lp' = some ad → w.heap.size ≤ ad.block) ∧ Below w.heap.size w w' := by
  obtain ⟨i0, hi, hz0, hz1, hz2⟩ := info_parts infoW
  have hr : (decide (536870912 ≤ a) && decide (a ≤ 536936444)) = true ∧ a % 4 = 0 := by
    unfold stE at hE
    by_cases ha : a % 4 = 0
    · rw [if_pos ha] at hE
      by_cases hp : fp a < 65536
      · rw [if_pos hp] at hE; omega
      · rw [if_neg hp] at hE
        by_cases hq : rp a < 16384
        · unfold rp at hq
          rw [decide_eq_true (show 536870912 ≤ a by omega), decide_eq_true (show a ≤ 536936444 by omega)]; exact ⟨rfl, ha⟩
        · rw [if_neg hq] at hE; omega
    · rw [if_neg ha] at hE; omega
  obtain ⟨hr, ha⟩ := hr
  have hfl : ¬ a < 134283264 := by
    intro hlt
    have : decide (536870912 ≤ a) = false := decide_eq_false (by omega)
    rw [this] at hr; cases hr
  go_enter Try.func11, Try.ntmps11
  go_wp2_with (go_at_call 20; refine (refram_any _ _).mono ?_; rintro e w' ⟨rfl, rfl⟩; rw [hr])
  have hT := Two.new w (.slice q n c) (.slice lp L.length lc) (.slice none 0 0) (.slice none 0 0)
  have hL2 := (hL.alloc (.cells #[.slice q n c, .slice lp L.length lc] 31)).alloc (.cells #[.slice none 0 0, .slice none 0 0] 31)
  have hB2 := ((Below.refl w.heap.size w).alloc (Nat.le_refl _) (.cells #[.slice q n c, .slice lp L.length lc] 31)).alloc (by simp) (.cells #[.slice none 0 0, .slice none 0 0] 31)
  have hsz : ((w.alloc (.cells #[.slice q n c, .slice lp L.length lc] 31)).alloc (.cells #[.slice none 0 0, .slice none 0 0] 31)).heap.size = w.heap.size + 2 := by simp
  have HL2 : Hid (Lr ((w.alloc (.cells #[.slice q n c, .slice lp L.length lc] 31)).alloc (.cells #[.slice none 0 0, .slice none 0 0] 31)) lp L) := hL2
  have HB2 : Hid (Below w.heap.size w ((w.alloc (.cells #[.slice q n c, .slice lp L.length lc] 31)).alloc (.cells #[.slice none 0 0, .slice none 0 0] 31))) := hB2
  have HZ : Hid (((w.alloc (.cells #[.slice q n c, .slice lp L.length lc] 31)).alloc (.cells #[.slice none 0 0, .slice none 0 0] 31)).heap.size = w.heap.size + 2) := hsz
  have HT : Hid (Two ((w.alloc (.cells #[.slice q n c, .slice lp L.length lc] 31)).alloc (.cells #[.slice none 0 0, .slice none 0 0] 31)) w.heap.size (.slice q n c) (.slice lp L.length lc) (.slice none 0 0) (.slice none 0 0)) := hT
  clear hT hL2 hB2 hsz hL
  generalize (w.alloc (.cells #[.slice q n c, .slice lp L.length lc] 31)).alloc (.cells #[.slice none 0 0, .slice none 0 0] 31) = W2 at *
  go_loopw [8, 9] (fun v i wr => ∃ k : Nat, k ≤ L.length ∧ i = .int .i64 k ∧ wr.ownsRow (w.heap.size + 2) 47 2 v (flt L a k).length (lcells (flt L a k)) ∧ Below (w.heap.size + 2) W2 wr) (fun _ i _ => L.length - (intOf i).toNat)
  case atStart => exact ⟨0, Nat.zero_le _, rfl, World.ownsRow_nil _ _ _ _, Below.refl _ _⟩
  case round =>
    obtain ⟨k, hk, rfl, hown, hnx⟩ := hrel
    have HTr := HT.out.below hnx
    have x1 := HTr.c1
    have hfl := flt_len L a k
    have hwz : w.heap.size + 2 ≤ wr.heap.size := by have := hnx.size; have := HZ.out; omega
    by_cases hlt : k < L.length
    · obtain ⟨b, rfl, hb, hc⟩ : ∃ b, lp = some ⟨b, 0, none⟩ ∧ b < W2.heap.size ∧ ∀ i, i < L.length → W2.cell? ⟨b, i * 2, none⟩ = some (.int .u32 (L.getD i (0, 0)).1) ∧ W2.cell? ⟨b, i * 2 + 1, none⟩ = some (.int .u32 (L.getD i (0, 0)).2) := by
        rcases HL2.out with h | h
        · omega
        · exact h
      have c0 := (hnx.cell (p := ⟨b, k * 2, none⟩) (by have := HZ.out; show b < _; omega)).trans (hc k hlt).1
      have c1 := (hnx.cell (p := ⟨b, k * 2 + 1, none⟩) (by have := HZ.out; show b < _; omega)).trans (hc k hlt).2
      obtain ⟨A, hA⟩ : ∃ A, A = (L.getD k (0, 0)).1 := ⟨_, rfl⟩
      obtain ⟨X, hX⟩ : ∃ X, X = (L.getD k (0, 0)).2 := ⟨_, rfl⟩
      rw [← hA] at c0
      rw [← hX] at c1
      have HA : Hid (A = (L.getD k (0, 0)).1) := hA
      have HX : Hid (X = (L.getD k (0, 0)).2) := hX
      clear hA hX hc
      by_cases hAa : A = a
      · have hd : (A != a) = false := by simpa using hAa
        have HF : Hid (flt L a (k + 1) = flt L a k) := flt_no L a k hlt (by rw [← HA.out, hAa])
        clear hAa
        go_wp2_with fail
        go_roundw
        case rel => exact ⟨k + 1, by omega, by simp, by rw [HF.out]; exact hown, hnx⟩
        case measure => simp [intOf]; omega
      · have hd : (A != a) = true := by simpa using hAa
        have HF : Hid (flt L a (k + 1) = flt L a k ++ [(A, X)]) := by show _ = _; rw [HA.out, HX.out]; exact flt_yes L a k hlt (by rw [← HA.out]; exact hAa)
        clear hAa
        go_wp2_with (at_builtin; refine wpList_append_own _ rfl (.tmp 40) (.tmp 46) 29 rfl (w.heap.size + 2) 47 i0 (.agg #[.int .u32 0, .int .u32 0]) 2 8 Try.underlying29 hi hz0 hz1 hz2 rfl (by decide) _ _ _ rfl (hown.alloc _) ⟨wr.heap.size, 0, none⟩ 1 1 [.int .u32 A, .int .u32 X] rfl rfl ?c1 ?c2 ?c3 ?c4 ?c5 ?_)
        case c1 =>
          intro j u hj
          match j, hj with
          | 0, hj => simp at hj; subst hj; simp [Addr.add]
          | 1, hj => simp at hj; subst hj; simp [Addr.add]
        case c2 => intro u hu; simp at hu; rcases hu with rfl | rfl <;> rfl
        case c3 => unfold maxLen; omega
        case c4 => omega
        case c5 => simp; omega
        intro v' w1 hown' hgrow _
        have hb1 := (hnx.alloc hwz (.cells #[.int .u32 A, .int .u32 X] 47)).grown hgrow (by simp; omega) (fun j hj => (hown.lt j hj).1)
        have HO : Hid (w1.ownsRow (w.heap.size + 2) 47 2 v' (flt L a (k + 1)).length (lcells (flt L a (k + 1)))) := by
          show World.ownsRow _ _ _ _ _ _ _
          rw [HF.out, lcells_snoc, List.length_append]; exact hown'
        clear hown' hgrow hown hnx HTr x1 c0 c1
        go_wp2_with fail
        go_roundw
        case rel => exact ⟨k + 1, by omega, by simp, HO.out, hb1⟩
        case measure => simp [intOf]; omega
    · obtain rfl : k = L.length := by omega
      go_wp2_with (at_builtin; refine wpList_append_own _ rfl (.tmp 48) (.tmp 52) 29 rfl (w.heap.size + 2) 47 i0 (.agg #[.int .u32 0, .int .u32 0]) 2 8 Try.underlying29 hi hz0 hz1 hz2 rfl (by decide) _ _ _ rfl (hown.alloc _) ⟨wr.heap.size, 0, none⟩ 1 1 [.int .u32 a, .int .u32 x] rfl rfl ?k1 ?k2 ?k3 ?k4 ?k5 ?_)
      case k1 =>
        intro j u hj
        match j, hj with
        | 0, hj => simp at hj; subst hj; simp [Addr.add]
        | 1, hj => simp at hj; subst hj; simp [Addr.add]
      case k2 => intro u hu; simp at hu; rcases hu with rfl | rfl <;> rfl
      case k3 => unfold maxLen; omega
      case k4 => omega
      case k5 => simp; omega
      intro v' w1 hown' hgrow _
      obtain ⟨g', cap', rfl⟩ : ∃ g' cap', v' = .slice (some ⟨g', 0, none⟩) ((flt L a L.length).length + 1) cap' := by
        rcases hown'.2 with ⟨_, hn⟩ | ⟨g', cap', _, hv, _⟩
        · omega
        · exact ⟨g', cap', hv⟩
      have hb1 := (hnx.alloc hwz (.cells #[.int .u32 a, .int .u32 x] 47)).grown hgrow (by simp; omega) (fun j hj => (hown.lt j hj).1)
      have HT1 := HT.out.below hb1
      have y0 := HT1.c0
      have y1 := HT1.c1
      have y2 := HT1.d0
      have y3 := HT1.d1
      have z1 := HT1.f 1
      have z2 := HT1.g 0
      have z3 := HT1.g 1
      clear hgrow hown hnx HTr x1
      go_wp2_with fail
      have hlen : (flt L a L.length).length + 1 = (st L a x).length := by rw [← flt_all L a x, List.length_append]; rfl
      have hown2 : w1.ownsRow (w.heap.size + 2) 47 2 (.slice (some ⟨g', 0, none⟩) ((flt L a L.length).length + 1) cap') (st L a x).length (lcells (st L a x)) := by
        rw [← flt_all L a x, lcells_snoc, List.length_append]; exact hown'
      rw [hlen] at hown2
      rw [hlen]
      have hown3 := ownsRow_setCell_below (ownsRow_setCell_below (ownsRow_setCell_below hown2 (a := ⟨w.heap.size, 1, none⟩) (by show w.heap.size < _; omega) (.slice (some ⟨g', 0, none⟩) (st L a x).length cap')) (a := ⟨w.heap.size + 1, 0, none⟩) (by show w.heap.size + 1 < _; omega) (.slice q n c)) (a := ⟨w.heap.size + 1, 1, none⟩) (by show w.heap.size + 1 < _; omega) (.slice (some ⟨g', 0, none⟩) (st L a x).length cap')
      obtain ⟨_, r1, r2⟩ := own_lr hown3
      have hh : (((w1.setCell ⟨w.heap.size, 1, none⟩ (.slice (some ⟨g', 0, none⟩) (st L a x).length cap')).setCell ⟨w.heap.size + 1, 0, none⟩ (.slice q n c)).setCell ⟨w.heap.size + 1, 1, none⟩ (.slice (some ⟨g', 0, none⟩) (st L a x).length cap')).heap[w.heap.size + 1]? = some (.cells #[.slice q n c, .slice (some ⟨g', 0, none⟩) (st L a x).length cap'] 31 (0, 0)) := by
        have e1 : (w1.setCell ⟨w.heap.size, 1, none⟩ (.slice (some ⟨g', 0, none⟩) (st L a x).length cap')).heap[w.heap.size + 1]? = some (.cells #[.slice none 0 0, .slice none 0 0] 31 (0, 0)) := (Below.heap_setCell _ _ _ _ (by show w.heap.size + 1 ≠ w.heap.size; omega)).trans HT1.b1
        rw [setRam_heap _ 1 _ (setRam_heap _ 0 _ e1)]; rfl
      have hbb : Below w.heap.size w (((w1.setCell ⟨w.heap.size, 1, none⟩ (.slice (some ⟨g', 0, none⟩) (st L a x).length cap')).setCell ⟨w.heap.size + 1, 0, none⟩ (.slice q n c)).setCell ⟨w.heap.size + 1, 1, none⟩ (.slice (some ⟨g', 0, none⟩) (st L a x).length cap')) :=
        (((HB2.out.trans (hb1.mono (by omega))).setCell (p := ⟨w.heap.size, 1, none⟩) (Nat.le_refl _) _).setCell (p := ⟨w.heap.size + 1, 0, none⟩) (Nat.le_succ _) _).setCell (p := ⟨w.heap.size + 1, 1, none⟩) (Nat.le_succ _) _
      generalize ((w1.setCell ⟨w.heap.size, 1, none⟩ (.slice (some ⟨g', 0, none⟩) (st L a x).length cap')).setCell ⟨w.heap.size + 1, 0, none⟩ (.slice q n c)).setCell ⟨w.heap.size + 1, 1, none⟩ (.slice (some ⟨g', 0, none⟩) (st L a x).length cap') = W3 at *
      have k0 : W3.cell? ⟨w.heap.size + 1, 0, none⟩ = some (.slice q n c) := by simp [World.cell?, hh]
      have k1 : W3.cell? ⟨w.heap.size + 1, 1, none⟩ = some (.slice (some ⟨g', 0, none⟩) (st L a x).length cap') := by simp [World.cell?, hh]
      exact bodyPost_ret (v := .tuple #[.agg #[.slice q n c, .slice (some ⟨g', 0, none⟩) (st L a x).length cap'], .int .i64 0]) (by simp [results, Try.results11, go_sem, k0, k1]) rfl ⟨_, _, rfl, r1, fun ad e => by have := r2 ad e; omega, hbb⟩

set_option maxRecDepth 100000 in
set_option maxHeartbeats 1000000 in
theorem refStore_no (q lp : Option Addr) (n c ln lc : Nat) (a x : Int) (w : World) (hE : stE a ≠ 0) (h0 : 0 ≤ a) (h1 : a < 4294967296) :
    Calls Try.prog 11 #[.agg #[.slice q n c, .slice lp ln lc], .int .u32 a, .int .u32 x] w fun e w' => e = .returned (.tuple #[.agg #[.slice q n c, .slice lp ln lc], .int .i64 (stE a)]) ∧ Below w.heap.size w w' := by
  have hB2 := ((Below.refl w.heap.size w).alloc (Nat.le_refl _) (.cells #[.slice q n c, .slice lp ln lc] 31)).alloc (by simp) (.cells #[.slice q n c, .slice lp ln lc] 31)
  by_cases ha : a % 4 = 0
  · by_cases hp : fp a < 65536
    · have eE : stE a = 62 := by unfold stE; rw [if_pos ha, if_pos hp]
      have g1 : 134217728 ≤ a := by unfold fp at hp; omega
      have g2 : a < 134283264 := by unfold fp at hp; omega
      rw [eE]
      clear hp hE
      go_enter Try.func11, Try.ntmps11
      go_wp2_with fail
      all_goals exact bodyPost_ret (v := .tuple #[.agg #[.slice q n c, .slice lp ln lc], .int .i64 62]) (by simp [results, Try.results11, go_sem]) rfl ⟨rfl, hB2⟩
    · by_cases hr : rp a < 16384
      · exact absurd (by unfold stE; rw [if_pos ha, if_neg hp, if_pos hr]) hE
      · have eE : stE a = 61 := by unfold stE; rw [if_pos ha, if_neg hp, if_neg hr]
        have hq : (decide (536870912 ≤ a) && decide (a ≤ 536936444)) = false := by
          by_cases h : 536870912 ≤ a
          · rw [decide_eq_false (show ¬ a ≤ 536936444 by unfold rp at hr; omega)]; simp
          · rw [decide_eq_false h]; rfl
        have g1 : ¬ (134217728 ≤ a ∧ a < 134283264) := by unfold fp at hp; omega
        rw [eE]
        clear hp hE hr
        by_cases g2 : 134217728 ≤ a
        · have g3 : ¬ a < 134283264 := fun h => g1 ⟨g2, h⟩
          clear g1
          go_enter Try.func11, Try.ntmps11
          go_wp2_with (go_at_call 20; refine (refram_any _ _).mono ?_; rintro e w' ⟨rfl, rfl⟩; rw [hq])
          all_goals exact bodyPost_ret (v := .tuple #[.agg #[.slice q n c, .slice lp ln lc], .int .i64 61]) (by simp [results, Try.results11, go_sem]) rfl ⟨rfl, hB2⟩
        · clear g1
          go_enter Try.func11, Try.ntmps11
          go_wp2_with (go_at_call 20; refine (refram_any _ _).mono ?_; rintro e w' ⟨rfl, rfl⟩; rw [hq])
          all_goals exact bodyPost_ret (v := .tuple #[.agg #[.slice q n c, .slice lp ln lc], .int .i64 61]) (by simp [results, Try.results11, go_sem]) rfl ⟨rfl, hB2⟩
  · have eE : stE a = 60 := by unfold stE; rw [if_neg ha]
    rw [eE]
    go_enter Try.func11, Try.ntmps11
    go_wp2_with fail
    all_goals exact bodyPost_ret (v := .tuple #[.agg #[.slice q n c, .slice lp ln lc], .int .i64 60]) (by simp [results, Try.results11, go_sem]) rfl ⟨rfl, hB2⟩

end Go.Proofs.Ytiidicldbcabaaa.Mem

