/- The document's own memory: Load of remontoireref06: contract. -/
import Derived.Test.YtiidicldbcabaaaMemRef
set_option linter.unusedVariables false
namespace Go.Proofs.Ytiidicldbcabaaa.Mem
open Go.RowKit

/-- A list of words that were stored, in memory: two cells each. -/
def Lr (w : World) (lp : Option Addr) (L : List (Int × Int)) : Prop :=
  L.length = 0 ∨ ∃ b, lp = some ⟨b, 0, none⟩ ∧ b < w.heap.size ∧ ∀ i, i < L.length → w.cell? ⟨b, i * 2, none⟩ = some (.int .u32 (L.getD i (0, 0)).1) ∧ w.cell? ⟨b, i * 2 + 1, none⟩ = some (.int .u32 (L.getD i (0, 0)).2)
theorem Lr.below {w w' : World} {lp : Option Addr} {L : List (Int × Int)} (h : Lr w lp L) (hb : Below w.heap.size w w') : Lr w' lp L := by
  rcases h with h | ⟨b, rfl, hlt, hc⟩
  · exact .inl h
  · exact .inr ⟨b, rfl, Nat.lt_of_lt_of_le hlt hb.size, fun i hi => ⟨(hb.cell (p := ⟨b, i * 2, none⟩) hlt).trans (hc i hi).1, (hb.cell (p := ⟨b, i * 2 + 1, none⟩) hlt).trans (hc i hi).2⟩⟩
theorem Lr.alloc {w : World} {lp : Option Addr} {L : List (Int × Int)} (h : Lr w lp L) (o : Obj) : Lr (w.alloc o) lp L := h.below ((Below.refl _ w).alloc (Nat.le_refl _) o)

theorem ld_last (L : List (Int × Int)) (a : Int) (i : Nat) (hi : i < L.length) (h : (L.getD i (0, 0)).1 = a) (hn : ∀ j, i < j → j < L.length → (L.getD j (0, 0)).1 ≠ a) : ld L a = (L.getD i (0, 0)).2 := by
  have e : L = L.take i ++ [L.getD i (0, 0)] ++ L.drop (i + 1) := by
    have h1 : L.getD i (0, 0) = L[i] := by simp [List.getD, hi]
    rw [h1, List.append_assoc, List.singleton_append, ← List.drop_eq_getElem_cons hi, List.take_append_drop]
  have h2 : ∀ e ∈ L.drop (i + 1), e.1 ≠ a := by
    intro x hx
    obtain ⟨k, hk, rfl⟩ := List.mem_iff_getElem.1 hx
    rw [List.getElem_drop]
    have hk' : i + 1 + k < L.length := by simp at hk; omega
    have := hn (i + 1 + k) (by omega) hk'
    simpa [List.getD, hk'] using this
  unfold ld
  conv => lhs; rw [e]
  rw [List.foldl_append, List.foldl_append, fold_none _ a h2]
  show (if (L.getD i (0, 0)).1 = a then (L.getD i (0, 0)).2 else _) = _
  rw [if_pos h]
theorem ld_nothing (L : List (Int × Int)) (a : Int) (hn : ∀ j, j < L.length → (L.getD j (0, 0)).1 ≠ a) : ld L a = 0 :=
  ld_none L a (fun e he => by
    obtain ⟨k, hk, rfl⟩ := List.mem_iff_getElem.1 he
    have := hn k hk
    simpa [List.getD, hk] using this)

/-- The words of RAM, by a list. -/
def ramOf (L : List (Int × Int)) (i : Nat) : Int := ld L (536870912 + 4 * (i : Int))

set_option maxRecDepth 100000 in
set_option maxHeartbeats 1000000 in
theorem refLoad_ram (q lp : Option Addr) (n c lc : Nat) (L : List (Int × Int)) (a : Int) (w : World) (hL : Lr w lp L) (hl : L.length ≤ 100) (ha : a % 4 = 0) (h0 : 536870912 ≤ a) (h1 : a ≤ 536936444) :
    Calls Try.prog 14 #[.agg #[.slice q n c, .slice lp L.length lc], .int .u32 a] w fun e w' => e = .returned (.tuple #[.int .u32 (ld L a), .int .i64 0]) ∧ Below w.heap.size w w' := by
  have hB := (Below.refl w.heap.size w).alloc (Nat.le_refl _) (.cells #[.slice q n c, .slice lp L.length lc] 31)
  have hL' := hL.alloc (.cells #[.slice q n c, .slice lp L.length lc] 31)
  have hr : (decide (536870912 ≤ a) && decide (a ≤ 536936444)) = true := by rw [decide_eq_true h0, decide_eq_true h1]; rfl
  go_enter Try.func14, Try.ntmps14
  go_wp2_with (go_at_call 20; refine (refram_any _ _).mono ?_; rintro e w' ⟨rfl, rfl⟩; rw [hr])
  go_loop [6] (fun i => ∃ j : Nat, j ≤ L.length ∧ i = .int .i64 ((j : Int) - 1) ∧ Hid (∀ k, j ≤ k → k < L.length → (L.getD k (0, 0)).1 ≠ a)) (fun i => (intOf i + 1).toNat)
  case atStart => exact ⟨L.length, Nat.le_refl _, rfl, fun k h1 h2 => by omega⟩
  case round =>
    obtain ⟨j, hj, rfl, hno⟩ := hrel
    by_cases hj0 : j = 0
    · subst hj0
      have e0 : Hid (ld L a = 0) := ld_nothing L a (fun j h => hno.out j (Nat.zero_le _) h)
      go_wp2
      go_ret2
      exact ⟨by rw [e0.out]; rfl, hB⟩
    · obtain ⟨i, rfl⟩ : ∃ i, j = i + 1 := ⟨j - 1, by omega⟩
      obtain ⟨b, rfl, hb, hc⟩ : ∃ b, lp = some ⟨b, 0, none⟩ ∧ b < (w.alloc (.cells #[.slice q n c, .slice lp L.length lc] 31)).heap.size ∧ ∀ i, i < L.length → (w.alloc (.cells #[.slice q n c, .slice lp L.length lc] 31)).cell? ⟨b, i * 2, none⟩ = some (.int .u32 (L.getD i (0, 0)).1) ∧ (w.alloc (.cells #[.slice q n c, .slice lp L.length lc] 31)).cell? ⟨b, i * 2 + 1, none⟩ = some (.int .u32 (L.getD i (0, 0)).2) := by
        rcases hL' with h | h
        · omega
        · exact h
      obtain ⟨c0, c1⟩ := hc i (by omega)
      obtain ⟨A, hA⟩ : ∃ A, A = (L.getD i (0, 0)).1 := ⟨_, rfl⟩
      obtain ⟨X, hX⟩ : ∃ X, X = (L.getD i (0, 0)).2 := ⟨_, rfl⟩
      rw [← hA] at c0
      rw [← hX] at c1
      have HA : Hid (A = (L.getD i (0, 0)).1) := hA
      have HX : Hid (X = (L.getD i (0, 0)).2) := hX
      clear hA hX hc hL hL'
      by_cases hAa : A = a
      · have HE : Hid (ld L a = X) := by
          show _ = _
          rw [HX.out]; exact ld_last L a i (by omega) (by rw [← HA.out, hAa]) (fun j h1 h2 => hno.out j (by omega) h2)
        have hd : (A == a) = true := by simpa using hAa
        clear hAa
        go_wp2
        go_ret2
        exact ⟨by rw [HE.out]; rfl, hB⟩
      · have hd : (A == a) = false := by simpa using hAa
        have HN : Hid (∀ k, i ≤ k → k < L.length → (L.getD k (0, 0)).1 ≠ a) := fun k h1 h2 => by
          by_cases hk : k = i
          · subst hk; rw [← HA.out]; exact hAa
          · exact hno.out k (by omega) h2
        clear hAa hno
        go_wp2
        go_round
        case rel => exact ⟨i, by omega, rfl, HN⟩
        case measure => simp [intOf]

/-- The bytes of a word, the highest one first. -/
def tsum (f : Nat → Int) (s : Nat) : Nat → Int
  | 0 => 0
  | 1 => f (s + 3)
  | 2 => f (s + 3) * 256 + f (s + 2)
  | 3 => (f (s + 3) * 256 + f (s + 2)) * 256 + f (s + 1)
  | _ => ((f (s + 3) * 256 + f (s + 2)) * 256 + f (s + 1)) * 256 + f s
theorem tsum_all (f : Nat → Int) (s : Nat) : tsum f s 4 = lsum f s 4 := by
  simp only [tsum, lsum, Nat.add_zero]
  generalize f s = x0; generalize f (s + 1) = x1; generalize f (s + 2) = x2; generalize f (s + 3) = x3
  omega

set_option maxRecDepth 100000 in
set_option maxHeartbeats 2000000 in
theorem refLoad_flash (q lp : Option Addr) (n c ln lc : Nat) (f : Nat → Int) (s : Nat) (a : Int) (w : World) (hS : Sl w .u8 q n f) (hn : n ≤ 300) (hf : ∀ i, i < n → 0 ≤ f i ∧ f i < 256) (ha : a % 4 = 0) (has : a = 134217728 + s) (hs : s + 4 ≤ n) :
    Calls Try.prog 14 #[.agg #[.slice q n c, .slice lp ln lc], .int .u32 a] w fun e w' => e = .returned (.tuple #[.int .u32 (lsum f s 4), .int .i64 0]) ∧ Below w.heap.size w w' := by
  have hB := (Below.refl w.heap.size w).alloc (Nat.le_refl _) (.cells #[.slice q n c, .slice lp ln lc] 31)
  have hS1 := hS.alloc (.cells #[.slice q n c, .slice lp ln lc] 31)
  have hr : (decide (536870912 ≤ a) && decide (a ≤ 536936444)) = false := by rw [decide_eq_false (show ¬ 536870912 ≤ a by omega)]; rfl
  have HAS : Hid (a = 134217728 + s) := has
  have h2 : a + 3 < 4294967296 := by omega
  have h1 : 0 ≤ a := by omega
  have f0 := hf s (by omega)
  have f1 := hf (s + 1) (by omega)
  have f2 := hf (s + 2) (by omega)
  have f3 := hf (s + 3) (by omega)
  clear has
  go_enter Try.func14, Try.ntmps14
  go_wp2_with (go_at_call 20; refine (refram_any _ _).mono ?_; rintro e w' ⟨rfl, rfl⟩; rw [hr])
  go_loopw [7, 8] (fun x k wr => ∃ r : Nat, r ≤ 4 ∧ k = .int .i64 (3 - (r : Int)) ∧ x = .int .u32 (tsum f s r) ∧ Below (w.heap.size + 1) (w.alloc (.cells #[.slice q n c, .slice lp ln lc] 31)) wr) (fun _ k _ => (intOf k + 1).toNat)
  case atStart => exact ⟨0, by omega, rfl, rfl, Below.refl _ _⟩
  case round =>
    obtain ⟨r, hr4, rfl, rfl, hbr⟩ := hrel
    obtain ⟨x0, x1⟩ := mbox hbr
    have hbr' : Below (w.alloc (.cells #[.slice q n c, .slice lp ln lc] 31)).heap.size (w.alloc (.cells #[.slice q n c, .slice lp ln lc] 31)) wr := by rw [World.size_alloc]; exact hbr
    by_cases h4 : r = 4
    · subst h4
      have HT : Hid (tsum f s 4 = lsum f s 4) := tsum_all f s
      go_wp2
      go_ret2
      exact ⟨by rw [← HT.out]; rfl, hB.trans (hbr.mono (by omega))⟩
    · rcases (show r = 0 ∨ r = 1 ∨ r = 2 ∨ r = 3 by omega) with rfl | rfl | rfl | rfl
      · go_wp2_with fail
        refine (byteAt_yes q n c _ f (s + 3) (a + 3) (by have := HAS.out; omega) _ (hS1.below hbr') (by omega) hn hf).mono ?_
        rintro e w2 ⟨rfl, hb2⟩
        have hb3 := hbr.trans (hb2.mono (by have := hbr.size; rw [World.size_alloc] at this; omega))
        clear hbr hbr' hb2
        go_wp2_with fail
        go_roundw
        case rel => exact ⟨1, by omega, rfl, by congr 1; simp only [tsum]; omega, hb3⟩
        case measure => simp [intOf]
      · go_wp2_with fail
        refine (byteAt_yes q n c _ f (s + 2) (a + 2) (by have := HAS.out; omega) _ (hS1.below hbr') (by omega) hn hf).mono ?_
        rintro e w2 ⟨rfl, hb2⟩
        have hb3 := hbr.trans (hb2.mono (by have := hbr.size; rw [World.size_alloc] at this; omega))
        clear hbr hbr' hb2
        go_wp2_with fail
        go_roundw
        case rel => exact ⟨2, by omega, rfl, by congr 1; simp only [tsum]; omega, hb3⟩
        case measure => simp [intOf]
      · go_wp2_with fail
        refine (byteAt_yes q n c _ f (s + 1) (a + 1) (by have := HAS.out; omega) _ (hS1.below hbr') (by omega) hn hf).mono ?_
        rintro e w2 ⟨rfl, hb2⟩
        have hb3 := hbr.trans (hb2.mono (by have := hbr.size; rw [World.size_alloc] at this; omega))
        clear hbr hbr' hb2
        go_wp2_with fail
        go_roundw
        case rel => exact ⟨3, by omega, rfl, by congr 1; simp only [tsum]; omega, hb3⟩
        case measure => simp [intOf]
      · go_wp2_with fail
        refine (byteAt_yes q n c _ f (s + 0) a (by have := HAS.out; omega) _ (hS1.below hbr') (by omega) hn hf).mono ?_
        rintro e w2 ⟨rfl, hb2⟩
        have hb3 := hbr.trans (hb2.mono (by have := hbr.size; rw [World.size_alloc] at this; omega))
        clear hbr hbr' hb2
        go_wp2_with fail
        go_roundw
        case rel => exact ⟨4, by omega, rfl, by congr 1; simp only [tsum]; omega, hb3⟩
        case measure => simp [intOf]

set_option maxRecDepth 100000 in
set_option maxHeartbeats 1000000 in
theorem refLoad_no (q lp : Option Addr) (n c ln lc : Nat) (a : Int) (w : World) (hn : n ≤ 300) (ha : a % 4 = 0) (h0 : 0 ≤ a) (h1 : a < 4294967296) (hram : a < 536870912 ∨ 536936444 < a) (hno : (n : Int) < fp a + 4) :
    Calls Try.prog 14 #[.agg #[.slice q n c, .slice lp ln lc], .int .u32 a] w fun e w' => e = .returned (.tuple #[.int .u32 0, .int .i64 61]) ∧ Below w.heap.size w w' := by
  have hB := (Below.refl w.heap.size w).alloc (Nat.le_refl _) (.cells #[.slice q n c, .slice lp ln lc] 31)
  have hr : (decide (536870912 ≤ a) && decide (a ≤ 536936444)) = false := by
    rcases hram with h | h
    · rw [decide_eq_false (show ¬ 536870912 ≤ a by omega)]; rfl
    · rw [decide_eq_false (show ¬ a ≤ 536936444 by omega)]; simp
  have hno2 : a + 3 < 134217728 ∨ (134217728 ≤ a + 3 ∧ (n : Int) ≤ a + 3 - 134217728) := by unfold fp at *; omega
  have h2 : a + 3 < 4294967296 := by omega
  clear hno hram
  go_enter Try.func14, Try.ntmps14
  go_wp2_with (go_at_call 20; refine (refram_any _ _).mono ?_; rintro e w' ⟨rfl, rfl⟩; rw [hr])
  refine wp_loop_rounds 1 ?_
  rw [rounds_succ]
  go_wp2_with fail
  refine (byteAt_no q n c _ (a + 3) hno2 (by omega) h2 _ hn).mono ?_
  rintro e w2 ⟨rfl, hb2⟩
  go_wp2_with fail
  go_ret2
  exact ⟨rfl, hB.trans (hb2.mono hB.size)⟩

set_option maxRecDepth 100000 in
/-- The document's Load tells just what the memory's does, by the words of the list. -/
theorem refLoad_any (q lp : Option Addr) (n c lc : Nat) (f : Nat → Int) (L : List (Int × Int)) (a : Int) (w : World) (hS : Sl w .u8 q n f) (hL : Lr w lp L) (hl : L.length ≤ 100) (hn : n ≤ 300) (hf : ∀ i, i < n → 0 ≤ f i ∧ f i < 256) (h0 : 0 ≤ a) (h1 : a < 4294967296) :
    Calls Try.prog 14 #[.agg #[.slice q n c, .slice lp L.length lc], .int .u32 a] w fun e w' => e = .returned (.tuple #[.int .u32 (ldV n f (ramOf L) a), .int .i64 (ldE n a)]) ∧ Below w.heap.size w w' := by
  by_cases ha : a % 4 = 0
  · by_cases hr : rp a < 16384
    · have hrange : 536870912 ≤ a ∧ a ≤ 536936444 := by unfold rp at hr; omega
      have eV : ldV n f (ramOf L) a = ld L a := by
        unfold ldV ramOf; rw [if_pos ha, if_pos hr]
        congr 1; have := rp_range a; unfold rp at *; omega
      have eE : ldE n a = 0 := by unfold ldE; rw [if_pos ha, if_pos hr]
      rw [eV, eE]
      exact refLoad_ram q lp n c lc L a w hL hl ha hrange.1 hrange.2
    · have hram : a < 536870912 ∨ 536936444 < a := by unfold rp at hr; omega
      by_cases hfit : fp a + 4 ≤ n
      · obtain ⟨s, hs⟩ := Int.eq_ofNat_of_zero_le (fp_range a).1
        have eV : ldV n f (ramOf L) a = lsum f s 4 := by unfold ldV; rw [if_pos ha, if_neg hr, if_pos hfit, hs]; rfl
        have eE : ldE n a = 0 := by unfold ldE; rw [if_pos ha, if_neg hr, if_pos hfit]
        rw [eV, eE]
        exact refLoad_flash q lp n c L.length lc f s a w hS hn hf ha (by unfold fp at *; omega) (by omega)
      · have eV : ldV n f (ramOf L) a = 0 := by unfold ldV; rw [if_pos ha, if_neg hr, if_neg hfit]
        have eE : ldE n a = 61 := by unfold ldE; rw [if_pos ha, if_neg hr, if_neg hfit]
        rw [eV, eE]
        exact refLoad_no q lp n c L.length lc a w hn ha h0 h1 hram (by omega)
  · have eV : ldV n f (ramOf L) a = 0 := by unfold ldV; rw [if_neg ha]
    have eE : ldE n a = 60 := by unfold ldE; rw [if_neg ha]
    have hB := (Below.refl w.heap.size w).alloc (Nat.le_refl _) (.cells #[.slice q n c, .slice lp L.length lc] 31)
    rw [eV, eE]
    go_enter Try.func14, Try.ntmps14
    go_wp2_with fail
    all_goals go_ret2
    all_goals exact ⟨rfl, hB⟩

end Go.Proofs.Ytiidicldbcabaaa.Mem

