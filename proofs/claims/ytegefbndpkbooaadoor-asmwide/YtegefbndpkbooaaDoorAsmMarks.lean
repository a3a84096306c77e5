/- Which item marks a label: marksOf of package asm, with its map. -/
import Derived.Test.YtegefbndpkbooaaDoorAsmOpen
import Derived.Test.YtegefbndpkbooaaDoorAsmSmall
import Derived.Deep.WholeRow
import Derived.Deep.MidRow
import Derived.Great.BuildSlice
import Derived.Maps.OwnSet
import Derived.Maps.Views
set_option linter.unusedVariables false
set_option linter.unusedSimpArgs false
namespace Go.Proofs.YtegefbndpkbooaaDoor.Asm
open Go.RowKit Go.Proofs.YtegefbndpkbooaaDoor.Core Go.Proofs.YtegefbndpkbooaaDoor.Alu Go.Maps

theorem range_keep {w w' : World} {b o : Nat} {vs : List Value} (h : w.rangeAt b o vs) (hb : Below w.heap.size w w') : w'.rangeAt b o vs := fun j v hv => (hb.cell (p := ⟨b, o + j, none⟩) (block_lt_of_cell (a := ⟨b, o + j, none⟩) (h j v hv))).trans (h j v hv)
theorem lawI : Keyed Tryd.prog 3 := int_keyed Tryd.underlying3
theorem zeroI (w : World) : (zeroValue 3).run Tryd.prog w = .ok (.int .i64 0) w := by kernel_rfl

/-- A mark of a label. -/
def mk_ (x : It) (l : Int) : Prop := x.k = 3 ∧ x.l = l
/-- No label is marked twice among the first n. -/
def OnceM (X : Nat → It) (n : Nat) : Prop := ∀ i j, i < j → j < n → ∀ l, mk_ (X i) l → ¬ mk_ (X j) l
/-- The map of the first n. -/
def mapD (X : Nat → It) : Nat → DataW Unit
  | 0 => .map []
  | k + 1 => if (X k).k = 3 then (mapD X k).put (.int .i64 (X k).l) (.lit (.int .i64 k)) else mapD X k
theorem mapD_is (X : Nat → It) : ∀ k, IsMap (mapD X k)
  | 0 => isMap_empty
  | k + 1 => by unfold mapD; split; exact (mapD_is X k).put _ _; exact mapD_is X k
theorem key_lit {l : Int} (h : (Lit.int .i64 l).wf = true) : WideAt.IsKeyLit (.int .i64 l) := by simp [WideAt.IsKeyLit]
theorem has_no (X : Nat → It) (l : Int) : ∀ k, (∀ i, i < k → ¬ mk_ (X i) l) → has (mapD X k) (.int .i64 l) = false
  | 0, _ => rfl
  | k + 1, h => by
    unfold mapD
    have ih := has_no X l k (fun i hi => h i (by omega))
    split
    · rename_i hk
      rw [has_put_other (by intro e; injection e with _ e; exact h k (by omega) ⟨hk, e.symm⟩)]
      exact ih
    · exact ih
theorem has_yes (X : Nat → It) (l : Int) (hl : WideAt.IsKeyLit (.int .i64 l)) : ∀ k i, i < k → mk_ (X i) l → has (mapD X k) (.int .i64 l) = true
  | 0, i, hi, _ => by omega
  | k + 1, i, hi, hm => by
    unfold mapD
    by_cases hk : (X k).k = 3
    · rw [if_pos hk]
      by_cases e : (X k).l = l
      · rw [e]; exact has_put_same (mapD_is X k) hl _
      · rw [has_put_other (by intro e'; injection e' with _ e'; exact e e'.symm)]
        have : i ≠ k := fun h => e (h ▸ hm.2)
        exact has_yes X l hl k i (by omega) hm
    · rw [if_neg hk]
      have : i ≠ k := fun h => hk (h ▸ hm.1)
      exact has_yes X l hl k i (by omega) hm
theorem at_mark (X : Nat → It) (l : Int) (hl : WideAt.IsKeyLit (.int .i64 l)) (z : DataW Unit) : ∀ k i, i < k → mk_ (X i) l → (∀ j, i < j → j < k → ¬ mk_ (X j) l) → (mapD X k).atKey (.int .i64 l) z = .lit (.int .i64 i)
  | 0, i, hi, _, _ => by omega
  | k + 1, i, hi, hm, hn => by
    unfold mapD
    by_cases hk : (X k).k = 3
    · rw [if_pos hk]
      by_cases e : (X k).l = l
      · have : i = k := by
          apply Classical.byContradiction; intro hne
          exact hn k (by omega) (by omega) ⟨hk, e⟩
        subst this
        rw [e]; exact atKey_put_same (mapD_is X i) hl _ _
      · rw [atKey_put_other (by intro e'; injection e' with _ e'; exact e e'.symm)]
        have : i ≠ k := fun h => e (h ▸ hm.2)
        exact at_mark X l hl z k i (by omega) hm (fun j h1 h2 => hn j h1 (by omega))
    · rw [if_neg hk]
      have : i ≠ k := fun h => hk (h ▸ hm.1)
      exact at_mark X l hl z k i (by omega) hm (fun j h1 h2 => hn j h1 (by omega))

set_option maxRecDepth 100000 in
set_option maxHeartbeats 2000000 in
theorem marksOf_any (p : Option Addr) (n cap : Nat) (X : Nat → It) (w : World) (hI : Items w p n X) (hn : n ≤ 10000) (hw : ∀ i, i < n → (X i).k = 3 → (Lit.int .i64 (X i).l).wf = true) :
    Calls Tryd.prog 28 #[.slice p n cap] w fun e w' => Below w.heap.size w w' ∧ ((OnceM X n ∧ e = .returned (.tuple #[.map (some w.heap.size), .int .i64 0]) ∧ ∃ m, m ≤ n ∧ w'.ownsMap Tryd.prog 3 (plainElem Tryd.prog 3) w.heap.size m (mapD X n))
      ∨ (¬ OnceM X n ∧ e = .returned (.tuple #[.map none, .int .i64 80]))) := by
  have hn' : (n : Int) ≤ 10000 := by omega
  have hmm := @run_makeMap Tryd.prog
  go_enter Tryd.func28, Tryd.ntmps28
  go_wp2_with fail
  go_loopw [12] (fun s12 wr => ∃ k : Nat, k ≤ n ∧ s12 = .int .i64 k ∧ OnceM X k ∧ (∃ m, m ≤ k ∧ wr.ownsMap Tryd.prog 3 (plainElem Tryd.prog 3) w.heap.size m (mapD X k)) ∧ Below w.heap.size w wr) (fun s12 _ => n - (intOf s12).toNat)
  case atStart => exact ⟨0, Nat.zero_le _, rfl, fun i j _ hj => by omega, ⟨0, Nat.zero_le _, World.ownsMap_made _ _ _ _⟩, (Below.refl _ _).alloc (Nat.le_refl _) _⟩
  case round =>
    obtain ⟨k, hk, rfl, hO, ⟨m, hm, hown⟩, hb⟩ := hrel
    by_cases hlt : k < n
    · have hlt' : (k : Int) < n := by omega
      rcases hI.cells with h0 | ⟨b, off, rfl, hbl, hcl⟩
      · omega
      have hrow := hide (range_keep (hcl k hlt) hb)
      have hb2 := hb.alloc hb.size (.cells (itv (X k)) 38)
      have hX := heap_alloc_new wr (.cells (itv (X k)) 38)
      have c0 : (wr.alloc (.cells (itv (X k)) 38)).cell? ⟨wr.heap.size, 0, none⟩ = some (.int .i64 (X k).k) := by rw [cell_of_row _ _ _ _ _ _ hX]; rfl
      have c13 : (wr.alloc (.cells (itv (X k)) 38)).cell? ⟨wr.heap.size, 13, none⟩ = some (.int .i64 (X k).l) := by rw [cell_of_row _ _ _ _ _ _ hX]; rfl
      have hz : wr.heap.size < (wr.alloc (.cells (itv (X k)) 38)).heap.size := by simp
      have hown2 := hown.alloc (.cells (itv (X k)) 38)
      clear hcl hX
      by_cases hk3 : (X k).k = 3
      · have hwf := hw k hlt hk3
        have hkl := key_lit hwf
        have hkey : keyOf Tryd.prog 3 (.int .i64 (X k).l) = some (.int .i64 (X k).l) := keyOf_int_mk Tryd.underlying3 hwf
        rw [hk3] at c0
        have HO := hide hO
        clear hO
        by_cases hd : ∃ i, i < k ∧ mk_ (X i) (X k).l
        · have hhas : has (mapD X k) (.int .i64 (X k).l) = true := by obtain ⟨i, hi, hmi⟩ := hd; exact has_yes X _ hkl k i hi hmi
          have HD := hide hd
          clear hd
          go_wp2_with (first
            | (refine wpList_load_mid rfl 38 (.tmp 15) rfl b (off + k * 15) rfl (itv (X k)).toList _ (unhide hrow) Tryd.underlying38 rfl info_it ?_)
            | (refine wpList_store_rowTo rfl 38 (.tmp 6) (.tmp 16) rfl rfl _ (itv (X k)) rfl rfl 38 (itv zerT) (heap_alloc_last _ _) info_it rfl (one_it _) ?_; rw [World.setRow_alloc_new])
            | (at_lookup; refine wpList_lookup_own_ok_int _ rfl _ _ 64 rfl 3 3 .i64 lawI Tryd.underlying64 Tryd.underlying3 (zeroI _) w.heap.size m _ rfl hown2 _ _ rfl hkey ?_; intro c hat hwc; rw [hhas]))
          go_ret2
          refine ⟨hb2, .inr ⟨fun hon => ?_, rfl⟩⟩
          obtain ⟨i, hi, hmi⟩ := HD.out
          exact hon i k hi hlt _ hmi ⟨hk3, rfl⟩
        · have hhas : has (mapD X k) (.int .i64 (X k).l) = false := has_no X _ k (fun i hi hmi => hd ⟨i, hi, hmi⟩)
          have hst : Hid (mapD X (k + 1) = (mapD X k).put (.int .i64 (X k).l) (.lit (.int .i64 k))) := if_pos hk3
          have HD : Hid (OnceM X (k + 1)) := fun i j hij hj l hmi hmj => by
            by_cases hjk : j = k
            · subst hjk; exact hd ⟨i, hij, by rw [hmj.2]; exact hmi⟩
            · exact HO.out i j hij (by omega) l hmi hmj
          clear hd HO
          have hwk : (Lit.int .i64 (k : Int)).wf = true := WalkArith.wf_i64 (by omega)
          go_wp2_with (first
            | (refine wpList_load_mid rfl 38 (.tmp 15) rfl b (off + k * 15) rfl (itv (X k)).toList _ (unhide hrow) Tryd.underlying38 rfl info_it ?_)
            | (refine wpList_store_rowTo rfl 38 (.tmp 6) (.tmp 16) rfl rfl _ (itv (X k)) rfl rfl 38 (itv zerT) (heap_alloc_last _ _) info_it rfl (one_it _) ?_; rw [World.setRow_alloc_new])
            | (at_lookup; refine wpList_lookup_own_ok_int _ rfl _ _ 64 rfl 3 3 .i64 lawI Tryd.underlying64 Tryd.underlying3 (zeroI _) w.heap.size m _ rfl hown2 _ _ rfl hkey ?_; intro c hat hwc; rw [hhas])
            | (at_mapUpdate; refine wpList_mapUpdate_own _ rfl _ _ _ 64 rfl 3 3 lawI Tryd.underlying64 _ w.heap.size m _ rfl hown2 (by unfold maxLen; omega) _ _ _ rfl rfl hkey _ [] (plainElem_int Tryd.underlying3 hwk) ?_; intro w1 hown1 hgrow1))
          go_roundw
          case rel => exact ⟨k + 1, by omega, by go_num, HD.out, ⟨m + 1, by omega, by rw [hst.out]; exact hown1⟩, hb2.grown hgrow1 hb2.size (fun j hj => by cases hj; exact Nat.le_refl _)⟩
          case measure => simp [intOf]; omega
      · have hst : Hid (mapD X (k + 1) = mapD X k) := if_neg hk3
        have HD : Hid (OnceM X (k + 1)) := fun i j hij hj l hmi hmj => by
          by_cases hjk : j = k
          · subst hjk; exact hk3 hmj.1
          · exact hO i j hij (by omega) l hmi hmj
        clear hO
        go_wp2_with (first
          | (refine wpList_load_mid rfl 38 (.tmp 15) rfl b (off + k * 15) rfl (itv (X k)).toList _ (unhide hrow) Tryd.underlying38 rfl info_it ?_)
          | (refine wpList_store_rowTo rfl 38 (.tmp 6) (.tmp 16) rfl rfl _ (itv (X k)) rfl rfl 38 (itv zerT) (heap_alloc_last _ _) info_it rfl (one_it _) ?_; rw [World.setRow_alloc_new]))
        go_roundw
        case rel => exact ⟨k + 1, by omega, by go_num, HD.out, ⟨m, by omega, by rw [hst.out]; exact hown2⟩, hb2⟩
        case measure => simp [intOf]; omega
    · obtain rfl : k = n := by omega
      go_wp2_with fail
      go_ret2
      exact ⟨hb, .inl ⟨hO, rfl, m, hm, hown⟩⟩
end Go.Proofs.YtegefbndpkbooaaDoor.Asm

