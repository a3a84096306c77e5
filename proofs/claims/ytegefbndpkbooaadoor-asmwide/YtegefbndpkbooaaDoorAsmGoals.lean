/- Where jumps go: goalsOf of package asm. -/
import Derived.Test.YtegefbndpkbooaaDoorAsmMarks
import Derived.Test.YtegefbndpkbooaaDoorAsmRows
set_option linter.unusedVariables false
set_option linter.unusedSimpArgs false
namespace Go.Proofs.YtegefbndpkbooaaDoor.Asm
open Go.RowKit Go.Proofs.YtegefbndpkbooaaDoor.Core Go.Proofs.YtegefbndpkbooaaDoor.Alu Go.Maps

/-- Each jump's label is marked. -/
def Found (X : Nat → It) (n : Nat) : Prop := ∀ i, i < n → (X i).k = 2 → ∃ j, j < n ∧ mk_ (X j) (X i).l
/-- Which item marks a label. -/
def markB (X : Nat → It) (l : Int) (j : Nat) : Bool := (X j).k == 3 && (X j).l == l
def goalF (X : Nat → It) (n : Nat) (l : Int) : Nat := ((List.range n).find? (markB X l)).getD 0
theorem markB_iff {X : Nat → It} {l : Int} {j : Nat} : markB X l j = true ↔ mk_ (X j) l := by simp [markB, mk_]
theorem goalF_is {X : Nat → It} {n : Nat} {l : Int} {j : Nat} (hO : OnceM X n) (hj : j < n) (hm : mk_ (X j) l) : goalF X n l = j := by
  unfold goalF
  cases e : (List.range n).find? (markB X l) with
  | none =>
    have := List.find?_eq_none.1 e j (List.mem_range.2 hj)
    rw [markB_iff.2 hm] at this; simp at this
  | some i =>
    have hi := List.find?_some e
    have hi2 := List.mem_range.1 (List.mem_of_find?_eq_some e)
    have hmi := markB_iff.1 hi
    show i = j
    rcases Nat.lt_trichotomy i j with h | h | h
    · exact absurd hm (hO i j h hj l hmi)
    · exact h
    · exact absurd hmi (hO j i h hi2 l hm)
/-- The goals of the first k. -/
def goalR (X : Nat → It) (n k : Nat) (i : Nat) : Int := if i < k ∧ (X i).k = 2 then (goalF X n (X i).l : Int) else 0

set_option maxRecDepth 100000 in
set_option maxHeartbeats 2000000 in
theorem goalsOf_any (p : Option Addr) (n cap : Nat) (X : Nat → It) (w : World) (hI : Items w p n X) (hn : n ≤ 10000) (hw : ∀ i, i < n → (X i).k = 3 ∨ (X i).k = 2 → (Lit.int .i64 (X i).l).wf = true) :
    Calls Tryd.prog 18 #[.slice p n cap] w fun e w' => Below w.heap.size w w' ∧ ((OnceM X n ∧ Found X n ∧ ∃ g, e = .returned (.tuple #[.slice (some ⟨g, 0, none⟩) n n, .int .i64 0]) ∧ Rw w' g n (goalR X n n) ∧ w.heap.size ≤ g)
      ∨ (¬ (OnceM X n ∧ Found X n) ∧ e = .returned (.tuple #[.slice none 0 0, .int .i64 80]))) := by
  have hn' : (n : Int) ≤ 10000 := by omega
  have hmk := make_int n (by omega)
  go_enter Tryd.func18, Tryd.ntmps18
  go_wp2_with fail
  refine (marksOf_any p n cap X w hI hn (fun i hi h => hw i hi (.inl h))).mono ?_
  rintro e w1 ⟨hb1, ⟨hO, rfl, m, hm, hown⟩ | ⟨hO, rfl⟩⟩
  · have hI1 := hI.below hb1
    have hz1 := hb1.size
    generalize hB : w.heap.size = B at *
    have hBl := hown.lt
    have HO := hide hO
    clear hO
    go_wp2_with fail
    go_loopw [24] (fun s24 wr => ∃ k : Nat, k ≤ n ∧ s24 = .int .i64 k ∧ (∀ i, i < k → (X i).k = 2 → ∃ j, j < n ∧ mk_ (X j) (X i).l) ∧ wr.ownsMap Tryd.prog 3 (plainElem Tryd.prog 3) B m (mapD X n) ∧ Rw wr w1.heap.size n (goalR X n k) ∧ Below w1.heap.size w1 wr) (fun s24 _ => n - (intOf s24).toNat)
    case atStart =>
      refine ⟨0, Nat.zero_le _, rfl, fun i hi => by omega, hown.alloc _, ?_, (Below.refl _ _).alloc (Nat.le_refl _) _⟩
      refine Rw.same (f := fun _ => 0) (heap_alloc_new _ _) (fun i hi => ?_)
      unfold goalR; rw [if_neg (by omega)]
    case round =>
      obtain ⟨k, hk, rfl, hF, hown, hG, hb⟩ := hrel
      by_cases hlt : k < n
      · have hlt' : (k : Int) < n := by omega
        rcases hI1.cells with h0 | ⟨b, off, rfl, hbl, hcl⟩
        · omega
        have hrow := hide (range_keep (hcl k hlt) hb)
        have hb2 := hb.alloc hb.size (.cells (itv (X k)) 38)
        have hX := heap_alloc_new wr (.cells (itv (X k)) 38)
        have c0 : (wr.alloc (.cells (itv (X k)) 38)).cell? ⟨wr.heap.size, 0, none⟩ = some (.int .i64 (X k).k) := by rw [cell_of_row _ _ _ _ _ _ hX]; rfl
        have c13 : (wr.alloc (.cells (itv (X k)) 38)).cell? ⟨wr.heap.size, 13, none⟩ = some (.int .i64 (X k).l) := by rw [cell_of_row _ _ _ _ _ _ hX]; rfl
        have hz : wr.heap.size < (wr.alloc (.cells (itv (X k)) 38)).heap.size := by simp
        have hown2 := hown.alloc (.cells (itv (X k)) 38)
        have hG2 := hG.alloc (.cells (itv (X k)) 38)
        have cG := hG2.cell k hlt
        have fG := hG2.free k
        replace hG2 := hide hG2
        clear hcl hX hG
        by_cases hk2 : (X k).k = 2
        · have hwf := hw k hlt (.inr hk2)
          have hkl := key_lit hwf
          have hkey : keyOf Tryd.prog 3 (.int .i64 (X k).l) = some (.int .i64 (X k).l) := keyOf_int_mk Tryd.underlying3 hwf
          rw [hk2] at c0
          by_cases hd : ∃ i, i < n ∧ mk_ (X i) (X k).l
          · have hhas : has (mapD X n) (.int .i64 (X k).l) = true := by obtain ⟨i, hi, hmi⟩ := hd; exact has_yes X _ hkl n i hi hmi
            obtain ⟨j, hj, hmj⟩ := hd
            have hg := goalF_is HO.out hj hmj
            have hAt : Hid (∀ z, (mapD X n).atKey (.int .i64 (X k).l) z = .lit (.int .i64 j)) := fun z => at_mark X _ hkl z n j hj hmj (fun i h1 h2 hmi => HO.out j i h1 h2 _ hmj hmi)
            have HF : Hid (∀ i, i < k + 1 → (X i).k = 2 → ∃ j, j < n ∧ mk_ (X j) (X i).l) := fun i hi h2 => by
              rcases (show i < k ∨ i = k by omega) with h | rfl
              · exact hF i h h2
              · exact ⟨j, hj, hmj⟩
            have HR : Hid (∀ i, i < n → put (goalR X n k) k (j : Int) i = goalR X n (k + 1) i) := fun i hi => by
              by_cases e : i = k
              · subst e; rw [put_same]; unfold goalR; rw [if_pos ⟨by omega, hk2⟩, hg]
              · rw [put_other _ _ _ e]; unfold goalR
                by_cases h : i < k
                · by_cases h2 : (X i).k = 2
                  · rw [if_pos ⟨h, h2⟩, if_pos ⟨by omega, h2⟩]
                  · rw [if_neg (fun q => h2 q.2), if_neg (fun q => h2 q.2)]
                · rw [if_neg (fun q => h q.1), if_neg (fun q => by omega)]
            clear hF hg hmj
            go_wp2_with (first
              | (refine wpList_load_mid rfl 38 (.tmp 27) rfl b (off + k * 15) rfl (itv (X k)).toList _ (unhide hrow) Tryd.underlying38 rfl info_it ?_)
              | (refine wpList_store_rowTo rfl 38 (.tmp 8) (.tmp 28) rfl rfl _ (itv (X k)) rfl rfl 38 (itv zerT) (heap_alloc_last _ _) info_it rfl (one_it _) ?_; rw [World.setRow_alloc_new])
              | (at_lookup; refine wpList_lookup_own_ok_int _ rfl _ _ 64 rfl 3 3 .i64 lawI Tryd.underlying64 Tryd.underlying3 (zeroI _) B m _ rfl hown2 _ _ rfl hkey ?_; intro c hat hwc; rw [hhas]; rw [hAt.out] at hat; injection hat with hat; injection hat with _ hat; subst hat))
            go_roundw
            case rel => exact ⟨k + 1, by omega, by go_num, HF.out, hown2.setCell (by simp; omega) _, (hG2.out.set k _).same HR.out, hb2.setCell (Nat.le_refl _) _⟩
            case measure => simp [intOf]; omega
          · have hhas : has (mapD X n) (.int .i64 (X k).l) = false := has_no X _ n (fun i hi hmi => hd ⟨i, hi, hmi⟩)
            have HD := hide hd
            clear hd hF
            go_wp2_with (first
              | (refine wpList_load_mid rfl 38 (.tmp 27) rfl b (off + k * 15) rfl (itv (X k)).toList _ (unhide hrow) Tryd.underlying38 rfl info_it ?_)
              | (refine wpList_store_rowTo rfl 38 (.tmp 8) (.tmp 28) rfl rfl _ (itv (X k)) rfl rfl 38 (itv zerT) (heap_alloc_last _ _) info_it rfl (one_it _) ?_; rw [World.setRow_alloc_new])
              | (at_lookup; refine wpList_lookup_own_ok_int _ rfl _ _ 64 rfl 3 3 .i64 lawI Tryd.underlying64 Tryd.underlying3 (zeroI _) B m _ rfl hown2 _ _ rfl hkey ?_; intro c hat hwc; rw [hhas]))
            go_ret2
            exact ⟨by rw [hB]; exact hb1.trans (hb2.mono hz1), .inr ⟨fun h => HD.out (h.2 k hlt hk2), rfl⟩⟩
        · have HF : Hid (∀ i, i < k + 1 → (X i).k = 2 → ∃ j, j < n ∧ mk_ (X j) (X i).l) := fun i hi h2 => by
            rcases (show i < k ∨ i = k by omega) with h | rfl
            · exact hF i h h2
            · exact absurd h2 hk2
          have HR : Hid (∀ i, i < n → goalR X n k i = goalR X n (k + 1) i) := fun i hi => by
            unfold goalR
            by_cases h2 : (X i).k = 2
            · have hne : i ≠ k := fun e => hk2 (e ▸ h2)
              by_cases h : i < k
              · rw [if_pos ⟨h, h2⟩, if_pos ⟨by omega, h2⟩]
              · rw [if_neg (fun q => h q.1), if_neg (fun q => by omega)]
            · rw [if_neg (fun q => h2 q.2), if_neg (fun q => h2 q.2)]
          clear hF cG fG
          go_wp2_with (first
            | (refine wpList_load_mid rfl 38 (.tmp 27) rfl b (off + k * 15) rfl (itv (X k)).toList _ (unhide hrow) Tryd.underlying38 rfl info_it ?_)
            | (refine wpList_store_rowTo rfl 38 (.tmp 8) (.tmp 28) rfl rfl _ (itv (X k)) rfl rfl 38 (itv zerT) (heap_alloc_last _ _) info_it rfl (one_it _) ?_; rw [World.setRow_alloc_new]))
          go_roundw
          case rel => exact ⟨k + 1, by omega, by go_num, HF.out, hown2, hG2.out.same HR.out, hb2⟩
          case measure => simp [intOf]; omega
      · obtain rfl : k = n := by omega
        go_wp2_with fail
        go_ret2
        exact ⟨by rw [hB]; exact hb1.trans (hb.mono hz1), .inl ⟨HO.out, hF, _, rfl, hG, by rw [hB]; exact hz1⟩⟩
  · go_wp2_with fail
    go_ret2
    exact ⟨hb1, .inr ⟨fun h => hO h.1, rfl⟩⟩
end Go.Proofs.YtegefbndpkbooaaDoor.Asm

