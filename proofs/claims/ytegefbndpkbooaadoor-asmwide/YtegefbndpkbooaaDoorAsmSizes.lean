/- How many bytes items have: firstSizes, wide of package asm. -/
import Derived.Test.YtegefbndpkbooaaDoorAsmGoals
import Derived.Test.YtegefbndpkbooaaDoorAsmRight0
set_option linter.unusedVariables false
set_option linter.unusedSimpArgs false
namespace Go.Proofs.YtegefbndpkbooaaDoor.Asm
open Go.RowKit Go.Proofs.YtegefbndpkbooaaDoor.Core Go.Proofs.YtegefbndpkbooaaDoor.Alu

theorem Bytes_I (i : Ins) (w : World) :
    Calls Tryd.prog 11 #[.agg (inv i)] w fun e w' => e = .returned (.int .i64 (Inst.siz i.f)) ∧ Below w.heap.size w w' := Inst.Bytes_any _ _ _ _ _ _ _ _ _ _ _ w

/-- The bytes that items have before they are placed, all jumps narrow. -/
def firstN (x : It) : Int := if x.k = 1 then Inst.siz x.i.f else if x.k = 2 then 2 else 0
def firstR (X : Nat → It) (k : Nat) (i : Nat) : Int := if i < k then firstN (X i) else 0
theorem siz_br (c far : Int) (wide : Bool) : Inst.siz (brI c far wide).f = if wide then 4 else 2 := by
  unfold brI
  split <;> cases wide <;> rfl
theorem range_inst {w : World} {b off : Nat} {x : It} (h : w.rangeAt b off (itv x).toList) : w.rangeAt b (off + 1) (inv x.i).toList := fun j v hv => by
  have := itv_inst x j v hv
  rw [← Array.getElem?_toList] at this
  rw [show off + 1 + j = off + (1 + j) by omega]
  exact h (1 + j) v this

set_option maxRecDepth 100000 in
set_option maxHeartbeats 2000000 in
theorem firstSizes_any (p : Option Addr) (n cap : Nat) (X : Nat → It) (w : World) (hI : Items w p n X) (hn : n ≤ 10000) :
    Calls Tryd.prog 19 #[.slice p n cap] w fun e w' => e = .returned (.slice (some ⟨w.heap.size, 0, none⟩) n n) ∧ Rw w' w.heap.size n (firstR X n) ∧ Below w.heap.size w w' := by
  have hn' : (n : Int) ≤ 10000 := by omega
  have hmk := make_int n (by omega)
  go_enter Tryd.func19, Tryd.ntmps19
  go_wp2_with fail
  go_loopw [11] (fun s11 wr => ∃ k : Nat, k ≤ n ∧ s11 = .int .i64 k ∧ Rw wr w.heap.size n (firstR X k) ∧ Below w.heap.size w wr) (fun s11 _ => n - (intOf s11).toNat)
  case atStart => exact ⟨0, Nat.zero_le _, rfl, Rw.same (f := fun _ => 0) (heap_alloc_new _ _) (fun i hi => by unfold firstR; rw [if_neg (by omega)]), (Below.refl _ _).alloc (Nat.le_refl _) _⟩
  case round =>
    obtain ⟨k, hk, rfl, hG, hb⟩ := hrel
    by_cases hlt : k < n
    · have hlt' : (k : Int) < n := by omega
      rcases hI.cells with h0 | ⟨b, off, rfl, hbl, hcl⟩
      · omega
      have hrow := hide (range_keep (hcl k hlt) hb)
      have hb2 := hb.alloc hb.size (.cells (itv (X k)) 38)
      have hX := heap_alloc_new wr (.cells (itv (X k)) 38)
      have c0 : (wr.alloc (.cells (itv (X k)) 38)).cell? ⟨wr.heap.size, 0, none⟩ = some (.int .i64 (X k).k) := by rw [cell_of_row _ _ _ _ _ _ hX]; rfl
      have c12 : (wr.alloc (.cells (itv (X k)) 38)).cell? ⟨wr.heap.size, 12, none⟩ = some (.int .i64 (X k).c) := by rw [cell_of_row _ _ _ _ _ _ hX]; rfl
      have hin := hide (range_row (show (wr.alloc (.cells (itv (X k)) 38)).heap[wr.heap.size]? = _ from hX) 1 _ (itv_inst (X k)))
      have hz : wr.heap.size < (wr.alloc (.cells (itv (X k)) 38)).heap.size := by simp
      have hG2 := hide (hG.alloc (.cells (itv (X k)) 38))
      have HF : Hid (∀ x, x = firstN (X k) → ∀ i, i < n → put (firstR X k) k x i = firstR X (k + 1) i) := fun x hx i hi => by
        by_cases e : i = k
        · subst e; rw [put_same, hx]; unfold firstR; rw [if_pos (by omega)]
        · rw [put_other _ _ _ e]; unfold firstR
          by_cases h : i < k
          · rw [if_pos h, if_pos (by omega)]
          · rw [if_neg h, if_neg (by omega)]
      clear hcl hX hG
      by_cases hk1 : (X k).k = 1
      · rw [hk1] at c0
        have HN : Hid (Inst.siz (X k).i.f = firstN (X k)) := (if_pos hk1).symm
        go_wp2_with (first
          | (refine wpList_load_mid rfl 38 (.tmp 14) rfl b (off + k * 15) rfl (itv (X k)).toList _ (unhide hrow) Tryd.underlying38 rfl info_it ?_)
          | (refine wpList_store_rowTo rfl 38 (.tmp 5) (.tmp 15) rfl rfl _ (itv (X k)) rfl rfl 38 (itv zerT) (heap_alloc_last _ _) info_it rfl (one_it _) ?_; rw [World.setRow_alloc_new])
          | (refine wpList_load_mid rfl 36 (.tmp 22) rfl wr.heap.size 1 rfl (inv (X k).i).toList _ (unhide hin) Tryd.underlying36 rfl info_in ?_))
        refine (Bytes_I (X k).i _).mono ?_
        rintro e w3 ⟨rfl, hb3⟩
        have hG3 := hide (hG2.out.below hb3)
        have hb4 := hb2.trans (hb3.mono hb2.size)
        have cG := hG3.out.cell k hlt
        have fG := hG3.out.free k
        clear hb3
        go_wp2_with fail
        go_roundw
        case rel => exact ⟨k + 1, by omega, by go_num, (hG3.out.set k _).same (HF.out _ HN.out), hb4.setCell (Nat.le_refl _) _⟩
        case measure => simp [intOf]; omega
      by_cases hk2 : (X k).k = 2
      · rw [hk2] at c0
        have HN : Hid ((2 : Int) = firstN (X k)) := by unfold Hid firstN; rw [if_neg hk1, if_pos hk2]
        have HS : Hid (Inst.siz (brI (X k).c 0 false).f = 2) := by unfold Hid; rw [siz_br]; rfl
        go_wp2_with (first
          | (refine wpList_load_mid rfl 38 (.tmp 14) rfl b (off + k * 15) rfl (itv (X k)).toList _ (unhide hrow) Tryd.underlying38 rfl info_it ?_)
          | (refine wpList_store_rowTo rfl 38 (.tmp 5) (.tmp 15) rfl rfl _ (itv (X k)) rfl rfl 38 (itv zerT) (heap_alloc_last _ _) info_it rfl (one_it _) ?_; rw [World.setRow_alloc_new]))
        refine (branch_any _ _ _ _).mono ?_
        rintro e w3 ⟨rfl, hb3⟩
        have hG3 := hide (hG2.out.below hb3)
        have hb4 := hb2.trans (hb3.mono hb2.size)
        clear hb3
        go_wp2_with fail
        refine (Bytes_I _ _).mono ?_
        rintro e w4 ⟨rfl, hb5⟩
        rw [HS.out]
        have hG4 := hide (hG3.out.below hb5)
        have hb6 := hb4.trans (hb5.mono hb4.size)
        have cG := hG4.out.cell k hlt
        have fG := hG4.out.free k
        clear hb5
        go_wp2_with fail
        go_roundw
        case rel => exact ⟨k + 1, by omega, by go_num, (hG4.out.set k _).same (HF.out _ HN.out), hb6.setCell (Nat.le_refl _) _⟩
        case measure => simp [intOf]; omega
      · have HE : Hid (∀ i, i < n → firstR X k i = firstR X (k + 1) i) := fun i hi => by
          unfold firstR
          by_cases e : i = k
          · subst e; rw [if_neg (by omega), if_pos (by omega)]; unfold firstN; rw [if_neg hk1, if_neg hk2]
          · by_cases h : i < k
            · rw [if_pos h, if_pos (by omega)]
            · rw [if_neg h, if_neg (by omega)]
        go_wp2_with (first
          | (refine wpList_load_mid rfl 38 (.tmp 14) rfl b (off + k * 15) rfl (itv (X k)).toList _ (unhide hrow) Tryd.underlying38 rfl info_it ?_)
          | (refine wpList_store_rowTo rfl 38 (.tmp 5) (.tmp 15) rfl rfl _ (itv (X k)) rfl rfl 38 (itv zerT) (heap_alloc_last _ _) info_it rfl (one_it _) ?_; rw [World.setRow_alloc_new]))
        go_roundw
        case rel => exact ⟨k + 1, by omega, by go_num, hG2.out.same HE.out, hb2⟩
        case measure => simp [intOf]; omega
    · obtain rfl : k = n := by omega
      go_wp2_with fail
      go_ret
      exact ⟨rfl, hG, hb⟩
end Go.Proofs.YtegefbndpkbooaaDoor.Asm

