/- Jumps that don't reach are made wide: widen of package asm. -/
import Derived.Test.YtegefbndpkbooaaDoorAsmPlace
import Derived.Deep.CutRange
import Derived.Deep.DeepCutAuto
set_option linter.unusedVariables false
set_option linter.unusedSimpArgs false
namespace Go.Proofs.YtegefbndpkbooaaDoor.Asm
open Go.RowKit Go.Proofs.YtegefbndpkbooaaDoor.Core Go.Proofs.YtegefbndpkbooaaDoor.Alu

theorem below_dn1 {w w' : World} (h : Below w.drew.heap.size w.drew w') : Below w.heap.size w w' := ((Below.refl w.heap.size w).drew).trans h
/-- Whether one of the first k doesn't reach. -/
def badN (P : Prg) (W : Nat → Bool) (k : Nat) : Bool := (List.range k).any fun i => P.bad W i
theorem badN_succ (P : Prg) (W : Nat → Bool) (k : Nat) : badN P W (k + 1) = (badN P W k || P.bad W k) := by unfold badN; rw [List.range_succ, List.any_append]; simp
theorem badN_iff {P : Prg} {W : Nat → Bool} {k : Nat} : badN P W k = true ↔ ∃ i, i < k ∧ P.bad W i = true := by
  unfold badN
  rw [List.any_eq_true]
  exact ⟨fun ⟨i, hi, h⟩ => ⟨i, List.mem_range.1 hi, h⟩, fun ⟨i, hi, h⟩ => ⟨i, List.mem_range.2 hi, h⟩⟩
/-- The sizes behind the first k. -/
def wdR (P : Prg) (W : Nat → Bool) (k : Nat) (s0 : Nat → Int) (i : Nat) : Int := if i < k ∧ P.bad W i = true then 4 else s0 i
theorem wdR_same (P : Prg) (W : Nat → Bool) (k : Nat) (s0 : Nat → Int) (n : Nat) (h : P.bad W k = false) : ∀ i, i < n → wdR P W k s0 i = wdR P W (k + 1) s0 i := fun i _ => by
  unfold wdR
  by_cases hb : P.bad W i = true
  · have e : i ≠ k := fun e => by rw [e, h] at hb; cases hb
    by_cases hi : i < k
    · rw [if_pos ⟨hi, hb⟩, if_pos ⟨by omega, hb⟩]
    · rw [if_neg (fun q => hi q.1), if_neg (fun q => by omega)]
  · rw [if_neg (fun q => hb q.2), if_neg (fun q => hb q.2)]
theorem wdR_put (P : Prg) (W : Nat → Bool) (k : Nat) (s0 : Nat → Int) (n : Nat) (h : P.bad W k = true) : ∀ i, i < n → put (wdR P W k s0) k 4 i = wdR P W (k + 1) s0 i := fun i _ => by
  by_cases e : i = k
  · subst e; rw [put_same]; unfold wdR; rw [if_pos ⟨by omega, h⟩]
  · rw [put_other _ _ _ e]; unfold wdR
    by_cases hb : P.bad W i = true
    · by_cases hi : i < k
      · rw [if_pos ⟨hi, hb⟩, if_pos ⟨by omega, hb⟩]
      · rw [if_neg (fun q => hi q.1), if_neg (fun q => by omega)]
    · rw [if_neg (fun q => hb q.2), if_neg (fun q => hb q.2)]
theorem wdR_ok {n : Nat} {X : Nat → It} {W : Nat → Bool} {s0 : Nat → Int} (h : SzOk n X W s0) : SzOk n X ((prg n X).nxt W) (wdR (prg n X) W n s0) := fun i hi h4 => by
  rw [Prg.nxt_bad]
  unfold wdR
  by_cases hb : (prg n X).bad W i = true
  · rw [if_pos ⟨hi, hb⟩, hb]
    obtain ⟨_, hj, _⟩ := Prg.bad_true hb
    have h2 : (X i).k = 2 := by
      have : (decide (i < n) && (X i).k == 2) = true := hj
      simp at this; exact this.2
    unfold szT
    rw [if_neg (by omega), if_pos h2]; simp
  · have hb' : (prg n X).bad W i = false := by cases e : (prg n X).bad W i; rfl; exact absurd e hb
    rw [if_neg (fun q => hb q.2), hb', Bool.or_false]
    exact h i hi h4

/-- What holds ahead of each round. -/
inductive WRel (P : Prg) (W : Nat → Bool) (s0 : Nat → Int) (gs n : Nat) (w1 : World) (s7 s12 : Value) (wr : World) : Prop
  | mk (k : Nat) (hk : k ≤ n) (h12 : s12 = .int .i64 k) (h7 : s7 = .bool (badN P W k)) (hS : Rw wr gs n (wdR P W k s0)) (ho : Off [gs] w1 wr) : WRel P W s0 gs n w1 s7 s12 wr

set_option maxRecDepth 100000 in
set_option maxHeartbeats 4000000 in
theorem widen_any {w : World} {vb : Value} {ga gs gg n cap : Nat} {r : Int} {s0 : Nat → Int} {p : Option Addr} {X : Nat → It} {W : Nat → Bool} (hI : Items w p n X) (hr : ∀ i, i < n → rightT (X i) = true) (hA : Rw w ga n ((prg n X).at_ W)) (hS : Rw w gs n s0) (hG : Rw w gg n (goalR X n n))
    (hne : ga ≠ gs) (hng : gg ≠ gs) (hc : Clear p [gs]) (hs : SzOk n X W s0) (hn : n ≤ 10000) (hle : (prg n X).at_ W n ≤ 65536) (hgo : ∀ i, i < n → (X i).k = 2 → goalF X n (X i).l < n) (hL : Inst.Laid w) (htab : ∀ w', Off [gs] w w' → Inst.Laid w') :
    Calls Tryd.prog 20 #[.agg (ldv vb ga gs n r), .slice p n cap, .slice (some ⟨gg, 0, none⟩) n n] w fun e w' => Off [gs] w w' ∧ e = .returned (.bool (badN (prg n X) W n)) ∧ Rw w' gs n (wdR (prg n X) W n s0) := by
  have hn' : (n : Int) ≤ 10000 := by omega
  have hOk := prg_ok (n := n) (X := X) hr
  have hat : ∀ i, i < n → 0 ≤ (prg n X).at_ W i ∧ (prg n X).at_ W i ≤ 70000 := fun i hi => by
    have a := Prg.at_ge hOk W i
    have b := Prg.at_mono hOk W (show i ≤ n by omega)
    omega
  have hsw : ∀ i, i < n → (X i).k = 2 → (s0 i != 2) = W i := fun i hi h2 => size_wide hs hi h2
  have hbd : ∀ i, i < n → (X i).k = 2 → W i = false → (prg n X).bad W i = !(brI (X i).c ((prg n X).at_ W (goalF X n (X i).l) - (prg n X).at_ W i - 4) false).right := fun i hi h2 hw => by
    unfold Prg.bad
    rw [hw]
    show (true && ((decide (i < n) && (X i).k == 2) && _)) = _
    rw [decide_eq_true hi, h2]; rfl
  have hb0 : ∀ i, i < n → ((X i).k ≠ 2 ∨ W i = true) → (prg n X).bad W i = false := fun i hi h => by
    cases e : (prg n X).bad W i
    · rfl
    · obtain ⟨h1, h2, _⟩ := Prg.bad_true e
      have h2' : (decide (i < n) && (X i).k == 2) = true := h2
      simp at h2'
      rcases h with h | h
      · exact absurd h2'.2 h
      · rw [h] at h1; cases h1
  generalize prg n X = P at *
  have hX := heap_alloc_new w (.cells (ldv vb ga gs n r) 30)
  have hB := (Below.refl w.heap.size w).alloc (Nat.le_refl _) (.cells (ldv vb ga gs n r) 30)
  have hz : w.heap.size < (w.alloc (.cells (ldv vb ga gs n r) 30)).heap.size := by simp
  have HX := hide hX
  have HI := hide (hI.below hB)
  have HA := hide (hA.below hB)
  have HS := hide (hS.below hB)
  have HG := hide (hG.below hB)
  have la := hA.lt
  have ls := hS.lt
  have lg := hG.lt
  have HB := hide hB
  have HAT := hide hat
  have HSW := hide hsw
  have HBD := hide hbd
  have HB0 := hide hb0
  have HGO := hide hgo
  have HTB := hide htab
  clear hX hB hI hA hS hG hat hsw hbd hb0 hgo htab hr hOk hs hle
  go_enter Tryd.func20, Tryd.ntmps20
  go_wp2_with fail
  have HBo : Hid (Off [gs] w (w.alloc (.cells (ldv vb ga gs n r) 30))) := Off.of_below HB.out
  generalize hBz : w.heap.size = B at *
  generalize w.alloc (.cells (ldv vb ga gs n r) 30) = w1 at *
  go_loopw [7, 12] (fun s7 s12 wr => WRel P W s0 gs n w1 s7 s12 wr) (fun _ s12 _ => n - (intOf s12).toNat)
  case atStart => exact ⟨0, Nat.zero_le _, rfl, rfl, HS.out.same (fun i _ => (if_neg (by omega)).symm), Off.refl _ _⟩
  case round =>
    obtain ⟨k, hk, rfl, rfl, hS, ho⟩ := hrel
    by_cases hlt : k < n
    · have hlt' : (k : Int) < n := by omega
      have hI2 := HI.out.off ho hc
      rcases hI2.cells with h0 | ⟨b, off, rfl, hbl, hcl⟩
      · omega
      have hbc := hc b off rfl
      simp only [List.mem_cons, List.mem_nil_iff, or_false] at hbc
      have hrow := hcl k hlt
      have k0 : wr.cell? ⟨b, off + k * 15, none⟩ = some (.int .i64 (X k).k) := by have := hrow 0 _ rfl; rw [Nat.add_zero] at this; exact this
      have k12 : wr.cell? ⟨b, off + k * 15 + 12, none⟩ = some (.int .i64 (X k).c) := hrow 12 _ rfl
      have HLx := hide ((ho.block B hz (by simp; omega)).trans HX.out)
      have HA2 := hide (HA.out.off ho (by simpa using hne))
      have HG2 := hide (HG.out.off ho (by simpa using hng))
      replace hS := hide hS
      clear hrow hcl hI2
      by_cases h2 : (X k).k = 2
      · rw [h2] at k0
        have hw5 : (wdR P W k s0 k != 2) = W k := by
          have e : wdR P W k s0 k = s0 k := if_neg (fun q => by omega)
          rw [e]; exact HSW.out k hlt h2
        have HW5 := hide hw5
        clear hw5
        go_wp2_with (refine BigFrame.wpList_want rfl (fun K hK => ?_); refine wp_load_row 30 (.tmp 3) rfl B rfl 30 _ (0, 0) _ (unhide HLx) Tryd.underlying30 rfl info_ld ?_; refine hK _ _ ?_)
        refine (wide_any hS.out k hlt hn).mono ?_
        rintro e w2 ⟨rfl, hb2⟩
        rw [HW5.out]
        have hb2' := hb2
        have ho2 := ho.trans (Off.of_below (S := [gs]) hb2)
        have HO2 := hide ho2
        have HA3 := hide (HA2.out.below hb2)
        have HS3 := hide (hS.out.below hb2)
        have HG3 := hide (HG2.out.below hb2)
        have HL3 := hide ((hb2.block B (lt_of_block HLx.out)).trans HLx.out)
        have kk0 := keep_cell hb2 k0
        have kk12 := keep_cell hb2 k12
        clear hb2 hb2' k0 k12 HLx HA2 hS HG2 ho ho2
        have HN := hide (badN_succ P W k)
        cases hWk : W k
        · have HW6 : Hid ((wdR P W k s0 k != 2) = false) := HW5.out.trans hWk
          have HBD2 := hide (HBD.out k hlt h2 hWk)
          have hgl : Hid (goalR X n n k = (goalF X n (X k).l : Int)) := if_pos ⟨hlt, h2⟩
          have kG : w2.cell? ⟨gg, k, none⟩ = some (.int .i64 (goalF X n (X k).l : Int)) := by rw [← hgl.out]; exact HG3.out.cell k hlt
          have hBr : B < w2.heap.size := lt_of_block HL3.out
          clear HW5 hWk
          go_upto_region 6 with fail
          go_cut [9, 12] (fun s9 s12 wx => s12 = .int .i64 k ∧ ∃ J, s9 = .pointer (some ⟨J, 0, none⟩) ∧ wx.heap[J]? = some (.cells (inv (brI (X k).c (P.at_ W (goalF X n (X k).l) - P.at_ W k - 4) false)) 36 (0, 0)) ∧ Below w2.heap.size w2 wx)
          case first =>
            go_wp2_with fail
            refine wp_region_held_drew (S := fun w' => w'.rangeAt B 0 (ldv vb ga gs n r).toList ∧ w'.cell? ⟨b, off + k * 15 + 12, none⟩ = some (.int .i64 (X k).c) ∧ w'.cell? ⟨gg, k, none⟩ = some (.int .i64 (goalF X n (X k).l : Int))) (by kernel_rfl)
              ⟨range_row (show w2.drew.heap[B]? = _ from HL3.out) 0 _ (by intro j v h; rw [Nat.zero_add, ← Array.getElem?_toList]; exact h), kk12, kG⟩ (fun hHeld => ?_)
            refine wpAnyH_take (i := 0) (v := .agg (ldv vb ga gs n r)) rfl (by kernel_rfl) (by kernel_rfl) (by kernel_rfl) (fun _ _ _ h => h) (yieldsIf_load_mid (by rfl) 30 (.tmp 3) rfl B 0 rfl (ldv vb ga gs n r).toList _ (fun w hw => hw.1) Tryd.underlying30 rfl info_ld) (by assumption) ?_
            (try simp only [Act.put, List.getElem_toArray, List.getElem_cons_zero, List.setIfInBounds_toArray, List.set_cons_zero, List.set_cons_succ])
            refine wpAnyH_take (i := 1) (v := ?_) rfl (by kernel_rfl) (by kernel_rfl) (by kernel_rfl) (fun _ _ _ h => h) (Or.inl ⟨by rfl, ?_⟩) (by assumption) ?_
            rotate_left
            · intro w hSw; (try dsimp only at hSw); go_simp; (try with_reducible rfl)
            (try simp only [Act.put, List.getElem_toArray, List.getElem_cons_zero, List.getElem_cons_succ, List.setIfInBounds_toArray, List.set_cons_zero, List.set_cons_succ])
            refine wpAnyH_take (i := 2) (v := ?_) rfl (by kernel_rfl) (by kernel_rfl) (by kernel_rfl) (fun _ _ _ h => h) (Or.inl ⟨by rfl, ?_⟩) (by assumption) ?_
            rotate_left
            · intro w hSw; (try dsimp only at hSw); go_simp; (try with_reducible rfl)
            (try simp only [Act.put, List.getElem_toArray, List.getElem_cons_zero, List.getElem_cons_succ, List.setIfInBounds_toArray, List.set_cons_zero, List.set_cons_succ])
            refine wpAnyH_take (i := 3) (v := ?_) rfl (by kernel_rfl) (by kernel_rfl) (by kernel_rfl) (fun _ _ _ h => h) (Or.inl ⟨by rfl, ?_⟩) (by assumption) ?_
            rotate_left
            · intro w hSw; (try dsimp only at hSw); go_simp; (try with_reducible rfl)
            (try simp only [Act.put, List.getElem_toArray, List.getElem_cons_zero, List.getElem_cons_succ, List.setIfInBounds_toArray, List.set_cons_zero, List.set_cons_succ])
            refine wpAnyH_take (i := 4) (v := ?_) rfl (by kernel_rfl) (by kernel_rfl) (by kernel_rfl) (fun _ _ _ h => h) (Or.inl ⟨by rfl, ?_⟩) (by assumption) ?_
            rotate_left
            · intro w hSw; (try dsimp only at hSw); go_simp; (try with_reducible rfl)
            (try simp only [Act.put, List.getElem_toArray, List.getElem_cons_zero, List.getElem_cons_succ, List.setIfInBounds_toArray, List.set_cons_zero, List.set_cons_succ])
            refine wpAnyH_take (i := 5) (v := ?_) rfl (by kernel_rfl) (by kernel_rfl) (by kernel_rfl) (fun _ _ _ h => h) (Or.inl ⟨by rfl, ?_⟩) (by assumption) ?_
            rotate_left
            · intro w hSw; (try dsimp only at hSw); go_simp; (try with_reducible rfl)
            (try simp only [Act.put, List.getElem_toArray, List.getElem_cons_zero, List.getElem_cons_succ, List.setIfInBounds_toArray, List.set_cons_zero, List.set_cons_succ])
            refine wpAnyH_take (i := 6) (v := ?_) rfl (by kernel_rfl) (by kernel_rfl) (by kernel_rfl) (fun _ _ _ h => h) (Or.inl ⟨by rfl, ?_⟩) (by assumption) ?_
            rotate_left
            · intro w hSw; (try dsimp only at hSw); go_simp; (try with_reducible rfl)
            (try simp only [Act.put, List.getElem_toArray, List.getElem_cons_zero, List.getElem_cons_succ, List.setIfInBounds_toArray, List.set_cons_zero, List.set_cons_succ])
            refine wpAnyH_take (i := 7) (v := ?_) rfl (by kernel_rfl) (by kernel_rfl) (by kernel_rfl) (fun _ _ _ h => h) (Or.inl ⟨by rfl, ?_⟩) (by assumption) ?_
            rotate_left
            · intro w hSw; (try dsimp only at hSw); go_simp; (try with_reducible rfl)
            (try simp only [Act.put, List.getElem_toArray, List.getElem_cons_zero, List.getElem_cons_succ, List.setIfInBounds_toArray, List.set_cons_zero, List.set_cons_succ])
            refine wpAnyH_take (i := 8) (v := ?_) rfl (by kernel_rfl) (by kernel_rfl) (by kernel_rfl) (fun _ _ _ h => h) (Or.inl ⟨by rfl, ?_⟩) (by assumption) ?_
            rotate_left
            · intro w hSw; (try dsimp only at hSw); go_simp; (try with_reducible rfl)
            (try simp only [Act.put, List.getElem_toArray, List.getElem_cons_zero, List.getElem_cons_succ, List.setIfInBounds_toArray, List.set_cons_zero, List.set_cons_succ])
            refine wpAnyH_take (i := 9) (v := ?_) rfl (by kernel_rfl) (by kernel_rfl) (by kernel_rfl) (fun _ _ _ h => h) (Or.inl ⟨by rfl, ?_⟩) (by assumption) ?_
            rotate_left
            · intro w hSw; (try dsimp only at hSw); go_simp; (try with_reducible rfl)
            (try simp only [Act.put, List.getElem_toArray, List.getElem_cons_zero, List.getElem_cons_succ, List.setIfInBounds_toArray, List.set_cons_zero, List.set_cons_succ])
            refine wpAnyH_take (i := 10) (v := ?_) rfl (by kernel_rfl) (by kernel_rfl) (by kernel_rfl) (fun _ _ _ h => h) (Or.inl ⟨by rfl, ?_⟩) (by assumption) ?_
            rotate_left
            · intro w hSw; (try dsimp only at hSw); go_simp; (try with_reducible rfl)
            (try simp only [Act.put, List.getElem_toArray, List.getElem_cons_zero, List.getElem_cons_succ, List.setIfInBounds_toArray, List.set_cons_zero, List.set_cons_succ])
            refine wpAnyH_ready (rs := [11, 12]) (by kernel_rfl) (by simp) ?_
            refine AllReadyH.cons rfl (fun K hK => ?ra) (AllReadyH.cons rfl (fun K hK => ?rb) AllReadyH.nil)
            case' ra =>
              go_simp
              have hAj : Rw w2.drew ga n (P.at_ W) := HA3.out
              have hSj : Rw w2.drew gs n (wdR P W k s0) := HS3.out
              with_reducible refine (jump_any hAj hSj HAT.out _ k (goalF X n (X k).l) hlt (HGO.out k hlt h2) hn).mono ?_
              rintro e w3 ⟨rfl, hb3⟩
              rw [HW6.out]
              refine hK.out _ _ ⟨range_below hHeld.1 hb3, keep_cell hb3 hHeld.2.1, keep_cell hb3 hHeld.2.2⟩ (fun hHeld3 => ?_)
              clear hK K
              (try simp only [Act.put, List.getElem_toArray, List.getElem_cons_zero, List.getElem_cons_succ, List.setIfInBounds_toArray, List.set_cons_zero, List.set_cons_succ])
              refine wpAnyH_ready (rs := [12]) (by kernel_rfl) (by simp) ?_
              refine AllReadyH.cons rfl (fun K hK => ?_) AllReadyH.nil
              go_simp
              have hA4 := (Below.refl w3.heap.size w3).alloc (Nat.le_refl _) (.cells #[.int .i64 0, .int .i64 0, .int .i64 0, .int .i64 0, .int .i64 0, .int .i64 0, .int .i64 0, .int .i64 0, .int .i64 0, .int .i64 0, .int .i64 0] 36)
              refine hK.out _ _ ⟨range_below hHeld3.1 hA4, keep_cell hA4 hHeld3.2.1, keep_cell hA4 hHeld3.2.2⟩ (fun hHeld4 => ?_)
              clear hK K
              (try simp only [Act.put, List.getElem_toArray, List.getElem_cons_zero, List.getElem_cons_succ, List.setIfInBounds_toArray, List.set_cons_zero, List.set_cons_succ])
              refine wpAnyH_ready (rs := [13]) (by kernel_rfl) (by simp) ?_
              refine AllReadyH.cons rfl (fun K hK => ?_) AllReadyH.nil
              refine wp_store_row 36 (.tmp 9) (.tmp 37) rfl w3.heap.size (inv (brI (X k).c (P.at_ W (goalF X n (X k).l) - P.at_ W k - 4) false)) rfl rfl 36 _ (heap_alloc_last _ _) info_in rfl (one_in _) ?_
              rw [World.setRow_alloc_new]
              have hA5 := (Below.refl w3.heap.size w3).alloc (Nat.le_refl _) (.cells (inv (brI (X k).c (P.at_ W (goalF X n (X k).l) - P.at_ W k - 4) false)) 36)
              refine hK.out _ _ ⟨range_below hHeld3.1 hA5, keep_cell hA5 hHeld3.2.1, keep_cell hA5 hHeld3.2.2⟩ (fun hHeld5 => ?_)
              clear hK K
              refine wpAnyH_done (by kernel_rfl) ?_ _
              go_wp2_with fail
              go_meet
              case rel => exact ⟨rfl, w3.heap.size, rfl, heap_alloc_new _ _, (below_dn1 hb3).trans (hA5.mono (below_dn1 hb3).size)⟩
            case' rb =>
              go_simp
              have hA4 := (Below.refl w2.drew.heap.size w2.drew).alloc (Nat.le_refl _) (.cells #[.int .i64 0, .int .i64 0, .int .i64 0, .int .i64 0, .int .i64 0, .int .i64 0, .int .i64 0, .int .i64 0, .int .i64 0, .int .i64 0, .int .i64 0] 36)
              refine hK.out _ _ ⟨range_below hHeld.1 hA4, keep_cell hA4 hHeld.2.1, keep_cell hA4 hHeld.2.2⟩ (fun hHeld4 => ?_)
              clear hK K
              (try simp only [Act.put, List.getElem_toArray, List.getElem_cons_zero, List.getElem_cons_succ, List.setIfInBounds_toArray, List.set_cons_zero, List.set_cons_succ])
              refine wpAnyH_ready (rs := [11]) (by kernel_rfl) (by simp) ?_
              refine AllReadyH.cons rfl (fun K hK => ?_) AllReadyH.nil
              go_simp
              have hAj : Rw (w2.alloc (.cells #[.int .i64 0, .int .i64 0, .int .i64 0, .int .i64 0, .int .i64 0, .int .i64 0, .int .i64 0, .int .i64 0, .int .i64 0, .int .i64 0, .int .i64 0] 36)).drew ga n (P.at_ W) := HA3.out.alloc _
              have hSj : Rw (w2.alloc (.cells #[.int .i64 0, .int .i64 0, .int .i64 0, .int .i64 0, .int .i64 0, .int .i64 0, .int .i64 0, .int .i64 0, .int .i64 0, .int .i64 0, .int .i64 0] 36)).drew gs n (wdR P W k s0) := HS3.out.alloc _
              have hN4 : (w2.alloc (.cells #[.int .i64 0, .int .i64 0, .int .i64 0, .int .i64 0, .int .i64 0, .int .i64 0, .int .i64 0, .int .i64 0, .int .i64 0, .int .i64 0, .int .i64 0] 36)).drew.heap[w2.heap.size]? = some (.cells #[.int .i64 0, .int .i64 0, .int .i64 0, .int .i64 0, .int .i64 0, .int .i64 0, .int .i64 0, .int .i64 0, .int .i64 0, .int .i64 0, .int .i64 0] 36 (0, 0)) := heap_alloc_new _ _
              have sN4 : (w2.alloc (.cells #[.int .i64 0, .int .i64 0, .int .i64 0, .int .i64 0, .int .i64 0, .int .i64 0, .int .i64 0, .int .i64 0, .int .i64 0, .int .i64 0, .int .i64 0] 36)).drew.heap.size = w2.heap.size + 1 := by simp [World.drew]
              with_reducible refine (jump_any hAj hSj HAT.out _ k (goalF X n (X k).l) hlt (HGO.out k hlt h2) hn).mono ?_
              rintro e w3 ⟨rfl, hb3⟩
              rw [HW6.out]
              refine hK.out _ _ ⟨range_below hHeld4.1 hb3, keep_cell hb3 hHeld4.2.1, keep_cell hb3 hHeld4.2.2⟩ (fun hHeld5 => ?_)
              clear hK K
              (try simp only [Act.put, List.getElem_toArray, List.getElem_cons_zero, List.getElem_cons_succ, List.setIfInBounds_toArray, List.set_cons_zero, List.set_cons_succ])
              have hN5 := (hb3.block w2.heap.size (by omega)).trans hN4
              refine wpAnyH_ready (rs := [13]) (by kernel_rfl) (by simp) ?_
              refine AllReadyH.cons rfl (fun K hK => ?_) AllReadyH.nil
              refine wp_store_row 36 (.tmp 9) (.tmp 37) rfl w2.heap.size (inv (brI (X k).c (P.at_ W (goalF X n (X k).l) - P.at_ W k - 4) false)) rfl rfl 36 _ hN5 info_in rfl (one_in _) ?_
              have O5 := setRow_offA w3 w2.heap.size (inv (brI (X k).c (P.at_ W (goalF X n (X k).l) - P.at_ W k - 4) false))
              have lg2 := HG3.out.lt
              refine hK.out _ _ ⟨range_off hHeld5.1 O5 (by simp; omega), cell_off hHeld5.2.1 O5 (by simp; have := (block_lt_of_cell (a := ⟨b, off + k * 15 + 12, none⟩) kk12); simp only at this; omega), cell_off hHeld5.2.2 O5 (by simp; omega)⟩ (fun hHeld6 => ?_)
              clear hK K
              refine wpAnyH_done (by kernel_rfl) ?_ _
              have hfin : Below w2.heap.size w2 (w3.setRow w2.heap.size (inv (brI (X k).c (P.at_ W (goalF X n (X k).l) - P.at_ W k - 4) false))) := below_setRow ((below_dn1 ((Below.refl w2.drew.heap.size w2.drew).alloc (Nat.le_refl _) (.cells #[.int .i64 0, .int .i64 0, .int .i64 0, .int .i64 0, .int .i64 0, .int .i64 0, .int .i64 0, .int .i64 0, .int .i64 0, .int .i64 0, .int .i64 0] 36))).trans (hb3.mono (by omega))) (Nat.le_refl _) _
              go_wp2_with fail
              go_meet
              case rel => exact ⟨rfl, w2.heap.size, rfl, setRow_heap _ _ _ _ _ _ hN5, hfin⟩
          case rest =>
            obtain ⟨rfl, J, rfl, hJ, hb3⟩ := hcut
            have HJ := hide hJ
            have HO3 := hide (HO2.out.trans (Off.of_below (S := [gs]) hb3))
            have HA4 := hide (HA3.out.below hb3)
            have HS4 := hide (HS3.out.below hb3)
            have HL4 := hide ((hb3.block B hBr).trans HL3.out)
            have q12 := keep_cell hb3 kk12
            have q2 : wc.cell? ⟨B, 2, none⟩ = some (.slice (some ⟨gs, 0, none⟩) n n) := by rw [cell_of_row _ _ _ _ _ _ HL4.out]; rfl
            have hLc : Inst.Laid wc := HTB.out wc (HBo.out.trans HO3.out)
            have lB4 : B < wc.heap.size := lt_of_block HL4.out
            clear hJ hb3 HO2 HA3 HS3 HG3 HL3 kk0 kk12 kG
            go_wp2_with (refine wpList_load_row rfl 36 (.tmp 9) rfl J rfl 36 _ (0, 0) _ (unhide HJ) Tryd.underlying36 rfl info_in ?_)
            refine (Right_I _ _ hLc).mono ?_
            rintro e w4 ⟨rfl, hb4⟩
            have HO4 := hide (HO3.out.trans (Off.of_below (S := [gs]) hb4))
            have HS5 := hide (HS4.out.below hb4)
            have r12 := keep_cell hb4 q12
            have r2 := keep_cell hb4 q2
            have lB5 := Nat.lt_of_lt_of_le lB4 hb4.size
            have l12 : b < wc.heap.size := (block_lt_of_cell (a := ⟨b, off + k * 15 + 12, none⟩) q12)
            clear hb4 q12 q2 HL4 HJ HA4 HS4 HO3
            cases hx : (brI (X k).c (P.at_ W (goalF X n (X k).l) - P.at_ W k - 4) false).right
            · have HBT : Hid (P.bad W k = true) := by rw [hx] at HBD2; exact HBD2.out
              have HSZ : Hid (Inst.siz (brI (X k).c 0 true).f = 4) := by unfold Hid; rw [siz_br]; rfl
              go_wp2_with fail
              refine wp_region_held_drew (S := fun w' => w'.cell? ⟨B, 2, none⟩ = some (.slice (some ⟨gs, 0, none⟩) n n) ∧ w'.cell? ⟨b, off + k * 15 + 12, none⟩ = some (.int .i64 (X k).c)) (by kernel_rfl) ⟨r2, r12⟩ (fun hHeld => ?_)
              refine wpAnyH_take (i := 0) (v := ?_) rfl (by kernel_rfl) (by kernel_rfl) (by kernel_rfl) (fun _ _ _ h => h) (Or.inl ⟨by rfl, ?_⟩) (by assumption) ?_
              rotate_left
              · intro w hSw; (try dsimp only at hSw); go_simp; (try with_reducible rfl)
              (try simp only [Act.put, List.getElem_toArray, List.getElem_cons_zero, List.setIfInBounds_toArray, List.set_cons_zero, List.set_cons_succ])
              refine wpAnyH_take (i := 1) (v := ?_) rfl (by kernel_rfl) (by kernel_rfl) (by kernel_rfl) (fun _ _ _ h => h) (Or.inl ⟨by rfl, ?_⟩) (by assumption) ?_
              rotate_left
              · intro w hSw; (try dsimp only at hSw); go_simp; (try with_reducible rfl)
              (try simp only [Act.put, List.getElem_toArray, List.getElem_cons_zero, List.getElem_cons_succ, List.setIfInBounds_toArray, List.set_cons_zero, List.set_cons_succ])
              refine wpAnyH_take (i := 2) (v := ?_) rfl (by kernel_rfl) (by kernel_rfl) (by kernel_rfl) (fun _ _ _ h => h) (Or.inl ⟨by rfl, ?_⟩) (by assumption) ?_
              rotate_left
              · intro w hSw; (try dsimp only at hSw); go_simp; (try with_reducible rfl)
              (try simp only [Act.put, List.getElem_toArray, List.getElem_cons_zero, List.getElem_cons_succ, List.setIfInBounds_toArray, List.set_cons_zero, List.set_cons_succ])
              refine wpAnyH_take (i := 3) (v := ?_) rfl (by kernel_rfl) (by kernel_rfl) (by kernel_rfl) (fun _ _ _ h => h) (Or.inl ⟨by rfl, ?_⟩) (by assumption) ?_
              rotate_left
              · intro w hSw; (try dsimp only at hSw); go_simp; (try with_reducible rfl)
              (try simp only [Act.put, List.getElem_toArray, List.getElem_cons_zero, List.getElem_cons_succ, List.setIfInBounds_toArray, List.set_cons_zero, List.set_cons_succ])
              refine wpAnyH_take (i := 4) (v := ?_) rfl (by kernel_rfl) (by kernel_rfl) (by kernel_rfl) (fun _ _ _ h => h) (Or.inl ⟨by rfl, ?_⟩) (by assumption) ?_
              rotate_left
              · intro w hSw; (try dsimp only at hSw); go_simp; (try with_reducible rfl)
              (try simp only [Act.put, List.getElem_toArray, List.getElem_cons_zero, List.getElem_cons_succ, List.setIfInBounds_toArray, List.set_cons_zero, List.set_cons_succ])
              refine wpAnyH_take (i := 5) (v := ?_) rfl (by kernel_rfl) (by kernel_rfl) (by kernel_rfl) (fun _ _ _ h => h) (Or.inl ⟨by rfl, ?_⟩) (by assumption) ?_
              rotate_left
              · intro w hSw; (try dsimp only at hSw); go_simp; (try with_reducible rfl)
              (try simp only [Act.put, List.getElem_toArray, List.getElem_cons_zero, List.getElem_cons_succ, List.setIfInBounds_toArray, List.set_cons_zero, List.set_cons_succ])
              refine wpAnyH_take (i := 6) (v := ?_) rfl (by kernel_rfl) (by kernel_rfl) (by kernel_rfl) (fun _ _ _ h => h) (Or.inl ⟨by rfl, ?_⟩) (by assumption) ?_
              rotate_left
              · intro w hSw; (try dsimp only at hSw); go_simp; (try with_reducible rfl)
              (try simp only [Act.put, List.getElem_toArray, List.getElem_cons_zero, List.getElem_cons_succ, List.setIfInBounds_toArray, List.set_cons_zero, List.set_cons_succ])
              refine wpAnyH_take (i := 7) (v := ?_) rfl (by kernel_rfl) (by kernel_rfl) (by kernel_rfl) (fun _ _ _ h => h) (Or.inl ⟨by rfl, ?_⟩) (by assumption) ?_
              rotate_left
              · intro w hSw; (try dsimp only at hSw); go_simp; (try with_reducible rfl)
              (try simp only [Act.put, List.getElem_toArray, List.getElem_cons_zero, List.getElem_cons_succ, List.setIfInBounds_toArray, List.set_cons_zero, List.set_cons_succ])
              refine wpAnyH_ready (rs := [8]) (by kernel_rfl) (by simp) ?_
              refine AllReadyH.cons rfl (fun K hK => ?_) AllReadyH.nil
              go_simp
              with_reducible refine (branch_any _ _ _ _).mono ?_
              rintro e w5 ⟨rfl, hb5⟩
              refine hK.out _ _ ⟨keep_cell hb5 hHeld.1, keep_cell hb5 hHeld.2⟩ (fun hHeld2 => ?_)
              clear hK K
              (try simp only [Act.put, List.getElem_toArray, List.getElem_cons_zero, List.getElem_cons_succ, List.setIfInBounds_toArray, List.set_cons_zero, List.set_cons_succ])
              refine wpAnyH_ready (rs := [9]) (by kernel_rfl) (by simp) ?_
              refine AllReadyH.cons rfl (fun K hK => ?_) AllReadyH.nil
              go_simp
              with_reducible refine (Bytes_I _ _).mono ?_
              rintro e w6 ⟨rfl, hb6⟩
              rw [HSZ.out]
              refine hK.out _ _ ⟨keep_cell hb6 hHeld2.1, keep_cell hb6 hHeld2.2⟩ (fun hHeld3 => ?_)
              clear hK K
              (try simp only [Act.put, List.getElem_toArray, List.getElem_cons_zero, List.getElem_cons_succ, List.setIfInBounds_toArray, List.set_cons_zero, List.set_cons_succ])
              refine wpAnyH_take (i := 10) (v := ?_) rfl (by kernel_rfl) (by kernel_rfl) (by kernel_rfl) (fun _ _ _ h => h) (Or.inl ⟨by rfl, ?_⟩) (by assumption) ?_
              rotate_left
              · intro w hSw; (try dsimp only at hSw); go_simp; (try with_reducible rfl)
              (try simp only [Act.put, List.getElem_toArray, List.getElem_cons_zero, List.getElem_cons_succ, List.setIfInBounds_toArray, List.set_cons_zero, List.set_cons_succ])
              have HS6 := hide ((show Rw w4.drew gs n _ from HS5.out).below hb5 |>.below hb6)
              have HO6 := hide ((HO4.out.drew.trans (Off.of_below (S := [gs]) hb5)).trans (Off.of_below (S := [gs]) hb6))
              have cS := HS6.out.cell k hlt
              have fS := HS6.out.free k
              refine wpAnyH_ready (rs := [11]) (by kernel_rfl) (by simp) ?_
              refine AllReadyH.cons rfl (fun K hK => ?_) AllReadyH.nil
              go_simp
              refine hK.out _ _ ⟨cell_set hHeld3.1 (by simp; omega), cell_set hHeld3.2 (by simp; omega)⟩ (fun hHeld4 => ?_)
              clear hK K
              refine wpAnyH_done (by kernel_rfl) ?_ _
              have HF := hide ((HS6.out.set k 4).same (wdR_put P W k s0 n HBT.out))
              have HOF := hide (HO6.out.set (p := ⟨gs, k, none⟩) (by simp) (.int .i64 4))
              go_wp2_with fail
              go_roundw
              case rel => exact ⟨k + 1, by omega, by go_num, by rw [HN.out, HBT.out, Bool.or_true], HF.out, HOF.out⟩
              case measure => simp [intOf]; omega
            · have HBT : Hid (P.bad W k = false) := by rw [hx] at HBD2; exact HBD2.out
              go_wp2_with fail
              go_roundw
              case rel => exact ⟨k + 1, by omega, by go_num, by rw [HN.out, HBT.out, Bool.or_false], HS5.out.same (wdR_same P W k s0 n HBT.out), HO4.out⟩
              case measure => simp [intOf]; omega
        · have HBF := hide (HB0.out k hlt (.inr hWk))
          go_wp2_with fail
          go_roundw
          case rel => exact ⟨k + 1, by omega, by go_num, by rw [HN.out, HBF.out, Bool.or_false], HS3.out.same (wdR_same P W k s0 n HBF.out), HO2.out⟩
          case measure => simp [intOf]; omega
      · have HBF := hide (HB0.out k hlt (.inl h2))
        have HN := hide (badN_succ P W k)
        go_wp2_with fail
        go_roundw
        case rel => exact ⟨k + 1, by omega, by go_num, by rw [HN.out, HBF.out, Bool.or_false], hS.out.same (wdR_same P W k s0 n HBF.out), ho⟩
        case measure => simp [intOf]; omega
    · obtain rfl : k = n := by omega
      go_wp2_with fail
      go_ret
      exact ⟨HBo.out.trans ho, rfl, hS⟩
end Go.Proofs.YtegefbndpkbooaaDoor.Asm

