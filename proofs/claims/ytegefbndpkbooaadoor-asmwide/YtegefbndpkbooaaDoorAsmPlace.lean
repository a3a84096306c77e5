/- Items are placed: place of package asm. -/
import Derived.Test.YtegefbndpkbooaaDoorAsmPrg
import Derived.Test.YtegefbndpkbooaaDoorAsmJump
set_option linter.unusedVariables false
set_option linter.unusedSimpArgs false
namespace Go.Proofs.YtegefbndpkbooaaDoor.Asm
open Go.RowKit Go.Proofs.YtegefbndpkbooaaDoor.Core Go.Proofs.YtegefbndpkbooaaDoor.Alu

theorem cell_set {w : World} {p : Addr} {b o : Nat} {v u : Value} (h : w.cell? ⟨b, o, none⟩ = some v) (hb : p.block ≠ b) : (w.setCell p u).cell? ⟨b, o, none⟩ = some v :=
  cell_off h ((Off.refl [p.block] w).set (by simp) u) (by simpa using fun e => hb e.symm)
/-- Where a row's items lie is no row of ours. -/
def Clear (p : Option Addr) (S : List Nat) : Prop := ∀ b off, p = some ⟨b, off, none⟩ → b ∉ S
/-- The rows behind a place's first k. -/
def atR (P : Prg) (W : Nat → Bool) (k : Nat) (a0 : Nat → Int) (i : Nat) : Int := if i < k then P.at_ W i else a0 i
def szR (P : Prg) (W : Nat → Bool) (k : Nat) (s0 : Nat → Int) (i : Nat) : Int := if i < k then P.sz i (W i) (P.at_ W i) else s0 i
theorem atR_step (P : Prg) (W : Nat → Bool) (k : Nat) (a0 : Nat → Int) (n : Nat) : ∀ i, i < n → put (atR P W k a0) k (P.at_ W k) i = atR P W (k + 1) a0 i := fun i _ => by
  by_cases e : i = k
  · subst e; rw [put_same]; unfold atR; rw [if_pos (by omega)]
  · rw [put_other _ _ _ e]; unfold atR
    by_cases h : i < k
    · rw [if_pos h, if_pos (by omega)]
    · rw [if_neg h, if_neg (by omega)]
theorem szR_put (P : Prg) (W : Nat → Bool) (k : Nat) (s0 : Nat → Int) (n : Nat) : ∀ i, i < n → put (szR P W k s0) k (P.sz k (W k) (P.at_ W k)) i = szR P W (k + 1) s0 i := fun i _ => by
  by_cases e : i = k
  · subst e; rw [put_same]; unfold szR; rw [if_pos (by omega)]
  · rw [put_other _ _ _ e]; unfold szR
    by_cases h : i < k
    · rw [if_pos h, if_pos (by omega)]
    · rw [if_neg h, if_neg (by omega)]
theorem szR_same (P : Prg) (W : Nat → Bool) (k : Nat) (s0 : Nat → Int) (n : Nat) (hk : s0 k = P.sz k (W k) (P.at_ W k)) : ∀ i, i < n → szR P W k s0 i = szR P W (k + 1) s0 i := fun i _ => by
  unfold szR
  by_cases e : i = k
  · subst e; rw [if_neg (by omega), if_pos (by omega), hk]
  · by_cases h : i < k
    · rw [if_pos h, if_pos (by omega)]
    · rw [if_neg h, if_neg (by omega)]

set_option maxRecDepth 100000 in
set_option maxHeartbeats 2000000 in
theorem place_any {w : World} {vb : Value} {ga gs n cap : Nat} {r : Int} {a0 s0 : Nat → Int} {p : Option Addr} {X : Nat → It} {W : Nat → Bool} (hI : Items w p n X) (hr : ∀ i, i < n → rightT (X i) = true) (hA : Rw w ga n a0) (hS : Rw w gs n s0)
    (hne : ga ≠ gs) (hc : Clear p [ga, gs]) (hs : SzOk n X W s0) (hn : n ≤ 10000) :
    Calls Tryd.prog 21 #[.agg (ldv vb ga gs n r), .slice p n cap] w fun e w' => Off [ga, gs] w w' ∧ ((e = .returned (.bool true) ∧ (prg n X).at_ W n ≤ 65536 ∧ Rw w' ga n ((prg n X).at_ W) ∧ Rw w' gs n (fun i => (prg n X).sz i (W i) ((prg n X).at_ W i)))
      ∨ (e = .returned (.bool false) ∧ 65536 < (prg n X).at_ W n)) := by
  have hn' : (n : Int) ≤ 10000 := by omega
  have hOk := prg_ok (n := n) (X := X) hr
  generalize hP : prg n X = P at *
  have hPs : ∀ i, i < n → ∀ b a, P.sz i b a = szT (X i) b a := fun i hi b a => by rw [← hP]; exact prg_sz hi b a
  have hX := heap_alloc_new w (.cells (ldv vb ga gs n r) 30)
  have hB := (Below.refl w.heap.size w).alloc (Nat.le_refl _) (.cells (ldv vb ga gs n r) 30)
  have hI1 := hI.below hB
  have hA1 := hA.below hB
  have hS1 := hS.below hB
  have la := hA.lt
  have ls := hS.lt
  have c1 : (w.alloc (.cells (ldv vb ga gs n r) 30)).cell? ⟨w.heap.size, 1, none⟩ = some (.slice (some ⟨ga, 0, none⟩) n n) := by rw [cell_of_row _ _ _ _ _ _ hX]; rfl
  have c2 : (w.alloc (.cells (ldv vb ga gs n r) 30)).cell? ⟨w.heap.size, 2, none⟩ = some (.slice (some ⟨gs, 0, none⟩) n n) := by rw [cell_of_row _ _ _ _ _ _ hX]; rfl
  have hz : w.heap.size < (w.alloc (.cells (ldv vb ga gs n r) 30)).heap.size := by simp
  have HO := hide hOk
  have HS := hide hs
  have HR := hide hr
  have HPS := hide hPs
  have HB := hide hB
  clear hOk hs hr hPs hX hI hA hS hB
  go_enter Tryd.func21, Tryd.ntmps21
  go_wp2_with fail
  have HBo : Hid (Off [ga, gs] w (w.alloc (.cells (ldv vb ga gs n r) 30))) := Off.of_below HB.out
  generalize hBz : w.heap.size = B at *
  generalize w.alloc (.cells (ldv vb ga gs n r) 30) = w1 at *
  go_loopw [5, 9] (fun s5 s9 wr => ∃ k : Nat, k ≤ n ∧ s9 = .int .i64 k ∧ s5 = .int .i64 (P.at_ W k) ∧ P.at_ W k ≤ 65536 ∧ Rw wr ga n (atR P W k a0) ∧ Rw wr gs n (szR P W k s0) ∧ Off [ga, gs] w1 wr) (fun _ s9 _ => n - (intOf s9).toNat)
  case atStart => exact ⟨0, Nat.zero_le _, rfl, rfl, by show (0 : Int) ≤ 65536; omega, hA1.same (fun i _ => (if_neg (by omega)).symm), hS1.same (fun i _ => (if_neg (by omega)).symm), Off.refl _ _⟩
  case round =>
    obtain ⟨k, hk, rfl, rfl, hle, hA, hS, ho⟩ := hrel
    have a1 := Prg.at_ge HO.out W k
    by_cases hlt : k < n
    · have hlt' : (k : Int) < n := by omega
      have hI2 := hI1.off ho hc
      rcases hI2.cells with h0 | ⟨b, off, rfl, hbl, hcl⟩
      · omega
      have hbc := hc b off rfl
      simp only [List.mem_cons, List.mem_nil_iff, or_false, not_or] at hbc
      have hrow := hcl k hlt
      have k0 : wr.cell? ⟨b, off + k * 15, none⟩ = some (.int .i64 (X k).k) := by have := hrow 0 _ rfl; rw [Nat.add_zero] at this; exact this
      have k14 : wr.cell? ⟨b, off + k * 15 + 14, none⟩ = some (.int .i64 (X k).t) := hrow 14 _ rfl
      have d1 : wr.cell? ⟨B, 1, none⟩ = some (.slice (some ⟨ga, 0, none⟩) n n) := cell_off c1 ho (by simp; omega)
      have d2 : wr.cell? ⟨B, 2, none⟩ = some (.slice (some ⟨gs, 0, none⟩) n n) := cell_off c2 ho (by simp; omega)
      have cA := hA.cell k hlt
      have fA := hA.free k
      have cS := hS.cell k hlt
      have fS := hS.free k
      have la' := hA.lt
      have ls' := hS.lt
      have hsb := szT_bd (HR.out k hlt) (W k) (P.at_ W k)
      have hst := Prg.at_succ (P := P) W k
      have hps := HPS.out k hlt (W k) (P.at_ W k)
      rw [hps] at hst
      replace hA := hide hA
      replace hS := hide hS
      have HST := hide hst
      clear hrow hcl hI2 hst
      by_cases h4 : (X k).k = 4
      · rw [h4] at k0
        have ht := right_to (HR.out k hlt) h4
        have hq : szT (X k) (W k) (P.at_ W k) = misN (P.at_ W k) (X k).t := by unfold szT; rw [if_neg (by omega), if_neg (by omega), if_pos h4]
        have mb := mis_bd (P.at_ W k) (X k).t ht
        have HQ := hide hq
        have HSP := hide (szR_put P W k s0 n)
        clear hq hps hsb cA fA
        go_wp2_with fail
        have hOd : Hid (Off [ga, gs] w1 wr.drew) := ho.drew
        refine wp_region_held_drew (S := fun w' => w'.cell? ⟨B, 2, none⟩ = some (.slice (some ⟨gs, 0, none⟩) n n) ∧ w'.cell? ⟨b, off + k * 15 + 14, none⟩ = some (.int .i64 (X k).t)) (by kernel_rfl) ⟨d2, k14⟩ (fun hHeld => ?_)
        refine wpAnyH_take (i := 0) (v := ?_) rfl (by kernel_rfl) (by kernel_rfl) (by kernel_rfl) (fun _ _ _ h => h) (Or.inl ⟨by rfl, ?_⟩) (by assumption) ?_
        rotate_left
        · intro w hSw; (try dsimp only at hSw); go_simp; (try with_reducible rfl)
        (try simp only [Act.put, List.getElem_toArray, List.getElem_cons_zero, List.setIfInBounds_toArray, List.set_cons_zero, List.set_cons_succ])
        refine wpAnyH_take (i := 1) (v := ?_) rfl (by kernel_rfl) (by kernel_rfl) (by kernel_rfl) (fun _ _ _ h => h) (Or.inl ⟨by rfl, ?_⟩) (by assumption) ?_
        rotate_left
        · intro w hSw; (try dsimp only at hSw); go_simp; (try with_reducible rfl)
        (try simp only [Act.put, List.getElem_toArray, List.getElem_cons_zero, List.getElem_cons_succ, List.setIfInBounds_toArray, List.set_cons_zero, List.set_cons_succ])
        refine wpAnyH_take (i := 2) (v := ?_) rfl (by kernel_rfl) (by kernel_rfl) (by kernel_rfl) (fun _ _ _ h => h) (Or.inl ⟨by rfl, ?_⟩) (by assumption) ?_
        rotate_left
        · intro w hSw; (try dsimp only at hSw); go_simp; (try with_reducible rfl)
        (try simp only [Act.put, List.getElem_toArray, List.getElem_cons_zero, List.getElem_cons_succ, List.setIfInBounds_toArray, List.set_cons_zero, List.set_cons_succ])
        refine wpAnyH_take (i := 3) (v := ?_) rfl (by kernel_rfl) (by kernel_rfl) (by kernel_rfl) (fun _ _ _ h => h) (Or.inl ⟨by rfl, ?_⟩) (by assumption) ?_
        rotate_left
        · intro w hSw; (try dsimp only at hSw); go_simp; (try with_reducible rfl)
        (try simp only [Act.put, List.getElem_toArray, List.getElem_cons_zero, List.getElem_cons_succ, List.setIfInBounds_toArray, List.set_cons_zero, List.set_cons_succ])
        refine wpAnyH_take (i := 4) (v := ?_) rfl (by kernel_rfl) (by kernel_rfl) (by kernel_rfl) (fun _ _ _ h => h) (Or.inl ⟨by rfl, ?_⟩) (by assumption) ?_
        rotate_left
        · intro w hSw; (try dsimp only at hSw); go_simp; (try with_reducible rfl)
        (try simp only [Act.put, List.getElem_toArray, List.getElem_cons_zero, List.getElem_cons_succ, List.setIfInBounds_toArray, List.set_cons_zero, List.set_cons_succ])
        refine wpAnyH_take (i := 5) (v := ?_) rfl (by kernel_rfl) (by kernel_rfl) (by kernel_rfl) (fun _ _ _ h => h) (Or.inl ⟨by rfl, ?_⟩) (by assumption) ?_
        rotate_left
        · intro w hSw; (try dsimp only at hSw); go_simp; (try with_reducible rfl)
        (try simp only [Act.put, List.getElem_toArray, List.getElem_cons_zero, List.getElem_cons_succ, List.setIfInBounds_toArray, List.set_cons_zero, List.set_cons_succ])
        refine wpAnyH_take (i := 6) (v := ?_) rfl (by kernel_rfl) (by kernel_rfl) (by kernel_rfl) (fun _ _ _ h => h) (Or.inl ⟨by rfl, ?_⟩) (by assumption) ?_
        rotate_left
        · intro w hSw; (try dsimp only at hSw); go_simp; (try with_reducible rfl)
        (try simp only [Act.put, List.getElem_toArray, List.getElem_cons_zero, List.getElem_cons_succ, List.setIfInBounds_toArray, List.set_cons_zero, List.set_cons_succ])
        refine wpAnyH_take (i := 7) (v := ?_) rfl (by kernel_rfl) (by kernel_rfl) (by kernel_rfl) (fun _ _ _ h => h) (Or.inl ⟨by rfl, ?_⟩) (by assumption) ?_
        rotate_left
        · intro w hSw; (try dsimp only at hSw); go_simp; (try with_reducible rfl)
        (try simp only [Act.put, List.getElem_toArray, List.getElem_cons_zero, List.getElem_cons_succ, List.setIfInBounds_toArray, List.set_cons_zero, List.set_cons_succ])
        refine wpAnyH_take (i := 8) (v := ?_) rfl (by kernel_rfl) (by kernel_rfl) (by kernel_rfl) (fun _ _ _ h => h) (Or.inl ⟨by rfl, ?_⟩) (by assumption) ?_
        rotate_left
        · intro w hSw; (try dsimp only at hSw); go_simp; (try with_reducible rfl)
        (try simp only [Act.put, List.getElem_toArray, List.getElem_cons_zero, List.getElem_cons_succ, List.setIfInBounds_toArray, List.set_cons_zero, List.set_cons_succ])
        refine wpAnyH_ready (rs := [9]) (by kernel_rfl) (by simp) ?_
        refine AllReadyH.cons rfl (fun K hK => ?_) AllReadyH.nil
        go_simp
        with_reducible refine (missing_any _ _ a1 (by omega) ht _).mono ?_
        rintro e w' ⟨rfl, rfl⟩
        refine hK.out _ _ hHeld (fun hHeld2 => ?_)
        clear hK K
        (try simp only [Act.put, List.getElem_toArray, List.getElem_cons_zero, List.getElem_cons_succ, List.setIfInBounds_toArray, List.set_cons_zero, List.set_cons_succ])
        refine wpAnyH_take (i := 10) (v := ?_) rfl (by kernel_rfl) (by kernel_rfl) (by kernel_rfl) (fun _ _ _ h => h) (Or.inl ⟨by rfl, ?_⟩) (by assumption) ?_
        rotate_left
        · intro w hSw; (try dsimp only at hSw); go_simp; (try with_reducible rfl)
        (try simp only [Act.put, List.getElem_toArray, List.getElem_cons_zero, List.getElem_cons_succ, List.setIfInBounds_toArray, List.set_cons_zero, List.set_cons_succ])
        have cSd : wr.drew.cell? ⟨gs, k, none⟩ = some (.int .i64 (szR P W k s0 k)) := cS
        have fSd : wr.drew.frozen? ⟨gs, k, none⟩ = false := fS
        refine wpAnyH_ready (rs := [11]) (by kernel_rfl) (by simp) ?_
        refine AllReadyH.cons rfl (fun K hK => ?_) AllReadyH.nil
        go_simp
        refine hK.out _ _ ⟨cell_set hHeld2.1 (by simp; omega), cell_set hHeld2.2 (by simp; omega)⟩ (fun hHeld3 => ?_)
        clear hK K
        refine wpAnyH_done (by kernel_rfl) ?_ _
        have ho2 : Off [ga, gs] w1 (wr.setCell ⟨gs, k, none⟩ (.int .i64 (misN (P.at_ W k) (X k).t))).drew := (ho.set (p := ⟨gs, k, none⟩) (by simp) (.int .i64 (misN (P.at_ W k) (X k).t))).drew
        have hA2 : Rw (wr.setCell ⟨gs, k, none⟩ (.int .i64 (misN (P.at_ W k) (X k).t))).drew ga n (atR P W k a0) := Rw.other hA.out (p := ⟨gs, k, none⟩) (.int .i64 (misN (P.at_ W k) (X k).t)) (fun e => hne e.symm)
        have hS2 : Rw (wr.setCell ⟨gs, k, none⟩ (.int .i64 (misN (P.at_ W k) (X k).t))).drew gs n (szR P W (k + 1) s0) := (hS.out.set k (misN (P.at_ W k) (X k).t)).same (fun i hi => by rw [← HSP.out i hi, HPS.out k hlt, HQ.out])
        generalize (wr.setCell ⟨gs, k, none⟩ (.int .i64 (misN (P.at_ W k) (X k).t))).drew = w2 at *
        clear hHeld hHeld2 hHeld3 cSd fSd cS fS d1 d2 k0 k14 hA hS hOd ho
        rw [← HQ.out] at mb
        have hAq := atR_step P W k a0 n
        have e1 : w2.cell? ⟨B, 1, none⟩ = some (.slice (some ⟨ga, 0, none⟩) n n) := cell_off c1 ho2 (by simp; omega)
        have e2 : w2.cell? ⟨B, 2, none⟩ = some (.slice (some ⟨gs, 0, none⟩) n n) := cell_off c2 ho2 (by simp; omega)
        have cA2 := hA2.cell k hlt
        have fA2 := hA2.free k
        have cS2 : w2.cell? ⟨gs, k, none⟩ = some (.int .i64 (szT (X k) (W k) (P.at_ W k))) := by
          have y := hS2.cell k hlt
          unfold szR at y
          rw [if_pos (by omega), HPS.out k hlt] at y
          exact y
        have hz2 : B < w2.heap.size := Nat.lt_of_lt_of_le hz ho2.size
        have HAQ := hide hAq
        have HHA := hide (hA2.set k (P.at_ W k))
        have HHS := hide (Rw.other hS2 (p := ⟨ga, k, none⟩) (.int .i64 (P.at_ W k)) hne)
        have HO2 := hide (ho2.set (p := ⟨ga, k, none⟩) (by simp) (.int .i64 (P.at_ W k)))
        clear hAq hA2 hS2 ho2
        generalize szT (X k) (W k) (P.at_ W k) = q at *
        by_cases hex : 65536 < P.at_ W k + q
        · go_wp2_with fail
          go_ret
          exact ⟨HBo.out.trans HO2.out, .inr ⟨rfl, by have := Prg.at_mono HO.out W (show k + 1 ≤ n by omega); rw [HST.out] at this; omega⟩⟩
        · go_wp2_with fail
          go_roundw
          case rel => exact ⟨k + 1, by omega, by go_num, by rw [HST.out], by rw [HST.out]; omega, HHA.out.same HAQ.out, HHS.out, HO2.out⟩
          case measure => simp [intOf]; omega
      · have hS2 : Rw wr gs n (szR P W (k + 1) s0) := hS.out.same (szR_same P W k s0 n (by rw [hps, HS.out k hlt h4]; exact szT_a h4 _ _ _))
        have hA2 := hA.out
        have ho2 := ho
        clear hps cS fS cA fA d1 d2 hA hS ho k14
        generalize hw2 : wr = w2 at *
        clear hw2
        have hAq := atR_step P W k a0 n
        have e1 : w2.cell? ⟨B, 1, none⟩ = some (.slice (some ⟨ga, 0, none⟩) n n) := cell_off c1 ho2 (by simp; omega)
        have e2 : w2.cell? ⟨B, 2, none⟩ = some (.slice (some ⟨gs, 0, none⟩) n n) := cell_off c2 ho2 (by simp; omega)
        have cA2 := hA2.cell k hlt
        have fA2 := hA2.free k
        have cS2 : w2.cell? ⟨gs, k, none⟩ = some (.int .i64 (szT (X k) (W k) (P.at_ W k))) := by
          have y := hS2.cell k hlt
          unfold szR at y
          rw [if_pos (by omega), HPS.out k hlt] at y
          exact y
        have hz2 : B < w2.heap.size := Nat.lt_of_lt_of_le hz ho2.size
        have HAQ := hide hAq
        have HHA := hide (hA2.set k (P.at_ W k))
        have HHS := hide (Rw.other hS2 (p := ⟨ga, k, none⟩) (.int .i64 (P.at_ W k)) hne)
        have HO2 := hide (ho2.set (p := ⟨ga, k, none⟩) (by simp) (.int .i64 (P.at_ W k)))
        clear hAq hA2 hS2 ho2
        generalize szT (X k) (W k) (P.at_ W k) = q at *
        by_cases hex : 65536 < P.at_ W k + q
        · go_wp2_with fail
          go_ret
          exact ⟨HBo.out.trans HO2.out, .inr ⟨rfl, by have := Prg.at_mono HO.out W (show k + 1 ≤ n by omega); rw [HST.out] at this; omega⟩⟩
        · go_wp2_with fail
          go_roundw
          case rel => exact ⟨k + 1, by omega, by go_num, by rw [HST.out], by rw [HST.out]; omega, HHA.out.same HAQ.out, HHS.out, HO2.out⟩
          case measure => simp [intOf]; omega
    · obtain rfl : k = n := by omega
      go_wp2_with fail
      go_ret
      exact ⟨HBo.out.trans ho, .inl ⟨rfl, hle, hA.same (fun i hi => if_pos hi), hS.same (fun i hi => if_pos hi)⟩⟩
end Go.Proofs.YtegefbndpkbooaaDoor.Asm

