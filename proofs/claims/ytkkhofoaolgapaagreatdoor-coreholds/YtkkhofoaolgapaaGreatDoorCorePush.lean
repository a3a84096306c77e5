/- Registers that are stored: package core. -/
import Derived.Test.YtkkhofoaolgapaaGreatDoorCorePop
set_option linter.unusedVariables false
namespace Go.Proofs.YtkkhofoaolgapaaGreatDoor.Core
open Go.RowKit Go.Proofs.YtkkhofoaolgapaaGreatDoor.Mem Go.Proofs.YtkkhofoaolgapaaGreatDoor.Alu

/-- The registers from r on that are listed are stored. -/
def pshR : Nat → Nat → Wo → Int → (Nat → Int) → (Nat → Int) × Int
  | 0, _, _, _, g => (g, 0)
  | k + 1, r, W, p, g => if listB W r then (if stE p = 0 then pshR k (r + 1) W ((p + 4) % 4294967296) (Mem.put g (rp p).toNat (W.s.R r)) else (g, stE p)) else pshR k (r + 1) W p g
def pshC (W : Wo) : Int := (Clock.ones 16 W.i.rg.toNat : Int)
def pshP (W : Wo) : Int := (W.s.R 13 - 4 * pshC W) % 4294967296
def pshS (W : Wo) : Wo := (W.reg 13 (pshP W)).dat (pshP W) (pshC W)
def pshG (g : Nat → Int) (W : Wo) : Nat → Int := (pshR 16 0 (pshS W) (pshP W) g).1
def pshE (g : Nat → Int) (W : Wo) : Int := (pshR 16 0 (pshS W) (pshP W) g).2

set_option maxRecDepth 100000 in
set_option maxHeartbeats 4000000 in
theorem push_any {w : World} {B F R n : Nat} {W : Wo} {f g : Nat → Int} (h : Wk w B W) (ok : Ok W) (hm : Is w W.m F R n f g) :
    Calls Tryz.prog 79 #[.pointer (some ⟨B, 0, none⟩)] w fun e w' => e = .returned (.int .i64 (pshE g W)) ∧ Wk w' B (pshS W) ∧ Is w' W.m F R n f (pshG g W) ∧ Off [B, R] w w' := by
  have hA := wkApart h hm
  have crg := h.crg
  have brg := ok.f.rg
  have b13 := ok.g.r 13
  have bC : 0 ≤ pshC W ∧ pshC W ≤ 16 := by have := Clock.ones_le 16 W.i.rg.toNat; unfold pshC; omega
  go_enter Tryz.func79, Tryz.ntmps79
  go_wp2_with fail
  refine (Clock.OnesCount32_any _ (by omega) (by omega) _).mono ?_
  rintro e w1 ⟨rfl, hb1⟩
  rw [show (Clock.ones 16 W.i.rg.toNat : Int) = pshC W from rfl]
  have h1 : Wk w1 B W := h.below hb1
  have o1 : Off [B] w w1 := Off.of_below hb1
  have c36 := h1.cwo
  have f36 := h1.free 36
  have H2 := hide (h1.putWo (pshC W))
  have O2 := hide (o1.set (p := ⟨B, 36, none⟩) (by simp) (.int .i64 (pshC W)))
  clear hb1
  go_wp2_with fail
  generalize w1.setCell ⟨B, 36, none⟩ (.int .i64 (pshC W)) = w2 at *
  clear c36 f36 h1 o1 crg
  have c13 := H2.out.c13
  have f13 := H2.out.free 13
  have c36 := H2.out.cwo
  dsimp only at c13 c36
  go_region
  have H3 := hide (H2.out.putR 13 (by decide) (pshP W)).drew
  have O3 := hide (O2.out.set (p := ⟨B, 13, none⟩) (by simp) (.int .u32 (pshP W))).drew
  have e3 : (W.s.R 13 - 4 * pshC W) % 4294967296 = pshP W := rfl
  have bp : 0 ≤ pshP W ∧ pshP W < 4294967296 := by unfold pshP; omega
  rw [e3]
  clear e3 c13 f13 c36
  generalize (w2.setCell ⟨B, 13, none⟩ (.int .u32 (pshP W))).drew = w4 at *
  have c13 : w4.cell? ⟨B, 13, none⟩ = some (.int .u32 (pshP W)) := H3.out.c13
  have c35 := H3.out.cda
  have f35 := H3.out.free 35
  have H5 := hide (H3.out.putDa (pshP W))
  have O5 := hide (O3.out.set (p := ⟨B, 35, none⟩) (by simp) (.int .u32 (pshP W)))
  go_wp2_with fail
  generalize w4.setCell ⟨B, 35, none⟩ (.int .u32 (pshP W)) = w5 at *
  clear c13 c35 f35
  have M5 : Is w5 W.m F R n f g := isOff hm O5.out (by simpa using hA.1) (by simpa using hA.2.1) (by simpa using hA.2.2)
  go_loopw [3, 46] (fun p i wr => ∃ (k : Nat) (q : Int) (G : Nat → Int), k ≤ 16 ∧ p = .int .u32 q ∧ (0 ≤ q ∧ q < 4294967296) ∧ i = .int .i64 k ∧ Wk wr B (pshS W) ∧ Off [B, R] w wr ∧ Is wr W.m F R n f G ∧ Hid (pshR (16 - k) k (pshS W) q G = pshR 16 0 (pshS W) (pshP W) g)) (fun _ i _ => 16 - (intOf i).toNat)
  case atStart => exact ⟨0, _, g, by omega, rfl, bp, rfl, H5.out, O5.out.mono (by simp), M5, rfl⟩
  case round =>
    obtain ⟨k, q, G, hk, rfl, bq, rfl, hU, oU, mU, hP⟩ := hrel
    by_cases hlt : k < 16
    · have hlt' : (k : Int) < 16 := by omega
      have eK : 16 - k = (16 - (k + 1)) + 1 := by omega
      cases hl : listB (pshS W) k
      · have HP : Hid (pshR (16 - (k + 1)) (k + 1) (pshS W) q G = pshR 16 0 (pshS W) (pshP W) g) := by have x := hP.out; rw [eK, pshR, hl] at x; exact x
        clear hP eK
        go_wp2_with fail
        refine (lists_any hU _).mono ?_
        rintro e w3 ⟨rfl, hw3⟩
        rw [hl]
        have h3 : Wk w3 B (pshS W) := by obtain ⟨m, rfl⟩ := hw3; exact hU
        have o3 : Off [B, R] w w3 := by obtain ⟨m, rfl⟩ := hw3; exact oU.drewN _
        have m3 : Is w3 W.m F R n f G := by obtain ⟨m, rfl⟩ := hw3; exact isDrewN mU _
        clear hw3
        go_wp2_with fail
        go_roundw
        case rel => exact ⟨k + 1, q, G, by omega, rfl, bq, by go_num, h3, o3, m3, HP⟩
        case measure => simp [intOf]; omega
      · by_cases he : stE q = 0
        · have HP : Hid (pshR (16 - (k + 1)) (k + 1) (pshS W) ((q + 4) % 4294967296) (Mem.put G (rp q).toNat ((pshS W).s.R k)) = pshR 16 0 (pshS W) (pshP W) g) := by have x := hP.out; rw [eK, pshR, hl] at x; simp only [if_true, he] at x; exact x
          clear hP eK
          go_wp2_with fail
          refine (lists_any hU _).mono ?_
          rintro e w3 ⟨rfl, hw3⟩
          rw [hl]
          have h3 : Wk w3 B (pshS W) := by obtain ⟨m, rfl⟩ := hw3; exact hU
          have o3 : Off [B, R] w w3 := by obtain ⟨m, rfl⟩ := hw3; exact oU.drewN _
          have m3 : Is w3 W.m F R n f G := by obtain ⟨m, rfl⟩ := hw3; exact isDrewN mU _
          clear hw3
          have cm := h3.cm
          have ck := h3.reg k hlt
          dsimp only [pshS, Wo.dat, Wo.reg] at cm
          go_wp2_with fail
          have S1 : w3.drew.cell? ⟨B, 20, none⟩ = some (.pointer (some ⟨W.m, 0, none⟩)) := cm
          have S2 : w3.drew.cell? ⟨B, k, none⟩ = some (.int .u32 ((pshS W).s.R k)) := ck
          clear cm ck
          refine wp_region_held_drew (S := fun w' => w'.cell? ⟨B, 20, none⟩ = some (.pointer (some ⟨W.m, 0, none⟩)) ∧ w'.cell? ⟨B, k, none⟩ = some (.int .u32 ((pshS W).s.R k))) (by kernel_rfl) ⟨S1, S2⟩ (fun hHeld => ?_)
          refine wpAnyH_take (i := 0) (v := ?_) rfl (by kernel_rfl) (by kernel_rfl) (by kernel_rfl) (fun _ _ _ h => h) (Or.inl ⟨by rfl, ?_⟩) (by assumption) ?_
          rotate_left
          · intro w hSw; (try dsimp only at hSw); go_simp; (try with_reducible rfl)
          (try simp only [Act.put, List.getElem_toArray, List.getElem_cons_zero, List.setIfInBounds_toArray, List.set_cons_zero, List.set_cons_succ])
          refine wpAnyH_take (i := 1) (v := ?_) rfl (by kernel_rfl) (by kernel_rfl) (by kernel_rfl) (fun _ _ _ h => h) (Or.inl ⟨by rfl, ?_⟩) (by assumption) ?_
          rotate_left
          · intro w hSw; (try dsimp only at hSw); go_simp; (try with_reducible rfl)
          (try simp only [Act.put, List.getElem_toArray, List.getElem_cons_zero, List.getElem_cons_succ, List.setIfInBounds_toArray, List.set_cons_zero, List.set_cons_succ])
          refine wpAnyH_take (i := 2) (v := ?_) rfl (by kernel_rfl) (by kernel_rfl) (by kernel_rfl) (fun _ _ _ h => h) (Or.inl ⟨by rfl, ?_⟩) (by assumption) ?_
          rotate_left
          · intro w hSw; (try dsimp only at hSw); go_simp; (try with_reducible rfl)
          (try simp only [Act.put, List.getElem_toArray, List.getElem_cons_zero, List.getElem_cons_succ, List.setIfInBounds_toArray, List.set_cons_zero, List.set_cons_succ])
          refine wpAnyH_take (i := 3) (v := ?_) rfl (by kernel_rfl) (by kernel_rfl) (by kernel_rfl) (fun _ _ _ h => h) (Or.inl ⟨by rfl, ?_⟩) (by assumption) ?_
          rotate_left
          · intro w hSw; (try dsimp only at hSw); go_simp; (try with_reducible rfl)
          (try simp only [Act.put, List.getElem_toArray, List.getElem_cons_zero, List.getElem_cons_succ, List.setIfInBounds_toArray, List.set_cons_zero, List.set_cons_succ])
          refine wpAnyH_take (i := 4) (v := ?_) rfl (by kernel_rfl) (by kernel_rfl) (by kernel_rfl) (fun _ _ _ h => h) (Or.inl ⟨by rfl, ?_⟩) (by assumption) ?_
          rotate_left
          · intro w hSw; (try dsimp only at hSw); go_simp; (try with_reducible rfl)
          (try simp only [Act.put, List.getElem_toArray, List.getElem_cons_zero, List.getElem_cons_succ, List.setIfInBounds_toArray, List.set_cons_zero, List.set_cons_succ])
          refine wpAnyH_take (i := 5) (v := ?_) rfl (by kernel_rfl) (by kernel_rfl) (by kernel_rfl) (fun _ _ _ h => h) (Or.inl ⟨by rfl, ?_⟩) (by assumption) ?_
          rotate_left
          · intro w hSw; (try dsimp only at hSw); go_simp; (try with_reducible rfl)
          (try simp only [Act.put, List.getElem_toArray, List.getElem_cons_zero, List.getElem_cons_succ, List.setIfInBounds_toArray, List.set_cons_zero, List.set_cons_succ])
          refine wpAnyH_take (i := 6) (v := ?_) rfl (by kernel_rfl) (by kernel_rfl) (by kernel_rfl) (fun _ _ _ h => h) (Or.inl ⟨by rfl, ?_⟩) (by assumption) ?_
          rotate_left
          · intro w hSw; (try dsimp only at hSw); go_simp; (try with_reducible rfl)
          (try simp only [Act.put, List.getElem_toArray, List.getElem_cons_zero, List.getElem_cons_succ, List.setIfInBounds_toArray, List.set_cons_zero, List.set_cons_succ])
          refine wpAnyH_take (i := 7) (v := ?_) rfl (by kernel_rfl) (by kernel_rfl) (by kernel_rfl) (fun _ _ _ h => h) (Or.inl ⟨by rfl, ?_⟩) (by assumption) ?_
          rotate_left
          · intro w hSw; (try dsimp only at hSw); go_simp; (try with_reducible rfl)
          (try simp only [Act.put, List.getElem_toArray, List.getElem_cons_zero, List.getElem_cons_succ, List.setIfInBounds_toArray, List.set_cons_zero, List.set_cons_succ])
          refine wpAnyH_take (i := 8) (v := ?_) rfl (by kernel_rfl) (by kernel_rfl) (by kernel_rfl) (fun _ _ _ h => h) (Or.inl ⟨by rfl, ?_⟩) (by assumption) ?_
          rotate_left
          · intro w hSw; (try dsimp only at hSw); go_simp; (try with_reducible rfl)
          (try simp only [Act.put, List.getElem_toArray, List.getElem_cons_zero, List.getElem_cons_succ, List.setIfInBounds_toArray, List.set_cons_zero, List.set_cons_succ])
          refine wpAnyH_take (i := 9) (v := ?_) rfl (by kernel_rfl) (by kernel_rfl) (by kernel_rfl) (fun _ _ _ h => h) (Or.inl ⟨by rfl, ?_⟩) (by assumption) ?_
          rotate_left
          · intro w hSw; (try dsimp only at hSw); go_simp; (try with_reducible rfl)
          (try simp only [Act.put, List.getElem_toArray, List.getElem_cons_zero, List.getElem_cons_succ, List.setIfInBounds_toArray, List.set_cons_zero, List.set_cons_succ])
          refine wpAnyH_take (i := 10) (v := ?_) rfl (by kernel_rfl) (by kernel_rfl) (by kernel_rfl) (fun _ _ _ h => h) (Or.inl ⟨by rfl, ?_⟩) (by assumption) ?_
          rotate_left
          · intro w hSw; (try dsimp only at hSw); go_simp; (try with_reducible rfl)
          (try simp only [Act.put, List.getElem_toArray, List.getElem_cons_zero, List.getElem_cons_succ, List.setIfInBounds_toArray, List.set_cons_zero, List.set_cons_succ])
          refine wpAnyH_take (i := 11) (v := ?_) rfl (by kernel_rfl) (by kernel_rfl) (by kernel_rfl) (fun _ _ _ h => h) (Or.inl ⟨by rfl, ?_⟩) (by assumption) ?_
          rotate_left
          · intro w hSw; (try dsimp only at hSw); go_simp; (try with_reducible rfl)
          (try simp only [Act.put, List.getElem_toArray, List.getElem_cons_zero, List.getElem_cons_succ, List.setIfInBounds_toArray, List.set_cons_zero, List.set_cons_succ])
          refine wpAnyH_ready (rs := [12]) (by kernel_rfl) (by simp) ?_
          refine AllReadyH.cons rfl (fun K hK => ?_) AllReadyH.nil
          go_simp
          with_reducible refine (StoreG m3.drew q ((pshS W).s.R k) bq.1 bq.2).mono ?_
          rintro e w4 ⟨rfl, m4, o4⟩
          have h4 : Wk w4 B (pshS W) := Wk.off (show Wk w3.drew B _ from h3) o4 (by simpa using fun e => hA.2.2 e.symm)
          have cm4 := h4.cm
          dsimp only [pshS, Wo.dat, Wo.reg] at cm4
          refine hK.out _ _ ⟨cm4, h4.reg k hlt⟩ (fun hHeld4 => ?_)
          clear hK K
          (try simp only [Act.put, List.getElem_toArray, List.getElem_cons_zero, List.getElem_cons_succ, List.setIfInBounds_toArray, List.set_cons_zero, List.set_cons_succ])
          refine wpAnyH_take (i := 13) (v := ?_) rfl (by kernel_rfl) (by kernel_rfl) (by kernel_rfl) (fun _ _ _ h => h) (Or.inl ⟨by rfl, ?_⟩) (by assumption) ?_
          rotate_left
          · intro w hSw; (try dsimp only at hSw); go_simp; (try with_reducible rfl)
          (try simp only [Act.put, List.getElem_toArray, List.getElem_cons_zero, List.getElem_cons_succ, List.setIfInBounds_toArray, List.set_cons_zero, List.set_cons_succ])
          refine wpAnyH_done (by kernel_rfl) ?_ _
          clear S1 S2 hHeld hHeld4 cm4
          have O4 : Off [B, R] w w4 := o3.drew.trans (o4.mono (by simp))
          rw [if_pos he] at m4
          rw [he]
          go_wp2_with fail
          go_roundw
          case rel => exact ⟨k + 1, _, _, by omega, rfl, by omega, by go_num, h4, O4, m4, HP⟩
          case measure => simp [intOf]; omega
        · have HP : Hid (pshR 16 0 (pshS W) (pshP W) g = (G, stE q)) := by have x := hP.out; rw [eK, pshR, hl] at x; simp only [if_true, he, if_false] at x; exact x.symm
          have he' : (stE q == 0) = false := by simpa using he
          have HE := hide he
          clear hP eK he
          go_wp2_with fail
          refine (lists_any hU _).mono ?_
          rintro e w3 ⟨rfl, hw3⟩
          rw [hl]
          have h3 : Wk w3 B (pshS W) := by obtain ⟨m, rfl⟩ := hw3; exact hU
          have o3 : Off [B, R] w w3 := by obtain ⟨m, rfl⟩ := hw3; exact oU.drewN _
          have m3 : Is w3 W.m F R n f G := by obtain ⟨m, rfl⟩ := hw3; exact isDrewN mU _
          clear hw3
          have cm := h3.cm
          have ck := h3.reg k hlt
          dsimp only [pshS, Wo.dat, Wo.reg] at cm
          go_wp2_with fail
          have S1 : w3.drew.cell? ⟨B, 20, none⟩ = some (.pointer (some ⟨W.m, 0, none⟩)) := cm
          have S2 : w3.drew.cell? ⟨B, k, none⟩ = some (.int .u32 ((pshS W).s.R k)) := ck
          clear cm ck
          refine wp_region_held_drew (S := fun w' => w'.cell? ⟨B, 20, none⟩ = some (.pointer (some ⟨W.m, 0, none⟩)) ∧ w'.cell? ⟨B, k, none⟩ = some (.int .u32 ((pshS W).s.R k))) (by kernel_rfl) ⟨S1, S2⟩ (fun hHeld => ?_)
          refine wpAnyH_take (i := 0) (v := ?_) rfl (by kernel_rfl) (by kernel_rfl) (by kernel_rfl) (fun _ _ _ h => h) (Or.inl ⟨by rfl, ?_⟩) (by assumption) ?_
          rotate_left
          · intro w hSw; (try dsimp only at hSw); go_simp; (try with_reducible rfl)
          (try simp only [Act.put, List.getElem_toArray, List.getElem_cons_zero, List.setIfInBounds_toArray, List.set_cons_zero, List.set_cons_succ])
          refine wpAnyH_take (i := 1) (v := ?_) rfl (by kernel_rfl) (by kernel_rfl) (by kernel_rfl) (fun _ _ _ h => h) (Or.inl ⟨by rfl, ?_⟩) (by assumption) ?_
          rotate_left
          · intro w hSw; (try dsimp only at hSw); go_simp; (try with_reducible rfl)
          (try simp only [Act.put, List.getElem_toArray, List.getElem_cons_zero, List.getElem_cons_succ, List.setIfInBounds_toArray, List.set_cons_zero, List.set_cons_succ])
          refine wpAnyH_take (i := 2) (v := ?_) rfl (by kernel_rfl) (by kernel_rfl) (by kernel_rfl) (fun _ _ _ h => h) (Or.inl ⟨by rfl, ?_⟩) (by assumption) ?_
          rotate_left
          · intro w hSw; (try dsimp only at hSw); go_simp; (try with_reducible rfl)
          (try simp only [Act.put, List.getElem_toArray, List.getElem_cons_zero, List.getElem_cons_succ, List.setIfInBounds_toArray, List.set_cons_zero, List.set_cons_succ])
          refine wpAnyH_take (i := 3) (v := ?_) rfl (by kernel_rfl) (by kernel_rfl) (by kernel_rfl) (fun _ _ _ h => h) (Or.inl ⟨by rfl, ?_⟩) (by assumption) ?_
          rotate_left
          · intro w hSw; (try dsimp only at hSw); go_simp; (try with_reducible rfl)
          (try simp only [Act.put, List.getElem_toArray, List.getElem_cons_zero, List.getElem_cons_succ, List.setIfInBounds_toArray, List.set_cons_zero, List.set_cons_succ])
          refine wpAnyH_take (i := 4) (v := ?_) rfl (by kernel_rfl) (by kernel_rfl) (by kernel_rfl) (fun _ _ _ h => h) (Or.inl ⟨by rfl, ?_⟩) (by assumption) ?_
          rotate_left
          · intro w hSw; (try dsimp only at hSw); go_simp; (try with_reducible rfl)
          (try simp only [Act.put, List.getElem_toArray, List.getElem_cons_zero, List.getElem_cons_succ, List.setIfInBounds_toArray, List.set_cons_zero, List.set_cons_succ])
          refine wpAnyH_take (i := 5) (v := ?_) rfl (by kernel_rfl) (by kernel_rfl) (by kernel_rfl) (fun _ _ _ h => h) (Or.inl ⟨by rfl, ?_⟩) (by assumption) ?_
          rotate_left
          · intro w hSw; (try dsimp only at hSw); go_simp; (try with_reducible rfl)
          (try simp only [Act.put, List.getElem_toArray, List.getElem_cons_zero, List.getElem_cons_succ, List.setIfInBounds_toArray, List.set_cons_zero, List.set_cons_succ])
          refine wpAnyH_take (i := 6) (v := ?_) rfl (by kernel_rfl) (by kernel_rfl) (by kernel_rfl) (fun _ _ _ h => h) (Or.inl ⟨by rfl, ?_⟩) (by assumption) ?_
          rotate_left
          · intro w hSw; (try dsimp only at hSw); go_simp; (try with_reducible rfl)
          (try simp only [Act.put, List.getElem_toArray, List.getElem_cons_zero, List.getElem_cons_succ, List.setIfInBounds_toArray, List.set_cons_zero, List.set_cons_succ])
          refine wpAnyH_take (i := 7) (v := ?_) rfl (by kernel_rfl) (by kernel_rfl) (by kernel_rfl) (fun _ _ _ h => h) (Or.inl ⟨by rfl, ?_⟩) (by assumption) ?_
          rotate_left
          · intro w hSw; (try dsimp only at hSw); go_simp; (try with_reducible rfl)
          (try simp only [Act.put, List.getElem_toArray, List.getElem_cons_zero, List.getElem_cons_succ, List.setIfInBounds_toArray, List.set_cons_zero, List.set_cons_succ])
          refine wpAnyH_take (i := 8) (v := ?_) rfl (by kernel_rfl) (by kernel_rfl) (by kernel_rfl) (fun _ _ _ h => h) (Or.inl ⟨by rfl, ?_⟩) (by assumption) ?_
          rotate_left
          · intro w hSw; (try dsimp only at hSw); go_simp; (try with_reducible rfl)
          (try simp only [Act.put, List.getElem_toArray, List.getElem_cons_zero, List.getElem_cons_succ, List.setIfInBounds_toArray, List.set_cons_zero, List.set_cons_succ])
          refine wpAnyH_take (i := 9) (v := ?_) rfl (by kernel_rfl) (by kernel_rfl) (by kernel_rfl) (fun _ _ _ h => h) (Or.inl ⟨by rfl, ?_⟩) (by assumption) ?_
          rotate_left
          · intro w hSw; (try dsimp only at hSw); go_simp; (try with_reducible rfl)
          (try simp only [Act.put, List.getElem_toArray, List.getElem_cons_zero, List.getElem_cons_succ, List.setIfInBounds_toArray, List.set_cons_zero, List.set_cons_succ])
          refine wpAnyH_take (i := 10) (v := ?_) rfl (by kernel_rfl) (by kernel_rfl) (by kernel_rfl) (fun _ _ _ h => h) (Or.inl ⟨by rfl, ?_⟩) (by assumption) ?_
          rotate_left
          · intro w hSw; (try dsimp only at hSw); go_simp; (try with_reducible rfl)
          (try simp only [Act.put, List.getElem_toArray, List.getElem_cons_zero, List.getElem_cons_succ, List.setIfInBounds_toArray, List.set_cons_zero, List.set_cons_succ])
          refine wpAnyH_take (i := 11) (v := ?_) rfl (by kernel_rfl) (by kernel_rfl) (by kernel_rfl) (fun _ _ _ h => h) (Or.inl ⟨by rfl, ?_⟩) (by assumption) ?_
          rotate_left
          · intro w hSw; (try dsimp only at hSw); go_simp; (try with_reducible rfl)
          (try simp only [Act.put, List.getElem_toArray, List.getElem_cons_zero, List.getElem_cons_succ, List.setIfInBounds_toArray, List.set_cons_zero, List.set_cons_succ])
          refine wpAnyH_ready (rs := [12]) (by kernel_rfl) (by simp) ?_
          refine AllReadyH.cons rfl (fun K hK => ?_) AllReadyH.nil
          go_simp
          with_reducible refine (StoreG m3.drew q ((pshS W).s.R k) bq.1 bq.2).mono ?_
          rintro e w4 ⟨rfl, m4, o4⟩
          have h4 : Wk w4 B (pshS W) := Wk.off (show Wk w3.drew B _ from h3) o4 (by simpa using fun e => hA.2.2 e.symm)
          have cm4 := h4.cm
          dsimp only [pshS, Wo.dat, Wo.reg] at cm4
          refine hK.out _ _ ⟨cm4, h4.reg k hlt⟩ (fun hHeld4 => ?_)
          clear hK K
          (try simp only [Act.put, List.getElem_toArray, List.getElem_cons_zero, List.getElem_cons_succ, List.setIfInBounds_toArray, List.set_cons_zero, List.set_cons_succ])
          refine wpAnyH_take (i := 13) (v := ?_) rfl (by kernel_rfl) (by kernel_rfl) (by kernel_rfl) (fun _ _ _ h => h) (Or.inl ⟨by rfl, ?_⟩) (by assumption) ?_
          rotate_left
          · intro w hSw; (try dsimp only at hSw); go_simp; (try with_reducible rfl)
          (try simp only [Act.put, List.getElem_toArray, List.getElem_cons_zero, List.getElem_cons_succ, List.setIfInBounds_toArray, List.set_cons_zero, List.set_cons_succ])
          refine wpAnyH_done (by kernel_rfl) ?_ _
          clear S1 S2 hHeld hHeld4 cm4
          have O4 : Off [B, R] w w4 := o3.drew.trans (o4.mono (by simp))
          rw [if_neg (unhide HE)] at m4
          go_wp2_with fail
          go_ret
          exact ⟨ret_int (by unfold pshE; rw [HP.out]), h4, by unfold pshG; rw [HP.out]; exact m4, O4⟩
    · have e16 : k = 16 := by omega
      subst e16
      have HP : Hid (pshR 16 0 (pshS W) (pshP W) g = (G, 0)) := hP.out.symm
      go_wp2_with fail
      go_ret
      exact ⟨ret_int (by unfold pshE; rw [HP.out]), hU, by unfold pshG; rw [HP.out]; exact mU, oU⟩
end Go.Proofs.YtkkhofoaolgapaaGreatDoor.Core

