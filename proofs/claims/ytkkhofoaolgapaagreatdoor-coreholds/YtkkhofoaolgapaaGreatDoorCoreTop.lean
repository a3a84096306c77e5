/- CoreList, CorePop, CorePush, CoreExec, CoreStepF, CoreGood, CoreStep, CoreTwin, CoreRunG, joined. -/
import Derived.Test.YtkkhofoaolgapaaGreatDoorCoreMemOp
import Derived.Test.YtkkhofoaolgapaaGreatDoorClockBase
import Derived.Test.YtkkhofoaolgapaaGreatDoorCoreMach
import Derived.Test.YtkkhofoaolgapaaGreatDoorCoreStepO

/-! Lists of registers: package core. -/
set_option linter.unusedVariables false
namespace Go.Proofs.YtkkhofoaolgapaaGreatDoor.Core
open Go.RowKit Go.Proofs.YtkkhofoaolgapaaGreatDoor.Mem Go.Proofs.YtkkhofoaolgapaaGreatDoor.Alu

/-- Is a register one of Regs? -/
def listB (W : Wo) (r : Int) : Bool := bit (W.i.rg % 4294967296) r == 1

theorem lists_any {w : World} {B : Nat} {W : Wo} (h : Wk w B W) (r : Int) :
    Calls Tryz.prog 111 #[.pointer (some ⟨B, 0, none⟩), .int .i64 r] w fun e w' => e = .returned (.bool (listB W r)) ∧ ∃ m, w' = w.drewN m := by
  have crg := h.crg
  go_enter Tryz.func111, Tryz.ntmps111
  go_wp2_with (go_at_call 148; refine (Bit_any _ _ (by omega) (by omega) _).mono ?_; rintro e w' ⟨rfl, rfl⟩)
  go_ret
  exact ⟨rfl, 0, rfl⟩

def lddW (W : Wo) (r x : Int) : Wo := if r = 15 then backW W x else W.reg r.toNat x

theorem loaded_any {w : World} {B : Nat} {W : Wo} (h : Wk w B W) (r x : Int) (h0 : 0 ≤ r) (h1 : r < 16) :
    Calls Tryz.prog 112 #[.pointer (some ⟨B, 0, none⟩), .int .i64 r, .int .u32 x] w fun e w' => e = .returned (.tuple #[]) ∧ Wk w' B (lddW W r x) ∧ Off [B] w w' := by
  obtain ⟨k, hk⟩ := Int.eq_ofNat_of_zero_le h0
  subst hk
  have ck := h.reg k (by omega)
  have fk := h.free k
  by_cases h15 : (k : Int) = 15
  · have HQ : Hid (lddW W k x = backW W x) := by unfold Hid lddW; rw [if_pos h15]
    go_enter Tryz.func112, Tryz.ntmps112
    go_wp2_with fail
    refine (goBack_any h x).mono ?_
    rintro e w1 ⟨rfl, h1, o1⟩
    go_wp2_with fail
    refine bodyPost_ret (v := .tuple #[]) (by simp [results, Tryz.results112, go_sem]) rfl ⟨rfl, by rw [HQ.out]; exact h1, o1⟩
  · have HQ : Hid (lddW W k x = W.reg k x) := by unfold Hid lddW; rw [if_neg h15]; rfl
    go_enter Tryz.func112, Tryz.ntmps112
    go_wp2_with fail
    all_goals (try (go_region; go_wp2_with fail))
    go_end0
    exact ⟨rfl, by rw [HQ.out]; first | exact h.putR k (by omega) _ | exact (h.putR k (by omega) _).drew, by first | exact (Off.refl _ _).set (by simp) _ | exact ((Off.refl _ _).set (by simp) _).drew⟩
end Go.Proofs.YtkkhofoaolgapaaGreatDoor.Core

/-! Registers that are loaded: package core. -/
set_option linter.unusedVariables false
namespace Go.Proofs.YtkkhofoaolgapaaGreatDoor.Core
open Go.RowKit Go.Proofs.YtkkhofoaolgapaaGreatDoor.Mem Go.Proofs.YtkkhofoaolgapaaGreatDoor.Alu

/-- The registers from r on that are listed are loaded. -/
def popR (n : Nat) (f g : Nat → Int) : Nat → Nat → Wo → Wo × Int
  | 0, _, W => (W, 0)
  | k + 1, r, W => if listB W r then (if ldE n (W.s.R 13) = 0 then popR n f g k (r + 1) (lddW (W.reg 13 ((W.s.R 13 + 4) % 4294967296)) r (ldV n f g (W.s.R 13))) else (W, ldE n (W.s.R 13))) else popR n f g k (r + 1) W
def popS (W : Wo) : Wo := W.dat (W.s.R 13) (Clock.ones 16 W.i.rg.toNat)
def popW (n : Nat) (f g : Nat → Int) (W : Wo) : Wo := (popR n f g 16 0 (popS W)).1
def popE (n : Nat) (f g : Nat → Int) (W : Wo) : Int := (popR n f g 16 0 (popS W)).2
/-- Registers are words. -/
def Regs (s : St) : Prop := ∀ k, 0 ≤ s.R k ∧ s.R k < 4294967296
theorem Regs.put {s : St} (h : Regs s) (k : Nat) (x : Int) (hx : 0 ≤ x ∧ x < 4294967296) : Regs (s.reg k x) := fun i => by
  show 0 ≤ Mem.put s.R k x i ∧ Mem.put s.R k x i < 4294967296
  unfold Mem.put; split; exact hx; exact h i
theorem ldV_bd (n : Nat) (f g : Nat → Int) (hf : ∀ i, i < n → 0 ≤ f i ∧ f i < 256) (hg : ∀ i, 0 ≤ g i ∧ g i < 4294967296) (a : Int) : 0 ≤ ldV n f g a ∧ ldV n f g a < 4294967296 := by
  unfold ldV
  split
  · split
    · exact hg _
    · split
      · rename_i h
        have := fp_range a
        exact lsum_range f (fp a).toNat 4 (fun j hj => hf _ (by omega))
      · omega
  · omega
theorem Regs.ldd {W : Wo} (h : Regs W.s) (r x : Int) (hx : 0 ≤ x ∧ x < 4294967296) : Regs (lddW W r x).s := by
  unfold lddW
  split
  · unfold backW
    split
    · exact h
    · exact h.put 15 _ (bits_u32_bd _ _ _)
  · exact h.put _ _ hx
theorem ldd_i (W : Wo) (r x : Int) : (lddW W r x).i = W.i ∧ (lddW W r x).m = W.m := by
  unfold lddW backW
  repeat' split
  all_goals exact ⟨rfl, rfl⟩

set_option maxRecDepth 100000 in
set_option maxHeartbeats 4000000 in
theorem pop_any {w : World} {B F R n : Nat} {W : Wo} {f g : Nat → Int} (h : Wk w B W) (ok : Ok W) (hm : Is w W.m F R n f g) (hf : ∀ i, i < n → 0 ≤ f i ∧ f i < 256) (hn : n ≤ 65536) (hgb : ∀ i, 0 ≤ g i ∧ g i < 4294967296) :
    Calls Tryz.prog 80 #[.pointer (some ⟨B, 0, none⟩)] w fun e w' => e = .returned (.int .i64 (popE n f g W)) ∧ Wk w' B (popW n f g W) ∧ Off [B] w w' := by
  have hA := wkApart h hm
  have crg := h.crg
  have brg := ok.f.rg
  go_enter Tryz.func80, Tryz.ntmps80
  go_wp2_with fail
  refine (Clock.OnesCount32_any _ (by omega) (by omega) _).mono ?_
  rintro e w1 ⟨rfl, hb1⟩
  have h1 : Wk w1 B W := h.below hb1
  have o1 : Off [B] w w1 := Off.of_below hb1
  have c36 := h1.cwo
  have f36 := h1.free 36
  have c35 := h1.cda
  have f35 := h1.free 35
  have c13 := h1.c13
  have H2 := hide ((h1.putWo (Clock.ones 16 W.i.rg.toNat : Int)).putDa (W.s.R 13))
  have O2 := hide ((o1.set (p := ⟨B, 36, none⟩) (by simp) (.int .i64 (Clock.ones 16 W.i.rg.toNat : Int))).set (p := ⟨B, 35, none⟩) (by simp) (.int .u32 (W.s.R 13)))
  clear hb1
  go_wp2_with fail
  generalize (w1.setCell ⟨B, 36, none⟩ (.int .i64 (Clock.ones 16 W.i.rg.toNat : Int))).setCell ⟨B, 35, none⟩ (.int .u32 (W.s.R 13)) = w2 at *
  clear c36 f36 c35 f35 c13 h1 o1 crg
  go_loopw [25] (fun i wr => ∃ (k : Nat) (U : Wo), k ≤ 16 ∧ i = .int .i64 k ∧ Wk wr B U ∧ Off [B] w wr ∧ Hid (popR n f g (16 - k) k U = popR n f g 16 0 (popS W)) ∧ Regs U.s ∧ U.i = W.i ∧ U.m = W.m) (fun i _ => 16 - (intOf i).toNat)
  case atStart => exact ⟨0, popS W, by omega, rfl, H2.out, O2.out, rfl, ok.g.r, rfl, rfl⟩
  case round =>
    obtain ⟨k, U, hk, rfl, hU, oU, hP, hR, hI, hM⟩ := hrel
    have mU : Is wr U.m F R n f g := by rw [hM]; exact isOff hm oU (by simpa using hA.1) (by simpa using hA.2.1) (by simpa using hA.2.2)
    have b13 := hR 13
    replace hI := hide hI
    replace hM := hide hM
    by_cases hlt : k < 16
    · have hlt' : (k : Int) < 16 := by omega
      have eK : 16 - k = (16 - (k + 1)) + 1 := by omega
      cases hl : listB U k
      · have HP : Hid (popR n f g (16 - (k + 1)) (k + 1) U = popR n f g 16 0 (popS W)) := by have x := hP.out; rw [eK, popR, hl] at x; exact x
        clear hP eK
        go_wp2_with fail
        refine (lists_any hU _).mono ?_
        rintro e w3 ⟨rfl, hw3⟩
        rw [hl]
        have h3 : Wk w3 B U := by obtain ⟨m, rfl⟩ := hw3; exact hU
        have o3 : Off [B] w w3 := by obtain ⟨m, rfl⟩ := hw3; exact oU.drewN _
        clear hw3
        go_wp2_with fail
        go_roundw
        case rel => exact ⟨k + 1, U, by omega, by go_num, h3, o3, HP, hR, hI.out, hM.out⟩
        case measure => simp [intOf]; omega
      · by_cases he : ldE n (U.s.R 13) = 0
        · have bL := ldV_bd n f g hf hgb (U.s.R 13)
          have HP : Hid (popR n f g (16 - (k + 1)) (k + 1) (lddW (U.reg 13 ((U.s.R 13 + 4) % 4294967296)) k (ldV n f g (U.s.R 13))) = popR n f g 16 0 (popS W)) := by have x := hP.out; rw [eK, popR, hl] at x; simp only [if_true, he] at x; exact x
          clear hP eK
          go_wp2_with fail
          refine (lists_any hU _).mono ?_
          rintro e w3 ⟨rfl, hw3⟩
          rw [hl]
          have h3 : Wk w3 B U := by obtain ⟨m, rfl⟩ := hw3; exact hU
          have o3 : Off [B] w w3 := by obtain ⟨m, rfl⟩ := hw3; exact oU.drewN _
          have m3 : Is w3 U.m F R n f g := by obtain ⟨m, rfl⟩ := hw3; exact isDrewN mU _
          clear hw3
          have cm := h3.cm
          have c13 := h3.c13
          go_wp2_with fail
          go_quiet (first | (go_at_call 108; exact quiet0 (Load_any (isDrewN m3 _) hf hn _ b13.1 b13.2)))
          rw [he]
          generalize hw4 : World.drewN _ _ = w4
          have h4 : Wk w4 B U := by rw [← hw4]; exact h3
          have o4 : Off [B] w w4 := by rw [← hw4]; exact o3.drewN _
          clear hw4 cm c13
          have c13 := h4.c13
          have f13 := h4.free 13
          go_wp2_with fail
          go_region
          have H5 := hide (h4.putR 13 (by decide) ((U.s.R 13 + 4) % 4294967296)).drew
          have O5 := hide (o4.set (p := ⟨B, 13, none⟩) (by simp) (.int .u32 ((U.s.R 13 + 4) % 4294967296))).drew
          go_wp2_with fail
          refine (loaded_any H5.out k _ (by omega) (by omega)).mono ?_
          rintro e w6 ⟨rfl, h6, o6⟩
          go_wp2_with fail
          go_roundw
          case rel => exact ⟨k + 1, _, by omega, by go_num, h6, O5.out.trans o6, HP, (Regs.put hR 13 _ (by omega)).ldd _ _ bL, (ldd_i _ _ _).1.trans hI.out, (ldd_i _ _ _).2.trans hM.out⟩
          case measure => simp [intOf]; omega
        · have HP : Hid (popR n f g 16 0 (popS W) = (U, ldE n (U.s.R 13))) := by have x := hP.out; rw [eK, popR, hl] at x; simp only [if_true, he, if_false] at x; exact x.symm
          have he' : (ldE n (U.s.R 13) == 0) = false := by simpa using he
          clear hP eK he
          go_wp2_with fail
          refine (lists_any hU _).mono ?_
          rintro e w3 ⟨rfl, hw3⟩
          rw [hl]
          have h3 : Wk w3 B U := by obtain ⟨m, rfl⟩ := hw3; exact hU
          have o3 : Off [B] w w3 := by obtain ⟨m, rfl⟩ := hw3; exact oU.drewN _
          have m3 : Is w3 U.m F R n f g := by obtain ⟨m, rfl⟩ := hw3; exact isDrewN mU _
          clear hw3
          have cm := h3.cm
          have c13 := h3.c13
          go_wp2_with fail
          go_quiet (first | (go_at_call 108; exact quiet0 (Load_any (isDrewN m3 _) hf hn _ b13.1 b13.2)))
          go_wp2_with fail
          go_ret
          exact ⟨ret_int (by unfold popE; rw [HP.out]), by unfold popW; rw [HP.out]; exact h3.drewN _, o3.drewN _⟩
    · have e16 : k = 16 := by omega
      subst e16
      have HP : Hid (popR n f g 16 0 (popS W) = (U, 0)) := hP.out.symm
      go_wp2_with fail
      go_ret
      exact ⟨ret_int (by unfold popE; rw [HP.out]), by unfold popW; rw [HP.out]; exact hU, oU⟩
end Go.Proofs.YtkkhofoaolgapaaGreatDoor.Core

/-! Registers that are stored: package core. -/
set_option linter.unusedVariables false
namespace Go.Proofs.YtkkhofoaolgapaaGreatDoor.Core
open Go.RowKit Go.Proofs.YtkkhofoaolgapaaGreatDoor.Mem Go.Proofs.YtkkhofoaolgapaaGreatDoor.Alu

/-- The registers from r on that are listed are stored. -/
def pshR : Nat → Nat → Wo → Int → (Nat → Int) → (Nat → Int) × Int
  | 0, _, _, _, g => (g, 0)
  | k + 1, r, W, p, g => if listB W r then (if stE p = 0 then pshR k (r + 1) W ((p + 4) % 4294967296) (Mem.put g (rp p).toNat (W.s.R r)) else (g, stE p)) else pshR k (r + 1) W p g
def pshC (W : Wo) : Int := (Clock.ones 16 W.i.rg.toNat : Int)
def pshP (W : Wo) : Int := (W.s.R 13 - 4 * pshC W) % 4294967296
def pshS (W : Wo) : Wo := (W.reg 13 (pshP W)).dat (pshP W) (pshC W)
def pshG (g : Nat → Int) (W : Wo) : Nat → Int := (pshR 16 0 (pshS W) (pshP W) g).1
def pshE (g : Nat → Int) (W : Wo) : Int := (pshR 16 0 (pshS W) (pshP W) g).2

set_option maxRecDepth 100000 in
set_option maxHeartbeats 4000000 in
theorem push_any {w : World} {B F R n : Nat} {W : Wo} {f g : Nat → Int} (h : Wk w B W) (ok : Ok W) (hm : Is w W.m F R n f g) :
    Calls Tryz.prog 79 #[.pointer (some ⟨B, 0, none⟩)] w fun e w' => e = .returned (.int .i64 (pshE g W)) ∧ Wk w' B (pshS W) ∧ Is w' W.m F R n f (pshG g W) ∧ Off [B, R] w w' := by
  have hA := wkApart h hm
  have crg := h.crg
  have brg := ok.f.rg
  have b13 := ok.g.r 13
  have bC : 0 ≤ pshC W ∧ pshC W ≤ 16 := by have := Clock.ones_le 16 W.i.rg.toNat; unfold pshC; omega
  go_enter Tryz.func79, Tryz.ntmps79
  go_wp2_with fail
  refine (Clock.OnesCount32_any _ (by omega) (by omega) _).mono ?_
  rintro e w1 ⟨rfl, hb1⟩
  rw [show (Clock.ones 16 W.i.rg.toNat : Int) = pshC W from rfl]
  have h1 : Wk w1 B W := h.below hb1
  have o1 : Off [B] w w1 := Off.of_below hb1
  have c36 := h1.cwo
  have f36 := h1.free 36
  have H2 := hide (h1.putWo (pshC W))
  have O2 := hide (o1.set (p := ⟨B, 36, none⟩) (by simp) (.int .i64 (pshC W)))
  clear hb1
  go_wp2_with fail
  generalize w1.setCell ⟨B, 36, none⟩ (.int .i64 (pshC W)) = w2 at *
  clear c36 f36 h1 o1 crg
  have c13 := H2.out.c13
  have f13 := H2.out.free 13
  have c36 := H2.out.cwo
  dsimp only at c13 c36
  go_region
  have H3 := hide (H2.out.putR 13 (by decide) (pshP W)).drew
  have O3 := hide (O2.out.set (p := ⟨B, 13, none⟩) (by simp) (.int .u32 (pshP W))).drew
  have e3 : (W.s.R 13 - 4 * pshC W) % 4294967296 = pshP W := rfl
  have bp : 0 ≤ pshP W ∧ pshP W < 4294967296 := by unfold pshP; omega
  rw [e3]
  clear e3 c13 f13 c36
  generalize (w2.setCell ⟨B, 13, none⟩ (.int .u32 (pshP W))).drew = w4 at *
  have c13 : w4.cell? ⟨B, 13, none⟩ = some (.int .u32 (pshP W)) := H3.out.c13
  have c35 := H3.out.cda
  have f35 := H3.out.free 35
  have H5 := hide (H3.out.putDa (pshP W))
  have O5 := hide (O3.out.set (p := ⟨B, 35, none⟩) (by simp) (.int .u32 (pshP W)))
  go_wp2_with fail
  generalize w4.setCell ⟨B, 35, none⟩ (.int .u32 (pshP W)) = w5 at *
  clear c13 c35 f35
  have M5 : Is w5 W.m F R n f g := isOff hm O5.out (by simpa using hA.1) (by simpa using hA.2.1) (by simpa using hA.2.2)
  go_loopw [3, 46] (fun p i wr => ∃ (k : Nat) (q : Int) (G : Nat → Int), k ≤ 16 ∧ p = .int .u32 q ∧ (0 ≤ q ∧ q < 4294967296) ∧ i = .int .i64 k ∧ Wk wr B (pshS W) ∧ Off [B, R] w wr ∧ Is wr W.m F R n f G ∧ Hid (pshR (16 - k) k (pshS W) q G = pshR 16 0 (pshS W) (pshP W) g)) (fun _ i _ => 16 - (intOf i).toNat)
  case atStart => exact ⟨0, _, g, by omega, rfl, bp, rfl, H5.out, O5.out.mono (by simp), M5, rfl⟩
  case round =>
    obtain ⟨k, q, G, hk, rfl, bq, rfl, hU, oU, mU, hP⟩ := hrel
    by_cases hlt : k < 16
    · have hlt' : (k : Int) < 16 := by omega
      have eK : 16 - k = (16 - (k + 1)) + 1 := by omega
      cases hl : listB (pshS W) k
      · have HP : Hid (pshR (16 - (k + 1)) (k + 1) (pshS W) q G = pshR 16 0 (pshS W) (pshP W) g) := by have x := hP.out; rw [eK, pshR, hl] at x; exact x
        clear hP eK
        go_wp2_with fail
        refine (lists_any hU _).mono ?_
        rintro e w3 ⟨rfl, hw3⟩
        rw [hl]
        have h3 : Wk w3 B (pshS W) := by obtain ⟨m, rfl⟩ := hw3; exact hU
        have o3 : Off [B, R] w w3 := by obtain ⟨m, rfl⟩ := hw3; exact oU.drewN _
        have m3 : Is w3 W.m F R n f G := by obtain ⟨m, rfl⟩ := hw3; exact isDrewN mU _
        clear hw3
        go_wp2_with fail
        go_roundw
        case rel => exact ⟨k + 1, q, G, by omega, rfl, bq, by go_num, h3, o3, m3, HP⟩
        case measure => simp [intOf]; omega
      · by_cases he : stE q = 0
        · have HP : Hid (pshR (16 - (k + 1)) (k + 1) (pshS W) ((q + 4) % 4294967296) (Mem.put G (rp q).toNat ((pshS W).s.R k)) = pshR 16 0 (pshS W) (pshP W) g) := by have x := hP.out; rw [eK, pshR, hl] at x; simp only [if_true, he] at x; exact x
          clear hP eK
          go_wp2_with fail
          refine (lists_any hU _).mono ?_
          rintro e w3 ⟨rfl, hw3⟩
          rw [hl]
          have h3 : Wk w3 B (pshS W) := by obtain ⟨m, rfl⟩ := hw3; exact hU
          have o3 : Off [B, R] w w3 := by obtain ⟨m, rfl⟩ := hw3; exact oU.drewN _
          have m3 : Is w3 W.m F R n f G := by obtain ⟨m, rfl⟩ := hw3; exact isDrewN mU _
          clear hw3
          have cm := h3.cm
          have ck := h3.reg k hlt
          dsimp only [pshS, Wo.dat, Wo.reg] at cm
          go_wp2_with fail
          have S1 : w3.drew.cell? ⟨B, 20, none⟩ = some (.pointer (some ⟨W.m, 0, none⟩)) := cm
          have S2 : w3.drew.cell? ⟨B, k, none⟩ = some (.int .u32 ((pshS W).s.R k)) := ck
          clear cm ck
          refine wp_region_held_drew (S := fun w' => w'.cell? ⟨B, 20, none⟩ = some (.pointer (some ⟨W.m, 0, none⟩)) ∧ w'.cell? ⟨B, k, none⟩ = some (.int .u32 ((pshS W).s.R k))) (by kernel_rfl) ⟨S1, S2⟩ (fun hHeld => ?_)
          refine wpAnyH_take (i := 0) (v := ?_) rfl (by kernel_rfl) (by kernel_rfl) (by kernel_rfl) (fun _ _ _ h => h) (Or.inl ⟨by rfl, ?_⟩) (by assumption) ?_
          rotate_left
          · intro w hSw; (try dsimp only at hSw); go_simp; (try with_reducible rfl)
          (try simp only [Act.put, List.getElem_toArray, List.getElem_cons_zero, List.setIfInBounds_toArray, List.set_cons_zero, List.set_cons_succ])
          refine wpAnyH_take (i := 1) (v := ?_) rfl (by kernel_rfl) (by kernel_rfl) (by kernel_rfl) (fun _ _ _ h => h) (Or.inl ⟨by rfl, ?_⟩) (by assumption) ?_
          rotate_left
          · intro w hSw; (try dsimp only at hSw); go_simp; (try with_reducible rfl)
          (try simp only [Act.put, List.getElem_toArray, List.getElem_cons_zero, List.getElem_cons_succ, List.setIfInBounds_toArray, List.set_cons_zero, List.set_cons_succ])
          refine wpAnyH_take (i := 2) (v := ?_) rfl (by kernel_rfl) (by kernel_rfl) (by kernel_rfl) (fun _ _ _ h => h) (Or.inl ⟨by rfl, ?_⟩) (by assumption) ?_
          rotate_left
          · intro w hSw; (try dsimp only at hSw); go_simp; (try with_reducible rfl)
          (try simp only [Act.put, List.getElem_toArray, List.getElem_cons_zero, List.getElem_cons_succ, List.setIfInBounds_toArray, List.set_cons_zero, List.set_cons_succ])
          refine wpAnyH_take (i := 3) (v := ?_) rfl (by kernel_rfl) (by kernel_rfl) (by kernel_rfl) (fun _ _ _ h => h) (Or.inl ⟨by rfl, ?_⟩) (by assumption) ?_
          rotate_left
          · intro w hSw; (try dsimp only at hSw); go_simp; (try with_reducible rfl)
          (try simp only [Act.put, List.getElem_toArray, List.getElem_cons_zero, List.getElem_cons_succ, List.setIfInBounds_toArray, List.set_cons_zero, List.set_cons_succ])
          refine wpAnyH_take (i := 4) (v := ?_) rfl (by kernel_rfl) (by kernel_rfl) (by kernel_rfl) (fun _ _ _ h => h) (Or.inl ⟨by rfl, ?_⟩) (by assumption) ?_
          rotate_left
          · intro w hSw; (try dsimp only at hSw); go_simp; (try with_reducible rfl)
          (try simp only [Act.put, List.getElem_toArray, List.getElem_cons_zero, List.getElem_cons_succ, List.setIfInBounds_toArray, List.set_cons_zero, List.set_cons_succ])
          refine wpAnyH_take (i := 5) (v := ?_) rfl (by kernel_rfl) (by kernel_rfl) (by kernel_rfl) (fun _ _ _ h => h) (Or.inl ⟨by rfl, ?_⟩) (by assumption) ?_
          rotate_left
          · intro w hSw; (try dsimp only at hSw); go_simp; (try with_reducible rfl)
          (try simp only [Act.put, List.getElem_toArray, List.getElem_cons_zero, List.getElem_cons_succ, List.setIfInBounds_toArray, List.set_cons_zero, List.set_cons_succ])
          refine wpAnyH_take (i := 6) (v := ?_) rfl (by kernel_rfl) (by kernel_rfl) (by kernel_rfl) (fun _ _ _ h => h) (Or.inl ⟨by rfl, ?_⟩) (by assumption) ?_
          rotate_left
          · intro w hSw; (try dsimp only at hSw); go_simp; (try with_reducible rfl)
          (try simp only [Act.put, List.getElem_toArray, List.getElem_cons_zero, List.getElem_cons_succ, List.setIfInBounds_toArray, List.set_cons_zero, List.set_cons_succ])
          refine wpAnyH_take (i := 7) (v := ?_) rfl (by kernel_rfl) (by kernel_rfl) (by kernel_rfl) (fun _ _ _ h => h) (Or.inl ⟨by rfl, ?_⟩) (by assumption) ?_
          rotate_left
          · intro w hSw; (try dsimp only at hSw); go_simp; (try with_reducible rfl)
          (try simp only [Act.put, List.getElem_toArray, List.getElem_cons_zero, List.getElem_cons_succ, List.setIfInBounds_toArray, List.set_cons_zero, List.set_cons_succ])
          refine wpAnyH_take (i := 8) (v := ?_) rfl (by kernel_rfl) (by kernel_rfl) (by kernel_rfl) (fun _ _ _ h => h) (Or.inl ⟨by rfl, ?_⟩) (by assumption) ?_
          rotate_left
          · intro w hSw; (try dsimp only at hSw); go_simp; (try with_reducible rfl)
          (try simp only [Act.put, List.getElem_toArray, List.getElem_cons_zero, List.getElem_cons_succ, List.setIfInBounds_toArray, List.set_cons_zero, List.set_cons_succ])
          refine wpAnyH_take (i := 9) (v := ?_) rfl (by kernel_rfl) (by kernel_rfl) (by kernel_rfl) (fun _ _ _ h => h) (Or.inl ⟨by rfl, ?_⟩) (by assumption) ?_
          rotate_left
          · intro w hSw; (try dsimp only at hSw); go_simp; (try with_reducible rfl)
          (try simp only [Act.put, List.getElem_toArray, List.getElem_cons_zero, List.getElem_cons_succ, List.setIfInBounds_toArray, List.set_cons_zero, List.set_cons_succ])
          refine wpAnyH_take (i := 10) (v := ?_) rfl (by kernel_rfl) (by kernel_rfl) (by kernel_rfl) (fun _ _ _ h => h) (Or.inl ⟨by rfl, ?_⟩) (by assumption) ?_
          rotate_left
          · intro w hSw; (try dsimp only at hSw); go_simp; (try with_reducible rfl)
          (try simp only [Act.put, List.getElem_toArray, List.getElem_cons_zero, List.getElem_cons_succ, List.setIfInBounds_toArray, List.set_cons_zero, List.set_cons_succ])
          refine wpAnyH_take (i := 11) (v := ?_) rfl (by kernel_rfl) (by kernel_rfl) (by kernel_rfl) (fun _ _ _ h => h) (Or.inl ⟨by rfl, ?_⟩) (by assumption) ?_
          rotate_left
          · intro w hSw; (try dsimp only at hSw); go_simp; (try with_reducible rfl)
          (try simp only [Act.put, List.getElem_toArray, List.getElem_cons_zero, List.getElem_cons_succ, List.setIfInBounds_toArray, List.set_cons_zero, List.set_cons_succ])
          refine wpAnyH_ready (rs := [12]) (by kernel_rfl) (by simp) ?_
          refine AllReadyH.cons rfl (fun K hK => ?_) AllReadyH.nil
          go_simp
          with_reducible refine (StoreG m3.drew q ((pshS W).s.R k) bq.1 bq.2).mono ?_
          rintro e w4 ⟨rfl, m4, o4⟩
          have h4 : Wk w4 B (pshS W) := Wk.off (show Wk w3.drew B _ from h3) o4 (by simpa using fun e => hA.2.2 e.symm)
          have cm4 := h4.cm
          dsimp only [pshS, Wo.dat, Wo.reg] at cm4
          refine hK.out _ _ ⟨cm4, h4.reg k hlt⟩ (fun hHeld4 => ?_)
          clear hK K
          (try simp only [Act.put, List.getElem_toArray, List.getElem_cons_zero, List.getElem_cons_succ, List.setIfInBounds_toArray, List.set_cons_zero, List.set_cons_succ])
          refine wpAnyH_take (i := 13) (v := ?_) rfl (by kernel_rfl) (by kernel_rfl) (by kernel_rfl) (fun _ _ _ h => h) (Or.inl ⟨by rfl, ?_⟩) (by assumption) ?_
          rotate_left
          · intro w hSw; (try dsimp only at hSw); go_simp; (try with_reducible rfl)
          (try simp only [Act.put, List.getElem_toArray, List.getElem_cons_zero, List.getElem_cons_succ, List.setIfInBounds_toArray, List.set_cons_zero, List.set_cons_succ])
          refine wpAnyH_done (by kernel_rfl) ?_ _
          clear S1 S2 hHeld hHeld4 cm4
          have O4 : Off [B, R] w w4 := o3.drew.trans (o4.mono (by simp))
          rw [if_pos he] at m4
          rw [he]
          go_wp2_with fail
          go_roundw
          case rel => exact ⟨k + 1, _, _, by omega, rfl, by omega, by go_num, h4, O4, m4, HP⟩
          case measure => simp [intOf]; omega
        · have HP : Hid (pshR 16 0 (pshS W) (pshP W) g = (G, stE q)) := by have x := hP.out; rw [eK, pshR, hl] at x; simp only [if_true, he, if_false] at x; exact x.symm
          have he' : (stE q == 0) = false := by simpa using he
          have HE := hide he
          clear hP eK he
          go_wp2_with fail
          refine (lists_any hU _).mono ?_
          rintro e w3 ⟨rfl, hw3⟩
          rw [hl]
          have h3 : Wk w3 B (pshS W) := by obtain ⟨m, rfl⟩ := hw3; exact hU
          have o3 : Off [B, R] w w3 := by obtain ⟨m, rfl⟩ := hw3; exact oU.drewN _
          have m3 : Is w3 W.m F R n f G := by obtain ⟨m, rfl⟩ := hw3; exact isDrewN mU _
          clear hw3
          have cm := h3.cm
          have ck := h3.reg k hlt
          dsimp only [pshS, Wo.dat, Wo.reg] at cm
          go_wp2_with fail
          have S1 : w3.drew.cell? ⟨B, 20, none⟩ = some (.pointer (some ⟨W.m, 0, none⟩)) := cm
          have S2 : w3.drew.cell? ⟨B, k, none⟩ = some (.int .u32 ((pshS W).s.R k)) := ck
          clear cm ck
          refine wp_region_held_drew (S := fun w' => w'.cell? ⟨B, 20, none⟩ = some (.pointer (some ⟨W.m, 0, none⟩)) ∧ w'.cell? ⟨B, k, none⟩ = some (.int .u32 ((pshS W).s.R k))) (by kernel_rfl) ⟨S1, S2⟩ (fun hHeld => ?_)
          refine wpAnyH_take (i := 0) (v := ?_) rfl (by kernel_rfl) (by kernel_rfl) (by kernel_rfl) (fun _ _ _ h => h) (Or.inl ⟨by rfl, ?_⟩) (by assumption) ?_
          rotate_left
          · intro w hSw; (try dsimp only at hSw); go_simp; (try with_reducible rfl)
          (try simp only [Act.put, List.getElem_toArray, List.getElem_cons_zero, List.setIfInBounds_toArray, List.set_cons_zero, List.set_cons_succ])
          refine wpAnyH_take (i := 1) (v := ?_) rfl (by kernel_rfl) (by kernel_rfl) (by kernel_rfl) (fun _ _ _ h => h) (Or.inl ⟨by rfl, ?_⟩) (by assumption) ?_
          rotate_left
          · intro w hSw; (try dsimp only at hSw); go_simp; (try with_reducible rfl)
          (try simp only [Act.put, List.getElem_toArray, List.getElem_cons_zero, List.getElem_cons_succ, List.setIfInBounds_toArray, List.set_cons_zero, List.set_cons_succ])
          refine wpAnyH_take (i := 2) (v := ?_) rfl (by kernel_rfl) (by kernel_rfl) (by kernel_rfl) (fun _ _ _ h => h) (Or.inl ⟨by rfl, ?_⟩) (by assumption) ?_
          rotate_left
          · intro w hSw; (try dsimp only at hSw); go_simp; (try with_reducible rfl)
          (try simp only [Act.put, List.getElem_toArray, List.getElem_cons_zero, List.getElem_cons_succ, List.setIfInBounds_toArray, List.set_cons_zero, List.set_cons_succ])
          refine wpAnyH_take (i := 3) (v := ?_) rfl (by kernel_rfl) (by kernel_rfl) (by kernel_rfl) (fun _ _ _ h => h) (Or.inl ⟨by rfl, ?_⟩) (by assumption) ?_
          rotate_left
          · intro w hSw; (try dsimp only at hSw); go_simp; (try with_reducible rfl)
          (try simp only [Act.put, List.getElem_toArray, List.getElem_cons_zero, List.getElem_cons_succ, List.setIfInBounds_toArray, List.set_cons_zero, List.set_cons_succ])
          refine wpAnyH_take (i := 4) (v := ?_) rfl (by kernel_rfl) (by kernel_rfl) (by kernel_rfl) (fun _ _ _ h => h) (Or.inl ⟨by rfl, ?_⟩) (by assumption) ?_
          rotate_left
          · intro w hSw; (try dsimp only at hSw); go_simp; (try with_reducible rfl)
          (try simp only [Act.put, List.getElem_toArray, List.getElem_cons_zero, List.getElem_cons_succ, List.setIfInBounds_toArray, List.set_cons_zero, List.set_cons_succ])
          refine wpAnyH_take (i := 5) (v := ?_) rfl (by kernel_rfl) (by kernel_rfl) (by kernel_rfl) (fun _ _ _ h => h) (Or.inl ⟨by rfl, ?_⟩) (by assumption) ?_
          rotate_left
          · intro w hSw; (try dsimp only at hSw); go_simp; (try with_reducible rfl)
          (try simp only [Act.put, List.getElem_toArray, List.getElem_cons_zero, List.getElem_cons_succ, List.setIfInBounds_toArray, List.set_cons_zero, List.set_cons_succ])
          refine wpAnyH_take (i := 6) (v := ?_) rfl (by kernel_rfl) (by kernel_rfl) (by kernel_rfl) (fun _ _ _ h => h) (Or.inl ⟨by rfl, ?_⟩) (by assumption) ?_
          rotate_left
          · intro w hSw; (try dsimp only at hSw); go_simp; (try with_reducible rfl)
          (try simp only [Act.put, List.getElem_toArray, List.getElem_cons_zero, List.getElem_cons_succ, List.setIfInBounds_toArray, List.set_cons_zero, List.set_cons_succ])
          refine wpAnyH_take (i := 7) (v := ?_) rfl (by kernel_rfl) (by kernel_rfl) (by kernel_rfl) (fun _ _ _ h => h) (Or.inl ⟨by rfl, ?_⟩) (by assumption) ?_
          rotate_left
          · intro w hSw; (try dsimp only at hSw); go_simp; (try with_reducible rfl)
          (try simp only [Act.put, List.getElem_toArray, List.getElem_cons_zero, List.getElem_cons_succ, List.setIfInBounds_toArray, List.set_cons_zero, List.set_cons_succ])
          refine wpAnyH_take (i := 8) (v := ?_) rfl (by kernel_rfl) (by kernel_rfl) (by kernel_rfl) (fun _ _ _ h => h) (Or.inl ⟨by rfl, ?_⟩) (by assumption) ?_
          rotate_left
          · intro w hSw; (try dsimp only at hSw); go_simp; (try with_reducible rfl)
          (try simp only [Act.put, List.getElem_toArray, List.getElem_cons_zero, List.getElem_cons_succ, List.setIfInBounds_toArray, List.set_cons_zero, List.set_cons_succ])
          refine wpAnyH_take (i := 9) (v := ?_) rfl (by kernel_rfl) (by kernel_rfl) (by kernel_rfl) (fun _ _ _ h => h) (Or.inl ⟨by rfl, ?_⟩) (by assumption) ?_
          rotate_left
          · intro w hSw; (try dsimp only at hSw); go_simp; (try with_reducible rfl)
          (try simp only [Act.put, List.getElem_toArray, List.getElem_cons_zero, List.getElem_cons_succ, List.setIfInBounds_toArray, List.set_cons_zero, List.set_cons_succ])
          refine wpAnyH_take (i := 10) (v := ?_) rfl (by kernel_rfl) (by kernel_rfl) (by kernel_rfl) (fun _ _ _ h => h) (Or.inl ⟨by rfl, ?_⟩) (by assumption) ?_
          rotate_left
          · intro w hSw; (try dsimp only at hSw); go_simp; (try with_reducible rfl)
          (try simp only [Act.put, List.getElem_toArray, List.getElem_cons_zero, List.getElem_cons_succ, List.setIfInBounds_toArray, List.set_cons_zero, List.set_cons_succ])
          refine wpAnyH_take (i := 11) (v := ?_) rfl (by kernel_rfl) (by kernel_rfl) (by kernel_rfl) (fun _ _ _ h => h) (Or.inl ⟨by rfl, ?_⟩) (by assumption) ?_
          rotate_left
          · intro w hSw; (try dsimp only at hSw); go_simp; (try with_reducible rfl)
          (try simp only [Act.put, List.getElem_toArray, List.getElem_cons_zero, List.getElem_cons_succ, List.setIfInBounds_toArray, List.set_cons_zero, List.set_cons_succ])
          refine wpAnyH_ready (rs := [12]) (by kernel_rfl) (by simp) ?_
          refine AllReadyH.cons rfl (fun K hK => ?_) AllReadyH.nil
          go_simp
          with_reducible refine (StoreG m3.drew q ((pshS W).s.R k) bq.1 bq.2).mono ?_
          rintro e w4 ⟨rfl, m4, o4⟩
          have h4 : Wk w4 B (pshS W) := Wk.off (show Wk w3.drew B _ from h3) o4 (by simpa using fun e => hA.2.2 e.symm)
          have cm4 := h4.cm
          dsimp only [pshS, Wo.dat, Wo.reg] at cm4
          refine hK.out _ _ ⟨cm4, h4.reg k hlt⟩ (fun hHeld4 => ?_)
          clear hK K
          (try simp only [Act.put, List.getElem_toArray, List.getElem_cons_zero, List.getElem_cons_succ, List.setIfInBounds_toArray, List.set_cons_zero, List.set_cons_succ])
          refine wpAnyH_take (i := 13) (v := ?_) rfl (by kernel_rfl) (by kernel_rfl) (by kernel_rfl) (fun _ _ _ h => h) (Or.inl ⟨by rfl, ?_⟩) (by assumption) ?_
          rotate_left
          · intro w hSw; (try dsimp only at hSw); go_simp; (try with_reducible rfl)
          (try simp only [Act.put, List.getElem_toArray, List.getElem_cons_zero, List.getElem_cons_succ, List.setIfInBounds_toArray, List.set_cons_zero, List.set_cons_succ])
          refine wpAnyH_done (by kernel_rfl) ?_ _
          clear S1 S2 hHeld hHeld4 cm4
          have O4 : Off [B, R] w w4 := o3.drew.trans (o4.mono (by simp))
          rw [if_neg (unhide HE)] at m4
          go_wp2_with fail
          go_ret
          exact ⟨ret_int (by unfold pshE; rw [HP.out]), h4, by unfold pshG; rw [HP.out]; exact m4, O4⟩
    · have e16 : k = 16 := by omega
      subst e16
      have HP : Hid (pshR 16 0 (pshS W) (pshP W) g = (G, 0)) := hP.out.symm
      go_wp2_with fail
      go_ret
      exact ⟨ret_int (by unfold pshE; rw [HP.out]), hU, by unfold pshG; rw [HP.out]; exact mU, oU⟩
end Go.Proofs.YtkkhofoaolgapaaGreatDoor.Core

/-! What any instruction does: package core. -/
set_option linter.unusedVariables false
namespace Go.Proofs.YtkkhofoaolgapaaGreatDoor.Core
open Go.RowKit Go.Proofs.YtkkhofoaolgapaaGreatDoor.Mem Go.Proofs.YtkkhofoaolgapaaGreatDoor.Alu

def isLd (f : Int) : Bool := f == 32 || f == 34 || f == 36 || f == 38 || f == 85 || f == 87
def isSt (f : Int) : Bool := f == 33 || f == 35 || f == 37 || f == 84 || f == 86
/-- What is told, what the step's box is, and what RAM is behind an instruction. -/
def exeE (n : Nat) (f g : Nat → Int) (W : Wo) : Int :=
  if isLd W.i.f then ldE n (adrV W) else if isSt W.i.f then storE W else if W.i.f = 42 then pshE g W else if W.i.f = 43 then popE n f g W else 0
def exeW (n : Nat) (f g : Nat → Int) (W : Wo) : Wo :=
  if isLd W.i.f then loadW n f g W else if isSt W.i.f then W.dat (adrV W) 1 else if W.i.f = 42 then pshS W else if W.i.f = 43 then popW n f g W else compW W
def exeG (g : Nat → Int) (W : Wo) : Nat → Int := if isSt W.i.f then storG g W else if W.i.f = 42 then pshG g W else g

theorem isCast {w : World} {M F R n : Nat} {f g g' : Nat → Int} (h : Is w M F R n f g) (e : g' = g) : Is w M F R n f g' := e ▸ h

set_option maxRecDepth 100000 in
set_option maxHeartbeats 4000000 in
theorem execute_any {w : World} {B F R n : Nat} {W : Wo} {f g : Nat → Int} (h : Wk w B W) (hL : Inst.Laid w) (hB : NoTab B) (ok : Ok W) (hne : W.i.f = 95 ∨ W.i.f = 96 → W.i.rd ≠ W.i.ra) (hm : Is w W.m F R n f g) (hf : ∀ i, i < n → 0 ≤ f i ∧ f i < 256) (hn : n ≤ 65536) (hgb : ∀ i, 0 ≤ g i ∧ g i < 4294967296) :
    Calls Tryz.prog 51 #[.pointer (some ⟨B, 0, none⟩)] w fun e w' => e = .returned (.int .i64 (exeE n f g W)) ∧ Wk w' B (exeW n f g W) ∧ Is w' W.m F R n f (exeG g W) ∧ Off [B, R] w w' := by
  have cf := h.cf
  have HN := hide hne
  have hA := hide (wkApart h hm)
  have HB : Hid (∀ w', Off [B] w w' → Is w' W.m F R n f g) := fun w' o => isOff hm o (by simpa using hA.out.1) (by simpa using hA.out.2.1) (by simpa using hA.out.2.2)
  clear hne
  go_enter Tryz.func51, Tryz.ntmps51
  go_wp2_with (first
    | (go_at_call 77; refine (load_any h ok hm hf hn).mono ?_; rintro e w1 ⟨rfl, h1, o1⟩; have m1 := HB.out _ o1; replace o1 : Off [B, R] w w1 := o1.mono (by simp))
    | (go_at_call 78; refine (store_any h ok hm).mono ?_; rintro e w1 ⟨rfl, h1, m1, o1⟩)
    | (go_at_call 79; refine (push_any h ok hm).mono ?_; rintro e w1 ⟨rfl, h1, m1, o1⟩)
    | (go_at_call 80; refine (pop_any h ok hm hf hn hgb).mono ?_; rintro e w1 ⟨rfl, h1, o1⟩; have m1 := HB.out _ o1; replace o1 : Off [B, R] w w1 := o1.mono (by simp))
    | (go_at_call 81; refine (compute_any h hL hB ok (unhide HN)).mono ?_; rintro e w1 ⟨rfl, h1, o1⟩; have m1 := HB.out _ o1; replace o1 : Off [B, R] w w1 := o1.mono (by simp)))
  all_goals
    go_ret
    exact ⟨ret_int (by unfold exeE; go_light; simp_all [isLd, isSt]), h1.cast (by unfold exeW; go_light; simp_all [isLd, isSt]), isCast m1 (by unfold exeG; go_light; simp_all [isSt]), o1⟩
end Go.Proofs.YtkkhofoaolgapaaGreatDoor.Core

/-! A step: package core. -/
set_option linter.unusedVariables false
namespace Go.Proofs.YtkkhofoaolgapaaGreatDoor.Core
open Go.RowKit Go.Proofs.YtkkhofoaolgapaaGreatDoor.Mem Go.Proofs.YtkkhofoaolgapaaGreatDoor.Alu

def zE : Array Value := #[.int .u32 0, .int .u32 0, .int .i64 0, .int .i64 0, .int .i64 0]

set_option maxRecDepth 100000 in
set_option maxHeartbeats 4000000 in
theorem step_fault {w : World} {C F R n : Nat} {M : Mc} {f g : Nat → Int} (h : Mx w C M) (hm : Is w M.m F R n f g) (hf : ∀ i, i < n → 0 ≤ f i ∧ f i < 256) (hn : n ≤ 65536) (hg : Good M.s) (hL : Code.Laid w)
    (hA : ∀ j e, AtI n f (M.s.R 15) j e → e ≠ 0) :
    Calls Tryz.prog 32 #[.pointer (some ⟨C, 0, none⟩)] w fun e w' => ∃ en, (∃ j, AtI n f (M.s.R 15) j en) ∧ e = .returned (.tuple #[.agg #[.int .u32 0, .int .u32 0, .int .i64 0, .int .i64 0, .int .i64 0], .int .i64 en]) ∧ Below w.heap.size w w' := by
  have c0 : w.cell? ⟨C, 0, none⟩ = some (.pointer (some ⟨M.m, 0, none⟩)) := h.cell rfl
  have c17 : w.cell? ⟨C, 17, none⟩ = some (.int .u32 (M.s.R 15)) := h.cell rfl
  have hl := h.lt
  have b15 := hg.r 15
  have hB := (Below.refl w.heap.size w).alloc (Nat.le_refl _) (.cells #[.int .u32 0, .int .u32 0, .int .i64 0, .int .i64 0, .int .i64 0] 41)
  go_enter Tryz.func32, Tryz.ntmps32
  go_wp2_with fail
  refine (instAt_any (hm.below hB) hf hn _ b15.1 b15.2 (hL.below hB)).mono ?_
  rintro e w1 ⟨hb1, j, en, hj, rfl⟩
  have hne := hA j en hj
  obtain ⟨hc, hfz⟩ := Inst.bcell hb1
  have hz : w.heap.size < w1.heap.size := by have := hb1.size; simp at this; omega
  have hb2 : Below w.heap.size w w1 := hB.trans (hb1.mono hB.size)
  have hne' : (en == 0) = false := by simpa using hne
  clear hne
  dsimp only [inv]
  go_wp2_with fail
  refine bodyPost_ret (v := .tuple #[.agg #[.int .u32 0, .int .u32 0, .int .i64 0, .int .i64 0, .int .i64 0], .int .i64 en]) (by simp [results, Tryz.results32, go_sem, hc, hz]) rfl ⟨en, ⟨j, hj⟩, rfl, ?_⟩
  have hs1 : w.heap.size ≤ w1.heap.size := Nat.le_of_lt hz
  repeat (first | exact hb2 | refine Below.setCell ?_ (by first | exact Nat.le_refl _ | exact hs1) _ | refine Below.alloc ?_ (by first | exact hs1 | (simp; omega)) _)
end Go.Proofs.YtkkhofoaolgapaaGreatDoor.Core

/-! What any instruction leaves is a state again: registers are words, flags are 0 or 1. No function of the program is walked here. -/
set_option linter.unusedVariables false
namespace Go.Proofs.YtkkhofoaolgapaaGreatDoor.Core
open Go.RowKit Go.Proofs.YtkkhofoaolgapaaGreatDoor.Mem Go.Proofs.YtkkhofoaolgapaaGreatDoor.Alu

theorem Good.reg {s : St} (h : Good s) (k : Nat) (x : Int) (hx : 0 ≤ x ∧ x < 4294967296) : Good (s.reg k x) := ⟨Regs.put h.r k x hx, h.n, h.z, h.c, h.v⟩
theorem Good.wreg {W : Wo} (h : Good W.s) (k : Nat) (x : Int) (hx : 0 ≤ x ∧ x < 4294967296) : Good (W.reg k x).s := Good.reg h k x hx
theorem putV_bd (rd : Int) {x : Int} (hx : 0 ≤ x ∧ x < 4294967296) : 0 ≤ putV rd x ∧ putV rd x < 4294967296 := by
  unfold putV; split
  · exact bits_u32_bd _ _ _
  · exact hx
theorem Good.put {W : Wo} (h : Good W.s) {x : Int} (hx : 0 ≤ x ∧ x < 4294967296) : Good (W.put x).s := Good.reg h _ _ (putV_bd _ hx)
theorem Good.sgn {W : Wo} (h : Good W.s) (x : Int) : Good (W.sgn x).s := ⟨h.r, show 0 ≤ bit x 31 ∧ bit x 31 ≤ 1 from bit_bd _ _, by have := b01_bd x; show 0 ≤ 1 - b01 x ∧ 1 - b01 x ≤ 1; omega, h.c, h.v⟩
theorem Good.setC {W : Wo} (h : Good W.s) {c : Int} (hc : 0 ≤ c ∧ c ≤ 1) : Good (W.setC c).s := ⟨h.r, h.n, h.z, hc, h.v⟩
theorem Good.setV {W : Wo} (h : Good W.s) {v : Int} (hv : 0 ≤ v ∧ v ≤ 1) : Good (W.setV v).s := ⟨h.r, h.n, h.z, h.c, hv⟩
theorem Good.fin {W : Wo} (h : Good W.s) {x : Int} (hx : 0 ≤ x ∧ x < 4294967296) {F : Wo → Wo} (hF : ∀ U : Wo, Good U.s → Good (F U).s) : Good (W.fin x F).s := by
  unfold Wo.fin
  have h1 : Good (if keepB W then W.put x else W).s := by split; exact h.put hx; exact h
  dsimp only
  split
  · exact hF _ (h1.sgn x)
  · exact h1
theorem cyA_bd (n : Int) {c : Int} : 0 ≤ Imm.cyA n c ∧ Imm.cyA n c ≤ 1 := by
  unfold Imm.cyA
  split
  · split
    · have := Imm.wdA_bd n
      unfold Imm.wdA at this
      rw [if_pos (by assumption)] at this
      omega
    · exact b01_bd _
  · omega
theorem sndC_bd {W : Wo} (ok : Ok W) : 0 ≤ sndC W ∧ sndC W ≤ 1 := by
  unfold sndC
  split
  · exact shC_bd _ _ _ (ok.g.r _).1 (ok.g.r _).2 _
  · split
    · exact cyA_bd _
    · exact ok.g.c
theorem lngP_bd {W : Wo} (ok : Ok W) : 0 ≤ lngP W ∧ lngP W < 18446744073709551616 := by
  have h1 := fstV_bd ok
  have h2 := ok.g.r W.i.rm.toNat
  unfold lngP
  split
  · generalize fstV W * W.s.R W.i.rm.toNat / 4294967296 * 4294967296 + fstV W * W.s.R W.i.rm.toNat % 4294967296 + (W.s.R W.i.ra.toNat * 4294967296 + W.s.R W.i.rd.toNat) = y
    have e : IntKind.u64.wrap y = y % 18446744073709551616 := by simp [IntKind.wrap, IntKind.bits, IntKind.signed]
    rw [e]; omega
  · generalize fstV W = x at *
    generalize W.s.R W.i.rm.toNat = y at *
    have h3 : 0 ≤ x * y := Int.mul_nonneg h1.1 h2.1
    have h4 : x * y ≤ 4294967295 * 4294967295 := Int.mul_le_mul (by omega) (by omega) h2.1 (by omega)
    generalize x * y = p at *
    omega

/-- What is asked of a step's box behind an instruction. -/
structure Fine (W0 W : Wo) : Prop where
  g : Good W.s
  i : W.i = W0.i
  m : W.m = W0.m
  k : (W.hk = W0.hk ∧ W.hc = W0.hc) ∨ (W.hk = 1 ∧ W.hc = 0) ∨ (W.hk = 2 ∧ W.hc = W0.i.im)

theorem Wo.put_i (W : Wo) (x : Int) : (W.put x).i = W.i ∧ (W.put x).m = W.m ∧ (W.put x).hk = W.hk ∧ (W.put x).hc = W.hc := ⟨rfl, rfl, rfl, rfl⟩
theorem Wo.fin_i (W : Wo) (x : Int) (F : Wo → Wo) (hF : ∀ U : Wo, (F U).i = U.i ∧ (F U).m = U.m ∧ (F U).hk = U.hk ∧ (F U).hc = U.hc) : (W.fin x F).i = W.i ∧ (W.fin x F).m = W.m ∧ (W.fin x F).hk = W.hk ∧ (W.fin x F).hc = W.hc := by
  have h1 : (if keepB W then W.put x else W).i = W.i ∧ (if keepB W then W.put x else W).m = W.m ∧ (if keepB W then W.put x else W).hk = W.hk ∧ (if keepB W then W.put x else W).hc = W.hc := by split <;> exact ⟨rfl, rfl, rfl, rfl⟩
  unfold Wo.fin
  dsimp only
  split
  · obtain ⟨a, b, c, d⟩ := hF ((if keepB W then W.put x else W).sgn x)
    exact ⟨a.trans h1.1, b.trans h1.2.1, c.trans h1.2.2.1, d.trans h1.2.2.2⟩
  · exact h1
theorem Fine.of {W0 W : Wo} (g : Good W.s) (h : W.i = W0.i ∧ W.m = W0.m ∧ W.hk = W0.hk ∧ W.hc = W0.hc) : Fine W0 W := ⟨g, h.1, h.2.1, .inl h.2.2⟩

theorem back_fine {W : Wo} (h : Good W.s) (a : Int) : Fine W (backW W a) := by
  unfold backW
  split
  · exact ⟨h, rfl, rfl, .inr (.inl ⟨rfl, rfl⟩)⟩
  · exact .of (h.wreg 15 _ (bits_u32_bd _ _ _)) ⟨rfl, rfl, rfl, rfl⟩
theorem shift_fine {W : Wo} (ok : Ok W) : Fine W (shiftW W) := by
  have hX := shX_bd ok
  have hY : 0 ≤ shY W ∧ shY W < 4294967296 := shW_bd _ _ hX.1 hX.2 _
  have hK : 0 ≤ shK W ∧ shK W ≤ 1 := shC_bd _ _ _ hX.1 hX.2 _
  unfold shiftW
  split
  · exact .of (((ok.g.put hY).sgn _).setC hK) ⟨rfl, rfl, rfl, rfl⟩
  · exact .of (ok.g.put hY) ⟨rfl, rfl, rfl, rfl⟩
theorem comb_fine {W : Wo} (ok : Ok W) : Fine W (combW W) :=
  .of (ok.g.fin (cmbV_bd _ (sndY_bd ok)) (fun _ hU => hU.setC (sndC_bd ok))) (Wo.fin_i _ _ _ (fun _ => ⟨rfl, rfl, rfl, rfl⟩))
theorem sum_fine {W : Wo} (ok : Ok W) : Fine W (sumW W) := by
  have hX := adX_bd W.i.f (fstV_bd ok) (sndY_bd ok)
  have hY := adY_bd W.i.f (fstV_bd ok) (sndY_bd ok)
  have hC : 0 ≤ adC W.i.f W.s.c ∧ adC W.i.f W.s.c ≤ 1 := by have := ok.g.c; unfold adC; repeat' split
                                                            all_goals omega
  have h2 : 0 ≤ sumC W ∧ sumC W ≤ 1 := addC_bd _ _ _ hX.1 hX.2 hY.1 hY.2
  exact .of (ok.g.fin (addS_bd _ _ _) (fun _ hU => (hU.setC h2).setV (addV_bd _ _ _))) (Wo.fin_i _ _ _ (fun _ => ⟨rfl, rfl, rfl, rfl⟩))
theorem mult_fine {W : Wo} (ok : Ok W) : Fine W (multW W) := by
  have hP : 0 ≤ mulP W ∧ mulP W < 4294967296 := by unfold mulP; omega
  unfold multW
  split
  · exact .of ((ok.g.sgn _).put hP) ⟨rfl, rfl, rfl, rfl⟩
  · split
    · exact .of (ok.g.put (by omega)) ⟨rfl, rfl, rfl, rfl⟩
    · split
      · exact .of (ok.g.put (by omega)) ⟨rfl, rfl, rfl, rfl⟩
      · exact .of (ok.g.put hP) ⟨rfl, rfl, rfl, rfl⟩
theorem long_fine {W : Wo} (ok : Ok W) : Fine W (longW W) := by
  have hP := lngP_bd ok
  exact .of ((ok.g.wreg _ _ (by omega)).wreg _ _ (by omega)) ⟨rfl, rfl, rfl, rfl⟩
theorem quo_bd {W : Wo} (ok : Ok W) : 0 ≤ quoV W ∧ quoV W < 4294967296 := by
  have h1 := fstV_bd ok
  have h2 := ok.g.r W.i.rm.toNat
  unfold quoV
  split
  · omega
  · exact ⟨Int.ediv_nonneg h1.1 h2.1, Int.lt_of_le_of_lt (Int.ediv_le_self _ h1.1) h1.2⟩
theorem clz_bd {W : Wo} (ok : Ok W) : 0 ≤ clzV W ∧ clzV W < 4294967296 := by
  have h2 := ok.g.r W.i.rm.toNat
  have h3 := bitLen_bd _ h2.1 h2.2
  unfold clzV; omega
theorem half_bd (W : Wo) : 0 ≤ halfV W ∧ halfV W < 4294967296 := by
  unfold halfV; split
  · exact bits_u32_bd _ _ _
  · omega
theorem stk_fine {W : Wo} (ok : Ok W) : Fine W (stkW W) := by
  unfold stkW
  repeat' split
  · exact .of (ok.g.wreg _ _ (by omega)) ⟨rfl, rfl, rfl, rfl⟩
  · exact .of (ok.g.wreg _ _ (by omega)) ⟨rfl, rfl, rfl, rfl⟩
  · exact .of (ok.g.wreg _ _ (by omega)) ⟨rfl, rfl, rfl, rfl⟩
  · exact .of ok.g ⟨rfl, rfl, rfl, rfl⟩
theorem jmp_fine {W : Wo} (ok : Ok W) : Fine W (jmpW W) := by
  unfold jmpW
  split
  · exact .of ok.g ⟨rfl, rfl, rfl, rfl⟩
  · exact .of (ok.g.wreg _ _ (by omega)) ⟨rfl, rfl, rfl, rfl⟩
theorem comp_fine {W : Wo} (ok : Ok W) : Fine W (compW W) := by
  unfold compW
  by_cases c1 : isShift W.i.f = true
  · rw [if_pos c1]; exact shift_fine ok
  rw [if_neg c1]
  by_cases c2 : isComb W.i.f = true
  · rw [if_pos c2]; exact comb_fine ok
  rw [if_neg c2]
  by_cases c3 : isSum W.i.f = true
  · rw [if_pos c3]; exact sum_fine ok
  rw [if_neg c3]
  split
  · exact mult_fine ok
  split
  · exact long_fine ok
  split
  · exact .of (ok.g.put (quo_bd ok)) ⟨rfl, rfl, rfl, rfl⟩
  split
  · exact .of (ok.g.put (clz_bd ok)) ⟨rfl, rfl, rfl, rfl⟩
  split
  · exact .of (ok.g.put (half_bd W)) ⟨rfl, rfl, rfl, rfl⟩
  split
  · exact stk_fine ok
  split
  · exact jmp_fine ok
  split
  · exact back_fine ok.g _
  split
  · exact ⟨ok.g, rfl, rfl, .inr (.inr ⟨rfl, rfl⟩)⟩
  · exact .of ok.g ⟨rfl, rfl, rfl, rfl⟩

/-- Words of RAM are words. -/
def Words (g : Nat → Int) : Prop := ∀ i, 0 ≤ g i ∧ g i < 4294967296
theorem Words.put {g : Nat → Int} (h : Words g) (k : Nat) (x : Int) (hx : 0 ≤ x ∧ x < 4294967296) : Words (Mem.put g k x) := fun i => by
  unfold Mem.put; split; exact hx; exact h i
theorem Fine.trans {A B C : Wo} (h : Fine A B) (k : Fine B C) : Fine A C := by
  refine ⟨k.g, k.i.trans h.i, k.m.trans h.m, ?_⟩
  rcases k.k with ⟨a, b⟩ | k' | ⟨a, b⟩
  · rcases h.k with ⟨c, d⟩ | ⟨c, d⟩ | ⟨c, d⟩
    · exact .inl ⟨a.trans c, b.trans d⟩
    · exact .inr (.inl ⟨a.trans c, b.trans d⟩)
    · exact .inr (.inr ⟨a.trans c, b.trans d⟩)
  · exact .inr (.inl k')
  · exact .inr (.inr ⟨a, by rw [b, h.i]⟩)
theorem Fine.dat {W0 W : Wo} (h : Fine W0 W) (a k : Int) : Fine W0 (W.dat a k) := ⟨h.g, h.i, h.m, h.k⟩
theorem Fine.refl {W : Wo} (h : Good W.s) : Fine W W := .of h ⟨rfl, rfl, rfl, rfl⟩
theorem ldd_fine {W : Wo} (h : Good W.s) (r x : Int) (hx : 0 ≤ x ∧ x < 4294967296) : Fine W (lddW W r x) := by
  unfold lddW
  split
  · exact back_fine h _
  · exact .of (h.wreg _ _ hx) ⟨rfl, rfl, rfl, rfl⟩
theorem popR_fine (n : Nat) (f g : Nat → Int) (hf : ∀ i, i < n → 0 ≤ f i ∧ f i < 256) (hg : Words g) : ∀ (k r : Nat) (W : Wo), Good W.s → Fine W (popR n f g k r W).1
  | 0, r, W, h => .refl h
  | k + 1, r, W, h => by
    unfold popR
    split
    · split
      · have h1 := h.wreg 13 ((W.s.R 13 + 4) % 4294967296) (by omega)
        have h2 := ldd_fine h1 r (ldV n f g (W.s.R 13)) (ldV_bd n f g hf hg _)
        have h3 := popR_fine n f g hf hg k (r + 1) _ h2.g
        exact (Fine.trans (Fine.of (W0 := W) h1 ⟨rfl, rfl, rfl, rfl⟩) h2).trans h3
      · exact .refl h
    · exact popR_fine n f g hf hg k (r + 1) W h
theorem pop_fine {n : Nat} {f g : Nat → Int} (hf : ∀ i, i < n → 0 ≤ f i ∧ f i < 256) (hg : Words g) {W : Wo} (h : Good W.s) : Fine W (popW n f g W) :=
  Fine.trans (B := popS W) (.of h ⟨rfl, rfl, rfl, rfl⟩) (popR_fine n f g hf hg 16 0 _ h)
theorem exe_fine {n : Nat} {f g : Nat → Int} (hf : ∀ i, i < n → 0 ≤ f i ∧ f i < 256) (hg : Words g) {W : Wo} (ok : Ok W) : Fine W (exeW n f g W) := by
  unfold exeW
  by_cases c1 : isLd W.i.f = true
  · rw [if_pos c1]
    unfold loadW
    split
    · exact .of (Good.put (W := W.dat (adrV W) 1) ok.g (ldV_bd n f g hf hg _)) ⟨rfl, rfl, rfl, rfl⟩
    · exact .of ok.g ⟨rfl, rfl, rfl, rfl⟩
  rw [if_neg c1]
  by_cases c2 : isSt W.i.f = true
  · rw [if_pos c2]; exact .of ok.g ⟨rfl, rfl, rfl, rfl⟩
  rw [if_neg c2]
  split
  · exact .of (ok.g.wreg 13 _ (by unfold pshP; omega)) ⟨rfl, rfl, rfl, rfl⟩
  split
  · exact pop_fine hf hg ok.g
  · exact comp_fine ok
theorem pshR_words : ∀ (k r : Nat) (W : Wo) (p : Int) (g : Nat → Int), Good W.s → Words g → Words (pshR k r W p g).1
  | 0, r, W, p, g, h, hg => hg
  | k + 1, r, W, p, g, h, hg => by
    unfold pshR
    split
    · split
      · exact pshR_words k (r + 1) W _ _ h (hg.put _ _ (h.r _))
      · exact hg
    · exact pshR_words k (r + 1) W p g h hg
theorem exe_words {g : Nat → Int} (hg : Words g) {W : Wo} (ok : Ok W) : Words (exeG g W) := by
  unfold exeG
  split
  · unfold storG
    split
    · exact hg.put _ _ (ok.g.r _)
    · exact hg
  · split
    · exact pshR_words 16 0 _ _ g (ok.g.wreg 13 _ (by unfold pshP; omega)) hg
    · exact hg

theorem shp_95 : Inst.shp 95 = 31 ∧ Inst.shp 96 = 31 := by decide +kernel
set_option maxHeartbeats 4000000 in
/-- A right instruction's fields lie within their bounds. -/
theorem fit_of_right {i : Ins} (h : i.right = true) (g0 : -9223372036854775808 ≤ i.rg) (g1 : i.rg ≤ 9223372036854775807) : Fit i ∧ (i.f = 95 ∨ i.f = 96 → i.rd ≠ i.ra) := by
  have hp : i.f = 95 ∨ i.f = 96 → i.rd ≠ i.ra := fun hf => by
    have h' := h
    unfold Ins.right Inst.right at h'
    simp only [Bool.and_eq_true] at h'
    have h3 := h'.2.2.1
    unfold Inst.pairR at h3
    have e : Inst.shp i.f = 31 := by rcases hf with e | e <;> rw [e]; exact shp_95.1; exact shp_95.2
    rw [if_neg (by omega), if_pos e] at h3
    exact of_decide_eq_true h3
  refine ⟨?_, hp⟩
  obtain ⟨⟨i0, i1⟩, h2⟩ := Code.at_own (show Inst.right i.f i.rd i.rn i.rm i.ra i.im i.kd i.bs i.st i.cd i.rg = true from h) g0 g1
  have hs : 1 ≤ Inst.shp i.f ∧ Inst.shp i.f ≤ 34 := by
    have := Inst.shp_yes (f := i.f) (by unfold Inst.isF; simp; omega)
    omega
  obtain ⟨f, rd, rn, rm, ra, im, kd, bs, st, cd, rg⟩ := i
  dsimp only at *
  have HI : ∀ s, s = Inst.shp f → 1 ≤ s → s ≤ 34 → (if s < 17 then Inst.narrowB f s rd rn rm ra im kd bs st cd rg else Inst.wideB s rd rn rm ra im kd bs st cd rg) = true → (0 ≤ rd ∧ rd ≤ 14) ∧ (0 ≤ rn ∧ rn ≤ 14) ∧ (0 ≤ rm ∧ rm ≤ 14) ∧ (0 ≤ ra ∧ ra ≤ 14) ∧ (0 ≤ kd ∧ kd ≤ 3) ∧ (0 ≤ bs ∧ bs ≤ 32) ∧ (s = 1 → 0 ≤ im ∧ im ≤ 32) ∧ (0 ≤ cd ∧ cd ≤ 13) ∧ (0 ≤ rg ∧ rg < 65536) := by
    clear h h2 hp hs g0 g1
    intro s _ h1 h34 h
    rcases (show s = 1 ∨ s = 2 ∨ s = 3 ∨ s = 4 ∨ s = 5 ∨ s = 6 ∨ s = 7 ∨ s = 8 ∨ s = 9 ∨ s = 10 ∨ s = 11 ∨ s = 12 ∨ s = 13 ∨ s = 14 ∨ s = 15 ∨ s = 16 ∨ s = 17 ∨ s = 18 ∨ s = 19 ∨ s = 20 ∨ s = 21 ∨ s = 22 ∨ s = 23 ∨ s = 24 ∨ s = 25 ∨ s = 26 ∨ s = 27 ∨ s = 28 ∨ s = 29 ∨ s = 30 ∨ s = 31 ∨ s = 32 ∨ s = 33 ∨ s = 34 by omega) with rfl | rfl | rfl | rfl | rfl | rfl | rfl | rfl | rfl | rfl | rfl | rfl | rfl | rfl | rfl | rfl | rfl | rfl | rfl | rfl | rfl | rfl | rfl | rfl | rfl | rfl | rfl | rfl | rfl | rfl | rfl | rfl | rfl | rfl
    · have := Code.lin_1 h; omega
    · have := Code.lin_2 h; omega
    · have := Code.lin_3 h; omega
    · have := Code.lin_4 h; omega
    · have := Code.lin_5 h; omega
    · have := Code.lin_6 h; omega
    · have := Code.lin_7 h; omega
    · have := Code.lin_8 h; omega
    · have := Code.lin_9 h; omega
    · have := Code.lin_10 h; omega
    · have := Code.lin_11 h; omega
    · have := Code.lin_12 h; omega
    · have := Code.lin_13 h; omega
    · have := Code.lin_14 h; omega
    · have := Code.lin_15 h; omega
    · have := Code.lin_16 h; omega
    · have := Code.lin_17 h; omega
    · have := Code.lin_18 h; omega
    · have := Code.lin_19 h; omega
    · have := Code.lin_20 h; omega
    · have := Code.lin_21 h; omega
    · have := Code.lin_22 h; omega
    · have := Code.lin_23 h; omega
    · have := Code.lin_24 h; omega
    · have := Code.lin_25 h; omega
    · have := Code.lin_26 h; omega
    · have := Code.lin_27 h; omega
    · have := Code.lin_28 h; omega
    · have := Code.lin_29 h; omega
    · have := Code.lin_30 h; omega
    · have := Code.lin_31 h; omega
    · have := Code.lin_32 h; omega
    · have := Code.lin_33 h; omega
    · have := Code.lin_34 h; omega
  obtain ⟨a1, a2, a3, a4, a5, a6, a7, a8, a9⟩ := HI _ rfl hs.1 hs.2 h2
  exact ⟨a1, a2, a3, a4, a5, a6, a7, a8, a9⟩
end Go.Proofs.YtkkhofoaolgapaaGreatDoor.Core

/-! A step of a machine: package core. -/
set_option linter.unusedVariables false
set_option linter.unusedSimpArgs false
namespace Go.Proofs.YtkkhofoaolgapaaGreatDoor.Core
open Go.RowKit Go.Proofs.YtkkhofoaolgapaaGreatDoor.Mem Go.Proofs.YtkkhofoaolgapaaGreatDoor.Alu

theorem ofI_one {W : Int} {wide : Bool} {i i' : Ins} {en en' : Int} (h : OfI W wide i en) (h' : OfI W wide i' en') : i = i' ∧ en = en' := by
  obtain ⟨⟨a1, a2, a3, a4, a5, a6, a7, a8, a9, a10, a11⟩, e⟩ := Code.ofR_one h h'
  obtain ⟨f, rd, rn, rm, ra, im, kd, bs, st, cd, rg⟩ := i
  obtain ⟨f', rd', rn', rm', ra', im', kd', bs', st', cd', rg'⟩ := i'
  dsimp only at *
  subst a1 a2 a3 a4 a5 a6 a7 a8 a9 a10 a11
  exact ⟨rfl, e⟩
/-- One address has one instruction. -/
theorem at_one {n : Nat} {f : Nat → Int} {a : Int} {i i' : Ins} {en en' : Int} (h : AtI n f a i en) (h' : AtI n f a i' en') : i = i' ∧ en = en' := by
  rcases h with ⟨a1, rfl, rfl⟩ | ⟨a1, a2, a3⟩ | ⟨a1, a2, a3, rfl, rfl⟩ | ⟨a1, a2, a3, a4⟩ <;> rcases h' with ⟨b1, rfl, rfl⟩ | ⟨b1, b2, b3⟩ | ⟨b1, b2, b3, rfl, rfl⟩ | ⟨b1, b2, b3, b4⟩
  · exact ⟨rfl, rfl⟩
  · exact absurd b1 a1
  · exact absurd b1 a1
  · exact absurd b1 a1
  · exact absurd a1 b1
  · exact ofI_one a3 b3
  · rw [a2] at b2; exact absurd b2 (by decide)
  · rw [a2] at b2; exact absurd b2 (by decide)
  · exact absurd a1 b1
  · rw [a2] at b2; exact absurd b2 (by decide)
  · exact ⟨rfl, rfl⟩
  · exact absurd b3 a3
  · exact absurd a1 b1
  · rw [a2] at b2; exact absurd b2 (by decide)
  · exact absurd a3 b3
  · exact ofI_one a4 b4
theorem ofI_right {W : Int} {wide : Bool} {i : Ins} (h : OfI W wide i 0) : i.right = true ∧ -9223372036854775808 ≤ i.rg ∧ i.rg ≤ 9223372036854775807 := by
  rcases h with ⟨h, _⟩ | ⟨_, _, h⟩
  · exact ⟨h.right, h.lo, h.hi⟩
  · exact absurd h (by decide)
theorem at_right {n : Nat} {f : Nat → Int} {a : Int} {i : Ins} (h : AtI n f a i 0) : i.right = true ∧ -9223372036854775808 ≤ i.rg ∧ i.rg ≤ 9223372036854775807 := by
  rcases h with ⟨a1, rfl, e⟩ | ⟨a1, a2, a3⟩ | ⟨a1, a2, a3, rfl, e⟩ | ⟨a1, a2, a3, a4⟩
  · exact absurd e.symm a1
  · exact ofI_right a3
  · exact absurd e.symm a3
  · exact ofI_right a4

/-- What a step begins with. -/
def stW0 (M : Mc) (j : Ins) : Wo := (wk0 M j).reg 15 ((M.s.R 15 + Inst.siz j.f) % 4294967296)
/-- Why a step went wrong; the machine, RAM, the event and the error behind it. -/
def stE (n : Nat) (f g : Nat → Int) (M : Mc) (j : Ins) (e0 : Int) : Int := if e0 = 0 then exeE n f g (stW0 M j) else e0
def stG (n : Nat) (f g : Nat → Int) (M : Mc) (j : Ins) (e0 : Int) : Nat → Int := if e0 = 0 then exeG g (stW0 M j) else g
def stQ (n : Nat) (f g : Nat → Int) (M : Mc) (j : Ins) (e0 : Int) : Mc := if stE n f g M j e0 = 0 then aft M j (exeW n f g (stW0 M j)) else M
def stM (n : Nat) (f g : Nat → Int) (M : Mc) (j : Ins) (e0 : Int) : Mc := if stE n f g M j e0 = 0 then aft M j (exeW n f g (stW0 M j)) else { M with hk := 3, hc := stE n f g M j e0 }
def stV (n : Nat) (f g : Nat → Int) (M : Mc) (j : Ins) (e0 : Int) : Array Value := if stE n f g M j e0 = 0 then evA M j (exeW n f g (stW0 M j)) else evv 0 0 0 0 0
def stR (n : Nat) (f g : Nat → Int) (M : Mc) (j : Ins) (e0 : Int) : Int := if stE n f g M j e0 = 0 then 0 else 10

/-- A machine that may be: its state is one, its counter is no great number. -/
structure May (M : Mc) : Prop where
  s : Good M.s
  cy : 0 ≤ M.cy ∧ M.cy ≤ 1000000000
  wt : 0 ≤ M.wait ∧ M.wait ≤ 7
/-- A machine and its memory in the heap. -/
structure Has (w : World) (C F R n : Nat) (f g : Nat → Int) (M : Mc) : Prop where
  x : Mx w C M
  m : Is w M.m F R n f g
theorem ok_0 {M : Mc} (hg : Good M.s) {j : Ins} (hf : Fit j) : Ok (stW0 M j) := ⟨Good.reg hg 15 _ (by omega), hf⟩

theorem step_any {w : World} {C F R n : Nat} {M : Mc} {f g : Nat → Int} (h : Mx w C M) (hm : Is w M.m F R n f g) (hf : ∀ i, i < n → 0 ≤ f i ∧ f i < 256) (hn : n ≤ 65536) (hg : May M) (hgb : Words g) (hL : Code.Laid w) (ntR : NoTab R) :
    Calls Tryz.prog 32 #[.pointer (some ⟨C, 0, none⟩)] w fun e w' => ∃ j e0, AtI n f (M.s.R 15) j e0 ∧ e = .returned (.tuple #[.agg (stV n f g M j e0), .int .i64 (stE n f g M j e0)]) ∧ Mx w' C (stQ n f g M j e0) ∧ Is w' M.m F R n f (stG n f g M j e0) ∧ Off [C, R] w w' := by
  by_cases hx : ∃ j, AtI n f (M.s.R 15) j 0
  · obtain ⟨j, hj⟩ := hx
    obtain ⟨hr, g0, g1⟩ := at_right hj
    obtain ⟨hfit, hne⟩ := fit_of_right hr g0 g1
    refine (step_ok h hm hf hn hg.s hL j (fun j' e h' => at_one h' hj) hfit hr hg.cy hg.wt ntR (exeW n f g (stW0 M j)) (exeG g (stW0 M j)) (exeE n f g (stW0 M j)) ?_).mono ?_
    · intro w' D hW hI hL' hD
      exact execute_any hW hL'.two hD (ok_0 hg.s hfit) hne hI hf hn hgb
    · rintro e w' ⟨hp, hI, hO⟩
      have eE : stE n f g M j 0 = exeE n f g (stW0 M j) := if_pos rfl
      have eG : stG n f g M j 0 = exeG g (stW0 M j) := if_pos rfl
      refine ⟨j, 0, hj, ?_, ?_, by rw [eG]; exact hI, hO⟩
      · rcases hp with ⟨h1, rfl, h3⟩ | ⟨h1, rfl, h3⟩
        · unfold stV; rw [eE, if_neg h1]
        · unfold stV; rw [eE, if_pos h1, h1]
      · rcases hp with ⟨h1, rfl, h3⟩ | ⟨h1, rfl, h3⟩
        · unfold stQ; rw [eE, if_neg h1]; exact h3
        · unfold stQ; rw [eE, if_pos h1]; exact h3
  · refine (step_fault h hm hf hn hg.s hL (fun j e hj he => hx ⟨j, he ▸ hj⟩)).mono ?_
    rintro e w' ⟨en, ⟨j, hj⟩, rfl, hb⟩
    have hne : en ≠ 0 := fun e => hx ⟨j, e ▸ hj⟩
    have eE : stE n f g M j en = en := if_neg hne
    refine ⟨j, en, hj, ?_, ?_, ?_, Off.of_below hb⟩
    · unfold stV; rw [eE, if_neg hne]; rfl
    · unfold stQ; rw [eE, if_neg hne]; exact h.below hb
    · unfold stG; rw [if_neg hne]; exact hm.below hb

/-- A machine that has halted does nothing. -/
theorem Step_halted {w : World} {C : Nat} {M : Mc} (h : Mx w C M) (hk : M.hk ≠ 0) :
    Calls Tryz.prog 11 #[.pointer (some ⟨C, 0, none⟩)] w fun e w' => e = .returned (.tuple #[.agg (evv 0 0 0 0 0), .int .i64 71]) ∧ Below w.heap.size w w' := by
  have c25 : w.cell? ⟨C, 25, none⟩ = some (.int .i64 M.hk) := h.cell rfl
  have hl := h.lt
  go_enter Tryz.func11, Tryz.ntmps11
  go_wp2_with fail
  refine bodyPost_ret (v := .tuple #[.agg (evv 0 0 0 0 0), .int .i64 71]) (by simp [results, Tryz.results11, go_sem, evv]) rfl ⟨rfl, ?_⟩
  repeat (first | exact Below.refl _ _ | refine Below.setCell ?_ (Nat.le_refl _) _ | refine Below.alloc ?_ (Nat.le_refl _) _)

set_option maxRecDepth 100000 in
set_option maxHeartbeats 4000000 in
theorem Step_run {w : World} {C F R n : Nat} {M : Mc} {f g : Nat → Int} (h : Mx w C M) (hm : Is w M.m F R n f g) (hf : ∀ i, i < n → 0 ≤ f i ∧ f i < 256) (hn : n ≤ 65536) (hg : May M) (hgb : Words g) (hL : Code.Laid w) (ntR : NoTab R) (hk : M.hk = 0) :
    Calls Tryz.prog 11 #[.pointer (some ⟨C, 0, none⟩)] w fun e w' => ∃ j e0, AtI n f (M.s.R 15) j e0 ∧ e = .returned (.tuple #[.agg (stV n f g M j e0), .int .i64 (stR n f g M j e0)]) ∧ Mx w' C (stM n f g M j e0) ∧ Is w' M.m F R n f (stG n f g M j e0) ∧ Off [C, R] w w' := by
  have c25 : w.cell? ⟨C, 25, none⟩ = some (.int .i64 M.hk) := h.cell rfl
  rw [hk] at c25
  have hl := h.lt
  have hmC : M.m ≠ C := fun e => by have x := hm.box; rw [e, show w.heap[C]? = _ from h] at x; simp at x
  have hFC : F ≠ C := fun e => by have x := hm.fl; rw [e, show w.heap[C]? = _ from h] at x; simp at x
  have hRC : R ≠ C := fun e => by have x := hm.ram; rw [e, show w.heap[C]? = _ from h] at x; simp at x
  have tM := hm.ltB
  have tF := hm.ltF
  have tR := hm.ltR
  have hB := (Below.refl w.heap.size w).alloc (Nat.le_refl _) (.cells #[.int .u32 0, .int .u32 0, .int .i64 0, .int .i64 0, .int .i64 0] 41)
  have hE := heap_alloc_last w (.cells #[.int .u32 0, .int .u32 0, .int .i64 0, .int .i64 0, .int .i64 0] 41)
  have HS := hide (step_any (h.below hB) (hm.below hB) hf hn hg hgb (hL.below hB) ntR)
  have HB := hide hB
  have HE := hide hE
  clear hB hE
  go_enter Tryz.func11, Tryz.ntmps11
  go_wp2_with fail
  refine (unhide HS).mono ?_
  rintro e w1 ⟨j, e0, hat, rfl, hQ, hI, hO⟩
  clear HS c25
  have O1 := hide ((Off.of_below (S := [C, R]) HB.out).trans hO)
  generalize hS : w.heap.size = S at *
  have E1 := (hO.block S (by rw [← hS]; simp) (by simp; omega)).trans HE.out
  have HAT := hide hat
  have hz1 : S < w1.heap.size := lt_of_heap E1
  clear HE HB hO hat
  by_cases hs : stE n f g M j e0 = 0
  · have eV : stV n f g M j e0 = evA M j (exeW n f g (stW0 M j)) := if_pos hs
    have eQ : stQ n f g M j e0 = aft M j (exeW n f g (stW0 M j)) := if_pos hs
    have eM : stM n f g M j e0 = aft M j (exeW n f g (stW0 M j)) := if_pos hs
    have eR : stR n f g M j e0 = 0 := if_pos hs
    rw [eQ] at hQ
    have hfin : Hid (∀ (x1 : Ending) (x2 : World), x1 = .returned (.tuple #[.agg (evA M j (exeW n f g (stW0 M j))), .int .i64 0]) → Mx x2 C (aft M j (exeW n f g (stW0 M j))) → Is x2 M.m F R n f (stG n f g M j e0) → Off [C, R] w x2 → ∃ j e0, AtI n f (M.s.R 15) j e0 ∧ x1 = .returned (.tuple #[.agg (stV n f g M j e0), .int .i64 (stR n f g M j e0)]) ∧ Mx x2 C (stM n f g M j e0) ∧ Is x2 M.m F R n f (stG n f g M j e0) ∧ Off [C, R] w x2) :=
      fun x1 x2 h1 h2 h3 h4 => ⟨j, e0, HAT.out, by rw [eV, eR]; exact h1, by rw [eM]; exact h2, h3, h4⟩
    clear eM eR
    rw [eV, hs]
    clear eV eQ
    unfold evA at *
    generalize exeW n f g (stW0 M j) = W1 at *
    generalize basI M.s j = bb at *
    generalize Clock.mss M.fl M.l (M.s.R 15) (Inst.siz j.f) = mm at *
    unfold evv at *
    replace hQ := hide hQ
    replace hI := hide hI
    have e0' : w1.cell? ⟨S, 0, none⟩ = some (.int .u32 0) := by rw [cell_of_row w1 S 0 _ _ _ E1]; rfl
    have e1' : w1.cell? ⟨S, 1, none⟩ = some (.int .u32 0) := by rw [cell_of_row w1 S 1 _ _ _ E1]; rfl
    have e2' : w1.cell? ⟨S, 2, none⟩ = some (.int .i64 0) := by rw [cell_of_row w1 S 2 _ _ _ E1]; rfl
    have e3' : w1.cell? ⟨S, 3, none⟩ = some (.int .i64 0) := by rw [cell_of_row w1 S 3 _ _ _ E1]; rfl
    have e4' : w1.cell? ⟨S, 4, none⟩ = some (.int .i64 0) := by rw [cell_of_row w1 S 4 _ _ _ E1]; rfl
    have f0 := free_row E1 0
    have f1 := free_row E1 1
    have f2 := free_row E1 2
    have f3 := free_row E1 3
    have f4 := free_row E1 4
    have hOS := ((((((Off.refl [S] w1).set (p := ⟨S, 0, none⟩) (by simp) (.int .u32 (M.s.R 15))).set (p := ⟨S, 1, none⟩) (by simp) (.int .u32 W1.da)).set (p := ⟨S, 2, none⟩) (by simp) (.int .i64 W1.wo)).set (p := ⟨S, 3, none⟩) (by simp) (.int .i64 bb)).set (p := ⟨S, 4, none⟩) (by simp) (.int .i64 mm)).alloc (.cells #[.int .u32 (M.s.R 15), .int .u32 W1.da, .int .i64 W1.wo, .int .i64 bb, .int .i64 mm] 41)
    replace hOS := hide hOS
    replace E1 := hide E1
    go_wp2_with fail
    refine bodyPost_ret (v := .tuple #[.agg #[.int .u32 (M.s.R 15), .int .u32 W1.da, .int .i64 W1.wo, .int .i64 bb, .int .i64 mm], .int .i64 0]) (by simp [results, Tryz.results11, go_sem, e0', e1', e2', e3', e4', hz1]) rfl ?_
    refine hfin.out _ _ rfl ?_ ?_ ?_
    · exact hQ.out.off hOS.out (by simp; omega)
    · exact isOff hI.out hOS.out (by simp; omega) (by simp; omega) (by simp; omega)
    · exact Off.sub ((O1.out.mono (T := [C, R, S]) (by intro k hk; simp at hk ⊢; omega)).trans (hOS.out.mono (by intro k hk; simp at hk ⊢; omega))) (by intro k hk; simp at hk ⊢; omega)
  · have eV : stV n f g M j e0 = evv 0 0 0 0 0 := if_neg hs
    have eQ : stQ n f g M j e0 = M := if_neg hs
    have eM : stM n f g M j e0 = { M with hk := 3, hc := stE n f g M j e0 } := if_neg hs
    have eR : stR n f g M j e0 = 10 := if_neg hs
    rw [eQ] at hQ
    have hfin : Hid (∀ (x1 : Ending) (x2 : World), x1 = .returned (.tuple #[.agg (evv 0 0 0 0 0), .int .i64 10]) → Mx x2 C { M with hk := 3, hc := stE n f g M j e0 } → Is x2 M.m F R n f (stG n f g M j e0) → Off [C, R] w x2 → ∃ j e0, AtI n f (M.s.R 15) j e0 ∧ x1 = .returned (.tuple #[.agg (stV n f g M j e0), .int .i64 (stR n f g M j e0)]) ∧ Mx x2 C (stM n f g M j e0) ∧ Is x2 M.m F R n f (stG n f g M j e0) ∧ Off [C, R] w x2) :=
      fun x1 x2 h1 h2 h3 h4 => ⟨j, e0, HAT.out, by rw [eV, eR]; exact h1, by rw [eM]; exact h2, h3, h4⟩
    clear eM eR
    rw [eV]
    clear eV eQ
    generalize stE n f g M j e0 = en at *
    have hs' : (en == 0) = false := by simpa using hs
    clear hs
    unfold evv at *
    have k25 : w1.cell? ⟨C, 25, none⟩ = some (.int .i64 M.hk) := hQ.cell rfl
    have k26 : w1.cell? ⟨C, 26, none⟩ = some (.int .i64 M.hc) := hQ.cell rfl
    have g25 := hQ.free 25
    have g26 := hQ.free 26
    have hM2 := hide (show Mx ((w1.setCell ⟨C, 25, none⟩ (.int .i64 3)).setCell ⟨C, 26, none⟩ (.int .i64 en)) C { M with hk := 3, hc := en } from (hQ.set (k := 25) (v := .int .i64 3) (M' := { M with hk := 3 }) rfl).set (k := 26) (v := .int .i64 en) rfl)
    replace hQ := hide hQ
    replace hI := hide hI
    have hCS : C ≠ S := by omega
    have hC1 : C < w1.heap.size := lt_of_heap (show w1.heap[C]? = _ from hQ.out)
    have P2 := hide ((((Off.refl [C] w1).set (p := ⟨C, 25, none⟩) (by simp) (.int .i64 3)).set (p := ⟨C, 26, none⟩) (by simp) (.int .i64 en)).alloc (.cells #[.int .u32 0, .int .u32 0, .int .i64 0, .int .i64 0, .int .i64 0] 41))
    have hM3 := hide ((show Mx _ C { M with hk := 3, hc := en } from hM2.out).below ((Below.refl _ _).alloc (Nat.le_refl _) (.cells #[.int .u32 0, .int .u32 0, .int .i64 0, .int .i64 0, .int .i64 0] 41)))
    clear hM2
    replace E1 := hide E1
    go_upto_region 6 with fail
    (try simp only [Act.put, List.getElem_toArray, List.getElem_cons_zero, List.getElem_cons_succ, List.setIfInBounds_toArray, List.set_cons_zero, List.set_cons_succ])
    clear k25 k26 g25 g26
    generalize hw2 : ((w1.setCell ⟨C, 25, none⟩ (.int .i64 3)).setCell ⟨C, 26, none⟩ (.int .i64 en)).alloc (.cells #[.int .u32 0, .int .u32 0, .int .i64 0, .int .i64 0, .int .i64 0] 41) = w2 at *
    have E2 := (P2.out.block S hz1 (by simp; omega)).trans E1.out
    have I2 := hide (isOff hI.out P2.out (by simpa using hmC) (by simpa using hFC) (by simpa using hRC))
    have O2 := hide ((O1.out.mono (T := [C, R]) (by intro k hk; exact hk)).trans (P2.out.mono (T := [C, R]) (by intro k hk; simp at hk ⊢; omega)))
    clear hw2 hI hQ O1 E1 P2 hC1 hz1
    have hz2 : S < w2.heap.size := lt_of_heap E2
    have e0' : w2.cell? ⟨S, 0, none⟩ = some (.int .u32 0) := by rw [cell_of_row w2 S 0 _ _ _ E2]; rfl
    have e1' : w2.cell? ⟨S, 1, none⟩ = some (.int .u32 0) := by rw [cell_of_row w2 S 1 _ _ _ E2]; rfl
    have e2' : w2.cell? ⟨S, 2, none⟩ = some (.int .i64 0) := by rw [cell_of_row w2 S 2 _ _ _ E2]; rfl
    have e3' : w2.cell? ⟨S, 3, none⟩ = some (.int .i64 0) := by rw [cell_of_row w2 S 3 _ _ _ E2]; rfl
    have e4' : w2.cell? ⟨S, 4, none⟩ = some (.int .i64 0) := by rw [cell_of_row w2 S 4 _ _ _ E2]; rfl
    have f0 := free_row E2 0
    have f1 := free_row E2 1
    have f2 := free_row E2 2
    have f3 := free_row E2 3
    have f4 := free_row E2 4
    have P3 := hide (((((Off.refl [S] w2).set (p := ⟨S, 0, none⟩) (by simp) (.int .u32 0)).set (p := ⟨S, 1, none⟩) (by simp) (.int .u32 0)).set (p := ⟨S, 2, none⟩) (by simp) (.int .i64 0)).set (p := ⟨S, 3, none⟩) (by simp) (.int .i64 0) |>.set (p := ⟨S, 4, none⟩) (by simp) (.int .i64 0))
    replace E2 := hide E2
    go_wp2_with fail
    refine bodyPost_ret (v := .tuple #[.agg #[.int .u32 0, .int .u32 0, .int .i64 0, .int .i64 0, .int .i64 0], .int .i64 10]) (by simp [results, Tryz.results11, go_sem, e0', e1', e2', e3', e4', hz2]) rfl ?_
    with_reducible refine hfin.out _ _ rfl ?_ ?_ ?_
    · exact hM3.out.off P3.out (by simp; omega)
    · exact isOff I2.out P3.out (by simp; omega) (by simp; omega) (by simp; omega)
    · exact Off.sub ((O2.out.mono (T := [C, R, S]) (by intro k hk; simp at hk ⊢; omega)).trans (P3.out.mono (by intro k hk; simp at hk ⊢; omega))) (by intro k hk; simp at hk ⊢; omega)
end Go.Proofs.YtkkhofoaolgapaaGreatDoor.Core

/-! What an instruction does hangs on nothing of where its memory lies. No function of the program is walked here. -/
set_option linter.unusedVariables false
namespace Go.Proofs.YtkkhofoaolgapaaGreatDoor.Core
open Go.RowKit Go.Proofs.YtkkhofoaolgapaaGreatDoor.Mem Go.Proofs.YtkkhofoaolgapaaGreatDoor.Alu

/-- The same, with its memory elsewhere. -/
def Wo.on (W : Wo) (x : Nat) : Wo := { W with m := x }
theorem fin_on (W : Wo) (x : Nat) (v : Int) (F : Wo → Wo) (hF : ∀ U : Wo, F (U.on x) = (F U).on x) : (W.on x).fin v F = (W.fin v F).on x := by
  have h1 : (if keepB (W.on x) then (W.on x).put v else W.on x) = (if keepB W then W.put v else W).on x := by
    show (if keepB W then (W.on x).put v else W.on x) = _
    split <;> rfl
  unfold Wo.fin
  dsimp only
  rw [h1]
  show (if setsB W then _ else _) = _
  by_cases hs : setsB W = true
  · rw [if_pos hs, if_pos hs]; exact hF ((if keepB W then W.put v else W).sgn v)
  · rw [if_neg hs, if_neg hs]
theorem shift_on (W : Wo) (x : Nat) : shiftW (W.on x) = (shiftW W).on x := by
  show (if setsB W then _ else _) = (if setsB W then _ else _ : Wo).on x
  split <;> rfl
theorem comb_on (W : Wo) (x : Nat) : combW (W.on x) = (combW W).on x := fin_on W x _ _ (fun _ => rfl)
theorem sum_on (W : Wo) (x : Nat) : sumW (W.on x) = (sumW W).on x := fin_on W x _ _ (fun _ => rfl)
theorem mult_on (W : Wo) (x : Nat) : multW (W.on x) = (multW W).on x := by
  show (if W.i.f = 25 then _ else if W.i.f = 93 then _ else if W.i.f = 94 then _ else _) = (if W.i.f = 25 then _ else if W.i.f = 93 then _ else if W.i.f = 94 then _ else _ : Wo).on x
  repeat' split
  all_goals rfl
theorem stk_on (W : Wo) (x : Nat) : stkW (W.on x) = (stkW W).on x := by
  show (if W.i.f = 39 then _ else if W.i.f = 40 then _ else if W.i.f = 41 then _ else _) = (if W.i.f = 39 then _ else if W.i.f = 40 then _ else if W.i.f = 41 then _ else _ : Wo).on x
  repeat' split
  all_goals rfl
theorem jmp_on (W : Wo) (x : Nat) : jmpW (W.on x) = (jmpW W).on x := by
  show (if (W.i.f = 46 ∨ W.i.f = 99) ∧ holdsB W.s W.i.cd = false then _ else _) = (if (W.i.f = 46 ∨ W.i.f = 99) ∧ holdsB W.s W.i.cd = false then _ else _ : Wo).on x
  split <;> rfl
theorem back_on (W : Wo) (x : Nat) (a : Int) : backW (W.on x) a = (backW W a).on x := by
  show (if bits .andNot .u32 a 1 = 4294967294 then _ else _) = (if bits .andNot .u32 a 1 = 4294967294 then _ else _ : Wo).on x
  split <;> rfl
theorem on_if (c : Prop) [Decidable c] (A B : Wo) (x : Nat) : (if c then A else B).on x = if c then A.on x else B.on x := by split <;> rfl
theorem comp_on (W : Wo) (x : Nat) : compW (W.on x) = (compW W).on x := by
  have e : (W.on x).i = W.i := rfl
  unfold compW
  have e2 : (W.on x).s = W.s := rfl
  simp only [on_if, e, e2, shift_on, comb_on, sum_on, mult_on, stk_on, jmp_on, back_on]
  rfl
theorem ldd_on (W : Wo) (x : Nat) (r v : Int) : lddW (W.on x) r v = (lddW W r v).on x := by
  unfold lddW
  split
  · exact back_on _ _ _
  · rfl
theorem popR_on (n : Nat) (f g : Nat → Int) (x : Nat) : ∀ (k r : Nat) (W : Wo), popR n f g k r (W.on x) = ((popR n f g k r W).1.on x, (popR n f g k r W).2)
  | 0, r, W => rfl
  | k + 1, r, W => by
    have e1 : listB (W.on x) r = listB W r := rfl
    have e2 : (W.on x).s = W.s := rfl
    unfold popR
    rw [e1, e2]
    split
    · split
      · rw [show lddW ((W.on x).reg 13 ((W.s.R 13 + 4) % 4294967296)) r (ldV n f g (W.s.R 13)) = (lddW (W.reg 13 ((W.s.R 13 + 4) % 4294967296)) r (ldV n f g (W.s.R 13))).on x from ldd_on (W.reg 13 ((W.s.R 13 + 4) % 4294967296)) x r (ldV n f g (W.s.R 13))]
        exact popR_on n f g x k (r + 1) _
      · rfl
    · exact popR_on n f g x k (r + 1) W
theorem popW_on (n : Nat) (f g : Nat → Int) (W : Wo) (x : Nat) : popW n f g (W.on x) = (popW n f g W).on x := by
  show (popR n f g 16 0 ((popS W).on x)).1 = _
  rw [popR_on]; rfl
theorem popE_on (n : Nat) (f g : Nat → Int) (W : Wo) (x : Nat) : popE n f g (W.on x) = popE n f g W := by
  show (popR n f g 16 0 ((popS W).on x)).2 = _
  rw [popR_on]; rfl
theorem pshR_on (x : Nat) : ∀ (k r : Nat) (W : Wo) (p : Int) (g : Nat → Int), pshR k r (W.on x) p g = pshR k r W p g
  | 0, r, W, p, g => rfl
  | k + 1, r, W, p, g => by
    have e1 : listB (W.on x) r = listB W r := rfl
    have e2 : (W.on x).s = W.s := rfl
    unfold pshR
    rw [e1, e2]
    split
    · split
      · exact pshR_on x k (r + 1) W _ _
      · rfl
    · exact pshR_on x k (r + 1) W p g
theorem pshE_on (g : Nat → Int) (W : Wo) (x : Nat) : pshE g (W.on x) = pshE g W := by
  show (pshR 16 0 ((pshS W).on x) (pshP W) g).2 = _
  rw [pshR_on]; rfl
theorem pshG_on (g : Nat → Int) (W : Wo) (x : Nat) : pshG g (W.on x) = pshG g W := by
  show (pshR 16 0 ((pshS W).on x) (pshP W) g).1 = _
  rw [pshR_on]; rfl
theorem load_on (n : Nat) (f g : Nat → Int) (W : Wo) (x : Nat) : loadW n f g (W.on x) = (loadW n f g W).on x := by
  show (if ldE n (adrV W) = 0 then _ else _) = (if ldE n (adrV W) = 0 then _ else _ : Wo).on x
  split <;> rfl
theorem exeW_on (n : Nat) (f g : Nat → Int) (W : Wo) (x : Nat) : exeW n f g (W.on x) = (exeW n f g W).on x := by
  have e : (W.on x).i = W.i := rfl
  have e2 : adrV (W.on x) = adrV W := rfl
  have e3 : pshS (W.on x) = (pshS W).on x := rfl
  unfold exeW
  simp only [on_if, e, e2, e3, load_on, popW_on, comp_on]
  rfl
theorem exeE_on (n : Nat) (f g : Nat → Int) (W : Wo) (x : Nat) : exeE n f g (W.on x) = exeE n f g W := by
  have e : (W.on x).i = W.i := rfl
  have e2 : adrV (W.on x) = adrV W := rfl
  have e3 : storE (W.on x) = storE W := rfl
  unfold exeE
  simp only [e, e2, e3, pshE_on, popE_on]
theorem exeG_on (g : Nat → Int) (W : Wo) (x : Nat) : exeG g (W.on x) = exeG g W := by
  have e : (W.on x).i = W.i := rfl
  have e3 : storG g (W.on x) = storG g W := rfl
  unfold exeG
  simp only [e, e3, pshG_on]
end Go.Proofs.YtkkhofoaolgapaaGreatDoor.Core

/-! A machine that runs: what its steps leave is a machine that may be. No function of the program is walked here. -/
set_option linter.unusedVariables false
namespace Go.Proofs.YtkkhofoaolgapaaGreatDoor.Core
open Go.RowKit Go.Proofs.YtkkhofoaolgapaaGreatDoor.Mem Go.Proofs.YtkkhofoaolgapaaGreatDoor.Alu

def Mc.on (M : Mc) (x : Nat) : Mc := { M with m := x }
theorem stW0_on (M : Mc) (j : Ins) (x : Nat) : stW0 (M.on x) j = (stW0 M j).on x := rfl
theorem stE_on (n : Nat) (f g : Nat → Int) (M : Mc) (j : Ins) (e0 : Int) (x : Nat) : stE n f g (M.on x) j e0 = stE n f g M j e0 := by
  unfold stE; rw [stW0_on, exeE_on]
theorem stG_on (n : Nat) (f g : Nat → Int) (M : Mc) (j : Ins) (e0 : Int) (x : Nat) : stG n f g (M.on x) j e0 = stG n f g M j e0 := by
  unfold stG; rw [stW0_on, exeG_on]
theorem stM_on (n : Nat) (f g : Nat → Int) (M : Mc) (j : Ins) (e0 : Int) (x : Nat) : stM n f g (M.on x) j e0 = (stM n f g M j e0).on x := by
  unfold stM
  rw [stE_on, stW0_on, exeW_on]
  split <;> rfl
theorem stV_on (n : Nat) (f g : Nat → Int) (M : Mc) (j : Ins) (e0 : Int) (x : Nat) : stV n f g (M.on x) j e0 = stV n f g M j e0 := by
  unfold stV
  rw [stE_on, stW0_on, exeW_on]
  split <;> rfl
theorem stR_on (n : Nat) (f g : Nat → Int) (M : Mc) (j : Ins) (e0 : Int) (x : Nat) : stR n f g (M.on x) j e0 = stR n f g M j e0 := by
  unfold stR; rw [stE_on]

/-- What is so behind a step that went well. -/
structure Went (M M' : Mc) (j : Ins) : Prop where
  s : Good M'.s
  cy : M'.cy = M.cy + (basI M.s j + Clock.mss M.fl M.l (M.s.R 15) (Inst.siz j.f) * M.wait)
  lo : M.cy + 1 ≤ M'.cy
  hi : M'.cy ≤ M.cy + 33
  wt : M'.wait = M.wait
  m : M'.m = M.m
  hk : M'.hk = 0 ∨ M'.hk = 1 ∨ M'.hk = 2
theorem at_fit {n : Nat} {f : Nat → Int} {a : Int} {i : Ins} (h : AtI n f a i 0) : i.right = true ∧ Fit i := by
  obtain ⟨hr, g0, g1⟩ := at_right h
  exact ⟨hr, (fit_of_right hr g0 g1).1⟩
theorem stE_ok {n : Nat} {f g : Nat → Int} {M : Mc} {j : Ins} {e0 : Int} (h : stE n f g M j e0 = 0) : e0 = 0 := by
  by_cases h0 : e0 = 0
  · exact h0
  · unfold stE at h; rw [if_neg h0] at h; exact h
theorem went_of {n : Nat} {f g : Nat → Int} {M : Mc} {j : Ins} {e0 : Int} (hM : May M) (hf : ∀ i, i < n → 0 ≤ f i ∧ f i < 256) (hg : Words g) (hat : AtI n f (M.s.R 15) j e0) (hs : stE n f g M j e0 = 0) : Went M (stM n f g M j e0) j := by
  have e := stE_ok hs
  subst e
  obtain ⟨hr, hfit⟩ := at_fit hat
  have hF := exe_fine hf hg (ok_0 hM.s hfit)
  have hB := basI_bd hM.s j
  have hP := mul_bd (Clock.mss_bd M.fl M.l (M.s.R 15) (Inst.siz j.f)) hM.wt
  have eM : stM n f g M j 0 = aft M j (exeW n f g (stW0 M j)) := if_pos hs
  rw [eM]
  refine ⟨hF.g, rfl, ?_, ?_, rfl, rfl, ?_⟩
  · show M.cy + 1 ≤ M.cy + (basI M.s j + Clock.mss M.fl M.l (M.s.R 15) (Inst.siz j.f) * M.wait); omega
  · show M.cy + (basI M.s j + Clock.mss M.fl M.l (M.s.R 15) (Inst.siz j.f) * M.wait) ≤ M.cy + 33; omega
  · rcases hF.k with ⟨a, _⟩ | ⟨a, _⟩ | ⟨a, _⟩
    · exact .inl a
    · exact .inr (.inl a)
    · exact .inr (.inr a)
theorem words_of {n : Nat} {f g : Nat → Int} {M : Mc} {j : Ins} {e0 : Int} (hM : May M) (hg : Words g) (hat : AtI n f (M.s.R 15) j e0) : Words (stG n f g M j e0) := by
  unfold stG
  split
  · rename_i h; subst h; exact exe_words hg (ok_0 hM.s (at_fit hat).2)
  · exact hg
theorem Went.may {M M' : Mc} {j : Ins} (h : Went M M' j) (hM : May M) (hc : M.cy ≤ 1000000) : May M' := ⟨h.s, by have := h.lo; have := h.hi; have := hM.cy; omega, by rw [h.wt]; exact hM.wt⟩
end Go.Proofs.YtkkhofoaolgapaaGreatDoor.Core

