/- Registers that are loaded: package core. -/
import Derived.Test.YtkkhofoaolgapaaGreatDoorCoreList
set_option linter.unusedVariables false
namespace Go.Proofs.YtkkhofoaolgapaaGreatDoor.Core
open Go.RowKit Go.Proofs.YtkkhofoaolgapaaGreatDoor.Mem Go.Proofs.YtkkhofoaolgapaaGreatDoor.Alu

/-- The registers from r on that are listed are loaded. -/
def popR (n : Nat) (f g : Nat → Int) : Nat → Nat → Wo → Wo × Int
  | 0, _, W => (W, 0)
  | k + 1, r, W => if listB W r then (if ldE n (W.s.R 13) = 0 then popR n f g k (r + 1) (lddW (W.reg 13 ((W.s.R 13 + 4) % 4294967296)) r (ldV n f g (W.s.R 13))) else (W, ldE n (W.s.R 13))) else popR n f g k (r + 1) W
def popS (W : Wo) : Wo := W.dat (W.s.R 13) (Clock.ones 16 W.i.rg.toNat)
def popW (n : Nat) (f g : Nat → Int) (W : Wo) : Wo := (popR n f g 16 0 (popS W)).1
def popE (n : Nat) (f g : Nat → Int) (W : Wo) : Int := (popR n f g 16 0 (popS W)).2
/-- Registers are words. -/
def Regs (s : St) : Prop := ∀ k, 0 ≤ s.R k ∧ s.R k < 4294967296
theorem Regs.put {s : St} (h : Regs s) (k : Nat) (x : Int) (hx : 0 ≤ x ∧ x < 4294967296) : Regs (s.reg k x) := fun i => by
  show 0 ≤ Mem.put s.R k x i ∧ Mem.put s.R k x i < 4294967296
  unfold Mem.put; split; exact hx; exact h i
theorem ldV_bd (n : Nat) (f g : Nat → Int) (hf : ∀ i, i < n → 0 ≤ f i ∧ f i < 256) (hg : ∀ i, 0 ≤ g i ∧ g i < 4294967296) (a : Int) : 0 ≤ ldV n f g a ∧ ldV n f g a < 4294967296 := by
  unfold ldV
  split
  · split
    · exact hg _
    · split
      · rename_i h
        have := fp_range a
        exact lsum_range f (fp a).toNat 4 (fun j hj => hf _ (by omega))
      · omega
  · omega
theorem Regs.ldd {W : Wo} (h : Regs W.s) (r x : Int) (hx : 0 ≤ x ∧ x < 4294967296) : Regs (lddW W r x).s := by
  unfold lddW
  split
  · unfold backW
    split
    · exact h
    · exact h.put 15 _ (bits_u32_bd _ _ _)
  · exact h.put _ _ hx
theorem ldd_i (W : Wo) (r x : Int) : (lddW W r x).i = W.i ∧ (lddW W r x).m = W.m := by
  unfold lddW backW
  repeat' split
  all_goals exact ⟨rfl, rfl⟩

set_option maxRecDepth 100000 in
set_option maxHeartbeats 4000000 in
theorem pop_any {w : World} {B F R n : Nat} {W : Wo} {f g : Nat → Int} (h : Wk w B W) (ok : Ok W) (hm : Is w W.m F R n f g) (hf : ∀ i, i < n → 0 ≤ f i ∧ f i < 256) (hn : n ≤ 65536) (hgb : ∀ i, 0 ≤ g i ∧ g i < 4294967296) :
    Calls Tryz.prog 80 #[.pointer (some ⟨B, 0, none⟩)] w fun e w' => e = .returned (.int .i64 (popE n f g W)) ∧ Wk w' B (popW n f g W) ∧ Off [B] w w' := by
  have hA := wkApart h hm
  have crg := h.crg
  have brg := ok.f.rg
  go_enter Tryz.func80, Tryz.ntmps80
  go_wp2_with fail
  refine (Clock.OnesCount32_any _ (by omega) (by omega) _).mono ?_
  rintro e w1 ⟨rfl, hb1⟩
  have h1 : Wk w1 B W := h.below hb1
  have o1 : Off [B] w w1 := Off.of_below hb1
  have c36 := h1.cwo
  have f36 := h1.free 36
  have c35 := h1.cda
  have f35 := h1.free 35
  have c13 := h1.c13
  have H2 := hide ((h1.putWo (Clock.ones 16 W.i.rg.toNat : Int)).putDa (W.s.R 13))
  have O2 := hide ((o1.set (p := ⟨B, 36, none⟩) (by simp) (.int .i64 (Clock.ones 16 W.i.rg.toNat : Int))).set (p := ⟨B, 35, none⟩) (by simp) (.int .u32 (W.s.R 13)))
  clear hb1
  go_wp2_with fail
  generalize (w1.setCell ⟨B, 36, none⟩ (.int .i64 (Clock.ones 16 W.i.rg.toNat : Int))).setCell ⟨B, 35, none⟩ (.int .u32 (W.s.R 13)) = w2 at *
  clear c36 f36 c35 f35 c13 h1 o1 crg
  go_loopw [25] (fun i wr => ∃ (k : Nat) (U : Wo), k ≤ 16 ∧ i = .int .i64 k ∧ Wk wr B U ∧ Off [B] w wr ∧ Hid (popR n f g (16 - k) k U = popR n f g 16 0 (popS W)) ∧ Regs U.s ∧ U.i = W.i ∧ U.m = W.m) (fun i _ => 16 - (intOf i).toNat)
  case atStart => exact ⟨0, popS W, by omega, rfl, H2.out, O2.out, rfl, ok.g.r, rfl, rfl⟩
  case round =>
    obtain ⟨k, U, hk, rfl, hU, oU, hP, hR, hI, hM⟩ := hrel
    have mU : Is wr U.m F R n f g := by rw [hM]; exact isOff hm oU (by simpa using hA.1) (by simpa using hA.2.1) (by simpa using hA.2.2)
    have b13 := hR 13
    replace hI := hide hI
    replace hM := hide hM
    by_cases hlt : k < 16
    · have hlt' : (k : Int) < 16 := by omega
      have eK : 16 - k = (16 - (k + 1)) + 1 := by omega
      cases hl : listB U k
      · have HP : Hid (popR n f g (16 - (k + 1)) (k + 1) U = popR n f g 16 0 (popS W)) := by have x := hP.out; rw [eK, popR, hl] at x; exact x
        clear hP eK
        go_wp2_with fail
        refine (lists_any hU _).mono ?_
        rintro e w3 ⟨rfl, hw3⟩
        rw [hl]
        have h3 : Wk w3 B U := by obtain ⟨m, rfl⟩ := hw3; exact hU
        have o3 : Off [B] w w3 := by obtain ⟨m, rfl⟩ := hw3; exact oU.drewN _
        clear hw3
        go_wp2_with fail
        go_roundw
        case rel => exact ⟨k + 1, U, by omega, by go_num, h3, o3, HP, hR, hI.out, hM.out⟩
        case measure => simp [intOf]; omega
      · by_cases he : ldE n (U.s.R 13) = 0
        · have bL := ldV_bd n f g hf hgb (U.s.R 13)
          have HP : Hid (popR n f g (16 - (k + 1)) (k + 1) (lddW (U.reg 13 ((U.s.R 13 + 4) % 4294967296)) k (ldV n f g (U.s.R 13))) = popR n f g 16 0 (popS W)) := by have x := hP.out; rw [eK, popR, hl] at x; simp only [if_true, he] at x; exact x
          clear hP eK
          go_wp2_with fail
          refine (lists_any hU _).mono ?_
          rintro e w3 ⟨rfl, hw3⟩
          rw [hl]
          have h3 : Wk w3 B U := by obtain ⟨m, rfl⟩ := hw3; exact hU
          have o3 : Off [B] w w3 := by obtain ⟨m, rfl⟩ := hw3; exact oU.drewN _
          have m3 : Is w3 U.m F R n f g := by obtain ⟨m, rfl⟩ := hw3; exact isDrewN mU _
          clear hw3
          have cm := h3.cm
          have c13 := h3.c13
          go_wp2_with fail
          go_quiet (first | (go_at_call 108; exact quiet0 (Load_any (isDrewN m3 _) hf hn _ b13.1 b13.2)))
          rw [he]
          generalize hw4 : World.drewN _ _ = w4
          have h4 : Wk w4 B U := by rw [← hw4]; exact h3
          have o4 : Off [B] w w4 := by rw [← hw4]; exact o3.drewN _
          clear hw4 cm c13
          have c13 := h4.c13
          have f13 := h4.free 13
          go_wp2_with fail
          go_region
          have H5 := hide (h4.putR 13 (by decide) ((U.s.R 13 + 4) % 4294967296)).drew
          have O5 := hide (o4.set (p := ⟨B, 13, none⟩) (by simp) (.int .u32 ((U.s.R 13 + 4) % 4294967296))).drew
          go_wp2_with fail
          refine (loaded_any H5.out k _ (by omega) (by omega)).mono ?_
          rintro e w6 ⟨rfl, h6, o6⟩
          go_wp2_with fail
          go_roundw
          case rel => exact ⟨k + 1, _, by omega, by go_num, h6, O5.out.trans o6, HP, (Regs.put hR 13 _ (by omega)).ldd _ _ bL, (ldd_i _ _ _).1.trans hI.out, (ldd_i _ _ _).2.trans hM.out⟩
          case measure => simp [intOf]; omega
        · have HP : Hid (popR n f g 16 0 (popS W) = (U, ldE n (U.s.R 13))) := by have x := hP.out; rw [eK, popR, hl] at x; simp only [if_true, he, if_false] at x; exact x.symm
          have he' : (ldE n (U.s.R 13) == 0) = false := by simpa using he
          clear hP eK he
          go_wp2_with fail
          refine (lists_any hU _).mono ?_
          rintro e w3 ⟨rfl, hw3⟩
          rw [hl]
          have h3 : Wk w3 B U := by obtain ⟨m, rfl⟩ := hw3; exact hU
          have o3 : Off [B] w w3 := by obtain ⟨m, rfl⟩ := hw3; exact oU.drewN _
          have m3 : Is w3 U.m F R n f g := by obtain ⟨m, rfl⟩ := hw3; exact isDrewN mU _
          clear hw3
          have cm := h3.cm
          have c13 := h3.c13
          go_wp2_with fail
          go_quiet (first | (go_at_call 108; exact quiet0 (Load_any (isDrewN m3 _) hf hn _ b13.1 b13.2)))
          go_wp2_with fail
          go_ret
          exact ⟨ret_int (by unfold popE; rw [HP.out]), by unfold popW; rw [HP.out]; exact h3.drewN _, o3.drewN _⟩
    · have e16 : k = 16 := by omega
      subst e16
      have HP : Hid (popR n f g 16 0 (popS W) = (U, 0)) := hP.out.symm
      go_wp2_with fail
      go_ret
      exact ⟨ret_int (by unfold popE; rw [HP.out]), by unfold popW; rw [HP.out]; exact hU, oU⟩
end Go.Proofs.YtkkhofoaolgapaaGreatDoor.Core

