/- What any instruction leaves is a state again: registers are words, flags are 0 or 1. No function of the program is walked here. -/
import Derived.Test.YtkkhofoaolgapaaGreatDoorCoreExec
set_option linter.unusedVariables false
namespace Go.Proofs.YtkkhofoaolgapaaGreatDoor.Core
open Go.RowKit Go.Proofs.YtkkhofoaolgapaaGreatDoor.Mem Go.Proofs.YtkkhofoaolgapaaGreatDoor.Alu

theorem Good.reg {s : St} (h : Good s) (k : Nat) (x : Int) (hx : 0 ≤ x ∧ x < 4294967296) : Good (s.reg k x) := ⟨Regs.put h.r k x hx, h.n, h.z, h.c, h.v⟩
theorem Good.wreg {W : Wo} (h : Good W.s) (k : Nat) (x : Int) (hx : 0 ≤ x ∧ x < 4294967296) : Good (W.reg k x).s := Good.reg h k x hx
theorem putV_bd (rd : Int) {x : Int} (hx : 0 ≤ x ∧ x < 4294967296) : 0 ≤ putV rd x ∧ putV rd x < 4294967296 := by
  unfold putV; split
  · exact bits_u32_bd _ _ _
  · exact hx
theorem Good.put {W : Wo} (h : Good W.s) {x : Int} (hx : 0 ≤ x ∧ x < 4294967296) : Good (W.put x).s := Good.reg h _ _ (putV_bd _ hx)
theorem Good.sgn {W : Wo} (h : Good W.s) (x : Int) : Good (W.sgn x).s := ⟨h.r, show 0 ≤ bit x 31 ∧ bit x 31 ≤ 1 from bit_bd _ _, by have := b01_bd x; show 0 ≤ 1 - b01 x ∧ 1 - b01 x ≤ 1; omega, h.c, h.v⟩
theorem Good.setC {W : Wo} (h : Good W.s) {c : Int} (hc : 0 ≤ c ∧ c ≤ 1) : Good (W.setC c).s := ⟨h.r, h.n, h.z, hc, h.v⟩
theorem Good.setV {W : Wo} (h : Good W.s) {v : Int} (hv : 0 ≤ v ∧ v ≤ 1) : Good (W.setV v).s := ⟨h.r, h.n, h.z, h.c, hv⟩
theorem Good.fin {W : Wo} (h : Good W.s) {x : Int} (hx : 0 ≤ x ∧ x < 4294967296) {F : Wo → Wo} (hF : ∀ U : Wo, Good U.s → Good (F U).s) : Good (W.fin x F).s := by
  unfold Wo.fin
  have h1 : Good (if keepB W then W.put x else W).s := by split; exact h.put hx; exact h
  dsimp only
  split
  · exact hF _ (h1.sgn x)
  · exact h1
theorem cyA_bd (n : Int) {c : Int} : 0 ≤ Imm.cyA n c ∧ Imm.cyA n c ≤ 1 := by
  unfold Imm.cyA
  split
  · split
    · have := Imm.wdA_bd n
      unfold Imm.wdA at this
      rw [if_pos (by assumption)] at this
      omega
    · exact b01_bd _
  · omega
theorem sndC_bd {W : Wo} (ok : Ok W) : 0 ≤ sndC W ∧ sndC W ≤ 1 := by
  unfold sndC
  split
  · exact shC_bd _ _ _ (ok.g.r _).1 (ok.g.r _).2 _
  · split
    · exact cyA_bd _
    · exact ok.g.c
theorem lngP_bd {W : Wo} (ok : Ok W) : 0 ≤ lngP W ∧ lngP W < 18446744073709551616 := by
  have h1 := fstV_bd ok
  have h2 := ok.g.r W.i.rm.toNat
  unfold lngP
  split
  · generalize fstV W * W.s.R W.i.rm.toNat / 4294967296 * 4294967296 + fstV W * W.s.R W.i.rm.toNat % 4294967296 + (W.s.R W.i.ra.toNat * 4294967296 + W.s.R W.i.rd.toNat) = y
    have e : IntKind.u64.wrap y = y % 18446744073709551616 := by simp [IntKind.wrap, IntKind.bits, IntKind.signed]
    rw [e]; omega
  · generalize fstV W = x at *
    generalize W.s.R W.i.rm.toNat = y at *
    have h3 : 0 ≤ x * y := Int.mul_nonneg h1.1 h2.1
    have h4 : x * y ≤ 4294967295 * 4294967295 := Int.mul_le_mul (by omega) (by omega) h2.1 (by omega)
    generalize x * y = p at *
    omega

/-- What is asked of a step's box behind an instruction. -/
structure Fine (W0 W : Wo) : Prop where
  g : Good W.s
  i : W.i = W0.i
  m : W.m = W0.m
  k : (W.hk = W0.hk ∧ W.hc = W0.hc) ∨ (W.hk = 1 ∧ W.hc = 0) ∨ (W.hk = 2 ∧ W.hc = W0.i.im)

theorem Wo.put_i (W : Wo) (x : Int) : (W.put x).i = W.i ∧ (W.put x).m = W.m ∧ (W.put x).hk = W.hk ∧ (W.put x).hc = W.hc := ⟨rfl, rfl, rfl, rfl⟩
theorem Wo.fin_i (W : Wo) (x : Int) (F : Wo → Wo) (hF : ∀ U : Wo, (F U).i = U.i ∧ (F U).m = U.m ∧ (F U).hk = U.hk ∧ (F U).hc = U.hc) : (W.fin x F).i = W.i ∧ (W.fin x F).m = W.m ∧ (W.fin x F).hk = W.hk ∧ (W.fin x F).hc = W.hc := by
  have h1 : (if keepB W then W.put x else W).i = W.i ∧ (if keepB W then W.put x else W).m = W.m ∧ (if keepB W then W.put x else W).hk = W.hk ∧ (if keepB W then W.put x else W).hc = W.hc := by split <;> exact ⟨rfl, rfl, rfl, rfl⟩
  unfold Wo.fin
  dsimp only
  split
  · obtain ⟨a, b, c, d⟩ := hF ((if keepB W then W.put x else W).sgn x)
    exact ⟨a.trans h1.1, b.trans h1.2.1, c.trans h1.2.2.1, d.trans h1.2.2.2⟩
  · exact h1
theorem Fine.of {W0 W : Wo} (g : Good W.s) (h : W.i = W0.i ∧ W.m = W0.m ∧ W.hk = W0.hk ∧ W.hc = W0.hc) : Fine W0 W := ⟨g, h.1, h.2.1, .inl h.2.2⟩

theorem back_fine {W : Wo} (h : Good W.s) (a : Int) : Fine W (backW W a) := by
  unfold backW
  split
  · exact ⟨h, rfl, rfl, .inr (.inl ⟨rfl, rfl⟩)⟩
  · exact .of (h.wreg 15 _ (bits_u32_bd _ _ _)) ⟨rfl, rfl, rfl, rfl⟩
theorem shift_fine {W : Wo} (ok : Ok W) : Fine W (shiftW W) := by
  have hX := shX_bd ok
  have hY : 0 ≤ shY W ∧ shY W < 4294967296 := shW_bd _ _ hX.1 hX.2 _
  have hK : 0 ≤ shK W ∧ shK W ≤ 1 := shC_bd _ _ _ hX.1 hX.2 _
  unfold shiftW
  split
  · exact .of (((ok.g.put hY).sgn _).setC hK) ⟨rfl, rfl, rfl, rfl⟩
  · exact .of (ok.g.put hY) ⟨rfl, rfl, rfl, rfl⟩
theorem comb_fine {W : Wo} (ok : Ok W) : Fine W (combW W) :=
  .of (ok.g.fin (cmbV_bd _ (sndY_bd ok)) (fun _ hU => hU.setC (sndC_bd ok))) (Wo.fin_i _ _ _ (fun _ => ⟨rfl, rfl, rfl, rfl⟩))
theorem sum_fine {W : Wo} (ok : Ok W) : Fine W (sumW W) := by
  have hX := adX_bd W.i.f (fstV_bd ok) (sndY_bd ok)
  have hY := adY_bd W.i.f (fstV_bd ok) (sndY_bd ok)
  have hC : 0 ≤ adC W.i.f W.s.c ∧ adC W.i.f W.s.c ≤ 1 := by have := ok.g.c; unfold adC; repeat' split
                                                            all_goals omega
  have h2 : 0 ≤ sumC W ∧ sumC W ≤ 1 := addC_bd _ _ _ hX.1 hX.2 hY.1 hY.2
  exact .of (ok.g.fin (addS_bd _ _ _) (fun _ hU => (hU.setC h2).setV (addV_bd _ _ _))) (Wo.fin_i _ _ _ (fun _ => ⟨rfl, rfl, rfl, rfl⟩))
theorem mult_fine {W : Wo} (ok : Ok W) : Fine W (multW W) := by
  have hP : 0 ≤ mulP W ∧ mulP W < 4294967296 := by unfold mulP; omega
  unfold multW
  split
  · exact .of ((ok.g.sgn _).put hP) ⟨rfl, rfl, rfl, rfl⟩
  · split
    · exact .of (ok.g.put (by omega)) ⟨rfl, rfl, rfl, rfl⟩
    · split
      · exact .of (ok.g.put (by omega)) ⟨rfl, rfl, rfl, rfl⟩
      · exact .of (ok.g.put hP) ⟨rfl, rfl, rfl, rfl⟩
theorem long_fine {W : Wo} (ok : Ok W) : Fine W (longW W) := by
  have hP := lngP_bd ok
  exact .of ((ok.g.wreg _ _ (by omega)).wreg _ _ (by omega)) ⟨rfl, rfl, rfl, rfl⟩
theorem quo_bd {W : Wo} (ok : Ok W) : 0 ≤ quoV W ∧ quoV W < 4294967296 := by
  have h1 := fstV_bd ok
  have h2 := ok.g.r W.i.rm.toNat
  unfold quoV
  split
  · omega
  · exact ⟨Int.ediv_nonneg h1.1 h2.1, Int.lt_of_le_of_lt (Int.ediv_le_self _ h1.1) h1.2⟩
theorem clz_bd {W : Wo} (ok : Ok W) : 0 ≤ clzV W ∧ clzV W < 4294967296 := by
  have h2 := ok.g.r W.i.rm.toNat
  have h3 := bitLen_bd _ h2.1 h2.2
  unfold clzV; omega
theorem half_bd (W : Wo) : 0 ≤ halfV W ∧ halfV W < 4294967296 := by
  unfold halfV; split
  · exact bits_u32_bd _ _ _
  · omega
theorem stk_fine {W : Wo} (ok : Ok W) : Fine W (stkW W) := by
  unfold stkW
  repeat' split
  · exact .of (ok.g.wreg _ _ (by omega)) ⟨rfl, rfl, rfl, rfl⟩
  · exact .of (ok.g.wreg _ _ (by omega)) ⟨rfl, rfl, rfl, rfl⟩
  · exact .of (ok.g.wreg _ _ (by omega)) ⟨rfl, rfl, rfl, rfl⟩
  · exact .of ok.g ⟨rfl, rfl, rfl, rfl⟩
theorem jmp_fine {W : Wo} (ok : Ok W) : Fine W (jmpW W) := by
  unfold jmpW
  split
  · exact .of ok.g ⟨rfl, rfl, rfl, rfl⟩
  · exact .of (ok.g.wreg _ _ (by omega)) ⟨rfl, rfl, rfl, rfl⟩
theorem comp_fine {W : Wo} (ok : Ok W) : Fine W (compW W) := by
  unfold compW
  by_cases c1 : isShift W.i.f = true
  · rw [if_pos c1]; exact shift_fine ok
  rw [if_neg c1]
  by_cases c2 : isComb W.i.f = true
  · rw [if_pos c2]; exact comb_fine ok
  rw [if_neg c2]
  by_cases c3 : isSum W.i.f = true
  · rw [if_pos c3]; exact sum_fine ok
  rw [if_neg c3]
  split
  · exact mult_fine ok
  split
  · exact long_fine ok
  split
  · exact .of (ok.g.put (quo_bd ok)) ⟨rfl, rfl, rfl, rfl⟩
  split
  · exact .of (ok.g.put (clz_bd ok)) ⟨rfl, rfl, rfl, rfl⟩
  split
  · exact .of (ok.g.put (half_bd W)) ⟨rfl, rfl, rfl, rfl⟩
  split
  · exact stk_fine ok
  split
  · exact jmp_fine ok
  split
  · exact back_fine ok.g _
  split
  · exact ⟨ok.g, rfl, rfl, .inr (.inr ⟨rfl, rfl⟩)⟩
  · exact .of ok.g ⟨rfl, rfl, rfl, rfl⟩

/-- Words of RAM are words. -/
def Words (g : Nat → Int) : Prop := ∀ i, 0 ≤ g i ∧ g i < 4294967296
theorem Words.put {g : Nat → Int} (h : Words g) (k : Nat) (x : Int) (hx : 0 ≤ x ∧ x < 4294967296) : Words (Mem.put g k x) := fun i => by
  unfold Mem.put; split; exact hx; exact h i
theorem Fine.trans {A B C : Wo} (h : Fine A B) (k : Fine B C) : Fine A C := by
  refine ⟨k.g, k.i.trans h.i, k.m.trans h.m, ?_⟩
  rcases k.k with ⟨a, b⟩ | k' | ⟨a, b⟩
  · rcases h.k with ⟨c, d⟩ | ⟨c, d⟩ | ⟨c, d⟩
    · exact .inl ⟨a.trans c, b.trans d⟩
    · exact .inr (.inl ⟨a.trans c, b.trans d⟩)
    · exact .inr (.inr ⟨a.trans c, b.trans d⟩)
  · exact .inr (.inl k')
  · exact .inr (.inr ⟨a, by rw [b, h.i]⟩)
theorem Fine.dat {W0 W : Wo} (h : Fine W0 W) (a k : Int) : Fine W0 (W.dat a k) := ⟨h.g, h.i, h.m, h.k⟩
theorem Fine.refl {W : Wo} (h : Good W.s) : Fine W W := .of h ⟨rfl, rfl, rfl, rfl⟩
theorem ldd_fine {W : Wo} (h : Good W.s) (r x : Int) (hx : 0 ≤ x ∧ x < 4294967296) : Fine W (lddW W r x) := by
  unfold lddW
  split
  · exact back_fine h _
  · exact .of (h.wreg _ _ hx) ⟨rfl, rfl, rfl, rfl⟩
theorem popR_fine (n : Nat) (f g : Nat → Int) (hf : ∀ i, i < n → 0 ≤ f i ∧ f i < 256) (hg : Words g) : ∀ (k r : Nat) (W : Wo), Good W.s → Fine W (popR n f g k r W).1
  | 0, r, W, h => .refl h
  | k + 1, r, W, h => by
    unfold popR
    split
    · split
      · have h1 := h.wreg 13 ((W.s.R 13 + 4) % 4294967296) (by omega)
        have h2 := ldd_fine h1 r (ldV n f g (W.s.R 13)) (ldV_bd n f g hf hg _)
        have h3 := popR_fine n f g hf hg k (r + 1) _ h2.g
        exact (Fine.trans (Fine.of (W0 := W) h1 ⟨rfl, rfl, rfl, rfl⟩) h2).trans h3
      · exact .refl h
    · exact popR_fine n f g hf hg k (r + 1) W h
theorem pop_fine {n : Nat} {f g : Nat → Int} (hf : ∀ i, i < n → 0 ≤ f i ∧ f i < 256) (hg : Words g) {W : Wo} (h : Good W.s) : Fine W (popW n f g W) :=
  Fine.trans (B := popS W) (.of h ⟨rfl, rfl, rfl, rfl⟩) (popR_fine n f g hf hg 16 0 _ h)
theorem exe_fine {n : Nat} {f g : Nat → Int} (hf : ∀ i, i < n → 0 ≤ f i ∧ f i < 256) (hg : Words g) {W : Wo} (ok : Ok W) : Fine W (exeW n f g W) := by
  unfold exeW
  by_cases c1 : isLd W.i.f = true
  · rw [if_pos c1]
    unfold loadW
    split
    · exact .of (Good.put (W := W.dat (adrV W) 1) ok.g (ldV_bd n f g hf hg _)) ⟨rfl, rfl, rfl, rfl⟩
    · exact .of ok.g ⟨rfl, rfl, rfl, rfl⟩
  rw [if_neg c1]
  by_cases c2 : isSt W.i.f = true
  · rw [if_pos c2]; exact .of ok.g ⟨rfl, rfl, rfl, rfl⟩
  rw [if_neg c2]
  split
  · exact .of (ok.g.wreg 13 _ (by unfold pshP; omega)) ⟨rfl, rfl, rfl, rfl⟩
  split
  · exact pop_fine hf hg ok.g
  · exact comp_fine ok
theorem pshR_words : ∀ (k r : Nat) (W : Wo) (p : Int) (g : Nat → Int), Good W.s → Words g → Words (pshR k r W p g).1
  | 0, r, W, p, g, h, hg => hg
  | k + 1, r, W, p, g, h, hg => by
    unfold pshR
    split
    · split
      · exact pshR_words k (r + 1) W _ _ h (hg.put _ _ (h.r _))
      · exact hg
    · exact pshR_words k (r + 1) W p g h hg
theorem exe_words {g : Nat → Int} (hg : Words g) {W : Wo} (ok : Ok W) : Words (exeG g W) := by
  unfold exeG
  split
  · unfold storG
    split
    · exact hg.put _ _ (ok.g.r _)
    · exact hg
  · split
    · exact pshR_words 16 0 _ _ g (ok.g.wreg 13 _ (by unfold pshP; omega)) hg
    · exact hg

theorem shp_95 : Inst.shp 95 = 31 ∧ Inst.shp 96 = 31 := by decide +kernel
set_option maxHeartbeats 4000000 in
/-- A right instruction's fields lie within their bounds. -/
theorem fit_of_right {i : Ins} (h : i.right = true) (g0 : -9223372036854775808 ≤ i.rg) (g1 : i.rg ≤ 9223372036854775807) : Fit i ∧ (i.f = 95 ∨ i.f = 96 → i.rd ≠ i.ra) := by
  have hp : i.f = 95 ∨ i.f = 96 → i.rd ≠ i.ra := fun hf => by
    have h' := h
    unfold Ins.right Inst.right at h'
    simp only [Bool.and_eq_true] at h'
    have h3 := h'.2.2.1
    unfold Inst.pairR at h3
    have e : Inst.shp i.f = 31 := by rcases hf with e | e <;> rw [e]; exact shp_95.1; exact shp_95.2
    rw [if_neg (by omega), if_pos e] at h3
    exact of_decide_eq_true h3
  refine ⟨?_, hp⟩
  obtain ⟨⟨i0, i1⟩, h2⟩ := Code.at_own (show Inst.right i.f i.rd i.rn i.rm i.ra i.im i.kd i.bs i.st i.cd i.rg = true from h) g0 g1
  have hs : 1 ≤ Inst.shp i.f ∧ Inst.shp i.f ≤ 34 := by
    have := Inst.shp_yes (f := i.f) (by unfold Inst.isF; simp; omega)
    omega
  obtain ⟨f, rd, rn, rm, ra, im, kd, bs, st, cd, rg⟩ := i
  dsimp only at *
  have HI : ∀ s, s = Inst.shp f → 1 ≤ s → s ≤ 34 → (if s < 17 then Inst.narrowB f s rd rn rm ra im kd bs st cd rg else Inst.wideB s rd rn rm ra im kd bs st cd rg) = true → (0 ≤ rd ∧ rd ≤ 14) ∧ (0 ≤ rn ∧ rn ≤ 14) ∧ (0 ≤ rm ∧ rm ≤ 14) ∧ (0 ≤ ra ∧ ra ≤ 14) ∧ (0 ≤ kd ∧ kd ≤ 3) ∧ (0 ≤ bs ∧ bs ≤ 32) ∧ (s = 1 → 0 ≤ im ∧ im ≤ 32) ∧ (0 ≤ cd ∧ cd ≤ 13) ∧ (0 ≤ rg ∧ rg < 65536) := by
    clear h h2 hp hs g0 g1
    intro s _ h1 h34 h
    rcases (show s = 1 ∨ s = 2 ∨ s = 3 ∨ s = 4 ∨ s = 5 ∨ s = 6 ∨ s = 7 ∨ s = 8 ∨ s = 9 ∨ s = 10 ∨ s = 11 ∨ s = 12 ∨ s = 13 ∨ s = 14 ∨ s = 15 ∨ s = 16 ∨ s = 17 ∨ s = 18 ∨ s = 19 ∨ s = 20 ∨ s = 21 ∨ s = 22 ∨ s = 23 ∨ s = 24 ∨ s = 25 ∨ s = 26 ∨ s = 27 ∨ s = 28 ∨ s = 29 ∨ s = 30 ∨ s = 31 ∨ s = 32 ∨ s = 33 ∨ s = 34 by omega) with rfl | rfl | rfl | rfl | rfl | rfl | rfl | rfl | rfl | rfl | rfl | rfl | rfl | rfl | rfl | rfl | rfl | rfl | rfl | rfl | rfl | rfl | rfl | rfl | rfl | rfl | rfl | rfl | rfl | rfl | rfl | rfl | rfl | rfl
    · have := Code.lin_1 h; omega
    · have := Code.lin_2 h; omega
    · have := Code.lin_3 h; omega
    · have := Code.lin_4 h; omega
    · have := Code.lin_5 h; omega
    · have := Code.lin_6 h; omega
    · have := Code.lin_7 h; omega
    · have := Code.lin_8 h; omega
    · have := Code.lin_9 h; omega
    · have := Code.lin_10 h; omega
    · have := Code.lin_11 h; omega
    · have := Code.lin_12 h; omega
    · have := Code.lin_13 h; omega
    · have := Code.lin_14 h; omega
    · have := Code.lin_15 h; omega
    · have := Code.lin_16 h; omega
    · have := Code.lin_17 h; omega
    · have := Code.lin_18 h; omega
    · have := Code.lin_19 h; omega
    · have := Code.lin_20 h; omega
    · have := Code.lin_21 h; omega
    · have := Code.lin_22 h; omega
    · have := Code.lin_23 h; omega
    · have := Code.lin_24 h; omega
    · have := Code.lin_25 h; omega
    · have := Code.lin_26 h; omega
    · have := Code.lin_27 h; omega
    · have := Code.lin_28 h; omega
    · have := Code.lin_29 h; omega
    · have := Code.lin_30 h; omega
    · have := Code.lin_31 h; omega
    · have := Code.lin_32 h; omega
    · have := Code.lin_33 h; omega
    · have := Code.lin_34 h; omega
  obtain ⟨a1, a2, a3, a4, a5, a6, a7, a8, a9⟩ := HI _ rfl hs.1 hs.2 h2
  exact ⟨a1, a2, a3, a4, a5, a6, a7, a8, a9⟩
end Go.Proofs.YtkkhofoaolgapaaGreatDoor.Core

