/- What shifts and what is a sum: package core. -/
import Derived.Test.YtfdnjoieolijcaaGreatDoorCoreComb
set_option linter.unusedVariables false
namespace Go.Proofs.YtfdnjoieolijcaaGreatDoor.Core
open Go.RowKit Go.Proofs.YtfdnjoieolijcaaGreatDoor.Mem Go.Proofs.YtfdnjoieolijcaaGreatDoor.Alu

theorem adX_bd (f : Int) {x y : Int} (hx : 0 ≤ x ∧ x < 4294967296) (hy : 0 ≤ y ∧ y < 4294967296) : 0 ≤ adX f x y ∧ adX f x y < 4294967296 := by
  unfold adX; repeat' split
  all_goals omega
theorem adY_bd (f : Int) {x y : Int} (hx : 0 ≤ x ∧ x < 4294967296) (hy : 0 ≤ y ∧ y < 4294967296) : 0 ≤ adY f x y ∧ adY f x y < 4294967296 := by
  unfold adY; repeat' split
  all_goals omega

def sumS (W : Wo) : Int := addS (adX W.i.f (fstV W) (sndY W)) (adY W.i.f (fstV W) (sndY W)) (adC W.i.f W.s.c)
def sumC (W : Wo) : Int := addC (adX W.i.f (fstV W) (sndY W)) (adY W.i.f (fstV W) (sndY W)) (adC W.i.f W.s.c)
def sumV (W : Wo) : Int := addV (adX W.i.f (fstV W) (sndY W)) (adY W.i.f (fstV W) (sndY W)) (adC W.i.f W.s.c)
def sumW (W : Wo) : Wo := W.fin (sumS W) (fun U => (U.setC (sumC W)).setV (sumV W))

set_option maxHeartbeats 2000000 in
theorem sum_any {w : World} {B : Nat} {W : Wo} (h : Wk w B W) (hL : Inst.Laid w) (hB : NoTab B) (ok : Ok W) :
    Calls Tryz.prog 160 #[.pointer (some ⟨B, 0, none⟩)] w fun e w' => e = .returned (.tuple #[]) ∧ Wk w' B (sumW W) ∧ Off [B] w w' := by
  have r1 := ok.f.rd
  have bX := adX_bd W.i.f (fstV_bd ok) (sndY_bd ok)
  have bY := adY_bd W.i.f (fstV_bd ok) (sndY_bd ok)
  have bS : 0 ≤ sumS W ∧ sumS W < 4294967296 := addS_bd _ _ _
  go_enter Tryz.func160, Tryz.ntmps160
  go_wp2_with fail
  refine (addends_any h hL ok).mono ?_
  rintro e w0 ⟨rfl, hw0⟩
  have h0 : Wk w0 B W := by obtain ⟨m, rfl⟩ := hw0; exact h
  have hL0 : Inst.Laid w0 := by obtain ⟨m, rfl⟩ := hw0; exact laid_drewN hL _
  have o0 : Off [B] w w0 := by obtain ⟨m, rfl⟩ := hw0; exact (Off.refl _ _).drewN _
  clear hw0
  go_wp2_with fail
  refine (Add_any _ _ _ bX.1 bX.2 bY.1 bY.2 _).mono ?_
  rintro e w' ⟨rfl, rfl⟩
  rw [show addS _ _ _ = sumS W from rfl, show addC _ _ _ = sumC W from rfl, show addV _ _ _ = sumV W from rfl]
  clear bX bY
  cases hk : keepB W <;> cases hs : setsB W
  · go_wp2_with (first | (go_at_call 197; refine (keeps_any h0 hL0.shs).mono ?_; rintro e w' ⟨rfl, rfl⟩; rw [hk]) | (go_at_call 193; refine (sets_any h0 hL0.shs).mono ?_; rintro e w' ⟨rfl, rfl⟩; rw [hs]))
    go_end0
    exact ⟨rfl, by unfold sumW Wo.fin; rw [hk, hs]; exact h0, o0⟩
  · go_wp2_with (first | (go_at_call 197; refine (keeps_any h0 hL0.shs).mono ?_; rintro e w' ⟨rfl, rfl⟩; rw [hk]) | (go_at_call 193; refine (sets_any h0 hL0.shs).mono ?_; rintro e w' ⟨rfl, rfl⟩; rw [hs]))
    refine (signs_any h0 _ bS).mono ?_
    rintro e w2 ⟨rfl, h2, o2⟩
    have c2 := h2.cc
    have f2 := h2.free 18
    have c3 := h2.cv
    have f3 := h2.free 19
    go_wp2_with fail
    go_end0
    exact ⟨rfl, by unfold sumW Wo.fin; rw [hk, hs]; exact (h2.putC _).putV _, ((o0.trans o2).set (by simp) _).set (by simp) _⟩
  · go_wp2_with (first | (go_at_call 197; refine (keeps_any h0 hL0.shs).mono ?_; rintro e w' ⟨rfl, rfl⟩; rw [hk]))
    refine (put_any h0 (by omega) (by omega) _).mono ?_
    rintro e w1 ⟨rfl, h1, o1⟩
    have hL1 := o1.laid1 hL0 hB
    go_wp2_with (first | (go_at_call 193; refine (sets_any h1 hL1.shs).mono ?_; rintro e w' ⟨rfl, rfl⟩; rw [sets_put, hs]))
    go_end0
    exact ⟨rfl, by unfold sumW Wo.fin; rw [hk, hs]; exact h1, (o0.trans o1)⟩
  · go_wp2_with (first | (go_at_call 197; refine (keeps_any h0 hL0.shs).mono ?_; rintro e w' ⟨rfl, rfl⟩; rw [hk]))
    refine (put_any h0 (by omega) (by omega) _).mono ?_
    rintro e w1 ⟨rfl, h1, o1⟩
    have hL1 := o1.laid1 hL0 hB
    go_wp2_with (first | (go_at_call 193; refine (sets_any h1 hL1.shs).mono ?_; rintro e w' ⟨rfl, rfl⟩; rw [sets_put, hs]))
    refine (signs_any h1 _ bS).mono ?_
    rintro e w2 ⟨rfl, h2, o2⟩
    have c2 := h2.cc
    have f2 := h2.free 18
    have c3 := h2.cv
    have f3 := h2.free 19
    go_wp2_with fail
    go_end0
    exact ⟨rfl, by unfold sumW Wo.fin; rw [hk, hs]; exact (h2.putC _).putV _, (((o0.trans o1).trans o2).set (by simp) _).set (by simp) _⟩

/-- What is shifted, and how far. -/
def shX (W : Wo) : Int := if Inst.shp W.i.f = 1 then W.s.R W.i.rm.toNat else fstV W
def shN (W : Wo) : Int := if Inst.shp W.i.f = 1 then W.i.im else bits .and .u32 (W.s.R W.i.rm.toNat) 255
def shY (W : Wo) : Int := shW (skd W.i.f) (shX W) (shN W).toNat
def shK (W : Wo) : Int := shC (skd W.i.f) (shX W) W.s.c (shN W).toNat
def shiftW (W : Wo) : Wo := if setsB W then ((W.put (shY W)).sgn (shY W)).setC (shK W) else W.put (shY W)
theorem shX_bd {W : Wo} (ok : Ok W) : 0 ≤ shX W ∧ shX W < 4294967296 := by unfold shX; split; exact ok.g.r _; exact fstV_bd ok
theorem low8 (x : Int) (hx : 0 ≤ x ∧ x < 4294967296) : 0 ≤ bits .and .u32 x 255 ∧ bits .and .u32 x 255 ≤ 255 := by
  have := u32_mask 8 x 255 hx.1 hx.2 (by decide) (by decide)
  rw [this]; omega
theorem shN_bd {W : Wo} (ok : Ok W) : 0 ≤ shN W ∧ shN W ≤ 255 := by
  unfold shN; split
  · have := ok.f.im (by assumption); omega
  · exact low8 _ (ok.g.r _)
theorem skd_bd (f : Int) : 0 ≤ skd f ∧ skd f ≤ 3 := by unfold skd; repeat' split
                                                       all_goals omega

set_option maxHeartbeats 2000000 in
theorem shift_any {w : World} {B : Nat} {W : Wo} (h : Wk w B W) (hL : Inst.Laid w) (hB : NoTab B) (ok : Ok W) :
    Calls Tryz.prog 158 #[.pointer (some ⟨B, 0, none⟩)] w fun e w' => e = .returned (.tuple #[]) ∧ Wk w' B (shiftW W) ∧ Off [B] w w' := by
  have r1 := ok.f.rd
  have r2 := ok.f.rn
  have r3 := ok.f.rm
  have bX := shX_bd ok
  have bN := shN_bd ok
  have bK := skd_bd W.i.f
  have bY : 0 ≤ shY W ∧ shY W < 4294967296 := shW_bd _ _ bX.1 bX.2 _
  have b8 := low8 (W.s.R W.i.rm.toNat) (ok.g.r _)
  obtain ⟨k, hk⟩ := Int.eq_ofNat_of_zero_le r3.1
  have hkn : W.i.rm.toNat = k := by omega
  have HX : Hid (shX W = if Inst.shp W.i.f = 1 then W.s.R k else fstV W) := by unfold Hid shX; rw [hkn]
  have HN : Hid (shN W = if Inst.shp W.i.f = 1 then W.i.im else bits .and .u32 (W.s.R k) 255) := by unfold Hid shN; rw [hkn]
  rw [hkn] at b8
  have hk' : (k : Int) < 16 := by omega
  have crm := h.crm
  rw [hk] at crm
  have ck := h.reg k (by omega)
  have cf := h.cf
  have cc := h.cc
  have cim := h.cim
  clear hk hkn r3
  go_enter Tryz.func158, Tryz.ntmps158
  go_wp2_with fail
  go_quiet (first | (go_at_call 190; exact quietN (first_any (h.drewN _) (shs_drewN hL.shs _) (by omega) (by omega))))
  by_cases h1 : Inst.shp W.i.f = 1
  · have HX' : Hid (shX W = W.s.R k) := by unfold Hid; rw [HX.out, if_pos h1]
    have HN' : Hid (shN W = W.i.im) := by unfold Hid; rw [HN.out, if_pos h1]
    go_wp2_with (first | (go_at_call 179; refine (Inst.Shape_any _ _ (shs_drewN hL.shs _)).mono ?_; rintro e w' ⟨rfl, rfl⟩))
    go_quiet (fail)
    rw [← HX'.out, ← HN'.out]
    go_wp2_with fail
    generalize hw0 : World.drewN _ _ = w0
    have h0 : Wk w0 B W := by rw [← hw0]; exact h
    have hL0 : Inst.Laid w0 := by rw [← hw0]; first | exact laid_drewN hL _ | exact laid_drewN (laid_drewN hL _) _
    have o0 : Off [B] w w0 := by rw [← hw0]; first | exact (Off.refl _ _).drewN _ | exact ((Off.refl _ _).drewN _).drewN _
    have cf := h0.cf
    have cc := h0.cc
    clear hw0 HX HN HX' HN'
    go_quiet (first | (go_at_call 192; exact quiet0 (shiftKind_any _ _)) | (go_at_call 191; exact quiet0 (Shift_yes _ _ _ _ bK.1 bK.2 bN.1 bN.2 bX.1 bX.2 _)))
    rw [show shW _ _ _ = shY W from rfl, show shC _ _ _ _ = shK W from rfl]
    generalize hw1 : World.drewN _ _ = w1
    have h1 : Wk w1 B W := by rw [← hw1]; exact h0
    have hL1 : Inst.Laid w1 := by rw [← hw1]; exact laid_drewN hL0 _
    have o1 : Off [B] w w1 := by rw [← hw1]; exact o0.drewN _
    clear hw1
    go_wp2_with fail
    refine (put_any h1 (by omega) (by omega) _).mono ?_
    rintro e w2 ⟨rfl, h2, o2⟩
    have hL2 := o2.laid1 hL1 hB
    cases hs : setsB W
    · go_wp2_with (first | (go_at_call 193; refine (sets_any h2 hL2.shs).mono ?_; rintro e w' ⟨rfl, rfl⟩; rw [sets_put, hs]))
      go_end0
      exact ⟨rfl, by unfold shiftW; rw [hs]; exact h2, o1.trans o2⟩
    · go_wp2_with (first | (go_at_call 193; refine (sets_any h2 hL2.shs).mono ?_; rintro e w' ⟨rfl, rfl⟩; rw [sets_put, hs]))
      refine (signs_any h2 _ bY).mono ?_
      rintro e w3 ⟨rfl, h3, o3⟩
      have c3 := h3.cc
      have f3 := h3.free 18
      go_wp2_with fail
      go_end0
      exact ⟨rfl, by unfold shiftW; rw [hs]; exact h3.putC _, ((o1.trans o2).trans o3).set (by simp) _⟩
  · have HX' : Hid (shX W = fstV W) := by unfold Hid; rw [HX.out, if_neg h1]
    have HN' : Hid (shN W = bits .and .u32 (W.s.R k) 255) := by unfold Hid; rw [HN.out, if_neg h1]
    go_wp2_with (first | (go_at_call 179; refine (Inst.Shape_any _ _ (shs_drewN hL.shs _)).mono ?_; rintro e w' ⟨rfl, rfl⟩))
    rw [← HX'.out, ← HN'.out]
    generalize hw0 : World.drewN _ _ = w0
    have h0 : Wk w0 B W := by rw [← hw0]; exact h
    have hL0 : Inst.Laid w0 := by rw [← hw0]; first | exact laid_drewN hL _ | exact laid_drewN (laid_drewN hL _) _
    have o0 : Off [B] w w0 := by rw [← hw0]; first | exact (Off.refl _ _).drewN _ | exact ((Off.refl _ _).drewN _).drewN _
    have cf := h0.cf
    have cc := h0.cc
    clear hw0 HX HN HX' HN'
    go_quiet (first | (go_at_call 192; exact quiet0 (shiftKind_any _ _)) | (go_at_call 191; exact quiet0 (Shift_yes _ _ _ _ bK.1 bK.2 bN.1 bN.2 bX.1 bX.2 _)))
    rw [show shW _ _ _ = shY W from rfl, show shC _ _ _ _ = shK W from rfl]
    generalize hw1 : World.drewN _ _ = w1
    have h1 : Wk w1 B W := by rw [← hw1]; exact h0
    have hL1 : Inst.Laid w1 := by rw [← hw1]; exact laid_drewN hL0 _
    have o1 : Off [B] w w1 := by rw [← hw1]; exact o0.drewN _
    clear hw1
    go_wp2_with fail
    refine (put_any h1 (by omega) (by omega) _).mono ?_
    rintro e w2 ⟨rfl, h2, o2⟩
    have hL2 := o2.laid1 hL1 hB
    cases hs : setsB W
    · go_wp2_with (first | (go_at_call 193; refine (sets_any h2 hL2.shs).mono ?_; rintro e w' ⟨rfl, rfl⟩; rw [sets_put, hs]))
      go_end0
      exact ⟨rfl, by unfold shiftW; rw [hs]; exact h2, o1.trans o2⟩
    · go_wp2_with (first | (go_at_call 193; refine (sets_any h2 hL2.shs).mono ?_; rintro e w' ⟨rfl, rfl⟩; rw [sets_put, hs]))
      refine (signs_any h2 _ bY).mono ?_
      rintro e w3 ⟨rfl, h3, o3⟩
      have c3 := h3.cc
      have f3 := h3.free 18
      go_wp2_with fail
      go_end0
      exact ⟨rfl, by unfold shiftW; rw [hs]; exact h3.putC _, ((o1.trans o2).trans o3).set (by simp) _⟩
end Go.Proofs.YtfdnjoieolijcaaGreatDoor.Core

