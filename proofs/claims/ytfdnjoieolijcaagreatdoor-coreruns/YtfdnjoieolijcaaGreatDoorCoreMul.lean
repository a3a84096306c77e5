/- Products, quotients, moves, ways: package core. -/
import Derived.Test.YtfdnjoieolijcaaGreatDoorCoreSum
set_option linter.unusedVariables false
namespace Go.Proofs.YtfdnjoieolijcaaGreatDoor.Core
open Go.RowKit Go.Proofs.YtfdnjoieolijcaaGreatDoor.Mem Go.Proofs.YtfdnjoieolijcaaGreatDoor.Alu

/-- How far the flags' way of a word goes: facts of a box at a register. -/
theorem rn_of {a : Int} (h : 0 ≤ a ∧ a ≤ 14) : ∃ k : Nat, a = k ∧ a.toNat = k ∧ (k : Int) < 16 ∧ k < 16 := by
  obtain ⟨k, hk⟩ := Int.eq_ofNat_of_zero_le h.1
  exact ⟨k, hk, by omega, by omega, by omega⟩

def mulP (W : Wo) : Int := fstV W * W.s.R W.i.rm.toNat % 4294967296
def multW (W : Wo) : Wo :=
  if W.i.f = 25 then (W.sgn (mulP W)).put (mulP W) else if W.i.f = 93 then W.put ((mulP W + W.s.R W.i.ra.toNat) % 4294967296)
  else if W.i.f = 94 then W.put ((W.s.R W.i.ra.toNat - mulP W) % 4294967296) else W.put (mulP W)

set_option maxHeartbeats 2000000 in
theorem multiply_any {w : World} {B : Nat} {W : Wo} (h : Wk w B W) (hL : Inst.Laid w) (hB : NoTab B) (ok : Ok W) :
    Calls Tryz.prog 161 #[.pointer (some ⟨B, 0, none⟩)] w fun e w' => e = .returned (.tuple #[]) ∧ Wk w' B (multW W) ∧ Off [B] w w' := by
  have r1 := ok.f.rd
  have r2 := ok.f.rn
  obtain ⟨k, hk, hkn, hk', hk2⟩ := rn_of ok.f.rm
  obtain ⟨j, hj, hjn, hj', hj2⟩ := rn_of ok.f.ra
  have bF := fstV_bd ok
  have bP : 0 ≤ mulP W ∧ mulP W < 4294967296 := by unfold mulP; omega
  have HP : Hid (mulP W = fstV W * W.s.R k % 4294967296) := by unfold Hid mulP; rw [hkn]
  have HM : Hid (multW W = if W.i.f = 25 then (W.sgn (mulP W)).put (mulP W) else if W.i.f = 93 then W.put ((mulP W + W.s.R j) % 4294967296) else if W.i.f = 94 then W.put ((W.s.R j - mulP W) % 4294967296) else W.put (mulP W)) := by unfold Hid multW; rw [hjn]
  have crm := h.crm
  rw [hk] at crm
  have cra := h.cra
  rw [hj] at cra
  have ck := h.reg k hk2
  have cj := h.reg j hj2
  have bk := ok.g.r k
  have bj := ok.g.r j
  have cf := h.cf
  clear hk hkn hj hjn
  go_enter Tryz.func161, Tryz.ntmps161
  go_wp2_with fail
  go_quiet (first | (go_at_call 190; exact quietN (first_any (h.drewN _) (shs_drewN hL.shs _) (by omega) (by omega))))
  try rw [← HP.out]
  go_wp2_with fail
  · rename_i e25
    generalize hw0 : World.drewN _ _ = w0
    have h0 : Wk w0 B W := by rw [← hw0]; exact h
    have o0 : Off [B] w w0 := by rw [← hw0]; first | exact (Off.refl _ _).drewN _ | exact ((Off.refl _ _).drewN _).drewN _
    clear hw0
    refine (signs_any h0 _ bP).mono ?_
    rintro e w1 ⟨rfl, h1, o1⟩
    go_wp2_with fail
    refine (put_any h1 (by show 0 ≤ W.i.rd; omega) (by show W.i.rd < 16; omega) _).mono ?_
    rintro e w2 ⟨rfl, h2, o2⟩
    go_wp2_with fail
    go_end0
    exact ⟨rfl, by rw [HM.out]; go_light; simp_all, (o0.trans o1).trans o2⟩
  · go_quiet (fail)
    go_wp2_with fail
    generalize hw0 : World.drewN _ _ = w0
    have h0 : Wk w0 B W := by rw [← hw0]; exact h
    have o0 : Off [B] w w0 := by rw [← hw0]; first | exact (Off.refl _ _).drewN _ | exact ((Off.refl _ _).drewN _).drewN _
    clear hw0
    refine (put_any h0 (by omega) (by omega) _).mono ?_
    rintro e w1 ⟨rfl, h1, o1⟩
    go_wp2_with fail
    go_end0
    exact ⟨rfl, by rw [HM.out]; go_light; simp_all, o0.trans o1⟩
  · go_quiet (fail)
    go_wp2_with fail
    generalize hw0 : World.drewN _ _ = w0
    have h0 : Wk w0 B W := by rw [← hw0]; exact h
    have o0 : Off [B] w w0 := by rw [← hw0]; first | exact (Off.refl _ _).drewN _ | exact ((Off.refl _ _).drewN _).drewN _
    clear hw0
    refine (put_any h0 (by omega) (by omega) _).mono ?_
    rintro e w1 ⟨rfl, h1, o1⟩
    go_wp2_with fail
    go_end0
    exact ⟨rfl, by rw [HM.out]; go_light; simp_all, o0.trans o1⟩
  · generalize hw0 : World.drewN _ _ = w0
    have h0 : Wk w0 B W := by rw [← hw0]; exact h
    have o0 : Off [B] w w0 := by rw [← hw0]; first | exact (Off.refl _ _).drewN _ | exact ((Off.refl _ _).drewN _).drewN _
    clear hw0
    refine (put_any h0 (by omega) (by omega) _).mono ?_
    rintro e w1 ⟨rfl, h1, o1⟩
    go_wp2_with fail
    go_end0
    exact ⟨rfl, by rw [HM.out]; go_light; simp_all, o0.trans o1⟩

def lngP (W : Wo) : Int := if W.i.f = 96 then IntKind.u64.wrap (fstV W * W.s.R W.i.rm.toNat / 4294967296 * 4294967296 + fstV W * W.s.R W.i.rm.toNat % 4294967296 + (W.s.R W.i.ra.toNat * 4294967296 + W.s.R W.i.rd.toNat))
  else fstV W * W.s.R W.i.rm.toNat / 4294967296 * 4294967296 + fstV W * W.s.R W.i.rm.toNat % 4294967296
def longW (W : Wo) : Wo := (W.reg W.i.rd.toNat (lngP W % 4294967296)).reg W.i.ra.toNat (lngP W / 4294967296)

set_option maxHeartbeats 2000000 in
theorem multiplyLong_any {w : World} {B : Nat} {W : Wo} (h : Wk w B W) (hL : Inst.Laid w) (ok : Ok W) (hne : W.i.rd ≠ W.i.ra) :
    Calls Tryz.prog 162 #[.pointer (some ⟨B, 0, none⟩)] w fun e w' => e = .returned (.tuple #[]) ∧ Wk w' B (longW W) ∧ Off [B] w w' := by
  have r1 := ok.f.rd
  have r2 := ok.f.rn
  obtain ⟨k, hk, hkn, hk', hk2⟩ := rn_of ok.f.rm
  obtain ⟨j, hj, hjn, hj', hj2⟩ := rn_of ok.f.ra
  obtain ⟨d, hd, hdn, hd', hd2⟩ := rn_of ok.f.rd
  have hdj : d ≠ j := fun e => hne (by rw [hd, hj, e])
  have bF := fstV_bd ok
  have bk := ok.g.r k
  have bj := ok.g.r j
  have bd := ok.g.r d
  have HP : Hid (lngP W = if W.i.f = 96 then IntKind.u64.wrap (fstV W * W.s.R k / 4294967296 * 4294967296 + fstV W * W.s.R k % 4294967296 + (W.s.R j * 4294967296 + W.s.R d)) else fstV W * W.s.R k / 4294967296 * 4294967296 + fstV W * W.s.R k % 4294967296) := by unfold Hid lngP; rw [hkn, hjn, hdn]
  have HM : Hid (longW W = (W.reg d (lngP W % 4294967296)).reg j (lngP W / 4294967296)) := by unfold Hid longW; rw [hjn, hdn]
  have bp : 0 ≤ fstV W * W.s.R k ∧ fstV W * W.s.R k ≤ 4294967295 * 4294967295 := ⟨Int.mul_nonneg bF.1 bk.1, Int.mul_le_mul (by omega) (by omega) bk.1 (by omega)⟩
  have crm := h.crm
  rw [hk] at crm
  have cra := h.cra
  rw [hj] at cra
  have crd := h.crd
  rw [hd] at crd
  have ck := h.reg k hk2
  have cj := h.reg j hj2
  have cd := h.reg d hd2
  have fj := h.free j
  have fd := h.free d
  have cf := h.cf
  clear hk hkn hjn hdn hne
  go_enter Tryz.func162, Tryz.ntmps162
  go_wp2_with fail
  go_quiet (first | (go_at_call 190; exact quietN (first_any (h.drewN _) (shs_drewN hL.shs _) (by omega) (by omega))) | (go_at_call 201; exact quiet0 (Wide_any _ _ bF.1 bF.2 bk.1 bk.2 _)) | (go_at_call 200; exact quiet0 (Pair_any _ _ (by omega) (by omega) (by omega) (by omega) _)))
  generalize hw0 : World.drewN _ _ = w0
  have h0 : Wk w0 B W := by rw [← hw0]; exact h
  have o0 : Off [B] w w0 := by rw [← hw0]; exact (Off.refl _ _).drewN _
  clear hw0 crm cra crd ck cj cd fj fd cf
  have cra := h0.cra
  rw [hj] at cra
  have crd := h0.crd
  rw [hd] at crd
  have cj := h0.reg j hj2
  have cd := h0.reg d hd2
  have fj := h0.free j
  have fd := h0.free d
  have cf := h0.cf
  by_cases h96 : W.i.f = 96
  · have HQ := HP.out
    rw [if_pos h96] at HQ
    replace HQ := hide HQ
    clear HP
    go_wp2_with fail
    go_quiet (first | (go_at_call 200; exact quiet0 (Pair_any _ _ bd.1 bd.2 bj.1 bj.2 _)))
    go_wp2_with fail
    rw [← unhide HQ]
    have bq : 0 ≤ lngP W ∧ lngP W < 18446744073709551616 := by rw [unhide HQ]; show 0 ≤ _ % 18446744073709551616 ∧ _ % 18446744073709551616 < 18446744073709551616; omega
    generalize hw1 : World.drewN _ _ = w1
    have h1 : Wk w1 B W := by rw [← hw1]; exact h0
    have o1 : Off [B] w w1 := by rw [← hw1]; exact o0.drewN _
    clear hw1 cra crd cj cd fj fd cf
    have cra := h1.cra
    rw [hj] at cra
    have crd := h1.crd
    rw [hd] at crd
    have cj := h1.reg j hj2
    have cd := h1.reg d hd2
    have fj := h1.free j
    have fd := h1.free d
    clear hj hd
    go_region
    all_goals go_end0
    · exact ⟨rfl, by rw [HM.out]; exact ((h1.putR d hd2 _).putR j hj2 _).drew, ((o1.set (by simp) _).set (by simp) _).drew⟩
  · have HQ := HP.out
    rw [if_neg h96] at HQ
    replace HQ := hide HQ
    clear HP
    go_wp2_with fail
    clear hj hd
    rw [← unhide HQ]
    have bq : 0 ≤ lngP W ∧ lngP W < 18446744073709551616 := by rw [unhide HQ]; omega
    go_region
    all_goals go_end0
    · exact ⟨rfl, by rw [HM.out]; exact ((h0.putR d hd2 _).putR j hj2 _).drew, ((o0.set (by simp) _).set (by simp) _).drew⟩
end Go.Proofs.YtfdnjoieolijcaaGreatDoor.Core

