/- Quotients, moves, ways: package core. -/
import Derived.Test.YtfdnjoieolijcaaGreatDoorCoreMul
import Derived.Deep.RegionWith
set_option linter.unusedVariables false
namespace Go.Proofs.YtfdnjoieolijcaaGreatDoor.Core
open Go.RowKit Go.Proofs.YtfdnjoieolijcaaGreatDoor.Mem Go.Proofs.YtfdnjoieolijcaaGreatDoor.Alu

def quoV (W : Wo) : Int := if W.s.R W.i.rm.toNat = 0 then 0 else fstV W / W.s.R W.i.rm.toNat

set_option maxHeartbeats 2000000 in
theorem divide_any {w : World} {B : Nat} {W : Wo} (h : Wk w B W) (hL : Inst.Laid w) (hB : NoTab B) (ok : Ok W) :
    Calls Tryz.prog 163 #[.pointer (some ⟨B, 0, none⟩)] w fun e w' => e = .returned (.tuple #[]) ∧ Wk w' B (W.put (quoV W)) ∧ Off [B] w w' := by
  have r1 := ok.f.rd
  have r2 := ok.f.rn
  obtain ⟨k, hk, hkn, hk', hk2⟩ := rn_of ok.f.rm
  have HQ : Hid (quoV W = if W.s.R k = 0 then 0 else fstV W / W.s.R k) := by unfold Hid quoV; rw [hkn]
  have bF := fstV_bd ok
  have bk := ok.g.r k
  have crm := h.crm
  rw [hk] at crm
  have ck := h.reg k hk2
  clear hk hkn
  go_enter Tryz.func163, Tryz.ntmps163
  go_wp2_with fail
  go_quiet (fail)
  by_cases hz : W.s.R k = 0
  · have HQ' : Hid (quoV W = 0) := by unfold Hid; rw [HQ.out, if_pos hz]
    go_wp2_with fail
    refine (put_any (h.drewN _) (by omega) (by omega) _).mono ?_
    rintro e w1 ⟨rfl, h1, o1⟩
    go_wp2_with fail
    go_end0
    exact ⟨rfl, by rw [HQ'.out]; exact h1, ((Off.refl _ _).drewN _).trans o1⟩
  · have HQ' : Hid (quoV W = fstV W / W.s.R k) := by unfold Hid; rw [HQ.out, if_neg hz]
    clear HQ
    go_wp2_with fail
    generalize hw0 : World.drewN _ _ = w0
    have h0 : Wk w0 B W := by rw [← hw0]; exact h
    have hL0 : Inst.Laid w0 := by rw [← hw0]; exact laid_drewN hL _
    have o0 : Off [B] w w0 := by rw [← hw0]; exact (Off.refl _ _).drewN _
    clear hw0
    refine (first_any h0 hL0.shs (by omega) (by omega)).mono ?_
    rintro e w1 ⟨rfl, m1, rfl⟩
    go_wp2_with fail
    rw [← HQ'.out]
    refine (put_any (h0.drewN _) (by omega) (by omega) _).mono ?_
    rintro e w1 ⟨rfl, h1, o1⟩
    go_wp2_with fail
    go_end0
    exact ⟨rfl, h1, (o0.drewN _).trans o1⟩

def clzV (W : Wo) : Int := 32 - (bitLen (W.s.R W.i.rm.toNat).toNat : Int)
theorem bitLen_bd (x : Int) (h0 : 0 ≤ x) (h1 : x < 4294967296) : bitLen x.toNat ≤ 32 := bitLen_le32 _ (by omega)
theorem clz_wrap : ∀ b : Fin 33, IntKind.u32.wrap (IntKind.i64.wrap (32 - (b.val : Int))) = 32 - (b.val : Int) := by decide +kernel

set_option maxHeartbeats 2000000 in
theorem countNoughts_any {w : World} {B : Nat} {W : Wo} (h : Wk w B W) (hL : Inst.Laid w) (hB : NoTab B) (ok : Ok W) :
    Calls Tryz.prog 164 #[.pointer (some ⟨B, 0, none⟩)] w fun e w' => e = .returned (.tuple #[]) ∧ Wk w' B (W.put (clzV W)) ∧ Off [B] w w' := by
  have r1 := ok.f.rd
  obtain ⟨k, hk, hkn, hk', hk2⟩ := rn_of ok.f.rm
  have HQ : Hid (clzV W = 32 - (bitLen (W.s.R k).toNat : Int)) := by unfold Hid clzV; rw [hkn]
  have bk := ok.g.r k
  have bl : ((bitLen (W.s.R k).toNat : Nat) : Int) ≤ 32 := by have := bitLen_bd _ bk.1 bk.2; omega
  have bl0 : (0 : Int) ≤ ((bitLen (W.s.R k).toNat : Nat) : Int) := by omega
  have crm := h.crm
  rw [hk] at crm
  have ck := h.reg k hk2
  clear hk hkn
  go_enter Tryz.func164, Tryz.ntmps164
  go_wp2_with fail
  go_region_with (first | (go_at_call 202; refine (Len_any _ bk.1 bk.2 _).mono ?_; rintro e w' ⟨rfl, rfl⟩) | (go_at_call 154; refine (put_any h.drew (by omega) (by omega) _).mono ?_; rintro e w1 ⟨rfl, h1, o1⟩))
  all_goals go_wp2_with fail
  all_goals go_end0
  all_goals exact ⟨rfl, by rw [HQ.out, ← clz_wrap ⟨bitLen (W.s.R k).toNat, by omega⟩]; exact h1, (Off.refl _ _).drew.trans o1⟩

def halfV (W : Wo) : Int := if W.i.f = 49 then bits .or .u32 (W.i.im % 4294967296 * 65536 % 4294967296) (bits .and .u32 (W.s.R W.i.rd.toNat) 65535) else W.i.im % 4294967296

set_option maxHeartbeats 2000000 in
theorem moveHalf_any {w : World} {B : Nat} {W : Wo} (h : Wk w B W) (hL : Inst.Laid w) (hB : NoTab B) (ok : Ok W) :
    Calls Tryz.prog 165 #[.pointer (some ⟨B, 0, none⟩)] w fun e w' => e = .returned (.tuple #[]) ∧ Wk w' B (W.put (halfV W)) ∧ Off [B] w w' := by
  have r1 := ok.f.rd
  obtain ⟨k, hk, hkn, hk', hk2⟩ := rn_of ok.f.rd
  have HQ : Hid (halfV W = if W.i.f = 49 then bits .or .u32 (W.i.im % 4294967296 * 65536 % 4294967296) (bits .and .u32 (W.s.R k) 65535) else W.i.im % 4294967296) := by unfold Hid halfV; rw [hkn]
  have bk := ok.g.r k
  have crd := h.crd
  rw [hk] at crd
  have ck := h.reg k hk2
  have cf := h.cf
  have cim := h.cim
  clear hk hkn
  go_enter Tryz.func165, Tryz.ntmps165
  by_cases h49 : W.i.f = 49
  · have HQ' : Hid (halfV W = bits .or .u32 (W.i.im % 4294967296 * 65536 % 4294967296) (bits .and .u32 (W.s.R k) 65535)) := by unfold Hid; rw [HQ.out, if_pos h49]
    go_wp2_with fail
    go_quiet (fail)
    go_wp2_with fail
    refine (put_any (h.drewN _) (by omega) (by omega) _).mono ?_
    rintro e w1 ⟨rfl, h1, o1⟩
    go_wp2_with fail
    go_end0
    exact ⟨rfl, by rw [HQ'.out]; exact h1, ((Off.refl _ _).drewN _).trans o1⟩
  · have HQ' : Hid (halfV W = W.i.im % 4294967296) := by unfold Hid; rw [HQ.out, if_neg h49]
    go_wp2_with fail
    refine (put_any h (by omega) (by omega) _).mono ?_
    rintro e w1 ⟨rfl, h1, o1⟩
    go_wp2_with fail
    go_end0
    exact ⟨rfl, by rw [HQ'.out]; exact h1, o1⟩

def stkW (W : Wo) : Wo := if W.i.f = 39 then W.reg W.i.rd.toNat ((W.s.R 13 + W.i.im) % 4294967296) else if W.i.f = 40 then W.reg 13 ((W.s.R 13 + W.i.im) % 4294967296) else if W.i.f = 41 then W.reg 13 ((W.s.R 13 - W.i.im) % 4294967296) else W

set_option maxHeartbeats 2000000 in
theorem moveStack_any {w : World} {B : Nat} {W : Wo} (h : Wk w B W) (hL : Inst.Laid w) (hB : NoTab B) (ok : Ok W) :
    Calls Tryz.prog 166 #[.pointer (some ⟨B, 0, none⟩)] w fun e w' => e = .returned (.tuple #[]) ∧ Wk w' B (stkW W) ∧ Off [B] w w' := by
  obtain ⟨k, hk, hkn, hk', hk2⟩ := rn_of ok.f.rd
  have HQ : Hid (stkW W = if W.i.f = 39 then W.reg k ((W.s.R 13 + W.i.im) % 4294967296) else if W.i.f = 40 then W.reg 13 ((W.s.R 13 + W.i.im) % 4294967296) else if W.i.f = 41 then W.reg 13 ((W.s.R 13 - W.i.im) % 4294967296) else W) := by unfold Hid stkW; rw [hkn]
  have crd := h.crd
  rw [hk] at crd
  have ck := h.reg k hk2
  have fk := h.free k
  have c13 := h.c13
  have f13 := h.free 13
  have b13 := ok.g.r 13
  have cf := h.cf
  have cim := h.cim
  clear hk hkn
  go_enter Tryz.func166, Tryz.ntmps166
  go_wp2_with fail
  · go_region
    all_goals go_wp2_with fail
    all_goals go_end0
    all_goals exact ⟨rfl, by rw [HQ.out, if_pos (by simp_all)]; exact (h.putR k hk2 _).drew, ((Off.refl _ _).set (by simp) _).drew⟩
  · go_region
    all_goals go_wp2_with fail
    all_goals go_end0
    all_goals exact ⟨rfl, by rw [HQ.out, if_neg (by simp_all), if_pos (by simp_all)]; exact (h.putR 13 (by decide) _).drew, ((Off.refl _ _).set (by simp) _).drew⟩
  · go_region
    all_goals go_wp2_with fail
    all_goals go_end0
    all_goals exact ⟨rfl, by rw [HQ.out, if_neg (by simp_all), if_neg (by simp_all), if_pos (by simp_all)]; exact (h.putR 13 (by decide) _).drew, ((Off.refl _ _).set (by simp) _).drew⟩
  · go_end0
    exact ⟨rfl, by rw [HQ.out, if_neg (by simp_all), if_neg (by simp_all), if_neg (by simp_all)]; exact h, Off.refl _ _⟩

def backW (W : Wo) (a : Int) : Wo := if bits .andNot .u32 a 1 = 4294967294 then { W with hk := 1, hc := 0 } else W.reg 15 (bits .andNot .u32 a 1)

set_option maxHeartbeats 2000000 in
theorem goBack_any {w : World} {B : Nat} {W : Wo} (h : Wk w B W)  (a : Int) :
    Calls Tryz.prog 168 #[.pointer (some ⟨B, 0, none⟩), .int .u32 a] w fun e w' => e = .returned (.tuple #[]) ∧ Wk w' B (backW W a) ∧ Off [B] w w' := by
  have c15 := h.c15
  have f15 := h.free 15
  have c33 := h.chk
  have f33 := h.free 33
  have c34 := h.chc
  have f34 := h.free 34
  by_cases he : bits .andNot .u32 a 1 = 4294967294
  · have HQ : Hid (backW W a = { W with hk := 1, hc := 0 }) := by unfold Hid backW; rw [if_pos he]
    go_enter Tryz.func168, Tryz.ntmps168
    go_wp2_with fail
    refine bodyPost_ret (v := .tuple #[]) (by simp [results, Tryz.results168, go_sem]) rfl ⟨rfl, ?_, ?_⟩
    · rw [HQ.out]; exact (h.putHk _).putHc _
    · exact ((Off.refl _ _).set (by simp) _).set (by simp) _
  · have HQ : Hid (backW W a = W.reg 15 (bits .andNot .u32 a 1)) := by unfold Hid backW; rw [if_neg he]
    go_enter Tryz.func168, Tryz.ntmps168
    go_wp2_with fail
    go_end0
    exact ⟨rfl, by rw [HQ.out]; exact h.putR 15 (by decide) _, (Off.refl _ _).set (by simp) _⟩
end Go.Proofs.YtfdnjoieolijcaaGreatDoor.Core

