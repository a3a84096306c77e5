/- The operands of an instruction, and what goes bit by bit or is a sum: package core. -/
import Derived.Test.YtfdnjoieolijcaaGreatDoorCoreSmall
import Derived.Test.YtfdnjoieolijcaaGreatDoorClockBase
set_option linter.unusedVariables false
namespace Go.Proofs.YtfdnjoieolijcaaGreatDoor.Core
open Go.RowKit Go.Proofs.YtfdnjoieolijcaaGreatDoor.Mem Go.Proofs.YtfdnjoieolijcaaGreatDoor.Alu

/-- Fields as a right instruction has them, as far as they are asked. -/
structure Fit (i : Ins) : Prop where
  rd : 0 ≤ i.rd ∧ i.rd ≤ 14
  rn : 0 ≤ i.rn ∧ i.rn ≤ 14
  rm : 0 ≤ i.rm ∧ i.rm ≤ 14
  ra : 0 ≤ i.ra ∧ i.ra ≤ 14
  kd : 0 ≤ i.kd ∧ i.kd ≤ 3
  bs : 0 ≤ i.bs ∧ i.bs ≤ 32
  im : Inst.shp i.f = 1 → 0 ≤ i.im ∧ i.im ≤ 32
  cd : 0 ≤ i.cd ∧ i.cd ≤ 13
  rg : 0 ≤ i.rg ∧ i.rg < 65536
/-- Registers are words, flags 0 or 1. -/
structure Good (s : St) : Prop where
  r : ∀ k, 0 ≤ s.R k ∧ s.R k < 4294967296
  n : 0 ≤ s.n ∧ s.n ≤ 1
  z : 0 ≤ s.z ∧ s.z ≤ 1
  c : 0 ≤ s.c ∧ s.c ≤ 1
  v : 0 ≤ s.v ∧ s.v ≤ 1
structure Ok (W : Wo) : Prop where
  g : Good W.s
  f : Fit W.i

theorem quiet0 {P : Program} {f : FuncId} {args : Array Value} {w0 : World} {n : Nat} {v : Value} (h : Calls P f args (w0.drewN n) fun e w' => e = .returned v ∧ w' = w0.drewN n) : Calls P f args (w0.drewN n) fun e w' => e = .returned v ∧ ∃ m, w' = w0.drewN m :=
  h.mono fun e w' ⟨a, b⟩ => ⟨a, n, b⟩
theorem drewN_cell (w : World) (n : Nat) (p : Addr) : (w.drewN n).cell? p = w.cell? p := by
  induction n generalizing w with
  | zero => rfl
  | succ n ih => exact (ih w.drew)
theorem fac_drewN {w : World} (h : Imm.Fac w) (n : Nat) : Imm.Fac (w.drewN n) := ⟨by rw [drewN_cell]; exact h.c0, by rw [drewN_cell]; exact h.c1, by rw [drewN_cell]; exact h.c2, by rw [drewN_cell]; exact h.c3⟩
theorem shs_drewN {w : World} (h : Inst.Shs w) (n : Nat) : Inst.Shs (w.drewN n) := fun i hi => by rw [drewN_cell]; exact h i hi
theorem laid_drewN {w : World} (h : Inst.Laid w) (n : Nat) : Inst.Laid (w.drewN n) := ⟨fac_drewN h.fac n, shs_drewN h.shs n⟩

/-- The second operand, and its carry. -/
def sndY (W : Wo) : Int :=
  if Inst.shp W.i.f = 21 ∨ Inst.shp W.i.f = 22 ∨ Inst.shp W.i.f = 23 then shW W.i.kd (W.s.R W.i.rm.toNat) W.i.bs.toNat
  else if Inst.shp W.i.f = 18 ∨ Inst.shp W.i.f = 19 ∨ Inst.shp W.i.f = 20 then Imm.wdA W.i.im
  else if Inst.shp W.i.f = 3 ∨ Inst.shp W.i.f = 4 ∨ Inst.shp W.i.f = 24 then W.i.im % 4294967296 else W.s.R W.i.rm.toNat
def sndC (W : Wo) : Int :=
  if Inst.shp W.i.f = 21 ∨ Inst.shp W.i.f = 22 ∨ Inst.shp W.i.f = 23 then shC W.i.kd (W.s.R W.i.rm.toNat) W.s.c W.i.bs.toNat
  else if Inst.shp W.i.f = 18 ∨ Inst.shp W.i.f = 19 ∨ Inst.shp W.i.f = 20 then Imm.cyA W.i.im W.s.c else W.s.c

set_option maxHeartbeats 2000000 in
theorem second_any {w : World} {B : Nat} {W : Wo} (h : Wk w B W) (hL : Inst.Laid w) (ok : Ok W) :
    Calls Tryz.prog 195 #[.pointer (some ⟨B, 0, none⟩)] w fun e w' => e = .returned (.tuple #[.int .u32 (sndY W), .int .u32 (sndC W)]) ∧ ∃ m, w' = w.drewN m := by
  have crm := h.crm
  have cf := h.cf
  have ckd := h.ckd
  have cbs := h.cbs
  have cim := h.cim
  have cc := h.cc
  obtain ⟨k, hk⟩ := Int.eq_ofNat_of_zero_le ok.f.rm.1
  have hk' : (k : Int) < 16 := by have := ok.f.rm; omega
  have c1 := h.reg k (by omega)
  rw [hk] at crm
  have b1 := ok.g.r k
  have b2 := ok.f.kd
  have b3 := ok.f.bs
  have hF := hL.fac
  have hS := hL.shs
  have HY : Hid (sndY W = if Inst.shp W.i.f = 21 ∨ Inst.shp W.i.f = 22 ∨ Inst.shp W.i.f = 23 then shW W.i.kd (W.s.R k) W.i.bs.toNat
    else if Inst.shp W.i.f = 18 ∨ Inst.shp W.i.f = 19 ∨ Inst.shp W.i.f = 20 then Imm.wdA W.i.im
    else if Inst.shp W.i.f = 3 ∨ Inst.shp W.i.f = 4 ∨ Inst.shp W.i.f = 24 then W.i.im % 4294967296 else W.s.R k) := by unfold Hid sndY; rw [hk]; rfl
  have HC : Hid (sndC W = if Inst.shp W.i.f = 21 ∨ Inst.shp W.i.f = 22 ∨ Inst.shp W.i.f = 23 then shC W.i.kd (W.s.R k) W.s.c W.i.bs.toNat
    else if Inst.shp W.i.f = 18 ∨ Inst.shp W.i.f = 19 ∨ Inst.shp W.i.f = 20 then Imm.cyA W.i.im W.s.c else W.s.c) := by unfold Hid sndC; rw [hk]; rfl
  clear hk
  go_enter Tryz.func195, Tryz.ntmps195
  go_wp2_with (first | (go_at_call 179; refine (Inst.Shape_any _ _ hS).mono ?_; rintro e w' ⟨rfl, rfl⟩) | (go_at_call 223; refine (Imm.Word_any _ _ hF).mono ?_; rintro e w' ⟨rfl, rfl⟩))
  all_goals
    go_quiet (first | (go_at_call 191; exact quiet0 (Shift_yes _ _ _ _ b2.1 b2.2 b3.1 (by omega) b1.1 b1.2 _)) | (go_at_call 227; exact quiet0 (Imm.Carry_any _ _ _ (fac_drewN hF _))))
    go_wp2_with fail
    go_ret2
    exact ⟨ret_ints2 (by rw [HY.out]; go_light; simp_all) (by rw [HC.out]; go_light; simp_all), _, rfl⟩
end Go.Proofs.YtfdnjoieolijcaaGreatDoor.Core

