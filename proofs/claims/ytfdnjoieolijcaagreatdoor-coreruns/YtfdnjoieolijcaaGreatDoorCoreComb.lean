import Derived.Test.YtfdnjoieolijcaaGreatDoorCoreOps
set_option linter.unusedVariables false
namespace Go.Proofs.YtfdnjoieolijcaaGreatDoor.Core
open Go.RowKit Go.Proofs.YtfdnjoieolijcaaGreatDoor.Mem Go.Proofs.YtfdnjoieolijcaaGreatDoor.Alu

theorem Wk.drewN {w : World} {B : Nat} {W : Wo} (h : Wk w B W) (n : Nat) : Wk (w.drewN n) B W := h
theorem sndY_bd {W : Wo} (ok : Ok W) : 0 ≤ sndY W ∧ sndY W < 4294967296 := by
  unfold sndY
  have h1 := ok.g.r W.i.rm.toNat
  have h2 := shW_bd W.i.kd _ h1.1 h1.2 W.i.bs.toNat
  have h3 := Imm.wdA_bd W.i.im
  split
  · exact h2
  · split
    · exact h3
    · split
      · omega
      · exact h1
theorem fstV_bd {W : Wo} (ok : Ok W) : 0 ≤ fstV W ∧ fstV W < 4294967296 := by
  unfold fstV
  split
  · exact ok.g.r _
  · exact ok.g.r _

/-- The two words and the carry whose sum it is. -/
def subF (f : Int) : Bool := decide (f = 5 ∨ f = 7 ∨ f = 11 ∨ f = 58 ∨ f = 74 ∨ f = 83 ∨ f = 9 ∨ f = 22 ∨ f = 29 ∨ f = 65 ∨ f = 81)
def adX (f x y : Int) : Int := if f = 21 then 0 else if f = 59 ∨ f = 75 then y else x
def adY (f x y : Int) : Int := if f = 59 ∨ f = 75 then 4294967295 - x else if subF f ∨ f = 18 ∨ f = 57 ∨ f = 73 ∨ f = 21 then 4294967295 - y else y
def adC (f c : Int) : Int := if subF f ∨ f = 21 ∨ f = 59 ∨ f = 75 then 1 else if f = 17 ∨ f = 56 ∨ f = 72 ∨ f = 18 ∨ f = 57 ∨ f = 73 then c else 0

set_option maxHeartbeats 2000000 in
theorem addends_any {w : World} {B : Nat} {W : Wo} (h : Wk w B W) (hL : Inst.Laid w) (ok : Ok W) :
    Calls Tryz.prog 199 #[.pointer (some ⟨B, 0, none⟩)] w fun e w' => e = .returned (.tuple #[.int .u32 (adX W.i.f (fstV W) (sndY W)), .int .u32 (adY W.i.f (fstV W) (sndY W)), .int .u32 (adC W.i.f W.s.c)]) ∧ ∃ m, w' = w.drewN m := by
  have cf := h.cf
  have cc := h.cc
  have r1 := ok.f.rd
  have r2 := ok.f.rn
  have n1 := not32 _ (fstV_bd ok).1 (by have := fstV_bd ok; omega)
  have n2 := not32 _ (sndY_bd ok).1 (by have := sndY_bd ok; omega)
  have N1 := hide n1
  have N2 := hide n2
  clear n1 n2
  go_enter Tryz.func199, Tryz.ntmps199
  go_wp2_with fail
  refine (first_any h hL.shs (by omega) (by omega)).mono ?_
  rintro e w' ⟨rfl, m1, rfl⟩
  go_wp2_with fail
  refine (second_any (h.drewN m1) (laid_drewN hL m1) ok).mono ?_
  rintro e w' ⟨rfl, m2, rfl⟩
  go_wp2_with fail
  all_goals (try (go_quiet (fail); go_wp2_with fail))
  all_goals
    go_ret3
    exact ⟨ret_ints3 (by go_light; simp_all [adX]) (by have a := unhide N1; have b := unhide N2; go_light; simp_all [adY, subF]) (by go_light; simp_all [adC, subF]), by first | exact ⟨_, rfl⟩ | (simp only [World.drewN_drewN]; exact ⟨_, rfl⟩)⟩

/-- A logical word: Rd, if it is kept; flags, if they are set. -/
def Wo.fin (W : Wo) (x : Int) (F : Wo → Wo) : Wo :=
  let W1 := if keepB W then W.put x else W
  if setsB W then F (W1.sgn x) else W1
def Wo.setC (W : Wo) (c : Int) : Wo := { W with s := { W.s with c := c } }
def Wo.setV (W : Wo) (v : Int) : Wo := { W with s := { W.s with v := v } }
theorem shp_put (W : Wo) (x : Int) : (W.put x).i = W.i := rfl
theorem sets_put (W : Wo) (x : Int) : setsB (W.put x) = setsB W := rfl
theorem Off.laid {S : List Nat} {w w' : World} (h : Off S w w') (hL : Inst.Laid w) (hs : ∀ k, k ∈ S → 2 ≠ k ∧ 1 ≠ k) : Inst.Laid w' := by
  have h1 : ∀ i, w'.cell? ⟨2, i, none⟩ = w.cell? ⟨2, i, none⟩ := fun i => h.cell (p := ⟨2, i, none⟩) (show 2 < _ from block_lt_of_cell (a := ⟨2, 0, none⟩) hL.fac.c0) (fun e => (hs _ e).1 rfl)
  have h2 : ∀ i, w'.cell? ⟨1, i, none⟩ = w.cell? ⟨1, i, none⟩ := fun i => h.cell (p := ⟨1, i, none⟩) (show 1 < _ from block_lt_of_cell (a := ⟨1, 0, none⟩) (hL.shs 0 (by decide))) (fun e => (hs _ e).2 rfl)
  exact ⟨⟨by rw [h1]; exact hL.fac.c0, by rw [h1]; exact hL.fac.c1, by rw [h1]; exact hL.fac.c2, by rw [h1]; exact hL.fac.c3⟩, fun i hi => by rw [h2]; exact hL.shs i hi⟩
/-- A block that is no table. -/
def NoTab (B : Nat) : Prop := 2 ≠ B ∧ 1 ≠ B
theorem Off.laid1 {B : Nat} {w w' : World} (h : Off [B] w w') (hL : Inst.Laid w) (hs : NoTab B) : Inst.Laid w' := h.laid hL (fun k hk => by rw [List.mem_singleton] at hk; subst hk; exact hs)
theorem Off.drewN {S : List Nat} {a b : World} (h : Off S a b) (n : Nat) : Off S a (b.drewN n) := ⟨h.os, h.tape, h.output, h.size, h.block⟩
theorem cmbV_bd (f : Int) {x y : Int} (hy : 0 ≤ y ∧ y < 4294967296) : 0 ≤ cmbV f x y ∧ cmbV f x y < 4294967296 := by
  unfold cmbV
  repeat' split
  all_goals first | exact bits_u32_bd _ _ _ | omega

theorem quietN {P : Program} {f : FuncId} {args : Array Value} {w0 : World} {n : Nat} {v : Value} (h : Calls P f args (w0.drewN n) fun e w' => e = .returned v ∧ ∃ m, w' = (w0.drewN n).drewN m) : Calls P f args (w0.drewN n) fun e w' => e = .returned v ∧ ∃ m, w' = w0.drewN m :=
  h.mono fun e w' ⟨a, m, b⟩ => ⟨a, n + m, b.trans (World.drewN_drewN ..)⟩

def combW (W : Wo) : Wo := W.fin (cmbV W.i.f (fstV W) (sndY W)) (·.setC (sndC W))

set_option maxHeartbeats 2000000 in
theorem combine_any {w : World} {B : Nat} {W : Wo} (h : Wk w B W) (hL : Inst.Laid w) (hB : NoTab B) (ok : Ok W) :
    Calls Tryz.prog 159 #[.pointer (some ⟨B, 0, none⟩)] w fun e w' => e = .returned (.tuple #[]) ∧ Wk w' B (combW W) ∧ Off [B] w w' := by
  have cf := h.cf
  have r1 := ok.f.rd
  have r2 := ok.f.rn
  have bY := sndY_bd ok
  have bC := cmbV_bd W.i.f (x := fstV W) bY
  go_enter Tryz.func159, Tryz.ntmps159
  go_wp2_with fail
  refine (second_any h hL ok).mono ?_
  rintro e w1 ⟨rfl, hw1⟩
  have h1 : Wk w1 B W := by obtain ⟨m, rfl⟩ := hw1; exact h
  have hL1 : Inst.Laid w1 := by obtain ⟨m, rfl⟩ := hw1; exact laid_drewN hL _
  have o1 : Off [B] w w1 := by obtain ⟨m, rfl⟩ := hw1; exact (Off.refl _ _).drewN _
  have cf := h1.cf
  clear hw1
  go_wp2_with fail
  go_quiet (first | (go_at_call 190; exact quietN (first_any (h1.drewN _) (shs_drewN hL1.shs _) (by omega) (by omega))) | (go_at_call 196; exact quiet0 (combined_any _ _ _ bY _)))
  generalize hw0 : World.drewN _ _ = w0
  have h0 : Wk w0 B W := by rw [← hw0]; exact h1
  have hL0 : Inst.Laid w0 := by rw [← hw0]; exact laid_drewN hL1 _
  have o0 : Off [B] w w0 := by rw [← hw0]; exact o1.drewN _
  clear hw0 h1 hL1 o1 cf
  cases hk : keepB W <;> cases hs : setsB W
  · go_wp2_with (first | (go_at_call 197; refine (keeps_any h0 hL0.shs).mono ?_; rintro e w' ⟨rfl, rfl⟩; rw [hk]) | (go_at_call 193; refine (sets_any h0 hL0.shs).mono ?_; rintro e w' ⟨rfl, rfl⟩; rw [hs]))
    go_end0
    exact ⟨rfl, by unfold combW Wo.fin; rw [hk, hs]; exact h0, o0⟩
  · go_wp2_with (first | (go_at_call 197; refine (keeps_any h0 hL0.shs).mono ?_; rintro e w' ⟨rfl, rfl⟩; rw [hk]) | (go_at_call 193; refine (sets_any h0 hL0.shs).mono ?_; rintro e w' ⟨rfl, rfl⟩; rw [hs]))
    refine (signs_any h0 _ bC).mono ?_
    rintro e w2 ⟨rfl, h2, o2⟩
    have c2 := h2.cc
    have f2 := h2.free 18
    go_wp2_with fail
    go_end0
    exact ⟨rfl, by unfold combW Wo.fin; rw [hk, hs]; exact h2.putC _, (o0.trans o2).set (by simp) _⟩
  · go_wp2_with (first | (go_at_call 197; refine (keeps_any h0 hL0.shs).mono ?_; rintro e w' ⟨rfl, rfl⟩; rw [hk]))
    refine (put_any h0 (by omega) (by omega) _).mono ?_
    rintro e w1 ⟨rfl, h1, o1⟩
    have hL1 := o1.laid1 hL0 hB
    go_wp2_with (first | (go_at_call 193; refine (sets_any h1 hL1.shs).mono ?_; rintro e w' ⟨rfl, rfl⟩; rw [sets_put, hs]))
    go_end0
    exact ⟨rfl, by unfold combW Wo.fin; rw [hk, hs]; exact h1, o0.trans o1⟩
  · go_wp2_with (first | (go_at_call 197; refine (keeps_any h0 hL0.shs).mono ?_; rintro e w' ⟨rfl, rfl⟩; rw [hk]))
    refine (put_any h0 (by omega) (by omega) _).mono ?_
    rintro e w1 ⟨rfl, h1, o1⟩
    have hL1 := o1.laid1 hL0 hB
    go_wp2_with (first | (go_at_call 193; refine (sets_any h1 hL1.shs).mono ?_; rintro e w' ⟨rfl, rfl⟩; rw [sets_put, hs]))
    refine (signs_any h1 _ bC).mono ?_
    rintro e w2 ⟨rfl, h2, o2⟩
    have c2 := h2.cc
    have f2 := h2.free 18
    go_wp2_with fail
    go_end0
    exact ⟨rfl, by unfold combW Wo.fin; rw [hk, hs]; exact h2.putC _, ((o0.trans o1).trans o2).set (by simp) _⟩
end Go.Proofs.YtfdnjoieolijcaaGreatDoor.Core

