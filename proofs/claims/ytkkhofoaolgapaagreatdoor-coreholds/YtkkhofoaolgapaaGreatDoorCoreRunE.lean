/- A run whose events nobody looks at: package core's Run with an empty function. -/
import Derived.Test.YtkkhofoaolgapaaGreatDoorCoreRunG
set_option linter.unusedVariables false
set_option linter.unusedSimpArgs false
namespace Go.Proofs.YtkkhofoaolgapaaGreatDoor.Core
open Go.RowKit Go.Proofs.YtkkhofoaolgapaaGreatDoor.Mem Go.Proofs.YtkkhofoaolgapaaGreatDoor.Alu

theorem eq_func (d : Nat) (fn : Fn) (a c : Array Value) (w : World) : Sem.run Tryz.prog (Op.equalIn (d + 1) 63 (.func fn a c) .nilFunc) w = .ok false w := by
  simp only [Op.equalIn, Sem.run_bind, run_underlying Tryz.underlying63, Result.andThen_ok]
  rfl
theorem neq_func (fn : Fn) (a c : Array Value) (w : World) : Sem.run Tryz.prog (binOp .neq 63 (.func fn a c) .nilFunc) w = .ok (.bool true) w := by
  have h := eq_func 9999 fn a c w
  have hm : Op.maxDepth = 9999 + 1 := rfl
  simp only [binOp, Op.equal, Sem.run_bind]
  rw [hm, h]
  rfl
attribute [local go_sem] neq_func

/-- A counter, as it is read in the heap. -/
def cyAt (C : Nat) (w : World) : Int := match w.cell? ⟨C, 24, none⟩ with | some v => intOf v | none => 0
theorem cyAt_of {w : World} {C : Nat} {M : Mc} (h : Mx w C M) : cyAt C w = M.cy := by
  have c : w.cell? ⟨C, 24, none⟩ = some (.int .i64 M.cy) := h.cell rfl
  unfold cyAt; rw [c]; rfl

/-- A block that is no table of the three. -/
def NoT (B : Nat) : Prop := NoTab B ∧ 0 ≠ B
theorem not_of {w : World} (hL : Code.Laid w) {B : Nat} (h : w.heap.size ≤ B) : NoT B := by
  have t1 := block_lt_of_cell (a := ⟨2, 0, none⟩) hL.two.fac.c0
  have t2 := block_lt_of_cell (a := ⟨1, 0, none⟩) (hL.two.shs 0 (by decide))
  have t3 := block_lt_of_cell (a := ⟨0, 0, none⟩) (hL.bits 0 (by decide))
  exact ⟨⟨by simp only at t1; omega, by simp only at t2; omega⟩, by simp only at t3; omega⟩
theorem Off.code {S : List Nat} {w w' : World} (h : Off S w w') (hL : Code.Laid w) (hs : ∀ k, k ∈ S → NoT k) : Code.Laid w' := by
  refine ⟨h.laid hL.two (fun k hk => (hs k hk).1), fun i hi => ?_⟩
  rw [h.cell (p := ⟨0, i, none⟩) (show 0 < _ from block_lt_of_cell (a := ⟨0, 0, none⟩) (hL.bits 0 (by decide))) (fun e => (hs _ e).2 rfl)]
  exact hL.bits i hi
/-- Steps that go well, one behind the other, up to a halt. -/
structure Line (n : Nat) (f : Nat → Int) (fuel : Int) (K : Nat) (Ms : Nat → Mc) (gs : Nat → Nat → Int) : Prop where
  step : ∀ k, k < K → (Ms k).hk = 0 ∧ (Ms k).cy < fuel ∧ May (Ms k) ∧ Words (gs k) ∧ ∃ j, AtI n f ((Ms k).s.R 15) j 0 ∧ stE n f (gs k) (Ms k) j 0 = 0 ∧ stM n f (gs k) (Ms k) j 0 = Ms (k + 1) ∧ stG n f (gs k) (Ms k) j 0 = gs (k + 1)
  halt : (Ms K).hk = 1 ∨ (Ms K).hk = 2
  m : ∀ k, k ≤ K → (Ms k).m = (Ms 0).m

theorem a1_any (a b c d x : Int) (w : World) : Calls Tryz.prog 26 #[.agg #[.int .u32 a, .int .u32 b, .int .i64 c, .int .i64 d, .int .i64 x]] w fun e w' => e = .returned (.tuple #[]) ∧ Below w.heap.size w w' := by
  go_enter Tryz.func26, Tryz.ntmps26
  go_wp2_with fail
  go_end0
  exact ⟨rfl, by repeat (first | with_reducible exact Below.refl _ _ | with_reducible refine Below.alloc ?_ (Nat.le_refl _) _)⟩

set_option maxRecDepth 100000 in
set_option maxHeartbeats 2000000 in
theorem RunA_any {w : World} {C F R n K : Nat} {f : Nat → Int} {Ms : Nat → Mc} {gs : Nat → Nat → Int} {fuel : Int} (hT : Line n f fuel K Ms gs) (hfu : fuel ≤ 1000000) (h : Mx w C (Ms 0)) (hm : Is w (Ms 0).m F R n f (gs 0)) (hf : ∀ i, i < n → 0 ≤ f i ∧ f i < 256) (hn : n ≤ 65536) (hL : Code.Laid w) (ntR : NoT R) (ntC : NoT C) :
    Calls Tryz.prog 20 #[.pointer (some ⟨C, 0, none⟩), .int .i64 fuel, .func (.func 26) #[] #[]] w fun e w' => e = .returned (.int .i64 0) ∧ Mx w' C (Ms K) ∧ Is w' (Ms K).m F R n f (gs K) ∧ Off [C, R] w w' := by
  go_enter Tryz.func20, Tryz.ntmps20
  go_wp2_with fail
  go_loopw [] (fun wr => ∃ k : Nat, k ≤ K ∧ Mx wr C (Ms k) ∧ Is wr (Ms k).m F R n f (gs k) ∧ Off [C, R] w wr) (fun wr => (fuel - cyAt C wr).toNat)
  case atStart => exact ⟨0, Nat.zero_le _, h, hm, Off.refl _ _⟩
  case round =>
    obtain ⟨k, hk, hx, hI, hO⟩ := hrel
    have c25 : wr.cell? ⟨C, 25, none⟩ = some (.int .i64 (Ms k).hk) := hx.cell rfl
    have c24 : wr.cell? ⟨C, 24, none⟩ = some (.int .i64 (Ms k).cy) := hx.cell rfl
    by_cases hlt : k < K
    · obtain ⟨hh, hc, hM, hg, j, hat, hE, hMs, hgs⟩ := hT.step k hlt
      rw [hh] at c25
      have hLr : Code.Laid wr := hO.code hL (by intro k hk; simp at hk; rcases hk with rfl | rfl; exact ntC; exact ntR)
      have HS := hide (Step_run hx hI hf hn hM hg hLr ntR.1 hh)
      have hcy := cyAt_of hx
      go_wp2_with fail
      refine (unhide HS).mono ?_
      rintro e w1 ⟨j', e0, hat', rfl, hx1, hI1, hO1⟩
      obtain ⟨rfl, rfl⟩ := at_one hat' hat
      have eV : stV n f (gs k) (Ms k) j' 0 = evA (Ms k) j' (exeW n f (gs k) (stW0 (Ms k) j')) := if_pos hE
      have eR : stR n f (gs k) (Ms k) j' 0 = 0 := if_pos hE
      have hW := went_of hM hf hg hat hE
      rw [hMs] at hx1 hW
      rw [hgs] at hI1
      rw [eV, eR]
      unfold evA evv
      have hmm := hT.m k hk
      have hmm1 := hT.m (k + 1) hlt
      have hcy1 := cyAt_of hx1
      have hlo := hW.lo
      rw [show (Ms k).m = (Ms (k + 1)).m by rw [hmm, hmm1]] at hI1
      clear hat hat' hE eV eR hM hg HS c24 c25
      generalize exeW n f (gs k) (stW0 (Ms k) j') = W1 at *
      generalize basI (Ms k).s j' = bb at *
      generalize Clock.mss (Ms k).fl (Ms k).l ((Ms k).s.R 15) (Inst.siz j'.f) = mm at *
      have hend : Hid (Mx w1 C (Ms (k + 1)) ∧ Is w1 (Ms (k + 1)).m F R n f (gs (k + 1)) ∧ Off [C, R] w w1) := ⟨hx1, hI1, hO.trans hO1⟩
      clear hx1 hI1 hO1 hW hx hI hO
      go_wp2_with fail
      refine (a1_any _ _ _ _ _ _).mono ?_
      rintro e w2 ⟨rfl, hb2⟩
      have hb3 : Below w1.heap.size w1 w2 := ((Below.refl w1.heap.size w1).alloc (Nat.le_refl _) _).trans (hb2.mono (by simp))
      go_wp2_with fail
      go_roundw
      case rel => exact ⟨k + 1, hlt, hend.out.1.below hb3, hend.out.2.1.below hb3, hend.out.2.2.trans (Off.of_below hb3)⟩
      case measure =>
        rw [hcy, cyAt_of (hend.out.1.below hb3)]
        omega
    · obtain rfl : k = K := by omega
      have hh := hT.halt
      rcases hh with hh | hh
      · rw [hh] at c25
        go_wp2_with fail
        go_ret
        exact ⟨rfl, hx, hI, hO⟩
      · rw [hh] at c25
        go_wp2_with fail
        go_ret
        exact ⟨rfl, hx, hI, hO⟩
end Go.Proofs.YtkkhofoaolgapaaGreatDoor.Core

