/- A step of a machine: package core. -/
import Derived.Test.YtkkhofoaolgapaaGreatDoorCoreStepO
import Derived.Test.YtkkhofoaolgapaaGreatDoorCoreStepF
import Derived.Test.YtkkhofoaolgapaaGreatDoorCoreGood
set_option linter.unusedVariables false
set_option linter.unusedSimpArgs false
namespace Go.Proofs.YtkkhofoaolgapaaGreatDoor.Core
open Go.RowKit Go.Proofs.YtkkhofoaolgapaaGreatDoor.Mem Go.Proofs.YtkkhofoaolgapaaGreatDoor.Alu

theorem ofI_one {W : Int} {wide : Bool} {i i' : Ins} {en en' : Int} (h : OfI W wide i en) (h' : OfI W wide i' en') : i = i' ∧ en = en' := by
  obtain ⟨⟨a1, a2, a3, a4, a5, a6, a7, a8, a9, a10, a11⟩, e⟩ := Code.ofR_one h h'
  obtain ⟨f, rd, rn, rm, ra, im, kd, bs, st, cd, rg⟩ := i
  obtain ⟨f', rd', rn', rm', ra', im', kd', bs', st', cd', rg'⟩ := i'
  dsimp only at *
  subst a1 a2 a3 a4 a5 a6 a7 a8 a9 a10 a11
  exact ⟨rfl, e⟩
/-- One address has one instruction. -/
theorem at_one {n : Nat} {f : Nat → Int} {a : Int} {i i' : Ins} {en en' : Int} (h : AtI n f a i en) (h' : AtI n f a i' en') : i = i' ∧ en = en' := by
  rcases h with ⟨a1, rfl, rfl⟩ | ⟨a1, a2, a3⟩ | ⟨a1, a2, a3, rfl, rfl⟩ | ⟨a1, a2, a3, a4⟩ <;> rcases h' with ⟨b1, rfl, rfl⟩ | ⟨b1, b2, b3⟩ | ⟨b1, b2, b3, rfl, rfl⟩ | ⟨b1, b2, b3, b4⟩
  · exact ⟨rfl, rfl⟩
  · exact absurd b1 a1
  · exact absurd b1 a1
  · exact absurd b1 a1
  · exact absurd a1 b1
  · exact ofI_one a3 b3
  · rw [a2] at b2; exact absurd b2 (by decide)
  · rw [a2] at b2; exact absurd b2 (by decide)
  · exact absurd a1 b1
  · rw [a2] at b2; exact absurd b2 (by decide)
  · exact ⟨rfl, rfl⟩
  · exact absurd b3 a3
  · exact absurd a1 b1
  · rw [a2] at b2; exact absurd b2 (by decide)
  · exact absurd a3 b3
  · exact ofI_one a4 b4
theorem ofI_right {W : Int} {wide : Bool} {i : Ins} (h : OfI W wide i 0) : i.right = true ∧ -9223372036854775808 ≤ i.rg ∧ i.rg ≤ 9223372036854775807 := by
  rcases h with ⟨h, _⟩ | ⟨_, _, h⟩
  · exact ⟨h.right, h.lo, h.hi⟩
  · exact absurd h (by decide)
theorem at_right {n : Nat} {f : Nat → Int} {a : Int} {i : Ins} (h : AtI n f a i 0) : i.right = true ∧ -9223372036854775808 ≤ i.rg ∧ i.rg ≤ 9223372036854775807 := by
  rcases h with ⟨a1, rfl, e⟩ | ⟨a1, a2, a3⟩ | ⟨a1, a2, a3, rfl, e⟩ | ⟨a1, a2, a3, a4⟩
  · exact absurd e.symm a1
  · exact ofI_right a3
  · exact absurd e.symm a3
  · exact ofI_right a4

/-- What a step begins with. -/
def stW0 (M : Mc) (j : Ins) : Wo := (wk0 M j).reg 15 ((M.s.R 15 + Inst.siz j.f) % 4294967296)
/-- Why a step went wrong; the machine, RAM, the event and the error behind it. -/
def stE (n : Nat) (f g : Nat → Int) (M : Mc) (j : Ins) (e0 : Int) : Int := if e0 = 0 then exeE n f g (stW0 M j) else e0
def stG (n : Nat) (f g : Nat → Int) (M : Mc) (j : Ins) (e0 : Int) : Nat → Int := if e0 = 0 then exeG g (stW0 M j) else g
def stQ (n : Nat) (f g : Nat → Int) (M : Mc) (j : Ins) (e0 : Int) : Mc := if stE n f g M j e0 = 0 then aft M j (exeW n f g (stW0 M j)) else M
def stM (n : Nat) (f g : Nat → Int) (M : Mc) (j : Ins) (e0 : Int) : Mc := if stE n f g M j e0 = 0 then aft M j (exeW n f g (stW0 M j)) else { M with hk := 3, hc := stE n f g M j e0 }
def stV (n : Nat) (f g : Nat → Int) (M : Mc) (j : Ins) (e0 : Int) : Array Value := if stE n f g M j e0 = 0 then evA M j (exeW n f g (stW0 M j)) else evv 0 0 0 0 0
def stR (n : Nat) (f g : Nat → Int) (M : Mc) (j : Ins) (e0 : Int) : Int := if stE n f g M j e0 = 0 then 0 else 10

/-- A machine that may be: its state is one, its counter is no great number. -/
structure May (M : Mc) : Prop where
  s : Good M.s
  cy : 0 ≤ M.cy ∧ M.cy ≤ 1000000000
  wt : 0 ≤ M.wait ∧ M.wait ≤ 7
/-- A machine and its memory in the heap. -/
structure Has (w : World) (C F R n : Nat) (f g : Nat → Int) (M : Mc) : Prop where
  x : Mx w C M
  m : Is w M.m F R n f g
theorem ok_0 {M : Mc} (hg : Good M.s) {j : Ins} (hf : Fit j) : Ok (stW0 M j) := ⟨Good.reg hg 15 _ (by omega), hf⟩

theorem step_any {w : World} {C F R n : Nat} {M : Mc} {f g : Nat → Int} (h : Mx w C M) (hm : Is w M.m F R n f g) (hf : ∀ i, i < n → 0 ≤ f i ∧ f i < 256) (hn : n ≤ 65536) (hg : May M) (hgb : Words g) (hL : Code.Laid w) (ntR : NoTab R) :
    Calls Tryz.prog 32 #[.pointer (some ⟨C, 0, none⟩)] w fun e w' => ∃ j e0, AtI n f (M.s.R 15) j e0 ∧ e = .returned (.tuple #[.agg (stV n f g M j e0), .int .i64 (stE n f g M j e0)]) ∧ Mx w' C (stQ n f g M j e0) ∧ Is w' M.m F R n f (stG n f g M j e0) ∧ Off [C, R] w w' := by
  by_cases hx : ∃ j, AtI n f (M.s.R 15) j 0
  · obtain ⟨j, hj⟩ := hx
    obtain ⟨hr, g0, g1⟩ := at_right hj
    obtain ⟨hfit, hne⟩ := fit_of_right hr g0 g1
    refine (step_ok h hm hf hn hg.s hL j (fun j' e h' => at_one h' hj) hfit hr hg.cy hg.wt ntR (exeW n f g (stW0 M j)) (exeG g (stW0 M j)) (exeE n f g (stW0 M j)) ?_).mono ?_
    · intro w' D hW hI hL' hD
      exact execute_any hW hL'.two hD (ok_0 hg.s hfit) hne hI hf hn hgb
    · rintro e w' ⟨hp, hI, hO⟩
      have eE : stE n f g M j 0 = exeE n f g (stW0 M j) := if_pos rfl
      have eG : stG n f g M j 0 = exeG g (stW0 M j) := if_pos rfl
      refine ⟨j, 0, hj, ?_, ?_, by rw [eG]; exact hI, hO⟩
      · rcases hp with ⟨h1, rfl, h3⟩ | ⟨h1, rfl, h3⟩
        · unfold stV; rw [eE, if_neg h1]
        · unfold stV; rw [eE, if_pos h1, h1]
      · rcases hp with ⟨h1, rfl, h3⟩ | ⟨h1, rfl, h3⟩
        · unfold stQ; rw [eE, if_neg h1]; exact h3
        · unfold stQ; rw [eE, if_pos h1]; exact h3
  · refine (step_fault h hm hf hn hg.s hL (fun j e hj he => hx ⟨j, he ▸ hj⟩)).mono ?_
    rintro e w' ⟨en, ⟨j, hj⟩, rfl, hb⟩
    have hne : en ≠ 0 := fun e => hx ⟨j, e ▸ hj⟩
    have eE : stE n f g M j en = en := if_neg hne
    refine ⟨j, en, hj, ?_, ?_, ?_, Off.of_below hb⟩
    · unfold stV; rw [eE, if_neg hne]; rfl
    · unfold stQ; rw [eE, if_neg hne]; exact h.below hb
    · unfold stG; rw [if_neg hne]; exact hm.below hb

/-- A machine that has halted does nothing. -/
theorem Step_halted {w : World} {C : Nat} {M : Mc} (h : Mx w C M) (hk : M.hk ≠ 0) :
    Calls Tryz.prog 11 #[.pointer (some ⟨C, 0, none⟩)] w fun e w' => e = .returned (.tuple #[.agg (evv 0 0 0 0 0), .int .i64 71]) ∧ Below w.heap.size w w' := by
  have c25 : w.cell? ⟨C, 25, none⟩ = some (.int .i64 M.hk) := h.cell rfl
  have hl := h.lt
  go_enter Tryz.func11, Tryz.ntmps11
  go_wp2_with fail
  refine bodyPost_ret (v := .tuple #[.agg (evv 0 0 0 0 0), .int .i64 71]) (by simp [results, Tryz.results11, go_sem, evv]) rfl ⟨rfl, ?_⟩
  repeat (first | exact Below.refl _ _ | refine Below.setCell ?_ (Nat.le_refl _) _ | refine Below.alloc ?_ (Nat.le_refl _) _)

set_option maxRecDepth 100000 in
set_option maxHeartbeats 4000000 in
theorem Step_run {w : World} {C F R n : Nat} {M : Mc} {f g : Nat → Int} (h : Mx w C M) (hm : Is w M.m F R n f g) (hf : ∀ i, i < n → 0 ≤ f i ∧ f i < 256) (hn : n ≤ 65536) (hg : May M) (hgb : Words g) (hL : Code.Laid w) (ntR : NoTab R) (hk : M.hk = 0) :
    Calls Tryz.prog 11 #[.pointer (some ⟨C, 0, none⟩)] w fun e w' => ∃ j e0, AtI n f (M.s.R 15) j e0 ∧ e = .returned (.tuple #[.agg (stV n f g M j e0), .int .i64 (stR n f g M j e0)]) ∧ Mx w' C (stM n f g M j e0) ∧ Is w' M.m F R n f (stG n f g M j e0) ∧ Off [C, R] w w' := by
  have c25 : w.cell? ⟨C, 25, none⟩ = some (.int .i64 M.hk) := h.cell rfl
  rw [hk] at c25
  have hl := h.lt
  have hmC : M.m ≠ C := fun e => by have x := hm.box; rw [e, show w.heap[C]? = _ from h] at x; simp at x
  have hFC : F ≠ C := fun e => by have x := hm.fl; rw [e, show w.heap[C]? = _ from h] at x; simp at x
  have hRC : R ≠ C := fun e => by have x := hm.ram; rw [e, show w.heap[C]? = _ from h] at x; simp at x
  have tM := hm.ltB
  have tF := hm.ltF
  have tR := hm.ltR
  have hB := (Below.refl w.heap.size w).alloc (Nat.le_refl _) (.cells #[.int .u32 0, .int .u32 0, .int .i64 0, .int .i64 0, .int .i64 0] 41)
  have hE := heap_alloc_last w (.cells #[.int .u32 0, .int .u32 0, .int .i64 0, .int .i64 0, .int .i64 0] 41)
  have HS := hide (step_any (h.below hB) (hm.below hB) hf hn hg hgb (hL.below hB) ntR)
  have HB := hide hB
  have HE := hide hE
  clear hB hE
  go_enter Tryz.func11, Tryz.ntmps11
  go_wp2_with fail
  refine (unhide HS).mono ?_
  rintro e w1 ⟨j, e0, hat, rfl, hQ, hI, hO⟩
  clear HS c25
  have O1 := hide ((Off.of_below (S := [C, R]) HB.out).trans hO)
  generalize hS : w.heap.size = S at *
  have E1 := (hO.block S (by rw [← hS]; simp) (by simp; omega)).trans HE.out
  have HAT := hide hat
  have hz1 : S < w1.heap.size := lt_of_heap E1
  clear HE HB hO hat
  by_cases hs : stE n f g M j e0 = 0
  · have eV : stV n f g M j e0 = evA M j (exeW n f g (stW0 M j)) := if_pos hs
    have eQ : stQ n f g M j e0 = aft M j (exeW n f g (stW0 M j)) := if_pos hs
    have eM : stM n f g M j e0 = aft M j (exeW n f g (stW0 M j)) := if_pos hs
    have eR : stR n f g M j e0 = 0 := if_pos hs
    rw [eQ] at hQ
    have hfin : Hid (∀ (x1 : Ending) (x2 : World), x1 = .returned (.tuple #[.agg (evA M j (exeW n f g (stW0 M j))), .int .i64 0]) → Mx x2 C (aft M j (exeW n f g (stW0 M j))) → Is x2 M.m F R n f (stG n f g M j e0) → Off [C, R] w x2 → ∃ j e0, AtI n f (M.s.R 15) j e0 ∧ x1 = .returned (.tuple #[.agg (stV n f g M j e0), .int .i64 (stR n f g M j e0)]) ∧ Mx x2 C (stM n f g M j e0) ∧ Is x2 M.m F R n f (stG n f g M j e0) ∧ Off [C, R] w x2) :=
      fun x1 x2 h1 h2 h3 h4 => ⟨j, e0, HAT.out, by rw [eV, eR]; exact h1, by rw [eM]; exact h2, h3, h4⟩
    clear eM eR
    rw [eV, hs]
    clear eV eQ
    unfold evA at *
    generalize exeW n f g (stW0 M j) = W1 at *
    generalize basI M.s j = bb at *
    generalize Clock.mss M.fl M.l (M.s.R 15) (Inst.siz j.f) = mm at *
    unfold evv at *
    replace hQ := hide hQ
    replace hI := hide hI
    have e0' : w1.cell? ⟨S, 0, none⟩ = some (.int .u32 0) := by rw [cell_of_row w1 S 0 _ _ _ E1]; rfl
    have e1' : w1.cell? ⟨S, 1, none⟩ = some (.int .u32 0) := by rw [cell_of_row w1 S 1 _ _ _ E1]; rfl
    have e2' : w1.cell? ⟨S, 2, none⟩ = some (.int .i64 0) := by rw [cell_of_row w1 S 2 _ _ _ E1]; rfl
    have e3' : w1.cell? ⟨S, 3, none⟩ = some (.int .i64 0) := by rw [cell_of_row w1 S 3 _ _ _ E1]; rfl
    have e4' : w1.cell? ⟨S, 4, none⟩ = some (.int .i64 0) := by rw [cell_of_row w1 S 4 _ _ _ E1]; rfl
    have f0 := free_row E1 0
    have f1 := free_row E1 1
    have f2 := free_row E1 2
    have f3 := free_row E1 3
    have f4 := free_row E1 4
    have hOS := ((((((Off.refl [S] w1).set (p := ⟨S, 0, none⟩) (by simp) (.int .u32 (M.s.R 15))).set (p := ⟨S, 1, none⟩) (by simp) (.int .u32 W1.da)).set (p := ⟨S, 2, none⟩) (by simp) (.int .i64 W1.wo)).set (p := ⟨S, 3, none⟩) (by simp) (.int .i64 bb)).set (p := ⟨S, 4, none⟩) (by simp) (.int .i64 mm)).alloc (.cells #[.int .u32 (M.s.R 15), .int .u32 W1.da, .int .i64 W1.wo, .int .i64 bb, .int .i64 mm] 41)
    replace hOS := hide hOS
    replace E1 := hide E1
    go_wp2_with fail
    refine bodyPost_ret (v := .tuple #[.agg #[.int .u32 (M.s.R 15), .int .u32 W1.da, .int .i64 W1.wo, .int .i64 bb, .int .i64 mm], .int .i64 0]) (by simp [results, Tryz.results11, go_sem, e0', e1', e2', e3', e4', hz1]) rfl ?_
    refine hfin.out _ _ rfl ?_ ?_ ?_
    · exact hQ.out.off hOS.out (by simp; omega)
    · exact isOff hI.out hOS.out (by simp; omega) (by simp; omega) (by simp; omega)
    · exact Off.sub ((O1.out.mono (T := [C, R, S]) (by intro k hk; simp at hk ⊢; omega)).trans (hOS.out.mono (by intro k hk; simp at hk ⊢; omega))) (by intro k hk; simp at hk ⊢; omega)
  · have eV : stV n f g M j e0 = evv 0 0 0 0 0 := if_neg hs
    have eQ : stQ n f g M j e0 = M := if_neg hs
    have eM : stM n f g M j e0 = { M with hk := 3, hc := stE n f g M j e0 } := if_neg hs
    have eR : stR n f g M j e0 = 10 := if_neg hs
    rw [eQ] at hQ
    have hfin : Hid (∀ (x1 : Ending) (x2 : World), x1 = .returned (.tuple #[.agg (evv 0 0 0 0 0), .int .i64 10]) → Mx x2 C { M with hk := 3, hc := stE n f g M j e0 } → Is x2 M.m F R n f (stG n f g M j e0) → Off [C, R] w x2 → ∃ j e0, AtI n f (M.s.R 15) j e0 ∧ x1 = .returned (.tuple #[.agg (stV n f g M j e0), .int .i64 (stR n f g M j e0)]) ∧ Mx x2 C (stM n f g M j e0) ∧ Is x2 M.m F R n f (stG n f g M j e0) ∧ Off [C, R] w x2) :=
      fun x1 x2 h1 h2 h3 h4 => ⟨j, e0, HAT.out, by rw [eV, eR]; exact h1, by rw [eM]; exact h2, h3, h4⟩
    clear eM eR
    rw [eV]
    clear eV eQ
    generalize stE n f g M j e0 = en at *
    have hs' : (en == 0) = false := by simpa using hs
    clear hs
    unfold evv at *
    have k25 : w1.cell? ⟨C, 25, none⟩ = some (.int .i64 M.hk) := hQ.cell rfl
    have k26 : w1.cell? ⟨C, 26, none⟩ = some (.int .i64 M.hc) := hQ.cell rfl
    have g25 := hQ.free 25
    have g26 := hQ.free 26
    have hM2 := hide (show Mx ((w1.setCell ⟨C, 25, none⟩ (.int .i64 3)).setCell ⟨C, 26, none⟩ (.int .i64 en)) C { M with hk := 3, hc := en } from (hQ.set (k := 25) (v := .int .i64 3) (M' := { M with hk := 3 }) rfl).set (k := 26) (v := .int .i64 en) rfl)
    replace hQ := hide hQ
    replace hI := hide hI
    have hCS : C ≠ S := by omega
    have hC1 : C < w1.heap.size := lt_of_heap (show w1.heap[C]? = _ from hQ.out)
    have P2 := hide ((((Off.refl [C] w1).set (p := ⟨C, 25, none⟩) (by simp) (.int .i64 3)).set (p := ⟨C, 26, none⟩) (by simp) (.int .i64 en)).alloc (.cells #[.int .u32 0, .int .u32 0, .int .i64 0, .int .i64 0, .int .i64 0] 41))
    have hM3 := hide ((show Mx _ C { M with hk := 3, hc := en } from hM2.out).below ((Below.refl _ _).alloc (Nat.le_refl _) (.cells #[.int .u32 0, .int .u32 0, .int .i64 0, .int .i64 0, .int .i64 0] 41)))
    clear hM2
    replace E1 := hide E1
    go_upto_region 6 with fail
    (try simp only [Act.put, List.getElem_toArray, List.getElem_cons_zero, List.getElem_cons_succ, List.setIfInBounds_toArray, List.set_cons_zero, List.set_cons_succ])
    clear k25 k26 g25 g26
    generalize hw2 : ((w1.setCell ⟨C, 25, none⟩ (.int .i64 3)).setCell ⟨C, 26, none⟩ (.int .i64 en)).alloc (.cells #[.int .u32 0, .int .u32 0, .int .i64 0, .int .i64 0, .int .i64 0] 41) = w2 at *
    have E2 := (P2.out.block S hz1 (by simp; omega)).trans E1.out
    have I2 := hide (isOff hI.out P2.out (by simpa using hmC) (by simpa using hFC) (by simpa using hRC))
    have O2 := hide ((O1.out.mono (T := [C, R]) (by intro k hk; exact hk)).trans (P2.out.mono (T := [C, R]) (by intro k hk; simp at hk ⊢; omega)))
    clear hw2 hI hQ O1 E1 P2 hC1 hz1
    have hz2 : S < w2.heap.size := lt_of_heap E2
    have e0' : w2.cell? ⟨S, 0, none⟩ = some (.int .u32 0) := by rw [cell_of_row w2 S 0 _ _ _ E2]; rfl
    have e1' : w2.cell? ⟨S, 1, none⟩ = some (.int .u32 0) := by rw [cell_of_row w2 S 1 _ _ _ E2]; rfl
    have e2' : w2.cell? ⟨S, 2, none⟩ = some (.int .i64 0) := by rw [cell_of_row w2 S 2 _ _ _ E2]; rfl
    have e3' : w2.cell? ⟨S, 3, none⟩ = some (.int .i64 0) := by rw [cell_of_row w2 S 3 _ _ _ E2]; rfl
    have e4' : w2.cell? ⟨S, 4, none⟩ = some (.int .i64 0) := by rw [cell_of_row w2 S 4 _ _ _ E2]; rfl
    have f0 := free_row E2 0
    have f1 := free_row E2 1
    have f2 := free_row E2 2
    have f3 := free_row E2 3
    have f4 := free_row E2 4
    have P3 := hide (((((Off.refl [S] w2).set (p := ⟨S, 0, none⟩) (by simp) (.int .u32 0)).set (p := ⟨S, 1, none⟩) (by simp) (.int .u32 0)).set (p := ⟨S, 2, none⟩) (by simp) (.int .i64 0)).set (p := ⟨S, 3, none⟩) (by simp) (.int .i64 0) |>.set (p := ⟨S, 4, none⟩) (by simp) (.int .i64 0))
    replace E2 := hide E2
    go_wp2_with fail
    refine bodyPost_ret (v := .tuple #[.agg #[.int .u32 0, .int .u32 0, .int .i64 0, .int .i64 0, .int .i64 0], .int .i64 10]) (by simp [results, Tryz.results11, go_sem, e0', e1', e2', e3', e4', hz2]) rfl ?_
    with_reducible refine hfin.out _ _ rfl ?_ ?_ ?_
    · exact hM3.out.off P3.out (by simp; omega)
    · exact isOff I2.out P3.out (by simp; omega) (by simp; omega) (by simp; omega)
    · exact Off.sub ((O2.out.mono (T := [C, R, S]) (by intro k hk; simp at hk ⊢; omega)).trans (P3.out.mono (by intro k hk; simp at hk ⊢; omega))) (by intro k hk; simp at hk ⊢; omega)
end Go.Proofs.YtkkhofoaolgapaaGreatDoor.Core

