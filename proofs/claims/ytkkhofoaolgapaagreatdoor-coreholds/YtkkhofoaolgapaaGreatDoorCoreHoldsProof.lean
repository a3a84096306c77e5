/- For every state s and every number cond the statement CoreHolds returns true: the conditions are the document's, and each odd one holds just if the one ahead of it doesn't.
Conditions: none of the arguments; the package variables that the row lists hold what the program lays (the card ties them to its text). -/
import Derived.Test.YtkkhofoaolgapaaGreatDoorRows
import Derived.WalkKit
import Derived.ProofKit
import Derived.OpenShut
import Derived.Deep.DeepHandedRow
import Derived.Deep.RegionHeld3
import Derived.Test.YtkkhofoaolgapaaGreatDoorCards
import Derived.Test.YtkkhofoaolgapaaGreatDoorTie
import Derived.Test.YtkkhofoaolgapaaGreatDoorEnds
import Derived.Test.YtkkhofoaolgapaaGreatDoorCoreAnchor
import Derived.Test.YtkkhofoaolgapaaGreatDoorCoreRefH
import Derived.Test.YtkkhofoaolgapaaGreatDoorStateOpen
namespace Go.Proofs.YtkkhofoaolgapaaGreatDoor.coreHolds
open Go.ChangeShapes Go.WideShapes Go.ChangeAt Go.RowKit
set_option linter.unusedVariables false

theorem own : ownKnob Tryz.prog.godebug = none := by kernel_rfl
theorem laidOut : laidOutB Tryz.prog = true := by kernel_rfl
open Go.Proofs.YtkkhofoaolgapaaGreatDoor.Core Go.Proofs.YtkkhofoaolgapaaGreatDoor.Mem Go.Proofs.YtkkhofoaolgapaaGreatDoor.Alu
theorem is01_b (x : Int) : is01 (b01 x) := by unfold is01 b01; split <;> omega
theorem flip (R : Nat → Int) (n z c v : Int) (hn : is01 n) (hz : is01 z) (hc : is01 c) (hv : is01 v) (cd : Int) (h0 : 0 ≤ cd) (h1 : cd ≤ 13) : (holdsB ⟨R, n, z, c, v⟩ cd != holdsB ⟨R, n, z, c, v⟩ (bits .xor .i64 cd 1)) = true := by
  obtain ⟨k, rfl⟩ := Int.eq_ofNat_of_zero_le h0
  rcases hn with rfl | rfl <;> rcases hz with rfl | rfl <;> rcases hc with rfl | rfl <;> rcases hv with rfl | rfl <;>
    (rcases (show k = 0 ∨ k = 1 ∨ k = 2 ∨ k = 3 ∨ k = 4 ∨ k = 5 ∨ k = 6 ∨ k = 7 ∨ k = 8 ∨ k = 9 ∨ k = 10 ∨ k = 11 ∨ k = 12 ∨ k = 13 by omega) with rfl | rfl | rfl | rfl | rfl | rfl | rfl | rfl | rfl | rfl | rfl | rfl | rfl | rfl <;> rfl)
theorem is01_min (x : Int) (h : 0 ≤ x) : is01 (if 1 < x then 1 else x) := by unfold is01; split <;> omega

set_option maxHeartbeats 4000000 in
theorem walk (s0 : Core.St) (a1 : Int) (w : World) (w0 : Core.Word1 s0) (w1 : (Lit.int .i64 a1).wf = true) (hL : Code.Laid w) :
    Calls Tryz.prog 5 #[.agg (Core.stv s0), .int .i64 a1] w fun e w' => e = .returned (.bool true) ∧ Below w.heap.size w w' := by
  have hb := (Below.refl w.heap.size w).alloc (Nat.le_refl _) (.cells (stv s0) 27)
  have hx := Sx.new w s0
  go_enter Tryz.func5, Tryz.ntmps5
  go_wp2_with fail
  refine (anchor7_any _ (hL.below hb)).mono ?_
  rintro e w1 ⟨rfl, hb1⟩
  have X1 : Sx w1 w.heap.size s0 := (hb1.block _ (by simp)).trans hx
  have B1 : Below w.heap.size w w1 := hb.trans (hb1.mono hb.size)
  have c16 : w1.cell? ⟨w.heap.size, 16, none⟩ = some (.int .u32 s0.n) := X1.cell rfl
  have c17 : w1.cell? ⟨w.heap.size, 17, none⟩ = some (.int .u32 s0.z) := X1.cell rfl
  have c18 : w1.cell? ⟨w.heap.size, 18, none⟩ = some (.int .u32 s0.c) := X1.cell rfl
  have c19 : w1.cell? ⟨w.heap.size, 19, none⟩ = some (.int .u32 s0.v) := X1.cell rfl
  have f16 := X1.free 16
  have f17 := X1.free 17
  have f18 := X1.free 18
  have f19 := X1.free 19
  replace X1 := hide X1
  clear hx hb hb1
  generalize hS : w.heap.size = S at *
  have X4 := hide (show Sx ((((w1.setCell ⟨S, 16, none⟩ (.int .u32 (if 1 < s0.n then 1 else s0.n))).setCell ⟨S, 17, none⟩ (.int .u32 (if 1 < s0.z then 1 else s0.z))).setCell ⟨S, 18, none⟩ (.int .u32 (if 1 < s0.c then 1 else s0.c))).setCell ⟨S, 19, none⟩ (.int .u32 (if 1 < s0.v then 1 else s0.v))) S ⟨s0.R, if 1 < s0.n then 1 else s0.n, if 1 < s0.z then 1 else s0.z, if 1 < s0.c then 1 else s0.c, if 1 < s0.v then 1 else s0.v⟩ from ((((show Sx w1 S s0 from X1.out).set (s' := ⟨s0.R, if 1 < s0.n then 1 else s0.n, s0.z, s0.c, s0.v⟩) rfl).set (s' := ⟨s0.R, if 1 < s0.n then 1 else s0.n, if 1 < s0.z then 1 else s0.z, s0.c, s0.v⟩) rfl).set (s' := ⟨s0.R, if 1 < s0.n then 1 else s0.n, if 1 < s0.z then 1 else s0.z, if 1 < s0.c then 1 else s0.c, s0.v⟩) rfl).set rfl)
  have O4 := hide (((((Core.Off.refl [S] w1).set (p := ⟨S, 16, none⟩) (by simp) (.int .u32 (if 1 < s0.n then 1 else s0.n))).set (p := ⟨S, 17, none⟩) (by simp) (.int .u32 (if 1 < s0.z then 1 else s0.z))).set (p := ⟨S, 18, none⟩) (by simp) (.int .u32 (if 1 < s0.c then 1 else s0.c))).set (p := ⟨S, 19, none⟩) (by simp) (.int .u32 (if 1 < s0.v then 1 else s0.v)))
  have hn := is01_min s0.n w0.n.1
  have hz := is01_min s0.z w0.z.1
  have hc := is01_min s0.c w0.c.1
  have hv := is01_min s0.v w0.v.1
  replace hn := hide hn
  replace hz := hide hz
  replace hc := hide hc
  replace hv := hide hv
  clear w0 X1
  go_upto_region 4 with fail
  clear c16 c17 c18 c19 f16 f17 f18 f19
  generalize hw4 : (((w1.setCell ⟨S, 16, none⟩ (.int .u32 (if 1 < s0.n then 1 else s0.n))).setCell ⟨S, 17, none⟩ (.int .u32 (if 1 < s0.z then 1 else s0.z))).setCell ⟨S, 18, none⟩ (.int .u32 (if 1 < s0.c then 1 else s0.c))).setCell ⟨S, 19, none⟩ (.int .u32 (if 1 < s0.v then 1 else s0.v)) = w4 at *
  clear hw4
  generalize (if 1 < s0.n then 1 else s0.n) = N at *
  generalize (if 1 < s0.z then 1 else s0.z) = Z at *
  generalize (if 1 < s0.c then 1 else s0.c) = C at *
  generalize (if 1 < s0.v then 1 else s0.v) = V at *
  have hl4 : S < w4.heap.size := lt_of_heap X4.out
  have B4 : Below S w w4 := B1.trans (O4.out.below (by have := B1.size; omega) (by intro k hk; simp at hk; omega))
  clear O4 B1
  go_wp2_with (refine wpList_load_row rfl 27 (.tmp 2) rfl S rfl 27 _ (0, 0) _ (unhide X4) Tryz.underlying27 rfl info_st ?_)
  refine (Holds_any ⟨s0.R, N, Z, C, V⟩ a1 _).mono ?_
  rintro e w5 ⟨rfl, hb5⟩
  have X5 := hide ((hb5.block S hl4).trans X4.out)
  have B5 : Below S w w5 := B4.trans (hb5.mono (by omega))
  clear hb5 B4 X4 hl4
  have hl5 : S < w5.heap.size := lt_of_heap X5.out
  go_wp2_with (refine wpList_load_row rfl 27 (.tmp 2) rfl S rfl 27 _ (0, 0) _ (unhide X5) Tryz.underlying27 rfl info_st ?_)
  refine (refHolds_any s0.R N Z C V hn.out hz.out hc.out hv.out a1 _).mono ?_
  rintro e w6 ⟨rfl, hb6⟩
  have X6 := hide ((hb6.block S hl5).trans X5.out)
  have B6 : Below S w w6 := B5.trans (hb6.mono (by omega))
  clear hb6 B5 X5 hl5
  have hl6 : S < w6.heap.size := lt_of_heap X6.out
  have HF := hide (flip s0.R N Z C V hn.out hz.out hc.out hv.out a1)
  by_cases h0 : a1 < 0
  · go_wp2_with fail
    go_ret
    exact ⟨rfl, by rw [hS]; exact B6⟩
  · by_cases h13 : 13 < a1
    · go_wp2_with fail
      go_ret
      exact ⟨rfl, by rw [hS]; exact B6⟩
    · have HG := hide (HF.out (by omega) (by omega))
      clear HF
      have e0 : decide (a1 < 0) = false := decide_eq_false h0
      have e13 : decide (13 < a1) = false := decide_eq_false h13
      clear h0 h13
      set_option maxRecDepth 100000 in
      go_wp2_with (first | rw [e0] | rw [e13] | (refine BigFrame.wpList_want rfl (fun K hK => ?_); refine wp_load_row 27 (.tmp 2) rfl S rfl 27 _ (0, 0) _ (unhide X6) Tryz.underlying27 rfl info_st ?_; refine hK _ _ ?_))
      refine (Holds_any ⟨s0.R, N, Z, C, V⟩ _ _).mono ?_
      rintro e w7 ⟨rfl, hb7⟩
      go_wp2_with fail
      go_ret
      exact ⟨Alu.ret_bool (by first | exact HG.out | simpa using HG.out | (rw [e0, e13]; simpa using HG.out)), by rw [hS]; exact B6.trans (hb7.mono (by omega))⟩

theorem laid_met (os : Os) : laidMet Tryz.prog Rows.coreHoldsRow.laid ((Code.laidWorld Tryz.prog os).forCall (fun _ _ => 0) ⟨#[], #[.agg #[.int .u32 0, .int .u32 0, .int .u32 0, .int .u32 0, .int .u32 0, .int .u32 0, .int .u32 0, .int .u32 0, .int .u32 0, .int .u32 0, .int .u32 0, .int .u32 0, .int .u32 0, .int .u32 0, .int .u32 0, .int .u32 0, .int .u32 0, .int .u32 0, .int .u32 0, .int .u32 0], .int .i64 0], []⟩).memory :=
  laidMet_of_run' 8 (by kernel_rfl) (by kernel_rfl)
theorem reads (os : Os) {H : Type} (enc : TypeId × Value → H) : ∃ places, DataW.whole enc Tryz.prog ((Code.laidWorld Tryz.prog os).forCall (fun _ _ => 0) ⟨#[], #[.agg #[.int .u32 0, .int .u32 0, .int .u32 0, .int .u32 0, .int .u32 0, .int .u32 0, .int .u32 0, .int .u32 0, .int .u32 0, .int .u32 0, .int .u32 0, .int .u32 0, .int .u32 0, .int .u32 0, .int .u32 0, .int .u32 0, .int .u32 0, .int .u32 0, .int .u32 0, .int .u32 0], .int .i64 0], []⟩).memory Tryz.f5.params.toList Rows.coreHoldsSpec.vars false (#[.agg #[.int .u32 0, .int .u32 0, .int .u32 0, .int .u32 0, .int .u32 0, .int .u32 0, .int .u32 0, .int .u32 0, .int .u32 0, .int .u32 0, .int .u32 0, .int .u32 0, .int .u32 0, .int .u32 0, .int .u32 0, .int .u32 0, .int .u32 0, .int .u32 0, .int .u32 0, .int .u32 0], .int .i64 0] : Array Value).toList 8 = some ([(.agg [.agg [.lit (.int .u32 0), .lit (.int .u32 0), .lit (.int .u32 0), .lit (.int .u32 0), .lit (.int .u32 0), .lit (.int .u32 0), .lit (.int .u32 0), .lit (.int .u32 0), .lit (.int .u32 0), .lit (.int .u32 0), .lit (.int .u32 0), .lit (.int .u32 0), .lit (.int .u32 0), .lit (.int .u32 0), .lit (.int .u32 0), .lit (.int .u32 0)], .lit (.int .u32 0), .lit (.int .u32 0), .lit (.int .u32 0), .lit (.int .u32 0)]), (.lit (.int .i64 0))], [], places) :=
  ⟨[], by kernel_rfl⟩

set_option maxRecDepth 100000 in
theorem lifted (os : Os) (started : os.Started) (H : Type) (enc : TypeId × Value → H) (F : Stop.Interp) :
    ReturnsInHanded {} Tryz.checked os 5 .any ((OpenSpec.ofChange Rows.coreHoldsSpec).preRow enc Tryz.prog Tryz.f5 Rows.coreHoldsRow.domain false Rows.coreHoldsRow.laid) (((OpenSpec.ofChange Rows.coreHoldsSpec).at F).post enc Tryz.prog Tryz.f5 false true false false) := by
  obtain ⟨places, hx⟩ := reads os enc
  refine returnsInHanded_of_row (C := Tryz.checked) (s := OpenSpec.ofChange Rows.coreHoldsSpec) own started (by kernel_rfl) Tryz.func5
    (witness_row_at (enc := enc) (C := Tryz.checked) false (Code.laidWorld Tryz.prog os) #[.agg #[.int .u32 0, .int .u32 0, .int .u32 0, .int .u32 0, .int .u32 0, .int .u32 0, .int .u32 0, .int .u32 0, .int .u32 0, .int .u32 0, .int .u32 0, .int .u32 0, .int .u32 0, .int .u32 0, .int .u32 0, .int .u32 0, .int .u32 0, .int .u32 0, .int .u32 0, .int .u32 0], .int .i64 0] rfl (by kernel_rfl) (by kernel_rfl) (by kernel_rfl)
      (OpenSpec.preRow_of_cond 8 hx (by kernel_rfl) (fun k hk => by cases hk) (by kernel_rfl) (laid_met os))) ?_
  intro W base args ds gs before hval0 hW _ _ _ hL _ _
  have hval : ∀ (j : Nat) t v, Tryz.f5.params[j]? = some t → args[j]? = some v → Value.okWide Tryz.prog W .any base t v := hval0
  have hW' := hW
  obtain ⟨p, q, hA0, hV, rfl, hfz, hnd⟩ := hW
  have hA : DataW.TrodAll enc Tryz.prog W 0 (fun _ => true) true Tryz.f5.params.toList args.toList ds p := hA0
  rw [Tryz.params5] at hA hval
  obtain ⟨v0, vs0, d0, ds0, p0, q0, hargs, rfl, rfl, h0, r0⟩ := trodAll_cons hA
  obtain ⟨v1, vs1, d1, ds1, p1, q1, rfl, rfl, rfl, h1, r1⟩ := trodAll_cons r0
  obtain ⟨rfl, rfl, rfl⟩ := trodAll_nil r1
  obtain rfl : args = #[v0, v1] := by cases args; simp_all
  obtain ⟨rfl, rfl⟩ := trodVars_none hV
  have k0 := h0
  obtain ⟨s0, rfl, rfl, w0⟩ := Core.open_state (hval 0 27 v0 rfl rfl) h0
  obtain ⟨a1, rfl, rfl, rfl, w1⟩ := open_int Tryz.underlying3 (hval 1 3 v1 rfl rfl) h1
  clear hA0 hval0
  simp only [List.append_nil] at hW'
  try simp only [List.nil_append] at hW'
  have hlt : ∀ x, x ∈ ([] : List MemPlace) → x.block < W.heap.size := fun x hx => by simpa using hW'.lt x hx
  refine (walk s0 a1 W w0 w1 (Code.laid_of hL)).mono fun e W' ⟨he, hg⟩ => ?_
  subst he
  exact ⟨_, rfl, Ends.post_of_below (pv := []) hW' (fun _ _ _ => (trodAll_cons_mk (shut_bool Tryz.underlying4 _) trodAll_mk0)) (trodAll_cons_mk (WideElems.Trod_stays laidOut (by kernel_rfl) (of_decide_eq_true (by kernel_rfl)) k0 (fun x hx => by cases hx) (fun x hx => by cases hx)) (trodAll_cons_mk (shut_int Tryz.underlying3 w1) trodAll_mk0)) (fun _ _ => rfl) (by simp)
    (hg.frame _)⟩

theorem said : Rows.CoreHoldsSaid :=
  OpenClaim.holds_of_cond 5 Tryz.f5 rfl rfl rfl rfl rfl rfl rfl ⟨rfl, rfl, rfl, rfl, rfl⟩ rfl rfl rfl rfl rfl (by kernel_rfl) Tryz.func5 (by kernel_rfl)
    (of_decide_eq_true (by kernel_rfl)) (by unfold Func.isWrapper; first | (rw [if_pos (by decide +kernel)]; kernel_rfl) | (rw [if_neg (by decide +kernel)]; exact ⟨rfl, rfl⟩))
    (fun os started H enc _ F => by rw [OpenClaim.pre_eq_preRow]; exact lifted os started H enc F)

/-- No parameter wants a stand-in; the program's own looks are off: what the card asks. -/
theorem plain (f : FuncId) (fn : Func) (hf : Tryz.pinned.checked.prog.funcNamed "remontoire/remontoirelaw07.CoreHolds" = some f) (hfn : Tryz.pinned.checked.prog.funcs[f]? = some fn) :
    false = Tryz.pinned.checked.prog.looks [] ∧ ∀ (j : Nat) t, fn.params[j]? = some t → Tryz.pinned.checked.prog.wantsStandIn t = false := by
  obtain rfl : f = 5 := Option.some.inj ((show Tryz.prog.funcNamed "remontoire/remontoirelaw07.CoreHolds" = some 5 by kernel_rfl).symm.trans hf) |>.symm
  obtain rfl : fn = Tryz.f5 := (Option.some.inj (Tryz.func5.symm.trans hfn)).symm
  refine ⟨by kernel_rfl, fun j t ht => ?_⟩
  rw [Tryz.params5] at ht
  have hm := Array.mem_of_getElem? ht
  simp only [List.mem_toArray, List.mem_cons, List.not_mem_nil, or_false] at hm
  rcases hm with rfl | rfl
  · exact (show Tryz.prog.wantsStandIn 27 = false by kernel_rfl)
  · exact (show Tryz.prog.wantsStandIn 3 = false by kernel_rfl)

/-- The card. -/
theorem proved : Rows.CoreHoldsCardSaid :=
  Claim7.holds_tied_plain_at .later [] _ _ _ _ said (fun _ h => by cases h) (by kernel_rfl) (fun _ h => by cases h) coreHolds_row_tie rfl ⟨rfl, rfl⟩ (by kernel_rfl) rfl plain (by kernel_rfl)
#print axioms proved
end Go.Proofs.YtkkhofoaolgapaaGreatDoor.coreHolds

