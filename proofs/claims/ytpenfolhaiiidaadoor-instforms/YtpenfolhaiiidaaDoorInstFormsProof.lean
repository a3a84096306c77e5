/- For every form f the statement InstForms returns true: it is one just from 1 to 100; its shape, its bits and its length are the document's; none that is one has an empty word.
Conditions: none of the arguments; the package variables that the row lists hold what the program lays (the card ties them to its text). -/
import Derived.Test.YtpenfolhaiiidaaDoorRows
import Derived.WalkKit
import Derived.ProofKit
import Derived.OpenShut
import Derived.Deep.DeepHandedRow
import Derived.Deep.RegionHeld3
import Derived.Test.YtpenfolhaiiidaaDoorCards
import Derived.Test.YtpenfolhaiiidaaDoorTie
import Derived.Test.YtpenfolhaiiidaaDoorEnds
import Derived.Test.YtpenfolhaiiidaaDoorInstLaidF
import Derived.Test.YtpenfolhaiiidaaDoorInstOf
import Derived.Test.YtpenfolhaiiidaaDoorInstForm
import Derived.Test.YtpenfolhaiiidaaDoorInstTab
namespace Go.Proofs.YtpenfolhaiiidaaDoor.instForms
open Go.ChangeShapes Go.WideShapes Go.ChangeAt Go.RowKit
set_option linter.unusedVariables false

theorem own : ownKnob Tryd.prog.godebug = none := by kernel_rfl

set_option maxHeartbeats 4000000 in
theorem walk (a0 : Int) (w0 : (Lit.int .i64 a0).wf = true) (w : World) (hL : InstF.Laid w) :
    Calls Tryd.prog 3 #[.int .i64 a0] w fun e w' => e = .returned (.bool true) ∧ Below w.heap.size w w' := by
  have hr : (a0 < 1 ∨ 100 < a0) ∨ (1 ≤ a0 ∧ a0 ≤ 47) ∨ (48 ≤ a0 ∧ a0 ≤ 100) := by omega
  have hd : Inst.wdF a0 = decide (48 ≤ a0 ∧ a0 ≤ 100) := rfl
  have hz : Inst.siz a0 = if Inst.isF a0 then (if Inst.wdF a0 then 4 else 2) else 0 := rfl
  clear w0
  rcases hr with (hr | hr) | hr | hr
  · have h : Inst.isF a0 = false := Inst.isF_no (by omega)
    rw [decide_eq_false (by omega)] at hd
    rw [h, if_neg (by decide)] at hz
    go_enter Tryd.func3, Tryd.ntmps3
    go_wp2_with fail
    refine (Inst.anchor_any _ hL.two).mono ?_
    rintro e w1 ⟨rfl, hb1⟩
    have hL1 := hL.below hb1
    go_wp2_with fail
    refine (Inst.Is_any _ _).mono ?_
    rintro e w' ⟨rfl, rfl⟩
    go_wp2_with fail
    refine (Inst.Shape_any _ _ hL1.two.shs).mono ?_
    rintro e w' ⟨rfl, rfl⟩
    go_wp2_with fail
    refine (Inst.refShape_any _ _).mono ?_
    rintro e w2 ⟨rfl, hb2⟩
    have hL2 := hL1.below hb2
    go_wp2_with fail
    refine (Inst.Bits_any _ _ hL2.bits).mono ?_
    rintro e w' ⟨rfl, rfl⟩
    go_wp2_with fail
    refine (Inst.refBits_any _ _).mono ?_
    rintro e w3 ⟨rfl, hb3⟩
    have hL3 := hL2.below hb3
    go_wp2_with fail
    refine (Inst.Size_any _ _).mono ?_
    rintro e w' ⟨rfl, rfl⟩
    go_wp2_with fail
    refine (Inst.Wide_any _ _).mono ?_
    rintro e w' ⟨rfl, rfl⟩
    go_wp2_with fail
    refine (Inst.Name_no _ h _).mono ?_
    rintro e w' ⟨rfl, rfl⟩
    go_wp2_with fail
    refine (Inst.Bytes_any _ _ _ _ _ _ _ _ _ _ _ _).mono ?_
    rintro e w4 ⟨rfl, hb4⟩
    go_wp2_with fail
    go_ret
    exact ⟨rfl, Inst.next (Inst.next (Inst.next hb1 hb2) hb3) hb4⟩
  · have h : Inst.isF a0 = false := Inst.isF_no (by omega)
    rw [decide_eq_false (by omega)] at hd
    rw [h, if_neg (by decide)] at hz
    go_enter Tryd.func3, Tryd.ntmps3
    go_wp2_with fail
    refine (Inst.anchor_any _ hL.two).mono ?_
    rintro e w1 ⟨rfl, hb1⟩
    have hL1 := hL.below hb1
    go_wp2_with fail
    refine (Inst.Is_any _ _).mono ?_
    rintro e w' ⟨rfl, rfl⟩
    go_wp2_with fail
    refine (Inst.Shape_any _ _ hL1.two.shs).mono ?_
    rintro e w' ⟨rfl, rfl⟩
    go_wp2_with fail
    refine (Inst.refShape_any _ _).mono ?_
    rintro e w2 ⟨rfl, hb2⟩
    have hL2 := hL1.below hb2
    go_wp2_with fail
    refine (Inst.Bits_any _ _ hL2.bits).mono ?_
    rintro e w' ⟨rfl, rfl⟩
    go_wp2_with fail
    refine (Inst.refBits_any _ _).mono ?_
    rintro e w3 ⟨rfl, hb3⟩
    have hL3 := hL2.below hb3
    go_wp2_with fail
    refine (Inst.Size_any _ _).mono ?_
    rintro e w' ⟨rfl, rfl⟩
    go_wp2_with fail
    refine (Inst.Wide_any _ _).mono ?_
    rintro e w' ⟨rfl, rfl⟩
    go_wp2_with fail
    refine (Inst.Name_no _ h _).mono ?_
    rintro e w' ⟨rfl, rfl⟩
    go_wp2_with fail
    refine (Inst.Bytes_any _ _ _ _ _ _ _ _ _ _ _ _).mono ?_
    rintro e w4 ⟨rfl, hb4⟩
    go_wp2_with fail
    go_ret
    exact ⟨rfl, Inst.next (Inst.next (Inst.next hb1 hb2) hb3) hb4⟩
  · have h : Inst.isF a0 = true := Inst.isF_yes (by omega)
    rw [decide_eq_false (by omega)] at hd
    rw [h, hd, if_pos rfl, if_neg (by decide)] at hz
    go_enter Tryd.func3, Tryd.ntmps3
    go_wp2_with fail
    refine (Inst.anchor_any _ hL.two).mono ?_
    rintro e w1 ⟨rfl, hb1⟩
    have hL1 := hL.below hb1
    go_wp2_with fail
    refine (Inst.Is_any _ _).mono ?_
    rintro e w' ⟨rfl, rfl⟩
    go_wp2_with fail
    refine (Inst.Shape_any _ _ hL1.two.shs).mono ?_
    rintro e w' ⟨rfl, rfl⟩
    go_wp2_with fail
    refine (Inst.refShape_any _ _).mono ?_
    rintro e w2 ⟨rfl, hb2⟩
    have hL2 := hL1.below hb2
    go_wp2_with fail
    refine (Inst.Bits_any _ _ hL2.bits).mono ?_
    rintro e w' ⟨rfl, rfl⟩
    go_wp2_with fail
    refine (Inst.refBits_any _ _).mono ?_
    rintro e w3 ⟨rfl, hb3⟩
    have hL3 := hL2.below hb3
    go_wp2_with fail
    refine (Inst.Size_any _ _).mono ?_
    rintro e w' ⟨rfl, rfl⟩
    go_wp2_with fail
    refine (Inst.Wide_any _ _).mono ?_
    rintro e w' ⟨rfl, rfl⟩
    go_wp2_with fail
    refine (Inst.Name_yes _ h _ hL3.words).mono ?_
    rintro e w' ⟨⟨s, rfl, hs⟩, rfl⟩
    have hs1 : ¬ s.toList = [] := fun e => hs (bytes_inj (by rw [← ByteArray.toList_eq, e]))
    have hs2 : s.toList.isEmpty = false := by simpa using hs1
    clear hs
    go_wp2_with fail
    refine (Inst.Bytes_any _ _ _ _ _ _ _ _ _ _ _ _).mono ?_
    rintro e w4 ⟨rfl, hb4⟩
    go_wp2_with fail
    go_ret
    exact ⟨rfl, Inst.next (Inst.next (Inst.next hb1 hb2) hb3) hb4⟩
  · have h : Inst.isF a0 = true := Inst.isF_yes (by omega)
    rw [decide_eq_true hr] at hd
    rw [h, hd, if_pos rfl, if_pos rfl] at hz
    go_enter Tryd.func3, Tryd.ntmps3
    go_wp2_with fail
    refine (Inst.anchor_any _ hL.two).mono ?_
    rintro e w1 ⟨rfl, hb1⟩
    have hL1 := hL.below hb1
    go_wp2_with fail
    refine (Inst.Is_any _ _).mono ?_
    rintro e w' ⟨rfl, rfl⟩
    go_wp2_with fail
    refine (Inst.Shape_any _ _ hL1.two.shs).mono ?_
    rintro e w' ⟨rfl, rfl⟩
    go_wp2_with fail
    refine (Inst.refShape_any _ _).mono ?_
    rintro e w2 ⟨rfl, hb2⟩
    have hL2 := hL1.below hb2
    go_wp2_with fail
    refine (Inst.Bits_any _ _ hL2.bits).mono ?_
    rintro e w' ⟨rfl, rfl⟩
    go_wp2_with fail
    refine (Inst.refBits_any _ _).mono ?_
    rintro e w3 ⟨rfl, hb3⟩
    have hL3 := hL2.below hb3
    go_wp2_with fail
    refine (Inst.Size_any _ _).mono ?_
    rintro e w' ⟨rfl, rfl⟩
    go_wp2_with fail
    refine (Inst.Wide_any _ _).mono ?_
    rintro e w' ⟨rfl, rfl⟩
    go_wp2_with fail
    refine (Inst.Name_yes _ h _ hL3.words).mono ?_
    rintro e w' ⟨⟨s, rfl, hs⟩, rfl⟩
    have hs1 : ¬ s.toList = [] := fun e => hs (bytes_inj (by rw [← ByteArray.toList_eq, e]))
    have hs2 : s.toList.isEmpty = false := by simpa using hs1
    clear hs
    go_wp2_with fail
    refine (Inst.Bytes_any _ _ _ _ _ _ _ _ _ _ _ _).mono ?_
    rintro e w4 ⟨rfl, hb4⟩
    go_wp2_with fail
    go_ret
    exact ⟨rfl, Inst.next (Inst.next (Inst.next hb1 hb2) hb3) hb4⟩

theorem laid_met (os : Os) : laidMet Tryd.prog Rows.instFormsRow.laid ((InstF.laidWorld Tryd.prog os).forCall (fun _ _ => 0) ⟨#[], #[.int .i64 0], []⟩).memory :=
  laidMet_of_run' 8 (by kernel_rfl) (by kernel_rfl)
theorem reads (os : Os) {H : Type} (enc : TypeId × Value → H) : ∃ places, DataW.whole enc Tryd.prog ((InstF.laidWorld Tryd.prog os).forCall (fun _ _ => 0) ⟨#[], #[.int .i64 0], []⟩).memory Tryd.f3.params.toList Rows.instFormsSpec.vars false (#[.int .i64 0] : Array Value).toList 8 = some ([(.lit (.int .i64 0))], [], places) :=
  ⟨[], by kernel_rfl⟩

set_option maxRecDepth 100000 in
theorem lifted (os : Os) (started : os.Started) (H : Type) (enc : TypeId × Value → H) (F : Stop.Interp) :
    ReturnsInHanded {} Tryd.checked os 3 .any ((OpenSpec.ofChange Rows.instFormsSpec).preRow enc Tryd.prog Tryd.f3 Rows.instFormsRow.domain false Rows.instFormsRow.laid) (((OpenSpec.ofChange Rows.instFormsSpec).at F).post enc Tryd.prog Tryd.f3 false true false false) := by
  obtain ⟨places, hx⟩ := reads os enc
  refine returnsInHanded_of_row (C := Tryd.checked) (s := OpenSpec.ofChange Rows.instFormsSpec) own started (by kernel_rfl) Tryd.func3
    (witness_row_at (enc := enc) (C := Tryd.checked) false (InstF.laidWorld Tryd.prog os) #[.int .i64 0] rfl (by kernel_rfl) (by kernel_rfl) (by kernel_rfl)
      (OpenSpec.preRow_of_cond 8 hx (by kernel_rfl) (fun k hk => by cases hk) (by kernel_rfl) (laid_met os))) ?_
  intro W base args ds gs before hval0 hW _ _ _ hL _ _
  have hval : ∀ (j : Nat) t v, Tryd.f3.params[j]? = some t → args[j]? = some v → Value.okWide Tryd.prog W .any base t v := hval0
  have hW' := hW
  obtain ⟨p, q, hA0, hV, rfl, hfz, hnd⟩ := hW
  have hA : DataW.TrodAll enc Tryd.prog W 0 (fun _ => true) true Tryd.f3.params.toList args.toList ds p := hA0
  rw [Tryd.params3] at hA hval
  obtain ⟨v0, vs0, d0, ds0, p0, q0, hargs, rfl, rfl, h0, r0⟩ := trodAll_cons hA
  obtain ⟨rfl, rfl, rfl⟩ := trodAll_nil r0
  obtain rfl : args = #[v0] := by cases args; simp_all
  obtain ⟨rfl, rfl⟩ := trodVars_none hV
  obtain ⟨a0, rfl, rfl, rfl, w0⟩ := open_int Tryd.underlying22 (hval 0 22 v0 rfl rfl) h0
  clear hA0 hval0
  simp only [List.append_nil] at hW'
  refine (walk a0 w0 W (InstF.laid_of hL)).mono fun e W' ⟨he, hg⟩ => ?_
  subst he
  exact ⟨_, rfl, Ends.post_of_frame (pa := []) (pv := []) hW' (fun _ _ _ => (trodAll_cons_mk (shut_bool Tryd.underlying4 _) trodAll_mk0)) (fun sp _ => (trodAll_cons_mk (shut_int Tryd.underlying22 w0) trodAll_mk0)) (fun _ _ => rfl) rfl
    (hg.frame _)⟩

theorem said : Rows.InstFormsSaid :=
  OpenClaim.holds_of_cond 3 Tryd.f3 rfl rfl rfl rfl rfl rfl rfl ⟨rfl, rfl, rfl, rfl, rfl⟩ rfl rfl rfl rfl rfl (by kernel_rfl) Tryd.func3 (by kernel_rfl)
    (of_decide_eq_true (by kernel_rfl)) (by unfold Func.isWrapper; first | (rw [if_pos (by decide +kernel)]; kernel_rfl) | (rw [if_neg (by decide +kernel)]; exact ⟨rfl, rfl⟩))
    (fun os started H enc _ F => by rw [OpenClaim.pre_eq_preRow]; exact lifted os started H enc F)

/-- No parameter wants a stand-in; the program's own looks are off: what the card asks. -/
theorem plain (f : FuncId) (fn : Func) (hf : Tryd.pinned.checked.prog.funcNamed "remontoire/remontoirelaw03.InstForms" = some f) (hfn : Tryd.pinned.checked.prog.funcs[f]? = some fn) :
    false = Tryd.pinned.checked.prog.looks [] ∧ ∀ (j : Nat) t, fn.params[j]? = some t → Tryd.pinned.checked.prog.wantsStandIn t = false := by
  obtain rfl : f = 3 := Option.some.inj ((show Tryd.prog.funcNamed "remontoire/remontoirelaw03.InstForms" = some 3 by kernel_rfl).symm.trans hf) |>.symm
  obtain rfl : fn = Tryd.f3 := (Option.some.inj (Tryd.func3.symm.trans hfn)).symm
  refine ⟨by kernel_rfl, fun j t ht => ?_⟩
  rw [Tryd.params3] at ht
  have hm := Array.mem_of_getElem? ht
  simp only [List.mem_toArray, List.mem_cons, List.not_mem_nil, or_false] at hm
  rcases hm with rfl
  · exact (show Tryd.prog.wantsStandIn 22 = false by kernel_rfl)

/-- The card. -/
theorem proved : Rows.InstFormsCardSaid :=
  Claim7.holds_tied_plain_at .later [] _ _ _ _ said (fun _ h => by cases h) (by kernel_rfl) (fun _ h => by cases h) instForms_row_tie rfl ⟨rfl, rfl⟩ (by kernel_rfl) rfl plain (by kernel_rfl)
#print axioms proved
end Go.Proofs.YtpenfolhaiiidaaDoor.instForms
