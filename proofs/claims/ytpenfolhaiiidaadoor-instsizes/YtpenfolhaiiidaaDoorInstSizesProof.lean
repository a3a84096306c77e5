/- For every shape s the statement InstSizes returns true: of all forms 47 are narrow and 53 wide; just the shapes from 1 to 34 are some form's.
Conditions: none of the arguments; the package variables that the row lists hold what the program lays (the card ties them to its text). -/
import Derived.Test.YtpenfolhaiiidaaDoorRows
import Derived.WalkKit
import Derived.ProofKit
import Derived.OpenShut
import Derived.Deep.DeepHandedRow
import Derived.Deep.RegionHeld3
import Derived.Test.YtpenfolhaiiidaaDoorCards
import Derived.Test.YtpenfolhaiiidaaDoorTie
import Derived.Test.YtpenfolhaiiidaaDoorEnds
import Derived.Test.YtpenfolhaiiidaaDoorInstLaid
import Derived.Test.YtpenfolhaiiidaaDoorInstOf
import Derived.Test.YtpenfolhaiiidaaDoorInstForm
import Derived.Test.YtpenfolhaiiidaaDoorInstTab
import Derived.Test.YtpenfolhaiiidaaDoorInstCount
namespace Go.Proofs.YtpenfolhaiiidaaDoor.instSizes
open Go.ChangeShapes Go.WideShapes Go.ChangeAt Go.RowKit
set_option linter.unusedVariables false

theorem own : ownKnob Tryd.prog.godebug = none := by kernel_rfl
theorem siz_low (j : Nat) (h : j < 47) : Inst.siz ((j : Int) + 1) = 2 := by
  unfold Inst.siz; rw [if_pos (Inst.isF_yes (by omega)), if_neg (by unfold Inst.wdF; rw [decide_eq_true_eq]; omega)]
theorem siz_high (j : Nat) (h : 47 ≤ j) (h2 : j < 100) : Inst.siz ((j : Int) + 1) = 4 := by
  unfold Inst.siz; rw [if_pos (Inst.isF_yes (by omega)), if_pos (by unfold Inst.wdF; rw [decide_eq_true_eq]; omega)]
theorem nar_low (j : Nat) (h : j < 47) : Inst.nar (j + 1) = Inst.nar j + 1 := by unfold Inst.nar; rw [if_pos (by omega), if_pos (by omega)]; omega
theorem wdn_low (j : Nat) (h : j < 47) : Inst.wdn (j + 1) = Inst.wdn j := by unfold Inst.wdn; rw [if_pos (by omega), if_pos (by omega)]
theorem nar_high (j : Nat) (h : 47 ≤ j) : Inst.nar (j + 1) = Inst.nar j := by unfold Inst.nar; rw [if_neg (by omega)]; split <;> omega
theorem wdn_high (j : Nat) (h : 47 ≤ j) : Inst.wdn (j + 1) = Inst.wdn j + 1 := by unfold Inst.wdn; rw [if_neg (by omega)]; split <;> omega
theorem nar_bd (j : Nat) : 0 ≤ Inst.nar j ∧ Inst.nar j ≤ 47 := by unfold Inst.nar; split <;> omega
theorem wdn_bd (j : Nat) (h : j ≤ 100) : 0 ≤ Inst.wdn j ∧ Inst.wdn j ≤ 53 := by unfold Inst.wdn; split <;> omega

theorem walk (a0 : Int) (w0 : (Lit.int .i64 a0).wf = true) (w : World) (hL : Inst.Laid w) :
    Calls Tryd.prog 7 #[.int .i64 a0] w fun e w' => e = .returned (.bool true) ∧ Below w.heap.size w w' := by
  have hs : (a0 < 1 ∨ 34 < a0) ∨ (1 ≤ a0 ∧ a0 ≤ 34) := by omega
  clear w0
  go_enter Tryd.func7, Tryd.ntmps7
  go_wp2_with fail
  refine (Inst.anchor_any _ hL).mono ?_
  rintro e w1 ⟨rfl, hb1⟩
  have hL1 := hL.below hb1
  go_wp2_with fail
  go_loopw [3, 4, 5, 6] (fun a b c i wr => ∃ j : Nat, j ≤ 100 ∧ a = .int .i64 (Inst.nar j) ∧ b = .int .i64 (Inst.wdn j) ∧ c = .int .i64 (Inst.cnt a0 j) ∧ i = .int .i64 ((j : Int) + 1) ∧ Inst.Laid wr ∧ Below w.heap.size w wr) (fun _ _ _ i _ => 101 - (intOf i).toNat)
  case atStart => exact ⟨0, by omega, rfl, rfl, rfl, rfl, hL1, hb1⟩
  case round =>
    obtain ⟨j, hj, rfl, rfl, rfl, rfl, hLr, hbr⟩ := hrel
    have hnb := nar_bd j
    have hwb := wdn_bd j hj
    have hcb := Inst.cnt_bd a0 j
    by_cases hlt : j < 100
    · have HC := Alu.hide (Inst.cnt_yes a0 j hlt)
      have HD := Alu.hide (Inst.cnt_no a0 j hlt)
      by_cases hlow : j < 47
      · have hsz := siz_low j hlow
        have HN := Alu.hide (nar_low j hlow)
        have HW := Alu.hide (wdn_low j hlow)
        cases hsh : Inst.shp ((j : Int) + 1) == a0
        · have hcn := Alu.unhide HD (by simpa using hsh)
          have HX := Alu.hide hcn
          clear hcn HC HD
          go_wp2_with (first
            | (go_at_call 14; refine (Inst.Size_any _ _).mono ?_; rintro e w' ⟨rfl, rfl⟩)
            | (go_at_call 10; refine (Inst.Shape_any _ _ (by first | exact hLr.shs | exact (hLr.below hb2).shs)).mono ?_; rintro e w' ⟨rfl, rfl⟩)
            | (go_at_call 11; refine (Inst.refShape_any _ _).mono ?_; rintro e w2 ⟨rfl, hb2⟩))
          go_roundw
          case rel => exact ⟨j + 1, by omega, by rw [Alu.unhide HN], by rw [Alu.unhide HW], by rw [Alu.unhide HX], by go_num, hLr.below hb2, hbr.trans (hb2.mono hbr.size)⟩
          case measure => simp [intOf]; omega
        · have hcn := Alu.unhide HC (by simpa using hsh)
          have HX := Alu.hide hcn
          clear hcn HC HD
          go_wp2_with (first
            | (go_at_call 14; refine (Inst.Size_any _ _).mono ?_; rintro e w' ⟨rfl, rfl⟩)
            | (go_at_call 10; refine (Inst.Shape_any _ _ (by first | exact hLr.shs | exact (hLr.below hb2).shs)).mono ?_; rintro e w' ⟨rfl, rfl⟩)
            | (go_at_call 11; refine (Inst.refShape_any _ _).mono ?_; rintro e w2 ⟨rfl, hb2⟩))
          go_roundw
          case rel => exact ⟨j + 1, by omega, by rw [Alu.unhide HN], by rw [Alu.unhide HW], by rw [Alu.unhide HX], by go_num, hLr.below hb2, hbr.trans (hb2.mono hbr.size)⟩
          case measure => simp [intOf]; omega
      · have hsz := siz_high j (by omega) hlt
        have HN := Alu.hide (nar_high j (by omega))
        have HW := Alu.hide (wdn_high j (by omega))
        cases hsh : Inst.shp ((j : Int) + 1) == a0
        · have hcn := Alu.unhide HD (by simpa using hsh)
          have HX := Alu.hide hcn
          clear hcn HC HD
          go_wp2_with (first
            | (go_at_call 14; refine (Inst.Size_any _ _).mono ?_; rintro e w' ⟨rfl, rfl⟩)
            | (go_at_call 10; refine (Inst.Shape_any _ _ (by first | exact hLr.shs | exact (hLr.below hb2).shs)).mono ?_; rintro e w' ⟨rfl, rfl⟩)
            | (go_at_call 11; refine (Inst.refShape_any _ _).mono ?_; rintro e w2 ⟨rfl, hb2⟩))
          go_roundw
          case rel => exact ⟨j + 1, by omega, by rw [Alu.unhide HN], by rw [Alu.unhide HW], by rw [Alu.unhide HX], by go_num, hLr.below hb2, hbr.trans (hb2.mono hbr.size)⟩
          case measure => simp [intOf]; omega
        · have hcn := Alu.unhide HC (by simpa using hsh)
          have HX := Alu.hide hcn
          clear hcn HC HD
          go_wp2_with (first
            | (go_at_call 14; refine (Inst.Size_any _ _).mono ?_; rintro e w' ⟨rfl, rfl⟩)
            | (go_at_call 10; refine (Inst.Shape_any _ _ (by first | exact hLr.shs | exact (hLr.below hb2).shs)).mono ?_; rintro e w' ⟨rfl, rfl⟩)
            | (go_at_call 11; refine (Inst.refShape_any _ _).mono ?_; rintro e w2 ⟨rfl, hb2⟩))
          go_roundw
          case rel => exact ⟨j + 1, by omega, by rw [Alu.unhide HN], by rw [Alu.unhide HW], by rw [Alu.unhide HX], by go_num, hLr.below hb2, hbr.trans (hb2.mono hbr.size)⟩
          case measure => simp [intOf]; omega
    · obtain rfl : j = 100 := by omega
      have e1 : Inst.nar 100 = 47 := rfl
      have e2 : Inst.wdn 100 = 53 := rfl
      rcases hs with (hs | hs) | hs
      · have hn := Inst.cnt_none a0 (by omega)
        go_wp2_with fail
        go_ret
        exact ⟨rfl, hbr⟩
      · have hn := Inst.cnt_none a0 (by omega)
        go_wp2_with fail
        go_ret
        exact ⟨Alu.ret_bool (by simp; omega), hbr⟩
      · have hn := Inst.cnt_some a0 hs.1 hs.2
        go_wp2_with fail
        go_ret
        exact ⟨rfl, hbr⟩

theorem laid_met (os : Os) : laidMet Tryd.prog Rows.instSizesRow.laid ((Inst.laidWorld Tryd.prog os).forCall (fun _ _ => 0) ⟨#[], #[.int .i64 0], []⟩).memory :=
  laidMet_of_run' 8 (by kernel_rfl) (by kernel_rfl)
theorem reads (os : Os) {H : Type} (enc : TypeId × Value → H) : ∃ places, DataW.whole enc Tryd.prog ((Inst.laidWorld Tryd.prog os).forCall (fun _ _ => 0) ⟨#[], #[.int .i64 0], []⟩).memory Tryd.f7.params.toList Rows.instSizesSpec.vars false (#[.int .i64 0] : Array Value).toList 8 = some ([(.lit (.int .i64 0))], [], places) :=
  ⟨[], by kernel_rfl⟩

set_option maxRecDepth 100000 in
theorem lifted (os : Os) (started : os.Started) (H : Type) (enc : TypeId × Value → H) (F : Stop.Interp) :
    ReturnsInHanded {} Tryd.checked os 7 .any ((OpenSpec.ofChange Rows.instSizesSpec).preRow enc Tryd.prog Tryd.f7 Rows.instSizesRow.domain false Rows.instSizesRow.laid) (((OpenSpec.ofChange Rows.instSizesSpec).at F).post enc Tryd.prog Tryd.f7 false true false false) := by
  obtain ⟨places, hx⟩ := reads os enc
  refine returnsInHanded_of_row (C := Tryd.checked) (s := OpenSpec.ofChange Rows.instSizesSpec) own started (by kernel_rfl) Tryd.func7
    (witness_row_at (enc := enc) (C := Tryd.checked) false (Inst.laidWorld Tryd.prog os) #[.int .i64 0] rfl (by kernel_rfl) (by kernel_rfl) (by kernel_rfl)
      (OpenSpec.preRow_of_cond 8 hx (by kernel_rfl) (fun k hk => by cases hk) (by kernel_rfl) (laid_met os))) ?_
  intro W base args ds gs before hval0 hW _ _ _ hL _ _
  have hval : ∀ (j : Nat) t v, Tryd.f7.params[j]? = some t → args[j]? = some v → Value.okWide Tryd.prog W .any base t v := hval0
  have hW' := hW
  obtain ⟨p, q, hA0, hV, rfl, hfz, hnd⟩ := hW
  have hA : DataW.TrodAll enc Tryd.prog W 0 (fun _ => true) true Tryd.f7.params.toList args.toList ds p := hA0
  rw [Tryd.params7] at hA hval
  obtain ⟨v0, vs0, d0, ds0, p0, q0, hargs, rfl, rfl, h0, r0⟩ := trodAll_cons hA
  obtain ⟨rfl, rfl, rfl⟩ := trodAll_nil r0
  obtain rfl : args = #[v0] := by cases args; simp_all
  obtain ⟨rfl, rfl⟩ := trodVars_none hV
  obtain ⟨a0, rfl, rfl, rfl, w0⟩ := open_int Tryd.underlying24 (hval 0 24 v0 rfl rfl) h0
  clear hA0 hval0
  simp only [List.append_nil] at hW'
  refine (walk a0 w0 W (Inst.laid_of hL)).mono fun e W' ⟨he, hg⟩ => ?_
  subst he
  exact ⟨_, rfl, Ends.post_of_frame (pa := []) (pv := []) hW' (fun _ _ _ => (trodAll_cons_mk (shut_bool Tryd.underlying4 _) trodAll_mk0)) (fun sp _ => (trodAll_cons_mk (shut_int Tryd.underlying24 w0) trodAll_mk0)) (fun _ _ => rfl) rfl
    (hg.frame _)⟩

theorem said : Rows.InstSizesSaid :=
  OpenClaim.holds_of_cond 7 Tryd.f7 rfl rfl rfl rfl rfl rfl rfl ⟨rfl, rfl, rfl, rfl, rfl⟩ rfl rfl rfl rfl rfl (by kernel_rfl) Tryd.func7 (by kernel_rfl)
    (of_decide_eq_true (by kernel_rfl)) (by unfold Func.isWrapper; first | (rw [if_pos (by decide +kernel)]; kernel_rfl) | (rw [if_neg (by decide +kernel)]; exact ⟨rfl, rfl⟩))
    (fun os started H enc _ F => by rw [OpenClaim.pre_eq_preRow]; exact lifted os started H enc F)

/-- No parameter wants a stand-in; the program's own looks are off: what the card asks. -/
theorem plain (f : FuncId) (fn : Func) (hf : Tryd.pinned.checked.prog.funcNamed "remontoire/remontoirelaw03.InstSizes" = some f) (hfn : Tryd.pinned.checked.prog.funcs[f]? = some fn) :
    false = Tryd.pinned.checked.prog.looks [] ∧ ∀ (j : Nat) t, fn.params[j]? = some t → Tryd.pinned.checked.prog.wantsStandIn t = false := by
  obtain rfl : f = 7 := Option.some.inj ((show Tryd.prog.funcNamed "remontoire/remontoirelaw03.InstSizes" = some 7 by kernel_rfl).symm.trans hf) |>.symm
  obtain rfl : fn = Tryd.f7 := (Option.some.inj (Tryd.func7.symm.trans hfn)).symm
  refine ⟨by kernel_rfl, fun j t ht => ?_⟩
  rw [Tryd.params7] at ht
  have hm := Array.mem_of_getElem? ht
  simp only [List.mem_toArray, List.mem_cons, List.not_mem_nil, or_false] at hm
  rcases hm with rfl
  · exact (show Tryd.prog.wantsStandIn 24 = false by kernel_rfl)

/-- The card. -/
theorem proved : Rows.InstSizesCardSaid :=
  Claim7.holds_tied_plain_at .later [] _ _ _ _ said (fun _ h => by cases h) (by kernel_rfl) (fun _ h => by cases h) instSizes_row_tie rfl ⟨rfl, rfl⟩ (by kernel_rfl) rfl plain (by kernel_rfl)
#print axioms proved
end Go.Proofs.YtpenfolhaiiidaaDoor.instSizes
