/- For every instruction i, taken or not, and every two words the statement ClockBases returns true: it takes as long as the document says, or isn't right and has no base.
Conditions: none of the arguments; the package variables that the row lists hold what the program lays (the card ties them to its text). -/
import Derived.Test.YtpgcnbipnjcniaaDoorRows
import Derived.WalkKit
import Derived.ProofKit
import Derived.OpenShut
import Derived.Deep.DeepHandedRow
import Derived.Deep.RegionHeld3
import Derived.Test.YtpgcnbipnjcniaaDoorCards
import Derived.Test.YtpgcnbipnjcniaaDoorTie
import Derived.Test.YtpgcnbipnjcniaaDoorEnds
import Derived.Test.YtpgcnbipnjcniaaDoorClockRefB
import Derived.Test.YtpgcnbipnjcniaaDoorClockLaid
namespace Go.Proofs.YtpgcnbipnjcniaaDoor.clockBases
open Go.ChangeShapes Go.WideShapes Go.ChangeAt Go.RowKit
set_option linter.unusedVariables false

theorem own : ownKnob Tryd.prog.godebug = none := by kernel_rfl
theorem laidOut : laidOutB Tryd.prog = true := by kernel_rfl

set_option maxHeartbeats 1000000 in
theorem walk (f rd rn rm ra im kd bs st cd rg : Int) (a1 : Bool) (a2 : Int) (a3 : Int) (w : World) (w0 : ∀ z ∈ [f, rd, rn, rm, ra, im, kd, bs, st, cd, rg], (Lit.int .i64 z).wf = true)  (w2 : (Lit.int .u32 a2).wf = true) (w3 : (Lit.int .u32 a3).wf = true) (hL : Clk.Laid w) :
    Calls Tryd.prog 4 #[.agg #[.int .i64 f, .int .i64 rd, .int .i64 rn, .int .i64 rm, .int .i64 ra, .int .i64 im, .int .i64 kd, .int .i64 bs, .int .i64 st, .int .i64 cd, .int .i64 rg], .bool a1, .int .u32 a2, .int .u32 a3] w fun e w' => e = .returned (.bool true) ∧ Below w.heap.size w w' := by
  obtain ⟨g0, g1⟩ := bounds_i64 (w0 rg (by simp))
  obtain ⟨x1, x2⟩ := bounds_u32 w2
  obtain ⟨y1, y2⟩ := bounds_u32 w3
  have HE := Alu.hide (Inst.right_eq f rd rn rm ra im kd bs st cd rg (by omega) (by omega))
  clear w0 w2 w3
  have hB := (Below.refl w.heap.size w).alloc (Nat.le_refl _) (.cells #[.int .i64 f, .int .i64 rd, .int .i64 rn, .int .i64 rm, .int .i64 ra, .int .i64 im, .int .i64 kd, .int .i64 bs, .int .i64 st, .int .i64 cd, .int .i64 rg] 25)
  cases hr : Inst.right f rd rn rm ra im kd bs st cd rg
  · have hrr : Inst.refR f rd rn rm ra im kd bs st cd rg = false := by rw [← Alu.unhide HE]; exact hr
    have HR := Alu.hide hr
    clear hr HE
    go_enter Tryd.func4, Tryd.ntmps4
    go_wp2_with fail
    refine (Clock.anchor_any _).mono ?_
    rintro e w1 ⟨rfl, hb1⟩
    obtain ⟨hc, hfz⟩ := Clock.bcell hb1
    go_wp2_with fail
    refine (Clock.Base_no _ _ _ _ _ _ _ _ _ _ _ (Alu.unhide HR) _ _ _ _ ((hL.alloc _).below hb1)).mono ?_
    rintro e w2 ⟨rfl, hb2⟩
    have hb3 := Clock.next hb1 hb2
    clear hc hfz
    obtain ⟨hc, hfz⟩ := Clock.bcell hb3
    go_wp2_with fail
    refine (Clock.of5_any _ _ _ _ _ _ _ _ _ _ _ _).mono ?_
    rintro e w3 ⟨rfl, hb4⟩
    go_wp2_with fail
    refine (Inst.refRight_any _ _ _ _ _ _ _ _ _ _ _ _).mono ?_
    rintro e w4 ⟨rfl, hb5⟩
    rw [hrr]
    go_wp2_with fail
    go_ret
    exact ⟨rfl, hB.trans ((Clock.next (Clock.next hb3 hb4) hb5).mono hB.size)⟩
  · have hrr : Inst.refR f rd rn rm ra im kd bs st cd rg = true := by rw [← Alu.unhide HE]; exact hr
    have HR := Alu.hide hr
    clear hr HE
    go_enter Tryd.func4, Tryd.ntmps4
    go_wp2_with fail
    refine (Clock.anchor_any _).mono ?_
    rintro e w1 ⟨rfl, hb1⟩
    obtain ⟨hc, hfz⟩ := Clock.bcell hb1
    go_wp2_with fail
    refine (Clock.Base_yes _ _ _ _ _ _ _ _ _ _ _ (Alu.unhide HR) (by omega) (by omega) _ _ _ x1 (by omega) y1 (by omega) _ ((hL.alloc _).below hb1)).mono ?_
    rintro e w2 ⟨rfl, hb2⟩
    have hb3 := Clock.next hb1 hb2
    clear hc hfz
    obtain ⟨hc, hfz⟩ := Clock.bcell hb3
    go_wp2_with fail
    refine (Clock.of5_any _ _ _ _ _ _ _ _ _ _ _ _).mono ?_
    rintro e w3 ⟨rfl, hb4⟩
    go_wp2_with fail
    refine (Inst.refRight_any _ _ _ _ _ _ _ _ _ _ _ _).mono ?_
    rintro e w4 ⟨rfl, hb5⟩
    rw [hrr]
    have hb6 := Clock.next (Clock.next hb3 hb4) hb5
    clear hc hfz
    obtain ⟨hc, hfz⟩ := Clock.bcell hb6
    go_wp2_with fail
    refine (Clock.of5_any _ _ _ _ _ _ _ _ _ _ _ _).mono ?_
    rintro e w5 ⟨rfl, hb7⟩
    go_wp2_with fail
    refine (Clock.refBase_any _ _ _ _ _ _ _ _ _ _ _ (Alu.unhide HR) (by omega) (by omega) _ _ _ x1 (by omega) y1 (by omega) _).mono ?_
    rintro e w6 ⟨rfl, hb8⟩
    have hb9 := hB.trans ((Clock.next (Clock.next hb6 hb7) hb8).mono hB.size)
    have hq : (Clock.bas f a1 a2 a3 rg == Clock.bas f a1 a2 a3 rg) = true := by simp
    have hq2 : (Clock.dv a2 a3 == Clock.dv a2 a3) = true := by simp
    generalize Clock.bas f a1 a2 a3 rg = B at *
    go_wp2_with (first
      | (go_at_call 16; refine (Clock.Div_any _ _ x1 (by omega) y1 (by omega) _).mono ?_; rintro e w' ⟨rfl, rfl⟩)
      | (go_at_call 17; refine (Clock.refDiv_any _ _ x1 (by omega) y1 (by omega) _).mono ?_; rintro e w' ⟨rfl, rfl⟩))
    go_ret
    exact ⟨rfl, hb9⟩

theorem laid_met (os : Os) : laidMet Tryd.prog Rows.clockBasesRow.laid ((Clk.laidWorld Tryd.prog os).forCall (fun _ _ => 0) ⟨#[], #[.agg #[.int .i64 0, .int .i64 0, .int .i64 0, .int .i64 0, .int .i64 0, .int .i64 0, .int .i64 0, .int .i64 0, .int .i64 0, .int .i64 0, .int .i64 0], .bool false, .int .u32 0, .int .u32 0], []⟩).memory :=
  laidMet_of_run' 8 (by kernel_rfl) (by kernel_rfl)
theorem reads (os : Os) {H : Type} (enc : TypeId × Value → H) : ∃ places, DataW.whole enc Tryd.prog ((Clk.laidWorld Tryd.prog os).forCall (fun _ _ => 0) ⟨#[], #[.agg #[.int .i64 0, .int .i64 0, .int .i64 0, .int .i64 0, .int .i64 0, .int .i64 0, .int .i64 0, .int .i64 0, .int .i64 0, .int .i64 0, .int .i64 0], .bool false, .int .u32 0, .int .u32 0], []⟩).memory Tryd.f4.params.toList Rows.clockBasesSpec.vars false (#[.agg #[.int .i64 0, .int .i64 0, .int .i64 0, .int .i64 0, .int .i64 0, .int .i64 0, .int .i64 0, .int .i64 0, .int .i64 0, .int .i64 0, .int .i64 0], .bool false, .int .u32 0, .int .u32 0] : Array Value).toList 8 = some ([(.agg [.lit (.int .i64 0), .lit (.int .i64 0), .lit (.int .i64 0), .lit (.int .i64 0), .lit (.int .i64 0), .lit (.int .i64 0), .lit (.int .i64 0), .lit (.int .i64 0), .lit (.int .i64 0), .lit (.int .i64 0), .lit (.int .i64 0)]), (.lit (.bool false)), (.lit (.int .u32 0)), (.lit (.int .u32 0))], [], places) :=
  ⟨[], by kernel_rfl⟩

set_option maxRecDepth 100000 in
theorem lifted (os : Os) (started : os.Started) (H : Type) (enc : TypeId × Value → H) (F : Stop.Interp) :
    ReturnsInHanded {} Tryd.checked os 4 .any ((OpenSpec.ofChange Rows.clockBasesSpec).preRow enc Tryd.prog Tryd.f4 Rows.clockBasesRow.domain false Rows.clockBasesRow.laid) (((OpenSpec.ofChange Rows.clockBasesSpec).at F).post enc Tryd.prog Tryd.f4 false true false false) := by
  obtain ⟨places, hx⟩ := reads os enc
  refine returnsInHanded_of_row (C := Tryd.checked) (s := OpenSpec.ofChange Rows.clockBasesSpec) own started (by kernel_rfl) Tryd.func4
    (witness_row_at (enc := enc) (C := Tryd.checked) false (Clk.laidWorld Tryd.prog os) #[.agg #[.int .i64 0, .int .i64 0, .int .i64 0, .int .i64 0, .int .i64 0, .int .i64 0, .int .i64 0, .int .i64 0, .int .i64 0, .int .i64 0, .int .i64 0], .bool false, .int .u32 0, .int .u32 0] rfl (by kernel_rfl) (by kernel_rfl) (by kernel_rfl)
      (OpenSpec.preRow_of_cond 8 hx (by kernel_rfl) (fun k hk => by cases hk) (by kernel_rfl) (laid_met os))) ?_
  intro W base args ds gs before hval0 hW _ _ _ hL _ _
  have hval : ∀ (j : Nat) t v, Tryd.f4.params[j]? = some t → args[j]? = some v → Value.okWide Tryd.prog W .any base t v := hval0
  have hW' := hW
  obtain ⟨p, q, hA0, hV, rfl, hfz, hnd⟩ := hW
  have hA : DataW.TrodAll enc Tryd.prog W 0 (fun _ => true) true Tryd.f4.params.toList args.toList ds p := hA0
  rw [Tryd.params4] at hA hval
  obtain ⟨v0, vs0, d0, ds0, p0, q0, hargs, rfl, rfl, h0, r0⟩ := trodAll_cons hA
  obtain ⟨v1, vs1, d1, ds1, p1, q1, rfl, rfl, rfl, h1, r1⟩ := trodAll_cons r0
  obtain ⟨v2, vs2, d2, ds2, p2, q2, rfl, rfl, rfl, h2, r2⟩ := trodAll_cons r1
  obtain ⟨v3, vs3, d3, ds3, p3, q3, rfl, rfl, rfl, h3, r3⟩ := trodAll_cons r2
  obtain ⟨rfl, rfl, rfl⟩ := trodAll_nil r3
  obtain rfl : args = #[v0, v1, v2, v3] := by cases args; simp_all
  obtain ⟨rfl, rfl⟩ := trodVars_none hV
  have k0 := h0
  obtain ⟨f, rd, rn, rm, ra, im, kd, bs, st, cd, rg, rfl, rfl, rfl, w0⟩ := Inst.open_inst (hval 0 25 v0 rfl rfl) h0
  obtain ⟨a1, rfl, rfl, rfl⟩ := open_bool Tryd.underlying4 (hval 1 4 v1 rfl rfl) h1
  obtain ⟨a2, rfl, rfl, rfl, w2⟩ := open_int Tryd.underlying32 (hval 2 32 v2 rfl rfl) h2
  obtain ⟨a3, rfl, rfl, rfl, w3⟩ := open_int Tryd.underlying32 (hval 3 32 v3 rfl rfl) h3
  clear hA0 hval0
  simp only [List.append_nil] at hW'
  try simp only [List.nil_append] at hW'
  have hlt : ∀ x, x ∈ ([] : List MemPlace) → x.block < W.heap.size := fun x hx => by simpa using hW'.lt x hx
  refine (walk f rd rn rm ra im kd bs st cd rg a1 a2 a3 W w0  w2 w3 (Clk.laid_of hL)).mono fun e W' ⟨he, hg⟩ => ?_
  subst he
  exact ⟨_, rfl, Ends.post_of_below (pv := []) hW' (fun _ _ _ => (trodAll_cons_mk (shut_bool Tryd.underlying4 _) trodAll_mk0)) (trodAll_cons_mk (WideElems.Trod_stays Inst.laidOut (by kernel_rfl) (of_decide_eq_true (by kernel_rfl)) k0 (fun x hx => by cases hx) (fun x hx => by cases hx)) (trodAll_cons_mk (shut_bool Tryd.underlying4 _) (trodAll_cons_mk (shut_int Tryd.underlying32 w2) (trodAll_cons_mk (shut_int Tryd.underlying32 w3) trodAll_mk0)))) (fun _ _ => rfl) (by simp)
    (hg.frame _)⟩

theorem said : Rows.ClockBasesSaid :=
  OpenClaim.holds_of_cond 4 Tryd.f4 rfl rfl rfl rfl rfl rfl rfl ⟨rfl, rfl, rfl, rfl, rfl⟩ rfl rfl rfl rfl rfl (by kernel_rfl) Tryd.func4 (by kernel_rfl)
    (of_decide_eq_true (by kernel_rfl)) (by unfold Func.isWrapper; first | (rw [if_pos (by decide +kernel)]; kernel_rfl) | (rw [if_neg (by decide +kernel)]; exact ⟨rfl, rfl⟩))
    (fun os started H enc _ F => by rw [OpenClaim.pre_eq_preRow]; exact lifted os started H enc F)

/-- No parameter wants a stand-in; the program's own looks are off: what the card asks. -/
theorem plain (f : FuncId) (fn : Func) (hf : Tryd.pinned.checked.prog.funcNamed "remontoire/remontoirelaw05.ClockBases" = some f) (hfn : Tryd.pinned.checked.prog.funcs[f]? = some fn) :
    false = Tryd.pinned.checked.prog.looks [] ∧ ∀ (j : Nat) t, fn.params[j]? = some t → Tryd.pinned.checked.prog.wantsStandIn t = false := by
  obtain rfl : f = 4 := Option.some.inj ((show Tryd.prog.funcNamed "remontoire/remontoirelaw05.ClockBases" = some 4 by kernel_rfl).symm.trans hf) |>.symm
  obtain rfl : fn = Tryd.f4 := (Option.some.inj (Tryd.func4.symm.trans hfn)).symm
  refine ⟨by kernel_rfl, fun j t ht => ?_⟩
  rw [Tryd.params4] at ht
  have hm := Array.mem_of_getElem? ht
  simp only [List.mem_toArray, List.mem_cons, List.not_mem_nil, or_false, or_self] at hm
  rcases hm with rfl | rfl | rfl
  · exact (show Tryd.prog.wantsStandIn 25 = false by kernel_rfl)
  · exact (show Tryd.prog.wantsStandIn 4 = false by kernel_rfl)
  · exact (show Tryd.prog.wantsStandIn 32 = false by kernel_rfl)

/-- The card. -/
theorem proved : Rows.ClockBasesCardSaid :=
  Claim7.holds_tied_plain_at .later [] _ _ _ _ said (fun _ h => by cases h) (by kernel_rfl) (fun _ h => by cases h) clockBases_row_tie rfl ⟨rfl, rfl⟩ (by kernel_rfl) rfl plain (by kernel_rfl)
#print axioms proved
end Go.Proofs.YtpgcnbipnjcniaaDoor.clockBases
