/- For every instruction i and every four words the statement ClockConstant returns true: but for Udiv no base hangs on the words, but for branches with a condition on nothing else; it is 0 to 13.
Conditions: none of the arguments; the package variables that the row lists hold what the program lays (the card ties them to its text). -/
import Derived.Test.YtpgcnbipnjcniaaDoorRows
import Derived.WalkKit
import Derived.ProofKit
import Derived.OpenShut
import Derived.Deep.DeepHandedRow
import Derived.Deep.RegionHeld3
import Derived.Test.YtpgcnbipnjcniaaDoorCards
import Derived.Test.YtpgcnbipnjcniaaDoorTie
import Derived.Test.YtpgcnbipnjcniaaDoorEnds
import Derived.Test.YtpgcnbipnjcniaaDoorClockBase
import Derived.Test.YtpgcnbipnjcniaaDoorClockLaid
namespace Go.Proofs.YtpgcnbipnjcniaaDoor.clockConstant
open Go.ChangeShapes Go.WideShapes Go.ChangeAt Go.RowKit
set_option linter.unusedVariables false

theorem own : ownKnob Tryd.prog.godebug = none := by kernel_rfl
theorem laidOut : laidOutB Tryd.prog = true := by kernel_rfl
theorem bas_words {f rg a b c d : Int} {t : Bool} (h : f ≠ 97) : Clock.bas f t a b rg = Clock.bas f t c d rg := by
  unfold Clock.bas
  rw [if_neg h, if_neg h]
theorem bas_taken {f rg a b : Int} {t u : Bool} (h : ¬ (f = 46 ∨ f = 99)) : Clock.bas f t a b rg = Clock.bas f u a b rg := by
  unfold Clock.bas
  rw [if_neg h, if_neg h]
theorem right_rg {f rd rn rm ra im kd bs st cd rg : Int} (h : Inst.right f rd rn rm ra im kd bs st cd rg = true) (g0 : -9223372036854775808 ≤ rg) (g1 : rg ≤ 9223372036854775807) (hf : f = 42 ∨ f = 43) : (0 ≤ rg ∧ rg < 256) ∨ (16384 ≤ rg ∧ rg < 16640) ∨ (32768 ≤ rg ∧ rg < 33024) := by
  unfold Inst.right at h
  simp only [Bool.and_eq_true] at h
  obtain ⟨hF, _, _, _, _, _, _, h⟩ := h
  rcases hf with rfl | rfl
  · rw [show Inst.shp 42 = 11 by decide +kernel, Inst.rgsR, if_pos rfl, Inst.som_push rg g0 g1] at h
    simp only [Inst.wi, Bool.or_eq_true, decide_eq_true_eq] at h
    omega
  · rw [show Inst.shp 43 = 12 by decide +kernel, Inst.rgsR, if_neg (by decide), if_pos rfl, Inst.som_pop rg g0 g1] at h
    simp only [Inst.wi, Bool.or_eq_true, decide_eq_true_eq] at h
    omega
theorem lc_bd {rg : Int} (h : (0 ≤ rg ∧ rg < 256) ∨ (16384 ≤ rg ∧ rg < 16640) ∨ (32768 ≤ rg ∧ rg < 33024)) : 0 ≤ Clock.lc rg ∧ Clock.lc rg ≤ 13 := by
  unfold Clock.lc
  have hb := Alu.bit_bd rg 15
  have h8 := Clock.ones_le 8 rg.toNat
  have hs : Clock.ones 16 rg.toNat = Clock.ones 8 rg.toNat + Clock.ones 8 (rg.toNat / 2 ^ 8) := Clock.ones_add 8 8 rg.toNat
  have hq : rg.toNat / 2 ^ 8 = 0 ∨ rg.toNat / 2 ^ 8 = 64 ∨ rg.toNat / 2 ^ 8 = 128 := by omega
  have ht : Clock.ones 8 (rg.toNat / 2 ^ 8) ≤ 1 := by rcases hq with h | h | h <;> rw [h] <;> decide
  omega
theorem dv_bd (a b : Int) (ha : 0 ≤ a) (ha2 : a < 4294967296) : 0 ≤ Clock.dv a b ∧ Clock.dv a b ≤ 13 := by
  have la := Alu.bitLen_le32 a.toNat (by omega)
  unfold Clock.dv
  split <;> omega
/-- A base, right or not. -/
def bx (R : Bool) (f : Int) (t : Bool) (a b rg : Int) : Int := if R then Clock.bas f t a b rg else 0
theorem bx_bd {f rd rn rm ra im kd bs st cd rg a b : Int} {t : Bool} (g0 : -9223372036854775808 ≤ rg) (g1 : rg ≤ 9223372036854775807) (ha : 0 ≤ a) (ha2 : a < 4294967296) : 0 ≤ bx (Inst.right f rd rn rm ra im kd bs st cd rg) f t a b rg ∧ bx (Inst.right f rd rn rm ra im kd bs st cd rg) f t a b rg ≤ 13 := by
  cases hr : Inst.right f rd rn rm ra im kd bs st cd rg
  · exact ⟨Int.le_refl 0, show (0 : Int) ≤ 13 by decide⟩
  · show 0 ≤ Clock.bas f t a b rg ∧ Clock.bas f t a b rg ≤ 13
    have hd := dv_bd a b ha ha2
    unfold Clock.bas Clock.cnd
    split
    · cases t <;> decide
    · split
      · decide
      · split
        · decide
        · split
          · exact lc_bd (right_rg hr g0 g1 (by assumption))
          · split
            · decide
            · split
              · exact hd
              · decide
theorem Base_any (f rd rn rm ra im kd bs st cd rg : Int) (g0 : -9223372036854775808 ≤ rg) (g1 : rg ≤ 9223372036854775807) (t : Bool) (a b : Int) (ha : 0 ≤ a) (ha2 : a < 4294967296) (hb : 0 ≤ b) (hb2 : b < 4294967296) (w : World) (hL : Inst.Laid w) :
    Calls Tryd.prog 12 #[.agg #[.int .i64 f, .int .i64 rd, .int .i64 rn, .int .i64 rm, .int .i64 ra, .int .i64 im, .int .i64 kd, .int .i64 bs, .int .i64 st, .int .i64 cd, .int .i64 rg], .bool t, .int .u32 a, .int .u32 b] w fun e w' => (∃ en, e = .returned (.tuple #[.int .i64 (bx (Inst.right f rd rn rm ra im kd bs st cd rg) f t a b rg), .int .i64 en])) ∧ Below w.heap.size w w' := by
  cases hr : Inst.right f rd rn rm ra im kd bs st cd rg
  · exact (Clock.Base_no _ _ _ _ _ _ _ _ _ _ _ hr _ _ _ w hL).mono fun e w' ⟨he, h⟩ => ⟨⟨10, he⟩, h⟩
  · exact (Clock.Base_yes _ _ _ _ _ _ _ _ _ _ _ hr g0 g1 _ _ _ ha ha2 hb hb2 w hL).mono fun e w' ⟨he, h⟩ => ⟨⟨0, he⟩, h⟩

set_option maxHeartbeats 1000000 in
theorem walk (f rd rn rm ra im kd bs st cd rg : Int) (a1 : Int) (a2 : Int) (a3 : Int) (a4 : Int) (w : World) (w0 : ∀ z ∈ [f, rd, rn, rm, ra, im, kd, bs, st, cd, rg], (Lit.int .i64 z).wf = true) (w1 : (Lit.int .u32 a1).wf = true) (w2 : (Lit.int .u32 a2).wf = true) (w3 : (Lit.int .u32 a3).wf = true) (w4 : (Lit.int .u32 a4).wf = true) (hL : Clk.Laid w) :
    Calls Tryd.prog 5 #[.agg #[.int .i64 f, .int .i64 rd, .int .i64 rn, .int .i64 rm, .int .i64 ra, .int .i64 im, .int .i64 kd, .int .i64 bs, .int .i64 st, .int .i64 cd, .int .i64 rg], .int .u32 a1, .int .u32 a2, .int .u32 a3, .int .u32 a4] w fun e w' => e = .returned (.bool true) ∧ Below w.heap.size w w' := by
  obtain ⟨g0, g1⟩ := bounds_i64 (w0 rg (by simp))
  obtain ⟨x1, x2⟩ := bounds_u32 w1
  obtain ⟨y1, y2⟩ := bounds_u32 w2
  obtain ⟨x3, x4⟩ := bounds_u32 w3
  obtain ⟨y3, y4⟩ := bounds_u32 w4
  clear w0 w1 w2 w3 w4
  have hB := (Below.refl w.heap.size w).alloc (Nat.le_refl _) (.cells #[.int .i64 f, .int .i64 rd, .int .i64 rn, .int .i64 rm, .int .i64 ra, .int .i64 im, .int .i64 kd, .int .i64 bs, .int .i64 st, .int .i64 cd, .int .i64 rg] 25)
  have HX := Alu.hide (bx_bd (f := f) (rd := rd) (rn := rn) (rm := rm) (ra := ra) (im := im) (kd := kd) (bs := bs) (st := st) (cd := cd) (rg := rg) (a := a1) (b := a2) (t := true) (by omega) (by omega) x1 (by omega))
  have HW : Hid (f ≠ 97 → bx (Inst.right f rd rn rm ra im kd bs st cd rg) f true a1 a2 rg = bx (Inst.right f rd rn rm ra im kd bs st cd rg) f true a3 a4 rg) := fun h => by unfold bx; rw [bas_words h]
  have HT : Hid (¬ (f = 46 ∨ f = 99) → bx (Inst.right f rd rn rm ra im kd bs st cd rg) f true a1 a2 rg = bx (Inst.right f rd rn rm ra im kd bs st cd rg) f false a1 a2 rg) := fun h => by unfold bx; rw [bas_taken h]
  go_enter Tryd.func5, Tryd.ntmps5
  go_wp2_with fail
  refine (Clock.anchor_any _).mono ?_
  rintro e w1 ⟨rfl, hb1⟩
  obtain ⟨hc, hfz⟩ := Clock.bcell hb1
  go_wp2_with fail
  refine (Base_any _ _ _ _ _ _ _ _ _ _ _ (by omega) (by omega) _ _ _ x1 (by omega) y1 (by omega) _ ((hL.alloc _).below hb1)).mono ?_
  rintro e w2 ⟨⟨e1, rfl⟩, hb2⟩
  have hb3 := Clock.next hb1 hb2
  clear hc hfz
  obtain ⟨hc, hfz⟩ := Clock.bcell hb3
  go_wp2_with fail
  refine (Base_any _ _ _ _ _ _ _ _ _ _ _ (by omega) (by omega) _ _ _ x3 (by omega) y3 (by omega) _ ((hL.alloc _).below hb3)).mono ?_
  rintro e w3 ⟨⟨e2, rfl⟩, hb4⟩
  have hb5 := Clock.next hb3 hb4
  clear hc hfz
  obtain ⟨hc, hfz⟩ := Clock.bcell hb5
  go_wp2_with fail
  refine (Base_any _ _ _ _ _ _ _ _ _ _ _ (by omega) (by omega) _ _ _ x1 (by omega) y1 (by omega) _ ((hL.alloc _).below hb5)).mono ?_
  rintro e w4 ⟨⟨e3, rfl⟩, hb6⟩
  have hb7 := Clock.next hb5 hb6
  have hb8 := hB.trans (hb7.mono hB.size)
  clear hc hfz
  obtain ⟨hc, hfz⟩ := Clock.bcell hb7
  generalize bx (Inst.right f rd rn rm ra im kd bs st cd rg) f true a1 a2 rg = X at *
  generalize bx (Inst.right f rd rn rm ra im kd bs st cd rg) f true a3 a4 rg = Y at *
  generalize bx (Inst.right f rd rn rm ra im kd bs st cd rg) f false a1 a2 rg = Z at *
  have p0 : 0 ≤ X := HX.out.1
  have p1 : X ≤ 13 := HX.out.2
  by_cases h97 : f = 97
  · have q97 : (f == 97) = true := by simp [h97]
    have q46 : (f == 46) = false := by simp; omega
    have q99 : (f == 99) = false := by simp; omega
    have qz : (X == Z) = true := by simpa using HT.out (by omega)
    clear h97
    go_wp2_with fail
    go_ret
    exact ⟨rfl, hb8⟩
  · have q97 : (f == 97) = false := by simpa using h97
    have qy : (X == Y) = true := by simpa using HW.out h97
    by_cases h46 : f = 46
    · have q46 : (f == 46) = true := by simp [h46]
      clear h97 h46
      go_wp2_with fail
      go_ret
      exact ⟨rfl, hb8⟩
    · have q46 : (f == 46) = false := by simpa using h46
      by_cases h99 : f = 99
      · have q99 : (f == 99) = true := by simp [h99]
        clear h97 h46 h99
        go_wp2_with fail
        go_ret
        exact ⟨rfl, hb8⟩
      · have q99 : (f == 99) = false := by simpa using h99
        have qz : (X == Z) = true := by simpa using HT.out (by omega)
        clear h97 h46 h99
        go_wp2_with fail
        go_ret
        exact ⟨rfl, hb8⟩

theorem laid_met (os : Os) : laidMet Tryd.prog Rows.clockConstantRow.laid ((Clk.laidWorld Tryd.prog os).forCall (fun _ _ => 0) ⟨#[], #[.agg #[.int .i64 0, .int .i64 0, .int .i64 0, .int .i64 0, .int .i64 0, .int .i64 0, .int .i64 0, .int .i64 0, .int .i64 0, .int .i64 0, .int .i64 0], .int .u32 0, .int .u32 0, .int .u32 0, .int .u32 0], []⟩).memory :=
  laidMet_of_run' 8 (by kernel_rfl) (by kernel_rfl)
theorem reads (os : Os) {H : Type} (enc : TypeId × Value → H) : ∃ places, DataW.whole enc Tryd.prog ((Clk.laidWorld Tryd.prog os).forCall (fun _ _ => 0) ⟨#[], #[.agg #[.int .i64 0, .int .i64 0, .int .i64 0, .int .i64 0, .int .i64 0, .int .i64 0, .int .i64 0, .int .i64 0, .int .i64 0, .int .i64 0, .int .i64 0], .int .u32 0, .int .u32 0, .int .u32 0, .int .u32 0], []⟩).memory Tryd.f5.params.toList Rows.clockConstantSpec.vars false (#[.agg #[.int .i64 0, .int .i64 0, .int .i64 0, .int .i64 0, .int .i64 0, .int .i64 0, .int .i64 0, .int .i64 0, .int .i64 0, .int .i64 0, .int .i64 0], .int .u32 0, .int .u32 0, .int .u32 0, .int .u32 0] : Array Value).toList 8 = some ([(.agg [.lit (.int .i64 0), .lit (.int .i64 0), .lit (.int .i64 0), .lit (.int .i64 0), .lit (.int .i64 0), .lit (.int .i64 0), .lit (.int .i64 0), .lit (.int .i64 0), .lit (.int .i64 0), .lit (.int .i64 0), .lit (.int .i64 0)]), (.lit (.int .u32 0)), (.lit (.int .u32 0)), (.lit (.int .u32 0)), (.lit (.int .u32 0))], [], places) :=
  ⟨[], by kernel_rfl⟩

set_option maxRecDepth 100000 in
theorem lifted (os : Os) (started : os.Started) (H : Type) (enc : TypeId × Value → H) (F : Stop.Interp) :
    ReturnsInHanded {} Tryd.checked os 5 .any ((OpenSpec.ofChange Rows.clockConstantSpec).preRow enc Tryd.prog Tryd.f5 Rows.clockConstantRow.domain false Rows.clockConstantRow.laid) (((OpenSpec.ofChange Rows.clockConstantSpec).at F).post enc Tryd.prog Tryd.f5 false true false false) := by
  obtain ⟨places, hx⟩ := reads os enc
  refine returnsInHanded_of_row (C := Tryd.checked) (s := OpenSpec.ofChange Rows.clockConstantSpec) own started (by kernel_rfl) Tryd.func5
    (witness_row_at (enc := enc) (C := Tryd.checked) false (Clk.laidWorld Tryd.prog os) #[.agg #[.int .i64 0, .int .i64 0, .int .i64 0, .int .i64 0, .int .i64 0, .int .i64 0, .int .i64 0, .int .i64 0, .int .i64 0, .int .i64 0, .int .i64 0], .int .u32 0, .int .u32 0, .int .u32 0, .int .u32 0] rfl (by kernel_rfl) (by kernel_rfl) (by kernel_rfl)
      (OpenSpec.preRow_of_cond 8 hx (by kernel_rfl) (fun k hk => by cases hk) (by kernel_rfl) (laid_met os))) ?_
  intro W base args ds gs before hval0 hW _ _ _ hL _ _
  have hval : ∀ (j : Nat) t v, Tryd.f5.params[j]? = some t → args[j]? = some v → Value.okWide Tryd.prog W .any base t v := hval0
  have hW' := hW
  obtain ⟨p, q, hA0, hV, rfl, hfz, hnd⟩ := hW
  have hA : DataW.TrodAll enc Tryd.prog W 0 (fun _ => true) true Tryd.f5.params.toList args.toList ds p := hA0
  rw [Tryd.params5] at hA hval
  obtain ⟨v0, vs0, d0, ds0, p0, q0, hargs, rfl, rfl, h0, r0⟩ := trodAll_cons hA
  obtain ⟨v1, vs1, d1, ds1, p1, q1, rfl, rfl, rfl, h1, r1⟩ := trodAll_cons r0
  obtain ⟨v2, vs2, d2, ds2, p2, q2, rfl, rfl, rfl, h2, r2⟩ := trodAll_cons r1
  obtain ⟨v3, vs3, d3, ds3, p3, q3, rfl, rfl, rfl, h3, r3⟩ := trodAll_cons r2
  obtain ⟨v4, vs4, d4, ds4, p4, q4, rfl, rfl, rfl, h4, r4⟩ := trodAll_cons r3
  obtain ⟨rfl, rfl, rfl⟩ := trodAll_nil r4
  obtain rfl : args = #[v0, v1, v2, v3, v4] := by cases args; simp_all
  obtain ⟨rfl, rfl⟩ := trodVars_none hV
  have k0 := h0
  obtain ⟨f, rd, rn, rm, ra, im, kd, bs, st, cd, rg, rfl, rfl, rfl, w0⟩ := Inst.open_inst (hval 0 25 v0 rfl rfl) h0
  obtain ⟨a1, rfl, rfl, rfl, w1⟩ := open_int Tryd.underlying32 (hval 1 32 v1 rfl rfl) h1
  obtain ⟨a2, rfl, rfl, rfl, w2⟩ := open_int Tryd.underlying32 (hval 2 32 v2 rfl rfl) h2
  obtain ⟨a3, rfl, rfl, rfl, w3⟩ := open_int Tryd.underlying32 (hval 3 32 v3 rfl rfl) h3
  obtain ⟨a4, rfl, rfl, rfl, w4⟩ := open_int Tryd.underlying32 (hval 4 32 v4 rfl rfl) h4
  clear hA0 hval0
  simp only [List.append_nil] at hW'
  try simp only [List.nil_append] at hW'
  have hlt : ∀ x, x ∈ ([] : List MemPlace) → x.block < W.heap.size := fun x hx => by simpa using hW'.lt x hx
  refine (walk f rd rn rm ra im kd bs st cd rg a1 a2 a3 a4 W w0 w1 w2 w3 w4 (Clk.laid_of hL)).mono fun e W' ⟨he, hg⟩ => ?_
  subst he
  exact ⟨_, rfl, Ends.post_of_below (pv := []) hW' (fun _ _ _ => (trodAll_cons_mk (shut_bool Tryd.underlying4 _) trodAll_mk0)) (trodAll_cons_mk (WideElems.Trod_stays Inst.laidOut (by kernel_rfl) (of_decide_eq_true (by kernel_rfl)) k0 (fun x hx => by cases hx) (fun x hx => by cases hx)) (trodAll_cons_mk (shut_int Tryd.underlying32 w1) (trodAll_cons_mk (shut_int Tryd.underlying32 w2) (trodAll_cons_mk (shut_int Tryd.underlying32 w3) (trodAll_cons_mk (shut_int Tryd.underlying32 w4) trodAll_mk0))))) (fun _ _ => rfl) (by simp)
    (hg.frame _)⟩

theorem said : Rows.ClockConstantSaid :=
  OpenClaim.holds_of_cond 5 Tryd.f5 rfl rfl rfl rfl rfl rfl rfl ⟨rfl, rfl, rfl, rfl, rfl⟩ rfl rfl rfl rfl rfl (by kernel_rfl) Tryd.func5 (by kernel_rfl)
    (of_decide_eq_true (by kernel_rfl)) (by unfold Func.isWrapper; first | (rw [if_pos (by decide +kernel)]; kernel_rfl) | (rw [if_neg (by decide +kernel)]; exact ⟨rfl, rfl⟩))
    (fun os started H enc _ F => by rw [OpenClaim.pre_eq_preRow]; exact lifted os started H enc F)

/-- No parameter wants a stand-in; the program's own looks are off: what the card asks. -/
theorem plain (f : FuncId) (fn : Func) (hf : Tryd.pinned.checked.prog.funcNamed "remontoire/remontoirelaw05.ClockConstant" = some f) (hfn : Tryd.pinned.checked.prog.funcs[f]? = some fn) :
    false = Tryd.pinned.checked.prog.looks [] ∧ ∀ (j : Nat) t, fn.params[j]? = some t → Tryd.pinned.checked.prog.wantsStandIn t = false := by
  obtain rfl : f = 5 := Option.some.inj ((show Tryd.prog.funcNamed "remontoire/remontoirelaw05.ClockConstant" = some 5 by kernel_rfl).symm.trans hf) |>.symm
  obtain rfl : fn = Tryd.f5 := (Option.some.inj (Tryd.func5.symm.trans hfn)).symm
  refine ⟨by kernel_rfl, fun j t ht => ?_⟩
  rw [Tryd.params5] at ht
  have hm := Array.mem_of_getElem? ht
  simp only [List.mem_toArray, List.mem_cons, List.not_mem_nil, or_false, or_self] at hm
  rcases hm with rfl | rfl
  · exact (show Tryd.prog.wantsStandIn 25 = false by kernel_rfl)
  · exact (show Tryd.prog.wantsStandIn 32 = false by kernel_rfl)

/-- The card. -/
theorem proved : Rows.ClockConstantCardSaid :=
  Claim7.holds_tied_plain_at .later [] _ _ _ _ said (fun _ h => by cases h) (by kernel_rfl) (fun _ h => by cases h) clockConstant_row_tie rfl ⟨rfl, rfl⟩ (by kernel_rfl) rfl plain (by kernel_rfl)
#print axioms proved
end Go.Proofs.YtpgcnbipnjcniaaDoor.clockConstant
