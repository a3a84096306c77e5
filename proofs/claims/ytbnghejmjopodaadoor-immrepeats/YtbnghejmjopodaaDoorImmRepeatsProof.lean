/- For every byte b the statement ImmRepeats returns true: a byte in the lowest place, twice, or four times, is the word of a number below 1024.
Conditions: none of the arguments; the package variables that the row lists hold what the program lays (the card ties them to its text). -/
import Derived.Test.YtbnghejmjopodaaDoorRows
import Derived.WalkKit
import Derived.ProofKit
import Derived.OpenShut
import Derived.Deep.DeepHandedRow
import Derived.Test.YtbnghejmjopodaaDoorCards
import Derived.Test.YtbnghejmjopodaaDoorTie
import Derived.Test.YtbnghejmjopodaaDoorImmLaid
import Derived.Test.YtbnghejmjopodaaDoorImmOf
namespace Go.Proofs.YtbnghejmjopodaaDoor.immRepeats
open Go.ChangeShapes Go.WideShapes Go.ChangeAt Go.RowKit
set_option linter.unusedVariables false      -- a walk need not use every 'w<i>' (that an integer argument fits its kind)

theorem own : ownKnob Tryd.prog.godebug = none := by kernel_rfl

theorem at_zero : Imm.ofN 0 = 0 ∧ Imm.ofE 0 = 0 := by decide +kernel
theorem at_byte (b u f n : Int) (h1 : 1 ≤ b) (h2 : b ≤ 255) (hu : 0 ≤ u ∧ u ≤ 3) (hf : Imm.fac u = f) (hn : n = u * 256 + b) : Imm.ofN (b * f) = n ∧ Imm.ofE (b * f) = 0 := by
  subst hf
  exact Imm.found_is n (by omega) (by omega) (Imm.has_yes (by omega)) (Imm.wd_low n u b hn (by omega) (by omega) (by omega) (by omega))

theorem walk (a0 : Int) (w0 : (Lit.int .u8 a0).wf = true) (w : World) (hL : Imm.Laid w) :
    Calls Tryd.prog 8 #[.int .u8 a0] w fun e w' => e = .returned (.bool true) ∧ Grown w w' := by
  obtain ⟨b1, b2⟩ := bounds_u8 w0
  by_cases hz : a0 = 0
  · subst hz
    obtain ⟨z1, z2⟩ := at_zero
    have i0 : ∀ w, (Instr.index 44 (.agg #[.int .u32 0, .int .u32 0, .int .u32 0, .int .u32 0]) (.int .i64 0)).run Tryd.prog w = .ok (.int .u32 0) w := fun _ => by kernel_rfl
    have i1 : ∀ w, (Instr.index 44 (.agg #[.int .u32 0, .int .u32 0, .int .u32 0, .int .u32 0]) (.int .i64 1)).run Tryd.prog w = .ok (.int .u32 0) w := fun _ => by kernel_rfl
    have i2 : ∀ w, (Instr.index 44 (.agg #[.int .u32 0, .int .u32 0, .int .u32 0, .int .u32 0]) (.int .i64 2)).run Tryd.prog w = .ok (.int .u32 0) w := fun _ => by kernel_rfl
    have i3 : ∀ w, (Instr.index 44 (.agg #[.int .u32 0, .int .u32 0, .int .u32 0, .int .u32 0]) (.int .i64 3)).run Tryd.prog w = .ok (.int .u32 0) w := fun _ => by kernel_rfl
    have o0 : bits .or .i64 0 0 = 0 := by decide +kernel
    have o1 : bits .or .i64 256 0 = 256 := by decide +kernel
    have o2 : bits .or .i64 512 0 = 512 := by decide +kernel
    have o3 : bits .or .i64 768 0 = 768 := by decide +kernel
    have o4 : bits .or .u32 0 0 = 0 := by decide +kernel
    go_enter Tryd.func8, Tryd.ntmps8
    go_wp2_with fail
    refine (Imm.anchor_any _ hL).mono ?_
    rintro e w' ⟨rfl, rfl⟩
    go_wp2_with fail
    go_loop [34] (fun i => ∃ j : Nat, j ≤ 4 ∧ i = .int .i64 j) (fun i => 4 - (intOf i).toNat)
    case atStart => exact ⟨0, by omega, rfl⟩
    case round =>
      obtain ⟨j, hj, rfl⟩ := hrel
      obtain rfl | rfl | rfl | rfl | rfl : j = 0 ∨ j = 1 ∨ j = 2 ∨ j = 3 ∨ j = 4 := by omega
      · go_wp2_with fail
        refine (Imm.Of_any _ (by decide) (by decide) _ hL).mono ?_
        rintro e w' ⟨rfl, rfl⟩
        go_wp2_with fail
        refine (Imm.Is_any _ (by decide) (by decide) _ hL).mono ?_
        rintro e w' ⟨rfl, rfl⟩
        go_wp2_with fail
        go_round
        case rel => exact ⟨0 + 1, by omega, rfl⟩
        case measure => simp [intOf]
      · go_wp2_with fail
        refine (Imm.Of_any _ (by decide) (by decide) _ hL).mono ?_
        rintro e w' ⟨rfl, rfl⟩
        go_wp2_with fail
        refine (Imm.Is_any _ (by decide) (by decide) _ hL).mono ?_
        rintro e w' ⟨rfl, rfl⟩
        go_wp2_with fail
        go_round
        case rel => exact ⟨1 + 1, by omega, rfl⟩
        case measure => simp [intOf]
      · go_wp2_with fail
        refine (Imm.Of_any _ (by decide) (by decide) _ hL).mono ?_
        rintro e w' ⟨rfl, rfl⟩
        go_wp2_with fail
        refine (Imm.Is_any _ (by decide) (by decide) _ hL).mono ?_
        rintro e w' ⟨rfl, rfl⟩
        go_wp2_with fail
        go_round
        case rel => exact ⟨2 + 1, by omega, rfl⟩
        case measure => simp [intOf]
      · go_wp2_with fail
        refine (Imm.Of_any _ (by decide) (by decide) _ hL).mono ?_
        rintro e w' ⟨rfl, rfl⟩
        go_wp2_with fail
        refine (Imm.Is_any _ (by decide) (by decide) _ hL).mono ?_
        rintro e w' ⟨rfl, rfl⟩
        go_wp2_with fail
        go_round
        case rel => exact ⟨3 + 1, by omega, rfl⟩
        case measure => simp [intOf]
      · go_wp2_with fail
        go_ret
        exact ⟨rfl, Grown.refl _⟩
  · have o1 : bits .or .u32 (a0 * 65536) a0 = a0 * 65537 := by rw [Alu.u32_join 16 _ _ (by omega) (by omega) (by omega) (by omega) (by omega) (by omega)]; omega
    have o2 : bits .or .u32 (a0 * 16777216) (a0 * 256) = a0 * 16777472 := by rw [Alu.u32_join 24 _ _ (by omega) (by omega) (by omega) (by omega) (by omega) (by omega)]; omega
    have o3 : bits .or .u32 (a0 * 16777216) (a0 * 65536) = a0 * 16842752 := by rw [Alu.u32_join 24 _ _ (by omega) (by omega) (by omega) (by omega) (by omega) (by omega)]; omega
    have o4 : bits .or .u32 (a0 * 16842752) (a0 * 256) = a0 * 16843008 := by rw [Alu.u32_join 16 _ _ (by omega) (by omega) (by omega) (by omega) (by omega) (by omega)]; omega
    have o5 : bits .or .u32 (a0 * 16843008) a0 = a0 * 16843009 := by rw [Alu.u32_join 8 _ _ (by omega) (by omega) (by omega) (by omega) (by omega) (by omega)]; omega
    have hz' : (a0 == 0) = false := by rw [beq_eq_false_iff_ne]; exact hz
    go_enter Tryd.func8, Tryd.ntmps8
    go_wp2_with fail
    refine (Imm.anchor_any _ hL).mono ?_
    rintro e w' ⟨rfl, rfl⟩
    go_wp2_with fail
    go_loop [34] (fun i => ∃ j : Nat, j ≤ 4 ∧ i = .int .i64 j) (fun i => 4 - (intOf i).toNat)
    case atStart => exact ⟨0, by omega, rfl⟩
    case round =>
      obtain ⟨j, hj, rfl⟩ := hrel
      obtain rfl | rfl | rfl | rfl | rfl : j = 0 ∨ j = 1 ∨ j = 2 ∨ j = 3 ∨ j = 4 := by omega
      · have i0 : ∀ w, (Instr.index 44 (.agg #[.int .u32 a0, .int .u32 (a0 * 65537), .int .u32 (a0 * 16777472), .int .u32 (a0 * 16843009)]) (.int .i64 0)).run Tryd.prog w = .ok (.int .u32 a0) w := fun _ => by kernel_rfl
        have p0 : bits .or .i64 0 a0 = a0 := by rw [Alu.i64_join 8 _ _ (by omega) (by omega) (by omega) (by omega) (by decide) (by omega)]; omega
        obtain ⟨n0, e0⟩ : Imm.ofN a0 = a0 ∧ Imm.ofE a0 = 0 := by have := at_byte a0 0 1 a0 (by omega) (by omega) (by omega) rfl (by omega); rwa [Int.mul_one] at this
        go_wp2_with fail
        refine (Imm.Of_any _ (by omega) (by omega) _ hL).mono ?_
        rintro e w' ⟨rfl, rfl⟩
        go_wp2_with fail
        refine (Imm.Is_any _ (by omega) (by omega) _ hL).mono ?_
        rintro e w' ⟨rfl, rfl⟩
        go_wp2_with fail
        go_round
        case rel => exact ⟨0 + 1, by omega, rfl⟩
        case measure => simp [intOf]
      · have i1 : ∀ w, (Instr.index 44 (.agg #[.int .u32 a0, .int .u32 (a0 * 65537), .int .u32 (a0 * 16777472), .int .u32 (a0 * 16843009)]) (.int .i64 1)).run Tryd.prog w = .ok (.int .u32 (a0 * 65537)) w := fun _ => by kernel_rfl
        have p1 : bits .or .i64 256 a0 = 256 + a0 := by rw [Alu.i64_join 8 _ _ (by omega) (by omega) (by omega) (by omega) (by decide) (by omega)]
        obtain ⟨n1, e1⟩ := at_byte a0 1 65537 (256 + a0) (by omega) (by omega) (by omega) rfl (by omega)
        go_wp2_with fail
        refine (Imm.Of_any _ (by omega) (by omega) _ hL).mono ?_
        rintro e w' ⟨rfl, rfl⟩
        go_wp2_with fail
        refine (Imm.Is_any _ (by omega) (by omega) _ hL).mono ?_
        rintro e w' ⟨rfl, rfl⟩
        go_wp2_with fail
        go_round
        case rel => exact ⟨1 + 1, by omega, rfl⟩
        case measure => simp [intOf]
      · have i2 : ∀ w, (Instr.index 44 (.agg #[.int .u32 a0, .int .u32 (a0 * 65537), .int .u32 (a0 * 16777472), .int .u32 (a0 * 16843009)]) (.int .i64 2)).run Tryd.prog w = .ok (.int .u32 (a0 * 16777472)) w := fun _ => by kernel_rfl
        have p2 : bits .or .i64 512 a0 = 512 + a0 := by rw [Alu.i64_join 8 _ _ (by omega) (by omega) (by omega) (by omega) (by decide) (by omega)]
        obtain ⟨n2, e2⟩ := at_byte a0 2 16777472 (512 + a0) (by omega) (by omega) (by omega) rfl (by omega)
        go_wp2_with fail
        refine (Imm.Of_any _ (by omega) (by omega) _ hL).mono ?_
        rintro e w' ⟨rfl, rfl⟩
        go_wp2_with fail
        refine (Imm.Is_any _ (by omega) (by omega) _ hL).mono ?_
        rintro e w' ⟨rfl, rfl⟩
        go_wp2_with fail
        go_round
        case rel => exact ⟨2 + 1, by omega, rfl⟩
        case measure => simp [intOf]
      · have i3 : ∀ w, (Instr.index 44 (.agg #[.int .u32 a0, .int .u32 (a0 * 65537), .int .u32 (a0 * 16777472), .int .u32 (a0 * 16843009)]) (.int .i64 3)).run Tryd.prog w = .ok (.int .u32 (a0 * 16843009)) w := fun _ => by kernel_rfl
        have p3 : bits .or .i64 768 a0 = 768 + a0 := by rw [Alu.i64_join 8 _ _ (by omega) (by omega) (by omega) (by omega) (by decide) (by omega)]
        obtain ⟨n3, e3⟩ := at_byte a0 3 16843009 (768 + a0) (by omega) (by omega) (by omega) rfl (by omega)
        go_wp2_with fail
        refine (Imm.Of_any _ (by omega) (by omega) _ hL).mono ?_
        rintro e w' ⟨rfl, rfl⟩
        go_wp2_with fail
        refine (Imm.Is_any _ (by omega) (by omega) _ hL).mono ?_
        rintro e w' ⟨rfl, rfl⟩
        go_wp2_with fail
        go_round
        case rel => exact ⟨3 + 1, by omega, rfl⟩
        case measure => simp [intOf]
      · go_wp2_with fail
        go_ret
        exact ⟨rfl, Grown.refl _⟩

/-! ### THE ROW's STEP: WRITTEN OUT: LEAVE IT -/
theorem laid_met (os : Os) : laidMet Tryd.prog Rows.immRepeatsRow.laid ((Imm.laidWorld Tryd.prog os).forCall (fun _ _ => 0) ⟨#[], #[.int .u8 0], []⟩).memory :=
  laidMet_of_run' 8 (by kernel_rfl) (by kernel_rfl)
theorem reads (os : Os) {H : Type} (enc : TypeId × Value → H) : ∃ places, DataW.whole enc Tryd.prog ((Imm.laidWorld Tryd.prog os).forCall (fun _ _ => 0) ⟨#[], #[.int .u8 0], []⟩).memory Tryd.f8.params.toList Rows.immRepeatsSpec.vars false (#[.int .u8 0] : Array Value).toList 8 = some ([.lit (.int .u8 0)], [], places) :=
  ⟨[], by kernel_rfl⟩

set_option maxRecDepth 100000 in
theorem lifted (os : Os) (started : os.Started) (H : Type) (enc : TypeId × Value → H) (F : Stop.Interp) :
    ReturnsInHanded {} Tryd.checked os 8 .any ((OpenSpec.ofChange Rows.immRepeatsSpec).preRow enc Tryd.prog Tryd.f8 Rows.immRepeatsRow.domain false Rows.immRepeatsRow.laid) (((OpenSpec.ofChange Rows.immRepeatsSpec).at F).post enc Tryd.prog Tryd.f8 false true false false) := by
  obtain ⟨places, hx⟩ := reads os enc
  refine returnsInHanded_of_row (C := Tryd.checked) (s := OpenSpec.ofChange Rows.immRepeatsSpec) own started (by kernel_rfl) Tryd.func8
    (witness_row_at (enc := enc) (C := Tryd.checked) false (Imm.laidWorld Tryd.prog os) #[.int .u8 0] rfl (by kernel_rfl) (by kernel_rfl) (by kernel_rfl)
      (OpenSpec.preRow_of_cond 8 hx (by kernel_rfl) (fun k hk => by cases hk) (by kernel_rfl) (laid_met os))) ?_
  intro W base args ds gs before hval0 hW _ _ _ hL _ _
  have hval : ∀ (j : Nat) t v, Tryd.f8.params[j]? = some t → args[j]? = some v → Value.okWide Tryd.prog W .any base t v := hval0
  have hW' := hW
  obtain ⟨p, q, hA0, hV, rfl, hfz, hnd⟩ := hW
  have hA : DataW.TrodAll enc Tryd.prog W 0 (fun _ => true) true Tryd.f8.params.toList args.toList ds p := hA0
  rw [Tryd.params8] at hA hval
  obtain ⟨v0, vs0, d0, ds0, p0, q0, hargs, rfl, rfl, h0, r0⟩ := trodAll_cons hA
  obtain ⟨rfl, rfl, rfl⟩ := trodAll_nil r0
  obtain rfl : args = #[v0] := by cases args; simp_all
  obtain ⟨rfl, rfl⟩ := trodVars_none hV
  obtain ⟨a0, rfl, rfl, rfl, w0⟩ := open_int Tryd.underlying5 (hval 0 5 v0 rfl rfl) h0
  clear hA0 hval0
  simp only [List.append_nil] at hW'
  refine (walk a0 w0 W (Imm.laid_of hL)).mono fun e W' ⟨he, hg⟩ => ?_
  subst he
  exact ⟨_, rfl, post_of_same (pa := []) (pv := []) hW' (fun _ _ _ => (trodAll_cons_mk (shut_bool Tryd.underlying4 _) trodAll_mk0)) (fun sp _ => (trodAll_cons_mk (shut_int Tryd.underlying5 w0) trodAll_mk0)) (fun _ _ => rfl) rfl
    (hg.frame _) hg.2.1 (ok_one (by kernel_rfl) rfl (okWide_bool_mk Tryd.underlying4 _))⟩

theorem said : Rows.ImmRepeatsSaid :=
  OpenClaim.holds_of_cond 8 Tryd.f8 rfl rfl rfl rfl rfl rfl rfl ⟨rfl, rfl, rfl, rfl, rfl⟩ rfl rfl rfl rfl rfl (by kernel_rfl) Tryd.func8 (by kernel_rfl)
    (of_decide_eq_true (by kernel_rfl)) (by unfold Func.isWrapper; first | (rw [if_pos (by decide +kernel)]; kernel_rfl) | (rw [if_neg (by decide +kernel)]; exact ⟨rfl, rfl⟩))
    (fun os started H enc _ F => by rw [OpenClaim.pre_eq_preRow]; exact lifted os started H enc F)

/-- No parameter wants a stand-in; the program's own looks are off: what the card asks. -/
theorem plain (f : FuncId) (fn : Func) (hf : Tryd.pinned.checked.prog.funcNamed "remontoire/remontoirelaw02.ImmRepeats" = some f) (hfn : Tryd.pinned.checked.prog.funcs[f]? = some fn) :
    false = Tryd.pinned.checked.prog.looks [] ∧ ∀ (j : Nat) t, fn.params[j]? = some t → Tryd.pinned.checked.prog.wantsStandIn t = false := by
  obtain rfl : f = 8 := Option.some.inj ((show Tryd.prog.funcNamed "remontoire/remontoirelaw02.ImmRepeats" = some 8 by kernel_rfl).symm.trans hf) |>.symm
  obtain rfl : fn = Tryd.f8 := (Option.some.inj (Tryd.func8.symm.trans hfn)).symm
  refine ⟨by kernel_rfl, fun j t ht => ?_⟩
  rw [Tryd.params8] at ht
  have hm := Array.mem_of_getElem? ht
  simp only [List.mem_toArray, List.mem_cons, List.not_mem_nil, or_false] at hm
  rcases hm with rfl
  · exact (show Tryd.prog.wantsStandIn 5 = false by kernel_rfl)

/-- ████ THE CARD ████ -/
theorem proved : Rows.ImmRepeatsCardSaid :=
  Claim7.holds_tied_plain_at .later [] _ _ _ _ said (fun _ h => by cases h) (by kernel_rfl) (fun _ h => by cases h) immRepeats_row_tie rfl ⟨rfl, rfl⟩ (by kernel_rfl) rfl plain (by kernel_rfl)
#print axioms proved
end Go.Proofs.YtbnghejmjopodaaDoor.immRepeats
