/- For every x and n the statement AluLogic returns true: to shift up is to double, to shift down is to halve, the sign stays by ASR.
Conditions: none. -/
import Derived.Test.YtejjkoncbpefiaaRows
import Derived.WalkKit
import Derived.ProofKit
import Derived.OpenShut
import Derived.Test.YtejjkoncbpefiaaAluMore
namespace Go.Proofs.Ytejjkoncbpefiaa.aluLogic
open Go.ChangeShapes Go.WideShapes Go.ChangeAt Go.RowKit
set_option linter.unusedVariables false      -- a walk need not use every 'w<i>' (that an integer argument fits its kind)

theorem own : ownKnob Try.prog.godebug = none := by kernel_rfl

theorem walk (a0 : Int) (a1 : Int) (w0 : (Lit.int .u32 a0).wf = true) (w1 : (Lit.int .i64 a1).wf = true) (w : World) :
    Calls Try.prog 8 #[.int .u32 a0, .int .i64 a1] w fun e w' => e = .returned (.bool true) ∧ Grown w w' := by
  obtain ⟨x1, x2⟩ := bounds_u32 w0
  obtain ⟨n1, n2⟩ := bounds_i64 w1
  by_cases h1 : a1 < 0
  · go_enter Try.func8, Try.ntmps8
    go_wp2_with (go_at_call 10; refine (Alu.anchor_any _).mono ?_; rintro e w' ⟨rfl, rfl⟩)
    go_ret
    exact ⟨rfl, Grown.refl _⟩
  · by_cases h2 : 255 < a1
    · go_enter Try.func8, Try.ntmps8
      go_wp2_with (go_at_call 10; refine (Alu.anchor_any _).mono ?_; rintro e w' ⟨rfl, rfl⟩)
      go_ret
      exact ⟨rfl, Grown.refl _⟩
    · have m1 : 0 ≤ a1 := by omega
      have m2 : a1 ≤ 255 := by omega
      clear h1 h2
      go_enter Try.func8, Try.ntmps8
      go_wp2_with fail
      refine (Alu.anchor_any _).mono ?_
      rintro e w' ⟨rfl, rfl⟩
      go_wp2_with fail
      refine (Alu.Shift_yes _ _ _ _ (by decide) (by decide) m1 m2 x1 (by omega) _).mono ?_
      rintro e w' ⟨rfl, rfl⟩
      go_wp2_with fail
      refine (Alu.Shift_yes _ _ _ _ (by decide) (by decide) m1 m2 x1 (by omega) _).mono ?_
      rintro e w' ⟨rfl, rfl⟩
      go_wp2_with fail
      refine (Alu.Shift_yes _ _ _ _ (by decide) (by decide) m1 m2 x1 (by omega) _).mono ?_
      rintro e w' ⟨rfl, rfl⟩
      go_wp2_with fail
      go_loop [14, 15, 16, 51] (fun a b c i => ∃ j : Nat, (j : Int) ≤ a1 ∧ i = .int .i64 j ∧ a = .int .u32 (Alu.shW 0 a0 j) ∧ b = .int .u32 (Alu.shW 1 a0 j) ∧ c = .int .i32 (Alu.sg (Alu.shW 2 a0 j))) (fun _ _ _ i => a1.toNat - (intOf i).toNat)
      case atStart => exact ⟨0, by omega, rfl, rfl, rfl, by rw [Alu.wrap32_sg a0 x1 (by omega)]; rfl⟩
      case round =>
        obtain ⟨j, hj, rfl, rfl, rfl, rfl⟩ := hrel
        have b0 := Alu.shW_bd 0 a0 x1 (by omega) j
        have b1 := Alu.shW_bd 1 a0 x1 (by omega) j
        have b2 := Alu.shW_bd 2 a0 x1 (by omega) j
        have bs := Alu.sg_bd _ b2.1 b2.2
        by_cases hlt : (j : Int) < a1
        · go_wp2_with fail
          go_round
          case rel =>
            refine ⟨j + 1, by omega, by go_num, rfl, rfl, ?_⟩
            rw [Alu.half_sg _ b2.1 b2.2]
            rfl
          case measure => simp [intOf]; omega
        · have e : a1 = (j : Int) := by omega
          have hz := Alu.sg_word _ b2.1 b2.2
          subst e
          simp only [Int.toNat_natCast]
          go_wp2_with fail
          go_ret
          exact ⟨rfl, Grown.refl _⟩

/-! ### THE ROW's STEP: WRITTEN OUT: LEAVE IT -/
set_option maxRecDepth 100000 in
theorem lifted (os : Os) (started : os.Started) (H : Type) (enc : TypeId × Value → H) :
    ReturnsInHanded {} Try.checked os 8 .any (Rows.aluLogicSpec.pre6 enc Try.prog Try.f8 Rows.aluLogicRow.domain false) (Rows.aluLogicSpec.post enc Try.prog Try.f8 false true false false) := by
  refine returnsInHanded_of_change (C := Try.checked) own started (by kernel_rfl) Try.func8
    (ChangeSpec.witness6 (enc := enc) (C := Try.checked) false ⟨#[], #[.int .u32 0, .int .i64 0], []⟩ 8 (by kernel_rfl) (by kernel_rfl) (by kernel_rfl) (by kernel_rfl)) ?_
  intro W base args ds gs before hval0 hW hcnd _
  have hval : ∀ (j : Nat) t v, Try.f8.params[j]? = some t → args[j]? = some v → Value.okWide Try.prog W .any base t v := hval0
  have hW' := hW
  obtain ⟨p, q, hA0, hV, rfl, hfz, hnd⟩ := hW
  have hA : DataW.TrodAll enc Try.prog W 0 (fun _ => true) true Try.f8.params.toList args.toList ds p := hA0
  rw [Try.params8] at hA hval
  obtain ⟨v0, vs0, d0, ds0, p0, q0, hargs, rfl, rfl, h0, r0⟩ := trodAll_cons hA
  obtain ⟨v1, vs1, d1, ds1, p1, q1, rfl, rfl, rfl, h1, r1⟩ := trodAll_cons r0
  obtain ⟨rfl, rfl, rfl⟩ := trodAll_nil r1
  obtain rfl : args = #[v0, v1] := by cases args; simp_all
  obtain ⟨rfl, rfl⟩ := trodVars_none hV
  obtain ⟨a0, rfl, rfl, rfl, w0⟩ := open_int Try.underlying22 (hval 0 22 v0 rfl rfl) h0
  obtain ⟨a1, rfl, rfl, rfl, w1⟩ := open_int Try.underlying3 (hval 1 3 v1 rfl rfl) h1
  clear hA0 hval0
  simp only [List.append_nil] at hW'
  refine (walk a0 a1 w0 w1 W).mono fun e W' ⟨he, hg⟩ => ?_
  subst he
  exact ⟨_, rfl, post_of_same (pa := []) (pv := []) hW' (fun _ _ _ => (trodAll_cons_mk (shut_bool Try.underlying4 _) trodAll_mk0)) (fun sp _ => (trodAll_cons_mk (shut_int Try.underlying22 w0) (trodAll_cons_mk (shut_int Try.underlying3 w1) trodAll_mk0))) (fun _ _ => rfl) rfl
    (hg.frame _) hg.2.1 (ok_one (by kernel_rfl) rfl (okWide_bool_mk Try.underlying4 _))⟩

theorem over : Rows.aluLogicRow.holds Try.pinned (OpenSpec.ofChange Rows.aluLogicSpec) :=
  OpenClaim.holds_of_wide 8 Try.f8 rfl rfl rfl rfl rfl rfl rfl ⟨rfl, rfl, rfl, rfl, rfl⟩ rfl rfl rfl rfl rfl (by kernel_rfl) Try.func8 (by kernel_rfl)
    (of_decide_eq_true (by kernel_rfl)) (by unfold Func.isWrapper; first | (rw [if_pos (by decide +kernel)]; kernel_rfl) | (rw [if_neg (by decide +kernel)]; exact ⟨rfl, rfl⟩))
    (fun os started H enc _ => lifted os started H enc)

/-- ████ THE STATEMENT ████ -/
theorem proved : Rows.AluLogicSaid :=
  over
#print axioms proved
end Go.Proofs.Ytejjkoncbpefiaa.aluLogic
