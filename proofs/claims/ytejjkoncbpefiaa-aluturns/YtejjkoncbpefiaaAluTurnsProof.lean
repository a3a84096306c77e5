/- For every x and n the statement AluTurns returns true: a word that is turned on by 32 bits in all is the word; shifted out and back it keeps its other bits.
Conditions: none. -/
import Derived.Test.YtejjkoncbpefiaaRows
import Derived.WalkKit
import Derived.ProofKit
import Derived.OpenShut
import Derived.Test.YtejjkoncbpefiaaAluMore
namespace Go.Proofs.Ytejjkoncbpefiaa.aluTurns
open Go.ChangeShapes Go.WideShapes Go.ChangeAt Go.RowKit
set_option linter.unusedVariables false      -- a walk need not use every 'w<i>' (that an integer argument fits its kind)

theorem own : ownKnob Try.prog.godebug = none := by kernel_rfl

theorem walk (a0 : Int) (a1 : Int) (w0 : (Lit.int .u32 a0).wf = true) (w1 : (Lit.int .i64 a1).wf = true) (w : World) :
    Calls Try.prog 5 #[.int .u32 a0, .int .i64 a1] w fun e w' => e = .returned (.bool true) ∧ Grown w w' := by
  obtain ⟨x1, x2⟩ := bounds_u32 w0
  obtain ⟨n1, n2⟩ := bounds_i64 w1
  by_cases h1 : a1 < 0
  · go_enter Try.func5, Try.ntmps5
    go_wp2_with (go_at_call 10; refine (Alu.anchor_any _).mono ?_; rintro e w' ⟨rfl, rfl⟩)
    go_ret
    exact ⟨rfl, Grown.refl _⟩
  · by_cases h2 : 32 < a1
    · go_enter Try.func5, Try.ntmps5
      go_wp2_with (go_at_call 10; refine (Alu.anchor_any _).mono ?_; rintro e w' ⟨rfl, rfl⟩)
      go_ret
      exact ⟨rfl, Grown.refl _⟩
    · have m1 : 0 ≤ a1 := by omega
      have m2 : a1 ≤ 32 := by omega
      clear h1 h2
      have by1 := Alu.shW_bd 3 a0 x1 (by omega) a1.toNat
      have bl1 := Alu.shW_bd 0 a0 x1 (by omega) a1.toNat
      go_enter Try.func5, Try.ntmps5
      go_wp2_with fail
      refine (Alu.anchor_any _).mono ?_
      rintro e w' ⟨rfl, rfl⟩
      go_wp2_with fail
      refine (Alu.Shift_yes _ _ _ _ (by decide) (by decide) m1 (by omega) x1 (by omega) _).mono ?_
      rintro e w' ⟨rfl, rfl⟩
      go_wp2_with fail
      refine (Alu.Shift_yes _ _ _ _ (by decide) (by decide) (by omega) (by omega) by1.1 by1.2 _).mono ?_
      rintro e w' ⟨rfl, rfl⟩
      go_wp2_with fail
      refine (Alu.Shift_yes _ _ _ _ (by decide) (by decide) m1 (by omega) x1 (by omega) _).mono ?_
      rintro e w' ⟨rfl, rfl⟩
      go_wp2_with fail
      refine (Alu.Shift_yes _ _ _ _ (by decide) (by decide) m1 (by omega) bl1.1 bl1.2 _).mono ?_
      rintro e w' ⟨rfl, rfl⟩
      go_wp2_with fail
      have HT := Alu.hide (Alu.turn_back a0 a1 x1 (by omega) m1 m2)
      have HI := Alu.hide (Alu.out_back a0 a1 x1 (by omega) m1 m2)
      have br := Alu.shW_bd 1 (Alu.shW 0 a0 a1.toNat) bl1.1 bl1.2 a1.toNat
      generalize Alu.shW 1 (Alu.shW 0 a0 a1.toNat) a1.toNat = r at *
      rw [Alu.unhide HT]
      go_loop [56] (fun i => ∃ j : Nat, j ≤ 32 ∧ i = .int .i64 j) (fun i => 32 - (intOf i).toNat)
      case atStart => exact ⟨0, by omega, rfl⟩
      case round =>
        obtain ⟨j, hj, rfl⟩ := hrel
        by_cases hlt : j < 32
        · have hI := Alu.unhide HI j hlt
          have bb := Alu.bit_bd a0 j
          by_cases hd : (j : Int) < 32 - a1
          · rw [if_pos hd] at hI
            have HJ := Alu.hide hI
            clear hI
            go_wp2_with fail
            refine (Alu.Bit_any _ _ br.1 br.2 _).mono ?_
            rintro e w' ⟨rfl, rfl⟩
            rw [Alu.unhide HJ]
            go_wp2_with fail
            refine (Alu.Bit_any _ _ x1 (by omega) _).mono ?_
            rintro e w' ⟨rfl, rfl⟩
            go_wp2_with fail
            go_round
            case rel => exact ⟨j + 1, by omega, by go_num⟩
            case measure => simp [intOf]; omega
          · rw [if_neg hd] at hI
            have HJ := Alu.hide hI
            clear hI
            go_wp2_with fail
            refine (Alu.Bit_any _ _ br.1 br.2 _).mono ?_
            rintro e w' ⟨rfl, rfl⟩
            rw [Alu.unhide HJ]
            go_wp2_with fail
            go_round
            case rel => exact ⟨j + 1, by omega, by go_num⟩
            case measure => simp [intOf]; omega
        · go_wp2_with fail
          go_ret
          exact ⟨rfl, Grown.refl _⟩

/-! ### THE ROW's STEP: WRITTEN OUT: LEAVE IT -/
set_option maxRecDepth 100000 in
theorem lifted (os : Os) (started : os.Started) (H : Type) (enc : TypeId × Value → H) :
    ReturnsInHanded {} Try.checked os 5 .any (Rows.aluTurnsSpec.pre6 enc Try.prog Try.f5 Rows.aluTurnsRow.domain false) (Rows.aluTurnsSpec.post enc Try.prog Try.f5 false true false false) := by
  refine returnsInHanded_of_change (C := Try.checked) own started (by kernel_rfl) Try.func5
    (ChangeSpec.witness6 (enc := enc) (C := Try.checked) false ⟨#[], #[.int .u32 0, .int .i64 0], []⟩ 8 (by kernel_rfl) (by kernel_rfl) (by kernel_rfl) (by kernel_rfl)) ?_
  intro W base args ds gs before hval0 hW hcnd _
  have hval : ∀ (j : Nat) t v, Try.f5.params[j]? = some t → args[j]? = some v → Value.okWide Try.prog W .any base t v := hval0
  have hW' := hW
  obtain ⟨p, q, hA0, hV, rfl, hfz, hnd⟩ := hW
  have hA : DataW.TrodAll enc Try.prog W 0 (fun _ => true) true Try.f5.params.toList args.toList ds p := hA0
  rw [Try.params5] at hA hval
  obtain ⟨v0, vs0, d0, ds0, p0, q0, hargs, rfl, rfl, h0, r0⟩ := trodAll_cons hA
  obtain ⟨v1, vs1, d1, ds1, p1, q1, rfl, rfl, rfl, h1, r1⟩ := trodAll_cons r0
  obtain ⟨rfl, rfl, rfl⟩ := trodAll_nil r1
  obtain rfl : args = #[v0, v1] := by cases args; simp_all
  obtain ⟨rfl, rfl⟩ := trodVars_none hV
  obtain ⟨a0, rfl, rfl, rfl, w0⟩ := open_int Try.underlying22 (hval 0 22 v0 rfl rfl) h0
  obtain ⟨a1, rfl, rfl, rfl, w1⟩ := open_int Try.underlying3 (hval 1 3 v1 rfl rfl) h1
  clear hA0 hval0
  simp only [List.append_nil] at hW'
  refine (walk a0 a1 w0 w1 W).mono fun e W' ⟨he, hg⟩ => ?_
  subst he
  exact ⟨_, rfl, post_of_same (pa := []) (pv := []) hW' (fun _ _ _ => (trodAll_cons_mk (shut_bool Try.underlying4 _) trodAll_mk0)) (fun sp _ => (trodAll_cons_mk (shut_int Try.underlying22 w0) (trodAll_cons_mk (shut_int Try.underlying3 w1) trodAll_mk0))) (fun _ _ => rfl) rfl
    (hg.frame _) hg.2.1 (ok_one (by kernel_rfl) rfl (okWide_bool_mk Try.underlying4 _))⟩

theorem over : Rows.aluTurnsRow.holds Try.pinned (OpenSpec.ofChange Rows.aluTurnsSpec) :=
  OpenClaim.holds_of_wide 5 Try.f5 rfl rfl rfl rfl rfl rfl rfl ⟨rfl, rfl, rfl, rfl, rfl⟩ rfl rfl rfl rfl rfl (by kernel_rfl) Try.func5 (by kernel_rfl)
    (of_decide_eq_true (by kernel_rfl)) (by unfold Func.isWrapper; first | (rw [if_pos (by decide +kernel)]; kernel_rfl) | (rw [if_neg (by decide +kernel)]; exact ⟨rfl, rfl⟩))
    (fun os started H enc _ => lifted os started H enc)

/-- ████ THE STATEMENT ████ -/
theorem proved : Rows.AluTurnsSaid :=
  over
#print axioms proved
end Go.Proofs.Ytejjkoncbpefiaa.aluTurns
