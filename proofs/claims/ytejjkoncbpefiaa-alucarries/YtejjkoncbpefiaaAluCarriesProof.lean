/- For every a, b, c and d the statement AluCarries returns true: sums and differences of pairs, by carries of words, are those of the numbers.
Conditions: none. -/
import Derived.Test.YtejjkoncbpefiaaRows
import Derived.WalkKit
import Derived.ProofKit
import Derived.OpenShut
import Derived.Test.YtejjkoncbpefiaaAluMore
namespace Go.Proofs.Ytejjkoncbpefiaa.aluCarries
open Go.ChangeShapes Go.WideShapes Go.ChangeAt Go.RowKit
set_option linter.unusedVariables false      -- a walk need not use every 'w<i>' (that an integer argument fits its kind)

theorem own : ownKnob Try.prog.godebug = none := by kernel_rfl

theorem walk (a0 : Int) (a1 : Int) (a2 : Int) (a3 : Int) (w0 : (Lit.int .u32 a0).wf = true) (w1 : (Lit.int .u32 a1).wf = true) (w2 : (Lit.int .u32 a2).wf = true) (w3 : (Lit.int .u32 a3).wf = true) (w : World) :
    Calls Try.prog 9 #[.int .u32 a0, .int .u32 a1, .int .u32 a2, .int .u32 a3] w fun e w' => e = .returned (.bool true) ∧ Grown w w' := by
  obtain ⟨x1, x2⟩ := bounds_u32 w0
  obtain ⟨y1, y2⟩ := bounds_u32 w1
  obtain ⟨z1, z2⟩ := bounds_u32 w2
  obtain ⟨u1, u2⟩ := bounds_u32 w3
  by_cases hle : a1 * 4294967296 + a0 < a3 * 4294967296 + a2
  · go_enter Try.func9, Try.ntmps9
    go_wp2_with fail
    refine (Alu.anchor_any _).mono ?_
    rintro e w' ⟨rfl, rfl⟩
    go_wp2_with fail
    refine (Alu.Add_any _ _ _ x1 (by omega) z1 (by omega) _).mono ?_
    rintro e w' ⟨rfl, rfl⟩
    go_wp2_with fail
    refine (Alu.Add_any _ _ _ y1 (by omega) u1 (by omega) _).mono ?_
    rintro e w' ⟨rfl, rfl⟩
    go_wp2_with fail
    refine (Alu.Pair_any _ _ x1 (by omega) y1 (by omega) _).mono ?_
    rintro e w' ⟨rfl, rfl⟩
    go_wp2_with fail
    refine (Alu.Pair_any _ _ z1 (by omega) u1 (by omega) _).mono ?_
    rintro e w' ⟨rfl, rfl⟩
    go_wp2_with fail
    rw [Alu.not32 a2 z1 z2]
    refine (Alu.Add_any _ _ _ x1 (by omega) (by omega) (by omega) _).mono ?_
    rintro e w' ⟨rfl, rfl⟩
    go_wp2_with fail
    rw [Alu.not32 a3 u1 u2]
    refine (Alu.Add_any _ _ _ y1 (by omega) (by omega) (by omega) _).mono ?_
    rintro e w' ⟨rfl, rfl⟩
    go_wp2_with fail
    refine (Alu.Pair_any _ _ (Alu.addS_bd _ _ _).1 (Alu.addS_bd _ _ _).2 (Alu.addS_bd _ _ _).1 (Alu.addS_bd _ _ _).2 _).mono ?_
    rintro e w' ⟨rfl, rfl⟩
    rw [Alu.pair_sum a0 a1 a2 a3 x1 (by omega) y1 (by omega) z1 (by omega) u1 (by omega)]
    go_wp2_with fail
    refine (Alu.Pair_any _ _ (Alu.addS_bd _ _ _).1 (Alu.addS_bd _ _ _).2 (Alu.addS_bd _ _ _).1 (Alu.addS_bd _ _ _).2 _).mono ?_
    rintro e w' ⟨rfl, rfl⟩
    rw [Alu.pair_less a0 a1 a2 a3 x1 (by omega) y1 (by omega) z1 (by omega) u1 (by omega), Alu.pair_borrow a0 a1 a2 a3 x1 (by omega) y1 (by omega) z1 (by omega) u1 (by omega), if_pos hle]
    go_wp2_with fail
    go_ret
    exact ⟨rfl, Grown.refl _⟩
  · go_enter Try.func9, Try.ntmps9
    go_wp2_with fail
    refine (Alu.anchor_any _).mono ?_
    rintro e w' ⟨rfl, rfl⟩
    go_wp2_with fail
    refine (Alu.Add_any _ _ _ x1 (by omega) z1 (by omega) _).mono ?_
    rintro e w' ⟨rfl, rfl⟩
    go_wp2_with fail
    refine (Alu.Add_any _ _ _ y1 (by omega) u1 (by omega) _).mono ?_
    rintro e w' ⟨rfl, rfl⟩
    go_wp2_with fail
    refine (Alu.Pair_any _ _ x1 (by omega) y1 (by omega) _).mono ?_
    rintro e w' ⟨rfl, rfl⟩
    go_wp2_with fail
    refine (Alu.Pair_any _ _ z1 (by omega) u1 (by omega) _).mono ?_
    rintro e w' ⟨rfl, rfl⟩
    go_wp2_with fail
    rw [Alu.not32 a2 z1 z2]
    refine (Alu.Add_any _ _ _ x1 (by omega) (by omega) (by omega) _).mono ?_
    rintro e w' ⟨rfl, rfl⟩
    go_wp2_with fail
    rw [Alu.not32 a3 u1 u2]
    refine (Alu.Add_any _ _ _ y1 (by omega) (by omega) (by omega) _).mono ?_
    rintro e w' ⟨rfl, rfl⟩
    go_wp2_with fail
    refine (Alu.Pair_any _ _ (Alu.addS_bd _ _ _).1 (Alu.addS_bd _ _ _).2 (Alu.addS_bd _ _ _).1 (Alu.addS_bd _ _ _).2 _).mono ?_
    rintro e w' ⟨rfl, rfl⟩
    rw [Alu.pair_sum a0 a1 a2 a3 x1 (by omega) y1 (by omega) z1 (by omega) u1 (by omega)]
    go_wp2_with fail
    refine (Alu.Pair_any _ _ (Alu.addS_bd _ _ _).1 (Alu.addS_bd _ _ _).2 (Alu.addS_bd _ _ _).1 (Alu.addS_bd _ _ _).2 _).mono ?_
    rintro e w' ⟨rfl, rfl⟩
    rw [Alu.pair_less a0 a1 a2 a3 x1 (by omega) y1 (by omega) z1 (by omega) u1 (by omega), Alu.pair_borrow a0 a1 a2 a3 x1 (by omega) y1 (by omega) z1 (by omega) u1 (by omega), if_neg (by omega)]
    go_wp2_with fail
    go_ret
    have hd : decide (a1 * 4294967296 + a0 < a3 * 4294967296 + a2) = false := decide_eq_false (by omega)
    exact ⟨Alu.ret_bool (by rw [hd]; rfl), Grown.refl _⟩

/-! ### THE ROW's STEP: WRITTEN OUT: LEAVE IT -/
set_option maxRecDepth 100000 in
theorem lifted (os : Os) (started : os.Started) (H : Type) (enc : TypeId × Value → H) :
    ReturnsInHanded {} Try.checked os 9 .any (Rows.aluCarriesSpec.pre6 enc Try.prog Try.f9 Rows.aluCarriesRow.domain false) (Rows.aluCarriesSpec.post enc Try.prog Try.f9 false true false false) := by
  refine returnsInHanded_of_change (C := Try.checked) own started (by kernel_rfl) Try.func9
    (ChangeSpec.witness6 (enc := enc) (C := Try.checked) false ⟨#[], #[.int .u32 0, .int .u32 0, .int .u32 0, .int .u32 0], []⟩ 8 (by kernel_rfl) (by kernel_rfl) (by kernel_rfl) (by kernel_rfl)) ?_
  intro W base args ds gs before hval0 hW hcnd _
  have hval : ∀ (j : Nat) t v, Try.f9.params[j]? = some t → args[j]? = some v → Value.okWide Try.prog W .any base t v := hval0
  have hW' := hW
  obtain ⟨p, q, hA0, hV, rfl, hfz, hnd⟩ := hW
  have hA : DataW.TrodAll enc Try.prog W 0 (fun _ => true) true Try.f9.params.toList args.toList ds p := hA0
  rw [Try.params9] at hA hval
  obtain ⟨v0, vs0, d0, ds0, p0, q0, hargs, rfl, rfl, h0, r0⟩ := trodAll_cons hA
  obtain ⟨v1, vs1, d1, ds1, p1, q1, rfl, rfl, rfl, h1, r1⟩ := trodAll_cons r0
  obtain ⟨v2, vs2, d2, ds2, p2, q2, rfl, rfl, rfl, h2, r2⟩ := trodAll_cons r1
  obtain ⟨v3, vs3, d3, ds3, p3, q3, rfl, rfl, rfl, h3, r3⟩ := trodAll_cons r2
  obtain ⟨rfl, rfl, rfl⟩ := trodAll_nil r3
  obtain rfl : args = #[v0, v1, v2, v3] := by cases args; simp_all
  obtain ⟨rfl, rfl⟩ := trodVars_none hV
  obtain ⟨a0, rfl, rfl, rfl, w0⟩ := open_int Try.underlying22 (hval 0 22 v0 rfl rfl) h0
  obtain ⟨a1, rfl, rfl, rfl, w1⟩ := open_int Try.underlying22 (hval 1 22 v1 rfl rfl) h1
  obtain ⟨a2, rfl, rfl, rfl, w2⟩ := open_int Try.underlying22 (hval 2 22 v2 rfl rfl) h2
  obtain ⟨a3, rfl, rfl, rfl, w3⟩ := open_int Try.underlying22 (hval 3 22 v3 rfl rfl) h3
  clear hA0 hval0
  simp only [List.append_nil] at hW'
  refine (walk a0 a1 a2 a3 w0 w1 w2 w3 W).mono fun e W' ⟨he, hg⟩ => ?_
  subst he
  exact ⟨_, rfl, post_of_same (pa := []) (pv := []) hW' (fun _ _ _ => (trodAll_cons_mk (shut_bool Try.underlying4 _) trodAll_mk0)) (fun sp _ => (trodAll_cons_mk (shut_int Try.underlying22 w0) (trodAll_cons_mk (shut_int Try.underlying22 w1) (trodAll_cons_mk (shut_int Try.underlying22 w2) (trodAll_cons_mk (shut_int Try.underlying22 w3) trodAll_mk0))))) (fun _ _ => rfl) rfl
    (hg.frame _) hg.2.1 (ok_one (by kernel_rfl) rfl (okWide_bool_mk Try.underlying4 _))⟩

theorem over : Rows.aluCarriesRow.holds Try.pinned (OpenSpec.ofChange Rows.aluCarriesSpec) :=
  OpenClaim.holds_of_wide 9 Try.f9 rfl rfl rfl rfl rfl rfl rfl ⟨rfl, rfl, rfl, rfl, rfl⟩ rfl rfl rfl rfl rfl (by kernel_rfl) Try.func9 (by kernel_rfl)
    (of_decide_eq_true (by kernel_rfl)) (by unfold Func.isWrapper; first | (rw [if_pos (by decide +kernel)]; kernel_rfl) | (rw [if_neg (by decide +kernel)]; exact ⟨rfl, rfl⟩))
    (fun os started H enc _ => lifted os started H enc)

/-- ████ THE STATEMENT ████ -/
theorem proved : Rows.AluCarriesSaid :=
  over
#print axioms proved
end Go.Proofs.Ytejjkoncbpefiaa.aluCarries
