/- For every a, b and c the statement ClockDivs returns true: a division takes 2 to 10 cycles, no fewer of a greater number, no more by a greater one.
Conditions: none. -/
import Derived.Test.YthbleghkkhhcbaaRows
import Derived.WalkKit
import Derived.ProofKit
import Derived.OpenShut
import Derived.Test.YthbleghkkhhcbaaEnds
import Derived.Test.YthbleghkkhhcbaaClockWalks
namespace Go.Proofs.Ythbleghkkhhcbaa.clockDivs
open Go.ChangeShapes Go.WideShapes Go.ChangeAt Go.RowKit
set_option linter.unusedVariables false

theorem own : ownKnob Try.prog.godebug = none := by kernel_rfl
theorem laidOut : laidOutB Try.prog = true := by kernel_rfl
theorem len_mono {m n : Nat} (h : m ≤ n) : bitLen m ≤ bitLen n := by
  rcases Nat.eq_zero_or_pos m with rfl | hm
  · simp [bitLen]
  · unfold bitLen
    rw [if_neg (by omega), if_neg (by omega)]
    have := (Nat.le_log2 (by omega) (k := m.log2) (n := n)).2 (Nat.le_trans (Nat.log2_self_le (by omega)) h)
    omega
theorem dv_bd (a b : Int) (hb : 0 ≤ b) (ha2 : a < 4294967296) (ha : 0 ≤ a) : 2 ≤ Clock.dv a b ∧ Clock.dv a b ≤ 10 := by
  have la := Alu.bitLen_le32 a.toNat (by omega)
  have hp : b ≠ 0 → 1 ≤ bitLen b.toNat := fun h => len_mono (m := 1) (by omega)
  unfold Clock.dv
  split
  · omega
  · rename_i h
    have := hp (fun e => h (.inl e))
    omega
theorem dv_up (a c b : Int) (h : a ≤ c) : Clock.dv a b ≤ Clock.dv c b := by
  have := len_mono (m := a.toNat) (n := c.toNat) (by omega)
  unfold Clock.dv
  split <;> split <;> omega
theorem dv_down (a b c : Int) (h : b ≤ c) (hb : 0 < b) : Clock.dv a c ≤ Clock.dv a b := by
  have := len_mono (m := b.toNat) (n := c.toNat) (by omega)
  unfold Clock.dv
  split <;> split <;> omega

set_option maxHeartbeats 1000000 in
theorem walk (a0 : Int) (a1 : Int) (a2 : Int) (w : World) (w0 : (Lit.int .u32 a0).wf = true) (w1 : (Lit.int .u32 a1).wf = true) (w2 : (Lit.int .u32 a2).wf = true) :
    Calls Try.prog 6 #[.int .u32 a0, .int .u32 a1, .int .u32 a2] w fun e w' => e = .returned (.bool true) ∧ Below w.heap.size w w' := by
  obtain ⟨x1, x2⟩ := bounds_u32 w0
  obtain ⟨y1, y2⟩ := bounds_u32 w1
  obtain ⟨z1, z2⟩ := bounds_u32 w2
  have hd := dv_bd a0 a1 y1 (by omega) x1
  go_enter Try.func6, Try.ntmps6
  go_wp2_with fail
  refine (Clock.anchor_any _).mono ?_
  rintro e w1 ⟨rfl, hb1⟩
  go_wp2_with fail
  refine (Clock.Div_any _ _ (by omega) (by omega) (by omega) (by omega) _).mono ?_
  rintro e w' ⟨rfl, rfl⟩
  go_wp2_with fail
  · refine (Clock.Div_any _ _ (by omega) (by omega) (by omega) (by omega) _).mono ?_
    rintro e w' ⟨rfl, rfl⟩
    go_wp2_with fail
    all_goals
      refine (Clock.Div_any _ _ (by omega) (by omega) (by omega) (by omega) _).mono ?_
      rintro e w' ⟨rfl, rfl⟩
      have hu := dv_up a0 a2 a1 (by omega)
      go_wp2_with fail
    all_goals first
      | (go_ret; exact ⟨rfl, hb1⟩)
      | (refine (Clock.Div_any _ _ (by omega) (by omega) (by omega) (by omega) _).mono ?_
         rintro e w' ⟨rfl, rfl⟩
         go_wp2_with fail
         all_goals
           refine (Clock.Div_any _ _ (by omega) (by omega) (by omega) (by omega) _).mono ?_
           rintro e w' ⟨rfl, rfl⟩
           first
             | (have hv := dv_down a0 a1 a2 (by omega) (by omega)
                go_wp2_with fail
                go_ret
                exact ⟨rfl, hb1⟩)
             | (have hv := dv_down a0 a2 a1 (by omega) (by omega)
                go_wp2_with fail
                go_ret
                exact ⟨rfl, hb1⟩)
             | (go_wp2_with fail
                go_ret
                exact ⟨by simp, hb1⟩))
  · refine (Clock.Div_any _ _ (by omega) (by omega) (by omega) (by omega) _).mono ?_
    rintro e w' ⟨rfl, rfl⟩
    go_wp2_with fail
    all_goals
      refine (Clock.Div_any _ _ (by omega) (by omega) (by omega) (by omega) _).mono ?_
      rintro e w' ⟨rfl, rfl⟩
      have hu := dv_up a2 a0 a1 (by omega)
      go_wp2_with fail
    all_goals first
      | (go_ret; exact ⟨rfl, hb1⟩)
      | (refine (Clock.Div_any _ _ (by omega) (by omega) (by omega) (by omega) _).mono ?_
         rintro e w' ⟨rfl, rfl⟩
         go_wp2_with fail
         all_goals
           refine (Clock.Div_any _ _ (by omega) (by omega) (by omega) (by omega) _).mono ?_
           rintro e w' ⟨rfl, rfl⟩
           first
             | (have hv := dv_down a0 a1 a2 (by omega) (by omega)
                go_wp2_with fail
                go_ret
                exact ⟨rfl, hb1⟩)
             | (have hv := dv_down a0 a2 a1 (by omega) (by omega)
                go_wp2_with fail
                go_ret
                exact ⟨rfl, hb1⟩)
             | (go_wp2_with fail
                go_ret
                exact ⟨by simp, hb1⟩))

set_option maxRecDepth 100000 in
theorem lifted (os : Os) (started : os.Started) (H : Type) (enc : TypeId × Value → H) :
    ReturnsInHanded {} Try.checked os 6 .any (Rows.clockDivsSpec.pre6 enc Try.prog Try.f6 Rows.clockDivsRow.domain false) (Rows.clockDivsSpec.post enc Try.prog Try.f6 false true false false) := by
  refine returnsInHanded_of_change (C := Try.checked) own started (by kernel_rfl) Try.func6
    (ChangeSpec.witness6 (enc := enc) (C := Try.checked) false ⟨#[], #[.int .u32 0, .int .u32 0, .int .u32 0], []⟩ 8 (by kernel_rfl) (by kernel_rfl) (by kernel_rfl) (by kernel_rfl)) ?_
  intro W base args ds gs before hval0 hW hcnd _
  have hval : ∀ (j : Nat) t v, Try.f6.params[j]? = some t → args[j]? = some v → Value.okWide Try.prog W .any base t v := hval0
  have hW' := hW
  obtain ⟨p, q, hA0, hV, rfl, hfz, hnd⟩ := hW
  have hA : DataW.TrodAll enc Try.prog W 0 (fun _ => true) true Try.f6.params.toList args.toList ds p := hA0
  rw [Try.params6] at hA hval
  obtain ⟨v0, vs0, d0, ds0, p0, q0, hargs, rfl, rfl, h0, r0⟩ := trodAll_cons hA
  obtain ⟨v1, vs1, d1, ds1, p1, q1, rfl, rfl, rfl, h1, r1⟩ := trodAll_cons r0
  obtain ⟨v2, vs2, d2, ds2, p2, q2, rfl, rfl, rfl, h2, r2⟩ := trodAll_cons r1
  obtain ⟨rfl, rfl, rfl⟩ := trodAll_nil r2
  obtain rfl : args = #[v0, v1, v2] := by cases args; simp_all
  obtain ⟨rfl, rfl⟩ := trodVars_none hV
  obtain ⟨a0, rfl, rfl, rfl, w0⟩ := open_int Try.underlying22 (hval 0 22 v0 rfl rfl) h0
  obtain ⟨a1, rfl, rfl, rfl, w1⟩ := open_int Try.underlying22 (hval 1 22 v1 rfl rfl) h1
  obtain ⟨a2, rfl, rfl, rfl, w2⟩ := open_int Try.underlying22 (hval 2 22 v2 rfl rfl) h2
  clear hA0 hval0
  simp only [List.append_nil] at hW'
  try simp only [List.nil_append] at hW'
  have hlt : ∀ x, x ∈ ([] : List MemPlace) → x.block < W.heap.size := fun x hx => by simpa using hW'.lt x hx
  refine (walk a0 a1 a2 W w0 w1 w2).mono fun e W' ⟨he, hg⟩ => ?_
  subst he
  exact ⟨_, rfl, Ends.post_of_below (pv := []) hW' (fun _ _ _ => (trodAll_cons_mk (shut_bool Try.underlying4 _) trodAll_mk0)) (trodAll_cons_mk (shut_int Try.underlying22 w0) (trodAll_cons_mk (shut_int Try.underlying22 w1) (trodAll_cons_mk (shut_int Try.underlying22 w2) trodAll_mk0))) (fun _ _ => rfl) (by simp)
    (hg.frame _)⟩

theorem proved : Rows.ClockDivsSaid :=
  OpenClaim.holds_of_wide 6 Try.f6 rfl rfl rfl rfl rfl rfl rfl ⟨rfl, rfl, rfl, rfl, rfl⟩ rfl rfl rfl rfl rfl (by kernel_rfl) Try.func6 (by kernel_rfl)
    (of_decide_eq_true (by kernel_rfl)) (by unfold Func.isWrapper; first | (rw [if_pos (by decide +kernel)]; kernel_rfl) | (rw [if_neg (by decide +kernel)]; exact ⟨rfl, rfl⟩))
    (fun os started H enc _ => lifted os started H enc)
#print axioms proved
end Go.Proofs.Ythbleghkkhhcbaa.clockDivs
