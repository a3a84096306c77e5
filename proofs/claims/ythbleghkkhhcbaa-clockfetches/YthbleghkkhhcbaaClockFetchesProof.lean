/- For every buffer, address and size the statement ClockFetches returns true: what is missed, and the line that the buffer has then, are the document's.
Conditions: none. -/
import Derived.Test.YthbleghkkhhcbaaRows
import Derived.WalkKit
import Derived.ProofKit
import Derived.OpenShut
import Derived.Test.YthbleghkkhhcbaaEnds
import Derived.Test.YthbleghkkhhcbaaClockWalks
namespace Go.Proofs.Ythbleghkkhhcbaa.clockFetches
open Go.ChangeShapes Go.WideShapes Go.ChangeAt Go.RowKit
set_option linter.unusedVariables false

theorem own : ownKnob Try.prog.godebug = none := by kernel_rfl
theorem laidOut : laidOutB Try.prog = true := by kernel_rfl
theorem mi_full (l x : Int) : Clock.mi l (x / 16) = Clock.ms true l x := by
  unfold Clock.mi Clock.ms
  by_cases h : x / 16 = l
  · rw [if_pos h, if_pos ⟨rfl, h.symm⟩]
  · rw [if_neg h, if_neg (fun g => h g.2.symm)]
theorem mi_none (l x : Int) (hx : 0 ≤ x) : Clock.mi (-1) (x / 16) = Clock.ms false l x := by
  unfold Clock.mi Clock.ms
  rw [if_neg (by omega), if_neg (by simp)]

set_option maxHeartbeats 1000000 in
theorem walk (a0 : Bool) (a1 : Int) (a2 : Int) (a3 : Int) (w : World)  (w1 : (Lit.int .u32 a1).wf = true) (w2 : (Lit.int .u32 a2).wf = true) (w3 : (Lit.int .i64 a3).wf = true) :
    Calls Try.prog 3 #[.bool a0, .int .u32 a1, .int .u32 a2, .int .i64 a3] w fun e w' => e = .returned (.bool true) ∧ Below w.heap.size w w' := by
  obtain ⟨x1, x2⟩ := bounds_u32 w1
  obtain ⟨y1, y2⟩ := bounds_u32 w2
  obtain ⟨z1, z2⟩ := bounds_i64 w3
  by_cases h2 : a3 = 2
  · subst h2
    cases a0
    · have hq : Hid (Clock.mi (-1) (a2 / 16) = Clock.ms false a1 a2) := mi_none a1 a2 y1
      go_enter Try.func3, Try.ntmps3
      go_wp2_with fail
      refine (Clock.anchor_any _).mono ?_
      rintro e w1 ⟨rfl, hb1⟩
      go_wp2_with fail
      refine (Clock.Fetch_2 _ _ _ y1 (by omega) _).mono ?_
      rintro e w2 ⟨rfl, hb2⟩
      have hb3 := Clock.next hb1 (Clock.next1 hb2)
      have hb4 := hb3.alloc hb3.size (.cells #[.bool true, .int .u32 (a2 / 16)] 25)
      go_wp2_with fail
      refine (Clock.halves_2 _ _ (by decide) _).mono ?_
      rintro e w3 ⟨rfl, m0, hb5⟩
      obtain ⟨hc, hfz⟩ := Clock.bcell hb5
      have hb6 := Clock.next hb4 hb5
      clear hb4 hb5
      have hsz : w2.heap.size < (w2.alloc (.cells #[.bool true, .int .u32 (a2 / 16)] 25)).heap.size := by simp
      go_wp2_with fail
      simp only [World.size_alloc] at m0
      refine (Clock.Misses_1 _ _ _ (by omega) (by omega) (by omega) (by omega) _ m0).mono ?_
      rintro e w' ⟨rfl, rfl⟩
      rw [hq.out]
      go_wp2_with (go_at_call 11; refine (Clock.Line_any _ (by omega) (by omega) _).mono ?_; rintro e w' ⟨rfl, rfl⟩)
      go_ret
      exact ⟨by simp, hb6⟩
    · have hq : Hid (Clock.mi a1 (a2 / 16) = Clock.ms true a1 a2) := mi_full a1 a2
      go_enter Try.func3, Try.ntmps3
      go_wp2_with fail
      refine (Clock.anchor_any _).mono ?_
      rintro e w1 ⟨rfl, hb1⟩
      go_wp2_with fail
      refine (Clock.Fetch_2 _ _ _ y1 (by omega) _).mono ?_
      rintro e w2 ⟨rfl, hb2⟩
      have hb3 := Clock.next hb1 (Clock.next1 hb2)
      have hb4 := hb3.alloc hb3.size (.cells #[.bool true, .int .u32 (a2 / 16)] 25)
      go_wp2_with fail
      refine (Clock.halves_2 _ _ (by decide) _).mono ?_
      rintro e w3 ⟨rfl, m0, hb5⟩
      obtain ⟨hc, hfz⟩ := Clock.bcell hb5
      have hb6 := Clock.next hb4 hb5
      clear hb4 hb5
      have hsz : w2.heap.size < (w2.alloc (.cells #[.bool true, .int .u32 (a2 / 16)] 25)).heap.size := by simp
      go_wp2_with fail
      simp only [World.size_alloc] at m0
      refine (Clock.Misses_1 _ _ _ (by omega) (by omega) (by omega) (by omega) _ m0).mono ?_
      rintro e w' ⟨rfl, rfl⟩
      rw [hq.out]
      go_wp2_with (go_at_call 11; refine (Clock.Line_any _ (by omega) (by omega) _).mono ?_; rintro e w' ⟨rfl, rfl⟩)
      go_ret
      exact ⟨by simp, hb6⟩
  by_cases h4 : a3 = 4
  · subst h4
    cases a0
    · have hq : Hid (Clock.mi (-1) (a2 / 16) + Clock.mi (a2 / 16) ((a2 + 2) % 4294967296 / 16) = Clock.ms false a1 a2 + Clock.ms true (a2 / 16) ((a2 + 2) % 4294967296)) := by rw [mi_none a1 a2 y1, mi_full]; exact rfl
      go_enter Try.func3, Try.ntmps3
      go_wp2_with fail
      refine (Clock.anchor_any _).mono ?_
      rintro e w1 ⟨rfl, hb1⟩
      go_wp2_with fail
      refine (Clock.Fetch_4 _ _ _ y1 (by omega) _).mono ?_
      rintro e w2 ⟨rfl, hb2⟩
      have hb3 := Clock.next hb1 (Clock.next1 hb2)
      have hb4 := hb3.alloc hb3.size (.cells #[.bool true, .int .u32 ((a2 + 2) % 4294967296 / 16)] 25)
      go_wp2_with fail
      refine (Clock.halves_4 _ y1 (by omega) _).mono ?_
      rintro e w3 ⟨rfl, m0, m1, hb5⟩
      obtain ⟨hc, hfz⟩ := Clock.bcell hb5
      have hb6 := Clock.next hb4 hb5
      clear hb4 hb5
      have hsz : w2.heap.size < (w2.alloc (.cells #[.bool true, .int .u32 ((a2 + 2) % 4294967296 / 16)] 25)).heap.size := by simp
      go_wp2_with fail
      simp only [World.size_alloc] at m0 m1
      refine (Clock.Misses_2 _ _ _ _ (by omega) (by omega) (by omega) (by omega) (by omega) (by omega) _ m0 m1).mono ?_
      rintro e w' ⟨rfl, rfl⟩
      rw [hq.out]
      go_wp2_with (go_at_call 11; refine (Clock.Line_any _ (by omega) (by omega) _).mono ?_; rintro e w' ⟨rfl, rfl⟩)
      go_ret
      exact ⟨by simp, hb6⟩
    · have hq : Hid (Clock.mi a1 (a2 / 16) + Clock.mi (a2 / 16) ((a2 + 2) % 4294967296 / 16) = Clock.ms true a1 a2 + Clock.ms true (a2 / 16) ((a2 + 2) % 4294967296)) := by rw [mi_full a1 a2, mi_full]; exact rfl
      go_enter Try.func3, Try.ntmps3
      go_wp2_with fail
      refine (Clock.anchor_any _).mono ?_
      rintro e w1 ⟨rfl, hb1⟩
      go_wp2_with fail
      refine (Clock.Fetch_4 _ _ _ y1 (by omega) _).mono ?_
      rintro e w2 ⟨rfl, hb2⟩
      have hb3 := Clock.next hb1 (Clock.next1 hb2)
      have hb4 := hb3.alloc hb3.size (.cells #[.bool true, .int .u32 ((a2 + 2) % 4294967296 / 16)] 25)
      go_wp2_with fail
      refine (Clock.halves_4 _ y1 (by omega) _).mono ?_
      rintro e w3 ⟨rfl, m0, m1, hb5⟩
      obtain ⟨hc, hfz⟩ := Clock.bcell hb5
      have hb6 := Clock.next hb4 hb5
      clear hb4 hb5
      have hsz : w2.heap.size < (w2.alloc (.cells #[.bool true, .int .u32 ((a2 + 2) % 4294967296 / 16)] 25)).heap.size := by simp
      go_wp2_with fail
      simp only [World.size_alloc] at m0 m1
      refine (Clock.Misses_2 _ _ _ _ (by omega) (by omega) (by omega) (by omega) (by omega) (by omega) _ m0 m1).mono ?_
      rintro e w' ⟨rfl, rfl⟩
      rw [hq.out]
      go_wp2_with (go_at_call 11; refine (Clock.Line_any _ (by omega) (by omega) _).mono ?_; rintro e w' ⟨rfl, rfl⟩)
      go_ret
      exact ⟨by simp, hb6⟩
  · have e2 : (a3 != 2) = true := by simp [h2]
    have e4 : (a3 != 4) = true := by simp [h4]
    go_enter Try.func3, Try.ntmps3
    go_wp2_with fail
    refine (Clock.anchor_any _).mono ?_
    rintro e w1 ⟨rfl, hb1⟩
    go_wp2_with fail
    refine (Clock.Fetch_no _ _ _ _ h2 h4 _).mono ?_
    rintro e w2 ⟨rfl, hb2⟩
    obtain ⟨hc, hfz⟩ := Clock.bcell hb2
    have hsz : w1.heap.size < w2.heap.size := by have := hb2.size; simp at this; omega
    go_wp2_with fail
    go_ret
    have hb3 := Clock.next hb1 (Clock.next1 hb2)
    exact ⟨by simp, hb3.alloc hb3.size _⟩

set_option maxRecDepth 100000 in
theorem lifted (os : Os) (started : os.Started) (H : Type) (enc : TypeId × Value → H) :
    ReturnsInHanded {} Try.checked os 3 .any (Rows.clockFetchesSpec.pre6 enc Try.prog Try.f3 Rows.clockFetchesRow.domain false) (Rows.clockFetchesSpec.post enc Try.prog Try.f3 false true false false) := by
  refine returnsInHanded_of_change (C := Try.checked) own started (by kernel_rfl) Try.func3
    (ChangeSpec.witness6 (enc := enc) (C := Try.checked) false ⟨#[], #[.bool false, .int .u32 0, .int .u32 0, .int .i64 0], []⟩ 8 (by kernel_rfl) (by kernel_rfl) (by kernel_rfl) (by kernel_rfl)) ?_
  intro W base args ds gs before hval0 hW hcnd _
  have hval : ∀ (j : Nat) t v, Try.f3.params[j]? = some t → args[j]? = some v → Value.okWide Try.prog W .any base t v := hval0
  have hW' := hW
  obtain ⟨p, q, hA0, hV, rfl, hfz, hnd⟩ := hW
  have hA : DataW.TrodAll enc Try.prog W 0 (fun _ => true) true Try.f3.params.toList args.toList ds p := hA0
  rw [Try.params3] at hA hval
  obtain ⟨v0, vs0, d0, ds0, p0, q0, hargs, rfl, rfl, h0, r0⟩ := trodAll_cons hA
  obtain ⟨v1, vs1, d1, ds1, p1, q1, rfl, rfl, rfl, h1, r1⟩ := trodAll_cons r0
  obtain ⟨v2, vs2, d2, ds2, p2, q2, rfl, rfl, rfl, h2, r2⟩ := trodAll_cons r1
  obtain ⟨v3, vs3, d3, ds3, p3, q3, rfl, rfl, rfl, h3, r3⟩ := trodAll_cons r2
  obtain ⟨rfl, rfl, rfl⟩ := trodAll_nil r3
  obtain rfl : args = #[v0, v1, v2, v3] := by cases args; simp_all
  obtain ⟨rfl, rfl⟩ := trodVars_none hV
  obtain ⟨a0, rfl, rfl, rfl⟩ := open_bool Try.underlying4 (hval 0 4 v0 rfl rfl) h0
  obtain ⟨a1, rfl, rfl, rfl, w1⟩ := open_int Try.underlying22 (hval 1 22 v1 rfl rfl) h1
  obtain ⟨a2, rfl, rfl, rfl, w2⟩ := open_int Try.underlying22 (hval 2 22 v2 rfl rfl) h2
  obtain ⟨a3, rfl, rfl, rfl, w3⟩ := open_int Try.underlying3 (hval 3 3 v3 rfl rfl) h3
  clear hA0 hval0
  simp only [List.append_nil] at hW'
  try simp only [List.nil_append] at hW'
  have hlt : ∀ x, x ∈ ([] : List MemPlace) → x.block < W.heap.size := fun x hx => by simpa using hW'.lt x hx
  refine (walk a0 a1 a2 a3 W  w1 w2 w3).mono fun e W' ⟨he, hg⟩ => ?_
  subst he
  exact ⟨_, rfl, Ends.post_of_below (pv := []) hW' (fun _ _ _ => (trodAll_cons_mk (shut_bool Try.underlying4 _) trodAll_mk0)) (trodAll_cons_mk (shut_bool Try.underlying4 _) (trodAll_cons_mk (shut_int Try.underlying22 w1) (trodAll_cons_mk (shut_int Try.underlying22 w2) (trodAll_cons_mk (shut_int Try.underlying3 w3) trodAll_mk0)))) (fun _ _ => rfl) (by simp)
    (hg.frame _)⟩

theorem proved : Rows.ClockFetchesSaid :=
  OpenClaim.holds_of_wide 3 Try.f3 rfl rfl rfl rfl rfl rfl rfl ⟨rfl, rfl, rfl, rfl, rfl⟩ rfl rfl rfl rfl rfl (by kernel_rfl) Try.func3 (by kernel_rfl)
    (of_decide_eq_true (by kernel_rfl)) (by unfold Func.isWrapper; first | (rw [if_pos (by decide +kernel)]; kernel_rfl) | (rw [if_neg (by decide +kernel)]; exact ⟨rfl, rfl⟩))
    (fun os started H enc _ => lifted os started H enc)
#print axioms proved
end Go.Proofs.Ythbleghkkhhcbaa.clockFetches
