/- For every flash and every address the statement MemHalves returns true: a word of the flash is its two halves, the low one first; RAM has no halves.
Conditions: none. -/
import Derived.Test.YtiidicldbcabaaaRows
import Derived.WalkKit
import Derived.ProofKit
import Derived.OpenShut
import Derived.Test.YtiidicldbcabaaaEnds
import Derived.Test.YtiidicldbcabaaaMemLaws
namespace Go.Proofs.Ytiidicldbcabaaa.memHalves
open Go.ChangeShapes Go.WideShapes Go.ChangeAt Go.RowKit
open Mem
set_option linter.unusedVariables false

theorem own : ownKnob Try.prog.godebug = none := by kernel_rfl
theorem laidOut : laidOutB Try.prog = true := by kernel_rfl
theorem half_odd (n : Nat) (a : Int) (h : a % 2 = 1) : hfE n a = 60 := by unfold hfE; rw [if_neg (by omega)]
theorem half_ram (n : Nat) (a : Int) (hn : n ≤ 300) (h1 : 536870912 ≤ a) (h2 : a ≤ 536936444) (h : a % 2 = 0) : hfE n a = 61 := by unfold hfE fp; rw [if_pos h, if_neg (by omega)]
theorem load_no (n : Nat) (f g : Nat → Int) (a : Int) (h : ldE n a ≠ 0) : ldV n f g a = 0 := by
  unfold ldE at h; unfold ldV
  by_cases ha : a % 4 = 0
  · rw [if_pos ha] at h ⊢
    by_cases hr : rp a < 16384
    · rw [if_pos hr] at h; exact absurd rfl h
    · rw [if_neg hr] at h ⊢
      by_cases hf : fp a + 4 ≤ n
      · rw [if_pos hf] at h; exact absurd rfl h
      · rw [if_neg hf]
  · rw [if_neg ha]
theorem load_yes (n : Nat) (f g : Nat → Int) (a : Int) (h0 : 0 ≤ a) (h1 : a < 4294967296) (hr : a < 536870912 ∨ 536936444 < a) (h : ldE n a = 0) :
    a % 4 = 0 ∧ fp a + 4 ≤ n ∧ ldV n f g a = lsum f (fp a).toNat 4 := by
  unfold ldE at h
  by_cases ha : a % 4 = 0
  · rw [if_pos ha] at h
    have hq : ¬ rp a < 16384 := by unfold rp; omega
    rw [if_neg hq] at h
    by_cases hf : fp a + 4 ≤ n
    · exact ⟨ha, hf, by unfold ldV; rw [if_pos ha, if_neg hq, if_pos hf]⟩
    · rw [if_neg hf] at h; omega
  · rw [if_neg ha] at h; omega
theorem halves (n : Nat) (f : Nat → Int) (a : Int) (h0 : 0 ≤ a) (hb : a < 4294967296) (hn : n ≤ 300) (hf : ∀ i, i < n → 0 ≤ f i ∧ f i < 256) (ha : a % 4 = 0) (hfit : fp a + 4 ≤ n) :
    a < 4294967294 ∧ hfE n a = 0 ∧ hfE n (a + 2) = 0 ∧ 0 ≤ hfV n f (a + 2) ∧ hfV n f (a + 2) < 65536 ∧ bits .or .u32 (hfV n f (a + 2) * 65536) (hfV n f a) = lsum f (fp a).toNat 4 := by
  have e2 : fp (a + 2) = fp a + 2 := by unfold fp at *; omega
  have hr := fp_range a
  obtain ⟨s, hs⟩ := Int.eq_ofNat_of_zero_le hr.1
  have v1 : hfV n f a = lsum f s 2 := by unfold hfV; rw [if_pos (by omega), if_pos (by omega), hs]; rfl
  have v2 : hfV n f (a + 2) = lsum f (s + 2) 2 := by unfold hfV; rw [if_pos (by omega), if_pos (by omega), e2, show (fp a + 2).toNat = s + 2 by omega]
  have p1 := lsum_range f s 2 (fun i hi => hf _ (by omega))
  have p2 := lsum_range f (s + 2) 2 (fun i hi => hf _ (by omega))
  have e4 : lsum f s 4 = lsum f s 2 + lsum f (s + 2) 2 * 65536 := by
    simp only [lsum, Nat.add_zero]
    rw [show s + 2 + 1 = s + 3 from rfl]
    generalize f s = x0; generalize f (s + 1) = x1; generalize f (s + 2) = x2; generalize f (s + 3) = x3
    omega
  have hp : (256 : Int) ^ 2 = 65536 := by decide
  rw [hp] at p1 p2
  refine ⟨by unfold fp at *; omega, by unfold hfE; rw [if_pos (by omega), if_pos (by omega)], by unfold hfE; rw [if_pos (by omega), if_pos (by omega)], by omega, by omega, ?_⟩
  rw [v1, v2, show (fp a).toNat = s by omega, e4]
  have := Alu.u32_join 16 (lsum f (s + 2) 2 * 65536) (lsum f s 2) (by omega) (by omega) p1.1 (by omega) (by omega) (by omega)
  rw [this]
  omega

set_option maxHeartbeats 2000000 in
theorem walk (q0 : Option Addr) (n0 c0 : Nat) (z0 : List Int) (a1 : Int) (w : World) (w0 : Args.Ints w .u8 q0 n0 c0 z0) (w1 : (Lit.int .u32 a1).wf = true) :
    Calls Try.prog 6 #[.slice q0 n0 c0, .int .u32 a1] w fun e w' => e = .returned (.bool true) ∧ Below w.heap.size w w' := by
  obtain ⟨f, hS, hf'⟩ := opened w0
  have hx := wf32 w1
  clear w0 w1
  by_cases h1 : (300 : Int) < n0
  · go_enter Try.func6, Try.ntmps6
    go_wp2_with (go_at_call 8; refine (anchor_any _).mono ?_; rintro e w1 ⟨rfl, hb1⟩)
    go_ret
    exact ⟨rfl, hb1⟩
  by_cases h2 : 536870912 ≤ a1 ∧ a1 ≤ 536936444
  · obtain ⟨h2, h3⟩ := h2
    rcases (show a1 % 2 = 0 ∨ a1 % 2 = 1 by omega) with h4 | h4
    · have hh := half_ram n0 a1 (by omega) h2 h3 h4
      go_enter Try.func6, Try.ntmps6
      go_wp2_with (go_at_call 8; refine (anchor_any _).mono ?_; rintro e w1 ⟨rfl, hb1⟩)
      refine (New_ok _ n0 c0 f _ (hS.below hb1) (by omega)).mono ?_
      rintro e w2 ⟨B, F, R, rfl, hI, hle, hb2⟩
      have hb3 := hb1.trans (hb2.mono hb1.size)
      go_wp2_with (first | (go_at_call 13; refine (Load_any hI hf' (by omega) a1 hx.1 hx.2).mono ?_; rintro e w' ⟨rfl, rfl⟩) | (go_at_call 15; refine (Half_any hI hf' (by omega) a1 hx.1 hx.2).mono ?_; rintro e w' ⟨rfl, rfl⟩; rw [hh]))
      go_ret
      exact ⟨rfl, hb3⟩
    · have hh := half_odd n0 a1 h4
      go_enter Try.func6, Try.ntmps6
      go_wp2_with (go_at_call 8; refine (anchor_any _).mono ?_; rintro e w1 ⟨rfl, hb1⟩)
      refine (New_ok _ n0 c0 f _ (hS.below hb1) (by omega)).mono ?_
      rintro e w2 ⟨B, F, R, rfl, hI, hle, hb2⟩
      have hb3 := hb1.trans (hb2.mono hb1.size)
      go_wp2_with (first | (go_at_call 13; refine (Load_any hI hf' (by omega) a1 hx.1 hx.2).mono ?_; rintro e w' ⟨rfl, rfl⟩) | (go_at_call 15; refine (Half_any hI hf' (by omega) a1 hx.1 hx.2).mono ?_; rintro e w' ⟨rfl, rfl⟩; rw [hh]))
      go_ret
      exact ⟨rfl, hb3⟩
  have h3 : (decide (536870912 ≤ a1) && decide (a1 ≤ 536936444)) = false := by
    rcases Classical.em (536870912 ≤ a1) with h | h
    · rw [decide_eq_false (show ¬ a1 ≤ 536936444 from fun e => h2 ⟨h, e⟩)]; simp
    · rw [decide_eq_false h]; simp
  by_cases h5 : ldE n0 a1 = 0
  · obtain ⟨g1, g2, g3⟩ := load_yes n0 f (fun _ => 0) a1 hx.1 hx.2 (by omega) h5
    obtain ⟨k1, k2, k3, k4, k5, k6⟩ := halves n0 f a1 hx.1 hx.2 (by omega) hf' g1 g2
    go_enter Try.func6, Try.ntmps6
    go_wp2_with (go_at_call 8; refine (anchor_any _).mono ?_; rintro e w1 ⟨rfl, hb1⟩)
    refine (New_ok _ n0 c0 f _ (hS.below hb1) (by omega)).mono ?_
    rintro e w2 ⟨B, F, R, rfl, hI, hle, hb2⟩
    have hb3 := hb1.trans (hb2.mono hb1.size)
    go_wp2_with fail
    refine (Load_any hI hf' (by omega) a1 hx.1 hx.2).mono ?_
    rintro e w' ⟨rfl, rfl⟩
    rw [h5, g3]
    go_wp2_with fail
    all_goals refine (Half_any hI hf' (by omega) a1 hx.1 hx.2).mono ?_
    all_goals rintro e w' ⟨rfl, rfl⟩
    all_goals rw [k2]
    all_goals go_wp2_with fail
    all_goals refine (Half_any hI hf' (by omega) (a1 + 2) (by omega) (by omega)).mono ?_
    all_goals rintro e w' ⟨rfl, rfl⟩
    all_goals rw [k3]
    all_goals go_wp2_with fail
    all_goals go_ret
    all_goals exact ⟨rfl, hb3⟩
  · have g3 := load_no n0 f (fun _ => 0) a1 h5
    have g4 : (ldE n0 a1 != 0) = true := by simpa using h5
    go_enter Try.func6, Try.ntmps6
    go_wp2_with (go_at_call 8; refine (anchor_any _).mono ?_; rintro e w1 ⟨rfl, hb1⟩)
    refine (New_ok _ n0 c0 f _ (hS.below hb1) (by omega)).mono ?_
    rintro e w2 ⟨B, F, R, rfl, hI, hle, hb2⟩
    have hb3 := hb1.trans (hb2.mono hb1.size)
    go_wp2_with (go_at_call 13; refine (Load_any hI hf' (by omega) a1 hx.1 hx.2).mono ?_; rintro e w' ⟨rfl, rfl⟩; rw [g3])
    all_goals go_ret
    all_goals exact ⟨rfl, hb3⟩

set_option maxRecDepth 100000 in
theorem lifted (os : Os) (started : os.Started) (H : Type) (enc : TypeId × Value → H) :
    ReturnsInHanded {} Try.checked os 6 .any (Rows.memHalvesSpec.pre6 enc Try.prog Try.f6 Rows.memHalvesRow.domain false) (Rows.memHalvesSpec.post enc Try.prog Try.f6 false true false false) := by
  refine returnsInHanded_of_change (C := Try.checked) own started (by kernel_rfl) Try.func6
    (ChangeSpec.witness6 (enc := enc) (C := Try.checked) false ⟨#[], #[.slice none 0 0, .int .u32 0], []⟩ 8 (by kernel_rfl) (by kernel_rfl) (by kernel_rfl) (by kernel_rfl)) ?_
  intro W base args ds gs before hval0 hW hcnd _
  have hval : ∀ (j : Nat) t v, Try.f6.params[j]? = some t → args[j]? = some v → Value.okWide Try.prog W .any base t v := hval0
  have hW' := hW
  obtain ⟨p, q, hA0, hV, rfl, hfz, hnd⟩ := hW
  have hA : DataW.TrodAll enc Try.prog W 0 (fun _ => true) true Try.f6.params.toList args.toList ds p := hA0
  rw [Try.params6] at hA hval
  obtain ⟨v0, vs0, d0, ds0, p0, q0, hargs, rfl, rfl, h0, r0⟩ := trodAll_cons hA
  obtain ⟨v1, vs1, d1, ds1, p1, q1, rfl, rfl, rfl, h1, r1⟩ := trodAll_cons r0
  obtain ⟨rfl, rfl, rfl⟩ := trodAll_nil r1
  obtain rfl : args = #[v0, v1] := by cases args; simp_all
  obtain ⟨rfl, rfl⟩ := trodVars_none hV
  have k0 := h0
  obtain ⟨q0, n0, c0, z0, rfl, w0⟩ := Args.open_ints Try.underlying22 Try.underlying5 (by kernel_rfl) (hval 0 22 v0 rfl rfl) h0
  obtain ⟨a1, rfl, rfl, rfl, w1⟩ := open_int Try.underlying33 (hval 1 33 v1 rfl rfl) h1
  clear hA0 hval0
  simp only [List.append_nil] at hW'
  try simp only [List.nil_append] at hW'
  have hlt : ∀ x, x ∈ (p0 : List MemPlace) → x.block < W.heap.size := fun x hx => by simpa using hW'.lt x hx
  refine (walk q0 n0 c0 z0 a1 W w0 w1).mono fun e W' ⟨he, hg⟩ => ?_
  subst he
  exact ⟨_, rfl, Ends.post_of_below (pv := []) hW' (fun _ _ _ => (trodAll_cons_mk (shut_bool Try.underlying4 _) trodAll_mk0)) (trodAll_cons_mk (Below.trod laidOut (by kernel_rfl) (of_decide_eq_true (by kernel_rfl)) k0 hg (fun x hx => hlt x (by simp [hx]))) (trodAll_cons_mk (shut_int Try.underlying33 w1) trodAll_mk0)) (fun _ _ => rfl) (by simp)
    (hg.frame _)⟩

theorem proved : Rows.MemHalvesSaid :=
  OpenClaim.holds_of_wide 6 Try.f6 rfl rfl rfl rfl rfl rfl rfl ⟨rfl, rfl, rfl, rfl, rfl⟩ rfl rfl rfl rfl rfl (by kernel_rfl) Try.func6 (by kernel_rfl)
    (of_decide_eq_true (by kernel_rfl)) (by unfold Func.isWrapper; first | (rw [if_pos (by decide +kernel)]; kernel_rfl) | (rw [if_neg (by decide +kernel)]; exact ⟨rfl, rfl⟩))
    (fun os started H enc _ => lifted os started H enc)
#print axioms proved
end Go.Proofs.Ytiidicldbcabaaa.memHalves
