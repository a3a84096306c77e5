/- For every address and lengths the statement ClockRuns returns true: along halves that follow one another a buffer misses once for each line that is begun.
Conditions: none. -/
import Derived.Test.YthbleghkkhhcbaaRows
import Derived.WalkKit
import Derived.ProofKit
import Derived.OpenShut
import Derived.Test.YthbleghkkhhcbaaEnds
import Derived.Test.YthbleghkkhhcbaaClockWalks
import Derived.Test.YthbleghkkhhcbaaArgs
namespace Go.Proofs.Ythbleghkkhhcbaa.clockRuns
open Go.ChangeShapes Go.WideShapes Go.ChangeAt Go.RowKit
set_option linter.unusedVariables false

theorem own : ownKnob Try.prog.godebug = none := by kernel_rfl
theorem laidOut : laidOutB Try.prog = true := by kernel_rfl
/-- What holds behind k instructions along the halves from A on. -/
def Run (A : Int) (k : Nat) (fl : Bool) (l S E : Int) : Prop :=
  (k = 0 ∧ fl = false ∧ S = 0 ∧ E = A) ∨ (0 < k ∧ fl = true ∧ l = (E - 2) / 16 ∧ S = (E - 2) / 16 - A / 16 + 1 ∧ A + 2 ≤ E ∧ E ≤ A + 4 * k ∧ E % 2 = 0)
theorem run_step {A : Int} {k : Nat} {fl : Bool} {l S E s : Int} (hA : A % 2 = 0) (hA0 : 0 ≤ A) (hA2 : A ≤ 1073741824) (hk : k < 200) (h : Run A k fl l S E) (hs : s = 2 ∨ s = 4) :
    Run A (k + 1) true (Clock.lst E s) (S + Clock.mss fl l E s) (E + s) := by
  right
  unfold Clock.lst Clock.mss Clock.ms
  rcases h with ⟨rfl, rfl, rfl, rfl⟩ | ⟨h0, rfl, rfl, rfl, h1, h2, h3⟩
  · rcases hs with rfl | rfl <;> simp <;> omega
  · rcases hs with rfl | rfl
    · simp only [true_and, show ¬ (2 : Int) = 4 by decide, if_false]
      split <;> omega
    · simp only [true_and, if_true]
      split <;> split <;> omega
theorem run_bd {A : Int} {k : Nat} {fl : Bool} {l S E : Int} (hA0 : 0 ≤ A) (hk : k ≤ 200) (hA2 : A ≤ 1073741824) (h : Run A k fl l S E) : 0 ≤ S ∧ S ≤ 70000000 ∧ A ≤ E ∧ E ≤ A + 800 := by
  rcases h with ⟨rfl, rfl, rfl, rfl⟩ | ⟨h0, rfl, rfl, rfl, h1, h2, h3⟩ <;> omega
theorem put_box {w2 : World} {B : Nat} {u v p q : Value} {t : TypeId} {cs : Array Value} (h : B < w2.heap.size) (d0 : w2.cell? ⟨B, 0, none⟩ = some p) (d1 : w2.cell? ⟨B, 1, none⟩ = some q) (f0 : w2.frozen? ⟨B, 0, none⟩ = false) (f1 : w2.frozen? ⟨B, 1, none⟩ = false) :
    B < (((w2.setCell ⟨B, 0, none⟩ u).setCell ⟨B, 1, none⟩ v).alloc (.cells cs t)).heap.size ∧ (((w2.setCell ⟨B, 0, none⟩ u).setCell ⟨B, 1, none⟩ v).alloc (.cells cs t)).cell? ⟨B, 0, none⟩ = some u ∧ (((w2.setCell ⟨B, 0, none⟩ u).setCell ⟨B, 1, none⟩ v).alloc (.cells cs t)).cell? ⟨B, 1, none⟩ = some v ∧
      (((w2.setCell ⟨B, 0, none⟩ u).setCell ⟨B, 1, none⟩ v).alloc (.cells cs t)).frozen? ⟨B, 0, none⟩ = false ∧ (((w2.setCell ⟨B, 0, none⟩ u).setCell ⟨B, 1, none⟩ v).alloc (.cells cs t)).frozen? ⟨B, 1, none⟩ = false := by
  refine ⟨by simp; omega, by simp [go_sem, h, d0], by simp [go_sem, h, d1], by simp [go_sem, h, f0], by simp [go_sem, h, f1]⟩
theorem even_of (a : Int) (h : 0 ≤ a) (h2 : a < 4294967296) : bits .andNot .u32 a 1 = a - a % 2 := by
  rw [u32_andNot a 1 h h2 (by decide) (by decide), show (4294967295 - (1 : Int).toNat) = 4294967294 from rfl]
  have e : a.toNat &&& 4294967294 = a.toNat / 2 * 2 := by
    apply Nat.eq_of_testBit_eq
    intro i
    rw [Nat.testBit_and]
    rcases i with _ | i
    · simp
    · rw [Nat.testBit_succ, Nat.testBit_succ, Nat.testBit_succ, show a.toNat / 2 * 2 / 2 = a.toNat / 2 by omega, show (4294967294 : Nat) / 2 = 2 ^ 31 - 1 by decide, Nat.testBit_two_pow_sub_one]
      by_cases hi : i < 31
      · simp [hi]
      · have : (a.toNat / 2).testBit i = false := Nat.testBit_lt_two_pow (Nat.lt_of_lt_of_le (show a.toNat / 2 < 2 ^ 31 by omega) (Nat.pow_le_pow_right (by decide) (by omega)))
        rw [this]; simp
  omega

set_option maxHeartbeats 1000000 in
theorem walk (a0 : Int) (q1 : Option Addr) (n1 c1 : Nat) (z1 : Nat → Bool) (w : World) (w0 : (Lit.int .u32 a0).wf = true) (w1 : Args.Bools w  q1 n1 c1 z1) :
    Calls Try.prog 5 #[.int .u32 a0, .slice q1 n1 c1] w fun e w' => e = .returned (.bool true) ∧ Below w.heap.size w w' := by
  obtain ⟨x1, x2⟩ := bounds_u32 w0
  by_cases hn : 200 < n1
  · go_enter Try.func5, Try.ntmps5
    go_wp2_with fail
    refine (Clock.anchor_any _).mono ?_
    rintro e v1 ⟨rfl, hb1⟩
    go_wp2_with fail
    go_ret
    exact ⟨rfl, hb1⟩
  by_cases ha : 1073741824 < a0
  · go_enter Try.func5, Try.ntmps5
    go_wp2_with fail
    refine (Clock.anchor_any _).mono ?_
    rintro e v1 ⟨rfl, hb1⟩
    go_wp2_with fail
    go_ret
    exact ⟨rfl, hb1⟩
  go_enter Try.func5, Try.ntmps5
  go_wp2_with fail
  refine (Clock.anchor_any _).mono ?_
  rintro e v1 ⟨rfl, hb1⟩
  go_wp2_with fail
  have hev := even_of a0 x1 (by omega)
  rw [hev]
  clear hev
  generalize hA : a0 - a0 % 2 = A
  have hA0 : 0 ≤ A ∧ A ≤ 1073741824 ∧ A % 2 = 0 := by omega
  have HA := Alu.hide hA0.2.2
  have hA1 : 0 ≤ A ∧ A ≤ 1073741824 := ⟨hA0.1, hA0.2.1⟩
  clear hA0 hA
  have hbw := hb1.alloc hb1.size (.cells #[.bool false, .int .u32 0] 25)
  go_loopw [6, 7, 28] (fun S E i wr => ∃ (k : Nat) (s e l : Int) (fl : Bool), k ≤ n1 ∧ S = .int .i64 s ∧ E = .int .u32 e ∧ i = .int .i64 k ∧ Below w.heap.size w wr ∧ v1.heap.size < wr.heap.size ∧ wr.cell? ⟨v1.heap.size, 0, none⟩ = some (.bool fl) ∧ wr.cell? ⟨v1.heap.size, 1, none⟩ = some (.int .u32 l) ∧ wr.frozen? ⟨v1.heap.size, 0, none⟩ = false ∧ wr.frozen? ⟨v1.heap.size, 1, none⟩ = false ∧ Hid (Run A k fl l s e)) (fun _ _ i _ => n1 - (intOf i).toNat)
  case atStart => exact ⟨0, 0, A, 0, false, by omega, rfl, rfl, rfl, hbw, by simp, by simp, by simp, by simp [go_sem], by simp [go_sem], .inl ⟨rfl, rfl, rfl, rfl⟩⟩
  case round =>
    obtain ⟨k, s, e, l, fl, hk, rfl, rfl, rfl, hb, hsz, g0, g1, f0, f1, HR⟩ := hrel
    have hbd := run_bd hA1.1 (by omega) hA1.2 HR.out
    by_cases hlt : k < n1
    · have hel : ∃ b off, q1 = some ⟨b, off, none⟩ ∧ b < w.heap.size ∧ w.cell? ⟨b, off + k, none⟩ = some (.bool (z1 k)) := by
        rcases w1.cells with h0 | ⟨b, off, h1, h2, h3⟩
        · have := w1.le; omega
        · exact ⟨b, off, h1, h2, h3 k (by have := w1.le; omega)⟩
      obtain ⟨b, off, rfl, hbl, hce⟩ := hel
      rw [← hb.cell (p := ⟨b, off + k, none⟩) hbl] at hce
      cases hz : z1 k
      · rw [hz] at hce
        have hst := run_step (s := 2) HA.out hA1.1 hA1.2 (by omega) HR.out (by decide)
        go_wp2_with fail
        refine (Clock.Fetch_2 _ _ _ (by omega) (by omega) _).mono ?_
        rintro e' w2 ⟨rfl, hb2⟩
        obtain ⟨hc, hfz⟩ := Clock.bcell hb2
        have d0 := (hc _ 0 hsz).trans g0
        have d1 := (hc _ 1 hsz).trans g1
        have d2 := (hfz _ 0 hsz).trans f0
        have d3 := (hfz _ 1 hsz).trans f1
        have hsz2 := Nat.lt_of_lt_of_le hsz hb2.size
        have hb3 := Clock.next hb hb2
        have HS := Alu.hide hst
        clear hst hc hfz g0 g1 f0 f1 hb2 hb hce HR
        have m1 := Clock.ms_bd fl l e
        go_wp2_with fail
        go_roundw
        case rel => obtain ⟨t0, t1, t2, t3, t4⟩ := put_box (u := .bool true) (v := .int .u32 (e / 16)) (t := 25) (cs := #[.bool true, .int .u32 (e / 16)]) hsz2 d0 d1 d2 d3; exact ⟨k + 1, _, _, _, true, by omega, rfl, rfl, by go_num, (Clock.set2 hb3 hb1.size).alloc (Clock.set2 hb3 hb1.size).size _, t0, t1, t2, t3, t4, HS.out⟩
        case measure => simp [intOf]; omega
      · rw [hz] at hce
        have hst := run_step (s := 4) HA.out hA1.1 hA1.2 (by omega) HR.out (by decide)
        go_wp2_with fail
        refine (Clock.Fetch_4 _ _ _ (by omega) (by omega) _).mono ?_
        rintro e' w2 ⟨rfl, hb2⟩
        obtain ⟨hc, hfz⟩ := Clock.bcell hb2
        have d0 := (hc _ 0 hsz).trans g0
        have d1 := (hc _ 1 hsz).trans g1
        have d2 := (hfz _ 0 hsz).trans f0
        have d3 := (hfz _ 1 hsz).trans f1
        have hsz2 := Nat.lt_of_lt_of_le hsz hb2.size
        have hb3 := Clock.next hb hb2
        have HS := Alu.hide hst
        clear hst hc hfz g0 g1 f0 f1 hb2 hb hce HR
        have m1 := Clock.ms_bd fl l e
        have m2 := Clock.ms_bd true (e / 16) ((e + 2) % 4294967296)
        go_wp2_with fail
        go_roundw
        case rel => obtain ⟨t0, t1, t2, t3, t4⟩ := put_box (u := .bool true) (v := .int .u32 ((e + 2) % 4294967296 / 16)) (t := 25) (cs := #[.bool true, .int .u32 ((e + 2) % 4294967296 / 16)]) hsz2 d0 d1 d2 d3; exact ⟨k + 1, _, _, _, true, by omega, rfl, rfl, by go_num, (Clock.set2 hb3 hb1.size).alloc (Clock.set2 hb3 hb1.size).size _, t0, t1, t2, t3, t4, HS.out⟩
        case measure => simp [intOf]; omega
    · have hk2 : k = n1 := by omega
      subst hk2
      rcases HR.out with ⟨rfl, rfl, rfl, rfl⟩ | ⟨h0, rfl, rfl, rfl, h1, h2, h3⟩
      · clear HR
        go_wp2_with fail
        go_ret
        exact ⟨rfl, hb⟩
      · clear HR
        have hk0 : ((k : Int) == 0) = false := by simp; omega
        go_wp2_with fail
        go_ret
        exact ⟨by simp, hb⟩

set_option maxRecDepth 100000 in
theorem lifted (os : Os) (started : os.Started) (H : Type) (enc : TypeId × Value → H) :
    ReturnsInHanded {} Try.checked os 5 .any (Rows.clockRunsSpec.pre6 enc Try.prog Try.f5 Rows.clockRunsRow.domain false) (Rows.clockRunsSpec.post enc Try.prog Try.f5 false true false false) := by
  refine returnsInHanded_of_change (C := Try.checked) own started (by kernel_rfl) Try.func5
    (ChangeSpec.witness6 (enc := enc) (C := Try.checked) false ⟨#[], #[.int .u32 0, .slice none 0 0], []⟩ 8 (by kernel_rfl) (by kernel_rfl) (by kernel_rfl) (by kernel_rfl)) ?_
  intro W base args ds gs before hval0 hW hcnd _
  have hval : ∀ (j : Nat) t v, Try.f5.params[j]? = some t → args[j]? = some v → Value.okWide Try.prog W .any base t v := hval0
  have hW' := hW
  obtain ⟨p, q, hA0, hV, rfl, hfz, hnd⟩ := hW
  have hA : DataW.TrodAll enc Try.prog W 0 (fun _ => true) true Try.f5.params.toList args.toList ds p := hA0
  rw [Try.params5] at hA hval
  obtain ⟨v0, vs0, d0, ds0, p0, q0, hargs, rfl, rfl, h0, r0⟩ := trodAll_cons hA
  obtain ⟨v1, vs1, d1, ds1, p1, q1, rfl, rfl, rfl, h1, r1⟩ := trodAll_cons r0
  obtain ⟨rfl, rfl, rfl⟩ := trodAll_nil r1
  obtain rfl : args = #[v0, v1] := by cases args; simp_all
  obtain ⟨rfl, rfl⟩ := trodVars_none hV
  obtain ⟨a0, rfl, rfl, rfl, w0⟩ := open_int Try.underlying22 (hval 0 22 v0 rfl rfl) h0
  have k1 := h1
  obtain ⟨q1, n1, c1, z1, rfl, w1⟩ := Args.open_bools Try.underlying34 Try.underlying4 (by kernel_rfl) (hval 1 34 v1 rfl rfl) h1
  clear hA0 hval0
  simp only [List.append_nil] at hW'
  try simp only [List.nil_append] at hW'
  have hlt : ∀ x, x ∈ (p1 : List MemPlace) → x.block < W.heap.size := fun x hx => by simpa using hW'.lt x hx
  refine (walk a0 q1 n1 c1 z1 W w0 w1).mono fun e W' ⟨he, hg⟩ => ?_
  subst he
  exact ⟨_, rfl, Ends.post_of_below (pv := []) hW' (fun _ _ _ => (trodAll_cons_mk (shut_bool Try.underlying4 _) trodAll_mk0)) (trodAll_cons_mk (shut_int Try.underlying22 w0) (trodAll_cons_mk (Below.trod laidOut (by kernel_rfl) (of_decide_eq_true (by kernel_rfl)) k1 hg (fun x hx => hlt x (by simp [hx]))) trodAll_mk0)) (fun _ _ => rfl) (by simp)
    (hg.frame _)⟩

theorem proved : Rows.ClockRunsSaid :=
  OpenClaim.holds_of_wide 5 Try.f5 rfl rfl rfl rfl rfl rfl rfl ⟨rfl, rfl, rfl, rfl, rfl⟩ rfl rfl rfl rfl rfl (by kernel_rfl) Try.func5 (by kernel_rfl)
    (of_decide_eq_true (by kernel_rfl)) (by unfold Func.isWrapper; first | (rw [if_pos (by decide +kernel)]; kernel_rfl) | (rw [if_neg (by decide +kernel)]; exact ⟨rfl, rfl⟩))
    (fun os started H enc _ => lifted os started H enc)
#print axioms proved
end Go.Proofs.Ythbleghkkhhcbaa.clockRuns
