/- A reader's steps: what it needs, what follows, names, numbers, nodes: contracts. -/
import Derived.Test.YtimiglepogeeiaaDoorParseStep
set_option linter.unusedVariables false
set_option linter.unusedSimpArgs false
set_option maxRecDepth 100000
namespace Go.Proofs.YtimiglepogeeiaaDoor.Parse
open Go.RowKit Go.Proofs.YtimiglepogeeiaaDoor.Lex

theorem eq_text (a x : List UInt8) : ((S a).toList == (S x).toList) = decide (a = x) := by
  rw [Lib.toList_data, Lib.toList_data, Bool.eq_iff_iff]
  simp [S]

theorem fk0 (k a v : Int) (t : ByteArray) (w : World) : (Instr.field 53 (.agg #[.int .i64 k, .int .i64 a, .string t, .int .u32 v]) 0).run Tryd.prog w = .ok (.int .i64 k) w := by kernel_rfl
theorem fk1 (k a v : Int) (t : ByteArray) (w : World) : (Instr.field 53 (.agg #[.int .i64 k, .int .i64 a, .string t, .int .u32 v]) 1).run Tryd.prog w = .ok (.int .i64 a) w := by kernel_rfl
theorem fk2 (k a v : Int) (t : ByteArray) (w : World) : (Instr.field 53 (.agg #[.int .i64 k, .int .i64 a, .string t, .int .u32 v]) 2).run Tryd.prog w = .ok (.string t) w := by kernel_rfl
theorem fk3 (k a v : Int) (t : ByteArray) (w : World) : (Instr.field 53 (.agg #[.int .i64 k, .int .i64 a, .string t, .int .u32 v]) 3).run Tryd.prog w = .ok (.int .u32 v) w := by kernel_rfl

section
variable {w : World} {b g c : Nat} {L : List T} {r : R}

set_option maxHeartbeats 4000000 in
theorem need_any (h : Rd w b g c L r) (x : List UInt8) (hx : x ≠ []) :
    Calls Tryd.prog 57 #[.pointer (some ⟨b, 0, none⟩), .string (S x)] w fun e w' => e = .returned (.tuple #[]) ∧ Rd w' b g c L (need L x r) ∧ But b w w' := by
  have hn := next_any h
  have hm : ∀ w1, Below w.heap.size w w1 → _ := fun w1 hb => must_any (h.kept hb) (decide ((tk L r).t = x)) (fun e => .inr (by rw [of_decide_eq_true e]; exact hx))
  have heq := eq_text (tk L r).t x
  unfold need
  generalize must (decide ((tk L r).t = x)) r = r' at hm ⊢
  generalize hf : decide ((tk L r).t = x) = f at hm heq
  clear hf
  generalize tk L r = t at hn hm heq
  obtain ⟨tk, ta, tt, tv⟩ := t
  simp only [tA] at hn hm heq
  have f2 := fk2 tk ta tv (S tt)
  go_enter Tryd.func57, Tryd.ntmps57
  go_wp2_with (first | (go_at_call 20; refine hn.mono ?_; rintro e w1 ⟨rfl, hb1⟩; have HM := hm w1 hb1) | (go_at_call 78; refine HM.mono ?_; rintro e w2 ⟨rfl, hR, hB⟩))
  go_end0
  exact ⟨rfl, hR, (But.of_below hb1).trans hB⟩

set_option maxHeartbeats 4000000 in
theorem follows_any (h : Rd w b g c L r) (x : List UInt8) :
    Calls Tryd.prog 77 #[.pointer (some ⟨b, 0, none⟩), .string (S x)] w fun e w' => e = .returned (.bool (fol L x r)) ∧ Rd w' b g c L r ∧ Below w.heap.size w w' := by
  have hn := next_any h
  have heq := eq_text (tk L r).t x
  have h2 := h.c2
  unfold fol
  by_cases he : r.e = 0
  · rw [show decide (r.e = 0 ∧ (tk L r).t = x) = decide ((tk L r).t = x) by simp [he]]
    generalize hf : decide ((tk L r).t = x) = f at heq ⊢
    clear hf
    generalize tk L r = t at hn heq
    obtain ⟨tk, ta, tt, tv⟩ := t
    simp only [tA] at hn heq
    have f2 := fk2 tk ta tv (S tt)
    rw [he] at h2
    go_enter Tryd.func77, Tryd.ntmps77
    go_wp2_with (go_at_call 20; refine hn.mono ?_; rintro e w1 ⟨rfl, hb1⟩)
    go_ret
    exact ⟨rfl, h.kept hb1, hb1⟩
  · rw [show decide (r.e = 0 ∧ (tk L r).t = x) = false by simp [he]]
    go_enter Tryd.func77, Tryd.ntmps77
    go_wp2_with fail
    go_ret
    exact ⟨rfl, h, Below.refl _ _⟩

theorem need_fol {x : List UInt8} (h : fol L x r = true) : need L x r = adv r := by
  unfold need must
  rw [if_pos (fol_e h), decide_eq_true (fol_t h)]
  rfl

set_option maxHeartbeats 4000000 in
theorem take_any (h : Rd w b g c L r) (x : List UInt8) (hx : x ≠ []) :
    Calls Tryd.prog 56 #[.pointer (some ⟨b, 0, none⟩), .string (S x)] w fun e w' => e = .returned (.bool (fol L x r)) ∧ Rd w' b g c L (take L x r) ∧ But b w w' := by
  have hn := follows_any h x
  unfold take
  cases hf : fol L x r with
  | false =>
    rw [hf] at hn
    go_enter Tryd.func56, Tryd.ntmps56
    go_wp2_with (go_at_call 77; refine hn.mono ?_; rintro e w1 ⟨rfl, hR, hb1⟩)
    go_ret
    exact ⟨rfl, hR, But.of_below hb1⟩
  | true =>
    rw [hf] at hn
    have hq := need_fol hf
    go_enter Tryd.func56, Tryd.ntmps56
    go_wp2_with fail
    refine hn.mono ?_
    rintro e w1 ⟨rfl, hR, hb1⟩
    have hm := need_any hR x hx
    rw [hq] at hm
    have HR := hide hR
    clear hR hn h
    go_wp2_with fail
    refine hm.mono ?_
    rintro e w2 ⟨rfl, hR2, hB⟩
    go_wp2_with fail
    go_ret
    exact ⟨rfl, hR2, (But.of_below hb1).trans hB⟩

set_option maxHeartbeats 4000000 in
theorem number_any (h : Rd w b g c L r) :
    Calls Tryd.prog 89 #[.pointer (some ⟨b, 0, none⟩)] w fun e w' => e = .returned (.int .u32 (tk L r).v) ∧ Rd w' b g c L (numb L r) ∧ But b w w' := by
  have hn := next_any h
  have hm : ∀ w1, Below w.heap.size w w1 → _ := fun w1 hb => must_any (h.kept hb) (decide ((tk L r).k = 2)) (fun e => .inl (by rw [of_decide_eq_true e]; decide))
  unfold numb
  generalize must (decide ((tk L r).k = 2)) r = r' at hm ⊢
  have heq : ((tk L r).k == 2) = decide ((tk L r).k = 2) := rfl
  generalize decide ((tk L r).k = 2) = f at hm heq
  generalize tk L r = t at hn hm heq ⊢
  obtain ⟨tk, ta, tt, tv⟩ := t
  simp only [tA] at hn hm heq
  have f0 := fk0 tk ta tv (S tt)
  have f3 := fk3 tk ta tv (S tt)
  go_enter Tryd.func89, Tryd.ntmps89
  go_wp2_with (first | (go_at_call 20; refine hn.mono ?_; rintro e w1 ⟨rfl, hb1⟩; have HM := hm w1 hb1) | (go_at_call 78; refine HM.mono ?_; rintro e w2 ⟨rfl, hR, hB⟩))
  go_ret
  exact ⟨rfl, hR, (But.of_below hb1).trans hB⟩

set_option maxHeartbeats 4000000 in
theorem within_any (h : Rd w b g c L r) (d : Int) :
    Calls Tryd.prog 118 #[.pointer (some ⟨b, 0, none⟩), .int .i64 d] w fun e w' => e = .returned (.tuple #[]) ∧ Rd w' b g c L (deep d r) ∧ But b w w' := by
  have hr := refuse_any h 111
  unfold deep
  by_cases hd : d > 64
  · rw [if_pos hd]
    go_enter Tryd.func118, Tryd.ntmps118
    go_wp2_with (go_at_call 55; refine hr.mono ?_; rintro e w1 ⟨rfl, hR, hB⟩)
    go_end0
    exact ⟨rfl, hR, hB⟩
  · rw [if_neg hd]
    go_enter Tryd.func118, Tryd.ntmps118
    go_wp2_with fail
    go_end0
    exact ⟨rfl, h, But.refl b w⟩

end
end Go.Proofs.YtimiglepogeeiaaDoor.Parse

