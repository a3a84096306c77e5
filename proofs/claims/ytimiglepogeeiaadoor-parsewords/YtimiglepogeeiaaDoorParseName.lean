/- Words that are no names, levels of signs; names, sizes, nodes: contracts. -/
import Derived.Test.YtimiglepogeeiaaDoorParseMore
import Derived.Deep.Light
set_option linter.unusedVariables false
set_option linter.unusedSimpArgs false
set_option maxRecDepth 100000
namespace Go.Proofs.YtimiglepogeeiaaDoor.Parse
open Go.RowKit Go.Proofs.YtimiglepogeeiaaDoor.Lex

theorem eq_lit (a : List UInt8) (x : List UInt8) : ((S a).toList == (⟨x.toArray⟩ : ByteArray).toList) = decide (a = x) := eq_text a x

theorem toL (a : List UInt8) : (S a).toList = a := by rw [Lib.toList_data]; rfl

set_option maxHeartbeats 4000000 in
theorem Word_any (a : List UInt8) (w : World) : Calls Tryd.prog 16 #[.string (S a)] w fun e w' => e = .returned (.bool (isW a)) ∧ w' = w := by
  have hS := toL a
  go_enter Tryd.func16, Tryd.ntmps16
  go_wp2_with fail
  all_goals
    go_ret
    refine ⟨ret_b ?_, rfl⟩
    go_light
    simp_all [isW, words]
set_option maxHeartbeats 4000000 in
theorem levelOf_any (a : List UInt8) (w : World) : Calls Tryd.prog 110 #[.string (S a)] w fun e w' => e = .returned (.int .i64 (lvOf a)) ∧ w' = w := by
  have hS := toL a
  go_enter Tryd.func110, Tryd.ntmps110
  go_wp2_with fail
  all_goals
    go_ret
    refine ⟨ret_i ?_, rfl⟩
    go_light
    simp_all [lvOf]

section
variable {w : World} {b g c : Nat} {L : List T} {r : R}

set_option maxHeartbeats 4000000 in
theorem name_any (h : Rd w b g c L r) :
    Calls Tryd.prog 58 #[.pointer (some ⟨b, 0, none⟩)] w fun e w' => e = .returned (.string (S (tk L r).t)) ∧ Rd w' b g c L (name L r) ∧ But b w w' := by
  have hn := next_any h
  have HT := hide h.tok
  have HM : Hid (∀ w1 o, Below w.heap.size w w1 → _) := fun w1 o hb => must_any ((h.kept hb).alloc o) (decide ((tk L r).k = 1) && !isW (tk L r).t) (fun e => .inl (by simp at e; rw [e.1]; decide))
  unfold name
  generalize must (decide ((tk L r).k = 1) && !isW (tk L r).t) r = r' at HM ⊢
  have heq : ((tk L r).k == 1) = decide ((tk L r).k = 1) := rfl
  have hW := Word_any (tk L r).t
  generalize isW (tk L r).t = W at HM hW
  generalize tk L r = t at hn HM heq HT hW ⊢
  obtain ⟨tk, ta, tt, tv⟩ := t
  simp only [tA] at hn heq hW
  have f2 := fk2 tk ta tv (S tt)
  have hbz := h.ltb
  have HR := hide h
  clear h
  cases hk : decide (tk = 1) with
  | false =>
    rw [hk] at heq
    have HM2 : Hid _ := HM
    go_enter Tryd.func58, Tryd.ntmps58
    go_wp2_with fail
    refine hn.mono ?_
    rintro e w1 ⟨rfl, hb1⟩
    have hm := HM.out w1 (.cells #[.int .i64 tk, .int .i64 ta, .string (S tt), .int .u32 tv] 53) hb1
    simp only [hk, Bool.false_and, tA] at hm
    have HB := hide (hb1.alloc (by have := hb1.size; omega) (.cells #[.int .i64 tk, .int .i64 ta, .string (S tt), .int .u32 tv] 53))
    clear hb1 hn
    go_wp2_with fail
    refine hm.mono ?_
    rintro e w2 ⟨rfl, hR, hB⟩
    go_wp2_with fail
    go_ret
    exact ⟨rfl, hR, (But.of_below HB.out).trans hB⟩
  | true =>
    rw [hk] at heq
    go_enter Tryd.func58, Tryd.ntmps58
    go_wp2_with fail
    refine hn.mono ?_
    rintro e w1 ⟨rfl, hb1⟩
    have hm := HM.out w1 (.cells #[.int .i64 tk, .int .i64 ta, .string (S tt), .int .u32 tv] 53) hb1
    simp only [hk, Bool.true_and, tA] at hm
    have HB := hide (hb1.alloc (by have := hb1.size; omega) (.cells #[.int .i64 tk, .int .i64 ta, .string (S tt), .int .u32 tv] 53))
    clear hb1 hn
    go_wp2_with (go_at_call 16; refine (hW _).mono ?_; rintro e w9 ⟨rfl, h9⟩; rw [h9]; clear h9)
    refine hm.mono ?_
    rintro e w2 ⟨rfl, hR, hB⟩
    go_wp2_with fail
    go_ret
    exact ⟨rfl, hR, (But.of_below HB.out).trans hB⟩

end
end Go.Proofs.YtimiglepogeeiaaDoor.Parse

