/- What stands behind a name: package parse's called. A contract. -/
import Derived.Test.YtimiglepogeeiaaDoorParseIndex
set_option linter.unusedVariables false
set_option linter.unusedSimpArgs false
set_option maxRecDepth 100000
namespace Go.Proofs.YtimiglepogeeiaaDoor.Parse
open Go.RowKit Go.Proofs.YtimiglepogeeiaaDoor.Lex

section
variable {b g c : Nat} {L : List T}

/-- What called tells. -/
def CR (b g c : Nat) (L : List T) (w : World) (q : R × Int × List Tr) (e : Ending) (w' : World) : Prop := ∃ s, e = .returned (.tuple #[.int .i64 q.2.1, s]) ∧ Rd w' b g c L q.1 ∧ But b w w' ∧ KL w w' q.2.2 s

set_option maxHeartbeats 8000000 in
theorem called_any (d : Int) (h1 : 0 ≤ d) (h7 : d ≤ 1000) (q : R → R × Tr) (hmv : ∀ r, Mv r (q r).1) (w : World) (r : R) (hl : r.e = 0 → NC b g c L 91 (d + 1) q) (h : Rd w b g c L r) :
    Calls Tryd.prog 119 #[.pointer (some ⟨b, 0, none⟩), .int .i64 d] w (CR b g c L w (callF q L r)) := by
  have hbz := h.ltb
  have ht := take_any h [91] (by decide)
  unfold callF
  cases hf : fol L [91] r with
  | true =>
    rw [if_pos rfl]
    unfold take at ht
    rw [hf, if_pos rfl] at ht
    go_enter Tryd.func119, Tryd.ntmps119
    go_wp2_with fail
    refine ht.mono ?_
    rintro e w1 ⟨rfl, hR1, hB1⟩
    have hi := index_any d h1 h7 q (hl (fol_e hf)) w1 (adv r) hR1
    clear ht h hl
    go_wp2_with fail
    refine hi.mono ?_
    intro e w2 hn
    obtain ⟨k, a, t, v, l, sp, sn, sc, hq, rfl, hR2, hB2, hT2⟩ := hn.parts
    have HQ := hide hq
    have HR2 := hide (hR2.alloc (.cells #[.int .i64 k, .int .i64 a, .string (S t), .int .u32 v, .slice sp sn sc] 27))
    have HB2 := hide ((hB1.trans hB2).alloc (.cells #[.int .i64 k, .int .i64 a, .string (S t), .int .u32 v, .slice sp sn sc] 27))
    have HK := hide (KL.one (w0 := w) hB1.size hB2.size hT2)
    clear hi hn hR2 hB2 hT2 hR1 hq
    go_wp2_with fail
    go_ret2
    refine ⟨_, rfl, HR2.out, HB2.out, ?_⟩
    rw [HQ.out]
    exact HK.out
  | false =>
    rw [if_neg (by simp)]
    unfold take at ht
    rw [hf, if_neg (by simp)] at ht
    cases hg : fol L [40] r with
    | true =>
      rw [if_pos rfl]
      go_enter Tryd.func119, Tryd.ntmps119
      go_wp2_with fail
      refine ht.mono ?_
      rintro e w1 ⟨rfl, hR1, hB1⟩
      have hi := follows_any hR1 [40]
      rw [hg] at hi
      clear ht h
      go_wp2_with fail
      refine hi.mono ?_
      rintro e w2 ⟨rfl, hR2, hb2⟩
      have ha := arguments_any d h1 h7 q hmv (hl (fol_e hg)) w2 r hR2
      have HB2 := hide (hB1.trans (But.of_below hb2))
      clear hi hR1 hR2 hB1 hb2 hl
      go_wp2_with fail
      refine ha.mono ?_
      rintro e w3 ⟨s, rfl, hR3, hB3, hK3⟩
      clear ha
      go_wp2_with fail
      go_ret2
      exact ⟨_, rfl, hR3, HB2.out.trans hB3, hK3.from HB2.out.size⟩
    | false =>
      rw [if_neg (by simp)]
      go_enter Tryd.func119, Tryd.ntmps119
      go_wp2_with fail
      refine ht.mono ?_
      rintro e w1 ⟨rfl, hR1, hB1⟩
      have hi := follows_any hR1 [40]
      rw [hg] at hi
      clear ht h
      go_wp2_with fail
      refine hi.mono ?_
      rintro e w2 ⟨rfl, hR2, hb2⟩
      go_wp2_with fail
      go_ret2
      exact ⟨_, rfl, hR2, hB1.trans (But.of_below hb2), KL.nil _ _⟩

end
end Go.Proofs.YtimiglepogeeiaaDoor.Parse

