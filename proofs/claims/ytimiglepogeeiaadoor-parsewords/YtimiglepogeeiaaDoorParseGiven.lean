/- What is given, what a function tells: package parse's given and result. Contracts. -/
import Derived.Test.YtimiglepogeeiaaDoorParseOps
set_option linter.unusedVariables false
set_option linter.unusedSimpArgs false
set_option maxRecDepth 100000
namespace Go.Proofs.YtimiglepogeeiaaDoor.Parse
open Go.RowKit Go.Proofs.YtimiglepogeeiaaDoor.Lex

section
variable {b g c : Nat} {L : List T}

set_option maxHeartbeats 8000000 in
theorem given_any (d : Int) (q : R → R × Tr) (hl : NC b g c L 91 d q) (w : World) (r : R) (h : Rd w b g c L r) :
    Calls Tryd.prog 90 #[.pointer (some ⟨b, 0, none⟩), .int .i64 d] w (LR b g c L w ((givF q L r).1, [(givF q L r).2])) := by
  have hn := need_any h [61] (by decide)
  unfold givF
  go_enter Tryd.func90, Tryd.ntmps90
  go_wp2_with fail
  refine hn.mono ?_
  rintro e w1 ⟨rfl, hR1, hB1⟩
  have he := hl w1 _ hR1
  clear hn h hl
  go_wp2_with fail
  refine he.mono ?_
  intro e w2 hN
  obtain ⟨k, a, t, v, l, sp, sn, sc, hq, rfl, hR2, hB2, hT2⟩ := hN.parts
  have HR2 := hide (hR2.alloc (.cells #[.int .i64 k, .int .i64 a, .string (S t), .int .u32 v, .slice sp sn sc] 27))
  have HB2 := hide ((hB1.trans hB2).alloc (.cells #[.int .i64 k, .int .i64 a, .string (S t), .int .u32 v, .slice sp sn sc] 27))
  have HK := hide (KL.one (w0 := w) hB1.size hB2.size hT2)
  have HQ := hide hq
  clear he hN hR2 hB2 hT2 hR1 hq
  go_wp2_with fail
  go_ret
  refine ⟨_, rfl, HR2.out, HB2.out, ?_⟩
  rw [HQ.out]
  exact HK.out

set_option maxHeartbeats 8000000 in
theorem result_any (w : World) (r : R) (h : Rd w b g c L r) :
    Calls Tryd.prog 61 #[.pointer (some ⟨b, 0, none⟩)] w fun e w' => e = .returned (.int .u32 (resF L r).2) ∧ Rd w' b g c L (resF L r).1 ∧ But b w w' := by
  have ht := take_any h [45, 62] (by decide)
  unfold take at ht
  unfold resF
  cases hf : fol L [45, 62] r with
  | false =>
    rw [hf, if_neg (by simp)] at ht
    rw [if_neg (by simp)]
    go_enter Tryd.func61, Tryd.ntmps61
    go_wp2_with fail
    refine ht.mono ?_
    rintro e w1 ⟨rfl, hR1, hB1⟩
    go_wp2_with fail
    go_ret
    exact ⟨rfl, hR1, hB1⟩
  | true =>
    rw [hf, if_pos rfl] at ht
    rw [if_pos rfl]
    cases hg : fol L [117, 51, 50] (adv r) with
    | true =>
      rw [if_pos rfl]
      go_enter Tryd.func61, Tryd.ntmps61
      go_wp2_with fail
      refine ht.mono ?_
      rintro e w1 ⟨rfl, hR1, hB1⟩
      have hu := take_any hR1 [117, 51, 50] (by decide)
      unfold take at hu
      rw [hg, if_pos rfl] at hu
      clear ht
      go_wp2_with fail
      refine hu.mono ?_
      rintro e w2 ⟨rfl, hR2, hB2⟩
      go_wp2_with fail
      go_ret
      exact ⟨rfl, hR2, hB1.trans hB2⟩
    | false =>
      rw [if_neg (by simp)]
      go_enter Tryd.func61, Tryd.ntmps61
      go_wp2_with fail
      refine ht.mono ?_
      rintro e w1 ⟨rfl, hR1, hB1⟩
      have hu := take_any hR1 [117, 51, 50] (by decide)
      unfold take at hu
      rw [hg, if_neg (by simp)] at hu
      clear ht
      go_wp2_with fail
      refine hu.mono ?_
      rintro e w2 ⟨rfl, hR2, hB2⟩
      have hn := need_any hR2 [117, 54, 52] (by decide)
      clear hu
      go_wp2_with fail
      refine hn.mono ?_
      rintro e w3 ⟨rfl, hR3, hB3⟩
      go_wp2_with fail
      go_ret
      exact ⟨rfl, hR3, (hB1.trans hB2).trans hB3⟩

end
end Go.Proofs.YtimiglepogeeiaaDoor.Parse

