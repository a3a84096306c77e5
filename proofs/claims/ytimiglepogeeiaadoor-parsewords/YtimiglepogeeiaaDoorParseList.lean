/- Lists in parentheses: a contract. -/
import Derived.Test.YtimiglepogeeiaaDoorParseKids
set_option linter.unusedVariables false
set_option linter.unusedSimpArgs false
set_option maxRecDepth 100000
namespace Go.Proofs.YtimiglepogeeiaaDoor.Parse
open Go.RowKit Go.Proofs.YtimiglepogeeiaaDoor.Lex

section
variable {w : World} {b g c : Nat} {L : List T} {r : R}

theorem moreF_succ (each : R → R × Tr) (L : List T) (m : Nat) (r : R) (l : List Tr) : moreF each L (m + 1) r l = if fol L [44] r then moreF each L m (each (adv r)).1 (l ++ [(each (adv r)).2]) else (r, l) := rfl

set_option maxHeartbeats 8000000 in
theorem list_any (f : Nat) (fi ca : Array Value) (each : R → R × Tr) (hcf : ∀ args w, (callFunc f args).run Tryd.prog w = .ok (.enter f args) w) (hE : Hid (∀ w' r, But b w w' → Rd w' b g c L r → Calls Tryd.prog f (fi ++ ca) w' (NR b g c L w' (each r)))) (hM : Hid (∀ r, Mv r (each r).1)) (h : Rd w b g c L r) :
    Calls Tryd.prog 59 #[.pointer (some ⟨b, 0, none⟩), .func (.func f) fi ca] w fun e w' => ∃ s, e = .returned s ∧ Rd w' b g c L (listF each L r).1 ∧ But b w w' ∧ KL w w' (listF each L r).2 s := by
  have hn := need_any h [40] (by decide)
  have hbz := h.ltb
  have hgz := h.row.lt
  obtain ⟨i0, hi0, hi1, hi2, hi3⟩ := info_parts info_node
  unfold listF
  generalize hr1 : need L [40] r = r1 at hn ⊢
  clear hr1 h
  by_cases hf : fol L [41] r1 = true
  · rw [if_pos hf]
    go_enter Tryd.func59, Tryd.ntmps59
    go_wp2_with fail
    refine hn.mono ?_
    rintro e w1 ⟨rfl, hR1, hB1⟩
    have ht := take_any hR1 [41] (by decide)
    unfold take at ht
    rw [hf, if_pos rfl] at ht
    clear hn hR1
    go_wp2_with fail
    refine ht.mono ?_
    rintro e w2 ⟨rfl, hR2, hB2⟩
    go_wp2_with fail
    go_ret
    exact ⟨_, rfl, hR2, hB1.trans hB2, KL.nil _ _⟩
  · rw [if_neg hf]
    have hff : fol L [41] r1 = false := by simpa using hf
    clear hf
    go_enter Tryd.func59, Tryd.ntmps59
    go_wp2_with fail
    refine hn.mono ?_
    rintro e w1 ⟨rfl, hR1, hB1⟩
    have ht := take_any hR1 [41] (by decide)
    unfold take at ht
    rw [hff, if_neg (by simp)] at ht
    clear hn hR1
    go_wp2_with fail
    refine ht.mono ?_
    rintro e w2 ⟨rfl, hR2, hB2⟩
    have hc := hE.out w2 r1 (hB1.trans hB2) hR2
    clear ht
    go_wp2_with fail
    refine hc.mono ?_
    rintro e w3 ⟨x, rfl, hR3, hB3, hT⟩
    clear hc hR2
    generalize hy : (each r1).2 = y at hT
    generalize hr3 : (each r1).1 = r3 at hR3
    have HX := hide hT
    obtain ⟨k, a, t, v, l⟩ := y
    obtain ⟨s, xs, rfl, _, _, _, _⟩ := hT.at
    unfold nC at HX
    have HB := hide ((hB1.trans hB2).trans hB3)
    have hz0 : w.heap.size ≤ w2.heap.size := (hB1.trans hB2).size
    have hz2 := hB3.size
    have HK := hide (KL.one (w0 := w) hz0 hz2 HX.out)
    have HR := hide (hR3.alloc (.cells #[.int .i64 k, .int .i64 a, .string (S t), .int .u32 v, s] 27))
    have HB2 := hide (HB.out.alloc (.cells #[.int .i64 k, .int .i64 a, .string (S t), .int .u32 v, s] 27))
    have HY := hide hy
    have HR3 := hide hr3
    clear hR3 hB3 hT hB1 hB2 HX HB hy hr3
    unfold nC
    go_wp2_with (refine wpList_kid1 rfl (.tmp 11) rfl k a v (S t) s rfl ?_)
    go_loopw [5] (fun sl wr => ∃ r' ls m, Rd wr b g c L r' ∧ But b w wr ∧ KL w wr ls sl ∧ ls.length ≤ r'.i + 1 ∧ L.length - r'.i < m ∧ moreF each L (L.length + 1) r3 [.mk k a t v l] = moreF each L m r' ls) (fun _ wr => mea b wr)
    case atStart => exact ⟨r3, [.mk k a t v l], L.length + 1, HR.out, HB2.out, HK.out, by simp, by omega, rfl⟩
    case round =>
      obtain ⟨r', ls, m, hR', hB', hK', hlen, hm, heq⟩ := hrel
      have hi := hR'.lt
      have hsz := hR'.sz
      match m, hm, heq with
      | m + 1, hm, heq =>
        have HEQ := hide (heq.trans (moreF_succ each L m r' ls))
        clear heq
        have ht := take_any hR' [44] (by decide)
        unfold take at ht
        have HB' := hide hB'
        have HR' := hide hR'
        have HK' := hide hK'
        clear hR' hB' hK'
        by_cases hf : fol L [44] r' = true
        · rw [hf, if_pos rfl] at ht
          go_wp2_with fail
          refine ht.mono ?_
          rintro e w4 ⟨rfl, hR4, hB4⟩
          have hc := hE.out w4 (adv r') (HB'.out.trans hB4) hR4
          have hmo := hM.out (adv r')
          have HK4 := hide (HK'.out.but hB4 hbz)
          clear ht
          go_wp2_with fail
          refine hc.mono ?_
          rintro e w5 ⟨x, rfl, hR5, hB5, hT⟩
          clear hc hR4
          rw [hf, if_pos rfl] at HEQ
          generalize hy : (each (adv r')).2 = y at hT HEQ
          generalize hr5 : (each (adv r')).1 = r5 at hR5 HEQ hmo
          have HX := hide hT
          obtain ⟨k5, a5, t5, v5, l5⟩ := y
          obtain ⟨s5, xs5, rfl, _, _, _, _⟩ := hT.at
          unfold nC at HX
          have hz4 : w.heap.size ≤ w4.heap.size := ((HB'.out.trans hB4)).size
          have HB5 := hide (((HB'.out.trans hB4).trans hB5).alloc (.cells #[.int .i64 k5, .int .i64 a5, .string (S t5), .int .u32 v5, s5] 27))
          have hsu := HK4.out.blk
          obtain ⟨xs, ho, hxl, hk⟩ := HK4.out.but hB5 hbz
          have HSU := hide hsu
          have HXL := hide hxl
          have HKK := hide hk
          have HO := hide (ho.alloc (.cells #[.int .i64 k5, .int .i64 a5, .string (S t5), .int .u32 v5, s5] 27))
          have HR5 := hide (hR5.alloc (.cells #[.int .i64 k5, .int .i64 a5, .string (S t5), .int .u32 v5, s5] 27))
          have HX1 : s5.oneCell' = true := rep_one HX.out
          have hl5 : ls.length ≤ 70001 := by omega
          have hz5 := HB5.out.size
          have hmi := hmo.i
          have HMO := hide hmo
          have hai : (adv r').i = r'.i + 1 := rfl
          clear hsu ho hxl hk hR5 hB5 hB4 hT hy hr5 HK4 hmo
          unfold nC
          have h1' := HO.out
          go_wp2_with (first
            | (refine wpList_kid1 rfl (.tmp 17) rfl k5 a5 v5 (S t5) s5 rfl ?_)
            | (at_builtin; refine wpList_append_own_at _ rfl (.tmp 15) (.tmp 18) 25 rfl w.heap.size 27 i0 (.agg zN) 5 64 Tryd.underlying25 hi0 hi1 hi2 hi3 rfl (by decide) _ ls.length (xs.map Array.toList).flatten rfl ?o1 ⟨_, 0, none⟩ 1 1 [.int .i64 k5, .int .i64 a5, .string (S t5), .int .u32 v5, s5] rfl rfl ?c1 ?c2 ?c3 ?c4 ?c5 ?_))
          case c1 =>
            intro j u hj
            match j, hj with
            | 0, hj => simp at hj; subst hj; simp [Addr.add]
            | 1, hj => simp at hj; subst hj; simp [Addr.add]
            | 2, hj => simp at hj; subst hj; simp [Addr.add]
            | 3, hj => simp at hj; subst hj; simp [Addr.add]
            | 4, hj => simp at hj; subst hj; simp [Addr.add]
          case c2 =>
            intro u hu
            simp at hu
            rcases hu with rfl | rfl | rfl | rfl | rfl
            · rfl
            · rfl
            · rfl
            · rfl
            · exact HX1
          case c3 => unfold maxLen; omega
          case c4 => omega
          case c5 => simp; simp at hz5; omega
          intro v' w6 hown' hgrow _ hat
          have HW6 := hide (KL.app hz4 (fun j hj => (HSU.out j hj).2) HX.out HXL.out HKK.out hown' hgrow hat)
          have hown2 : ∀ j, u5.ownBlock = some j → w.heap.size ≤ j := fun j hj => (HK'.out.blk j hj).1
          have HR6 := hide (HR5.out.grown hgrow (fun e => by have := hown2 b e.symm; omega) (fun e => by have := hown2 g e.symm; omega))
          have HB6 := hide (HB5.out.grown hgrow hown2)
          have hlt := mea_lt HR'.out HR6.out (fol_e hf) ((adv_mo hf).trans HMO.out)
          clear hown' hgrow hat h1'
          go_wp2_with fail
          exact ⟨⟨r5, ls ++ [.mk k5 a5 t5 v5 l5], m, HR6.out, HB6.out, HW6.out, by simp; omega, by omega, HEQ.out⟩, hlt⟩
        · rw [if_neg hf] at HEQ
          have hff2 : fol L [44] r' = false := by simpa using hf
          rw [hff2, if_neg (by simp)] at ht
          go_wp2_with fail
          refine ht.mono ?_
          rintro e w4 ⟨rfl, hR4, hB4⟩
          have hn2 := need_any hR4 [41] (by decide)
          have HK4 := hide (HK'.out.but hB4 hbz)
          have HB4 := hide (HB'.out.trans hB4)
          clear ht hR4 hB4
          go_wp2_with fail
          refine hn2.mono ?_
          rintro e w5 ⟨rfl, hR5, hB5⟩
          go_wp2_with fail
          go_ret
          rw [HR3.out, HY.out, HEQ.out]
          exact ⟨u5, rfl, hR5, HB4.out.trans hB5, HK4.out.but hB5 hbz⟩

end
end Go.Proofs.YtimiglepogeeiaaDoor.Parse

