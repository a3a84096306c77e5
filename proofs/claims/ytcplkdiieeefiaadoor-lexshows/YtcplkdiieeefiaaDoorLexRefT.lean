/- The document's Tokens: a contract. -/
import Derived.Test.YtcplkdiieeefiaaDoorLexToks
set_option linter.unusedVariables false
set_option linter.unusedSimpArgs false
namespace Go.Proofs.YtcplkdiieeefiaaDoor.Lex
open Go.RowKit

theorem refLetter_is (c : Int) (b : Bool) (h : letB c = b) (w : World) : Calls Tryd.prog 17 #[.int .u8 c] w fun e w' => e = .returned (.bool b) ∧ w' = w :=
  (refLetter_any c w).mono fun e w' hw => ⟨by rw [hw.1, h], hw.2⟩
theorem drop_ne {l : List UInt8} {a : Nat} (h : a < l.length) : l.drop a ≠ [] := fun e => by have := congrArg List.length e; simp at this; omega
theorem toks_bad_is {l : List UInt8} {a n : Nat} {v : Int} (h : a < l.length) (hg : gap false (l.drop a) = 0) (ht : tok (l.drop a) = ⟨0, n, v⟩) : toks (l.drop a) a = .error (n, a) := by
  rw [toks_at_bad l a h hg (by rw [ht]), ht]
theorem tok_pos {l : List UInt8} {a K N : Nat} {V : Int} (h : a < l.length) (ht : tok (l.drop a) = ⟨K + 1, N, V⟩) : 1 ≤ N ∧ a + N ≤ l.length := by
  have := tok_len _ (drop_ne h) (by rw [ht]; exact Nat.succ_ne_zero K)
  rw [ht, List.length_drop] at this
  exact ⟨this.1, by have := this.2; simp at this; omega⟩
theorem trel_next {l : List UInt8} {E : TypeId} {w w2 : World} {ts : List T} {a K N : Nat} {V : Int} {v' : Value} (hlt : a < l.length) (hg : gap false (l.drop a) = 0) (ht : tok (l.drop a) = ⟨K + 1, N, V⟩) (hts : ts.length ≤ a)
    (he : toks l 0 = pre ts (toks (l.drop a) a)) (hO : w2.ownsRow w.heap.size E 4 v' (ts.length + 1) (tsC ts ++ [.int .i64 (K + 1 : Nat), .int .i64 a, .string (S ((l.drop a).take N)), .int .u32 V])) (hB : Below w.heap.size w w2) :
    TRel l E w v' (.int .i64 ((a + N + gap false (l.drop (a + N)) : Nat) : Int)) w2 := by
  obtain ⟨h1, h2⟩ := tok_pos hlt ht
  have hgl := gap_le false (l.drop (a + N))
  rw [List.length_drop] at hgl
  have HT := toks_at_good l a hlt hg (by rw [ht]; exact Nat.succ_ne_zero K)
  have hm : mkT (l.drop a) a = ⟨(K + 1 : Nat), (a : Nat), (l.drop a).take N, V⟩ := by unfold mkT; rw [ht]
  rw [hm, ht] at HT
  refine ⟨ts ++ [⟨(K + 1 : Nat), (a : Nat), (l.drop a).take N, V⟩], a + N + gap false (l.drop (a + N)), by omega, ?_, rfl, by simp; omega, ?_, hB, ?_⟩
  · have := gap_idem false (l.drop (a + N)); rw [List.drop_drop] at this; exact this
  · rw [tsC_snoc, List.length_append]; exact hO
  · rw [he, HT, pre_pre]
theorem sgn_at {l : List UInt8} {a N : Nat} (h : a < l.length) (hl : l.length ≤ 65536) (hN : sgn (l.drop a) = N) (w : World) : Calls Tryd.prog 20 #[.string (S l), .int .i64 a] w fun e w' => e = .returned (.int .i64 (N : Int)) ∧ Below w.heap.size w w' := by
  have := signLen_any (S l) a h w (by rw [S_size]; omega)
  rw [B_S, hN] at this
  exact this
theorem blanks_at {l : List UInt8} (hl : l.length ≤ 65536) {a N : Nat} (h : a + N ≤ l.length) (w : World) : Calls Tryd.prog 16 #[.string (S l), .int .i64 ((a : Int) + (N : Int))] w fun e w' => e = .returned (.int .i64 ((a + N + gap false (l.drop (a + N)) : Nat) : Int)) ∧ w' = w := by
  have := blanks_any (S l) (a + N) (by rw [S_size]; exact h) w (by rw [S_size]; unfold maxLen; omega)
  rw [Int.natCast_add a N, B_S] at this
  exact this

set_option maxRecDepth 100000 in
set_option maxHeartbeats 8000000 in
theorem refTokens_any (l : List UInt8) (p : Option Addr) (n cap : Nat) (w : World) (hp : Src w p n l) (hn : n ≤ maxLen) : Calls Tryd.prog 10 #[.slice p n cap] w fun e w' => Told 34 w.heap.size (lexed l) e w' ∧ Below w.heap.size w w' := by
  unfold maxLen at hn
  obtain rfl := hp.len
  by_cases hbig : 65536 < l.length
  · have hx : lexed l = .error (161, 0) := by unfold lexed; rw [if_pos (by omega)]
    rw [hx]
    go_enter Tryd.func10, Tryd.ntmps10
    go_wp2_with fail
    go_ret3
    exact ⟨rfl, Below.refl _ _⟩
  · have hx : lexed l = toks l 0 := by unfold lexed; rw [if_neg (by omega)]
    rw [hx]
    obtain ⟨i0, hi, hz0, hz1, hz2⟩ := info_parts infoRefT
    have hcv := conv_src cap hp
    have hg0 := gap_le false l
    have hpt := blanks_any (S l) 0 (Nat.zero_le _) w (by rw [S_size]; unfold maxLen; omega)
    rw [B_S, List.drop_zero, Nat.zero_add] at hpt
    go_enter Tryd.func10, Tryd.ntmps10
    go_wp2_with (go_at_call 16; refine hpt.mono ?_; rintro e w1 ⟨rfl, hw1⟩; rw [hw1]; clear hw1)
    go_loopw [6, 7] (fun v i wr => TRel l 34 w v i wr) (fun _ i _ => l.length - (intOf i).toNat)
    case atStart => exact ⟨[], gap false l, hg0, gap_idem false l, rfl, Nat.zero_le _, World.ownsRow_nil _ _ _ _, Below.refl _ _, by rw [pre_nil]; have := toks_gap l 0; rw [Nat.zero_add] at this; exact this⟩
    case round =>
      obtain ⟨ts, a, ha, hg, rfl, hts, hown, hb, he⟩ := hrel
      have HB := hide hb
      have HO := hide hown
      have HE := hide he
      have HGa := hide hg
      have hZ : (S l).size = l.length := rfl
      by_cases hlt : a < l.length
      · have hin := fun i (h : i < run worB (l.drop a)) => run_in worB (l.drop a) i h
        have hout := run_out worB (l.drop a)
        have hrl := run_le worB (l.drop a)
        rw [List.length_drop] at hout hrl
        simp only [byt_drop] at hin hout
        have hne : l.drop a ≠ [] := fun e => by have := congrArg List.length e; simp at this; omega
        have htl := fun h => tok_let (l.drop a) h
        have htd := fun h h1 => tok_dig (l.drop a) h h1
        have hts' := fun h h1 => tok_sgn (l.drop a) h h1
        simp only [byt_drop, Nat.add_zero] at htl htd hts'
        have HL := hide htl
        have HD := hide htd
        have HS := hide hts'
        clear hown he hb hg htl htd hts'
        generalize hR : run worB (l.drop a) = R at *
        go_wp2_with fail
        go_loop [8] (fun i => ∃ b : Nat, a ≤ b ∧ b ≤ a + R ∧ i = .int .i64 b) (fun i => l.length - (intOf i).toNat)
        case atStart => exact ⟨a, Nat.le_refl _, by omega, rfl⟩
        case round =>
          obtain ⟨b, q1, q2, rfl⟩ := hrel
          by_cases hb : b < a + R
          · have hbl : b < (S l).size := by omega
            have hbb := get_B (S l) b hbl
            rw [B_S] at hbb
            have hw := hin (b - a) (by omega)
            rw [show a + (b - a) = b by omega] at hw
            cases hlb : letB (byt l b)
            · have hdb : digB (byt l b) = true := by rw [worB, hlb, Bool.false_or] at hw; exact hw
              go_wp2_with (first | (go_at_call 17; refine (refLetter_is _ _ hlb _).mono ?_; rintro e w' ⟨rfl, hw'⟩; rw [hw']; clear hw') | (go_at_call 18; refine (refDigit_is _ _ hdb _).mono ?_; rintro e w' ⟨rfl, hw'⟩; rw [hw']; clear hw'))
              exact ⟨⟨b + 1, by omega, by omega, by go_num⟩, by simp [intOf]; omega⟩
            · go_wp2_with (go_at_call 17; refine (refLetter_is _ _ hlb _).mono ?_; rintro e w' ⟨rfl, hw'⟩; rw [hw']; clear hw')
              exact ⟨⟨b + 1, by omega, by omega, by go_num⟩, by simp [intOf]; omega⟩
          · obtain rfl : b = a + R := by omega
            have hcase : (a + R < l.length ∧ letB (byt l (a + R)) = false ∧ digB (byt l (a + R)) = false) ∨ l.length ≤ a + R := by
              by_cases hle : a + R < l.length
              · have hw := hout (by omega)
                have hlb : letB (byt l (a + R)) = false := by rw [worB] at hw; cases h : letB (byt l (a + R)); rfl; rw [h] at hw; cases hw
                exact .inl ⟨hle, hlb, by rw [worB, hlb, Bool.false_or] at hw; exact hw⟩
              · exact .inr (by omega)
            have hba := get_B (S l) a (by omega)
            rw [B_S] at hba
            have hj1 : (a : Int) + R ≤ l.length := by omega
            have hj2 : (a : Int) ≤ (a : Int) + R := by omega
            have hj0 : (0 : Int) ≤ (a : Int) := by omega
            have hex : (S l).extract a (a + R) = S ((l.drop a).take R) := by rw [ext_S, B_S, show a + R - a = R by omega]
            have hxl : ((l.drop a).take R).length = R := by rw [List.length_take, List.length_drop]; omega
            generalize hX : (l.drop a).take R = X at *
            have hXz : (S X).size = R := hxl
            rcases hcase with ⟨hle, hlb, hdb⟩ | hge
            all_goals
              try have hbb := get_B (S l) (a + R) (by omega)
              try rw [B_S] at hbb
              cases hla : letB (byt l a)
              · cases hda : digB (byt l a)
                · have htok := HS.out hla hda
                  by_cases hsg : sgn (l.drop a) = 0
                  · rw [if_pos hsg] at htok
                    go_wp2_with (first | (go_at_call 17; refine (refLetter_is _ _ (by assumption) _).mono ?_; rintro e w' ⟨rfl, hw'⟩; rw [hw']; clear hw') | (go_at_call 18; refine (refDigit_is _ _ (by assumption) _).mono ?_; rintro e w' ⟨rfl, hw'⟩; rw [hw']; clear hw') | (go_at_call 20; refine (sgn_at hlt (by omega) hsg _).mono ?_; rintro e w1 ⟨rfl, hb1⟩; have HB1 := hide hb1; clear hb1))
                    go_ret3
                    refine ⟨?_, HB.out.trans (HB1.out.mono HB.out.size)⟩
                    rw [HE.out, toks_bad_is hlt HGa.out htok]
                    rfl
                  · rw [if_neg hsg] at htok
                    generalize hN : sgn (l.drop a) = N at *
                    obtain ⟨hq1, hq2⟩ := tok_pos hlt htok
                    have hk1 : (a : Int) + N ≤ l.length := by omega
                    have hk2 : (a : Int) ≤ (a : Int) + N := by omega
                    have hey : (S l).extract a (a + N) = S ((l.drop a).take N) := by rw [ext_S, B_S, show a + N - a = N by omega]
                    generalize hY : (l.drop a).take N = Y at *
                    have hnq : (((a : Int) + N) == (a : Int)) = false := by rw [beq_eq_false_iff_ne]; omega
                    have hsg := hN
                    go_wp2_with (first | (go_at_call 17; refine (refLetter_is _ _ (by assumption) _).mono ?_; rintro e w' ⟨rfl, hw'⟩; rw [hw']; clear hw') | (go_at_call 18; refine (refDigit_is _ _ (by assumption) _).mono ?_; rintro e w' ⟨rfl, hw'⟩; rw [hw']; clear hw') | (go_at_call 20; refine (sgn_at hlt (by omega) hsg _).mono ?_; rintro e w1 ⟨rfl, hb1⟩; have HB1 := hide hb1; clear hb1) | (at_builtin; refine wpList_append_own _ rfl _ _ 28 rfl w.heap.size 34 i0 (.agg #[.int .i64 0, .int .i64 0, .string ⟨#[]⟩, .int .u32 0]) 4 40 Tryd.underlying28 hi hz0 hz1 hz2 rfl (by decide) _ ts.length (tsC ts) rfl ?so1 ⟨_, 0, none⟩ 1 1 [.int .i64 3, .int .i64 a, .string (S Y), .int .u32 0] rfl rfl ?sc1 ?sc2 ?sc3 ?sc4 ?sc5 ?_))
                    case so1 => exact (owns_below HO.out HB1.out).alloc _
                    case sc1 =>
                      intro j u hj
                      match j, hj with
                      | 0, hj => simp at hj; subst hj; simp [Addr.add]
                      | 1, hj => simp at hj; subst hj; simp [Addr.add]
                      | 2, hj => simp at hj; subst hj; simp [Addr.add]
                      | 3, hj => simp at hj; subst hj; simp [Addr.add]
                    case sc2 => intro u hu; simp at hu; rcases hu with rfl | rfl | rfl | rfl <;> rfl
                    case sc3 => unfold maxLen; omega
                    case sc4 => omega
                    case sc5 => have h1 := HB.out.size; have h2 := HB1.out.size; simp; omega
                    intro v' w2 hown' hgrow _
                    have HB2 := hide (((HB.out.trans (HB1.out.mono HB.out.size)).alloc (Nat.le_trans HB.out.size HB1.out.size) _).grown hgrow (by have h1 := HB.out.size; have h2 := HB1.out.size; simp; omega) (fun j hj => (HO.out.lt j hj).1))
                    have HO2 := hide hown'
                    clear hown' hgrow
                    obtain ⟨hp1, hp2⟩ := tok_pos hlt htok
                    have hbl2 := blanks_at (l := l) (by omega) hp2
                    go_wp2_with (go_at_call 16; refine (hbl2 _).mono ?_; rintro e w3 ⟨rfl, hw3⟩; rw [hw3]; clear hw3)
                    exact ⟨trel_next hlt HGa.out htok hts HE.out (by rw [hY]; exact HO2.out) HB2.out, by simp [intOf]; omega⟩
                · have htok := HD.out hla hda
                  have hnum := refNum_any (S X) wr (by rw [hXz]; unfold maxLen; omega)
                  rw [B_S] at hnum
                  by_cases hv : val X < 0
                  · rw [if_pos hv] at htok
                    rw [show told (val X) = .tuple #[.int .u32 0, .bool false] by unfold told; rw [if_pos hv, decide_eq_false (by omega)]] at hnum
                    go_wp2_with (first | (go_at_call 17; refine (refLetter_is _ _ (by assumption) _).mono ?_; rintro e w' ⟨rfl, hw'⟩; rw [hw']; clear hw') | (go_at_call 18; refine (refDigit_is _ _ (by assumption) _).mono ?_; rintro e w' ⟨rfl, hw'⟩; rw [hw']; clear hw') | (go_at_call 19; refine hnum.mono ?_; rintro e w' ⟨rfl, hw'⟩; rw [hw']; clear hw'))
                    go_ret3
                    refine ⟨?_, HB.out⟩
                    rw [HE.out, toks_bad_is hlt HGa.out htok]
                    rfl
                  · rw [if_neg hv] at htok
                    rw [told_yes (Int.not_lt.1 hv)] at hnum
                    go_wp2_with (first | (go_at_call 17; refine (refLetter_is _ _ (by assumption) _).mono ?_; rintro e w' ⟨rfl, hw'⟩; rw [hw']; clear hw') | (go_at_call 18; refine (refDigit_is _ _ (by assumption) _).mono ?_; rintro e w' ⟨rfl, hw'⟩; rw [hw']; clear hw') | (go_at_call 19; refine hnum.mono ?_; rintro e w' ⟨rfl, hw'⟩; rw [hw']; clear hw') | (at_builtin; refine wpList_append_own _ rfl _ _ 28 rfl w.heap.size 34 i0 (.agg #[.int .i64 0, .int .i64 0, .string ⟨#[]⟩, .int .u32 0]) 4 40 Tryd.underlying28 hi hz0 hz1 hz2 rfl (by decide) _ ts.length (tsC ts) rfl ?do1 ⟨_, 0, none⟩ 1 1 [.int .i64 2, .int .i64 a, .string (S X), .int .u32 (val X)] rfl rfl ?dc1 ?dc2 ?dc3 ?dc4 ?dc5 ?_))
                    case do1 => exact HO.out.alloc _
                    case dc1 =>
                      intro j u hj
                      match j, hj with
                      | 0, hj => simp at hj; subst hj; simp [Addr.add]
                      | 1, hj => simp at hj; subst hj; simp [Addr.add]
                      | 2, hj => simp at hj; subst hj; simp [Addr.add]
                      | 3, hj => simp at hj; subst hj; simp [Addr.add]
                    case dc2 => intro u hu; simp at hu; rcases hu with rfl | rfl | rfl | rfl <;> rfl
                    case dc3 => unfold maxLen; omega
                    case dc4 => omega
                    case dc5 => have h1 := HB.out.size; simp; omega
                    intro v' w2 hown' hgrow _
                    have HB2 := hide ((HB.out.alloc HB.out.size _).grown hgrow (by have h1 := HB.out.size; simp; omega) (fun j hj => (HO.out.lt j hj).1))
                    have HO2 := hide hown'
                    clear hown' hgrow
                    obtain ⟨hp1, hp2⟩ := tok_pos hlt htok
                    have hbl2 := blanks_at (l := l) (by omega) hp2
                    go_wp2_with (go_at_call 16; refine (hbl2 _).mono ?_; rintro e w3 ⟨rfl, hw3⟩; rw [hw3]; clear hw3)
                    exact ⟨trel_next hlt HGa.out htok hts HE.out (by rw [hX]; exact HO2.out) HB2.out, by simp [intOf]; omega⟩
              · have htok := HL.out hla
                by_cases h32 : 32 < R
                · rw [if_pos h32] at htok
                  go_wp2_with (first | (go_at_call 17; refine (refLetter_is _ _ (by assumption) _).mono ?_; rintro e w' ⟨rfl, hw'⟩; rw [hw']; clear hw') | (go_at_call 18; refine (refDigit_is _ _ (by assumption) _).mono ?_; rintro e w' ⟨rfl, hw'⟩; rw [hw']; clear hw'))
                  go_ret3
                  refine ⟨?_, HB.out⟩
                  rw [HE.out, toks_bad_is hlt HGa.out htok]
                  rfl
                · rw [if_neg h32] at htok
                  go_wp2_with (first | (go_at_call 17; refine (refLetter_is _ _ (by assumption) _).mono ?_; rintro e w' ⟨rfl, hw'⟩; rw [hw']; clear hw') | (go_at_call 18; refine (refDigit_is _ _ (by assumption) _).mono ?_; rintro e w' ⟨rfl, hw'⟩; rw [hw']; clear hw') | (at_builtin; refine wpList_append_own _ rfl _ _ 28 rfl w.heap.size 34 i0 (.agg #[.int .i64 0, .int .i64 0, .string ⟨#[]⟩, .int .u32 0]) 4 40 Tryd.underlying28 hi hz0 hz1 hz2 rfl (by decide) _ ts.length (tsC ts) rfl ?lo1 ⟨_, 0, none⟩ 1 1 [.int .i64 1, .int .i64 a, .string (S X), .int .u32 0] rfl rfl ?lc1 ?lc2 ?lc3 ?lc4 ?lc5 ?_))
                  case lo1 => exact HO.out.alloc _
                  case lc1 =>
                    intro j u hj
                    match j, hj with
                    | 0, hj => simp at hj; subst hj; simp [Addr.add]
                    | 1, hj => simp at hj; subst hj; simp [Addr.add]
                    | 2, hj => simp at hj; subst hj; simp [Addr.add]
                    | 3, hj => simp at hj; subst hj; simp [Addr.add]
                  case lc2 => intro u hu; simp at hu; rcases hu with rfl | rfl | rfl | rfl <;> rfl
                  case lc3 => unfold maxLen; omega
                  case lc4 => omega
                  case lc5 => have h1 := HB.out.size; simp; omega
                  intro v' w2 hown' hgrow _
                  have HB2 := hide ((HB.out.alloc HB.out.size _).grown hgrow (by have h1 := HB.out.size; simp; omega) (fun j hj => (HO.out.lt j hj).1))
                  have HO2 := hide hown'
                  clear hown' hgrow
                  obtain ⟨hp1, hp2⟩ := tok_pos hlt htok
                  have hbl2 := blanks_at (l := l) (by omega) hp2
                  go_wp2_with (go_at_call 16; refine (hbl2 _).mono ?_; rintro e w3 ⟨rfl, hw3⟩; rw [hw3]; clear hw3)
                  exact ⟨trel_next hlt HGa.out htok hts HE.out (by rw [hX]; exact HO2.out) HB2.out, by simp [intOf]; omega⟩
      · obtain rfl : a = l.length := by omega
        have HT := hide (toks_at_end l l.length (Nat.le_refl _))
        clear hb hown he
        go_wp2_with (at_builtin; refine wpList_append_own _ rfl _ _ 28 rfl w.heap.size 34 i0 (.agg #[.int .i64 0, .int .i64 0, .string ⟨#[]⟩, .int .u32 0]) 4 40 Tryd.underlying28 hi hz0 hz1 hz2 rfl (by decide) _ ts.length (tsC ts) rfl (HO.out.alloc _) ⟨_, 0, none⟩ 1 1 [.int .i64 4, .int .i64 (l.length : Nat), .string (S []), .int .u32 0] rfl rfl ?c1 ?c2 ?c3 ?c4 ?c5 ?_)
        case c1 =>
          intro j u hj
          match j, hj with
          | 0, hj => simp at hj; subst hj; simp [Addr.add]
          | 1, hj => simp at hj; subst hj; simp [Addr.add]
          | 2, hj => simp at hj; subst hj; simp [Addr.add, S]
          | 3, hj => simp at hj; subst hj; simp [Addr.add]
        case c2 => intro u hu; simp at hu; rcases hu with rfl | rfl | rfl | rfl <;> rfl
        case c3 => unfold maxLen; omega
        case c4 => omega
        case c5 => have h1 := HB.out.size; simp; omega
        intro v' w2 hown' hgrow _
        have hb2 := (HB.out.alloc HB.out.size _).grown hgrow (by have h1 := HB.out.size; simp; omega) (fun j hj => (HO.out.lt j hj).1)
        go_wp2_with fail
        all_goals
          go_ret3
          refine ⟨?_, hb2⟩
          rw [HE.out, HT.out]
          exact ⟨v', rfl, by rw [tsC_snoc, List.length_append]; exact hown'⟩

end Go.Proofs.YtcplkdiieeefiaaDoor.Lex

