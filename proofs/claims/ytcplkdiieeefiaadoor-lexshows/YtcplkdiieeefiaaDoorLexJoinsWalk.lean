/- The statement LexJoins, walked. -/
import Derived.Test.YtcplkdiieeefiaaDoorLexTokensWalk
import Derived.Test.YtcplkdiieeefiaaDoorLexJoin
import Derived.Laws.AppendOwnNone
import Derived.Deep.RegionHeld3
set_option linter.unusedVariables false
set_option linter.unusedSimpArgs false
namespace Go.Proofs.YtcplkdiieeefiaaDoor.Lex
open Go.RowKit

/-- Bytes as cells. -/
def u8L (l : List UInt8) : List Value := l.map fun c => Value.int .u8 c.toNat
theorem u8L_len (l : List UInt8) : (u8L l).length = l.length := by simp [u8L]
theorem u8L_app (a b : List UInt8) : u8L (a ++ b) = u8L a ++ u8L b := by simp [u8L]
theorem u8L_one (l : List UInt8) : ∀ u ∈ u8L l, u.oneCell' = true := by
  intro u hu
  simp only [u8L, List.mem_map] at hu
  obtain ⟨_, _, rfl⟩ := hu
  rfl
theorem u8L_at (l : List UInt8) (j : Nat) (h : j < l.length) : (u8L l)[j]? = some (.int .u8 (byt l j)) := by
  simp [u8L, byt, List.getD, List.getElem?_eq_getElem h]
theorem infoU8 : (Tryd.prog.info? 5).map (fun i => (i.zero, i.size, i.bytes)) = some (some (.int .u8 0), 1, 1) := by kernel_rfl

theorem wpList_append_src {ops : Array Oper} {rest : List Oper} {o : Oper} {a : Act} {Q : Exit → Act → World → Prop} (w : World) (hgd : o.guard = none) (s x : Operand)
    (ho : o.op = .call { callee := .builtin .append, args := #[s, x], argTypes := #[22, 22] })
    (base : Nat) (v : Value) (n : Nat) (xs : List Value) (hs : a.eval s = v) (hown : w.ownsRow base 5 1 v n xs)
    (p : Option Addr) (m cap : Nat) (l : List UInt8) (hx : a.eval x = .slice p m cap) (hsrc : Src w p m l) (hcap : p = none → cap = 0) (h63 : n + m ≤ 100000) (hbase : base ≤ w.heap.size)
    (h : ∀ v' w', w'.ownsRow base 5 1 v' (n + m) (xs ++ u8L l) → w.grownBy w' v.ownBlock → wpList Tryd.prog ops Q rest (a.put o.dst v') w') : wpList Tryd.prog ops Q (o :: rest) a w := by
  obtain ⟨i0, hi, hz0, hz1, hz2⟩ := info_parts infoU8
  cases p with
  | none =>
    have hm : m = 0 := by
      rcases hsrc.cells with h0 | ⟨b, off, h1, _⟩
      · exact h0
      · cases h1
    obtain rfl := hcap rfl
    subst hm
    have hl : l = [] := List.eq_nil_of_length_eq_zero hsrc.len
    subst hl
    exact wpList_append_own_none hgd s x 22 ho base 5 i0 1 Tryd.underlying22 hi v n xs hs hown hx (h v w (by show w.ownsRow _ _ _ _ _ (xs ++ []); rw [List.append_nil]; exact hown) ⟨rfl, rfl, rfl, Nat.le_refl _, fun _ _ _ => rfl⟩)
  | some ad =>
    refine wpList_append_own w hgd s x 22 ho base 5 i0 (.int .u8 0) 1 1 Tryd.underlying22 hi hz0 hz1 hz2 rfl (by decide) v n xs hs hown ad m cap (u8L l) hx (by rw [u8L_len, hsrc.len]; omega) ?_ (u8L_one l) (by unfold maxLen; omega) (by omega) hbase (fun v' w' h1 h2 _ => h v' w' h1 h2)
    intro j u hj
    have hjl : j < l.length := by have := (List.getElem?_eq_some_iff.1 hj).1; rw [u8L_len] at this; exact this
    rw [u8L_at l j hjl] at hj
    injection hj with hj
    subst hj
    rcases hsrc.cells with h0 | ⟨b, off, h1, _, hc⟩
    · rw [hsrc.len] at hjl; omega
    · injection h1 with h1
      subst h1
      rw [Addr.add_mid]
      exact hc j (by rw [← hsrc.len]; exact hjl)
theorem src_own {w : World} {base n : Nat} {v : Value} {l : List UInt8} (h : w.ownsRow base 5 1 v n (u8L l)) : ∃ p cap, v = .slice p l.length cap ∧ Src w p l.length l := by
  have hn : n = l.length := by have := h.1; rw [u8L_len] at this; omega
  subst hn
  rcases h.2 with ⟨hv, h0⟩ | ⟨g, cap, cur, hv, hB, hg, h1, h2, h3, h4⟩
  · exact ⟨none, 0, by rw [hv, h0], rfl, .inl h0⟩
  · refine ⟨_, cap, hv, rfl, .inr ⟨g, 0, rfl, ?_, fun i hi => ?_⟩⟩
    · rcases Nat.lt_or_ge g w.heap.size with h' | h'
      · exact h'
      · simp [Array.getElem?_eq_none h'] at hg
    · have e := u8L_at l i hi
      rw [← h4, List.getElem?_take, if_pos (by omega), Array.getElem?_toList] at e
      rw [← e]
      simp [World.cell?, hg]

theorem toks_err : ∀ (n : Nat) (l : List UInt8) (a e w : Nat), l.length ≤ n → toks l a = .error (e, w) → (e = 100 ∨ e = 101 ∨ e = 102) ∧ w ≤ a + l.length
  | n, l, a, e, w, hn, h => by
    have hgl := gap_le false l
    by_cases h1 : l.drop (gap false l) = []
    · rw [toks_end l a h1] at h; cases h
    · by_cases hk : (tok (l.drop (gap false l))).k = 0
      · rw [toks_bad l a h1 hk] at h
        injection h with h
        injection h with h2 h3
        exact ⟨by rw [← h2]; exact bad_nat _ hk, by omega⟩
      · have hl := tok_len _ h1 hk
        rw [toks_good l a h1 hk hl.1] at h
        have hlen : ((l.drop (gap false l)).drop (tok (l.drop (gap false l))).n).length + (tok (l.drop (gap false l))).n + gap false l = l.length := by
          have := hl.2
          simp only [List.length_drop] at this ⊢
          omega
        have h2 : toks ((l.drop (gap false l)).drop (tok (l.drop (gap false l))).n) (a + gap false l + (tok (l.drop (gap false l))).n) = .error (e, w) := by
          revert h
          cases toks ((l.drop (gap false l)).drop (tok (l.drop (gap false l))).n) (a + gap false l + (tok (l.drop (gap false l))).n) with
          | error x => intro h; injection h with h; rw [h]
          | ok us => intro h; cases h
        match n, hn with
        | 0, hn => have := hl.1; omega
        | n + 1, hn =>
          have := hl.1
          have := toks_err n _ _ e w (by omega) h2
          exact ⟨this.1, by omega⟩

theorem toks_pos : ∀ (n : Nat) (l : List UInt8) (a : Nat) (ts : List T), l.length ≤ n → toks l a = .ok ts → ∀ t ∈ ts, (a : Int) ≤ t.a ∧ t.a ≤ (a : Int) + l.length
  | n, l, a, ts, hn, h, t, ht => by
    have hgl := gap_le false l
    by_cases h1 : l.drop (gap false l) = []
    · rw [toks_end l a h1] at h
      injection h with h
      subst h
      simp at ht
      subst ht
      simp
      omega
    · by_cases hk : (tok (l.drop (gap false l))).k = 0
      · rw [toks_bad l a h1 hk] at h; cases h
      · have hl := tok_len _ h1 hk
        rw [toks_good l a h1 hk hl.1] at h
        obtain ⟨vs, h2, rfl⟩ := pre_ok h
        have hlen : ((l.drop (gap false l)).drop (tok (l.drop (gap false l))).n).length + (tok (l.drop (gap false l))).n + gap false l = l.length := by
          have := hl.2
          simp only [List.length_drop] at this ⊢
          omega
        rcases List.mem_append.1 ht with ht | ht
        · simp at ht
          subst ht
          simp [mkT]
          omega
        · match n, hn with
          | 0, hn => have := hl.1; omega
          | n + 1, hn =>
            have := hl.1
            have := toks_pos n _ _ vs (by omega) h2 t ht
            omega
theorem toks_at_le {l : List UInt8} {us : List T} {j : Nat} {t : T} (ht : us[j]? = some t) (h : toks l 0 = .ok us) : 0 ≤ t.a ∧ t.a ≤ l.length := by
  have := toks_pos _ l 0 us (Nat.le_refl _) h t (List.mem_of_getElem? ht)
  omega

/-- What Tokens tells, opened. -/
def Tupled (E : TypeId) (B : Nat) (r : Except (Nat × Nat) (List T)) (v : Value) (n a : Nat) (w : World) : Prop :=
  (r = .error (n, a) ∧ v = .slice none 0 0) ∨ (n = 0 ∧ a = 0 ∧ ∃ ts, r = .ok ts ∧ w.ownsRow B E 4 v ts.length (tsC ts))
theorem Told.open {E : TypeId} {B : Nat} {r : Except (Nat × Nat) (List T)} {e : Ending} {w : World} (h : Told E B r e w) : ∃ v n a, e = .returned (.tuple #[v, .int .i64 (n : Nat), .int .i64 (a : Nat)]) ∧ Tupled E B r v n a w := by
  cases r with
  | error ea => exact ⟨_, ea.1, ea.2, h, .inl ⟨rfl, rfl⟩⟩
  | ok ts =>
    obtain ⟨v, h1, h2⟩ := h
    exact ⟨v, 0, 0, h1, .inr ⟨rfl, rfl, ts, rfl, h2⟩⟩

set_option maxRecDepth 100000 in
set_option maxHeartbeats 8000000 in
theorem lexJoins_any (a b : List UInt8) (p q : Option Addr) (n m cap cap2 : Nat) (w : World) (hS : Sig w) (hp : Src w p n a) (hq : Src w q m b) (hn : n ≤ maxLen) (hm : m ≤ maxLen) (hc1 : p = none → cap = 0) (hc2 : q = none → cap2 = 0) :
    Calls Tryd.prog 7 #[.slice p n cap, .slice q m cap2] w fun e w' => e = .returned (.bool true) ∧ Below w.heap.size w w' := by
  obtain rfl := hp.len
  obtain rfl := hq.len
  by_cases hbig : 5000 < a.length ∨ 5000 < b.length
  · go_enter Tryd.func7, Tryd.ntmps7
    go_wp2_with (go_at_call 8; refine (anchor9_any _ hS).mono ?_; rintro e w1 ⟨rfl, hb1⟩)
    all_goals
      first
      | (go_ret; exact ⟨rfl, hb1⟩)
      | (exfalso; omega)
  · go_enter Tryd.func7, Tryd.ntmps7
    go_wp2_with (go_at_call 8; refine (anchor9_any _ hS).mono ?_; rintro e w1 ⟨rfl, hb1⟩)
    have hxa : lexed a = toks a 0 := by unfold lexed; rw [if_neg (by omega)]
    have hxb : lexed b = toks b 0 := by unfold lexed; rw [if_neg (by omega)]
    refine (Tokens_any a p a.length cap w1 (hS.below hb1) (hp.below hb1) hn).mono ?_
    rintro e w2 ⟨hR, hb2⟩
    obtain ⟨v2, n2, a2, rfl, hT2⟩ := hR.open
    have hB2 := hb1.trans (hb2.mono hb1.size)
    go_wp2_with fail
    refine (Tokens_any b q b.length cap2 w2 (hS.below hB2) (hq.below hB2) hm).mono ?_
    rintro e w3 ⟨hR3, hb3⟩
    obtain ⟨v3, n3, a3, rfl, hT3⟩ := hR3.open
    have hB3 := hB2.trans (hb3.mono hB2.size)
    obtain ⟨i0, hi, hz0, hz1, hz2⟩ := info_parts infoU8
    have HT2 := hide hT2
    have HT3 := hide hT3
    have HB3 := hide hB3
    have HB23 := hide hb3
    clear hR hR3 hT2 hT3 hb1 hb2 hB2 hB3 hb3
    have hpa : Src (w3.alloc (.cells #[] 5)) p a.length a := (hp.below HB3.out).below ((Below.refl _ _).alloc (Nat.le_refl _) _)
    go_wp2_with (at_builtin; refine wpList_append_src _ rfl _ _ rfl w3.heap.size _ 0 [] rfl ?o1 p a.length cap a rfl ?s1 hc1 ?k1 ?b1 ?_)
    case o1 => exact World.ownsRow_made w3 #[] 0 (Nat.le_refl _) (by decide) rfl
    case s1 => exact hpa
    case k1 => omega
    case b1 => simp
    intro v4 w4 ho4 hg4
    have hB4 := ((Below.refl w3.heap.size w3).alloc (Nat.le_refl _) (.cells #[] 5)).grown hg4 (by simp) (fun j hj => by simp [Value.ownBlock] at hj; omega)
    have HO4 := hide ho4
    have HB4 := hide hB4
    clear hpa ho4 hg4 hB4
    go_wp2_with (at_builtin; refine wpList_append_own _ rfl _ _ 22 rfl w3.heap.size 5 i0 (.int .u8 0) 1 1 Tryd.underlying22 hi hz0 hz1 hz2 rfl (by decide) _ _ _ rfl (HO4.out.alloc _) ⟨_, 0, none⟩ 1 1 [.int .u8 10] rfl rfl ?c1 ?c2 ?c3 ?c4 ?c5 ?_)
    case c1 =>
      intro j u hj
      match j, hj with
      | 0, hj => simp at hj; subst hj; simp [Addr.add]
    case c2 => intro u hu; simp at hu; subst hu; rfl
    case c3 => unfold maxLen; omega
    case c4 => omega
    case c5 => have := HB4.out.size; simp; omega
    intro v5 w5 ho5 hg5 _
    have hB5 := (HB4.out.alloc HB4.out.size (.cells #[.int .u8 10] 5)).grown hg5 (by have := HB4.out.size; simp; omega) (fun j hj => (HO4.out.lt j hj).1)
    have HO5 := hide ho5
    have HB5 := hide hB5
    have hqb : Src w5 q b.length b := hq.below (HB3.out.trans (hB5.mono HB3.out.size))
    clear ho5 hg5 hB5
    go_wp2_with (at_builtin; refine wpList_append_src _ rfl _ _ rfl w3.heap.size _ _ _ rfl HO5.out q b.length cap2 b rfl hqb hc2 (by omega) HB5.out.size ?_)
    intro v6 w6 ho6 hg6
    have hB6 := HB5.out.grown hg6 HB5.out.size (fun j hj => (HO5.out.lt j hj).1)
    have HB6 := hide hB6
    have e6 : u8L a ++ .int .u8 10 :: u8L b = u8L (a ++ 10 :: b) := by
      rw [u8L_app]
      rfl
    rw [e6] at ho6
    obtain ⟨p6, cap6, rfl, hs6⟩ := src_own ho6
    have hl6 : (a ++ 10 :: b).length = a.length + 1 + b.length := by simp; omega
    clear ho6 hg6 hB6 hqb
    have hB06 := HB3.out.trans (HB6.out.mono HB3.out.size)
    have hx6 : lexed (a ++ 10 :: b) = joinE (toks a 0) (shiftE (a.length + 1) (toks b 0)) := by
      unfold lexed
      rw [if_neg (by omega), toks_join b _ a 0 (Nat.le_refl _), show 0 + a.length + 1 = 0 + (a.length + 1) by omega, toks_shift (a.length + 1) _ b 0 (Nat.le_refl _)]
    clear e6
    generalize a ++ 10 :: b = C at *
    rw [hl6] at hs6
    go_wp2_with fail
    refine (Tokens_any C p6 (a.length + 1 + b.length) cap6 w6 (hS.below hB06) hs6 (by unfold maxLen; omega)).mono ?_
    rintro e w7 ⟨hR7, hb7⟩
    rw [hx6] at hR7
    have hT2 := HT2.out
    have hT3 := HT3.out
    rw [hxa] at hT2
    rw [hxb] at hT3
    have HBZ := hide (hB06.trans (hb7.mono hB06.size))
    clear hB06 hs6 HT2 HT3
    rcases hT2 with ⟨ha, rfl⟩ | ⟨rfl, rfl, ts, ha, ho2⟩
    · have hbe := toks_err _ a 0 n2 a2 (Nat.le_refl _) ha
      have hne : ((n2 : Int) != 0) = true := by simp; omega
      rw [ha] at hR7
      obtain rfl := hR7
      go_wp2_with fail
      go_ret
      exact ⟨rfl, HBZ.out⟩
    · rcases hT3 with ⟨hb, rfl⟩ | ⟨rfl, rfl, us, hb, ho3⟩
      · have hbe := toks_err _ b 0 n3 a3 (Nat.le_refl _) hb
        have hne : ((n3 : Int) != 0) = true := by simp; omega
        rw [ha, hb] at hR7
        obtain rfl := hR7
        have hab : (a.length : Int) + 1 + a3 ≤ 20000 := by omega
        have hqq : ((a3 + (a.length + 1) : Nat) : Int) = (a.length : Int) + 1 + a3 := by omega
        go_wp2_with fail
        go_ret
        exact ⟨rfl, HBZ.out⟩
      · have htne := toks_some ha
        have hune := toks_some hb
        have htl := toks_len _ a 0 ts (Nat.le_refl _) ha
        have hul := toks_len _ b 0 us (Nat.le_refl _) hb
        rw [ha, hb] at hR7
        obtain ⟨v7, rfl, ho7⟩ := hR7
        have ht1 : 0 < ts.length := List.length_pos_iff.2 htne
        have hl7 : (ts.dropLast ++ us.map (late (a.length + 1))).length = ts.length - 1 + us.length := by simp
        obtain ⟨g2, k2, rfl, _, hr2⟩ := owned ho2 htne
        obtain ⟨g3, k3, rfl, _, hr3⟩ := owned ho3 hune
        obtain ⟨g7, k7, rfl, _, hr7⟩ := owned ho7 (by simp [hune])
        have HR7 := hide hr7
        have HR3 := hide ((hr3.below HB6.out).below hb7)
        have HR2 := hide (((hr2.below HB23.out).below HB6.out).below hb7)
        clear hr2 hr3 hr7 ho2 ho3 ho7 hb7
        obtain ⟨K, hK⟩ : ∃ K, ts.length = K + 1 := ⟨ts.length - 1, by omega⟩
        rw [hl7, hK, Nat.add_sub_cancel]
        go_wp2_with fail
        go_loopw [100] (fun i wr => ∃ k : Nat, k ≤ K + us.length ∧ i = .int .i64 k ∧ Below w7.heap.size w7 wr) (fun i _ => K + us.length - (intOf i).toNat)
        case atStart => exact ⟨0, Nat.zero_le _, rfl, Below.refl _ _⟩
        case round =>
          obtain ⟨k, hk, rfl, hbr⟩ := hrel
          by_cases hlt : k < K + us.length
          · by_cases hkK : k < K
            · have ht : ts[k]? = some ts[k] := List.getElem?_eq_getElem (by omega)
              have ht7 : (ts.dropLast ++ us.map (late (a.length + 1)))[k]? = some ts[k] := by
                rw [List.getElem?_append_left (by simp; omega), List.getElem?_dropLast, if_pos (by omega)]
                exact ht
              generalize ts[k] = t at ht ht7
              have h7 := hide ((HR7.out.below hbr).range ht7)
              obtain ⟨tk, ta, tt, tv⟩ := t
              have hA := (hbr.alloc hbr.size (.cells #[.int .i64 tk, .int .i64 ta, .string (S tt), .int .u32 tv] 33)).alloc (by have := hbr.size; simp; omega) (.cells #[.int .i64 0, .int .i64 0, .string ⟨#[]⟩, .int .u32 0] 33)
              have h2 := hide ((HR2.out.below hA).range ht)
              have hq := fun w => (neq_tok w ⟨tk, ta, tt, tv⟩ ⟨tk, ta, tt, tv⟩).trans (by rw [eqT_self])
              simp only [tA] at h7 h2 hq
              have HK := hide hbr
              clear hbr hA
              go_wp2_with (first
                | (refine wpList_load_mid rfl 33 _ rfl g7 (k * 4) rfl [.int .i64 tk, .int .i64 ta, .string (S tt), .int .u32 tv] _ h7.out Tryd.underlying33 rfl info_tok ?_)
                | (refine wpList_load_mid rfl 33 _ rfl g2 (k * 4) rfl [.int .i64 tk, .int .i64 ta, .string (S tt), .int .u32 tv] _ h2.out Tryd.underlying33 rfl info_tok ?_))
              exact ⟨⟨k + 1, by omega, by go_num, (HK.out.alloc HK.out.size _).alloc (by have := HK.out.size; simp; omega) _⟩, by simp [intOf]; omega⟩
            · obtain ⟨j, rfl⟩ : ∃ j, k = K + j := ⟨k - K, by omega⟩
              have ht : us[j]? = some us[j] := List.getElem?_eq_getElem (by omega)
              have ht7 : (ts.dropLast ++ us.map (late (a.length + 1)))[K + j]? = some (late (a.length + 1) us[j]) := by
                rw [List.getElem?_append_right (by simp; omega), List.length_dropLast, hK, show K + j - (K + 1 - 1) = j by omega, List.getElem?_map, ht]
                rfl
              have hta := toks_at_le ht hb
              generalize us[j] = t at ht ht7 hta
              have h7 := hide ((HR7.out.below hbr).range ht7)
              obtain ⟨tk, ta, tt, tv⟩ := t
              have hA := (hbr.alloc hbr.size (.cells #[.int .i64 tk, .int .i64 (ta + (a.length + 1 : Nat)), .string (S tt), .int .u32 tv] 33)).alloc (by have := hbr.size; simp; omega) (.cells #[.int .i64 0, .int .i64 0, .string ⟨#[]⟩, .int .u32 0] 33)
              have h3 := (HR3.out.below hA).range ht
              have hidx : ((K : Int) + (j : Int) - ((K : Int) + 1) + 1).toNat = j := by omega
              rw [← hidx] at h3
              replace h3 := hide h3
              clear hidx
              have hq := fun w => (neq_tok w ⟨tk, ta + (a.length + 1 : Nat), tt, tv⟩ ⟨tk, ta + (a.length + 1 : Nat), tt, tv⟩).trans (by rw [eqT_self])
              simp only [tA, late] at h7 h3 hq
              have HK := hide hbr
              have hlt2 : j < us.length := by omega
              obtain ⟨A, hsum⟩ : ∃ A, ta + ((a.length : Int) + 1) = A := ⟨_, rfl⟩
              have hcast : ((a.length + 1 : Nat) : Int) = (a.length : Int) + 1 := by omega
              rw [hcast, hsum] at h7 hq h3
              have hta' : 0 ≤ ta ∧ ta ≤ b.length := hta
              have hAb : 0 ≤ A ∧ A ≤ 20000 := by omega
              clear hbr hA hcast ht7 ht hl6 hx6 hxa hxb ha hb hl7
              go_wp2_with (first
                | (refine wpList_load_mid rfl 33 _ rfl g7 ((K + j) * 4) rfl [.int .i64 tk, .int .i64 A, .string (S tt), .int .u32 tv] _ h7.out Tryd.underlying33 rfl info_tok ?_)
                | (refine wpList_load_mid rfl 33 _ rfl g3 (((K : Int) + (j : Int) - ((K : Int) + 1) + 1).toNat * 4) rfl [.int .i64 tk, .int .i64 ta, .string (S tt), .int .u32 tv] _ h3.out Tryd.underlying33 rfl info_tok ?_))
              exact ⟨⟨K + j + 1, by omega, by go_num, (HK.out.alloc HK.out.size _).alloc (by have := HK.out.size; simp; omega) _⟩, by simp [intOf]; omega⟩
          · go_wp2_with fail
            go_ret
            exact ⟨rfl, HBZ.out.trans (hbr.mono HBZ.out.size)⟩

end Go.Proofs.YtcplkdiieeefiaaDoor.Lex

