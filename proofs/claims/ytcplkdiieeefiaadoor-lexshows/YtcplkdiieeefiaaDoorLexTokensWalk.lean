/- The statement LexTokens, walked. -/
import Derived.Test.YtcplkdiieeefiaaDoorLexAnchor
import Derived.Test.YtcplkdiieeefiaaDoorLexRefT
import Derived.Deep.MidRow
import Derived.Deep.QuietTactic
import Derived.BigQuiet
set_option linter.unusedVariables false
set_option linter.unusedSimpArgs false
namespace Go.Proofs.YtcplkdiieeefiaaDoor.Lex
open Go.RowKit

theorem Row.range {w : World} {g : Nat} {ts : List T} (h : Row w g ts) {i : Nat} {t : T} (ht : ts[i]? = some t) : w.rangeAt g (i * 4) (tA t).toList := by
  intro j v hv
  match j, hv with
  | 0, hv => simp [tA] at hv; subst hv; exact h.k i t ht
  | 1, hv => simp [tA] at hv; subst hv; exact h.a i t ht
  | 2, hv => simp [tA] at hv; subst hv; exact h.t i t ht
  | 3, hv => simp [tA] at hv; subst hv; exact h.v i t ht
theorem info_tok : (Tryd.prog.info? 33).map (·.size) = some 4 := by kernel_rfl
theorem info_ref : (Tryd.prog.info? 34).map (·.size) = some 4 := by kernel_rfl

theorem toks_ne : ∀ {l : List UInt8} {a : Nat} {ts : List T}, toks l a = .ok ts → ts ≠ []
  | l, a, ts, h, e => by
    subst e
    by_cases h1 : l.drop (gap false l) = []
    · rw [toks_end l a h1] at h; injection h with h; cases h
    · by_cases hk : (tok (l.drop (gap false l))).k = 0
      · rw [toks_bad l a h1 hk] at h; cases h
      · rw [toks_good l a h1 hk (tok_len _ h1 hk).1] at h
        unfold pre at h
        split at h
        · cases h
        · injection h with h; cases h
theorem pre_ok {ts us : List T} {r : Except (Nat × Nat) (List T)} (h : pre ts r = .ok us) : ∃ vs, r = .ok vs ∧ us = ts ++ vs := by
  cases r with
  | error e => cases h
  | ok vs => injection h with h; exact ⟨vs, rfl, h.symm⟩
theorem toks_len : ∀ (n : Nat) (l : List UInt8) (a : Nat) (ts : List T), l.length ≤ n → toks l a = .ok ts → ts.length ≤ l.length + 1
  | n, l, a, ts, hn, h => by
    by_cases h1 : l.drop (gap false l) = []
    · rw [toks_end l a h1] at h; injection h with h; subst h; simp
    · by_cases hk : (tok (l.drop (gap false l))).k = 0
      · rw [toks_bad l a h1 hk] at h; cases h
      · have hl := tok_len _ h1 hk
        rw [toks_good l a h1 hk hl.1] at h
        obtain ⟨vs, h2, rfl⟩ := pre_ok h
        have hlen : ((l.drop (gap false l)).drop (tok (l.drop (gap false l))).n).length + 1 ≤ l.length := by
          have := hl.2
          simp only [List.length_drop] at this ⊢
          omega
        match n, hn with
        | 0, hn => omega
        | n + 1, hn =>
          have := toks_len n _ _ vs (by omega) h2
          simp
          omega
theorem lexed_ne {l : List UInt8} {ts : List T} (h : lexed l = .ok ts) : ts ≠ [] ∧ l.length ≤ 65536 ∧ toks l 0 = .ok ts := by
  unfold lexed at h
  split at h
  · cases h
  · exact ⟨toks_ne h, by omega, h⟩

set_option maxHeartbeats 4000000 in
theorem lexTokens_any (l : List UInt8) (p : Option Addr) (n cap : Nat) (w : World) (hS : Sig w) (hp : Src w p n l) (hn : n ≤ maxLen) :
    Calls Tryd.prog 3 #[.slice p n cap] w fun e w' => e = .returned (.bool true) ∧ Below w.heap.size w w' := by
  by_cases hbig : 70000 < n
  · go_enter Tryd.func3, Tryd.ntmps3
    go_wp2_with (go_at_call 8; refine (anchor9_any _ hS).mono ?_; rintro e w1 ⟨rfl, hb1⟩)
    go_ret
    exact ⟨rfl, hb1⟩
  · go_enter Tryd.func3, Tryd.ntmps3
    go_wp2_with (go_at_call 8; refine (anchor9_any _ hS).mono ?_; rintro e w1 ⟨rfl, hb1⟩)
    refine (Tokens_any l p n cap w1 (hS.below hb1) (hp.below hb1) hn).mono ?_
    rintro e w2 ⟨hR, hb2⟩
    have hB2 := hb1.trans (hb2.mono hb1.size)
    cases hx : lexed l with
    | error ea =>
      obtain ⟨en, ep⟩ := ea
      rw [hx] at hR
      obtain rfl := hR
      go_wp2_with fail
      refine (refTokens_any l p n cap w2 (hp.below hB2) hn).mono ?_
      rintro e w3 ⟨hR3, hb3⟩
      rw [hx] at hR3
      obtain rfl := hR3
      have HB := hide (hB2.trans (hb3.mono hB2.size))
      clear hb1 hb2 hB2 hb3
      go_wp2_with fail
      go_loop [45] (fun i => i = .int .i64 0) (fun _ => 0)
      case atStart => rfl
      case round =>
        obtain rfl := hrel
        go_wp2_with fail
        go_ret
        exact ⟨rfl, HB.out⟩
    | ok ts =>
      obtain ⟨hne, hsz, hto⟩ := lexed_ne hx
      have htl := toks_len _ l 0 ts (Nat.le_refl _) hto
      rw [hx] at hR
      obtain ⟨v, rfl, ho⟩ := hR
      obtain ⟨g, cap2, rfl, hgge, hr⟩ := owned ho hne
      go_wp2_with fail
      refine (refTokens_any l p n cap w2 (hp.below hB2) hn).mono ?_
      rintro e w3 ⟨hR3, hb3⟩
      rw [hx] at hR3
      obtain ⟨v3, rfl, ho3⟩ := hR3
      obtain ⟨g3, cap3, rfl, hgge3, hr3⟩ := owned ho3 hne
      have HB := hide (hB2.trans (hb3.mono hB2.size))
      have HR := hide (hr.below hb3)
      have HR3 := hide hr3
      clear hb1 hb2 hB2 hb3 hr hr3 ho ho3
      go_wp2_with fail
      go_loopw [45] (fun i wr => ∃ k : Nat, k ≤ ts.length ∧ i = .int .i64 k ∧ Below w3.heap.size w3 wr) (fun i _ => ts.length - (intOf i).toNat)
      case atStart => exact ⟨0, Nat.zero_le _, rfl, Below.refl _ _⟩
      case round =>
        obtain ⟨k, hk, rfl, hb⟩ := hrel
        by_cases hlt : k < ts.length
        · have ht : ts[k]? = some ts[k] := List.getElem?_eq_getElem hlt
          generalize ts[k] = t at ht
          have h1 := hide ((HR.out.below hb).range ht)
          have h2 := hide ((HR3.out.below hb).range ht)
          have hq := fun w => (neq_ref w t t).trans (by rw [eqT_self])
          obtain ⟨tk, ta, tt, tv⟩ := t
          simp only [tA] at h1 h2 hq
          have hA := hb.alloc hb.size (.cells #[.int .i64 tk, .int .i64 ta, .string (S tt), .int .u32 tv] 33)
          have R3 := HR3.out.below hA
          have k0 := R3.k k _ ht
          have k1 := R3.a k _ ht
          have k2 := R3.t k _ ht
          have k3 := R3.v k _ ht
          have HK := hide hA
          clear hb hA R3
          go_wp2_with (first
            | (refine wpList_load_mid rfl 33 _ rfl g (k * 4) rfl [.int .i64 tk, .int .i64 ta, .string (S tt), .int .u32 tv] _ h1.out Tryd.underlying33 rfl info_tok ?_)
            | (refine wpList_load_mid rfl 34 _ rfl g3 (k * 4) rfl [.int .i64 tk, .int .i64 ta, .string (S tt), .int .u32 tv] _ h2.out Tryd.underlying34 rfl info_ref ?_))
          go_quiet (fail)
          go_wp2_with fail
          exact ⟨⟨k + 1, by omega, by go_num, below_dn HK.out nq⟩, by simp [intOf]; omega⟩
        · go_wp2_with fail
          go_ret
          exact ⟨rfl, HB.out.trans (hb.mono HB.out.size)⟩

end Go.Proofs.YtcplkdiieeefiaaDoor.Lex

