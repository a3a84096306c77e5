/- The statement LexShows, walked. -/
import Derived.Test.YtcplkdiieeefiaaDoorLexJoinsWalk
import Derived.Test.YtcplkdiieeefiaaDoorLexShow
import Derived.Lib.ConvBytes
import Derived.Deep.QuietTactic
import Derived.BigQuiet
set_option linter.unusedVariables false
set_option linter.unusedSimpArgs false
namespace Go.Proofs.YtcplkdiieeefiaaDoor.Lex
open Go.RowKit

/-- A string's bytes, laid anew. -/
theorem src_bytes (l : List UInt8) (w : World) : Src (Lib.bytesWorld w 5 (S l)) (some ⟨w.heap.size, 0, none⟩) l.length l := by
  refine ⟨rfl, .inr ⟨_, 0, rfl, by rw [Lib.bytesWorld_size]; omega, fun i hi => ?_⟩⟩
  rw [Nat.zero_add, Lib.bytesWorld_cell w 5 (S l) i hi]
  rfl
theorem below_bytes (l : List UInt8) (w : World) : Below w.heap.size w (Lib.bytesWorld w 5 (S l)) :=
  Lib.below_freeze (((Below.refl w.heap.size w).drew).alloc (Nat.le_refl _) _) (p := ⟨w.heap.size, _, none⟩) (Nat.le_refl _) 1

set_option maxRecDepth 100000 in
set_option maxHeartbeats 8000000 in
theorem lexShows_any (l : List UInt8) (p : Option Addr) (n cap : Nat) (w : World) (hS : Sig w) (hp : Src w p n l) (hn : n ≤ maxLen) :
    Calls Tryd.prog 4 #[.slice p n cap] w fun e w' => e = .returned (.bool true) ∧ Below w.heap.size w w' := by
  obtain rfl := hp.len
  by_cases hbig : 20000 < l.length
  · go_enter Tryd.func4, Tryd.ntmps4
    go_wp2_with (go_at_call 8; refine (anchor9_any _ hS).mono ?_; rintro e w1 ⟨rfl, hb1⟩)
    go_ret
    exact ⟨rfl, hb1⟩
  · have kc := fun (w : World) (s : ByteArray) => Lib.run_convert_string_bytes (P := Tryd.prog) w 9 22 5 s Tryd.underlying9 Tryd.underlying22 Tryd.underlying5
    go_enter Tryd.func4, Tryd.ntmps4
    go_wp2_with (go_at_call 8; refine (anchor9_any _ hS).mono ?_; rintro e w1 ⟨rfl, hb1⟩)
    refine (Tokens_any l p l.length cap w1 (hS.below hb1) (hp.below hb1) hn).mono ?_
    rintro e w2 ⟨hR, hb2⟩
    have hB2 := hb1.trans (hb2.mono hb1.size)
    have hx : lexed l = toks l 0 := by unfold lexed; rw [if_neg (by omega)]
    rw [hx] at hR
    cases ht : toks l 0 with
    | error ea =>
      obtain ⟨n2, a2⟩ := ea
      rw [ht] at hR
      obtain rfl := hR
      have hbe := toks_err _ l 0 n2 a2 (Nat.le_refl _) ht
      have hne : ((n2 : Int) != 0) = true := by simp; omega
      have HB2 := hide hB2
      clear hb1 hb2 hB2
      go_wp2_with fail
      go_ret
      exact ⟨rfl, HB2.out⟩
    | ok ts =>
      rw [ht] at hR
      obtain ⟨v, rfl, ho⟩ := hR
      have htl := toks_len _ l 0 ts (Nat.le_refl _) ht
      have hsl := shows_len _ l 0 ts (Nat.le_refl _) ht
      obtain ⟨us, hus, hmap⟩ := toks_show _ l 0 ts (Nat.le_refl _) ht 0
      have hlu : us.length = ts.length := by have := congrArg List.length hmap; simpa using this
      have hx2 : lexed (shows ts) = .ok us := by unfold lexed; rw [if_neg (by omega), hus]
      have hne := toks_some ht
      have hune := toks_some hus
      obtain ⟨g, kc2, rfl, _, hr⟩ := owned ho hne
      go_wp2_with fail
      refine (Show_any ts g kc2 w2 hr (by omega) (by omega)).mono ?_
      rintro e w3 ⟨rfl, hb3⟩
      have hb4 := hb3.trans ((below_bytes (shows ts) w3).mono hb3.size)
      have hB4 := hB2.trans (hb4.mono hB2.size)
      have hs4 := src_bytes (shows ts) w3
      generalize hW : Lib.bytesWorld w3 5 (S (shows ts)) = w4 at *
      have hzz : (S (shows ts)).size = (shows ts).length := rfl
      have HR2 := hide (hr.below hb4)
      clear ho hr hb1 hb2 hb3
      go_wp2_with fail
      refine (Tokens_any (shows ts) (some ⟨w3.heap.size, 0, none⟩) (shows ts).length _ w4 (hS.below hB4) hs4 (by unfold maxLen; omega)).mono ?_
      rintro e w5 ⟨hR5, hb5⟩
      rw [hx2] at hR5
      obtain ⟨v5, rfl, ho5⟩ := hR5
      obtain ⟨g5, kc5, rfl, _, hr5⟩ := owned ho5 hune
      have HR5 := hide hr5
      have HR := hide (HR2.out.below hb5)
      have HB5 := hide (hB4.trans (hb5.mono hB4.size))
      clear hb4 hB4 hs4 ho5 hr5 hb5 HR2
      rw [hlu]
      go_wp2_with fail
      go_loopw [46] (fun i wr => ∃ k : Nat, k ≤ ts.length ∧ i = .int .i64 k ∧ Below w5.heap.size w5 wr) (fun i _ => ts.length - (intOf i).toNat)
      case atStart => exact ⟨0, Nat.zero_le _, rfl, Below.refl _ _⟩
      case round =>
        obtain ⟨k, hk, rfl, hbr⟩ := hrel
        by_cases hlt : k < ts.length
        · have ht1 : ts[k]? = some ts[k] := List.getElem?_eq_getElem hlt
          have hu1 : us[k]? = some us[k] := List.getElem?_eq_getElem (by omega)
          have heq : at0 us[k] = at0 ts[k] := by
            have := congrArg (·[k]?) hmap
            simpa [List.getElem?_map, ht1, hu1] using this
          generalize ts[k] = t at ht1 heq
          generalize us[k] = u at hu1 heq
          have h5 := (HR5.out.below hbr).range hu1
          have hA := hbr.alloc hbr.size (.cells #[.int .i64 t.k, .int .i64 u.a, .string (S t.t), .int .u32 t.v] 33)
          have hA2 := hbr.alloc hbr.size (.cells #[.int .i64 t.k, .int .i64 t.a, .string (S t.t), .int .u32 t.v] 33)
          have R1 := HR.out.below hA
          have R2 := HR.out.below hA2
          have h2 := R2.range ht1
          have m1 := R1.a k _ ht1
          have k0 := R2.k k _ ht1
          have k1 := R2.a k _ ht1
          have k2 := R2.t k _ ht1
          have k3 := R2.v k _ ht1
          have hq := fun w => (neq_tok w t t).trans (by rw [eqT_self])
          obtain ⟨tk, ta, tt, tv⟩ := t
          obtain ⟨uk, ua, ut, uv⟩ := u
          simp only [at0, T.mk.injEq, true_and] at heq
          obtain ⟨rfl, rfl, rfl⟩ := heq
          simp only [tA] at h5 h2 hq m1 k0 k1 k2 k3
          replace h5 := hide h5
          replace h2 := hide h2
          have HK := hide hA2
          clear hA hA2 R1 R2 hbr ht1 hu1
          go_wp2_with (first
            | (refine wpList_load_mid rfl 33 _ rfl g5 (k * 4) rfl [.int .i64 uk, .int .i64 ua, .string (S ut), .int .u32 uv] _ h5.out Tryd.underlying33 rfl info_tok ?_))
          go_quiet (fail)
          go_wp2_with fail
          exact ⟨⟨k + 1, by omega, by go_num, below_dn HK.out nq⟩, by simp [intOf]; omega⟩
        · go_wp2_with fail
          go_ret
          exact ⟨rfl, HB5.out.trans (hbr.mono HB5.out.size)⟩

end Go.Proofs.YtcplkdiieeefiaaDoor.Lex

