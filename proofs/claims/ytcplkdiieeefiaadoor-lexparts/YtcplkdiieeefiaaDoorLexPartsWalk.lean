/- The statement LexParts, walked. -/
import Derived.Test.YtcplkdiieeefiaaDoorLexJoinsWalk
import Derived.Test.YtcplkdiieeefiaaDoorLexShowM
import Derived.Deep.QuietTactic
import Derived.BigQuiet
set_option linter.unusedVariables false
set_option linter.unusedSimpArgs false
namespace Go.Proofs.YtcplkdiieeefiaaDoor.Lex
open Go.RowKit

theorem drop_head {ts us : List T} {k : Nat} {t : T} (h : ts.drop k = t :: us) : ts[k]? = some t ∧ ts.drop (k + 1) = us ∧ ts.length = k + 1 + us.length := by
  have h1 : ts[k]? = some t := by
    have := congrArg (·[0]?) h
    simpa using this
  have h2 : ts.drop (k + 1) = us := by
    rw [← List.drop_drop, h]
    rfl
  have h3 := congrArg List.length h
  have h4 : k < ts.length := (List.getElem?_eq_some_iff.1 h1).1
  simp at h3
  exact ⟨h1, h2, by omega⟩
theorem parts_step {l : List UInt8} {ts : List T} {k A : Nat} (hA : A ≤ l.length) (h : toks (l.drop A) A = .ok (ts.drop k)) :
    ∃ (K : Int) (X : List UInt8) (V : Int), ts[k]? = some ⟨K, ((A + gap false (l.drop A) : Nat) : Int), X, V⟩ ∧ A + gap false (l.drop A) + X.length ≤ l.length ∧ (l.drop (A + gap false (l.drop A))).take X.length = X ∧
      ((K = 4 ∧ k + 1 = ts.length) ∨ (K ≠ 4 ∧ k + 1 < ts.length)) ∧ (k + 1 < ts.length → toks (l.drop (A + gap false (l.drop A) + X.length)) (A + gap false (l.drop A) + X.length) = .ok (ts.drop (k + 1))) ∧
      (k + 1 = ts.length → A + gap false (l.drop A) + X.length = l.length) := by
  have hgl := gap_le false (l.drop A)
  rw [List.length_drop] at hgl
  by_cases h1 : (l.drop A).drop (gap false (l.drop A)) = []
  · rw [toks_end _ A h1] at h
    injection h with h
    obtain ⟨h2, h3, h4⟩ := drop_head h.symm
    have hz := congrArg List.length h1
    simp at hz
    simp at h4
    exact ⟨4, [], 0, h2, by simp; omega, rfl, .inl ⟨rfl, h4.symm⟩, fun h5 => by omega, fun _ => by simp; omega⟩
  · by_cases hk : (tok ((l.drop A).drop (gap false (l.drop A)))).k = 0
    · rw [toks_bad _ A h1 hk] at h; cases h
    · have hl := tok_len _ h1 hk
      have hk3 := tok_kind ((l.drop A).drop (gap false (l.drop A)))
      rw [toks_good _ A h1 hk hl.1] at h
      have e : (l.drop A).drop (gap false (l.drop A)) = l.drop (A + gap false (l.drop A)) := List.drop_drop
      rw [e] at h hl hk hk3
      generalize gap false (l.drop A) = G at *
      obtain ⟨vs, h2, h3⟩ := pre_ok h
      obtain ⟨h4, h5, h6⟩ := drop_head h3
      have hv := List.length_pos_iff.2 (toks_some h2)
      rw [List.drop_drop] at h2
      rw [List.length_drop] at hl
      have hX : ((l.drop (A + G)).take (tok (l.drop (A + G))).n).length = (tok (l.drop (A + G))).n := by rw [List.length_take, List.length_drop]; omega
      have h6' : ts.length = k + 1 + vs.length := h6
      refine ⟨((tok (l.drop (A + G))).k : Nat), (l.drop (A + G)).take (tok (l.drop (A + G))).n, (tok (l.drop (A + G))).v, h4, ?_, ?_, .inr ⟨by omega, by omega⟩, fun _ => ?_, fun h7 => by omega⟩
      · rw [hX]; omega
      · rw [hX]
      · rw [hX, h5]; exact h2

/-- A part of a slice of bytes. -/
theorem sub_src {w : World} {p : Option Addr} {cap P N : Nat} {l X : List UInt8} (h : Src w p l.length l) (hc : l.length ≤ cap) (hP : P + N ≤ l.length) (hX : (l.drop P).take N = X) :
    Src w (if cap = P then p else Option.map (fun x => x.add P) p) N X := by
  have hXl : X.length = N := by rw [← hX, List.length_take, List.length_drop]; omega
  refine ⟨by omega, ?_⟩
  by_cases h0 : N = 0
  · exact .inl (by omega)
  · rcases h.cells with h1 | ⟨b, off, rfl, hlt, hcell⟩
    · omega
    · refine .inr ⟨b, off + P, ?_, hlt, fun i hi => ?_⟩
      · rw [if_neg (by omega)]
        show some ((⟨b, off, none⟩ : Addr).add P) = _
        rw [Addr.add_mid]
      · rw [Nat.add_assoc, hcell (P + i) (by omega), ← hX, byt_take _ _ _ (by omega), byt_drop]

theorem drewN_lt {w : World} (o : Obj) (n : Nat) : w.heap.size < ((w.alloc o).drewN n).heap.size := by
  show w.heap.size < (w.alloc o).heap.size
  simp
theorem drewN_cell {w : World} {cs : Array Value} {t : TypeId} {k : Nat} {v : Value} (n : Nat) (u : Unit) (h : cs[k]? = some v) : ((w.alloc (.cells cs t)).drewN n).cell? ⟨w.heap.size, k, none⟩ = some v :=
  (World.cell?_alloc_mark w cs t (0, 0) k).trans h

/-- Where the rounds stand: the tokens from the k-th one on begin at A. -/
inductive PRel (l : List UInt8) (ts : List T) (w : World) (at' i : Value) (wr : World) : Prop
  | mk (k A : Nat) (hk : k ≤ ts.length) (hA : A ≤ l.length) (hi : i = .int .i64 k) (ha : at' = .int .i64 A) (hb : Below w.heap.size w wr) (h1 : k < ts.length → toks (l.drop A) A = .ok (ts.drop k)) (h2 : k = ts.length → A = l.length) : PRel l ts w at' i wr

set_option maxRecDepth 100000 in
set_option maxHeartbeats 8000000 in
theorem lexParts_any (l : List UInt8) (p : Option Addr) (n cap : Nat) (w : World) (hS : Sig w) (hp : Src w p n l) (hn : n ≤ cap) (hc : cap ≤ maxLen) (hc1 : p = none → cap = 0) :
    Calls Tryd.prog 5 #[.slice p n cap] w fun e w' => e = .returned (.bool true) ∧ Below w.heap.size w w' := by
  obtain rfl := hp.len
  by_cases hbig : 20000 < l.length
  · go_enter Tryd.func5, Tryd.ntmps5
    go_wp2_with (go_at_call 8; refine (anchor9_any _ hS).mono ?_; rintro e w1 ⟨rfl, hb1⟩)
    go_ret
    exact ⟨rfl, hb1⟩
  · go_enter Tryd.func5, Tryd.ntmps5
    go_wp2_with (go_at_call 8; refine (anchor9_any _ hS).mono ?_; rintro e w1 ⟨rfl, hb1⟩)
    refine (Tokens_any l p l.length cap w1 (hS.below hb1) (hp.below hb1) (by omega)).mono ?_
    rintro e w2 ⟨hR, hb2⟩
    have hB2 := hb1.trans (hb2.mono hb1.size)
    have HB2 := hide hB2
    have hx : lexed l = toks l 0 := by unfold lexed; rw [if_neg (by omega)]
    rw [hx] at hR
    clear hb1 hb2 hB2
    cases ht : toks l 0 with
    | error ea =>
      obtain ⟨n2, a2⟩ := ea
      rw [ht] at hR
      obtain rfl := hR
      have hbe := toks_err _ l 0 n2 a2 (Nat.le_refl _) ht
      have hne : ((n2 : Int) != 0) = true := by simp; omega
      go_wp2_with fail
      go_ret
      exact ⟨rfl, HB2.out⟩
    | ok ts =>
      rw [ht] at hR
      obtain ⟨v, rfl, ho⟩ := hR
      have htl := toks_len _ l 0 ts (Nat.le_refl _) ht
      have hne := toks_some ht
      obtain ⟨g, kc, rfl, _, hr⟩ := owned ho hne
      have HR := hide hr
      clear hr ho
      have ht1 : 0 < ts.length := List.length_pos_iff.2 hne
      go_wp2_with fail
      go_loopw [6, 27] (fun at' i wr => PRel l ts w2 at' i wr) (fun _ i _ => ts.length - (intOf i).toNat)
      case atStart => exact ⟨0, 0, Nat.zero_le _, Nat.zero_le _, rfl, rfl, Below.refl _ _, fun _ => ht, fun h => by omega⟩
      case round =>
        obtain ⟨k, A, hk, hA, rfl, rfl, hbr, hto, hend⟩ := hrel
        by_cases hlt : k < ts.length
        · obtain ⟨K, X, V, hti, hPl, hX, hK, hn1, hn2⟩ := parts_step hA (hto hlt)
          have hG := lexed_gap (l.drop A) (by rw [List.length_drop]; omega)
          have hgl := gap_le false (l.drop A)
          rw [List.length_drop] at hgl
          generalize gap false (l.drop A) = G at *
          generalize hP : A + G = P at *
          have h1 := (HR.out.below hbr).range hti
          simp only [tA] at h1
          replace h1 := hide h1
          have HK := hide hbr
          have HN1 := hide hn1
          have HN2 := hide hn2
          clear hbr hto hend hn1 hn2
          rcases hK with ⟨hK, hkl⟩ | ⟨hK, hkl⟩
          · subst hK
            have e1 : ((4 : Int) == 4) = true := rfl
            have e2 : ((k : Int) == (ts.length : Int) - 1) = true := by simp; omega
            go_wp2_with (refine wpList_load_mid rfl 33 _ rfl g (k * 4) rfl [.int .i64 4, .int .i64 (P : Nat), .string (S X), .int .u32 V] _ h1.out Tryd.underlying33 rfl info_tok ?_)
            have d1 : decide (P < A) = false := by simp; omega
            have d2 : decide (l.length < P) = false := by simp; omega
            have d3 : decide ((l.length : Int) - (P : Int) < (X.length : Int)) = false := by simp; omega
            have z1 : (S X).size = X.length := rfl
            have j0 : (0 : Int) ≤ (P : Int) := by omega
            have j1 : (P : Int) ≤ (P : Int) + X.length := by omega
            have j2 : (P : Int) + X.length ≤ cap := by omega
            have hAl := HK.out.alloc HK.out.size (.cells #[.int .i64 4, .int .i64 (P : Nat), .string (S X), .int .u32 V] 33)
            have hcv : ∀ n, (convert 22 9 (.slice (if cap = P then p else Option.map (fun x => x.add P) p) X.length (cap - P))).run Tryd.prog ((wr.alloc (.cells #[.int .i64 4, .int .i64 (P : Nat), .string (S X), .int .u32 V] 33)).drewN n) = .ok (.string (S X)) ((wr.alloc (.cells #[.int .i64 4, .int .i64 (P : Nat), .string (S X), .int .u32 V] 33)).drewN n) := fun n =>
              conv_src (cap - P) (sub_src (hp.below (HB2.out.trans ((below_dn hAl n).mono HB2.out.size))) hn hPl hX)
            refine wp_region_quiet_lit (by kernel_rfl) (by kernel_rfl) ?_
            repeat (any_goals (first | go_big_quiet_step (fail) | quiet_step (fail)))
            refine wpQuiet_nil ?_
            intro _ hw'
            obtain ⟨nq, hw''⟩ := hw'
            subst hw''
            have hBq := below_dn hAl nq
            have hBw := HB2.out.trans (hBq.mono HB2.out.size)
            have hGe : P - A = G := by omega
            have hxl : ((l.drop A).take G).length = G := by rw [List.length_take, List.length_drop]; omega
            have hsA : ∀ p', (cap ≠ A → p' = Option.map (fun x => x.add A) p) → Src ((wr.alloc (.cells #[.int .i64 4, .int .i64 (P : Nat), .string (S X), .int .u32 V] 33)).drewN nq) p' G ((l.drop A).take G) := fun p' hp' => by
              by_cases h0 : G = 0
              · exact ⟨hxl, .inl h0⟩
              · have h2 := sub_src (P := A) (N := G) (hp.below hBw) hn (by omega) rfl
                rw [if_neg (by omega)] at h2
                rw [hp' (by omega)]
                exact h2
            clear d1 d2 d3 j0 j1 j2
            have j0 : (0 : Int) ≤ (A : Int) := by omega
            have j1 : (A : Int) ≤ (P : Int) := by omega
            have j2 : (P : Int) ≤ cap := by omega
            go_wp2_with fail
            · have q1 : cap = A := by assumption
              have q2 : A = P := by assumption
              subst q1
              subst q2
              have hT2 := Tokens_any ((l.drop cap).take G) p G 0 _ (hS.below hBw) ⟨hxl, .inl (by omega)⟩ (by unfold maxLen; omega)
              refine hT2.mono ?_
              clear hT2
              rintro e w4 ⟨hR4, hb4⟩
              rw [hG] at hR4
              obtain ⟨v4, rfl, ho4⟩ := hR4
              obtain ⟨g4, k4, rfl, _, _⟩ := owned ho4 (by simp)
              have HB4 := hide (hBq.trans (hb4.mono hBq.size))
              have cP : w4.cell? ⟨wr.heap.size, 1, none⟩ = some (.int .i64 (cap : Nat)) := (hb4.cell (p := ⟨wr.heap.size, 1, none⟩) (drewN_lt _ _)).trans (drewN_cell _ () rfl)
              have cX : w4.cell? ⟨wr.heap.size, 2, none⟩ = some (.string (S X)) := (hb4.cell (p := ⟨wr.heap.size, 2, none⟩) (drewN_lt _ _)).trans (drewN_cell _ () rfl)
              clear ho4 hb4 hBq hBw hsA
              go_wp2_with fail
              go_roundw
              case rel => exact ⟨k + 1, cap + X.length, by omega, hPl, by go_num, by go_num, HB4.out, HN1.out, HN2.out⟩
              case measure => simp [intOf]; omega
            · have q2 : cap = P := by assumption
              subst q2
              have hT2 := Tokens_any ((l.drop A).take G) (Option.map (fun x => x.add A) p) G G _ (hS.below hBw) (hsA _ (fun _ => rfl)) (by unfold maxLen at hc ⊢; omega)
              refine hT2.mono ?_
              clear hT2
              rintro e w4 ⟨hR4, hb4⟩
              rw [hG] at hR4
              obtain ⟨v4, rfl, ho4⟩ := hR4
              obtain ⟨g4, k4, rfl, _, _⟩ := owned ho4 (by simp)
              have HB4 := hide (hBq.trans (hb4.mono hBq.size))
              have cP : w4.cell? ⟨wr.heap.size, 1, none⟩ = some (.int .i64 (cap : Nat)) := (hb4.cell (p := ⟨wr.heap.size, 1, none⟩) (drewN_lt _ _)).trans (drewN_cell _ () rfl)
              have cX : w4.cell? ⟨wr.heap.size, 2, none⟩ = some (.string (S X)) := (hb4.cell (p := ⟨wr.heap.size, 2, none⟩) (drewN_lt _ _)).trans (drewN_cell _ () rfl)
              clear ho4 hb4 hBq hBw hsA
              go_wp2_with fail
              go_roundw
              case rel => exact ⟨k + 1, cap + X.length, by omega, hPl, by go_num, by go_num, HB4.out, HN1.out, HN2.out⟩
              case measure => simp [intOf]; omega
            · have hT2 := Tokens_any ((l.drop A).take G) (Option.map (fun x => x.add A) p) G (cap - A) _ (hS.below hBw) (hsA _ (fun _ => rfl)) (by unfold maxLen at hc ⊢; omega)
              refine hT2.mono ?_
              clear hT2
              rintro e w4 ⟨hR4, hb4⟩
              rw [hG] at hR4
              obtain ⟨v4, rfl, ho4⟩ := hR4
              obtain ⟨g4, k4, rfl, _, _⟩ := owned ho4 (by simp)
              have HB4 := hide (hBq.trans (hb4.mono hBq.size))
              have cP : w4.cell? ⟨wr.heap.size, 1, none⟩ = some (.int .i64 (P : Nat)) := (hb4.cell (p := ⟨wr.heap.size, 1, none⟩) (drewN_lt _ _)).trans (drewN_cell _ () rfl)
              have cX : w4.cell? ⟨wr.heap.size, 2, none⟩ = some (.string (S X)) := (hb4.cell (p := ⟨wr.heap.size, 2, none⟩) (drewN_lt _ _)).trans (drewN_cell _ () rfl)
              clear ho4 hb4 hBq hBw hsA
              go_wp2_with fail
              go_roundw
              case rel => exact ⟨k + 1, P + X.length, by omega, hPl, by go_num, by go_num, HB4.out, HN1.out, HN2.out⟩
              case measure => simp [intOf]; omega
          · have e1 : (K == 4) = false := by simpa using hK
            have e2 : ((k : Int) == (ts.length : Int) - 1) = false := by simp; omega
            go_wp2_with (refine wpList_load_mid rfl 33 _ rfl g (k * 4) rfl [.int .i64 K, .int .i64 (P : Nat), .string (S X), .int .u32 V] _ h1.out Tryd.underlying33 rfl info_tok ?_)
            have d1 : decide (P < A) = false := by simp; omega
            have d2 : decide (l.length < P) = false := by simp; omega
            have d3 : decide ((l.length : Int) - (P : Int) < (X.length : Int)) = false := by simp; omega
            have z1 : (S X).size = X.length := rfl
            have j0 : (0 : Int) ≤ (P : Int) := by omega
            have j1 : (P : Int) ≤ (P : Int) + X.length := by omega
            have j2 : (P : Int) + X.length ≤ cap := by omega
            have hAl := HK.out.alloc HK.out.size (.cells #[.int .i64 K, .int .i64 (P : Nat), .string (S X), .int .u32 V] 33)
            have hcv : ∀ n, (convert 22 9 (.slice (if cap = P then p else Option.map (fun x => x.add P) p) X.length (cap - P))).run Tryd.prog ((wr.alloc (.cells #[.int .i64 K, .int .i64 (P : Nat), .string (S X), .int .u32 V] 33)).drewN n) = .ok (.string (S X)) ((wr.alloc (.cells #[.int .i64 K, .int .i64 (P : Nat), .string (S X), .int .u32 V] 33)).drewN n) := fun n =>
              conv_src (cap - P) (sub_src (hp.below (HB2.out.trans ((below_dn hAl n).mono HB2.out.size))) hn hPl hX)
            refine wp_region_quiet_lit (by kernel_rfl) (by kernel_rfl) ?_
            repeat (any_goals (first | go_big_quiet_step (fail) | quiet_step (fail)))
            refine wpQuiet_nil ?_
            intro _ hw'
            obtain ⟨nq, hw''⟩ := hw'
            subst hw''
            have hBq := below_dn hAl nq
            have hBw := HB2.out.trans (hBq.mono HB2.out.size)
            have hGe : P - A = G := by omega
            have hxl : ((l.drop A).take G).length = G := by rw [List.length_take, List.length_drop]; omega
            have hsA : ∀ p', (cap ≠ A → p' = Option.map (fun x => x.add A) p) → Src ((wr.alloc (.cells #[.int .i64 K, .int .i64 (P : Nat), .string (S X), .int .u32 V] 33)).drewN nq) p' G ((l.drop A).take G) := fun p' hp' => by
              by_cases h0 : G = 0
              · exact ⟨hxl, .inl h0⟩
              · have h2 := sub_src (P := A) (N := G) (hp.below hBw) hn (by omega) rfl
                rw [if_neg (by omega)] at h2
                rw [hp' (by omega)]
                exact h2
            clear d1 d2 d3 j0 j1 j2
            have j0 : (0 : Int) ≤ (A : Int) := by omega
            have j1 : (A : Int) ≤ (P : Int) := by omega
            have j2 : (P : Int) ≤ cap := by omega
            go_wp2_with fail
            · have q1 : cap = A := by assumption
              have q2 : A = P := by assumption
              subst q1
              subst q2
              have hT2 := Tokens_any ((l.drop cap).take G) p G 0 _ (hS.below hBw) ⟨hxl, .inl (by omega)⟩ (by unfold maxLen; omega)
              refine hT2.mono ?_
              clear hT2
              rintro e w4 ⟨hR4, hb4⟩
              rw [hG] at hR4
              obtain ⟨v4, rfl, ho4⟩ := hR4
              obtain ⟨g4, k4, rfl, _, _⟩ := owned ho4 (by simp)
              have HB4 := hide (hBq.trans (hb4.mono hBq.size))
              have cP : w4.cell? ⟨wr.heap.size, 1, none⟩ = some (.int .i64 (cap : Nat)) := (hb4.cell (p := ⟨wr.heap.size, 1, none⟩) (drewN_lt _ _)).trans (drewN_cell _ () rfl)
              have cX : w4.cell? ⟨wr.heap.size, 2, none⟩ = some (.string (S X)) := (hb4.cell (p := ⟨wr.heap.size, 2, none⟩) (drewN_lt _ _)).trans (drewN_cell _ () rfl)
              clear ho4 hb4 hBq hBw hsA
              go_wp2_with fail
              go_roundw
              case rel => exact ⟨k + 1, cap + X.length, by omega, hPl, by go_num, by go_num, HB4.out, HN1.out, HN2.out⟩
              case measure => simp [intOf]; omega
            · have q2 : cap = P := by assumption
              subst q2
              have hT2 := Tokens_any ((l.drop A).take G) (Option.map (fun x => x.add A) p) G G _ (hS.below hBw) (hsA _ (fun _ => rfl)) (by unfold maxLen at hc ⊢; omega)
              refine hT2.mono ?_
              clear hT2
              rintro e w4 ⟨hR4, hb4⟩
              rw [hG] at hR4
              obtain ⟨v4, rfl, ho4⟩ := hR4
              obtain ⟨g4, k4, rfl, _, _⟩ := owned ho4 (by simp)
              have HB4 := hide (hBq.trans (hb4.mono hBq.size))
              have cP : w4.cell? ⟨wr.heap.size, 1, none⟩ = some (.int .i64 (cap : Nat)) := (hb4.cell (p := ⟨wr.heap.size, 1, none⟩) (drewN_lt _ _)).trans (drewN_cell _ () rfl)
              have cX : w4.cell? ⟨wr.heap.size, 2, none⟩ = some (.string (S X)) := (hb4.cell (p := ⟨wr.heap.size, 2, none⟩) (drewN_lt _ _)).trans (drewN_cell _ () rfl)
              clear ho4 hb4 hBq hBw hsA
              go_wp2_with fail
              go_roundw
              case rel => exact ⟨k + 1, cap + X.length, by omega, hPl, by go_num, by go_num, HB4.out, HN1.out, HN2.out⟩
              case measure => simp [intOf]; omega
            · have hT2 := Tokens_any ((l.drop A).take G) (Option.map (fun x => x.add A) p) G (cap - A) _ (hS.below hBw) (hsA _ (fun _ => rfl)) (by unfold maxLen at hc ⊢; omega)
              refine hT2.mono ?_
              clear hT2
              rintro e w4 ⟨hR4, hb4⟩
              rw [hG] at hR4
              obtain ⟨v4, rfl, ho4⟩ := hR4
              obtain ⟨g4, k4, rfl, _, _⟩ := owned ho4 (by simp)
              have HB4 := hide (hBq.trans (hb4.mono hBq.size))
              have cP : w4.cell? ⟨wr.heap.size, 1, none⟩ = some (.int .i64 (P : Nat)) := (hb4.cell (p := ⟨wr.heap.size, 1, none⟩) (drewN_lt _ _)).trans (drewN_cell _ () rfl)
              have cX : w4.cell? ⟨wr.heap.size, 2, none⟩ = some (.string (S X)) := (hb4.cell (p := ⟨wr.heap.size, 2, none⟩) (drewN_lt _ _)).trans (drewN_cell _ () rfl)
              clear ho4 hb4 hBq hBw hsA
              go_wp2_with fail
              go_roundw
              case rel => exact ⟨k + 1, P + X.length, by omega, hPl, by go_num, by go_num, HB4.out, HN1.out, HN2.out⟩
              case measure => simp [intOf]; omega
        · have hkl : k = ts.length := by omega
          have hAl : A = l.length := hend hkl
          go_wp2_with fail
          go_ret
          exact ⟨rfl, HB2.out.trans (hbr.mono HB2.out.size)⟩

end Go.Proofs.YtcplkdiieeefiaaDoor.Lex

