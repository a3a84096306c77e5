/- Package lex's Show: a contract. -/
import Derived.Test.YtcplkdiieeefiaaDoorLexTokensWalk
import Derived.Test.YtcplkdiieeefiaaDoorLexShowM
import Derived.Test.YtcplkdiieeefiaaDoorLexBuild
set_option linter.unusedVariables false
set_option linter.unusedSimpArgs false
namespace Go.Proofs.YtcplkdiieeefiaaDoor.Lex
open Go.RowKit

theorem shows_app (a b : List T) : shows (a ++ b) = shows a ++ shows b := by simp [shows]
theorem shows_take {ts : List T} {k : Nat} {t : T} (h : ts[k]? = some t) : shows (ts.take (k + 1)) = shows (ts.take k) ++ (if t.k = 4 then t.t else t.t ++ [32]) := by
  have hk : k < ts.length := (List.getElem?_eq_some_iff.1 h).1
  have ht : ts[k] = t := (List.getElem?_eq_some_iff.1 h).2
  rw [List.take_succ_eq_append_getElem hk, shows_app, ht]
  simp [shows]
theorem shows_le (ts : List T) (k : Nat) : (shows (ts.take k)).length ≤ (shows ts).length := by
  have h : shows ts = shows (ts.take k) ++ shows (ts.drop k) := by rw [← shows_app, List.take_append_drop]
  rw [h, List.length_append]
  omega

theorem lt_bl {B0 b : Nat} {l : List UInt8} {w : World} (h : Bl B0 b l w) : b < w.heap.size := by
  rcases h.1 with h1 | h1
  · exact h1.lt
  · exact h1.lt

inductive WRel (ts : List T) (w : World) (i : Value) (wr : World) : Prop
  | mk (k : Nat) (hk : k ≤ ts.length) (hi : i = .int .i64 k) (hb : Below w.heap.size w wr) (hl : Bl w.heap.size w.heap.size (shows (ts.take k)) wr) : WRel ts w i wr

set_option maxRecDepth 100000 in
set_option maxHeartbeats 4000000 in
theorem Show_any (ts : List T) (g cap : Nat) (w : World) (hr : Row w g ts) (hlen : (shows ts).length ≤ 90000) (htl : ts.length ≤ 70000) :
    Calls Tryd.prog 11 #[.slice (some ⟨g, 0, none⟩) ts.length cap] w fun e w' => e = .returned (.string (S (shows ts))) ∧ Below w.heap.size w w' := by
  have hbl := bl_new w
  have hb0 := (Below.refl w.heap.size w).alloc (Nat.le_refl _) (.cells #[.pointer none, .slice none 0 0] 46)
  go_enter Tryd.func11, Tryd.ntmps11
  go_wp2_with fail
  go_loopw [8] (fun i wr => WRel ts w i wr) (fun i _ => ts.length - (intOf i).toNat)
  case atStart => exact ⟨0, Nat.zero_le _, rfl, hb0, hbl⟩
  case round =>
    obtain ⟨k, hk, rfl, hb, hl⟩ := hrel
    by_cases hlt : k < ts.length
    · have ht : ts[k]? = some ts[k] := List.getElem?_eq_getElem hlt
      generalize ts[k] = t at ht
      have h1 := (hr.below hb).range ht
      have hst := hide (shows_take ht)
      have hle := shows_le ts (k + 1)
      obtain ⟨tk, ta, tt, tv⟩ := t
      simp only [tA] at h1
      replace h1 := hide h1
      have HB := hide hb
      have hlA := hl.alloc (.cells #[.int .i64 tk, .int .i64 ta, .string (S tt), .int .u32 tv] 33)
      have HL := hide hl
      clear hbl hb0 hb hl
      go_wp2_with (refine wpList_load_mid rfl 33 _ rfl g (k * 4) rfl [.int .i64 tk, .int .i64 ta, .string (S tt), .int .u32 tv] _ h1.out Tryd.underlying33 rfl info_tok ?_)
      have hBA := HB.out.alloc HB.out.size (.cells #[.int .i64 tk, .int .i64 ta, .string (S tt), .int .u32 tv] 33)
      have hq := hst.out
      have hln : (shows (ts.take k)).length + tt.length ≤ (shows (ts.take (k + 1))).length := by
        rw [hq, List.length_append]
        split <;> simp
      refine (WriteString_any w.heap.size w.heap.size (shows (ts.take k)) (S tt) _ hlA (by rw [S_size]; omega) hBA.size).mono ?_
      rintro e w1 ⟨rfl, hl1, hb1, hk1⟩
      have hB1 := hBA.trans hb1
      have hrow : (wr.alloc (.cells #[.int .i64 tk, .int .i64 ta, .string (S tt), .int .u32 tv] 33)).heap[wr.heap.size]? = some (.cells #[.int .i64 tk, .int .i64 ta, .string (S tt), .int .u32 tv] 33 (0, 0)) := heap_alloc_new wr _
      have hrow1 := (hk1 _ _ _ _ hrow (by decide) (by have := lt_bl HL.out; omega)).trans hrow
      have c0 : w1.cell? ⟨wr.heap.size, 0, none⟩ = some (.int .i64 tk) := by rw [Lib.cell_of_heap hrow1]; rfl
      rw [B_S] at hl1
      clear hlA hBA hb1 hk1 hrow hrow1
      by_cases h4 : tk = 4
      · rw [if_pos h4] at hq
        rw [← hq] at hl1
        have e4 : (tk != 4) = false := by simpa using h4
        clear hq
        have HL1 := hide hl1
        have HB1 := hide hB1
        clear hl1 hB1
        go_wp2_with fail
        exact ⟨.mk (k + 1) (by omega) (by go_num) HB1.out HL1.out, by simp [intOf]; omega⟩
      · rw [if_neg h4] at hq
        have e4 : (tk != 4) = true := by simpa using h4
        have hq2 : shows (ts.take k) ++ tt ++ [32] = shows (ts.take (k + 1)) := by rw [hq, List.append_assoc]
        have hwb := WriteByte_any w.heap.size w.heap.size (shows (ts.take k) ++ tt) 32 w1 hl1 (by rw [List.length_append]; omega) hB1.size
        rw [hq2] at hwb
        clear hq hq2 hl1
        have HB1 := hide hB1
        clear hB1
        go_wp2_with (go_at_call 22; refine hwb.mono ?_; rintro e w2 ⟨rfl, hl2, hb2⟩)
        exact ⟨.mk (k + 1) (by omega) (by go_num) (HB1.out.trans hb2) hl2, by simp [intOf]; omega⟩
    · obtain rfl : k = ts.length := by omega
      rw [List.take_of_length_le (Nat.le_refl _)] at hl
      go_wp2_with (go_at_call 23; refine (String_any _ _ _ _ hl).mono ?_; rintro e w1 ⟨rfl, hb1⟩)
      go_ret
      exact ⟨rfl, hb.trans hb1⟩

end Go.Proofs.YtcplkdiieeefiaaDoor.Lex

