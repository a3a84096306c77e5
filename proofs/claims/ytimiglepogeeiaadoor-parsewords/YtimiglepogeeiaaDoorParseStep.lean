/- A reader's small steps: contracts. -/
import Derived.Test.YtimiglepogeeiaaDoorParseRd
import Derived.Deep.QuietTactic
import Derived.BigQuiet
import Derived.Great.Walk
set_option linter.unusedVariables false
set_option linter.unusedSimpArgs false
namespace Go.Proofs.YtimiglepogeeiaaDoor.Parse
open Go.RowKit Go.Proofs.YtimiglepogeeiaaDoor.Lex

theorem info_tk : (Tryd.prog.info? 53).map (·.size) = some 4 := by kernel_rfl

section
variable {w : World} {b g c : Nat} {L : List T} {r : R}

set_option maxHeartbeats 2000000 in
theorem next_any (h : Rd w b g c L r) : Calls Tryd.prog 20 #[.pointer (some ⟨b, 0, none⟩)] w fun e w' => e = .returned (.agg (tA (tk L r))) ∧ Below w.heap.size w w' := by
  have h0 := h.c0
  have ht := h.tok
  have hlt := h.lt
  have hbz := h.ltb
  have hgz := h.row.lt
  have k0 := h.row.k _ _ ht
  have k1 := h.row.a _ _ ht
  have k2 := h.row.t _ _ ht
  have k3 := h.row.v _ _ ht
  obtain ⟨N, hN⟩ : ∃ N, L.length - r.i = N := ⟨_, rfl⟩
  have hN0 : 0 < N := by omega
  rw [hN] at h0
  clear hN ht
  generalize tk L r = t at *
  obtain ⟨tk, ta, tt, tv⟩ := t
  dsimp only at k0 k1 k2 k3
  have hB := (Below.refl w.heap.size w).alloc (Nat.le_refl _) (.cells #[.int .i64 tk, .int .i64 ta, .string (S tt), .int .u32 tv] 53)
  go_enter Tryd.func20, Tryd.ntmps20
  go_wp2_with fail
  exact bodyPost_ret (v := .agg (tA ⟨tk, ta, tt, tv⟩)) (results_cell_row (fn := Tryd.f20) rfl _ _ w.heap.size 53 _ (0, 0) _ rfl (heap_new w _ _) Tryd.underlying53 rfl info_tk) rfl ⟨rfl, hB⟩

set_option maxHeartbeats 2000000 in
theorem refuse_any (h : Rd w b g c L r) (x : Int) : Calls Tryd.prog 55 #[.pointer (some ⟨b, 0, none⟩), .int .i64 x] w fun e w' => e = .returned (.tuple #[]) ∧ Rd w' b g c L (refu x r) ∧ But b w w' := by
  have h2 := h.c2
  have hf := h.free
  have H := hide h
  clear h
  by_cases he : r.e = 0
  · rw [show refu x r = ⟨r.i, r.n, x⟩ by unfold refu; rw [if_pos he]]
    rw [he] at h2
    go_enter Tryd.func55, Tryd.ntmps55
    go_wp2_with fail
    go_end0
    exact ⟨rfl, H.out.setE x, (But.refl b w).set 2 _⟩
  · rw [show refu x r = r by unfold refu; rw [if_neg he]]
    go_enter Tryd.func55, Tryd.ntmps55
    go_wp2_with fail
    go_end0
    exact ⟨rfl, H.out, But.refl b w⟩

/-- The box of a token that is told. -/
theorem tok_box {w w' : World} (h : Below (w.alloc (.cells #[.int .i64 0, .int .i64 0, .string ⟨#[]⟩, .int .u32 0] 53)).heap.size (w.alloc (.cells #[.int .i64 0, .int .i64 0, .string ⟨#[]⟩, .int .u32 0] 53)) w') : Bx w' w.heap.size 53 #[.int .i64 0, .int .i64 0, .string ⟨#[]⟩, .int .u32 0] :=
  Bx.below (heap_new w _ _) h

set_option maxHeartbeats 4000000 in
theorem must_yes (h : Rd w b g c L r) (hk : (tk L r).k ≠ 4 ∨ (tk L r).t ≠ []) (he : r.e = 0) :
    Calls Tryd.prog 78 #[.pointer (some ⟨b, 0, none⟩), .bool true] w fun e w' => e = .returned (.agg (tA (tk L r))) ∧ Rd w' b g c L (adv r) ∧ But b w w' := by
  have hi := h.next hk
  have hA := h.alloc (.cells #[.int .i64 0, .int .i64 0, .string ⟨#[]⟩, .int .u32 0] 53)
  have hn := next_any hA
  obtain ⟨N, hN⟩ : ∃ N, L.length - r.i = N := ⟨_, rfl⟩
  obtain ⟨D, hD⟩ : ∃ D, c - r.i = D := ⟨_, rfl⟩
  have hlt := h.lt
  have hcap := h.cap
  have hbz := h.ltb
  have hN0 : 2 ≤ N := by omega
  have hND : N ≤ D := by omega
  have HN := hide hN
  have HD := hide hD
  have HB := hide ((Below.refl w.heap.size w).alloc (Nat.le_refl _) (.cells #[.int .i64 0, .int .i64 0, .string ⟨#[]⟩, .int .u32 0] 53))
  generalize tk L r = t at hn ⊢
  obtain ⟨tk, ta, tt, tv⟩ := t
  simp only [tA] at hn
  clear hN hD hk
  go_enter Tryd.func78, Tryd.ntmps78
  go_wp2_with fail
  refine hn.mono ?_
  rintro e w1 ⟨rfl, hb1⟩
  have h1 := hA.kept hb1
  have h0 := h1.c0
  have h2 := h1.c2
  have hf := h1.free
  have hx := tok_box hb1
  have hfx := hx.free
  have x0 := hx.cell (k := 0) rfl
  have x1 := hx.cell (k := 1) rfl
  have x2 := hx.cell (k := 2) rfl
  have x3 := hx.cell (k := 3) rfl
  have hxl := hx.lt
  have hbl := h1.ltb
  rw [HN.out, HD.out] at h0
  rw [he] at h2
  have HR := hide h1
  replace hx := hide hx
  replace hb1 := hide hb1
  have hgl := h.row.lt
  clear h h1 hn
  have hD1 : ¬ (D = 1) := by omega
  go_wp2_with fail
  have hR := ((((HR.out.setL hi he (r.i * 4 + 4) (N - 1) (D - 1) rfl (by have := HN.out; omega) (by have := HD.out; omega)).put4 (.int .i64 tk) (.int .i64 ta) (.string (S tt)) (.int .u32 tv) (B := w.heap.size) (by omega) (by omega)).alloc (.cells #[.int .i64 tk, .int .i64 ta, .string (S tt), .int .u32 tv] 53)))
  have hBt := (((But.of_below (b := b) HB.out).trans (((But.of_below (b := b) hb1.out).set 0 (.slice (some ⟨g, r.i * 4 + 4, none⟩) (N - 1) (D - 1))))).put4 (B := w.heap.size) (Nat.le_refl _) (.int .i64 tk) (.int .i64 ta) (.string (S tt)) (.int .u32 tv)).alloc (.cells #[.int .i64 tk, .int .i64 ta, .string (S tt), .int .u32 tv] 53)
  have hXt := ((Bx.put4 (hx.out.other (p := ⟨b, 0, none⟩) (.slice (some ⟨g, r.i * 4 + 4, none⟩) (N - 1) (D - 1)) (by show w.heap.size ≠ b; omega)) (.int .i64 tk) (.int .i64 ta) (.string (S tt)) (.int .u32 tv)).alloc (.cells #[.int .i64 tk, .int .i64 ta, .string (S tt), .int .u32 tv] 53))
  exact bodyPost_ret (v := .agg (tA ⟨tk, ta, tt, tv⟩)) (results_cell_row (fn := Tryd.f78) rfl _ _ w.heap.size 53 _ (0, 0) _ rfl hXt Tryd.underlying53 rfl info_tk) rfl ⟨rfl, hR, hBt⟩

set_option maxHeartbeats 4000000 in
theorem must_wrong (h : Rd w b g c L r) (he : r.e ≠ 0) :
    Calls Tryd.prog 78 #[.pointer (some ⟨b, 0, none⟩), .bool true] w fun e w' => e = .returned (.agg (tA (tk L r))) ∧ Rd w' b g c L r ∧ But b w w' := by
  have hA := h.alloc (.cells #[.int .i64 0, .int .i64 0, .string ⟨#[]⟩, .int .u32 0] 53)
  have hn := next_any hA
  have hbz := h.ltb
  have hgl := h.row.lt
  have HB := hide ((Below.refl w.heap.size w).alloc (Nat.le_refl _) (.cells #[.int .i64 0, .int .i64 0, .string ⟨#[]⟩, .int .u32 0] 53))
  generalize tk L r = t at hn ⊢
  obtain ⟨tk, ta, tt, tv⟩ := t
  simp only [tA] at hn
  go_enter Tryd.func78, Tryd.ntmps78
  go_wp2_with fail
  refine hn.mono ?_
  rintro e w1 ⟨rfl, hb1⟩
  have h1 := hA.kept hb1
  have h2 := h1.c2
  have hx := tok_box hb1
  have hfx := hx.free
  have x0 := hx.cell (k := 0) rfl
  have x1 := hx.cell (k := 1) rfl
  have x2 := hx.cell (k := 2) rfl
  have x3 := hx.cell (k := 3) rfl
  have hxl := hx.lt
  have hbl := h1.ltb
  have HR := hide h1
  replace hx := hide hx
  replace hb1 := hide hb1
  clear h h1 hn hA
  go_wp2_with fail
  have hR := ((HR.out.put4 (.int .i64 tk) (.int .i64 ta) (.string (S tt)) (.int .u32 tv) (B := w.heap.size) (by omega) (by omega)).alloc (.cells #[.int .i64 tk, .int .i64 ta, .string (S tt), .int .u32 tv] 53))
  have hBt := (((But.of_below (b := b) HB.out).trans (But.of_below (b := b) hb1.out)).put4 (B := w.heap.size) (Nat.le_refl _) (.int .i64 tk) (.int .i64 ta) (.string (S tt)) (.int .u32 tv)).alloc (.cells #[.int .i64 tk, .int .i64 ta, .string (S tt), .int .u32 tv] 53)
  have hXt := ((Bx.put4 hx.out (.int .i64 tk) (.int .i64 ta) (.string (S tt)) (.int .u32 tv)).alloc (.cells #[.int .i64 tk, .int .i64 ta, .string (S tt), .int .u32 tv] 53))
  exact bodyPost_ret (v := .agg (tA ⟨tk, ta, tt, tv⟩)) (results_cell_row (fn := Tryd.f78) rfl _ _ w.heap.size 53 _ (0, 0) _ rfl hXt Tryd.underlying53 rfl info_tk) rfl ⟨rfl, hR, hBt⟩

set_option maxHeartbeats 4000000 in
theorem must_no (h : Rd w b g c L r) :
    Calls Tryd.prog 78 #[.pointer (some ⟨b, 0, none⟩), .bool false] w fun e w' => e = .returned (.agg (tA (tk L r))) ∧ Rd w' b g c L (refu 110 r) ∧ But b w w' := by
  have hA := h.alloc (.cells #[.int .i64 0, .int .i64 0, .string ⟨#[]⟩, .int .u32 0] 53)
  have hn := next_any hA
  have hbz := h.ltb
  have hgl := h.row.lt
  have hz : (refu 110 r).e ≠ 0 := by
    unfold refu; split
    · simp
    · assumption
  have HB := hide ((Below.refl w.heap.size w).alloc (Nat.le_refl _) (.cells #[.int .i64 0, .int .i64 0, .string ⟨#[]⟩, .int .u32 0] 53))
  generalize tk L r = t at hn ⊢
  obtain ⟨tk, ta, tt, tv⟩ := t
  simp only [tA] at hn
  go_enter Tryd.func78, Tryd.ntmps78
  go_wp2_with fail
  refine hn.mono ?_
  rintro e w1 ⟨rfl, hb1⟩
  have h1 := (hA.kept hb1).alloc (.cells #[.int .i64 tk, .int .i64 ta, .string (S tt), .int .u32 tv] 53)
  have hr := refuse_any h1 110
  have hx := (tok_box hb1).alloc (.cells #[.int .i64 tk, .int .i64 ta, .string (S tt), .int .u32 tv] 53)
  have hy := heap_new w1 #[.int .i64 tk, .int .i64 ta, .string (S tt), .int .u32 tv] 53
  have hB1 := ((But.of_below (b := b) HB.out).trans (But.of_below (b := b) hb1)).alloc (.cells #[.int .i64 tk, .int .i64 ta, .string (S tt), .int .u32 tv] 53)
  have hq := hb1.size
  simp at hq
  replace hx := hide hx
  replace hy := hide hy
  replace hB1 := hide hB1
  clear h h1 hn hA hb1 HB
  go_wp2_with fail
  refine hr.mono ?_
  rintro e w2 ⟨rfl, hR, hB⟩
  have hX : Bx w2 w.heap.size 53 #[.int .i64 0, .int .i64 0, .string ⟨#[]⟩, .int .u32 0] := Bx.but hx.out hB (by omega)
  have hY : Bx w2 w1.heap.size 53 #[.int .i64 tk, .int .i64 ta, .string (S tt), .int .u32 tv] := Bx.but hy.out hB (by omega)
  have h2 := hR.c2
  have hfx := hX.free
  have x0 := hX.cell (k := 0) rfl
  have x1 := hX.cell (k := 1) rfl
  have x2 := hX.cell (k := 2) rfl
  have x3 := hX.cell (k := 3) rfl
  have y0 := hY.cell (k := 0) rfl
  have y1 := hY.cell (k := 1) rfl
  have y2 := hY.cell (k := 2) rfl
  have y3 := hY.cell (k := 3) rfl
  have hXl := hX.lt
  have hYl := hY.lt
  have hbl := hR.ltb
  have HR := hide hR
  have HXx := hide hX
  clear hR hX hY hr
  go_wp2_with fail
  have hR := HR.out.put4 (.int .i64 tk) (.int .i64 ta) (.string (S tt)) (.int .u32 tv) (B := w.heap.size) (by omega) (by omega)
  have hBt := (hB1.out.trans hB).put4 (B := w.heap.size) (Nat.le_refl _) (.int .i64 tk) (.int .i64 ta) (.string (S tt)) (.int .u32 tv)
  have hXt := Bx.put4 HXx.out (.int .i64 tk) (.int .i64 ta) (.string (S tt)) (.int .u32 tv)
  exact bodyPost_ret (v := .agg (tA ⟨tk, ta, tt, tv⟩)) (results_cell_row (fn := Tryd.f78) rfl _ _ w.heap.size 53 _ (0, 0) _ rfl hXt Tryd.underlying53 rfl info_tk) rfl ⟨rfl, hR, hBt⟩

theorem must_any (h : Rd w b g c L r) (f : Bool) (hk : f = true → (tk L r).k ≠ 4 ∨ (tk L r).t ≠ []) :
    Calls Tryd.prog 78 #[.pointer (some ⟨b, 0, none⟩), .bool f] w fun e w' => e = .returned (.agg (tA (tk L r))) ∧ Rd w' b g c L (must f r) ∧ But b w w' := by
  cases f with
  | false =>
    have e : must false r = refu 110 r := rfl
    rw [e]
    exact must_no h
  | true =>
    by_cases he : r.e = 0
    · rw [show must true r = adv r by unfold must; rw [if_pos he]; rfl]
      exact must_yes h (hk rfl) he
    · rw [show must true r = r by unfold must; rw [if_neg he]]
      exact must_wrong h he

end
end Go.Proofs.YtimiglepogeeiaaDoor.Parse

