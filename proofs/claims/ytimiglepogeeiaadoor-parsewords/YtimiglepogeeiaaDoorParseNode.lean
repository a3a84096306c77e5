/- Sizes and nodes: contracts. -/
import Derived.Test.YtimiglepogeeiaaDoorParseName
set_option linter.unusedVariables false
set_option linter.unusedSimpArgs false
set_option maxRecDepth 100000
namespace Go.Proofs.YtimiglepogeeiaaDoor.Parse
open Go.RowKit Go.Proofs.YtimiglepogeeiaaDoor.Lex

theorem info_nd : (Tryd.prog.info? 27).map (·.size) = some 5 := by kernel_rfl
section
variable {w : World} {b g c : Nat} {L : List T} {r : R}

set_option maxHeartbeats 4000000 in
theorem size_any (h : Rd w b g c L r) :
    Calls Tryd.prog 79 #[.pointer (some ⟨b, 0, none⟩)] w fun e w' => e = .returned (.int .u32 (sizV L r)) ∧ Rd w' b g c L (sizR L r) ∧ But b w w' := by
  have hn := need_any h [91] (by decide)
  unfold sizR sizV
  go_enter Tryd.func79, Tryd.ntmps79
  go_wp2_with fail
  refine hn.mono ?_
  rintro e w1 ⟨rfl, hR1, hB1⟩
  have hm := number_any hR1
  clear hn h
  go_wp2_with fail
  refine hm.mono ?_
  rintro e w2 ⟨rfl, hR2, hB2⟩
  have hk := need_any hR2 [93] (by decide)
  clear hm hR1
  go_wp2_with fail
  refine hk.mono ?_
  rintro e w3 ⟨rfl, hR3, hB3⟩
  go_wp2_with fail
  go_ret
  exact ⟨rfl, hR3, (hB1.trans hB2).trans hB3⟩

/-- The cells of a node's box as it is born. -/
def zN : Array Value := #[.int .i64 0, .int .i64 0, .string ⟨#[]⟩, .int .u32 0, .slice none 0 0]

set_option maxHeartbeats 4000000 in
theorem node_any (h : Rd w b g c L r) (k : Int) :
    Calls Tryd.prog 27 #[.pointer (some ⟨b, 0, none⟩), .int .i64 k] w fun e w' => e = .returned (.agg (nC k (tk L r).a [] 0 (.slice none 0 0))) ∧ Rd w' b g c L (nod r) ∧ But b w w' := by
  have h1 := h.c1
  have hf := h.free
  have hbz := h.ltb
  have hgz := h.row.lt
  have hR0 := (h.setN (wrap64 (r.n + 1))).alloc (.cells zN 27)
  have hx0 : Bx ((w.setCell ⟨b, 1, none⟩ (.int .i64 (wrap64 (r.n + 1)))).alloc (.cells zN 27)) w.heap.size 27 zN := by
    have := heap_new (w.setCell ⟨b, 1, none⟩ (.int .i64 (wrap64 (r.n + 1)))) zN 27
    rw [show (w.setCell ⟨b, 1, none⟩ (.int .i64 (wrap64 (r.n + 1)))).heap.size = w.heap.size by simp [World.setCell]] at this
    exact this
  have hB0 := ((But.refl b w).set 1 (.int .i64 (wrap64 (r.n + 1)))).alloc (.cells zN 27)
  have et : tk L r = tk L ⟨r.i, wrap64 (r.n + 1), r.e⟩ := rfl
  have en : nod r = if wrap64 (r.n + 1) > 16384 then refu 136 ⟨r.i, wrap64 (r.n + 1), r.e⟩ else ⟨r.i, wrap64 (r.n + 1), r.e⟩ := rfl
  rw [en, et]
  clear en et
  unfold zN at hR0 hx0 hB0
  by_cases hN : wrap64 (r.n + 1) > 16384
  · rw [if_pos hN]
    have hr := refuse_any hR0 136
    generalize hq : (⟨r.i, wrap64 (r.n + 1), r.e⟩ : R) = q at *
    have hti : tk L (refu 136 q) = tk L q := by unfold refu; split <;> rfl
    generalize tk L q = t at hti ⊢
    have HT := hide hti
    obtain ⟨tk, ta, tt, tv⟩ := t
    have HX := hide hx0
    have HB := hide hB0
    clear h hR0 hx0 hB0 hti hq
    go_enter Tryd.func27, Tryd.ntmps27
    go_wp2_with fail
    refine hr.mono ?_
    rintro e w1 ⟨rfl, hR1, hb1⟩
    have hx1 := hide (Bx.but HX.out hb1 (by omega))
    have HB1 := hide (HB.out.trans hb1)
    have hn := next_any hR1
    rw [HT.out] at hn
    simp only [tA] at hn
    have f1 := fk1 tk ta tv (S tt)
    have HR1 := hide hR1
    clear hr hR1 hb1
    go_wp2_with fail
    refine hn.mono ?_
    rintro e w2 ⟨rfl, hb2⟩
    have hx2 := hx1.out.below hb2
    have hR2 := HR1.out.kept hb2
    have HB2 := hide (HB1.out.trans (But.of_below hb2))
    have hfx := hx2.free
    have x0 := hx2.cell (k := 0) rfl
    have x1 := hx2.cell (k := 1) rfl
    have x2 := hx2.cell (k := 2) rfl
    have x3 := hx2.cell (k := 3) rfl
    have x4 := hx2.cell (k := 4) rfl
    have hxl := hx2.lt
    replace hx2 := hide hx2
    replace hR2 := hide hR2
    clear hn hb2
    go_wp2_with fail
    exact bodyPost_ret (v := .agg (nC k ta [] 0 (.slice none 0 0))) (results_cell_row (fn := Tryd.f27) rfl _ _ w.heap.size 27 _ (0, 0) _ rfl (Bx.put5 hx2.out _ _ _ _ _) Tryd.underlying27 rfl info_nd) rfl
      ⟨rfl, Rd.put5 hR2.out _ _ _ _ _ (by omega) (by omega), But.put5 HB2.out (Nat.le_refl _) _ _ _ _ _⟩
  · rw [if_neg hN]
    have hn := next_any hR0
    generalize hq : (⟨r.i, wrap64 (r.n + 1), r.e⟩ : R) = q at *
    have HX := hide hx0
    have HB := hide hB0
    have HR := hide hR0
    generalize tk L q = t at hn ⊢
    obtain ⟨tk, ta, tt, tv⟩ := t
    simp only [tA] at hn
    have f1 := fk1 tk ta tv (S tt)
    clear h hR0 hx0 hB0 hq
    go_enter Tryd.func27, Tryd.ntmps27
    go_wp2_with fail
    refine hn.mono ?_
    rintro e w2 ⟨rfl, hb2⟩
    have hx2 := HX.out.below hb2
    have hR2 := HR.out.kept hb2
    have HB2 := hide (HB.out.trans (But.of_below hb2))
    have hfx := hx2.free
    have x0 := hx2.cell (k := 0) rfl
    have x1 := hx2.cell (k := 1) rfl
    have x2 := hx2.cell (k := 2) rfl
    have x3 := hx2.cell (k := 3) rfl
    have x4 := hx2.cell (k := 4) rfl
    have hxl := hx2.lt
    replace hx2 := hide hx2
    replace hR2 := hide hR2
    clear hn hb2
    go_wp2_with fail
    exact bodyPost_ret (v := .agg (nC k ta [] 0 (.slice none 0 0))) (results_cell_row (fn := Tryd.f27) rfl _ _ w.heap.size 27 _ (0, 0) _ rfl (Bx.put5 hx2.out _ _ _ _ _) Tryd.underlying27 rfl info_nd) rfl
      ⟨rfl, Rd.put5 hR2.out _ _ _ _ _ (by omega) (by omega), But.put5 HB2.out (Nat.le_refl _) _ _ _ _ _⟩

end
end Go.Proofs.YtimiglepogeeiaaDoor.Parse

