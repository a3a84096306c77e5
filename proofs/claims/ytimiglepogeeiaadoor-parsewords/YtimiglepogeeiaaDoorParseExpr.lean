/- Expressions, indices, arguments: contracts, as far as an operand's is given. -/
import Derived.Test.YtimiglepogeeiaaDoorParseJoin
set_option linter.unusedVariables false
set_option linter.unusedSimpArgs false
set_option maxRecDepth 100000
namespace Go.Proofs.YtimiglepogeeiaaDoor.Parse
open Go.RowKit Go.Proofs.YtimiglepogeeiaaDoor.Lex

/-- What a function of a reader and a depth tells. -/
def NC (b g c : Nat) (L : List T) (f : Nat) (d : Int) (q : R → R × Tr) : Prop := ∀ w r, Rd w b g c L r → Calls Tryd.prog f #[.pointer (some ⟨b, 0, none⟩), .int .i64 d] w (NR b g c L w (q r))

section
variable {b g c : Nat} {L : List T}

theorem level_any (d : Int) (op : R → R × Tr) (hmv : ∀ r, Mv r (op r).1) (hop : NC b g c L 109 d op) :
    ∀ n : Nat, n ≤ 7 → ∀ w r, Rd w b g c L r → Calls Tryd.prog 100 #[.pointer (some ⟨b, 0, none⟩), .int .i64 (8 - n), .int .i64 d] w (NR b g c L w (lvlF op L n r))
  | 0, _, w, r, h => level_8 d op hop w r h
  | n + 1, hn, w, r, h => by
    have ih := level_any d op hmv hop n (by omega)
    have e1 : ((8 : Int) - (n + 1 : Nat)) + 1 = 8 - n := by omega
    have hnx : ∀ w r, Rd w b g c L r → Calls Tryd.prog 100 #[.pointer (some ⟨b, 0, none⟩), .int .i64 (((8 : Int) - (n + 1 : Nat)) + 1), .int .i64 d] w (NR b g c L w (lvlF op L n r)) := by rw [e1]; exact ih
    have := level_up d ((8 : Int) - (n + 1 : Nat)) (by omega) (by omega) (lvlF op L n) (hide (lvlF_mv hmv n)) (hide (joined_any d _ (by omega) (by omega) _ (hide hnx))) hnx w r h
    have e2 : lvlF op L (n + 1) r = loopF (lvlF op L n) L ((8 : Int) - (n + 1 : Nat)) (L.length + 2) (lvlF op L n r).1 (lvlF op L n r).2 := by
      show loopF (lvlF op L n) L (7 - n) _ _ _ = _
      rw [show (7 : Int) - n = 8 - (n + 1 : Nat) by omega]
    rw [e2]
    exact this

set_option maxHeartbeats 8000000 in
/-- An expression. -/
theorem expression_any (d : Int) (q : R → R × Tr)
    (hl : ∀ w r, Rd w b g c L r → Calls Tryd.prog 100 #[.pointer (some ⟨b, 0, none⟩), .int .i64 1, .int .i64 d] w (NR b g c L w (q r))) (w : World) (r : R) (h : Rd w b g c L r) :
    Calls Tryd.prog 91 #[.pointer (some ⟨b, 0, none⟩), .int .i64 d] w (NR b g c L w (q r)) := by
  have hbz := h.ltb
  have hgz := h.row.lt
  have hx0 : Bx (w.alloc (.cells zN 27)) w.heap.size 27 zN := heap_new w zN 27
  have ho := hl _ r (h.alloc (.cells zN 27))
  have hu : w.heap.size < (w.alloc (.cells zN 27)).heap.size := by simp
  have HB0 := hide ((But.refl b w).alloc (.cells zN 27))
  have HX0 := hide hx0
  unfold zN at ho HX0 HB0 hu
  clear h hx0
  go_enter Tryd.func91, Tryd.ntmps91
  go_wp2_with fail
  refine ho.mono ?_
  intro e w1 hn
  obtain ⟨k, a, t, v, l, sp, sn, sc, hq, rfl, hR1, hB1, hT1⟩ := hn.parts
  have HQ := hide hq
  have hx1 := Bx.but HX0.out hB1 (by omega)
  have hfx := hx1.free
  have x0 := hx1.cell (k := 0) rfl
  have x1 := hx1.cell (k := 1) rfl
  have x2 := hx1.cell (k := 2) rfl
  have x3 := hx1.cell (k := 3) rfl
  have x4 := hx1.cell (k := 4) rfl
  have hxl := hx1.lt
  have HX1 := hide hx1
  have HR1 := hide hR1
  have HB1 := hide (HB0.out.trans hB1)
  have HT1 := hide hT1
  clear hx1 hR1 hB1 hT1 hn ho hq
  go_wp2_with fail
  have hf := fin_put HR1.out HB1.out HX1.out hu HT1.out hbz hgz
  exact bodyPost_ret (v := .agg #[.int .i64 k, .int .i64 a, .string (S t), .int .u32 v, .slice sp sn sc]) (results_cell_row (fn := Tryd.f91) rfl _ _ w.heap.size 27 _ (0, 0) _ rfl hf.1 Tryd.underlying27 rfl info_nd) rfl (hf.2 _ rfl HQ.out)

set_option maxHeartbeats 8000000 in
/-- What arguments hands on. -/
theorem arg1_any (d : Int) (h1 : 0 ≤ d) (h7 : d ≤ 1000) (q : R → R × Tr)
    (hl : NC b g c L 91 (d + 1) q) (A D : Nat) (w : World) (r : R) (h : Rd w b g c L r) (hA : Bx w A 70 #[.pointer (some ⟨b, 0, none⟩)]) (hD : Bx w D 3 #[.int .i64 d]) :
    Calls Tryd.prog 112 #[.pointer (some ⟨A, 0, none⟩), .pointer (some ⟨D, 0, none⟩)] w (NR b g c L w (q r)) := by
  have hbz := h.ltb
  have hgz := h.row.lt
  have hx0 : Bx (w.alloc (.cells zN 27)) w.heap.size 27 zN := heap_new w zN 27
  have ho := hl _ r (h.alloc (.cells zN 27))
  have hu : w.heap.size < (w.alloc (.cells zN 27)).heap.size := by simp
  have HB0 := hide ((But.refl b w).alloc (.cells zN 27))
  have HX0 := hide hx0
  unfold zN at ho HX0 HB0 hu
  clear h hx0
  have cA := hA.cell (k := 0) rfl
  have cD := hD.cell (k := 0) rfl
  have lA := hA.lt
  have lD := hD.lt
  clear hA hD
  go_enter Tryd.func112, Tryd.ntmps112
  go_wp2_with fail
  refine ho.mono ?_
  intro e w1 hn
  obtain ⟨k, a, t, v, l, sp, sn, sc, hq, rfl, hR1, hB1, hT1⟩ := hn.parts
  have HQ := hide hq
  clear cA cD
  have hx1 := Bx.but HX0.out hB1 (by omega)
  have hfx := hx1.free
  have x0 := hx1.cell (k := 0) rfl
  have x1 := hx1.cell (k := 1) rfl
  have x2 := hx1.cell (k := 2) rfl
  have x3 := hx1.cell (k := 3) rfl
  have x4 := hx1.cell (k := 4) rfl
  have hxl := hx1.lt
  have HX1 := hide hx1
  have HR1 := hide hR1
  have HB1 := hide (HB0.out.trans hB1)
  have HT1 := hide hT1
  clear hx1 hR1 hB1 hT1 hn ho hq
  go_wp2_with fail
  have hf := fin_put HR1.out HB1.out HX1.out hu HT1.out hbz hgz
  exact bodyPost_ret (v := .agg #[.int .i64 k, .int .i64 a, .string (S t), .int .u32 v, .slice sp sn sc]) (results_cell_row (fn := Tryd.f112) rfl _ _ w.heap.size 27 _ (0, 0) _ rfl hf.1 Tryd.underlying27 rfl info_nd) rfl (hf.2 _ rfl HQ.out)

theorem exC (d : Int) (op : R → R × Tr) (hmv : ∀ r, Mv r (op r).1) (hop : NC b g c L 109 d op) : NC b g c L 91 d (lvlF op L 7) :=
  fun w r h => expression_any d (lvlF op L 7) (fun w r h => level_any d op hmv hop 7 (Nat.le_refl _) w r h) w r h

/-- What a function tells that reads a list. -/
def LR (b g c : Nat) (L : List T) (w : World) (q : R × List Tr) (e : Ending) (w' : World) : Prop := ∃ s, e = .returned s ∧ Rd w' b g c L q.1 ∧ But b w w' ∧ KL w w' q.2 s

theorem cf_arg (args : Array Value) (w : World) : (callFunc 112 args).run Tryd.prog w = .ok (.enter 112 args) w := by kernel_rfl

set_option maxHeartbeats 8000000 in
theorem arguments_any (d : Int) (h1 : 0 ≤ d) (h7 : d ≤ 1000) (q : R → R × Tr) (hmv : ∀ r, Mv r (q r).1) (hl : NC b g c L 91 (d + 1) q) (w : World) (r : R) (h : Rd w b g c L r) :
    Calls Tryd.prog 102 #[.pointer (some ⟨b, 0, none⟩), .int .i64 d] w (LR b g c L w (listF q L r)) := by
  have hb1 := (Below.refl w.heap.size w).alloc (Nat.le_refl _) (.cells #[.pointer (some ⟨b, 0, none⟩)] 70)
  have hb2 := hb1.alloc (by simp) (.cells #[.int .i64 d] 3)
  have hA : Bx (w.alloc (.cells #[.pointer (some ⟨b, 0, none⟩)] 70)) w.heap.size 70 _ := heap_new w _ _
  have hA2 := hA.alloc (.cells #[.int .i64 d] 3)
  have hD2 : Bx ((w.alloc (.cells #[.pointer (some ⟨b, 0, none⟩)] 70)).alloc (.cells #[.int .i64 d] 3)) (w.alloc (.cells #[.pointer (some ⟨b, 0, none⟩)] 70)).heap.size 3 _ := heap_new _ _ _
  rw [show (w.alloc (.cells #[.pointer (some ⟨b, 0, none⟩)] 70)).heap.size = w.heap.size + 1 by simp] at hD2
  have hbz := h.ltb
  have hli := list_any 112 #[] #[.pointer (some ⟨w.heap.size, 0, none⟩), .pointer (some ⟨w.heap.size + 1, 0, none⟩)] q cf_arg (hide (fun w' r hB h => arg1_any d h1 h7 q hl w.heap.size (w.heap.size + 1) w' r h (Bx.but hA2 hB (by omega)) (Bx.but hD2 hB (by omega)))) (hide hmv) ((h.alloc (.cells #[.pointer (some ⟨b, 0, none⟩)] 70)).alloc (.cells #[.int .i64 d] 3))
  have HB := hide hb2
  clear hA hA2 hD2 hb1 hb2 h
  go_enter Tryd.func102, Tryd.ntmps102
  go_wp2_with fail
  refine hli.mono ?_
  rintro e w1 ⟨s, rfl, hR, hB, hK⟩
  go_wp2_with fail
  go_ret
  exact ⟨_, rfl, hR, (But.of_below HB.out).trans hB, hK.from HB.out.size⟩

end
end Go.Proofs.YtimiglepogeeiaaDoor.Parse

