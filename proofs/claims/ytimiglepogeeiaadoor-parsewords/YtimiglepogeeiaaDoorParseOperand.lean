/- An operand: package parse's operand. A contract. -/
import Derived.Test.YtimiglepogeeiaaDoorParseCalled
import Derived.Deep.RegionHeld3
set_option linter.unusedVariables false
set_option linter.unusedSimpArgs false
set_option maxRecDepth 100000
namespace Go.Proofs.YtimiglepogeeiaaDoor.Parse
open Go.RowKit Go.Proofs.YtimiglepogeeiaaDoor.Lex

section
variable {b g c : Nat} {L : List T} {w : World} {r : R}

theorem deep_ok {d : Int} {r : R} (h : (deep d r).e = 0) : d ≤ 64 := by
  apply Classical.byContradiction
  intro hn
  have hd : d > 64 := by omega
  unfold deep refu at h
  rw [if_pos hd] at h
  split at h
  · simp at h
  · exact absurd h (by assumption)

set_option maxHeartbeats 8000000 in
theorem op_paren (d : Int) (h1 : 0 ≤ d) (h7 : d ≤ 1000) (q : R → R × Tr) (hl : NC b g c L 91 (d + 1) q) (h : Rd w b g c L r) (hf : fol L [40] (deep d r) = true) :
    Calls Tryd.prog 109 #[.pointer (some ⟨b, 0, none⟩), .int .i64 d] w (NR b g c L w (need L [41] (q (adv (deep d r))).1, (q (adv (deep d r))).2)) := by
  have hbz := h.ltb
  have hgz := h.row.lt
  have HB := hide (But.refl b w)
  have HX0 : Hid (Bx (w.alloc (.cells #[.int .i64 0, .int .i64 0, .string ⟨#[]⟩, .int .u32 0, .slice none 0 0] 27)) w.heap.size 27 #[.int .i64 0, .int .i64 0, .string ⟨#[]⟩, .int .u32 0, .slice none 0 0]) := hide (heap_new w _ _)
  have hu : w.heap.size < (w.alloc (.cells #[.int .i64 0, .int .i64 0, .string ⟨#[]⟩, .int .u32 0, .slice none 0 0] 27)).heap.size := by simp
  have ho := within_any (h.alloc (.cells #[.int .i64 0, .int .i64 0, .string ⟨#[]⟩, .int .u32 0, .slice none 0 0] 27)) d
  generalize deep d r = r0 at *
  go_enter Tryd.func109, Tryd.ntmps109
  go_wp2_with fail
  refine ho.mono ?_
  rintro e w1 ⟨rfl, hR1, hB1⟩
  have ht := take_any hR1 [40] (by decide)
  unfold take at ht
  rw [hf, if_pos rfl] at ht
  have HB1 : Hid (But b w w1) := hide (But.trans (by repeat (first | with_reducible exact HB.out | with_reducible refine But.alloc ?_ _ | with_reducible refine But.fresh ?_ (by first | omega | (dsimp only; omega)) _)) hB1)
  have HX1 : Hid (Bx w1 w.heap.size 27 #[.int .i64 0, .int .i64 0, .string ⟨#[]⟩, .int .u32 0, .slice none 0 0]) := hide (Bx.but (by repeat (first | with_reducible exact HX0.out | with_reducible exact Bx.newAt (by first | rfl | (simp [World.setCell]; done)) | with_reducible refine Bx.alloc ?_ _ | with_reducible refine Bx.other ?_ _ (by first | omega | (dsimp only; omega)))) hB1 (by omega))
  have hz1 := hB1.size
  clear ho h hR1 hB1
  go_wp2_with fail
  refine ht.mono ?_
  rintro e w2 ⟨rfl, hR2, hB2⟩
  have hz2 := hB2.size
  have HB2 := hide (HB1.out.trans hB2)
  have HX2 := hide (Bx.but HX1.out hB2 (by omega))
  have he := hl w2 _ hR2
  clear ht hR2 hB2 hl
  go_wp2_with fail
  refine he.mono ?_
  intro e w3 hn
  obtain ⟨k, a, t, v, l, sp, sn, sc, hq, rfl, hR3, hB3, hT3⟩ := hn.parts
  have HQ := hide hq
  have HR3 := hide hR3
  have HB3 := hide (HB2.out.trans hB3)
  have HX3 := hide (Bx.but HX2.out hB3 (by omega))
  have HT3 := hide hT3
  have hz3 := hB3.size
  clear he hn hq hR3 hB3 hT3
  go_wp2_with fail
  refine Calls.mono (need_any (b := b) (g := g) (c := c) (L := L) (r := (q (adv r0)).1) (by repeat (first | with_reducible exact HR3.out | with_reducible refine Rd.alloc ?_ _ | with_reducible refine Rd.other ?_ _ (by first | omega | (dsimp only; omega)) (by first | omega | (dsimp only; omega)))) [41] (by decide)) ?_
  rintro e w4 ⟨rfl, hR4, hB4⟩
  have HR4 := hide hR4
  have HB4 : Hid (But b w w4) := hide (But.trans (by repeat (first | with_reducible exact HB3.out | with_reducible refine But.alloc ?_ _ | with_reducible refine But.fresh ?_ (by first | omega | (dsimp only; omega)) _)) hB4)
  have HX4 : Hid (Bx w4 w.heap.size 27 #[.int .i64 0, .int .i64 0, .string ⟨#[]⟩, .int .u32 0, .slice none 0 0]) := hide (Bx.but (by repeat (first | with_reducible exact HX3.out | with_reducible exact Bx.newAt (by first | rfl | (simp [World.setCell]; done)) | with_reducible refine Bx.alloc ?_ _ | with_reducible refine Bx.other ?_ _ (by first | omega | (dsimp only; omega)))) hB4 (by omega))
  have HN4 : Hid (Bx w4 w3.heap.size 27 #[.int .i64 k, .int .i64 a, .string (S t), .int .u32 v, .slice sp sn sc]) := hide (Bx.but (by repeat (first | with_reducible exact HX3.out | with_reducible exact Bx.newAt (by first | rfl | (simp [World.setCell]; done)) | with_reducible refine Bx.alloc ?_ _ | with_reducible refine Bx.other ?_ _ (by first | omega | (dsimp only; omega)))) hB4 (by omega))
  have HT4 : Hid (Rep w4 (Fr w2 w3) (.mk k a t v l) #[.int .i64 k, .int .i64 a, .string (S t), .int .u32 v, .slice sp sn sc]) := hide (Rep.keep (by repeat (first | with_reducible exact HT3.out | with_reducible refine Rep.alloc ?_ (by first | omega | (dsimp only; omega) | (simp [World.setCell])) _ | with_reducible refine Rep.set ?_ (by first | omega | (dsimp only; omega)) _)) hB4 (by simp) (by omega))
  have hz4 := hB4.size
  simp at hz4
  clear hR4 hB4
  have x0 := HX4.out.cell (k := 0) rfl
  have x1 := HX4.out.cell (k := 1) rfl
  have x2 := HX4.out.cell (k := 2) rfl
  have x3 := HX4.out.cell (k := 3) rfl
  have x4 := HX4.out.cell (k := 4) rfl
  have xl := HX4.out.lt
  have xf := HX4.out.free
  have n0 := HN4.out.cell (k := 0) rfl
  have n1 := HN4.out.cell (k := 1) rfl
  have n2 := HN4.out.cell (k := 2) rfl
  have n3 := HN4.out.cell (k := 3) rfl
  have n4 := HN4.out.cell (k := 4) rfl
  have nl := HN4.out.lt
  have nf := HN4.out.free
  go_wp2_with fail
  have hf := fin_put HR4.out HB4.out HX4.out hu (HT4.out.wide (by omega) (by omega)) hbz hgz
  exact bodyPost_ret (v := .agg #[.int .i64 k, .int .i64 a, .string (S t), .int .u32 v, .slice sp sn sc]) (results_cell_row (fn := Tryd.f109) rfl _ _ w.heap.size 27 _ (0, 0) _ rfl hf.1 Tryd.underlying27 rfl info_nd) rfl (hf.2 _ rfl HQ.out)


set_option maxHeartbeats 8000000 in
theorem op_num (d : Int) (h : Rd w b g c L r) (hf : fol L [40] (deep d r) = false) (hk : (tk L (deep d r)).k = 2) :
    Calls Tryd.prog 109 #[.pointer (some ⟨b, 0, none⟩), .int .i64 d] w (NR b g c L w (numb L (nod (deep d r)), .mk 14 (tk L (deep d r)).a [] (tk L (deep d r)).v [])) := by
  have hbz := h.ltb
  have hgz := h.row.lt
  have HB := hide (But.refl b w)
  have HX0 : Hid (Bx (w.alloc (.cells #[.int .i64 0, .int .i64 0, .string ⟨#[]⟩, .int .u32 0, .slice none 0 0] 27)) w.heap.size 27 #[.int .i64 0, .int .i64 0, .string ⟨#[]⟩, .int .u32 0, .slice none 0 0]) := hide (heap_new w _ _)
  have hu : w.heap.size < (w.alloc (.cells #[.int .i64 0, .int .i64 0, .string ⟨#[]⟩, .int .u32 0, .slice none 0 0] 27)).heap.size := by simp
  have ho := within_any (h.alloc (.cells #[.int .i64 0, .int .i64 0, .string ⟨#[]⟩, .int .u32 0, .slice none 0 0] 27)) d
  generalize deep d r = r0 at *
  go_enter Tryd.func109, Tryd.ntmps109
  go_wp2_with fail
  refine ho.mono ?_
  rintro e w1 ⟨rfl, hR1, hB1⟩
  have ht := take_any hR1 [40] (by decide)
  unfold take at ht
  rw [hf, if_neg (by simp)] at ht
  have HB1 : Hid (But b w w1) := hide (But.trans (by repeat (first | with_reducible exact HB.out | with_reducible refine But.alloc ?_ _ | with_reducible refine But.fresh ?_ (by first | omega | (dsimp only; omega)) _)) hB1)
  have HX1 : Hid (Bx w1 w.heap.size 27 #[.int .i64 0, .int .i64 0, .string ⟨#[]⟩, .int .u32 0, .slice none 0 0]) := hide (Bx.but (by repeat (first | with_reducible exact HX0.out | with_reducible exact Bx.newAt (by first | rfl | (simp [World.setCell]; done)) | with_reducible refine Bx.alloc ?_ _ | with_reducible refine Bx.other ?_ _ (by first | omega | (dsimp only; omega)))) hB1 (by omega))
  have hz1 := hB1.size
  clear ho h hR1 hB1
  go_wp2_with fail
  refine ht.mono ?_
  rintro e w2 ⟨rfl, hR2, hB2⟩
  have hz2 := hB2.size
  have HB2 := hide (HB1.out.trans hB2)
  have HX2 := hide (Bx.but HX1.out hB2 (by omega))
  have hno := node_any hR2 0
  unfold nC at hno
  have HTN : Hid (tk L (nod r0) = tk L r0) := tk_nod L r0
  generalize htk : tk L r0 = tok at *
  obtain ⟨qk, qa, qt, qv⟩ := tok
  dsimp only at *
  have HTK := hide htk
  clear ht hR2 hB2 htk
  go_wp2_with fail
  refine hno.mono ?_
  rintro e w3 ⟨rfl, hR3, hB3⟩
  have HR3 := hide (hR3.alloc (.cells #[.int .i64 0, .int .i64 qa, .string (S []), .int .u32 0, .slice none 0 0] 27))
  have HB3 := hide ((HB2.out.trans hB3).alloc (.cells #[.int .i64 0, .int .i64 qa, .string (S []), .int .u32 0, .slice none 0 0] 27))
  have HX3 := hide ((Bx.but HX2.out hB3 (by omega)).alloc (.cells #[.int .i64 0, .int .i64 qa, .string (S []), .int .u32 0, .slice none 0 0] 27))
  have hz3 := hB3.size
  have hnx := next_any HR3.out
  rw [HTN.out] at hnx
  simp only [tA] at hnx
  clear hno hR3 hB3
  go_wp2_with fail
  refine hnx.mono ?_
  rintro e w4 ⟨rfl, hb4⟩
  have hz4 := hb4.size
  simp at hz4
  have HR4 := hide ((HR3.out.kept hb4).alloc (.cells #[.int .i64 qk, .int .i64 qa, .string (S qt), .int .u32 qv] 53))
  have HB4 := hide ((HB3.out.trans (But.of_below hb4)).alloc (.cells #[.int .i64 qk, .int .i64 qa, .string (S qt), .int .u32 qv] 53))
  have HX4 := hide ((HX3.out.below hb4).alloc (.cells #[.int .i64 qk, .int .i64 qa, .string (S qt), .int .u32 qv] 53))
  have hn3 : Bx (w3.alloc (.cells #[.int .i64 0, .int .i64 qa, .string (S []), .int .u32 0, .slice none 0 0] 27)) w3.heap.size 27 _ := heap_new w3 _ _
  have HN4 := hide ((hn3.below hb4).alloc (.cells #[.int .i64 qk, .int .i64 qa, .string (S qt), .int .u32 qv] 53))
  have hk4 : Bx (w4.alloc (.cells #[.int .i64 qk, .int .i64 qa, .string (S qt), .int .u32 qv] 53)) w4.heap.size 53 _ := heap_new w4 _ _
  have HK4 := hide hk4
  clear hnx hb4 hn3 hk4
  subst hk
  have hnu := number_any HR4.out
  rw [HTN.out] at hnu
  dsimp only at hnu
  go_wp2_with fail
  refine hnu.mono ?_
  rintro e w5 ⟨rfl, hR5, hB5⟩
  have hz5 := hB5.size
  simp at hz5
  have HR5 := hide hR5
  have HB5 := hide (HB4.out.trans hB5)
  have HX5 := hide (Bx.but HX4.out hB5 (by omega))
  have HN5 := hide (Bx.but HN4.out hB5 (by omega))
  clear hnu hR5 hB5
  have x0 := HX5.out.cell (k := 0) rfl
  have x1 := HX5.out.cell (k := 1) rfl
  have x2 := HX5.out.cell (k := 2) rfl
  have x3 := HX5.out.cell (k := 3) rfl
  have x4 := HX5.out.cell (k := 4) rfl
  have xl := HX5.out.lt
  have xf := HX5.out.free
  have n0 := HN5.out.cell (k := 0) rfl
  have n1 := HN5.out.cell (k := 1) rfl
  have n2 := HN5.out.cell (k := 2) rfl
  have n3 := HN5.out.cell (k := 3) rfl
  have n4 := HN5.out.cell (k := 4) rfl
  have nl := HN5.out.lt
  have nf := HN5.out.free
  go_wp2_with fail
  have hf := fin_put (b := b) (g := g) (c := c) (L := L) (w := w) (w1 := (w5.setCell ⟨w3.heap.size, 0, none⟩ (.int .i64 14)).setCell ⟨w3.heap.size, 3, none⟩ (.int .u32 qv)) (r := numb L (nod r0)) (by repeat (first | with_reducible exact HR5.out | with_reducible refine Rd.alloc ?_ _ | with_reducible refine Rd.other ?_ _ (by first | omega | (dsimp only; omega)) (by first | omega | (dsimp only; omega)))) (by repeat (first | with_reducible exact HB5.out | with_reducible refine But.alloc ?_ _ | with_reducible refine But.fresh ?_ (by first | omega | (dsimp only; omega)) _)) (by repeat (first | with_reducible exact HX5.out | with_reducible exact Bx.newAt (by first | rfl | (simp [World.setCell]; done)) | with_reducible refine Bx.alloc ?_ _ | with_reducible refine Bx.other ?_ _ (by first | omega | (dsimp only; omega)))) hu (Rep.leaf _ _ 14 qa [] qv) hbz hgz
  exact bodyPost_ret (v := .agg #[.int .i64 14, .int .i64 qa, .string (S []), .int .u32 qv, .slice none 0 0]) (results_cell_row (fn := Tryd.f109) rfl _ _ w.heap.size 27 _ (0, 0) _ rfl hf.1 Tryd.underlying27 rfl info_nd) rfl (hf.2 _ rfl rfl)

set_option maxHeartbeats 8000000 in
theorem op_name (d : Int) (h1 : 0 ≤ d) (h7 : d ≤ 1000) (q : R → R × Tr) (hmv : ∀ r, Mv r (q r).1) (hl : (name L (nod (deep d r))).e = 0 → NC b g c L 91 (d + 1) q) (h : Rd w b g c L r) (hf : fol L [40] (deep d r) = false) (hk : (tk L (deep d r)).k ≠ 2)
    (hm1 : fol L [126] (nod (deep d r)) = false) (hm2 : fol L [45] (nod (deep d r)) = false) :
    Calls Tryd.prog 109 #[.pointer (some ⟨b, 0, none⟩), .int .i64 d] w (NR b g c L w ((callF q L (name L (nod (deep d r)))).1, .mk (callF q L (name L (nod (deep d r)))).2.1 (tk L (deep d r)).a (tk L (deep d r)).t 0 (callF q L (name L (nod (deep d r)))).2.2)) := by
  have hbz := h.ltb
  have hgz := h.row.lt
  have HB := hide (But.refl b w)
  have HX0 : Hid (Bx (w.alloc (.cells #[.int .i64 0, .int .i64 0, .string ⟨#[]⟩, .int .u32 0, .slice none 0 0] 27)) w.heap.size 27 #[.int .i64 0, .int .i64 0, .string ⟨#[]⟩, .int .u32 0, .slice none 0 0]) := hide (heap_new w _ _)
  have hu : w.heap.size < (w.alloc (.cells #[.int .i64 0, .int .i64 0, .string ⟨#[]⟩, .int .u32 0, .slice none 0 0] 27)).heap.size := by simp
  have ho := within_any (h.alloc (.cells #[.int .i64 0, .int .i64 0, .string ⟨#[]⟩, .int .u32 0, .slice none 0 0] 27)) d
  generalize deep d r = r0 at *
  go_enter Tryd.func109, Tryd.ntmps109
  go_wp2_with fail
  refine ho.mono ?_
  rintro e w1 ⟨rfl, hR1, hB1⟩
  have ht := take_any hR1 [40] (by decide)
  unfold take at ht
  rw [hf, if_neg (by simp)] at ht
  have HB1 : Hid (But b w w1) := hide (But.trans (by repeat (first | with_reducible exact HB.out | with_reducible refine But.alloc ?_ _ | with_reducible refine But.fresh ?_ (by first | omega | (dsimp only; omega)) _)) hB1)
  have HX1 : Hid (Bx w1 w.heap.size 27 #[.int .i64 0, .int .i64 0, .string ⟨#[]⟩, .int .u32 0, .slice none 0 0]) := hide (Bx.but (by repeat (first | with_reducible exact HX0.out | with_reducible exact Bx.newAt (by first | rfl | (simp [World.setCell]; done)) | with_reducible refine Bx.alloc ?_ _ | with_reducible refine Bx.other ?_ _ (by first | omega | (dsimp only; omega)))) hB1 (by omega))
  have hz1 := hB1.size
  clear ho h hR1 hB1
  go_wp2_with fail
  refine ht.mono ?_
  rintro e w2 ⟨rfl, hR2, hB2⟩
  have hz2 := hB2.size
  have HB2 := hide (HB1.out.trans hB2)
  have HX2 := hide (Bx.but HX1.out hB2 (by omega))
  have hno := node_any hR2 0
  unfold nC at hno
  have HTN : Hid (tk L (nod r0) = tk L r0) := tk_nod L r0
  generalize htk : tk L r0 = tok at *
  obtain ⟨qk, qa, qt, qv⟩ := tok
  dsimp only at *
  have HTK := hide htk
  clear ht hR2 hB2 htk
  go_wp2_with fail
  refine hno.mono ?_
  rintro e w3 ⟨rfl, hR3, hB3⟩
  have HR3 := hide (hR3.alloc (.cells #[.int .i64 0, .int .i64 qa, .string (S []), .int .u32 0, .slice none 0 0] 27))
  have HB3 := hide ((HB2.out.trans hB3).alloc (.cells #[.int .i64 0, .int .i64 qa, .string (S []), .int .u32 0, .slice none 0 0] 27))
  have HX3 := hide ((Bx.but HX2.out hB3 (by omega)).alloc (.cells #[.int .i64 0, .int .i64 qa, .string (S []), .int .u32 0, .slice none 0 0] 27))
  have hz3 := hB3.size
  have hnx := next_any HR3.out
  rw [HTN.out] at hnx
  simp only [tA] at hnx
  clear hno hR3 hB3
  go_wp2_with fail
  refine hnx.mono ?_
  rintro e w4 ⟨rfl, hb4⟩
  have hz4 := hb4.size
  simp at hz4
  have HR4 := hide ((HR3.out.kept hb4).alloc (.cells #[.int .i64 qk, .int .i64 qa, .string (S qt), .int .u32 qv] 53))
  have HB4 := hide ((HB3.out.trans (But.of_below hb4)).alloc (.cells #[.int .i64 qk, .int .i64 qa, .string (S qt), .int .u32 qv] 53))
  have HX4 := hide ((HX3.out.below hb4).alloc (.cells #[.int .i64 qk, .int .i64 qa, .string (S qt), .int .u32 qv] 53))
  have hn3 : Bx (w3.alloc (.cells #[.int .i64 0, .int .i64 qa, .string (S []), .int .u32 0, .slice none 0 0] 27)) w3.heap.size 27 _ := heap_new w3 _ _
  have HN4 := hide ((hn3.below hb4).alloc (.cells #[.int .i64 qk, .int .i64 qa, .string (S qt), .int .u32 qv] 53))
  have hk4 : Bx (w4.alloc (.cells #[.int .i64 qk, .int .i64 qa, .string (S qt), .int .u32 qv] 53)) w4.heap.size 53 _ := heap_new w4 _ _
  have HK4 := hide hk4
  clear hnx hb4 hn3 hk4
  have hkf : (qk == 2) = false := by simpa using hk
  have hm1' := take_any HR4.out [126] (by decide)
  unfold take at hm1'
  rw [hm1, if_neg (by simp)] at hm1'
  have k0 := HK4.out.cell (k := 0) rfl
  have k1 := HK4.out.cell (k := 1) rfl
  have k2 := HK4.out.cell (k := 2) rfl
  have k3 := HK4.out.cell (k := 3) rfl
  have kl := HK4.out.lt
  have kf := HK4.out.free
  go_wp2_with fail
  refine hm1'.mono ?_
  rintro e w5 ⟨rfl, hR5, hB5⟩
  have hm2' := take_any hR5 [45] (by decide)
  unfold take at hm2'
  rw [hm2, if_neg (by simp)] at hm2'
  clear hm1'
  go_wp2_with fail
  refine hm2'.mono ?_
  rintro e w6 ⟨rfl, hR6, hB6⟩
  have hna := name_any hR6
  rw [HTN.out] at hna
  dsimp only at hna
  have hz5 := hB5.size
  have hz6 := hB6.size
  simp at hz5
  have HB6 := hide ((HB4.out.trans hB5).trans hB6)
  have HX6 := hide (Bx.but (Bx.but HX4.out hB5 (by omega)) hB6 (by omega))
  have HN6 := hide (Bx.but (Bx.but HN4.out hB5 (by omega)) hB6 (by omega))
  clear hm2' hR5 hR6 hB5 hB6 k0 k1 k2 k3 kl kf
  go_wp2_with fail
  refine hna.mono ?_
  rintro e w7 ⟨rfl, hR7, hB7⟩
  have hz7 := hB7.size
  have HR7 := hide hR7
  have HB7 := hide (HB6.out.trans hB7)
  have HX7 := hide (Bx.but HX6.out hB7 (by omega))
  have HN7 := hide (Bx.but HN6.out hB7 (by omega))
  clear hna hR7 hB7
  have m0 := HN7.out.cell (k := 0) rfl
  have m1 := HN7.out.cell (k := 1) rfl
  have m2 := HN7.out.cell (k := 2) rfl
  have m3 := HN7.out.cell (k := 3) rfl
  have m4 := HN7.out.cell (k := 4) rfl
  have ml := HN7.out.lt
  have mf := HN7.out.free
  go_wp2_with fail
  refine Calls.mono (called_any (b := b) (g := g) (c := c) (L := L) d h1 h7 q hmv _ (name L (nod r0)) hl (by repeat (first | with_reducible exact HR7.out | with_reducible refine Rd.alloc ?_ _ | with_reducible refine Rd.other ?_ _ (by first | omega | (dsimp only; omega)) (by first | omega | (dsimp only; omega))))) ?_
  rintro e w8 ⟨s, rfl, hR8, hB8, hK8⟩
  obtain ⟨sp, sn, sc, rfl⟩ := hK8.slice
  have HT8 := hide (hK8.rep (callF q L (name L (nod r0))).2.1 qa qt 0)
  unfold nC at HT8
  generalize (callF q L (name L (nod r0))).2.1 = ck at *
  have hz7s : w.heap.size < (w7.setCell ⟨w3.heap.size, 2, none⟩ (.string (S qt))).heap.size := by simp [World.setCell]; omega
  have hz8s : w3.heap.size < (w7.setCell ⟨w3.heap.size, 2, none⟩ (.string (S qt))).heap.size := by simp [World.setCell]; omega
  have hz8 := hB8.size
  simp [World.setCell] at hz8
  have HR8 := hide hR8
  have HB8 : Hid (But b w w8) := hide (But.trans (by repeat (first | with_reducible exact HB7.out | with_reducible refine But.alloc ?_ _ | with_reducible refine But.fresh ?_ (by first | omega | (dsimp only; omega)) _)) hB8)
  have HX8 : Hid (Bx w8 w.heap.size 27 #[.int .i64 0, .int .i64 0, .string ⟨#[]⟩, .int .u32 0, .slice none 0 0]) := hide (Bx.but (by repeat (first | with_reducible exact HX7.out | with_reducible exact Bx.newAt (by first | rfl | (simp [World.setCell]; done)) | with_reducible refine Bx.alloc ?_ _ | with_reducible refine Bx.other ?_ _ (by first | omega | (dsimp only; omega)))) hB8 (by omega))
  have hN7 := HN7.out.set 2 (.string (S qt))
  have HN8 : Hid (Bx w8 w3.heap.size 27 #[.int .i64 0, .int .i64 qa, .string (S qt), .int .u32 0, .slice none 0 0]) := hide (Bx.but hN7 hB8 (by omega))
  have HK8 := hide hK8
  clear hR8 hB8 hN7 hK8 m0 m1 m2 m3 m4 ml mf
  have x0 := HX8.out.cell (k := 0) rfl
  have x1 := HX8.out.cell (k := 1) rfl
  have x2 := HX8.out.cell (k := 2) rfl
  have x3 := HX8.out.cell (k := 3) rfl
  have x4 := HX8.out.cell (k := 4) rfl
  have xl := HX8.out.lt
  have xf := HX8.out.free
  have n0 := HN8.out.cell (k := 0) rfl
  have n1 := HN8.out.cell (k := 1) rfl
  have n2 := HN8.out.cell (k := 2) rfl
  have n3 := HN8.out.cell (k := 3) rfl
  have n4 := HN8.out.cell (k := 4) rfl
  have nl := HN8.out.lt
  have nf := HN8.out.free
  go_wp2_with fail
  have hf := fin_put (b := b) (g := g) (c := c) (L := L) (w := w) (w1 := (w8.setCell ⟨w3.heap.size, 0, none⟩ (.int .i64 ck)).setCell ⟨w3.heap.size, 4, none⟩ (.slice sp sn sc)) (r := (callF q L (name L (nod r0))).1) (u := w7.setCell ⟨w3.heap.size, 2, none⟩ (.string (S qt))) (y := .mk ck qa qt 0 (callF q L (name L (nod r0))).2.2) (v0 := .int .i64 ck) (v1 := .int .i64 qa) (v2 := .string (S qt)) (v3 := .int .u32 0) (v4 := .slice sp sn sc) (by repeat (first | with_reducible exact HR8.out | with_reducible refine Rd.alloc ?_ _ | with_reducible refine Rd.other ?_ _ (by first | omega | (dsimp only; omega)) (by first | omega | (dsimp only; omega)))) (by repeat (first | with_reducible exact HB8.out | with_reducible refine But.alloc ?_ _ | with_reducible refine But.fresh ?_ (by first | omega | (dsimp only; omega)) _)) (by repeat (first | with_reducible exact HX8.out | with_reducible exact Bx.newAt (by first | rfl | (simp [World.setCell]; done)) | with_reducible refine Bx.alloc ?_ _ | with_reducible refine Bx.other ?_ _ (by first | omega | (dsimp only; omega)))) hz7s (Rep.wide (v := w8) (by repeat (first | with_reducible exact HT8.out | with_reducible refine Rep.alloc ?_ (by first | omega | (dsimp only; omega) | (simp [World.setCell])) _ | with_reducible refine Rep.set ?_ (by first | omega | (dsimp only; omega)) _)) (Nat.le_refl _) (by simp [World.setCell])) hbz hgz
  exact bodyPost_ret (v := .agg #[.int .i64 ck, .int .i64 qa, .string (S qt), .int .u32 0, .slice sp sn sc]) (results_cell_row (fn := Tryd.f109) rfl _ _ w.heap.size 27 _ (0, 0) _ rfl hf.1 Tryd.underlying27 rfl info_nd) rfl (hf.2 _ rfl rfl)

end
end Go.Proofs.YtimiglepogeeiaaDoor.Parse

