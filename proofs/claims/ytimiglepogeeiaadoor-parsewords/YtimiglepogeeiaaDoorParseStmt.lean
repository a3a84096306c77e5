/- A statement: package parse's statement. Contracts, way by way. -/
import Derived.Test.YtimiglepogeeiaaDoorParseNamed
set_option linter.unusedVariables false
set_option linter.unusedSimpArgs false
set_option maxRecDepth 100000
namespace Go.Proofs.YtimiglepogeeiaaDoor.Parse
open Go.RowKit Go.Proofs.YtimiglepogeeiaaDoor.Lex

section
variable {b g c : Nat} {L : List T} {w : World} {r : R}

set_option maxHeartbeats 16000000 in
theorem st_let (d : Int) (h1 : 0 ≤ d) (h7 : d ≤ 1000) (q : R → R × Tr) (hl : NC b g c L 91 d q) (h : Rd w b g c L r) (hm0 : fol L [108, 101, 116] (nod r) = true) :
    Calls Tryd.prog 80 #[.pointer (some ⟨b, 0, none⟩), .int .i64 d] w (NR b g c L w (need L [59] (givF q L (name L (adv (nod r)))).1, .mk 5 (tk L r).a (tk L (adv (nod r))).t 0 [(givF q L (name L (adv (nod r)))).2])) := by
  have hbz := h.ltb
  have hgz := h.row.lt
  have HB := hide (But.refl b w)
  have HX0 : Hid (Bx (w.alloc (.cells #[.int .i64 0, .int .i64 0, .string ⟨#[]⟩, .int .u32 0, .slice none 0 0] 27)) w.heap.size 27 #[.int .i64 0, .int .i64 0, .string ⟨#[]⟩, .int .u32 0, .slice none 0 0]) := hide (Bx.newAt rfl)
  have hu : w.heap.size < (w.alloc (.cells #[.int .i64 0, .int .i64 0, .string ⟨#[]⟩, .int .u32 0, .slice none 0 0] 27)).heap.size := by simp
  have ho := node_any (h.alloc (.cells #[.int .i64 0, .int .i64 0, .string ⟨#[]⟩, .int .u32 0, .slice none 0 0] 27)) 0
  unfold nC at ho
  have hat : (tk L r).a = (tk L r).a := rfl
  generalize (tk L r).a = at_ at *
  generalize nod r = r1 at *
  clear hat h
  go_enter Tryd.func80, Tryd.ntmps80
  go_wp2_with fail
  refine ho.mono ?_
  rintro e wn ⟨rfl, hRn, hBn⟩
  have hzn := hBn.size
  have HR0 := hide (hRn.alloc (.cells #[.int .i64 0, .int .i64 at_, .string (S []), .int .u32 0, .slice none 0 0] 27))
  have HB0 : Hid (But b w (wn.alloc (.cells #[.int .i64 0, .int .i64 at_, .string (S []), .int .u32 0, .slice none 0 0] 27))) := hide ((But.trans (by repeat (first | with_reducible exact HB.out | with_reducible refine But.alloc ?_ _ | with_reducible refine But.fresh ?_ (by first | omega | (dsimp only; omega)) _)) hBn).alloc _)
  have HY0 := hide ((Bx.but HX0.out hBn (by omega)).alloc (.cells #[.int .i64 0, .int .i64 at_, .string (S []), .int .u32 0, .slice none 0 0] 27))
  have HN0 : Hid (Bx (wn.alloc (.cells #[.int .i64 0, .int .i64 at_, .string (S []), .int .u32 0, .slice none 0 0] 27)) wn.heap.size 27 #[.int .i64 0, .int .i64 at_, .string (S []), .int .u32 0, .slice none 0 0]) := hide (Bx.newAt rfl)
  have hz0 : wn.heap.size < (wn.alloc (.cells #[.int .i64 0, .int .i64 at_, .string (S []), .int .u32 0, .slice none 0 0] 27)).heap.size := by simp
  clear ho hRn hBn
  have ht0 := take_any HR0.out [108, 101, 116] (by decide)
  unfold take at ht0
  rw [hm0, if_pos rfl] at ht0
  go_wp2_with fail
  refine ht0.mono ?_
  rintro e w1 ⟨rfl, hR1, hB1⟩
  have hz1 := hB1.size
  have HR1 := hide hR1
  have HB1 := hide (HB0.out.trans hB1)
  have HY1 := hide (Bx.but HY0.out hB1 (by omega))
  have HN1 := hide (Bx.but HN0.out hB1 (by omega))
  clear ht0 hR1 hB1
  have hna := name_any HR1.out
  generalize (tk L (adv r1)).t = nt at *
  generalize name L (adv r1) = r2 at *
  go_wp2_with fail
  refine Calls.mono (hna) ?_
  rintro e w2 ⟨rfl, hR2, hB2⟩
  have hz2 := hB2.size
  skip
  have HR2 := hide hR2
  have HB2 : Hid (But b w w2) := hide (But.trans (by repeat (first | with_reducible exact HB1.out | with_reducible refine But.alloc ?_ _ | with_reducible refine But.fresh ?_ (by first | omega | (dsimp only; omega)) _)) hB2)
  have HY2 : Hid (Bx w2 w.heap.size 27 #[.int .i64 0, .int .i64 0, .string ⟨#[]⟩, .int .u32 0, .slice none 0 0]) := hide (Bx.but (by repeat (first | with_reducible exact HY1.out | with_reducible exact Bx.newAt (by first | rfl | (simp [World.setCell]; done)) | with_reducible refine Bx.alloc ?_ _ | with_reducible refine Bx.other ?_ _ (by first | omega | (dsimp only; omega)))) hB2 (by omega))
  have hnn : Bx w1 wn.heap.size 27 #[.int .i64 0, .int .i64 at_, .string (S []), .int .u32 0, .slice none 0 0] := HN1.out
  have HN2 : Hid (Bx w2 wn.heap.size 27 #[.int .i64 0, .int .i64 at_, .string (S []), .int .u32 0, .slice none 0 0]) := hide (Bx.but hnn hB2 (by omega))
  clear hnn hR2 hB2 
  clear hna
  have m0 := HN2.out.cell (k := 0) rfl
  have m1 := HN2.out.cell (k := 1) rfl
  have m2 := HN2.out.cell (k := 2) rfl
  have m3 := HN2.out.cell (k := 3) rfl
  have m4 := HN2.out.cell (k := 4) rfl
  have ml := HN2.out.lt
  have mf := HN2.out.free
  go_wp2_with fail
  refine Calls.mono (given_any (b := b) (g := g) (c := c) (L := L) d q hl _ r2 (by repeat (first | with_reducible exact HR2.out | with_reducible refine Rd.alloc ?_ _ | with_reducible refine Rd.other ?_ _ (by first | omega | (dsimp only; omega)) (by first | omega | (dsimp only; omega))))) ?_
  rintro e w3 ⟨s, rfl, hR3, hB3, hK3⟩
  have hz3 := hB3.size
  simp [World.setCell] at hz3
  have HR3 := hide hR3
  have HB3 : Hid (But b w w3) := hide (But.trans (by repeat (first | with_reducible exact HB2.out | with_reducible refine But.alloc ?_ _ | with_reducible refine But.fresh ?_ (by first | omega | (dsimp only; omega)) _)) hB3)
  have HY3 : Hid (Bx w3 w.heap.size 27 #[.int .i64 0, .int .i64 0, .string ⟨#[]⟩, .int .u32 0, .slice none 0 0]) := hide (Bx.but (by repeat (first | with_reducible exact HY2.out | with_reducible exact Bx.newAt (by first | rfl | (simp [World.setCell]; done)) | with_reducible refine Bx.alloc ?_ _ | with_reducible refine Bx.other ?_ _ (by first | omega | (dsimp only; omega)))) hB3 (by omega))
  have hnn : Bx ((w2.setCell ⟨wn.heap.size, 0, none⟩ (.int .i64 5)).setCell ⟨wn.heap.size, 2, none⟩ (.string (S nt))) wn.heap.size 27 #[.int .i64 5, .int .i64 at_, .string (S nt), .int .u32 0, .slice none 0 0] := ((HN2.out.set 0 (.int .i64 5)).set 2 (.string (S nt)))
  have HN3 : Hid (Bx w3 wn.heap.size 27 #[.int .i64 5, .int .i64 at_, .string (S nt), .int .u32 0, .slice none 0 0]) := hide (Bx.but hnn hB3 (by omega))
  obtain ⟨sp, sn, sc, rfl⟩ := hK3.slice
  have hkr := hK3.rep 5 at_ nt 0
  unfold nC at hkr
  have hzE : ((w2.setCell ⟨wn.heap.size, 0, none⟩ (.int .i64 5)).setCell ⟨wn.heap.size, 2, none⟩ (.string (S nt))).heap.size = w2.heap.size := by simp [World.setCell]
  have HT3 : Hid (Rep w3 (Fr ((w2.setCell ⟨wn.heap.size, 0, none⟩ (.int .i64 5)).setCell ⟨wn.heap.size, 2, none⟩ (.string (S nt))) w3) (.mk 5 at_ nt 0 [(givF q L r2).2]) #[.int .i64 5, .int .i64 at_, .string (S nt), .int .u32 0, .slice sp sn sc]) := hide hkr
  clear hK3 hkr
  clear hnn hR3 hB3 m0 m1 m2 m3 m4 ml mf
  have m0 := HN3.out.cell (k := 0) rfl
  have m1 := HN3.out.cell (k := 1) rfl
  have m2 := HN3.out.cell (k := 2) rfl
  have m3 := HN3.out.cell (k := 3) rfl
  have m4 := HN3.out.cell (k := 4) rfl
  have ml := HN3.out.lt
  have mf := HN3.out.free
  go_wp2_with fail
  refine Calls.mono (need_any (b := b) (g := g) (c := c) (L := L) (r := (givF q L r2).1) (by repeat (first | with_reducible exact HR3.out | with_reducible refine Rd.alloc ?_ _ | with_reducible refine Rd.other ?_ _ (by first | omega | (dsimp only; omega)) (by first | omega | (dsimp only; omega)))) [59] (by decide)) ?_
  rintro e w4 ⟨rfl, hR4, hB4⟩
  have hz4 := hB4.size
  simp [World.setCell] at hz4
  have HR4 := hide hR4
  have HB4 : Hid (But b w w4) := hide (But.trans (by repeat (first | with_reducible exact HB3.out | with_reducible refine But.alloc ?_ _ | with_reducible refine But.fresh ?_ (by first | omega | (dsimp only; omega)) _)) hB4)
  have HY4 : Hid (Bx w4 w.heap.size 27 #[.int .i64 0, .int .i64 0, .string ⟨#[]⟩, .int .u32 0, .slice none 0 0]) := hide (Bx.but (by repeat (first | with_reducible exact HY3.out | with_reducible exact Bx.newAt (by first | rfl | (simp [World.setCell]; done)) | with_reducible refine Bx.alloc ?_ _ | with_reducible refine Bx.other ?_ _ (by first | omega | (dsimp only; omega)))) hB4 (by omega))
  have hnn : Bx (w3.setCell ⟨wn.heap.size, 4, none⟩ (.slice sp sn sc)) wn.heap.size 27 #[.int .i64 5, .int .i64 at_, .string (S nt), .int .u32 0, .slice sp sn sc] := (HN3.out.set 4 (.slice sp sn sc))
  have HN4 : Hid (Bx w4 wn.heap.size 27 #[.int .i64 5, .int .i64 at_, .string (S nt), .int .u32 0, .slice sp sn sc]) := hide (Bx.but hnn hB4 (by omega))
  have HT4 : Hid (Rep w4 (Fr ((w2.setCell ⟨wn.heap.size, 0, none⟩ (.int .i64 5)).setCell ⟨wn.heap.size, 2, none⟩ (.string (S nt))) w3) (.mk 5 at_ nt 0 [(givF q L r2).2]) #[.int .i64 5, .int .i64 at_, .string (S nt), .int .u32 0, .slice sp sn sc]) := hide (Rep.keep (by repeat (first | with_reducible exact HT3.out | with_reducible refine Rep.alloc ?_ (by first | omega | (dsimp only; omega) | (simp [World.setCell]; done) | (simp [World.setCell]; omega)) _ | with_reducible refine Rep.set ?_ (by first | omega | (dsimp only; omega)) _)) hB4 (by simp [World.setCell]) (by rw [hzE]; omega))
  clear hnn hR4 hB4 m0 m1 m2 m3 m4 ml mf
  have x0 := HY4.out.cell (k := 0) rfl
  have x1 := HY4.out.cell (k := 1) rfl
  have x2 := HY4.out.cell (k := 2) rfl
  have x3 := HY4.out.cell (k := 3) rfl
  have x4 := HY4.out.cell (k := 4) rfl
  have xl := HY4.out.lt
  have xf := HY4.out.free
  have m0 := HN4.out.cell (k := 0) rfl
  have m1 := HN4.out.cell (k := 1) rfl
  have m2 := HN4.out.cell (k := 2) rfl
  have m3 := HN4.out.cell (k := 3) rfl
  have m4 := HN4.out.cell (k := 4) rfl
  have ml := HN4.out.lt
  have mf := HN4.out.free
  go_wp2_with fail
  have hf := fin_put2 (b := b) (g := g) (c := c) (L := L) (w := w) (w1 := w4) (r := need L [59] (givF q L r2).1) (u := ((w2.setCell ⟨wn.heap.size, 0, none⟩ (.int .i64 5)).setCell ⟨wn.heap.size, 2, none⟩ (.string (S nt)))) (B := w.heap.size) (y := .mk 5 at_ nt 0 [(givF q L r2).2]) (c0 := .int .i64 0) (c1 := .int .i64 0) (c2 := .string ⟨#[]⟩) (c3 := .int .u32 0) (c4 := .slice none 0 0) (v0 := .int .i64 5) (v1 := .int .i64 at_) (v2 := .string (S nt)) (v3 := .int .u32 0) (v4 := .slice sp sn sc) HR4.out HB4.out HY4.out (Nat.le_refl _) (by rw [hzE]; omega) (HT4.out.wide (Nat.le_refl _) (by omega)) hbz hgz
  exact bodyPost_ret (v := .agg #[.int .i64 5, .int .i64 at_, .string (S nt), .int .u32 0, .slice sp sn sc]) (results_cell_row (fn := Tryd.f80) rfl _ _ w.heap.size 27 _ (0, 0) _ rfl hf.1 Tryd.underlying27 rfl info_nd) rfl (hf.2 _ rfl rfl)

set_option maxHeartbeats 16000000 in
theorem st_var (d : Int) (h1 : 0 ≤ d) (h7 : d ≤ 1000) (q : R → R × Tr) (hl : NC b g c L 91 d q) (h : Rd w b g c L r) (hm0 : fol L [108, 101, 116] (nod r) = false) (hm1 : fol L [118, 97, 114] (nod r) = true) :
    Calls Tryd.prog 80 #[.pointer (some ⟨b, 0, none⟩), .int .i64 d] w (NR b g c L w (need L [59] (givF q L (name L (adv (nod r)))).1, .mk 6 (tk L r).a (tk L (adv (nod r))).t 0 [(givF q L (name L (adv (nod r)))).2])) := by
  have hbz := h.ltb
  have hgz := h.row.lt
  have HB := hide (But.refl b w)
  have HX0 : Hid (Bx (w.alloc (.cells #[.int .i64 0, .int .i64 0, .string ⟨#[]⟩, .int .u32 0, .slice none 0 0] 27)) w.heap.size 27 #[.int .i64 0, .int .i64 0, .string ⟨#[]⟩, .int .u32 0, .slice none 0 0]) := hide (Bx.newAt rfl)
  have hu : w.heap.size < (w.alloc (.cells #[.int .i64 0, .int .i64 0, .string ⟨#[]⟩, .int .u32 0, .slice none 0 0] 27)).heap.size := by simp
  have ho := node_any (h.alloc (.cells #[.int .i64 0, .int .i64 0, .string ⟨#[]⟩, .int .u32 0, .slice none 0 0] 27)) 0
  unfold nC at ho
  have hat : (tk L r).a = (tk L r).a := rfl
  generalize (tk L r).a = at_ at *
  generalize nod r = r1 at *
  clear hat h
  go_enter Tryd.func80, Tryd.ntmps80
  go_wp2_with fail
  refine ho.mono ?_
  rintro e wn ⟨rfl, hRn, hBn⟩
  have hzn := hBn.size
  have HR0 := hide (hRn.alloc (.cells #[.int .i64 0, .int .i64 at_, .string (S []), .int .u32 0, .slice none 0 0] 27))
  have HB0 : Hid (But b w (wn.alloc (.cells #[.int .i64 0, .int .i64 at_, .string (S []), .int .u32 0, .slice none 0 0] 27))) := hide ((But.trans (by repeat (first | with_reducible exact HB.out | with_reducible refine But.alloc ?_ _ | with_reducible refine But.fresh ?_ (by first | omega | (dsimp only; omega)) _)) hBn).alloc _)
  have HY0 := hide ((Bx.but HX0.out hBn (by omega)).alloc (.cells #[.int .i64 0, .int .i64 at_, .string (S []), .int .u32 0, .slice none 0 0] 27))
  have HN0 : Hid (Bx (wn.alloc (.cells #[.int .i64 0, .int .i64 at_, .string (S []), .int .u32 0, .slice none 0 0] 27)) wn.heap.size 27 #[.int .i64 0, .int .i64 at_, .string (S []), .int .u32 0, .slice none 0 0]) := hide (Bx.newAt rfl)
  have hz0 : wn.heap.size < (wn.alloc (.cells #[.int .i64 0, .int .i64 at_, .string (S []), .int .u32 0, .slice none 0 0] 27)).heap.size := by simp
  clear ho hRn hBn
  have ht0 := take_any HR0.out [108, 101, 116] (by decide)
  unfold take at ht0
  rw [hm0, if_neg (by simp)] at ht0
  go_wp2_with fail
  refine ht0.mono ?_
  rintro e w1 ⟨rfl, hR1, hB1⟩
  have hz1 := hB1.size
  have HR1 := hide hR1
  have HB1 := hide (HB0.out.trans hB1)
  have HY1 := hide (Bx.but HY0.out hB1 (by omega))
  have HN1 := hide (Bx.but HN0.out hB1 (by omega))
  clear ht0 hR1 hB1
  have ht1 := take_any HR1.out [118, 97, 114] (by decide)
  unfold take at ht1
  rw [hm1, if_pos rfl] at ht1
  go_wp2_with fail
  refine ht1.mono ?_
  rintro e w2 ⟨rfl, hR2, hB2⟩
  have hz2 := hB2.size
  have HR2 := hide hR2
  have HB2 := hide (HB1.out.trans hB2)
  have HY2 := hide (Bx.but HY1.out hB2 (by omega))
  have HN2 := hide (Bx.but HN1.out hB2 (by omega))
  clear ht1 hR2 hB2
  have hna := name_any HR2.out
  generalize (tk L (adv r1)).t = nt at *
  generalize name L (adv r1) = r2 at *
  go_wp2_with fail
  refine Calls.mono (hna) ?_
  rintro e w3 ⟨rfl, hR3, hB3⟩
  have hz3 := hB3.size
  skip
  have HR3 := hide hR3
  have HB3 : Hid (But b w w3) := hide (But.trans (by repeat (first | with_reducible exact HB2.out | with_reducible refine But.alloc ?_ _ | with_reducible refine But.fresh ?_ (by first | omega | (dsimp only; omega)) _)) hB3)
  have HY3 : Hid (Bx w3 w.heap.size 27 #[.int .i64 0, .int .i64 0, .string ⟨#[]⟩, .int .u32 0, .slice none 0 0]) := hide (Bx.but (by repeat (first | with_reducible exact HY2.out | with_reducible exact Bx.newAt (by first | rfl | (simp [World.setCell]; done)) | with_reducible refine Bx.alloc ?_ _ | with_reducible refine Bx.other ?_ _ (by first | omega | (dsimp only; omega)))) hB3 (by omega))
  have hnn : Bx w2 wn.heap.size 27 #[.int .i64 0, .int .i64 at_, .string (S []), .int .u32 0, .slice none 0 0] := HN2.out
  have HN3 : Hid (Bx w3 wn.heap.size 27 #[.int .i64 0, .int .i64 at_, .string (S []), .int .u32 0, .slice none 0 0]) := hide (Bx.but hnn hB3 (by omega))
  clear hnn hR3 hB3 
  clear hna
  have m0 := HN3.out.cell (k := 0) rfl
  have m1 := HN3.out.cell (k := 1) rfl
  have m2 := HN3.out.cell (k := 2) rfl
  have m3 := HN3.out.cell (k := 3) rfl
  have m4 := HN3.out.cell (k := 4) rfl
  have ml := HN3.out.lt
  have mf := HN3.out.free
  go_wp2_with fail
  refine Calls.mono (given_any (b := b) (g := g) (c := c) (L := L) d q hl _ r2 (by repeat (first | with_reducible exact HR3.out | with_reducible refine Rd.alloc ?_ _ | with_reducible refine Rd.other ?_ _ (by first | omega | (dsimp only; omega)) (by first | omega | (dsimp only; omega))))) ?_
  rintro e w4 ⟨s, rfl, hR4, hB4, hK4⟩
  have hz4 := hB4.size
  simp [World.setCell] at hz4
  have HR4 := hide hR4
  have HB4 : Hid (But b w w4) := hide (But.trans (by repeat (first | with_reducible exact HB3.out | with_reducible refine But.alloc ?_ _ | with_reducible refine But.fresh ?_ (by first | omega | (dsimp only; omega)) _)) hB4)
  have HY4 : Hid (Bx w4 w.heap.size 27 #[.int .i64 0, .int .i64 0, .string ⟨#[]⟩, .int .u32 0, .slice none 0 0]) := hide (Bx.but (by repeat (first | with_reducible exact HY3.out | with_reducible exact Bx.newAt (by first | rfl | (simp [World.setCell]; done)) | with_reducible refine Bx.alloc ?_ _ | with_reducible refine Bx.other ?_ _ (by first | omega | (dsimp only; omega)))) hB4 (by omega))
  have hnn : Bx ((w3.setCell ⟨wn.heap.size, 0, none⟩ (.int .i64 6)).setCell ⟨wn.heap.size, 2, none⟩ (.string (S nt))) wn.heap.size 27 #[.int .i64 6, .int .i64 at_, .string (S nt), .int .u32 0, .slice none 0 0] := ((HN3.out.set 0 (.int .i64 6)).set 2 (.string (S nt)))
  have HN4 : Hid (Bx w4 wn.heap.size 27 #[.int .i64 6, .int .i64 at_, .string (S nt), .int .u32 0, .slice none 0 0]) := hide (Bx.but hnn hB4 (by omega))
  obtain ⟨sp, sn, sc, rfl⟩ := hK4.slice
  have hkr := hK4.rep 6 at_ nt 0
  unfold nC at hkr
  have hzE : ((w3.setCell ⟨wn.heap.size, 0, none⟩ (.int .i64 6)).setCell ⟨wn.heap.size, 2, none⟩ (.string (S nt))).heap.size = w3.heap.size := by simp [World.setCell]
  have HT4 : Hid (Rep w4 (Fr ((w3.setCell ⟨wn.heap.size, 0, none⟩ (.int .i64 6)).setCell ⟨wn.heap.size, 2, none⟩ (.string (S nt))) w4) (.mk 6 at_ nt 0 [(givF q L r2).2]) #[.int .i64 6, .int .i64 at_, .string (S nt), .int .u32 0, .slice sp sn sc]) := hide hkr
  clear hK4 hkr
  clear hnn hR4 hB4 m0 m1 m2 m3 m4 ml mf
  have m0 := HN4.out.cell (k := 0) rfl
  have m1 := HN4.out.cell (k := 1) rfl
  have m2 := HN4.out.cell (k := 2) rfl
  have m3 := HN4.out.cell (k := 3) rfl
  have m4 := HN4.out.cell (k := 4) rfl
  have ml := HN4.out.lt
  have mf := HN4.out.free
  go_wp2_with fail
  refine Calls.mono (need_any (b := b) (g := g) (c := c) (L := L) (r := (givF q L r2).1) (by repeat (first | with_reducible exact HR4.out | with_reducible refine Rd.alloc ?_ _ | with_reducible refine Rd.other ?_ _ (by first | omega | (dsimp only; omega)) (by first | omega | (dsimp only; omega)))) [59] (by decide)) ?_
  rintro e w5 ⟨rfl, hR5, hB5⟩
  have hz5 := hB5.size
  simp [World.setCell] at hz5
  have HR5 := hide hR5
  have HB5 : Hid (But b w w5) := hide (But.trans (by repeat (first | with_reducible exact HB4.out | with_reducible refine But.alloc ?_ _ | with_reducible refine But.fresh ?_ (by first | omega | (dsimp only; omega)) _)) hB5)
  have HY5 : Hid (Bx w5 w.heap.size 27 #[.int .i64 0, .int .i64 0, .string ⟨#[]⟩, .int .u32 0, .slice none 0 0]) := hide (Bx.but (by repeat (first | with_reducible exact HY4.out | with_reducible exact Bx.newAt (by first | rfl | (simp [World.setCell]; done)) | with_reducible refine Bx.alloc ?_ _ | with_reducible refine Bx.other ?_ _ (by first | omega | (dsimp only; omega)))) hB5 (by omega))
  have hnn : Bx (w4.setCell ⟨wn.heap.size, 4, none⟩ (.slice sp sn sc)) wn.heap.size 27 #[.int .i64 6, .int .i64 at_, .string (S nt), .int .u32 0, .slice sp sn sc] := (HN4.out.set 4 (.slice sp sn sc))
  have HN5 : Hid (Bx w5 wn.heap.size 27 #[.int .i64 6, .int .i64 at_, .string (S nt), .int .u32 0, .slice sp sn sc]) := hide (Bx.but hnn hB5 (by omega))
  have HT5 : Hid (Rep w5 (Fr ((w3.setCell ⟨wn.heap.size, 0, none⟩ (.int .i64 6)).setCell ⟨wn.heap.size, 2, none⟩ (.string (S nt))) w4) (.mk 6 at_ nt 0 [(givF q L r2).2]) #[.int .i64 6, .int .i64 at_, .string (S nt), .int .u32 0, .slice sp sn sc]) := hide (Rep.keep (by repeat (first | with_reducible exact HT4.out | with_reducible refine Rep.alloc ?_ (by first | omega | (dsimp only; omega) | (simp [World.setCell]; done) | (simp [World.setCell]; omega)) _ | with_reducible refine Rep.set ?_ (by first | omega | (dsimp only; omega)) _)) hB5 (by simp [World.setCell]) (by rw [hzE]; omega))
  clear hnn hR5 hB5 m0 m1 m2 m3 m4 ml mf
  have x0 := HY5.out.cell (k := 0) rfl
  have x1 := HY5.out.cell (k := 1) rfl
  have x2 := HY5.out.cell (k := 2) rfl
  have x3 := HY5.out.cell (k := 3) rfl
  have x4 := HY5.out.cell (k := 4) rfl
  have xl := HY5.out.lt
  have xf := HY5.out.free
  have m0 := HN5.out.cell (k := 0) rfl
  have m1 := HN5.out.cell (k := 1) rfl
  have m2 := HN5.out.cell (k := 2) rfl
  have m3 := HN5.out.cell (k := 3) rfl
  have m4 := HN5.out.cell (k := 4) rfl
  have ml := HN5.out.lt
  have mf := HN5.out.free
  go_wp2_with fail
  have hf := fin_put2 (b := b) (g := g) (c := c) (L := L) (w := w) (w1 := w5) (r := need L [59] (givF q L r2).1) (u := ((w3.setCell ⟨wn.heap.size, 0, none⟩ (.int .i64 6)).setCell ⟨wn.heap.size, 2, none⟩ (.string (S nt)))) (B := w.heap.size) (y := .mk 6 at_ nt 0 [(givF q L r2).2]) (c0 := .int .i64 0) (c1 := .int .i64 0) (c2 := .string ⟨#[]⟩) (c3 := .int .u32 0) (c4 := .slice none 0 0) (v0 := .int .i64 6) (v1 := .int .i64 at_) (v2 := .string (S nt)) (v3 := .int .u32 0) (v4 := .slice sp sn sc) HR5.out HB5.out HY5.out (Nat.le_refl _) (by rw [hzE]; omega) (HT5.out.wide (Nat.le_refl _) (by omega)) hbz hgz
  exact bodyPost_ret (v := .agg #[.int .i64 6, .int .i64 at_, .string (S nt), .int .u32 0, .slice sp sn sc]) (results_cell_row (fn := Tryd.f80) rfl _ _ w.heap.size 27 _ (0, 0) _ rfl hf.1 Tryd.underlying27 rfl info_nd) rfl (hf.2 _ rfl rfl)

set_option maxHeartbeats 16000000 in
theorem st_arr (d : Int) (h1 : 0 ≤ d) (h7 : d ≤ 1000)  (h : Rd w b g c L r) (hm0 : fol L [108, 101, 116] (nod r) = false) (hm1 : fol L [118, 97, 114] (nod r) = false) (hm2 : fol L [97, 114, 114] (nod r) = true) :
    Calls Tryd.prog 80 #[.pointer (some ⟨b, 0, none⟩), .int .i64 d] w (NR b g c L w (need L [59] (sizR L (name L (adv (nod r)))), .mk 7 (tk L r).a (tk L (adv (nod r))).t (sizV L (name L (adv (nod r)))) [])) := by
  have hbz := h.ltb
  have hgz := h.row.lt
  have HB := hide (But.refl b w)
  have HX0 : Hid (Bx (w.alloc (.cells #[.int .i64 0, .int .i64 0, .string ⟨#[]⟩, .int .u32 0, .slice none 0 0] 27)) w.heap.size 27 #[.int .i64 0, .int .i64 0, .string ⟨#[]⟩, .int .u32 0, .slice none 0 0]) := hide (Bx.newAt rfl)
  have hu : w.heap.size < (w.alloc (.cells #[.int .i64 0, .int .i64 0, .string ⟨#[]⟩, .int .u32 0, .slice none 0 0] 27)).heap.size := by simp
  have ho := node_any (h.alloc (.cells #[.int .i64 0, .int .i64 0, .string ⟨#[]⟩, .int .u32 0, .slice none 0 0] 27)) 0
  unfold nC at ho
  have hat : (tk L r).a = (tk L r).a := rfl
  generalize (tk L r).a = at_ at *
  generalize nod r = r1 at *
  clear hat h
  go_enter Tryd.func80, Tryd.ntmps80
  go_wp2_with fail
  refine ho.mono ?_
  rintro e wn ⟨rfl, hRn, hBn⟩
  have hzn := hBn.size
  have HR0 := hide (hRn.alloc (.cells #[.int .i64 0, .int .i64 at_, .string (S []), .int .u32 0, .slice none 0 0] 27))
  have HB0 : Hid (But b w (wn.alloc (.cells #[.int .i64 0, .int .i64 at_, .string (S []), .int .u32 0, .slice none 0 0] 27))) := hide ((But.trans (by repeat (first | with_reducible exact HB.out | with_reducible refine But.alloc ?_ _ | with_reducible refine But.fresh ?_ (by first | omega | (dsimp only; omega)) _)) hBn).alloc _)
  have HY0 := hide ((Bx.but HX0.out hBn (by omega)).alloc (.cells #[.int .i64 0, .int .i64 at_, .string (S []), .int .u32 0, .slice none 0 0] 27))
  have HN0 : Hid (Bx (wn.alloc (.cells #[.int .i64 0, .int .i64 at_, .string (S []), .int .u32 0, .slice none 0 0] 27)) wn.heap.size 27 #[.int .i64 0, .int .i64 at_, .string (S []), .int .u32 0, .slice none 0 0]) := hide (Bx.newAt rfl)
  have hz0 : wn.heap.size < (wn.alloc (.cells #[.int .i64 0, .int .i64 at_, .string (S []), .int .u32 0, .slice none 0 0] 27)).heap.size := by simp
  clear ho hRn hBn
  have ht0 := take_any HR0.out [108, 101, 116] (by decide)
  unfold take at ht0
  rw [hm0, if_neg (by simp)] at ht0
  go_wp2_with fail
  refine ht0.mono ?_
  rintro e w1 ⟨rfl, hR1, hB1⟩
  have hz1 := hB1.size
  have HR1 := hide hR1
  have HB1 := hide (HB0.out.trans hB1)
  have HY1 := hide (Bx.but HY0.out hB1 (by omega))
  have HN1 := hide (Bx.but HN0.out hB1 (by omega))
  clear ht0 hR1 hB1
  have ht1 := take_any HR1.out [118, 97, 114] (by decide)
  unfold take at ht1
  rw [hm1, if_neg (by simp)] at ht1
  go_wp2_with fail
  refine ht1.mono ?_
  rintro e w2 ⟨rfl, hR2, hB2⟩
  have hz2 := hB2.size
  have HR2 := hide hR2
  have HB2 := hide (HB1.out.trans hB2)
  have HY2 := hide (Bx.but HY1.out hB2 (by omega))
  have HN2 := hide (Bx.but HN1.out hB2 (by omega))
  clear ht1 hR2 hB2
  have ht2 := take_any HR2.out [97, 114, 114] (by decide)
  unfold take at ht2
  rw [hm2, if_pos rfl] at ht2
  go_wp2_with fail
  refine ht2.mono ?_
  rintro e w3 ⟨rfl, hR3, hB3⟩
  have hz3 := hB3.size
  have HR3 := hide hR3
  have HB3 := hide (HB2.out.trans hB3)
  have HY3 := hide (Bx.but HY2.out hB3 (by omega))
  have HN3 := hide (Bx.but HN2.out hB3 (by omega))
  clear ht2 hR3 hB3
  have hna := name_any HR3.out
  generalize (tk L (adv r1)).t = nt at *
  generalize name L (adv r1) = r2 at *
  go_wp2_with fail
  refine Calls.mono (hna) ?_
  rintro e w4 ⟨rfl, hR4, hB4⟩
  have hz4 := hB4.size
  skip
  have HR4 := hide hR4
  have HB4 : Hid (But b w w4) := hide (But.trans (by repeat (first | with_reducible exact HB3.out | with_reducible refine But.alloc ?_ _ | with_reducible refine But.fresh ?_ (by first | omega | (dsimp only; omega)) _)) hB4)
  have HY4 : Hid (Bx w4 w.heap.size 27 #[.int .i64 0, .int .i64 0, .string ⟨#[]⟩, .int .u32 0, .slice none 0 0]) := hide (Bx.but (by repeat (first | with_reducible exact HY3.out | with_reducible exact Bx.newAt (by first | rfl | (simp [World.setCell]; done)) | with_reducible refine Bx.alloc ?_ _ | with_reducible refine Bx.other ?_ _ (by first | omega | (dsimp only; omega)))) hB4 (by omega))
  have hnn : Bx w3 wn.heap.size 27 #[.int .i64 0, .int .i64 at_, .string (S []), .int .u32 0, .slice none 0 0] := HN3.out
  have HN4 : Hid (Bx w4 wn.heap.size 27 #[.int .i64 0, .int .i64 at_, .string (S []), .int .u32 0, .slice none 0 0]) := hide (Bx.but hnn hB4 (by omega))
  clear hnn hR4 hB4 
  clear hna
  have hsi := size_any HR4.out
  generalize sizV L r2 = nv at *
  go_wp2_with fail
  refine Calls.mono (hsi) ?_
  rintro e w5 ⟨rfl, hR5, hB5⟩
  have hz5 := hB5.size
  skip
  have HR5 := hide hR5
  have HB5 : Hid (But b w w5) := hide (But.trans (by repeat (first | with_reducible exact HB4.out | with_reducible refine But.alloc ?_ _ | with_reducible refine But.fresh ?_ (by first | omega | (dsimp only; omega)) _)) hB5)
  have HY5 : Hid (Bx w5 w.heap.size 27 #[.int .i64 0, .int .i64 0, .string ⟨#[]⟩, .int .u32 0, .slice none 0 0]) := hide (Bx.but (by repeat (first | with_reducible exact HY4.out | with_reducible exact Bx.newAt (by first | rfl | (simp [World.setCell]; done)) | with_reducible refine Bx.alloc ?_ _ | with_reducible refine Bx.other ?_ _ (by first | omega | (dsimp only; omega)))) hB5 (by omega))
  have hnn : Bx w4 wn.heap.size 27 #[.int .i64 0, .int .i64 at_, .string (S []), .int .u32 0, .slice none 0 0] := HN4.out
  have HN5 : Hid (Bx w5 wn.heap.size 27 #[.int .i64 0, .int .i64 at_, .string (S []), .int .u32 0, .slice none 0 0]) := hide (Bx.but hnn hB5 (by omega))
  clear hnn hR5 hB5 
  clear hsi
  have m0 := HN5.out.cell (k := 0) rfl
  have m1 := HN5.out.cell (k := 1) rfl
  have m2 := HN5.out.cell (k := 2) rfl
  have m3 := HN5.out.cell (k := 3) rfl
  have m4 := HN5.out.cell (k := 4) rfl
  have ml := HN5.out.lt
  have mf := HN5.out.free
  go_wp2_with fail
  refine Calls.mono (need_any (b := b) (g := g) (c := c) (L := L) (r := sizR L r2) (by repeat (first | with_reducible exact HR5.out | with_reducible refine Rd.alloc ?_ _ | with_reducible refine Rd.other ?_ _ (by first | omega | (dsimp only; omega)) (by first | omega | (dsimp only; omega)))) [59] (by decide)) ?_
  rintro e w6 ⟨rfl, hR6, hB6⟩
  have hz6 := hB6.size
  simp [World.setCell] at hz6
  have HR6 := hide hR6
  have HB6 : Hid (But b w w6) := hide (But.trans (by repeat (first | with_reducible exact HB5.out | with_reducible refine But.alloc ?_ _ | with_reducible refine But.fresh ?_ (by first | omega | (dsimp only; omega)) _)) hB6)
  have HY6 : Hid (Bx w6 w.heap.size 27 #[.int .i64 0, .int .i64 0, .string ⟨#[]⟩, .int .u32 0, .slice none 0 0]) := hide (Bx.but (by repeat (first | with_reducible exact HY5.out | with_reducible exact Bx.newAt (by first | rfl | (simp [World.setCell]; done)) | with_reducible refine Bx.alloc ?_ _ | with_reducible refine Bx.other ?_ _ (by first | omega | (dsimp only; omega)))) hB6 (by omega))
  have hnn : Bx (((w5.setCell ⟨wn.heap.size, 0, none⟩ (.int .i64 7)).setCell ⟨wn.heap.size, 2, none⟩ (.string (S nt))).setCell ⟨wn.heap.size, 3, none⟩ (.int .u32 nv)) wn.heap.size 27 #[.int .i64 7, .int .i64 at_, .string (S nt), .int .u32 nv, .slice none 0 0] := (((HN5.out.set 0 (.int .i64 7)).set 2 (.string (S nt))).set 3 (.int .u32 nv))
  have HN6 : Hid (Bx w6 wn.heap.size 27 #[.int .i64 7, .int .i64 at_, .string (S nt), .int .u32 nv, .slice none 0 0]) := hide (Bx.but hnn hB6 (by omega))
  clear hnn hR6 hB6 m0 m1 m2 m3 m4 ml mf
  have x0 := HY6.out.cell (k := 0) rfl
  have x1 := HY6.out.cell (k := 1) rfl
  have x2 := HY6.out.cell (k := 2) rfl
  have x3 := HY6.out.cell (k := 3) rfl
  have x4 := HY6.out.cell (k := 4) rfl
  have xl := HY6.out.lt
  have xf := HY6.out.free
  have m0 := HN6.out.cell (k := 0) rfl
  have m1 := HN6.out.cell (k := 1) rfl
  have m2 := HN6.out.cell (k := 2) rfl
  have m3 := HN6.out.cell (k := 3) rfl
  have m4 := HN6.out.cell (k := 4) rfl
  have ml := HN6.out.lt
  have mf := HN6.out.free
  go_wp2_with fail
  have hf := fin_put2 (b := b) (g := g) (c := c) (L := L) (w := w) (w1 := w6) (r := need L [59] (sizR L r2)) (u := w6) (B := w.heap.size) (y := .mk 7 at_ nt nv []) (c0 := .int .i64 0) (c1 := .int .i64 0) (c2 := .string ⟨#[]⟩) (c3 := .int .u32 0) (c4 := .slice none 0 0) (v0 := .int .i64 7) (v1 := .int .i64 at_) (v2 := .string (S nt)) (v3 := .int .u32 nv) (v4 := .slice none 0 0) HR6.out HB6.out HY6.out (Nat.le_refl _) (by omega) (Rep.leaf _ _ 7 at_ nt nv) hbz hgz
  exact bodyPost_ret (v := .agg #[.int .i64 7, .int .i64 at_, .string (S nt), .int .u32 nv, .slice none 0 0]) (results_cell_row (fn := Tryd.f80) rfl _ _ w.heap.size 27 _ (0, 0) _ rfl hf.1 Tryd.underlying27 rfl info_nd) rfl (hf.2 _ rfl rfl)

set_option maxHeartbeats 16000000 in
theorem st_ret (d : Int) (h1 : 0 ≤ d) (h7 : d ≤ 1000) (q : R → R × Tr) (hl : NC b g c L 91 d q) (h : Rd w b g c L r) (hm0 : fol L [108, 101, 116] (nod r) = false) (hm1 : fol L [118, 97, 114] (nod r) = false) (hm2 : fol L [97, 114, 114] (nod r) = false) (hm3 : fol L [114, 101, 116, 117, 114, 110] (nod r) = true) :
    Calls Tryd.prog 80 #[.pointer (some ⟨b, 0, none⟩), .int .i64 d] w (NR b g c L w (need L [59] (q (adv (nod r))).1, .mk 13 (tk L r).a [] 0 [(q (adv (nod r))).2])) := by
  have hbz := h.ltb
  have hgz := h.row.lt
  have HB := hide (But.refl b w)
  have HX0 : Hid (Bx (w.alloc (.cells #[.int .i64 0, .int .i64 0, .string ⟨#[]⟩, .int .u32 0, .slice none 0 0] 27)) w.heap.size 27 #[.int .i64 0, .int .i64 0, .string ⟨#[]⟩, .int .u32 0, .slice none 0 0]) := hide (Bx.newAt rfl)
  have hu : w.heap.size < (w.alloc (.cells #[.int .i64 0, .int .i64 0, .string ⟨#[]⟩, .int .u32 0, .slice none 0 0] 27)).heap.size := by simp
  have ho := node_any (h.alloc (.cells #[.int .i64 0, .int .i64 0, .string ⟨#[]⟩, .int .u32 0, .slice none 0 0] 27)) 0
  unfold nC at ho
  have hat : (tk L r).a = (tk L r).a := rfl
  generalize (tk L r).a = at_ at *
  generalize nod r = r1 at *
  clear hat h
  go_enter Tryd.func80, Tryd.ntmps80
  go_wp2_with fail
  refine ho.mono ?_
  rintro e wn ⟨rfl, hRn, hBn⟩
  have hzn := hBn.size
  have HR0 := hide (hRn.alloc (.cells #[.int .i64 0, .int .i64 at_, .string (S []), .int .u32 0, .slice none 0 0] 27))
  have HB0 : Hid (But b w (wn.alloc (.cells #[.int .i64 0, .int .i64 at_, .string (S []), .int .u32 0, .slice none 0 0] 27))) := hide ((But.trans (by repeat (first | with_reducible exact HB.out | with_reducible refine But.alloc ?_ _ | with_reducible refine But.fresh ?_ (by first | omega | (dsimp only; omega)) _)) hBn).alloc _)
  have HY0 := hide ((Bx.but HX0.out hBn (by omega)).alloc (.cells #[.int .i64 0, .int .i64 at_, .string (S []), .int .u32 0, .slice none 0 0] 27))
  have HN0 : Hid (Bx (wn.alloc (.cells #[.int .i64 0, .int .i64 at_, .string (S []), .int .u32 0, .slice none 0 0] 27)) wn.heap.size 27 #[.int .i64 0, .int .i64 at_, .string (S []), .int .u32 0, .slice none 0 0]) := hide (Bx.newAt rfl)
  have hz0 : wn.heap.size < (wn.alloc (.cells #[.int .i64 0, .int .i64 at_, .string (S []), .int .u32 0, .slice none 0 0] 27)).heap.size := by simp
  clear ho hRn hBn
  have ht0 := take_any HR0.out [108, 101, 116] (by decide)
  unfold take at ht0
  rw [hm0, if_neg (by simp)] at ht0
  go_wp2_with fail
  refine ht0.mono ?_
  rintro e w1 ⟨rfl, hR1, hB1⟩
  have hz1 := hB1.size
  have HR1 := hide hR1
  have HB1 := hide (HB0.out.trans hB1)
  have HY1 := hide (Bx.but HY0.out hB1 (by omega))
  have HN1 := hide (Bx.but HN0.out hB1 (by omega))
  clear ht0 hR1 hB1
  have ht1 := take_any HR1.out [118, 97, 114] (by decide)
  unfold take at ht1
  rw [hm1, if_neg (by simp)] at ht1
  go_wp2_with fail
  refine ht1.mono ?_
  rintro e w2 ⟨rfl, hR2, hB2⟩
  have hz2 := hB2.size
  have HR2 := hide hR2
  have HB2 := hide (HB1.out.trans hB2)
  have HY2 := hide (Bx.but HY1.out hB2 (by omega))
  have HN2 := hide (Bx.but HN1.out hB2 (by omega))
  clear ht1 hR2 hB2
  have ht2 := take_any HR2.out [97, 114, 114] (by decide)
  unfold take at ht2
  rw [hm2, if_neg (by simp)] at ht2
  go_wp2_with fail
  refine ht2.mono ?_
  rintro e w3 ⟨rfl, hR3, hB3⟩
  have hz3 := hB3.size
  have HR3 := hide hR3
  have HB3 := hide (HB2.out.trans hB3)
  have HY3 := hide (Bx.but HY2.out hB3 (by omega))
  have HN3 := hide (Bx.but HN2.out hB3 (by omega))
  clear ht2 hR3 hB3
  have ht3 := take_any HR3.out [114, 101, 116, 117, 114, 110] (by decide)
  unfold take at ht3
  rw [hm3, if_pos rfl] at ht3
  go_wp2_with fail
  refine ht3.mono ?_
  rintro e w4 ⟨rfl, hR4, hB4⟩
  have hz4 := hB4.size
  have HR4 := hide hR4
  have HB4 := hide (HB3.out.trans hB4)
  have HY4 := hide (Bx.but HY3.out hB4 (by omega))
  have HN4 := hide (Bx.but HN3.out hB4 (by omega))
  clear ht3 hR4 hB4
  have hex := hl w4 _ HR4.out
  go_wp2_with fail
  refine hex.mono ?_
  intro e w5 hn
  obtain ⟨k, a, t, v, l, sp, sn, sc, hq, rfl, hR5, hB5, hT5⟩ := hn.parts
  have hz5 := hB5.size
  have HQ := hide hq
  have HR5 := hide hR5
  have HB5 := hide (HB4.out.trans hB5)
  have HY5 := hide (Bx.but HY4.out hB5 (by omega))
  have HN5 := hide (Bx.but HN4.out hB5 (by omega))
  have HT5 : Hid (Rep w5 (Fr w4 w5) (.mk k a t v l) #[.int .i64 k, .int .i64 a, .string (S t), .int .u32 v, .slice sp sn sc]) := hide hT5
  clear hex hn hq hR5 hB5 hT5
  have m0 := HN5.out.cell (k := 0) rfl
  have m1 := HN5.out.cell (k := 1) rfl
  have m2 := HN5.out.cell (k := 2) rfl
  have m3 := HN5.out.cell (k := 3) rfl
  have m4 := HN5.out.cell (k := 4) rfl
  have ml := HN5.out.lt
  have mf := HN5.out.free
  go_wp2_with fail
  refine Calls.mono (need_any (b := b) (g := g) (c := c) (L := L) (r := (q (adv r1)).1) (by repeat (first | with_reducible exact HR5.out | with_reducible refine Rd.alloc ?_ _ | with_reducible refine Rd.other ?_ _ (by first | omega | (dsimp only; omega)) (by first | omega | (dsimp only; omega)))) [59] (by decide)) ?_
  rintro e w6 ⟨rfl, hR6, hB6⟩
  have hz6 := hB6.size
  simp [World.setCell] at hz6
  have HR6 := hide hR6
  have HB6 : Hid (But b w w6) := hide (But.trans (by repeat (first | with_reducible exact HB5.out | with_reducible refine But.alloc ?_ _ | with_reducible refine But.fresh ?_ (by first | omega | (dsimp only; omega)) _)) hB6)
  have HY6 : Hid (Bx w6 w.heap.size 27 #[.int .i64 0, .int .i64 0, .string ⟨#[]⟩, .int .u32 0, .slice none 0 0]) := hide (Bx.but (by repeat (first | with_reducible exact HY5.out | with_reducible exact Bx.newAt (by first | rfl | (simp [World.setCell]; done)) | with_reducible refine Bx.alloc ?_ _ | with_reducible refine Bx.other ?_ _ (by first | omega | (dsimp only; omega)))) hB6 (by omega))
  have hnn : Bx (((w5.setCell ⟨wn.heap.size, 0, none⟩ (.int .i64 13)).setCell ⟨wn.heap.size, 4, none⟩ (.slice (some ⟨w5.heap.size, 0, none⟩) 1 1)).alloc (.cells #[.int .i64 k, .int .i64 a, .string (S t), .int .u32 v, .slice sp sn sc] 27)) wn.heap.size 27 #[.int .i64 13, .int .i64 at_, .string (S []), .int .u32 0, .slice (some ⟨w5.heap.size, 0, none⟩) 1 1] := (((HN5.out.set 0 (.int .i64 13)).set 4 (.slice (some ⟨w5.heap.size, 0, none⟩) 1 1)).alloc (.cells #[.int .i64 k, .int .i64 a, .string (S t), .int .u32 v, .slice sp sn sc] 27))
  have HN6 : Hid (Bx w6 wn.heap.size 27 #[.int .i64 13, .int .i64 at_, .string (S []), .int .u32 0, .slice (some ⟨w5.heap.size, 0, none⟩) 1 1]) := hide (Bx.but hnn hB6 (by omega))
  have HT6 : Hid (Rep w6 (Fr w4 w5) (.mk k a t v l) #[.int .i64 k, .int .i64 a, .string (S t), .int .u32 v, .slice sp sn sc]) := hide (Rep.keep (by repeat (first | with_reducible exact HT5.out | with_reducible refine Rep.alloc ?_ (by first | omega | (dsimp only; omega) | (simp [World.setCell]; done) | (simp [World.setCell]; omega)) _ | with_reducible refine Rep.set ?_ (by first | omega | (dsimp only; omega)) _)) hB6 (by simp [World.setCell]) (by omega))
  have HA6 : Hid (Bx w6 w5.heap.size 27 #[.int .i64 k, .int .i64 a, .string (S t), .int .u32 v, .slice sp sn sc]) := hide (Bx.but (w := (((w5.setCell ⟨wn.heap.size, 0, none⟩ (.int .i64 13)).setCell ⟨wn.heap.size, 4, none⟩ (.slice (some ⟨w5.heap.size, 0, none⟩) 1 1)).alloc (.cells #[.int .i64 k, .int .i64 a, .string (S t), .int .u32 v, .slice sp sn sc] 27))) (Bx.newAt (by simp [World.setCell])) hB6 (by omega))
  have hrep : Rep w6 (Fr w4 w6) (.mk 13 at_ [] 0 [.mk k a t v l]) (nC 13 at_ [] 0 (.slice (some ⟨w5.heap.size, 0, none⟩) 1 1)) := by
    refine rep_arr 13 at_ [] 0 [.mk k a t v l] [#[.int .i64 k, .int .i64 a, .string (S t), .int .u32 v, .slice sp sn sc]] 1 rfl _ rfl rfl (by simp [maxLen]) HA6.out ⟨by omega, by omega⟩ (fun i y x hy hx => ?_)
    match i, hy, hx with
    | 0, hy, hx =>
      simp at hy hx
      subst hy hx
      exact HT6.out.wide (Nat.le_refl _) (by omega)
  unfold nC at hrep
  have HP := hide hrep
  clear hrep
  clear hnn hR6 hB6 m0 m1 m2 m3 m4 ml mf
  have x0 := HY6.out.cell (k := 0) rfl
  have x1 := HY6.out.cell (k := 1) rfl
  have x2 := HY6.out.cell (k := 2) rfl
  have x3 := HY6.out.cell (k := 3) rfl
  have x4 := HY6.out.cell (k := 4) rfl
  have xl := HY6.out.lt
  have xf := HY6.out.free
  have m0 := HN6.out.cell (k := 0) rfl
  have m1 := HN6.out.cell (k := 1) rfl
  have m2 := HN6.out.cell (k := 2) rfl
  have m3 := HN6.out.cell (k := 3) rfl
  have m4 := HN6.out.cell (k := 4) rfl
  have ml := HN6.out.lt
  have mf := HN6.out.free
  go_wp2_with fail
  have hf := fin_put2 (b := b) (g := g) (c := c) (L := L) (w := w) (w1 := w6) (r := need L [59] (q (adv r1)).1) (u := w4) (B := w.heap.size) (y := .mk 13 at_ [] 0 [.mk k a t v l]) (c0 := .int .i64 0) (c1 := .int .i64 0) (c2 := .string ⟨#[]⟩) (c3 := .int .u32 0) (c4 := .slice none 0 0) (v0 := .int .i64 13) (v1 := .int .i64 at_) (v2 := .string (S [])) (v3 := .int .u32 0) (v4 := .slice (some ⟨w5.heap.size, 0, none⟩) 1 1) HR6.out HB6.out HY6.out (Nat.le_refl _) (by omega) HP.out hbz hgz
  exact bodyPost_ret (v := .agg #[.int .i64 13, .int .i64 at_, .string (S []), .int .u32 0, .slice (some ⟨w5.heap.size, 0, none⟩) 1 1]) (results_cell_row (fn := Tryd.f80) rfl _ _ w.heap.size 27 _ (0, 0) _ rfl hf.1 Tryd.underlying27 rfl info_nd) rfl (hf.2 _ rfl (by rw [HQ.out]))

set_option maxHeartbeats 16000000 in
theorem st_if (d : Int) (h1 : 0 ≤ d) (h7 : d ≤ 1000) (q : R → R × Tr) (hl : NC b g c L 91 d q) (bl : R → R × Tr) (hb : ∀ w r, Rd w b g c L r → (d ≤ 64 ∨ r.e ≠ 0) → Calls Tryd.prog 62 #[.pointer (some ⟨b, 0, none⟩), .int .i64 d] w (NR b g c L w (bl r))) (hbad : 64 < d → ∀ r, (q r).1.e ≠ 0) (hbm : ∀ r, Mv r (bl r).1) (h : Rd w b g c L r) (hm0 : fol L [108, 101, 116] (nod r) = false) (hm1 : fol L [118, 97, 114] (nod r) = false) (hm2 : fol L [97, 114, 114] (nod r) = false) (hm3 : fol L [114, 101, 116, 117, 114, 110] (nod r) = false) (hm4 : fol L [105, 102] (nod r) = true) :
    Calls Tryd.prog 80 #[.pointer (some ⟨b, 0, none⟩), .int .i64 d] w (NR b g c L w ((chF q bl L (adv (nod r))).1, .mk 11 (tk L r).a [] 0 (chF q bl L (adv (nod r))).2)) := by
  have hbz := h.ltb
  have hgz := h.row.lt
  have HB := hide (But.refl b w)
  have HX0 : Hid (Bx (w.alloc (.cells #[.int .i64 0, .int .i64 0, .string ⟨#[]⟩, .int .u32 0, .slice none 0 0] 27)) w.heap.size 27 #[.int .i64 0, .int .i64 0, .string ⟨#[]⟩, .int .u32 0, .slice none 0 0]) := hide (Bx.newAt rfl)
  have hu : w.heap.size < (w.alloc (.cells #[.int .i64 0, .int .i64 0, .string ⟨#[]⟩, .int .u32 0, .slice none 0 0] 27)).heap.size := by simp
  have ho := node_any (h.alloc (.cells #[.int .i64 0, .int .i64 0, .string ⟨#[]⟩, .int .u32 0, .slice none 0 0] 27)) 0
  unfold nC at ho
  have hat : (tk L r).a = (tk L r).a := rfl
  generalize (tk L r).a = at_ at *
  generalize nod r = r1 at *
  clear hat h
  go_enter Tryd.func80, Tryd.ntmps80
  go_wp2_with fail
  refine ho.mono ?_
  rintro e wn ⟨rfl, hRn, hBn⟩
  have hzn := hBn.size
  have HR0 := hide (hRn.alloc (.cells #[.int .i64 0, .int .i64 at_, .string (S []), .int .u32 0, .slice none 0 0] 27))
  have HB0 : Hid (But b w (wn.alloc (.cells #[.int .i64 0, .int .i64 at_, .string (S []), .int .u32 0, .slice none 0 0] 27))) := hide ((But.trans (by repeat (first | with_reducible exact HB.out | with_reducible refine But.alloc ?_ _ | with_reducible refine But.fresh ?_ (by first | omega | (dsimp only; omega)) _)) hBn).alloc _)
  have HY0 := hide ((Bx.but HX0.out hBn (by omega)).alloc (.cells #[.int .i64 0, .int .i64 at_, .string (S []), .int .u32 0, .slice none 0 0] 27))
  have HN0 : Hid (Bx (wn.alloc (.cells #[.int .i64 0, .int .i64 at_, .string (S []), .int .u32 0, .slice none 0 0] 27)) wn.heap.size 27 #[.int .i64 0, .int .i64 at_, .string (S []), .int .u32 0, .slice none 0 0]) := hide (Bx.newAt rfl)
  have hz0 : wn.heap.size < (wn.alloc (.cells #[.int .i64 0, .int .i64 at_, .string (S []), .int .u32 0, .slice none 0 0] 27)).heap.size := by simp
  clear ho hRn hBn
  have ht0 := take_any HR0.out [108, 101, 116] (by decide)
  unfold take at ht0
  rw [hm0, if_neg (by simp)] at ht0
  go_wp2_with fail
  refine ht0.mono ?_
  rintro e w1 ⟨rfl, hR1, hB1⟩
  have hz1 := hB1.size
  have HR1 := hide hR1
  have HB1 := hide (HB0.out.trans hB1)
  have HY1 := hide (Bx.but HY0.out hB1 (by omega))
  have HN1 := hide (Bx.but HN0.out hB1 (by omega))
  clear ht0 hR1 hB1
  have ht1 := take_any HR1.out [118, 97, 114] (by decide)
  unfold take at ht1
  rw [hm1, if_neg (by simp)] at ht1
  go_wp2_with fail
  refine ht1.mono ?_
  rintro e w2 ⟨rfl, hR2, hB2⟩
  have hz2 := hB2.size
  have HR2 := hide hR2
  have HB2 := hide (HB1.out.trans hB2)
  have HY2 := hide (Bx.but HY1.out hB2 (by omega))
  have HN2 := hide (Bx.but HN1.out hB2 (by omega))
  clear ht1 hR2 hB2
  have ht2 := take_any HR2.out [97, 114, 114] (by decide)
  unfold take at ht2
  rw [hm2, if_neg (by simp)] at ht2
  go_wp2_with fail
  refine ht2.mono ?_
  rintro e w3 ⟨rfl, hR3, hB3⟩
  have hz3 := hB3.size
  have HR3 := hide hR3
  have HB3 := hide (HB2.out.trans hB3)
  have HY3 := hide (Bx.but HY2.out hB3 (by omega))
  have HN3 := hide (Bx.but HN2.out hB3 (by omega))
  clear ht2 hR3 hB3
  have ht3 := take_any HR3.out [114, 101, 116, 117, 114, 110] (by decide)
  unfold take at ht3
  rw [hm3, if_neg (by simp)] at ht3
  go_wp2_with fail
  refine ht3.mono ?_
  rintro e w4 ⟨rfl, hR4, hB4⟩
  have hz4 := hB4.size
  have HR4 := hide hR4
  have HB4 := hide (HB3.out.trans hB4)
  have HY4 := hide (Bx.but HY3.out hB4 (by omega))
  have HN4 := hide (Bx.but HN3.out hB4 (by omega))
  clear ht3 hR4 hB4
  have ht4 := take_any HR4.out [105, 102] (by decide)
  unfold take at ht4
  rw [hm4, if_pos rfl] at ht4
  go_wp2_with fail
  refine ht4.mono ?_
  rintro e w5 ⟨rfl, hR5, hB5⟩
  have hz5 := hB5.size
  have HR5 := hide hR5
  have HB5 := hide (HB4.out.trans hB5)
  have HY5 := hide (Bx.but HY4.out hB5 (by omega))
  have HN5 := hide (Bx.but HN4.out hB5 (by omega))
  clear ht4 hR5 hB5
  have m0 := HN5.out.cell (k := 0) rfl
  have m1 := HN5.out.cell (k := 1) rfl
  have m2 := HN5.out.cell (k := 2) rfl
  have m3 := HN5.out.cell (k := 3) rfl
  have m4 := HN5.out.cell (k := 4) rfl
  have ml := HN5.out.lt
  have mf := HN5.out.free
  have hex := choice_any d h1 h7 q bl hl hb hbad hbm at_ HR5.out
  go_wp2_with fail
  refine hex.mono ?_
  intro e w6 hn
  obtain ⟨k, a, t, v, l, sp, sn, sc, hq, rfl, hR6, hB6, hT6⟩ := hn.parts
  have hz6 := hB6.size
  have HQ := hide hq
  have HR6 := hide hR6
  have HB6 := hide (HB5.out.trans hB6)
  have HY6 := hide (Bx.but HY5.out hB6 (by omega))
  have HT6 := hide hT6
  clear hex hn hq hR6 hB6 hT6 m0 m1 m2 m3 m4 ml mf
  have x0 := HY6.out.cell (k := 0) rfl
  have x1 := HY6.out.cell (k := 1) rfl
  have x2 := HY6.out.cell (k := 2) rfl
  have x3 := HY6.out.cell (k := 3) rfl
  have x4 := HY6.out.cell (k := 4) rfl
  have xl := HY6.out.lt
  have xf := HY6.out.free
  go_wp2_with fail
  have hf := fin_put2 (b := b) (g := g) (c := c) (L := L) (w := w) HR6.out HB6.out HY6.out (Nat.le_refl _) (show w.heap.size < w5.heap.size by omega) HT6.out hbz hgz
  exact bodyPost_ret (v := .agg #[.int .i64 k, .int .i64 a, .string (S t), .int .u32 v, .slice sp sn sc]) (results_cell_row (fn := Tryd.f80) rfl _ _ w.heap.size 27 _ (0, 0) _ rfl hf.1 Tryd.underlying27 rfl info_nd) rfl (hf.2 _ rfl HQ.out)

set_option maxHeartbeats 16000000 in
theorem st_for (d : Int) (h1 : 0 ≤ d) (h7 : d ≤ 1000) (q : R → R × Tr) (hl : NC b g c L 91 d q) (bl : R → R × Tr) (hb : ∀ w r, Rd w b g c L r → (d ≤ 64 ∨ r.e ≠ 0) → Calls Tryd.prog 62 #[.pointer (some ⟨b, 0, none⟩), .int .i64 d] w (NR b g c L w (bl r))) (hbad : 64 < d → ∀ r, (q r).1.e ≠ 0) (hbm : ∀ r, Mv r (bl r).1) (h : Rd w b g c L r) (hm0 : fol L [108, 101, 116] (nod r) = false) (hm1 : fol L [118, 97, 114] (nod r) = false) (hm2 : fol L [97, 114, 114] (nod r) = false) (hm3 : fol L [114, 101, 116, 117, 114, 110] (nod r) = false) (hm4 : fol L [105, 102] (nod r) = false) (hm5 : fol L [102, 111, 114] (nod r) = true) :
    Calls Tryd.prog 80 #[.pointer (some ⟨b, 0, none⟩), .int .i64 d] w (NR b g c L w ((rouF q bl L (adv (nod r))).1, .mk 12 (tk L r).a (tk L (adv (nod r))).t 0 (rouF q bl L (adv (nod r))).2)) := by
  have hbz := h.ltb
  have hgz := h.row.lt
  have HB := hide (But.refl b w)
  have HX0 : Hid (Bx (w.alloc (.cells #[.int .i64 0, .int .i64 0, .string ⟨#[]⟩, .int .u32 0, .slice none 0 0] 27)) w.heap.size 27 #[.int .i64 0, .int .i64 0, .string ⟨#[]⟩, .int .u32 0, .slice none 0 0]) := hide (Bx.newAt rfl)
  have hu : w.heap.size < (w.alloc (.cells #[.int .i64 0, .int .i64 0, .string ⟨#[]⟩, .int .u32 0, .slice none 0 0] 27)).heap.size := by simp
  have ho := node_any (h.alloc (.cells #[.int .i64 0, .int .i64 0, .string ⟨#[]⟩, .int .u32 0, .slice none 0 0] 27)) 0
  unfold nC at ho
  have hat : (tk L r).a = (tk L r).a := rfl
  generalize (tk L r).a = at_ at *
  generalize nod r = r1 at *
  clear hat h
  go_enter Tryd.func80, Tryd.ntmps80
  go_wp2_with fail
  refine ho.mono ?_
  rintro e wn ⟨rfl, hRn, hBn⟩
  have hzn := hBn.size
  have HR0 := hide (hRn.alloc (.cells #[.int .i64 0, .int .i64 at_, .string (S []), .int .u32 0, .slice none 0 0] 27))
  have HB0 : Hid (But b w (wn.alloc (.cells #[.int .i64 0, .int .i64 at_, .string (S []), .int .u32 0, .slice none 0 0] 27))) := hide ((But.trans (by repeat (first | with_reducible exact HB.out | with_reducible refine But.alloc ?_ _ | with_reducible refine But.fresh ?_ (by first | omega | (dsimp only; omega)) _)) hBn).alloc _)
  have HY0 := hide ((Bx.but HX0.out hBn (by omega)).alloc (.cells #[.int .i64 0, .int .i64 at_, .string (S []), .int .u32 0, .slice none 0 0] 27))
  have HN0 : Hid (Bx (wn.alloc (.cells #[.int .i64 0, .int .i64 at_, .string (S []), .int .u32 0, .slice none 0 0] 27)) wn.heap.size 27 #[.int .i64 0, .int .i64 at_, .string (S []), .int .u32 0, .slice none 0 0]) := hide (Bx.newAt rfl)
  have hz0 : wn.heap.size < (wn.alloc (.cells #[.int .i64 0, .int .i64 at_, .string (S []), .int .u32 0, .slice none 0 0] 27)).heap.size := by simp
  clear ho hRn hBn
  have ht0 := take_any HR0.out [108, 101, 116] (by decide)
  unfold take at ht0
  rw [hm0, if_neg (by simp)] at ht0
  go_wp2_with fail
  refine ht0.mono ?_
  rintro e w1 ⟨rfl, hR1, hB1⟩
  have hz1 := hB1.size
  have HR1 := hide hR1
  have HB1 := hide (HB0.out.trans hB1)
  have HY1 := hide (Bx.but HY0.out hB1 (by omega))
  have HN1 := hide (Bx.but HN0.out hB1 (by omega))
  clear ht0 hR1 hB1
  have ht1 := take_any HR1.out [118, 97, 114] (by decide)
  unfold take at ht1
  rw [hm1, if_neg (by simp)] at ht1
  go_wp2_with fail
  refine ht1.mono ?_
  rintro e w2 ⟨rfl, hR2, hB2⟩
  have hz2 := hB2.size
  have HR2 := hide hR2
  have HB2 := hide (HB1.out.trans hB2)
  have HY2 := hide (Bx.but HY1.out hB2 (by omega))
  have HN2 := hide (Bx.but HN1.out hB2 (by omega))
  clear ht1 hR2 hB2
  have ht2 := take_any HR2.out [97, 114, 114] (by decide)
  unfold take at ht2
  rw [hm2, if_neg (by simp)] at ht2
  go_wp2_with fail
  refine ht2.mono ?_
  rintro e w3 ⟨rfl, hR3, hB3⟩
  have hz3 := hB3.size
  have HR3 := hide hR3
  have HB3 := hide (HB2.out.trans hB3)
  have HY3 := hide (Bx.but HY2.out hB3 (by omega))
  have HN3 := hide (Bx.but HN2.out hB3 (by omega))
  clear ht2 hR3 hB3
  have ht3 := take_any HR3.out [114, 101, 116, 117, 114, 110] (by decide)
  unfold take at ht3
  rw [hm3, if_neg (by simp)] at ht3
  go_wp2_with fail
  refine ht3.mono ?_
  rintro e w4 ⟨rfl, hR4, hB4⟩
  have hz4 := hB4.size
  have HR4 := hide hR4
  have HB4 := hide (HB3.out.trans hB4)
  have HY4 := hide (Bx.but HY3.out hB4 (by omega))
  have HN4 := hide (Bx.but HN3.out hB4 (by omega))
  clear ht3 hR4 hB4
  have ht4 := take_any HR4.out [105, 102] (by decide)
  unfold take at ht4
  rw [hm4, if_neg (by simp)] at ht4
  go_wp2_with fail
  refine ht4.mono ?_
  rintro e w5 ⟨rfl, hR5, hB5⟩
  have hz5 := hB5.size
  have HR5 := hide hR5
  have HB5 := hide (HB4.out.trans hB5)
  have HY5 := hide (Bx.but HY4.out hB5 (by omega))
  have HN5 := hide (Bx.but HN4.out hB5 (by omega))
  clear ht4 hR5 hB5
  have ht5 := take_any HR5.out [102, 111, 114] (by decide)
  unfold take at ht5
  rw [hm5, if_pos rfl] at ht5
  go_wp2_with fail
  refine ht5.mono ?_
  rintro e w6 ⟨rfl, hR6, hB6⟩
  have hz6 := hB6.size
  have HR6 := hide hR6
  have HB6 := hide (HB5.out.trans hB6)
  have HY6 := hide (Bx.but HY5.out hB6 (by omega))
  have HN6 := hide (Bx.but HN5.out hB6 (by omega))
  clear ht5 hR6 hB6
  have m0 := HN6.out.cell (k := 0) rfl
  have m1 := HN6.out.cell (k := 1) rfl
  have m2 := HN6.out.cell (k := 2) rfl
  have m3 := HN6.out.cell (k := 3) rfl
  have m4 := HN6.out.cell (k := 4) rfl
  have ml := HN6.out.lt
  have mf := HN6.out.free
  have hex := rounds_any d h1 h7 q bl hl hb hbad at_ HR6.out
  go_wp2_with fail
  refine hex.mono ?_
  intro e w7 hn
  obtain ⟨k, a, t, v, l, sp, sn, sc, hq, rfl, hR7, hB7, hT7⟩ := hn.parts
  have hz7 := hB7.size
  have HQ := hide hq
  have HR7 := hide hR7
  have HB7 := hide (HB6.out.trans hB7)
  have HY7 := hide (Bx.but HY6.out hB7 (by omega))
  have HT7 := hide hT7
  clear hex hn hq hR7 hB7 hT7 m0 m1 m2 m3 m4 ml mf
  have x0 := HY7.out.cell (k := 0) rfl
  have x1 := HY7.out.cell (k := 1) rfl
  have x2 := HY7.out.cell (k := 2) rfl
  have x3 := HY7.out.cell (k := 3) rfl
  have x4 := HY7.out.cell (k := 4) rfl
  have xl := HY7.out.lt
  have xf := HY7.out.free
  go_wp2_with fail
  have hf := fin_put2 (b := b) (g := g) (c := c) (L := L) (w := w) HR7.out HB7.out HY7.out (Nat.le_refl _) (show w.heap.size < w6.heap.size by omega) HT7.out hbz hgz
  exact bodyPost_ret (v := .agg #[.int .i64 k, .int .i64 a, .string (S t), .int .u32 v, .slice sp sn sc]) (results_cell_row (fn := Tryd.f80) rfl _ _ w.heap.size 27 _ (0, 0) _ rfl hf.1 Tryd.underlying27 rfl info_nd) rfl (hf.2 _ rfl HQ.out)

set_option maxHeartbeats 16000000 in
theorem st_name (d : Int) (h1 : 0 ≤ d) (h7 : d ≤ 1000) (q : R → R × Tr) (hl : NC b g c L 91 d q) (qi : R → R × Tr) (hmi : ∀ r, Mv r (qi r).1) (hli : (name L (nod r)).e = 0 → NC b g c L 91 (d + 1) qi) (h : Rd w b g c L r) (hm0 : fol L [108, 101, 116] (nod r) = false) (hm1 : fol L [118, 97, 114] (nod r) = false) (hm2 : fol L [97, 114, 114] (nod r) = false) (hm3 : fol L [114, 101, 116, 117, 114, 110] (nod r) = false) (hm4 : fol L [105, 102] (nod r) = false) (hm5 : fol L [102, 111, 114] (nod r) = false) :
    Calls Tryd.prog 80 #[.pointer (some ⟨b, 0, none⟩), .int .i64 d] w (NR b g c L w (need L [59] (namF q qi L (nod r)).1, .mk (namF q qi L (nod r)).2.1 (tk L r).a (tk L (nod r)).t 0 (namF q qi L (nod r)).2.2)) := by
  have hbz := h.ltb
  have hgz := h.row.lt
  have HB := hide (But.refl b w)
  have HX0 : Hid (Bx (w.alloc (.cells #[.int .i64 0, .int .i64 0, .string ⟨#[]⟩, .int .u32 0, .slice none 0 0] 27)) w.heap.size 27 #[.int .i64 0, .int .i64 0, .string ⟨#[]⟩, .int .u32 0, .slice none 0 0]) := hide (Bx.newAt rfl)
  have hu : w.heap.size < (w.alloc (.cells #[.int .i64 0, .int .i64 0, .string ⟨#[]⟩, .int .u32 0, .slice none 0 0] 27)).heap.size := by simp
  have ho := node_any (h.alloc (.cells #[.int .i64 0, .int .i64 0, .string ⟨#[]⟩, .int .u32 0, .slice none 0 0] 27)) 0
  unfold nC at ho
  have hat : (tk L r).a = (tk L r).a := rfl
  generalize (tk L r).a = at_ at *
  generalize nod r = r1 at *
  clear hat h
  go_enter Tryd.func80, Tryd.ntmps80
  go_wp2_with fail
  refine ho.mono ?_
  rintro e wn ⟨rfl, hRn, hBn⟩
  have hzn := hBn.size
  have HR0 := hide (hRn.alloc (.cells #[.int .i64 0, .int .i64 at_, .string (S []), .int .u32 0, .slice none 0 0] 27))
  have HB0 : Hid (But b w (wn.alloc (.cells #[.int .i64 0, .int .i64 at_, .string (S []), .int .u32 0, .slice none 0 0] 27))) := hide ((But.trans (by repeat (first | with_reducible exact HB.out | with_reducible refine But.alloc ?_ _ | with_reducible refine But.fresh ?_ (by first | omega | (dsimp only; omega)) _)) hBn).alloc _)
  have HY0 := hide ((Bx.but HX0.out hBn (by omega)).alloc (.cells #[.int .i64 0, .int .i64 at_, .string (S []), .int .u32 0, .slice none 0 0] 27))
  have HN0 : Hid (Bx (wn.alloc (.cells #[.int .i64 0, .int .i64 at_, .string (S []), .int .u32 0, .slice none 0 0] 27)) wn.heap.size 27 #[.int .i64 0, .int .i64 at_, .string (S []), .int .u32 0, .slice none 0 0]) := hide (Bx.newAt rfl)
  have hz0 : wn.heap.size < (wn.alloc (.cells #[.int .i64 0, .int .i64 at_, .string (S []), .int .u32 0, .slice none 0 0] 27)).heap.size := by simp
  clear ho hRn hBn
  have ht0 := take_any HR0.out [108, 101, 116] (by decide)
  unfold take at ht0
  rw [hm0, if_neg (by simp)] at ht0
  go_wp2_with fail
  refine ht0.mono ?_
  rintro e w1 ⟨rfl, hR1, hB1⟩
  have hz1 := hB1.size
  have HR1 := hide hR1
  have HB1 := hide (HB0.out.trans hB1)
  have HY1 := hide (Bx.but HY0.out hB1 (by omega))
  have HN1 := hide (Bx.but HN0.out hB1 (by omega))
  clear ht0 hR1 hB1
  have ht1 := take_any HR1.out [118, 97, 114] (by decide)
  unfold take at ht1
  rw [hm1, if_neg (by simp)] at ht1
  go_wp2_with fail
  refine ht1.mono ?_
  rintro e w2 ⟨rfl, hR2, hB2⟩
  have hz2 := hB2.size
  have HR2 := hide hR2
  have HB2 := hide (HB1.out.trans hB2)
  have HY2 := hide (Bx.but HY1.out hB2 (by omega))
  have HN2 := hide (Bx.but HN1.out hB2 (by omega))
  clear ht1 hR2 hB2
  have ht2 := take_any HR2.out [97, 114, 114] (by decide)
  unfold take at ht2
  rw [hm2, if_neg (by simp)] at ht2
  go_wp2_with fail
  refine ht2.mono ?_
  rintro e w3 ⟨rfl, hR3, hB3⟩
  have hz3 := hB3.size
  have HR3 := hide hR3
  have HB3 := hide (HB2.out.trans hB3)
  have HY3 := hide (Bx.but HY2.out hB3 (by omega))
  have HN3 := hide (Bx.but HN2.out hB3 (by omega))
  clear ht2 hR3 hB3
  have ht3 := take_any HR3.out [114, 101, 116, 117, 114, 110] (by decide)
  unfold take at ht3
  rw [hm3, if_neg (by simp)] at ht3
  go_wp2_with fail
  refine ht3.mono ?_
  rintro e w4 ⟨rfl, hR4, hB4⟩
  have hz4 := hB4.size
  have HR4 := hide hR4
  have HB4 := hide (HB3.out.trans hB4)
  have HY4 := hide (Bx.but HY3.out hB4 (by omega))
  have HN4 := hide (Bx.but HN3.out hB4 (by omega))
  clear ht3 hR4 hB4
  have ht4 := take_any HR4.out [105, 102] (by decide)
  unfold take at ht4
  rw [hm4, if_neg (by simp)] at ht4
  go_wp2_with fail
  refine ht4.mono ?_
  rintro e w5 ⟨rfl, hR5, hB5⟩
  have hz5 := hB5.size
  have HR5 := hide hR5
  have HB5 := hide (HB4.out.trans hB5)
  have HY5 := hide (Bx.but HY4.out hB5 (by omega))
  have HN5 := hide (Bx.but HN4.out hB5 (by omega))
  clear ht4 hR5 hB5
  have ht5 := take_any HR5.out [102, 111, 114] (by decide)
  unfold take at ht5
  rw [hm5, if_neg (by simp)] at ht5
  go_wp2_with fail
  refine ht5.mono ?_
  rintro e w6 ⟨rfl, hR6, hB6⟩
  have hz6 := hB6.size
  have HR6 := hide hR6
  have HB6 := hide (HB5.out.trans hB6)
  have HY6 := hide (Bx.but HY5.out hB6 (by omega))
  have HN6 := hide (Bx.but HN5.out hB6 (by omega))
  clear ht5 hR6 hB6
  have m0 := HN6.out.cell (k := 0) rfl
  have m1 := HN6.out.cell (k := 1) rfl
  have m2 := HN6.out.cell (k := 2) rfl
  have m3 := HN6.out.cell (k := 3) rfl
  have m4 := HN6.out.cell (k := 4) rfl
  have ml := HN6.out.lt
  have mf := HN6.out.free
  have hex := named_any d h1 h7 q hl qi hmi hli at_ HR6.out
  go_wp2_with fail
  refine hex.mono ?_
  intro e w7 hn
  obtain ⟨k, a, t, v, l, sp, sn, sc, hq, rfl, hR7, hB7, hT7⟩ := hn.parts
  have hz7 := hB7.size
  have HQ := hide hq
  have HR7 := hide hR7
  have HB7 := hide (HB6.out.trans hB7)
  have HY7 := hide (Bx.but HY6.out hB7 (by omega))
  have HN7 := hide (Bx.but HN6.out hB7 (by omega))
  have HT7 : Hid (Rep w7 (Fr w6 w7) (.mk k a t v l) #[.int .i64 k, .int .i64 a, .string (S t), .int .u32 v, .slice sp sn sc]) := hide hT7
  clear hex hn hq hR7 hB7 hT7 m0 m1 m2 m3 m4 ml mf
  have m0 := HN7.out.cell (k := 0) rfl
  have m1 := HN7.out.cell (k := 1) rfl
  have m2 := HN7.out.cell (k := 2) rfl
  have m3 := HN7.out.cell (k := 3) rfl
  have m4 := HN7.out.cell (k := 4) rfl
  have ml := HN7.out.lt
  have mf := HN7.out.free
  go_wp2_with fail
  refine Calls.mono (need_any (b := b) (g := g) (c := c) (L := L) (r := (namF q qi L r1).1) (by repeat (first | with_reducible exact HR7.out | with_reducible refine Rd.alloc ?_ _ | with_reducible refine Rd.other ?_ _ (by first | omega | (dsimp only; omega)) (by first | omega | (dsimp only; omega)))) [59] (by decide)) ?_
  rintro e w8 ⟨rfl, hR8, hB8⟩
  have hz8 := hB8.size
  simp [World.setCell] at hz8
  have HR8 := hide hR8
  have HB8 : Hid (But b w w8) := hide (But.trans (by repeat (first | with_reducible exact HB7.out | with_reducible refine But.alloc ?_ _ | with_reducible refine But.fresh ?_ (by first | omega | (dsimp only; omega)) _)) hB8)
  have HY8 : Hid (Bx w8 w.heap.size 27 #[.int .i64 0, .int .i64 0, .string ⟨#[]⟩, .int .u32 0, .slice none 0 0]) := hide (Bx.but (by repeat (first | with_reducible exact HY7.out | with_reducible exact Bx.newAt (by first | rfl | (simp [World.setCell]; done)) | with_reducible refine Bx.alloc ?_ _ | with_reducible refine Bx.other ?_ _ (by first | omega | (dsimp only; omega)))) hB8 (by omega))
  have hnn : Bx (((((w7.setCell ⟨wn.heap.size, 0, none⟩ (.int .i64 k)).setCell ⟨wn.heap.size, 1, none⟩ (.int .i64 a)).setCell ⟨wn.heap.size, 2, none⟩ (.string (S t))).setCell ⟨wn.heap.size, 3, none⟩ (.int .u32 v)).setCell ⟨wn.heap.size, 4, none⟩ (.slice sp sn sc)) wn.heap.size 27 #[.int .i64 k, .int .i64 a, .string (S t), .int .u32 v, .slice sp sn sc] := (((((HN7.out.set 0 (.int .i64 k)).set 1 (.int .i64 a)).set 2 (.string (S t))).set 3 (.int .u32 v)).set 4 (.slice sp sn sc))
  have HN8 : Hid (Bx w8 wn.heap.size 27 #[.int .i64 k, .int .i64 a, .string (S t), .int .u32 v, .slice sp sn sc]) := hide (Bx.but hnn hB8 (by omega))
  have HT8 : Hid (Rep w8 (Fr w6 w7) (.mk k a t v l) #[.int .i64 k, .int .i64 a, .string (S t), .int .u32 v, .slice sp sn sc]) := hide (Rep.keep (by repeat (first | with_reducible exact HT7.out | with_reducible refine Rep.alloc ?_ (by first | omega | (dsimp only; omega) | (simp [World.setCell]; done) | (simp [World.setCell]; omega)) _ | with_reducible refine Rep.set ?_ (by first | omega | (dsimp only; omega)) _)) hB8 (by simp [World.setCell]) (by omega))
  clear hnn hR8 hB8 m0 m1 m2 m3 m4 ml mf
  have x0 := HY8.out.cell (k := 0) rfl
  have x1 := HY8.out.cell (k := 1) rfl
  have x2 := HY8.out.cell (k := 2) rfl
  have x3 := HY8.out.cell (k := 3) rfl
  have x4 := HY8.out.cell (k := 4) rfl
  have xl := HY8.out.lt
  have xf := HY8.out.free
  have m0 := HN8.out.cell (k := 0) rfl
  have m1 := HN8.out.cell (k := 1) rfl
  have m2 := HN8.out.cell (k := 2) rfl
  have m3 := HN8.out.cell (k := 3) rfl
  have m4 := HN8.out.cell (k := 4) rfl
  have ml := HN8.out.lt
  have mf := HN8.out.free
  go_wp2_with fail
  have hf := fin_put2 (b := b) (g := g) (c := c) (L := L) (w := w) (w1 := w8) (r := need L [59] (namF q qi L r1).1) (u := w6) (B := w.heap.size) (y := .mk k a t v l) (c0 := .int .i64 0) (c1 := .int .i64 0) (c2 := .string ⟨#[]⟩) (c3 := .int .u32 0) (c4 := .slice none 0 0) (v0 := .int .i64 k) (v1 := .int .i64 a) (v2 := .string (S t)) (v3 := .int .u32 v) (v4 := .slice sp sn sc) HR8.out HB8.out HY8.out (Nat.le_refl _) (by omega) (HT8.out.wide (Nat.le_refl _) (by omega)) hbz hgz
  exact bodyPost_ret (v := .agg #[.int .i64 k, .int .i64 a, .string (S t), .int .u32 v, .slice sp sn sc]) (results_cell_row (fn := Tryd.f80) rfl _ _ w.heap.size 27 _ (0, 0) _ rfl hf.1 Tryd.underlying27 rfl info_nd) rfl (hf.2 _ rfl HQ.out)

end
end Go.Proofs.YtimiglepogeeiaaDoor.Parse

