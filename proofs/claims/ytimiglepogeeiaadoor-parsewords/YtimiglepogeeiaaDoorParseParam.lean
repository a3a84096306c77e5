/- A parameter: package parse's parameter. A contract. -/
import Derived.Test.YtimiglepogeeiaaDoorParseBlock
set_option linter.unusedVariables false
set_option linter.unusedSimpArgs false
set_option maxRecDepth 100000
namespace Go.Proofs.YtimiglepogeeiaaDoor.Parse
open Go.RowKit Go.Proofs.YtimiglepogeeiaaDoor.Lex

section
variable {b g c : Nat} {L : List T} {w : World} {r : R}

set_option maxHeartbeats 16000000 in
theorem pm_1 (h : Rd w b g c L r) (hm0 : fol L [112, 117, 98] (need L [58] (name L (nod r))) = true) :
    Calls Tryd.prog 60 #[.pointer (some ⟨b, 0, none⟩)] w (NR b g c L w (adv (need L [58] (name L (nod r))), .mk 3 (tk L r).a (tk L r).t 1 [])) := by
  have hbz := h.ltb
  have hgz := h.row.lt
  have HB := hide (But.refl b w)
  have HX0 : Hid (Bx (w.alloc (.cells #[.int .i64 0, .int .i64 0, .string ⟨#[]⟩, .int .u32 0, .slice none 0 0] 27)) w.heap.size 27 #[.int .i64 0, .int .i64 0, .string ⟨#[]⟩, .int .u32 0, .slice none 0 0]) := hide (Bx.newAt rfl)
  have hu : w.heap.size < (w.alloc (.cells #[.int .i64 0, .int .i64 0, .string ⟨#[]⟩, .int .u32 0, .slice none 0 0] 27)).heap.size := by simp
  have ho := node_any (h.alloc (.cells #[.int .i64 0, .int .i64 0, .string ⟨#[]⟩, .int .u32 0, .slice none 0 0] 27)) 3
  unfold nC at ho
  have htn : tk L (nod r) = tk L r := tk_nod L r
  have hat : (tk L r).a = (tk L r).a := rfl
  generalize (tk L r).a = at_ at ho hat ⊢
  have hnt : (tk L (nod r)).t = (tk L r).t := by rw [htn]
  generalize (tk L r).t = nt at hnt ⊢
  generalize nod r = r1 at *
  generalize hrn : name L r1 = r2 at *
  generalize hr3 : need L [58] r2 = r3 at *
  have HNT := hide hnt
  have HRN := hide hrn
  have HR3E := hide hr3
  clear hat h htn hnt hrn hr3
  go_enter Tryd.func60, Tryd.ntmps60
  go_wp2_with fail
  refine ho.mono ?_
  rintro e wn ⟨rfl, hRn, hBn⟩
  have hzn := hBn.size
  have HR0 := hide (hRn.alloc (.cells #[.int .i64 3, .int .i64 at_, .string (S []), .int .u32 0, .slice none 0 0] 27))
  have HB0 : Hid (But b w (wn.alloc (.cells #[.int .i64 3, .int .i64 at_, .string (S []), .int .u32 0, .slice none 0 0] 27))) := hide ((But.trans (by repeat (first | with_reducible exact HB.out | with_reducible refine But.alloc ?_ _ | with_reducible refine But.fresh ?_ (by first | omega | (dsimp only; omega)) _)) hBn).alloc _)
  have HY0 := hide ((Bx.but HX0.out hBn (by omega)).alloc (.cells #[.int .i64 3, .int .i64 at_, .string (S []), .int .u32 0, .slice none 0 0] 27))
  have HN0 : Hid (Bx (wn.alloc (.cells #[.int .i64 3, .int .i64 at_, .string (S []), .int .u32 0, .slice none 0 0] 27)) wn.heap.size 27 #[.int .i64 3, .int .i64 at_, .string (S []), .int .u32 0, .slice none 0 0]) := hide (Bx.newAt rfl)
  have hz0 : wn.heap.size < (wn.alloc (.cells #[.int .i64 3, .int .i64 at_, .string (S []), .int .u32 0, .slice none 0 0] 27)).heap.size := by simp
  have hna := name_any HR0.out
  rw [HNT.out, HRN.out] at hna
  clear ho hRn hBn
  go_wp2_with fail
  refine hna.mono ?_
  rintro e w1 ⟨rfl, hR1, hB1⟩
  have hz1 := hB1.size
  have HR1 := hide hR1
  have HB1 := hide (HB0.out.trans hB1)
  have HY1 := hide (Bx.but HY0.out hB1 (by omega))
  have HN1 : Hid (Bx w1 wn.heap.size 27 #[.int .i64 3, .int .i64 at_, .string (S []), .int .u32 0, .slice none 0 0]) := hide (Bx.but HN0.out hB1 (by omega))
  clear hna hR1 hB1
  have m0 := HN1.out.cell (k := 0) rfl
  have m1 := HN1.out.cell (k := 1) rfl
  have m2 := HN1.out.cell (k := 2) rfl
  have m3 := HN1.out.cell (k := 3) rfl
  have m4 := HN1.out.cell (k := 4) rfl
  have ml := HN1.out.lt
  have mf := HN1.out.free
  go_wp2_with fail
  refine Calls.mono (need_any (b := b) (g := g) (c := c) (L := L) (r := r2) (by repeat (first | with_reducible exact HR1.out | with_reducible refine Rd.alloc ?_ _ | with_reducible refine Rd.other ?_ _ (by first | omega | (dsimp only; omega)) (by first | omega | (dsimp only; omega)))) [58] (by decide)) ?_
  rintro e w2 ⟨rfl, hR2, hB2⟩
  have hz2 := hB2.size
  simp [World.setCell] at hz2
  have HR2 := hide hR2
  have HB2 : Hid (But b w w2) := hide (But.trans (by repeat (first | with_reducible exact HB1.out | with_reducible refine But.alloc ?_ _ | with_reducible refine But.fresh ?_ (by first | omega | (dsimp only; omega)) _)) hB2)
  have HY2 : Hid (Bx w2 w.heap.size 27 #[.int .i64 0, .int .i64 0, .string ⟨#[]⟩, .int .u32 0, .slice none 0 0]) := hide (Bx.but (by repeat (first | with_reducible exact HY1.out | (with_reducible refine Bx.newAt ?_; first | rfl | (simp [World.setCell]; done)) | with_reducible refine Bx.alloc ?_ _ | with_reducible refine Bx.other ?_ _ (by first | omega | (dsimp only; omega)))) hB2 (by omega))
  have hnn : Bx (w1.setCell ⟨wn.heap.size, 2, none⟩ (.string (S nt))) wn.heap.size 27 #[.int .i64 3, .int .i64 at_, .string (S nt), .int .u32 0, .slice none 0 0] := (HN1.out.set 2 (.string (S nt)))
  have HN2 : Hid (Bx w2 wn.heap.size 27 #[.int .i64 3, .int .i64 at_, .string (S nt), .int .u32 0, .slice none 0 0]) := hide (Bx.but hnn hB2 (by omega))
  clear hnn hR2 hB2 m0 m1 m2 m3 m4 ml mf
  rw [HR3E.out] at HR2
  have ht0 := take_any HR2.out [112, 117, 98] (by decide)
  unfold take at ht0
  rw [hm0, if_pos rfl] at ht0
  go_wp2_with fail
  refine ht0.mono ?_
  rintro e w3 ⟨rfl, hR3, hB3⟩
  have hz3 := hB3.size
  have HR3 := hide hR3
  have HB3 := hide (HB2.out.trans hB3)
  have HY3 := hide (Bx.but HY2.out hB3 (by omega))
  have HN3 := hide (Bx.but HN2.out hB3 (by omega))
  clear ht0 hR3 hB3
  have x0 := HY3.out.cell (k := 0) rfl
  have x1 := HY3.out.cell (k := 1) rfl
  have x2 := HY3.out.cell (k := 2) rfl
  have x3 := HY3.out.cell (k := 3) rfl
  have x4 := HY3.out.cell (k := 4) rfl
  have xl := HY3.out.lt
  have xf := HY3.out.free
  have m0 := HN3.out.cell (k := 0) rfl
  have m1 := HN3.out.cell (k := 1) rfl
  have m2 := HN3.out.cell (k := 2) rfl
  have m3 := HN3.out.cell (k := 3) rfl
  have m4 := HN3.out.cell (k := 4) rfl
  have ml := HN3.out.lt
  have mf := HN3.out.free
  go_wp2_with fail
  have hf := fin_put2 (b := b) (g := g) (c := c) (L := L) (w := w) (w1 := w3.setCell ⟨wn.heap.size, 3, none⟩ (.int .u32 1)) (r := adv r3) (u := wn) (B := w.heap.size) (y := .mk 3 at_ nt 1 []) (c0 := .int .i64 0) (c1 := .int .i64 0) (c2 := .string ⟨#[]⟩) (c3 := .int .u32 0) (c4 := .slice none 0 0) (by repeat (first | with_reducible exact HR3.out | with_reducible refine Rd.alloc ?_ _ | with_reducible refine Rd.other ?_ _ (by first | omega | (dsimp only; omega)) (by first | omega | (dsimp only; omega)))) (by repeat (first | with_reducible exact HB3.out | with_reducible refine But.alloc ?_ _ | with_reducible refine But.fresh ?_ (by first | omega | (dsimp only; omega)) _)) (by repeat (first | with_reducible exact HY3.out | (with_reducible refine Bx.newAt ?_; first | rfl | (simp [World.setCell]; done)) | with_reducible refine Bx.alloc ?_ _ | with_reducible refine Bx.other ?_ _ (by first | omega | (dsimp only; omega)))) (Nat.le_refl _) (by omega) (Rep.leaf _ _ 3 at_ nt 1) hbz hgz
  exact bodyPost_ret (v := .agg #[.int .i64 3, .int .i64 at_, .string (S nt), .int .u32 1, .slice none 0 0]) (results_cell_row (fn := Tryd.f60) rfl _ _ w.heap.size 27 _ (0, 0) _ rfl hf.1 Tryd.underlying27 rfl info_nd) rfl (hf.2 _ rfl rfl)

set_option maxHeartbeats 16000000 in
theorem pm_2 (h : Rd w b g c L r) (hm0 : fol L [112, 117, 98] (need L [58] (name L (nod r))) = false) (hm1 : fol L [117, 51, 50] (need L [58] (name L (nod r))) = true) :
    Calls Tryd.prog 60 #[.pointer (some ⟨b, 0, none⟩)] w (NR b g c L w (adv (need L [58] (name L (nod r))), .mk 3 (tk L r).a (tk L r).t 2 [])) := by
  have hbz := h.ltb
  have hgz := h.row.lt
  have HB := hide (But.refl b w)
  have HX0 : Hid (Bx (w.alloc (.cells #[.int .i64 0, .int .i64 0, .string ⟨#[]⟩, .int .u32 0, .slice none 0 0] 27)) w.heap.size 27 #[.int .i64 0, .int .i64 0, .string ⟨#[]⟩, .int .u32 0, .slice none 0 0]) := hide (Bx.newAt rfl)
  have hu : w.heap.size < (w.alloc (.cells #[.int .i64 0, .int .i64 0, .string ⟨#[]⟩, .int .u32 0, .slice none 0 0] 27)).heap.size := by simp
  have ho := node_any (h.alloc (.cells #[.int .i64 0, .int .i64 0, .string ⟨#[]⟩, .int .u32 0, .slice none 0 0] 27)) 3
  unfold nC at ho
  have htn : tk L (nod r) = tk L r := tk_nod L r
  have hat : (tk L r).a = (tk L r).a := rfl
  generalize (tk L r).a = at_ at ho hat ⊢
  have hnt : (tk L (nod r)).t = (tk L r).t := by rw [htn]
  generalize (tk L r).t = nt at hnt ⊢
  generalize nod r = r1 at *
  generalize hrn : name L r1 = r2 at *
  generalize hr3 : need L [58] r2 = r3 at *
  have HNT := hide hnt
  have HRN := hide hrn
  have HR3E := hide hr3
  clear hat h htn hnt hrn hr3
  go_enter Tryd.func60, Tryd.ntmps60
  go_wp2_with fail
  refine ho.mono ?_
  rintro e wn ⟨rfl, hRn, hBn⟩
  have hzn := hBn.size
  have HR0 := hide (hRn.alloc (.cells #[.int .i64 3, .int .i64 at_, .string (S []), .int .u32 0, .slice none 0 0] 27))
  have HB0 : Hid (But b w (wn.alloc (.cells #[.int .i64 3, .int .i64 at_, .string (S []), .int .u32 0, .slice none 0 0] 27))) := hide ((But.trans (by repeat (first | with_reducible exact HB.out | with_reducible refine But.alloc ?_ _ | with_reducible refine But.fresh ?_ (by first | omega | (dsimp only; omega)) _)) hBn).alloc _)
  have HY0 := hide ((Bx.but HX0.out hBn (by omega)).alloc (.cells #[.int .i64 3, .int .i64 at_, .string (S []), .int .u32 0, .slice none 0 0] 27))
  have HN0 : Hid (Bx (wn.alloc (.cells #[.int .i64 3, .int .i64 at_, .string (S []), .int .u32 0, .slice none 0 0] 27)) wn.heap.size 27 #[.int .i64 3, .int .i64 at_, .string (S []), .int .u32 0, .slice none 0 0]) := hide (Bx.newAt rfl)
  have hz0 : wn.heap.size < (wn.alloc (.cells #[.int .i64 3, .int .i64 at_, .string (S []), .int .u32 0, .slice none 0 0] 27)).heap.size := by simp
  have hna := name_any HR0.out
  rw [HNT.out, HRN.out] at hna
  clear ho hRn hBn
  go_wp2_with fail
  refine hna.mono ?_
  rintro e w1 ⟨rfl, hR1, hB1⟩
  have hz1 := hB1.size
  have HR1 := hide hR1
  have HB1 := hide (HB0.out.trans hB1)
  have HY1 := hide (Bx.but HY0.out hB1 (by omega))
  have HN1 : Hid (Bx w1 wn.heap.size 27 #[.int .i64 3, .int .i64 at_, .string (S []), .int .u32 0, .slice none 0 0]) := hide (Bx.but HN0.out hB1 (by omega))
  clear hna hR1 hB1
  have m0 := HN1.out.cell (k := 0) rfl
  have m1 := HN1.out.cell (k := 1) rfl
  have m2 := HN1.out.cell (k := 2) rfl
  have m3 := HN1.out.cell (k := 3) rfl
  have m4 := HN1.out.cell (k := 4) rfl
  have ml := HN1.out.lt
  have mf := HN1.out.free
  go_wp2_with fail
  refine Calls.mono (need_any (b := b) (g := g) (c := c) (L := L) (r := r2) (by repeat (first | with_reducible exact HR1.out | with_reducible refine Rd.alloc ?_ _ | with_reducible refine Rd.other ?_ _ (by first | omega | (dsimp only; omega)) (by first | omega | (dsimp only; omega)))) [58] (by decide)) ?_
  rintro e w2 ⟨rfl, hR2, hB2⟩
  have hz2 := hB2.size
  simp [World.setCell] at hz2
  have HR2 := hide hR2
  have HB2 : Hid (But b w w2) := hide (But.trans (by repeat (first | with_reducible exact HB1.out | with_reducible refine But.alloc ?_ _ | with_reducible refine But.fresh ?_ (by first | omega | (dsimp only; omega)) _)) hB2)
  have HY2 : Hid (Bx w2 w.heap.size 27 #[.int .i64 0, .int .i64 0, .string ⟨#[]⟩, .int .u32 0, .slice none 0 0]) := hide (Bx.but (by repeat (first | with_reducible exact HY1.out | (with_reducible refine Bx.newAt ?_; first | rfl | (simp [World.setCell]; done)) | with_reducible refine Bx.alloc ?_ _ | with_reducible refine Bx.other ?_ _ (by first | omega | (dsimp only; omega)))) hB2 (by omega))
  have hnn : Bx (w1.setCell ⟨wn.heap.size, 2, none⟩ (.string (S nt))) wn.heap.size 27 #[.int .i64 3, .int .i64 at_, .string (S nt), .int .u32 0, .slice none 0 0] := (HN1.out.set 2 (.string (S nt)))
  have HN2 : Hid (Bx w2 wn.heap.size 27 #[.int .i64 3, .int .i64 at_, .string (S nt), .int .u32 0, .slice none 0 0]) := hide (Bx.but hnn hB2 (by omega))
  clear hnn hR2 hB2 m0 m1 m2 m3 m4 ml mf
  rw [HR3E.out] at HR2
  have ht0 := take_any HR2.out [112, 117, 98] (by decide)
  unfold take at ht0
  rw [hm0, if_neg (by simp)] at ht0
  go_wp2_with fail
  refine ht0.mono ?_
  rintro e w3 ⟨rfl, hR3, hB3⟩
  have hz3 := hB3.size
  have HR3 := hide hR3
  have HB3 := hide (HB2.out.trans hB3)
  have HY3 := hide (Bx.but HY2.out hB3 (by omega))
  have HN3 := hide (Bx.but HN2.out hB3 (by omega))
  clear ht0 hR3 hB3
  have ht1 := take_any HR3.out [117, 51, 50] (by decide)
  unfold take at ht1
  rw [hm1, if_pos rfl] at ht1
  go_wp2_with fail
  refine ht1.mono ?_
  rintro e w4 ⟨rfl, hR4, hB4⟩
  have hz4 := hB4.size
  have HR4 := hide hR4
  have HB4 := hide (HB3.out.trans hB4)
  have HY4 := hide (Bx.but HY3.out hB4 (by omega))
  have HN4 := hide (Bx.but HN3.out hB4 (by omega))
  clear ht1 hR4 hB4
  have x0 := HY4.out.cell (k := 0) rfl
  have x1 := HY4.out.cell (k := 1) rfl
  have x2 := HY4.out.cell (k := 2) rfl
  have x3 := HY4.out.cell (k := 3) rfl
  have x4 := HY4.out.cell (k := 4) rfl
  have xl := HY4.out.lt
  have xf := HY4.out.free
  have m0 := HN4.out.cell (k := 0) rfl
  have m1 := HN4.out.cell (k := 1) rfl
  have m2 := HN4.out.cell (k := 2) rfl
  have m3 := HN4.out.cell (k := 3) rfl
  have m4 := HN4.out.cell (k := 4) rfl
  have ml := HN4.out.lt
  have mf := HN4.out.free
  go_wp2_with fail
  have hf := fin_put2 (b := b) (g := g) (c := c) (L := L) (w := w) (w1 := w4.setCell ⟨wn.heap.size, 3, none⟩ (.int .u32 2)) (r := adv r3) (u := wn) (B := w.heap.size) (y := .mk 3 at_ nt 2 []) (c0 := .int .i64 0) (c1 := .int .i64 0) (c2 := .string ⟨#[]⟩) (c3 := .int .u32 0) (c4 := .slice none 0 0) (by repeat (first | with_reducible exact HR4.out | with_reducible refine Rd.alloc ?_ _ | with_reducible refine Rd.other ?_ _ (by first | omega | (dsimp only; omega)) (by first | omega | (dsimp only; omega)))) (by repeat (first | with_reducible exact HB4.out | with_reducible refine But.alloc ?_ _ | with_reducible refine But.fresh ?_ (by first | omega | (dsimp only; omega)) _)) (by repeat (first | with_reducible exact HY4.out | (with_reducible refine Bx.newAt ?_; first | rfl | (simp [World.setCell]; done)) | with_reducible refine Bx.alloc ?_ _ | with_reducible refine Bx.other ?_ _ (by first | omega | (dsimp only; omega)))) (Nat.le_refl _) (by omega) (Rep.leaf _ _ 3 at_ nt 2) hbz hgz
  exact bodyPost_ret (v := .agg #[.int .i64 3, .int .i64 at_, .string (S nt), .int .u32 2, .slice none 0 0]) (results_cell_row (fn := Tryd.f60) rfl _ _ w.heap.size 27 _ (0, 0) _ rfl hf.1 Tryd.underlying27 rfl info_nd) rfl (hf.2 _ rfl rfl)

set_option maxHeartbeats 16000000 in
theorem pm_3 (h : Rd w b g c L r) (hm0 : fol L [112, 117, 98] (need L [58] (name L (nod r))) = false) (hm1 : fol L [117, 51, 50] (need L [58] (name L (nod r))) = false) (hm2 : fol L [117, 54, 52] (need L [58] (name L (nod r))) = true) :
    Calls Tryd.prog 60 #[.pointer (some ⟨b, 0, none⟩)] w (NR b g c L w (adv (need L [58] (name L (nod r))), .mk 3 (tk L r).a (tk L r).t 3 [])) := by
  have hbz := h.ltb
  have hgz := h.row.lt
  have HB := hide (But.refl b w)
  have HX0 : Hid (Bx (w.alloc (.cells #[.int .i64 0, .int .i64 0, .string ⟨#[]⟩, .int .u32 0, .slice none 0 0] 27)) w.heap.size 27 #[.int .i64 0, .int .i64 0, .string ⟨#[]⟩, .int .u32 0, .slice none 0 0]) := hide (Bx.newAt rfl)
  have hu : w.heap.size < (w.alloc (.cells #[.int .i64 0, .int .i64 0, .string ⟨#[]⟩, .int .u32 0, .slice none 0 0] 27)).heap.size := by simp
  have ho := node_any (h.alloc (.cells #[.int .i64 0, .int .i64 0, .string ⟨#[]⟩, .int .u32 0, .slice none 0 0] 27)) 3
  unfold nC at ho
  have htn : tk L (nod r) = tk L r := tk_nod L r
  have hat : (tk L r).a = (tk L r).a := rfl
  generalize (tk L r).a = at_ at ho hat ⊢
  have hnt : (tk L (nod r)).t = (tk L r).t := by rw [htn]
  generalize (tk L r).t = nt at hnt ⊢
  generalize nod r = r1 at *
  generalize hrn : name L r1 = r2 at *
  generalize hr3 : need L [58] r2 = r3 at *
  have HNT := hide hnt
  have HRN := hide hrn
  have HR3E := hide hr3
  clear hat h htn hnt hrn hr3
  go_enter Tryd.func60, Tryd.ntmps60
  go_wp2_with fail
  refine ho.mono ?_
  rintro e wn ⟨rfl, hRn, hBn⟩
  have hzn := hBn.size
  have HR0 := hide (hRn.alloc (.cells #[.int .i64 3, .int .i64 at_, .string (S []), .int .u32 0, .slice none 0 0] 27))
  have HB0 : Hid (But b w (wn.alloc (.cells #[.int .i64 3, .int .i64 at_, .string (S []), .int .u32 0, .slice none 0 0] 27))) := hide ((But.trans (by repeat (first | with_reducible exact HB.out | with_reducible refine But.alloc ?_ _ | with_reducible refine But.fresh ?_ (by first | omega | (dsimp only; omega)) _)) hBn).alloc _)
  have HY0 := hide ((Bx.but HX0.out hBn (by omega)).alloc (.cells #[.int .i64 3, .int .i64 at_, .string (S []), .int .u32 0, .slice none 0 0] 27))
  have HN0 : Hid (Bx (wn.alloc (.cells #[.int .i64 3, .int .i64 at_, .string (S []), .int .u32 0, .slice none 0 0] 27)) wn.heap.size 27 #[.int .i64 3, .int .i64 at_, .string (S []), .int .u32 0, .slice none 0 0]) := hide (Bx.newAt rfl)
  have hz0 : wn.heap.size < (wn.alloc (.cells #[.int .i64 3, .int .i64 at_, .string (S []), .int .u32 0, .slice none 0 0] 27)).heap.size := by simp
  have hna := name_any HR0.out
  rw [HNT.out, HRN.out] at hna
  clear ho hRn hBn
  go_wp2_with fail
  refine hna.mono ?_
  rintro e w1 ⟨rfl, hR1, hB1⟩
  have hz1 := hB1.size
  have HR1 := hide hR1
  have HB1 := hide (HB0.out.trans hB1)
  have HY1 := hide (Bx.but HY0.out hB1 (by omega))
  have HN1 : Hid (Bx w1 wn.heap.size 27 #[.int .i64 3, .int .i64 at_, .string (S []), .int .u32 0, .slice none 0 0]) := hide (Bx.but HN0.out hB1 (by omega))
  clear hna hR1 hB1
  have m0 := HN1.out.cell (k := 0) rfl
  have m1 := HN1.out.cell (k := 1) rfl
  have m2 := HN1.out.cell (k := 2) rfl
  have m3 := HN1.out.cell (k := 3) rfl
  have m4 := HN1.out.cell (k := 4) rfl
  have ml := HN1.out.lt
  have mf := HN1.out.free
  go_wp2_with fail
  refine Calls.mono (need_any (b := b) (g := g) (c := c) (L := L) (r := r2) (by repeat (first | with_reducible exact HR1.out | with_reducible refine Rd.alloc ?_ _ | with_reducible refine Rd.other ?_ _ (by first | omega | (dsimp only; omega)) (by first | omega | (dsimp only; omega)))) [58] (by decide)) ?_
  rintro e w2 ⟨rfl, hR2, hB2⟩
  have hz2 := hB2.size
  simp [World.setCell] at hz2
  have HR2 := hide hR2
  have HB2 : Hid (But b w w2) := hide (But.trans (by repeat (first | with_reducible exact HB1.out | with_reducible refine But.alloc ?_ _ | with_reducible refine But.fresh ?_ (by first | omega | (dsimp only; omega)) _)) hB2)
  have HY2 : Hid (Bx w2 w.heap.size 27 #[.int .i64 0, .int .i64 0, .string ⟨#[]⟩, .int .u32 0, .slice none 0 0]) := hide (Bx.but (by repeat (first | with_reducible exact HY1.out | (with_reducible refine Bx.newAt ?_; first | rfl | (simp [World.setCell]; done)) | with_reducible refine Bx.alloc ?_ _ | with_reducible refine Bx.other ?_ _ (by first | omega | (dsimp only; omega)))) hB2 (by omega))
  have hnn : Bx (w1.setCell ⟨wn.heap.size, 2, none⟩ (.string (S nt))) wn.heap.size 27 #[.int .i64 3, .int .i64 at_, .string (S nt), .int .u32 0, .slice none 0 0] := (HN1.out.set 2 (.string (S nt)))
  have HN2 : Hid (Bx w2 wn.heap.size 27 #[.int .i64 3, .int .i64 at_, .string (S nt), .int .u32 0, .slice none 0 0]) := hide (Bx.but hnn hB2 (by omega))
  clear hnn hR2 hB2 m0 m1 m2 m3 m4 ml mf
  rw [HR3E.out] at HR2
  have ht0 := take_any HR2.out [112, 117, 98] (by decide)
  unfold take at ht0
  rw [hm0, if_neg (by simp)] at ht0
  go_wp2_with fail
  refine ht0.mono ?_
  rintro e w3 ⟨rfl, hR3, hB3⟩
  have hz3 := hB3.size
  have HR3 := hide hR3
  have HB3 := hide (HB2.out.trans hB3)
  have HY3 := hide (Bx.but HY2.out hB3 (by omega))
  have HN3 := hide (Bx.but HN2.out hB3 (by omega))
  clear ht0 hR3 hB3
  have ht1 := take_any HR3.out [117, 51, 50] (by decide)
  unfold take at ht1
  rw [hm1, if_neg (by simp)] at ht1
  go_wp2_with fail
  refine ht1.mono ?_
  rintro e w4 ⟨rfl, hR4, hB4⟩
  have hz4 := hB4.size
  have HR4 := hide hR4
  have HB4 := hide (HB3.out.trans hB4)
  have HY4 := hide (Bx.but HY3.out hB4 (by omega))
  have HN4 := hide (Bx.but HN3.out hB4 (by omega))
  clear ht1 hR4 hB4
  have ht2 := take_any HR4.out [117, 54, 52] (by decide)
  unfold take at ht2
  rw [hm2, if_pos rfl] at ht2
  go_wp2_with fail
  refine ht2.mono ?_
  rintro e w5 ⟨rfl, hR5, hB5⟩
  have hz5 := hB5.size
  have HR5 := hide hR5
  have HB5 := hide (HB4.out.trans hB5)
  have HY5 := hide (Bx.but HY4.out hB5 (by omega))
  have HN5 := hide (Bx.but HN4.out hB5 (by omega))
  clear ht2 hR5 hB5
  have x0 := HY5.out.cell (k := 0) rfl
  have x1 := HY5.out.cell (k := 1) rfl
  have x2 := HY5.out.cell (k := 2) rfl
  have x3 := HY5.out.cell (k := 3) rfl
  have x4 := HY5.out.cell (k := 4) rfl
  have xl := HY5.out.lt
  have xf := HY5.out.free
  have m0 := HN5.out.cell (k := 0) rfl
  have m1 := HN5.out.cell (k := 1) rfl
  have m2 := HN5.out.cell (k := 2) rfl
  have m3 := HN5.out.cell (k := 3) rfl
  have m4 := HN5.out.cell (k := 4) rfl
  have ml := HN5.out.lt
  have mf := HN5.out.free
  go_wp2_with fail
  have hf := fin_put2 (b := b) (g := g) (c := c) (L := L) (w := w) (w1 := w5.setCell ⟨wn.heap.size, 3, none⟩ (.int .u32 3)) (r := adv r3) (u := wn) (B := w.heap.size) (y := .mk 3 at_ nt 3 []) (c0 := .int .i64 0) (c1 := .int .i64 0) (c2 := .string ⟨#[]⟩) (c3 := .int .u32 0) (c4 := .slice none 0 0) (by repeat (first | with_reducible exact HR5.out | with_reducible refine Rd.alloc ?_ _ | with_reducible refine Rd.other ?_ _ (by first | omega | (dsimp only; omega)) (by first | omega | (dsimp only; omega)))) (by repeat (first | with_reducible exact HB5.out | with_reducible refine But.alloc ?_ _ | with_reducible refine But.fresh ?_ (by first | omega | (dsimp only; omega)) _)) (by repeat (first | with_reducible exact HY5.out | (with_reducible refine Bx.newAt ?_; first | rfl | (simp [World.setCell]; done)) | with_reducible refine Bx.alloc ?_ _ | with_reducible refine Bx.other ?_ _ (by first | omega | (dsimp only; omega)))) (Nat.le_refl _) (by omega) (Rep.leaf _ _ 3 at_ nt 3) hbz hgz
  exact bodyPost_ret (v := .agg #[.int .i64 3, .int .i64 at_, .string (S nt), .int .u32 3, .slice none 0 0]) (results_cell_row (fn := Tryd.f60) rfl _ _ w.heap.size 27 _ (0, 0) _ rfl hf.1 Tryd.underlying27 rfl info_nd) rfl (hf.2 _ rfl rfl)

set_option maxHeartbeats 16000000 in
theorem pm_4 (h : Rd w b g c L r) (hm0 : fol L [112, 117, 98] (need L [58] (name L (nod r))) = false) (hm1 : fol L [117, 51, 50] (need L [58] (name L (nod r))) = false) (hm2 : fol L [117, 54, 52] (need L [58] (name L (nod r))) = false) :
    Calls Tryd.prog 60 #[.pointer (some ⟨b, 0, none⟩)] w (NR b g c L w (sizR L (nod (need L [58] (name L (nod r)))), .mk 3 (tk L r).a (tk L r).t 4 [.mk 14 (tk L (need L [58] (name L (nod r)))).a [] (sizV L (nod (need L [58] (name L (nod r))))) []])) := by
  have hbz := h.ltb
  have hgz := h.row.lt
  have HB := hide (But.refl b w)
  have HX0 : Hid (Bx (w.alloc (.cells #[.int .i64 0, .int .i64 0, .string ⟨#[]⟩, .int .u32 0, .slice none 0 0] 27)) w.heap.size 27 #[.int .i64 0, .int .i64 0, .string ⟨#[]⟩, .int .u32 0, .slice none 0 0]) := hide (Bx.newAt rfl)
  have hu : w.heap.size < (w.alloc (.cells #[.int .i64 0, .int .i64 0, .string ⟨#[]⟩, .int .u32 0, .slice none 0 0] 27)).heap.size := by simp
  have ho := node_any (h.alloc (.cells #[.int .i64 0, .int .i64 0, .string ⟨#[]⟩, .int .u32 0, .slice none 0 0] 27)) 3
  unfold nC at ho
  have htn : tk L (nod r) = tk L r := tk_nod L r
  have hat : (tk L r).a = (tk L r).a := rfl
  generalize (tk L r).a = at_ at ho hat ⊢
  have hnt : (tk L (nod r)).t = (tk L r).t := by rw [htn]
  generalize (tk L r).t = nt at hnt ⊢
  generalize nod r = r1 at *
  generalize hrn : name L r1 = r2 at *
  generalize hr3 : need L [58] r2 = r3 at *
  have HNT := hide hnt
  have HRN := hide hrn
  have HR3E := hide hr3
  clear hat h htn hnt hrn hr3
  go_enter Tryd.func60, Tryd.ntmps60
  go_wp2_with fail
  refine ho.mono ?_
  rintro e wn ⟨rfl, hRn, hBn⟩
  have hzn := hBn.size
  have HR0 := hide (hRn.alloc (.cells #[.int .i64 3, .int .i64 at_, .string (S []), .int .u32 0, .slice none 0 0] 27))
  have HB0 : Hid (But b w (wn.alloc (.cells #[.int .i64 3, .int .i64 at_, .string (S []), .int .u32 0, .slice none 0 0] 27))) := hide ((But.trans (by repeat (first | with_reducible exact HB.out | with_reducible refine But.alloc ?_ _ | with_reducible refine But.fresh ?_ (by first | omega | (dsimp only; omega)) _)) hBn).alloc _)
  have HY0 := hide ((Bx.but HX0.out hBn (by omega)).alloc (.cells #[.int .i64 3, .int .i64 at_, .string (S []), .int .u32 0, .slice none 0 0] 27))
  have HN0 : Hid (Bx (wn.alloc (.cells #[.int .i64 3, .int .i64 at_, .string (S []), .int .u32 0, .slice none 0 0] 27)) wn.heap.size 27 #[.int .i64 3, .int .i64 at_, .string (S []), .int .u32 0, .slice none 0 0]) := hide (Bx.newAt rfl)
  have hz0 : wn.heap.size < (wn.alloc (.cells #[.int .i64 3, .int .i64 at_, .string (S []), .int .u32 0, .slice none 0 0] 27)).heap.size := by simp
  have hna := name_any HR0.out
  rw [HNT.out, HRN.out] at hna
  clear ho hRn hBn
  go_wp2_with fail
  refine hna.mono ?_
  rintro e w1 ⟨rfl, hR1, hB1⟩
  have hz1 := hB1.size
  have HR1 := hide hR1
  have HB1 := hide (HB0.out.trans hB1)
  have HY1 := hide (Bx.but HY0.out hB1 (by omega))
  have HN1 : Hid (Bx w1 wn.heap.size 27 #[.int .i64 3, .int .i64 at_, .string (S []), .int .u32 0, .slice none 0 0]) := hide (Bx.but HN0.out hB1 (by omega))
  clear hna hR1 hB1
  have m0 := HN1.out.cell (k := 0) rfl
  have m1 := HN1.out.cell (k := 1) rfl
  have m2 := HN1.out.cell (k := 2) rfl
  have m3 := HN1.out.cell (k := 3) rfl
  have m4 := HN1.out.cell (k := 4) rfl
  have ml := HN1.out.lt
  have mf := HN1.out.free
  go_wp2_with fail
  refine Calls.mono (need_any (b := b) (g := g) (c := c) (L := L) (r := r2) (by repeat (first | with_reducible exact HR1.out | with_reducible refine Rd.alloc ?_ _ | with_reducible refine Rd.other ?_ _ (by first | omega | (dsimp only; omega)) (by first | omega | (dsimp only; omega)))) [58] (by decide)) ?_
  rintro e w2 ⟨rfl, hR2, hB2⟩
  have hz2 := hB2.size
  simp [World.setCell] at hz2
  have HR2 := hide hR2
  have HB2 : Hid (But b w w2) := hide (But.trans (by repeat (first | with_reducible exact HB1.out | with_reducible refine But.alloc ?_ _ | with_reducible refine But.fresh ?_ (by first | omega | (dsimp only; omega)) _)) hB2)
  have HY2 : Hid (Bx w2 w.heap.size 27 #[.int .i64 0, .int .i64 0, .string ⟨#[]⟩, .int .u32 0, .slice none 0 0]) := hide (Bx.but (by repeat (first | with_reducible exact HY1.out | (with_reducible refine Bx.newAt ?_; first | rfl | (simp [World.setCell]; done)) | with_reducible refine Bx.alloc ?_ _ | with_reducible refine Bx.other ?_ _ (by first | omega | (dsimp only; omega)))) hB2 (by omega))
  have hnn : Bx (w1.setCell ⟨wn.heap.size, 2, none⟩ (.string (S nt))) wn.heap.size 27 #[.int .i64 3, .int .i64 at_, .string (S nt), .int .u32 0, .slice none 0 0] := (HN1.out.set 2 (.string (S nt)))
  have HN2 : Hid (Bx w2 wn.heap.size 27 #[.int .i64 3, .int .i64 at_, .string (S nt), .int .u32 0, .slice none 0 0]) := hide (Bx.but hnn hB2 (by omega))
  clear hnn hR2 hB2 m0 m1 m2 m3 m4 ml mf
  rw [HR3E.out] at HR2
  have ht0 := take_any HR2.out [112, 117, 98] (by decide)
  unfold take at ht0
  rw [hm0, if_neg (by simp)] at ht0
  go_wp2_with fail
  refine ht0.mono ?_
  rintro e w3 ⟨rfl, hR3, hB3⟩
  have hz3 := hB3.size
  have HR3 := hide hR3
  have HB3 := hide (HB2.out.trans hB3)
  have HY3 := hide (Bx.but HY2.out hB3 (by omega))
  have HN3 := hide (Bx.but HN2.out hB3 (by omega))
  clear ht0 hR3 hB3
  have ht1 := take_any HR3.out [117, 51, 50] (by decide)
  unfold take at ht1
  rw [hm1, if_neg (by simp)] at ht1
  go_wp2_with fail
  refine ht1.mono ?_
  rintro e w4 ⟨rfl, hR4, hB4⟩
  have hz4 := hB4.size
  have HR4 := hide hR4
  have HB4 := hide (HB3.out.trans hB4)
  have HY4 := hide (Bx.but HY3.out hB4 (by omega))
  have HN4 := hide (Bx.but HN3.out hB4 (by omega))
  clear ht1 hR4 hB4
  have ht2 := take_any HR4.out [117, 54, 52] (by decide)
  unfold take at ht2
  rw [hm2, if_neg (by simp)] at ht2
  go_wp2_with fail
  refine ht2.mono ?_
  rintro e w5 ⟨rfl, hR5, hB5⟩
  have hz5 := hB5.size
  have HR5 := hide hR5
  have HB5 := hide (HB4.out.trans hB5)
  have HY5 := hide (Bx.but HY4.out hB5 (by omega))
  have HN5 := hide (Bx.but HN4.out hB5 (by omega))
  clear ht2 hR5 hB5
  have hno := node_any HR5.out 14
  unfold nC at hno
  generalize (tk L r3).a = az at *
  generalize nod r3 = r4 at *
  go_wp2_with fail
  refine hno.mono ?_
  rintro e w6 ⟨rfl, hR6, hB6⟩
  have hz6 := hB6.size
  have HR6 := hide (hR6.alloc (.cells #[.int .i64 14, .int .i64 az, .string (S []), .int .u32 0, .slice none 0 0] 27))
  have HB6 := hide ((HB5.out.trans hB6).alloc (.cells #[.int .i64 14, .int .i64 az, .string (S []), .int .u32 0, .slice none 0 0] 27))
  have HY6 := hide ((Bx.but HY5.out hB6 (by omega)).alloc (.cells #[.int .i64 14, .int .i64 az, .string (S []), .int .u32 0, .slice none 0 0] 27))
  have HN6 := hide ((Bx.but HN5.out hB6 (by omega)).alloc (.cells #[.int .i64 14, .int .i64 az, .string (S []), .int .u32 0, .slice none 0 0] 27))
  have HZ6 : Hid (Bx (w6.alloc (.cells #[.int .i64 14, .int .i64 az, .string (S []), .int .u32 0, .slice none 0 0] 27)) w6.heap.size 27 #[.int .i64 14, .int .i64 az, .string (S []), .int .u32 0, .slice none 0 0]) := hide (Bx.newAt rfl)
  have hsi := size_any HR6.out
  generalize sizV L r4 = nv at *
  generalize sizR L r4 = r5 at *
  clear hno hR6 hB6
  go_wp2_with fail
  refine hsi.mono ?_
  rintro e w7 ⟨rfl, hR7, hB7⟩
  have hz7 := hB7.size
  simp at hz7
  have HB7 := hide (HB6.out.trans hB7)
  have HY7 := hide (Bx.but HY6.out hB7 (by omega))
  have HN7 := hide (Bx.but HN6.out hB7 (by omega))
  have HZ7 := hide (Bx.but HZ6.out hB7 (by omega))
  have HR7 := hide hR7
  clear hsi hR7 hB7
  have m0 := HZ7.out.cell (k := 0) rfl
  have m1 := HZ7.out.cell (k := 1) rfl
  have m2 := HZ7.out.cell (k := 2) rfl
  have m3 := HZ7.out.cell (k := 3) rfl
  have m4 := HZ7.out.cell (k := 4) rfl
  have ml := HZ7.out.lt
  have mf := HZ7.out.free
  go_wp2_with fail
  generalize hw8 : w7.setCell ⟨w6.heap.size, 3, none⟩ (.int .u32 nv) = w8
  have HR8 : Hid (Rd w8 b g c L r5) := hide (hw8 ▸ HR7.out.other (p := ⟨w6.heap.size, 3, none⟩) _ (by dsimp only; omega) (by dsimp only; omega))
  have HB8 : Hid (But b w w8) := hide (hw8 ▸ HB7.out.fresh (p := ⟨w6.heap.size, 3, none⟩) (by dsimp only; omega) _)
  have HY8 : Hid (Bx w8 w.heap.size 27 #[.int .i64 0, .int .i64 0, .string ⟨#[]⟩, .int .u32 0, .slice none 0 0]) := hide (hw8 ▸ HY7.out.other (p := ⟨w6.heap.size, 3, none⟩) _ (by dsimp only; omega))
  have HN8 : Hid (Bx w8 wn.heap.size 27 #[.int .i64 3, .int .i64 at_, .string (S nt), .int .u32 0, .slice none 0 0]) := hide (hw8 ▸ HN7.out.other (p := ⟨w6.heap.size, 3, none⟩) _ (by dsimp only; omega))
  have hzz := HZ7.out.set 3 (.int .u32 nv)
  rw [hw8] at hzz
  have HZ8 : Hid (Bx w8 w6.heap.size 27 #[.int .i64 14, .int .i64 az, .string (S []), .int .u32 nv, .slice none 0 0]) := hide hzz
  have HS8 : Hid (w8.heap.size = w7.heap.size) := hide (by rw [← hw8]; simp [World.setCell])
  have hl8 : w6.heap.size < w8.heap.size := HZ8.out.lt
  clear hzz hw8 m0 m1 m2 m3 m4 ml mf
  go_wp2_with fail
  refine wp_region_held_drew (S := fun w' => Bx w' w6.heap.size 27 #[.int .i64 14, .int .i64 az, .string (S []), .int .u32 nv, .slice none 0 0] ∧ ∃ u3 u4, Bx w' wn.heap.size 27 #[.int .i64 3, .int .i64 at_, .string (S nt), u3, u4]) (by kernel_rfl) ⟨HZ8.out, _, _, HN8.out⟩ (fun hH1 => ?_)
  refine wpAnyH_take (i := 0) (v := .agg #[.int .i64 14, .int .i64 az, .string (S []), .int .u32 nv, .slice none 0 0]) rfl (by kernel_rfl) (by kernel_rfl) (by kernel_rfl) (fun _ _ _ h => h) (yieldsIf_load_mid (by rfl) 27 (.tmp 4) rfl w6.heap.size 0 rfl [.int .i64 14, .int .i64 az, .string (S []), .int .u32 nv, .slice none 0 0] _ (fun w' hw => range_bx hw.1) Tryd.underlying27 rfl info_nd) (by assumption) ?_
  (try simp only [Act.put, List.getElem_toArray, List.getElem_cons_zero, List.getElem_cons_succ, List.setIfInBounds_toArray, List.set_cons_zero, List.set_cons_succ])
  refine wpAnyH_take (i := 2) (v := ?_) rfl (by kernel_rfl) (by kernel_rfl) (by kernel_rfl) (fun _ _ _ h => h) (Or.inl ⟨by rfl, ?_⟩) (by assumption) ?_
  rotate_left
  · intro w hSw; (try dsimp only at hSw); go_simp; (try with_reducible rfl)
  (try simp only [Act.put, List.getElem_toArray, List.getElem_cons_zero, List.getElem_cons_succ, List.setIfInBounds_toArray, List.set_cons_zero, List.set_cons_succ])
  refine wpAnyH_ready (rs := [1, 3]) (by kernel_rfl) (by simp) ?_
  refine AllReadyH.cons rfl (fun K hK => ?_) ?_
  · go_simp
    refine hK.out _ _ ⟨HZ8.out.alloc _, _, _, HN8.out.alloc _⟩ (fun hH2 => ?_)
    clear hK K
    (try simp only [Act.put, List.getElem_toArray, List.getElem_cons_zero, List.getElem_cons_succ, List.setIfInBounds_toArray, List.set_cons_zero, List.set_cons_succ])
    refine wpAnyH_ready (rs := [3]) (by kernel_rfl) (by simp) ?_
    refine AllReadyH.cons rfl (fun K hK => ?_) AllReadyH.nil
    have hq := HN8.out.alloc (.cells #[.int .i64 14, .int .i64 az, .string (S []), .int .u32 nv, .slice none 0 0] 27)
    have mc := hq.cell (k := 3) rfl
    have mf := hq.free
    go_simp
    refine hK.out _ _ ⟨(HZ8.out.alloc _).other (p := ⟨wn.heap.size, 3, none⟩) _ (by dsimp only; omega), _, _, hq.set 3 (.int .u32 4)⟩ (fun hH3 => ?_)
    clear hK K mc mf hq
    (try simp only [Act.put, List.getElem_toArray, List.getElem_cons_zero, List.getElem_cons_succ, List.setIfInBounds_toArray, List.set_cons_zero, List.set_cons_succ])
    refine wpAnyH_take (i := 4) (v := ?_) rfl (by kernel_rfl) (by kernel_rfl) (by kernel_rfl) (fun _ _ _ h => h) (Or.inl ⟨by rfl, ?_⟩) (by assumption) ?_
    rotate_left
    · intro w hSw; (try dsimp only at hSw); go_simp; (try with_reducible rfl)
    (try simp only [Act.put, List.getElem_toArray, List.getElem_cons_zero, List.getElem_cons_succ, List.setIfInBounds_toArray, List.set_cons_zero, List.set_cons_succ])
    refine wpAnyH_ready (rs := [5]) (by kernel_rfl) (by simp) ?_
    refine AllReadyH.cons rfl (fun K hK => ?_) AllReadyH.nil
    have hq8 : Bx ((w8.alloc (.cells #[.int .i64 14, .int .i64 az, .string (S []), .int .u32 nv, .slice none 0 0] 27)).setCell ⟨wn.heap.size, 3, none⟩ (.int .u32 4)) wn.heap.size 27 #[.int .i64 3, .int .i64 at_, .string (S nt), .int .u32 4, .slice none 0 0] := ((HN8.out.alloc (.cells #[.int .i64 14, .int .i64 az, .string (S []), .int .u32 nv, .slice none 0 0] 27)).set 3 (.int .u32 4))
    have mc := hq8.cell (k := 4) rfl
    have mf := hq8.free
    have hq9 : Bx (((w8.alloc (.cells #[.int .i64 14, .int .i64 az, .string (S []), .int .u32 nv, .slice none 0 0] 27)).setCell ⟨wn.heap.size, 3, none⟩ (.int .u32 4)).setCell ⟨wn.heap.size, 4, none⟩ (.slice (some ⟨w8.heap.size, 0, none⟩) 1 1)) wn.heap.size 27 #[.int .i64 3, .int .i64 at_, .string (S nt), .int .u32 4, .slice (some ⟨w8.heap.size, 0, none⟩) 1 1] := hq8.set 4 (.slice (some ⟨w8.heap.size, 0, none⟩) 1 1)
    have hzc : Bx (((w8.alloc (.cells #[.int .i64 14, .int .i64 az, .string (S []), .int .u32 nv, .slice none 0 0] 27)).setCell ⟨wn.heap.size, 3, none⟩ (.int .u32 4)).setCell ⟨wn.heap.size, 4, none⟩ (.slice (some ⟨w8.heap.size, 0, none⟩) 1 1)) w6.heap.size 27 #[.int .i64 14, .int .i64 az, .string (S []), .int .u32 nv, .slice none 0 0] := (by repeat (first | with_reducible exact HZ8.out | (with_reducible refine Bx.newAt ?_; first | rfl | (simp [World.setCell]; done)) | with_reducible refine Bx.alloc ?_ _ | with_reducible refine Bx.other ?_ _ (by first | omega | (dsimp only; omega))))
    go_simp
    refine hK.out _ _ ⟨hzc, _, _, hq9⟩ (fun hH4 => ?_)
    clear hK K mc mf
    (try simp only [Act.put, List.getElem_toArray, List.getElem_cons_zero, List.getElem_cons_succ, List.setIfInBounds_toArray, List.set_cons_zero, List.set_cons_succ])
    refine wpAnyH_done (by kernel_rfl) ?_ _
    have HR9 : Hid (Rd (((w8.alloc (.cells #[.int .i64 14, .int .i64 az, .string (S []), .int .u32 nv, .slice none 0 0] 27)).setCell ⟨wn.heap.size, 3, none⟩ (.int .u32 4)).setCell ⟨wn.heap.size, 4, none⟩ (.slice (some ⟨w8.heap.size, 0, none⟩) 1 1)).drew b g c L r5) := hide (Rd.drew (by repeat (first | with_reducible exact HR8.out | with_reducible refine Rd.alloc ?_ _ | with_reducible refine Rd.other ?_ _ (by first | omega | (dsimp only; omega)) (by first | omega | (dsimp only; omega)))))
    have HB9 : Hid (But b w (((w8.alloc (.cells #[.int .i64 14, .int .i64 az, .string (S []), .int .u32 nv, .slice none 0 0] 27)).setCell ⟨wn.heap.size, 3, none⟩ (.int .u32 4)).setCell ⟨wn.heap.size, 4, none⟩ (.slice (some ⟨w8.heap.size, 0, none⟩) 1 1)).drew) := hide (But.drew (by repeat (first | with_reducible exact HB8.out | with_reducible refine But.alloc ?_ _ | with_reducible refine But.fresh ?_ (by first | omega | (dsimp only; omega)) _)))
    have hy9 : Bx (((w8.alloc (.cells #[.int .i64 14, .int .i64 az, .string (S []), .int .u32 nv, .slice none 0 0] 27)).setCell ⟨wn.heap.size, 3, none⟩ (.int .u32 4)).setCell ⟨wn.heap.size, 4, none⟩ (.slice (some ⟨w8.heap.size, 0, none⟩) 1 1)) w.heap.size 27 #[.int .i64 0, .int .i64 0, .string ⟨#[]⟩, .int .u32 0, .slice none 0 0] := (by repeat (first | with_reducible exact HY8.out | (with_reducible refine Bx.newAt ?_; first | rfl | (simp [World.setCell]; done)) | with_reducible refine Bx.alloc ?_ _ | with_reducible refine Bx.other ?_ _ (by first | omega | (dsimp only; omega))))
    have ha9 : Bx (((w8.alloc (.cells #[.int .i64 14, .int .i64 az, .string (S []), .int .u32 nv, .slice none 0 0] 27)).setCell ⟨wn.heap.size, 3, none⟩ (.int .u32 4)).setCell ⟨wn.heap.size, 4, none⟩ (.slice (some ⟨w8.heap.size, 0, none⟩) 1 1)) w8.heap.size 27 #[.int .i64 14, .int .i64 az, .string (S []), .int .u32 nv, .slice none 0 0] := (by repeat (first | with_reducible exact HR8 | (with_reducible refine Bx.newAt ?_; first | rfl | (simp [World.setCell]; done)) | with_reducible refine Bx.alloc ?_ _ | with_reducible refine Bx.other ?_ _ (by first | omega | (dsimp only; omega))))
    have HY9 : Hid (Bx (((w8.alloc (.cells #[.int .i64 14, .int .i64 az, .string (S []), .int .u32 nv, .slice none 0 0] 27)).setCell ⟨wn.heap.size, 3, none⟩ (.int .u32 4)).setCell ⟨wn.heap.size, 4, none⟩ (.slice (some ⟨w8.heap.size, 0, none⟩) 1 1)).drew w.heap.size 27 #[.int .i64 0, .int .i64 0, .string ⟨#[]⟩, .int .u32 0, .slice none 0 0]) := hide hy9
    have HN9 : Hid (Bx (((w8.alloc (.cells #[.int .i64 14, .int .i64 az, .string (S []), .int .u32 nv, .slice none 0 0] 27)).setCell ⟨wn.heap.size, 3, none⟩ (.int .u32 4)).setCell ⟨wn.heap.size, 4, none⟩ (.slice (some ⟨w8.heap.size, 0, none⟩) 1 1)).drew wn.heap.size 27 #[.int .i64 3, .int .i64 at_, .string (S nt), .int .u32 4, .slice (some ⟨w8.heap.size, 0, none⟩) 1 1]) := hide hq9
    have HA9 : Hid (Bx (((w8.alloc (.cells #[.int .i64 14, .int .i64 az, .string (S []), .int .u32 nv, .slice none 0 0] 27)).setCell ⟨wn.heap.size, 3, none⟩ (.int .u32 4)).setCell ⟨wn.heap.size, 4, none⟩ (.slice (some ⟨w8.heap.size, 0, none⟩) 1 1)).drew w8.heap.size 27 #[.int .i64 14, .int .i64 az, .string (S []), .int .u32 nv, .slice none 0 0]) := hide ha9
    have hs9 : (((w8.alloc (.cells #[.int .i64 14, .int .i64 az, .string (S []), .int .u32 nv, .slice none 0 0] 27)).setCell ⟨wn.heap.size, 3, none⟩ (.int .u32 4)).setCell ⟨wn.heap.size, 4, none⟩ (.slice (some ⟨w8.heap.size, 0, none⟩) 1 1)).drew.heap.size = w8.heap.size + 1 := by show (((w8.alloc (.cells #[.int .i64 14, .int .i64 az, .string (S []), .int .u32 nv, .slice none 0 0] 27)).setCell ⟨wn.heap.size, 3, none⟩ (.int .u32 4)).setCell ⟨wn.heap.size, 4, none⟩ (.slice (some ⟨w8.heap.size, 0, none⟩) 1 1)).heap.size = _; simp [World.setCell]
    clear hq8 hq9 hzc hH4 hy9 ha9
    generalize (((w8.alloc (.cells #[.int .i64 14, .int .i64 az, .string (S []), .int .u32 nv, .slice none 0 0] 27)).setCell ⟨wn.heap.size, 3, none⟩ (.int .u32 4)).setCell ⟨wn.heap.size, 4, none⟩ (.slice (some ⟨w8.heap.size, 0, none⟩) 1 1)).drew = w9 at *
    have x0 := HY9.out.cell (k := 0) rfl
    have x1 := HY9.out.cell (k := 1) rfl
    have x2 := HY9.out.cell (k := 2) rfl
    have x3 := HY9.out.cell (k := 3) rfl
    have x4 := HY9.out.cell (k := 4) rfl
    have xl := HY9.out.lt
    have xf := HY9.out.free
    have p0 := HN9.out.cell (k := 0) rfl
    have p1 := HN9.out.cell (k := 1) rfl
    have p2 := HN9.out.cell (k := 2) rfl
    have p3 := HN9.out.cell (k := 3) rfl
    have p4 := HN9.out.cell (k := 4) rfl
    have pl := HN9.out.lt
    have pf := HN9.out.free
    go_wp2_with fail
    have hrep : Rep w9 (Fr wn w9) (.mk 3 at_ nt 4 [.mk 14 az [] nv []]) (nC 3 at_ nt 4 (.slice (some ⟨w8.heap.size, 0, none⟩) 1 1)) := by
      refine rep_arr 3 at_ nt 4 [.mk 14 az [] nv []] [#[.int .i64 14, .int .i64 az, .string (S []), .int .u32 nv, .slice none 0 0]] 1 rfl _ rfl rfl (by simp [maxLen]) HA9.out ⟨by omega, by omega⟩ (fun i y x hy hx => ?_)
      match i, hy, hx with
      | 0, hy, hx =>
        simp at hy hx
        subst hy hx
        exact Rep.leaf _ _ 14 az [] nv
    unfold nC at hrep
    have hf := fin_put2 (b := b) (g := g) (c := c) (L := L) (w := w) HR9.out HB9.out HY9.out (Nat.le_refl _) (show w.heap.size < wn.heap.size by omega) hrep hbz hgz
    exact bodyPost_ret (v := .agg #[.int .i64 3, .int .i64 at_, .string (S nt), .int .u32 4, .slice (some ⟨w8.heap.size, 0, none⟩) 1 1]) (results_cell_row (fn := Tryd.f60) rfl _ _ w.heap.size 27 _ (0, 0) _ rfl hf.1 Tryd.underlying27 rfl info_nd) rfl (hf.2 _ rfl rfl)
  refine AllReadyH.cons rfl (fun K hK => ?_) AllReadyH.nil
  have mc := HN8.out.cell (k := 3) rfl
  have mf := HN8.out.free
  go_simp
  have hq := HN8.out.set 3 (.int .u32 4)
  have hq2 := HZ8.out.other (p := ⟨wn.heap.size, 3, none⟩) (.int .u32 4) (by dsimp only; omega)
  refine hK.out _ _ ⟨hq2, _, _, hq⟩ (fun hH3 => ?_)
  clear hK K mc mf
  (try simp only [Act.put, List.getElem_toArray, List.getElem_cons_zero, List.getElem_cons_succ, List.setIfInBounds_toArray, List.set_cons_zero, List.set_cons_succ])
  refine wpAnyH_ready (rs := [1]) (by kernel_rfl) (by simp) ?_
  refine AllReadyH.cons rfl (fun K hK => ?_) AllReadyH.nil
  go_simp
  refine hK.out _ _ ⟨hq2.alloc _, _, _, hq.alloc _⟩ (fun hH2 => ?_)
  clear hK K hq hq2
  (try simp only [Act.put, List.getElem_toArray, List.getElem_cons_zero, List.getElem_cons_succ, List.setIfInBounds_toArray, List.set_cons_zero, List.set_cons_succ])
  refine wpAnyH_take (i := 4) (v := ?_) rfl (by kernel_rfl) (by kernel_rfl) (by kernel_rfl) (fun _ _ _ h => h) (Or.inl ⟨by rfl, ?_⟩) (by assumption) ?_
  rotate_left
  · intro w hSw; (try dsimp only at hSw); go_simp; (try with_reducible rfl)
  (try simp only [Act.put, List.getElem_toArray, List.getElem_cons_zero, List.getElem_cons_succ, List.setIfInBounds_toArray, List.set_cons_zero, List.set_cons_succ])
  refine wpAnyH_ready (rs := [5]) (by kernel_rfl) (by simp) ?_
  refine AllReadyH.cons rfl (fun K hK => ?_) AllReadyH.nil
  have hq8 : Bx ((w8.setCell ⟨wn.heap.size, 3, none⟩ (.int .u32 4)).alloc (.cells #[.int .i64 14, .int .i64 az, .string (S []), .int .u32 nv, .slice none 0 0] 27)) wn.heap.size 27 #[.int .i64 3, .int .i64 at_, .string (S nt), .int .u32 4, .slice none 0 0] := ((HN8.out.set 3 (.int .u32 4)).alloc (.cells #[.int .i64 14, .int .i64 az, .string (S []), .int .u32 nv, .slice none 0 0] 27))
  have mc := hq8.cell (k := 4) rfl
  have mf := hq8.free
  have hq9 : Bx (((w8.setCell ⟨wn.heap.size, 3, none⟩ (.int .u32 4)).alloc (.cells #[.int .i64 14, .int .i64 az, .string (S []), .int .u32 nv, .slice none 0 0] 27)).setCell ⟨wn.heap.size, 4, none⟩ (.slice (some ⟨w8.heap.size, 0, none⟩) 1 1)) wn.heap.size 27 #[.int .i64 3, .int .i64 at_, .string (S nt), .int .u32 4, .slice (some ⟨w8.heap.size, 0, none⟩) 1 1] := hq8.set 4 (.slice (some ⟨w8.heap.size, 0, none⟩) 1 1)
  have hzc : Bx (((w8.setCell ⟨wn.heap.size, 3, none⟩ (.int .u32 4)).alloc (.cells #[.int .i64 14, .int .i64 az, .string (S []), .int .u32 nv, .slice none 0 0] 27)).setCell ⟨wn.heap.size, 4, none⟩ (.slice (some ⟨w8.heap.size, 0, none⟩) 1 1)) w6.heap.size 27 #[.int .i64 14, .int .i64 az, .string (S []), .int .u32 nv, .slice none 0 0] := (by repeat (first | with_reducible exact HZ8.out | (with_reducible refine Bx.newAt ?_; first | rfl | (simp [World.setCell]; done)) | with_reducible refine Bx.alloc ?_ _ | with_reducible refine Bx.other ?_ _ (by first | omega | (dsimp only; omega))))
  go_simp
  refine hK.out _ _ ⟨hzc, _, _, hq9⟩ (fun hH4 => ?_)
  clear hK K mc mf
  (try simp only [Act.put, List.getElem_toArray, List.getElem_cons_zero, List.getElem_cons_succ, List.setIfInBounds_toArray, List.set_cons_zero, List.set_cons_succ])
  refine wpAnyH_done (by kernel_rfl) ?_ _
  have HR9 : Hid (Rd (((w8.setCell ⟨wn.heap.size, 3, none⟩ (.int .u32 4)).alloc (.cells #[.int .i64 14, .int .i64 az, .string (S []), .int .u32 nv, .slice none 0 0] 27)).setCell ⟨wn.heap.size, 4, none⟩ (.slice (some ⟨w8.heap.size, 0, none⟩) 1 1)).drew b g c L r5) := hide (Rd.drew (by repeat (first | with_reducible exact HR8.out | with_reducible refine Rd.alloc ?_ _ | with_reducible refine Rd.other ?_ _ (by first | omega | (dsimp only; omega)) (by first | omega | (dsimp only; omega)))))
  have HB9 : Hid (But b w (((w8.setCell ⟨wn.heap.size, 3, none⟩ (.int .u32 4)).alloc (.cells #[.int .i64 14, .int .i64 az, .string (S []), .int .u32 nv, .slice none 0 0] 27)).setCell ⟨wn.heap.size, 4, none⟩ (.slice (some ⟨w8.heap.size, 0, none⟩) 1 1)).drew) := hide (But.drew (by repeat (first | with_reducible exact HB8.out | with_reducible refine But.alloc ?_ _ | with_reducible refine But.fresh ?_ (by first | omega | (dsimp only; omega)) _)))
  have hy9 : Bx (((w8.setCell ⟨wn.heap.size, 3, none⟩ (.int .u32 4)).alloc (.cells #[.int .i64 14, .int .i64 az, .string (S []), .int .u32 nv, .slice none 0 0] 27)).setCell ⟨wn.heap.size, 4, none⟩ (.slice (some ⟨w8.heap.size, 0, none⟩) 1 1)) w.heap.size 27 #[.int .i64 0, .int .i64 0, .string ⟨#[]⟩, .int .u32 0, .slice none 0 0] := (by repeat (first | with_reducible exact HY8.out | (with_reducible refine Bx.newAt ?_; first | rfl | (simp [World.setCell]; done)) | with_reducible refine Bx.alloc ?_ _ | with_reducible refine Bx.other ?_ _ (by first | omega | (dsimp only; omega))))
  have ha9 : Bx (((w8.setCell ⟨wn.heap.size, 3, none⟩ (.int .u32 4)).alloc (.cells #[.int .i64 14, .int .i64 az, .string (S []), .int .u32 nv, .slice none 0 0] 27)).setCell ⟨wn.heap.size, 4, none⟩ (.slice (some ⟨w8.heap.size, 0, none⟩) 1 1)) w8.heap.size 27 #[.int .i64 14, .int .i64 az, .string (S []), .int .u32 nv, .slice none 0 0] := (by repeat (first | with_reducible exact HR8 | (with_reducible refine Bx.newAt ?_; first | rfl | (simp [World.setCell]; done)) | with_reducible refine Bx.alloc ?_ _ | with_reducible refine Bx.other ?_ _ (by first | omega | (dsimp only; omega))))
  have HY9 : Hid (Bx (((w8.setCell ⟨wn.heap.size, 3, none⟩ (.int .u32 4)).alloc (.cells #[.int .i64 14, .int .i64 az, .string (S []), .int .u32 nv, .slice none 0 0] 27)).setCell ⟨wn.heap.size, 4, none⟩ (.slice (some ⟨w8.heap.size, 0, none⟩) 1 1)).drew w.heap.size 27 #[.int .i64 0, .int .i64 0, .string ⟨#[]⟩, .int .u32 0, .slice none 0 0]) := hide hy9
  have HN9 : Hid (Bx (((w8.setCell ⟨wn.heap.size, 3, none⟩ (.int .u32 4)).alloc (.cells #[.int .i64 14, .int .i64 az, .string (S []), .int .u32 nv, .slice none 0 0] 27)).setCell ⟨wn.heap.size, 4, none⟩ (.slice (some ⟨w8.heap.size, 0, none⟩) 1 1)).drew wn.heap.size 27 #[.int .i64 3, .int .i64 at_, .string (S nt), .int .u32 4, .slice (some ⟨w8.heap.size, 0, none⟩) 1 1]) := hide hq9
  have HA9 : Hid (Bx (((w8.setCell ⟨wn.heap.size, 3, none⟩ (.int .u32 4)).alloc (.cells #[.int .i64 14, .int .i64 az, .string (S []), .int .u32 nv, .slice none 0 0] 27)).setCell ⟨wn.heap.size, 4, none⟩ (.slice (some ⟨w8.heap.size, 0, none⟩) 1 1)).drew w8.heap.size 27 #[.int .i64 14, .int .i64 az, .string (S []), .int .u32 nv, .slice none 0 0]) := hide ha9
  have hs9 : (((w8.setCell ⟨wn.heap.size, 3, none⟩ (.int .u32 4)).alloc (.cells #[.int .i64 14, .int .i64 az, .string (S []), .int .u32 nv, .slice none 0 0] 27)).setCell ⟨wn.heap.size, 4, none⟩ (.slice (some ⟨w8.heap.size, 0, none⟩) 1 1)).drew.heap.size = w8.heap.size + 1 := by show (((w8.setCell ⟨wn.heap.size, 3, none⟩ (.int .u32 4)).alloc (.cells #[.int .i64 14, .int .i64 az, .string (S []), .int .u32 nv, .slice none 0 0] 27)).setCell ⟨wn.heap.size, 4, none⟩ (.slice (some ⟨w8.heap.size, 0, none⟩) 1 1)).heap.size = _; simp [World.setCell]
  clear hq8 hq9 hzc hH4 hy9 ha9
  generalize (((w8.setCell ⟨wn.heap.size, 3, none⟩ (.int .u32 4)).alloc (.cells #[.int .i64 14, .int .i64 az, .string (S []), .int .u32 nv, .slice none 0 0] 27)).setCell ⟨wn.heap.size, 4, none⟩ (.slice (some ⟨w8.heap.size, 0, none⟩) 1 1)).drew = w9 at *
  have x0 := HY9.out.cell (k := 0) rfl
  have x1 := HY9.out.cell (k := 1) rfl
  have x2 := HY9.out.cell (k := 2) rfl
  have x3 := HY9.out.cell (k := 3) rfl
  have x4 := HY9.out.cell (k := 4) rfl
  have xl := HY9.out.lt
  have xf := HY9.out.free
  have p0 := HN9.out.cell (k := 0) rfl
  have p1 := HN9.out.cell (k := 1) rfl
  have p2 := HN9.out.cell (k := 2) rfl
  have p3 := HN9.out.cell (k := 3) rfl
  have p4 := HN9.out.cell (k := 4) rfl
  have pl := HN9.out.lt
  have pf := HN9.out.free
  go_wp2_with fail
  have hrep : Rep w9 (Fr wn w9) (.mk 3 at_ nt 4 [.mk 14 az [] nv []]) (nC 3 at_ nt 4 (.slice (some ⟨w8.heap.size, 0, none⟩) 1 1)) := by
    refine rep_arr 3 at_ nt 4 [.mk 14 az [] nv []] [#[.int .i64 14, .int .i64 az, .string (S []), .int .u32 nv, .slice none 0 0]] 1 rfl _ rfl rfl (by simp [maxLen]) HA9.out ⟨by omega, by omega⟩ (fun i y x hy hx => ?_)
    match i, hy, hx with
    | 0, hy, hx =>
      simp at hy hx
      subst hy hx
      exact Rep.leaf _ _ 14 az [] nv
  unfold nC at hrep
  have hf := fin_put2 (b := b) (g := g) (c := c) (L := L) (w := w) HR9.out HB9.out HY9.out (Nat.le_refl _) (show w.heap.size < wn.heap.size by omega) hrep hbz hgz
  exact bodyPost_ret (v := .agg #[.int .i64 3, .int .i64 at_, .string (S nt), .int .u32 4, .slice (some ⟨w8.heap.size, 0, none⟩) 1 1]) (results_cell_row (fn := Tryd.f60) rfl _ _ w.heap.size 27 _ (0, 0) _ rfl hf.1 Tryd.underlying27 rfl info_nd) rfl (hf.2 _ rfl rfl)

theorem parameter_any (h : Rd w b g c L r) : Calls Tryd.prog 60 #[.pointer (some ⟨b, 0, none⟩)] w (NR b g c L w (pmF L r)) := by
  unfold pmF
  dsimp only
  cases hm0 : fol L [112, 117, 98] (need L [58] (name L (nod r))) with
  | true => rw [if_pos rfl]; exact pm_1 h hm0
  | false =>
  rw [if_neg (by simp)]
  cases hm1 : fol L [117, 51, 50] (need L [58] (name L (nod r))) with
  | true => rw [if_pos rfl]; exact pm_2 h hm0 hm1
  | false =>
  rw [if_neg (by simp)]
  cases hm2 : fol L [117, 54, 52] (need L [58] (name L (nod r))) with
  | true => rw [if_pos rfl]; exact pm_3 h hm0 hm1 hm2
  | false =>
  rw [if_neg (by simp)]
  exact pm_4 h hm0 hm1 hm2

end
end Go.Proofs.YtimiglepogeeiaaDoor.Parse

