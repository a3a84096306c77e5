/- A statement that begins with a name: package parse's named. A contract. -/
import Derived.Test.YtimiglepogeeiaaDoorParseRounds
set_option linter.unusedVariables false
set_option linter.unusedSimpArgs false
set_option maxRecDepth 100000
namespace Go.Proofs.YtimiglepogeeiaaDoor.Parse
open Go.RowKit Go.Proofs.YtimiglepogeeiaaDoor.Lex

section
variable {b g c : Nat} {L : List T} {w : World} {r : R}

set_option maxHeartbeats 16000000 in
theorem named_set (d : Int) (h1 : 0 ≤ d) (h7 : d ≤ 1000) (q : R → R × Tr) (hl : NC b g c L 91 d q) (at_ : Int) (h : Rd w b g c L r) (hf : fol L [91] (name L r) = false) (hg : fol L [40] (name L r) = false) :
    Calls Tryd.prog 94 #[.pointer (some ⟨b, 0, none⟩), .agg #[.int .i64 0, .int .i64 at_, .string (S []), .int .u32 0, .slice none 0 0], .int .i64 d] w (NR b g c L w ((givF q L (name L r)).1, .mk 8 at_ (tk L r).t 0 [(givF q L (name L r)).2])) := by
  have hbz := h.ltb
  have hgz := h.row.lt
  have HP : Hid (Bx (w.alloc (.cells #[.int .i64 0, .int .i64 at_, .string (S []), .int .u32 0, .slice none 0 0] 27)) w.heap.size 27 #[.int .i64 0, .int .i64 at_, .string (S []), .int .u32 0, .slice none 0 0]) := hide (Bx.newAt rfl)
  have hz0 : (w.alloc (.cells #[.int .i64 0, .int .i64 at_, .string (S []), .int .u32 0, .slice none 0 0] 27)).heap.size = w.heap.size + 1 := by simp
  have HRa := hide (h.alloc (.cells #[.int .i64 0, .int .i64 at_, .string (S []), .int .u32 0, .slice none 0 0] 27))
  generalize hwa : w.alloc (.cells #[.int .i64 0, .int .i64 at_, .string (S []), .int .u32 0, .slice none 0 0] 27) = wa at *
  have hBa : But b w wa := hwa ▸ (But.refl b w).alloc _
  have HX0 : Hid (Bx (wa.alloc (.cells #[.int .i64 0, .int .i64 0, .string ⟨#[]⟩, .int .u32 0, .slice none 0 0] 27)) (w.heap.size + 1) 27 #[.int .i64 0, .int .i64 0, .string ⟨#[]⟩, .int .u32 0, .slice none 0 0]) := hide (Bx.newAt hz0)
  have HP0 := hide (HP.out.alloc (.cells #[.int .i64 0, .int .i64 0, .string ⟨#[]⟩, .int .u32 0, .slice none 0 0] 27))
  have HB0 := hide (hBa.alloc (.cells #[.int .i64 0, .int .i64 0, .string ⟨#[]⟩, .int .u32 0, .slice none 0 0] 27))
  have hz1 : (wa.alloc (.cells #[.int .i64 0, .int .i64 0, .string ⟨#[]⟩, .int .u32 0, .slice none 0 0] 27)).heap.size = w.heap.size + 2 := by simp [hz0]
  have ho := name_any (HRa.out.alloc (.cells #[.int .i64 0, .int .i64 0, .string ⟨#[]⟩, .int .u32 0, .slice none 0 0] 27))
  generalize hw0 : wa.alloc (.cells #[.int .i64 0, .int .i64 0, .string ⟨#[]⟩, .int .u32 0, .slice none 0 0] 27) = w0 at *
  have HW0 := hide (hwa ▸ hw0)
  clear hBa HP HRa hwa hw0 h
  generalize (tk L r).t = nt at ho ⊢
  generalize name L r = r1 at *
  go_enter Tryd.func94, Tryd.ntmps94
  go_wp2_with fail
  rw [HW0.out]
  clear HW0
  refine ho.mono ?_
  rintro e w1 ⟨rfl, hR1, hB1⟩
  have hz2 := hB1.size
  have HR1 := hide hR1
  have HB1 := hide (HB0.out.trans hB1)
  have HX1 := hide (Bx.but HX0.out hB1 (by omega))
  have HP1 := hide (Bx.but HP0.out hB1 (by omega))
  clear ho hR1 hB1
  have p0 := HP1.out.cell (k := 0) rfl
  have p1 := HP1.out.cell (k := 1) rfl
  have p2 := HP1.out.cell (k := 2) rfl
  have p3 := HP1.out.cell (k := 3) rfl
  have p4 := HP1.out.cell (k := 4) rfl
  have pl := HP1.out.lt
  have pf := HP1.out.free
  go_wp2_with fail
  have htk : ∀ w', Rd w' b g c L r1 → Calls Tryd.prog 56 #[.pointer (some ⟨b, 0, none⟩), .string (S [91])] w' fun e w'' => e = .returned (.bool false) ∧ Rd w'' b g c L r1 ∧ But b w' w'' := fun w' h => by
    have := take_any h [91] (by decide)
    unfold take at this
    rw [hf, if_neg (by simp)] at this
    exact this
  refine Calls.mono (htk _ (by repeat (first | with_reducible exact HR1.out | with_reducible refine Rd.alloc ?_ _ | with_reducible refine Rd.other ?_ _ (by first | omega | (dsimp only; omega)) (by first | omega | (dsimp only; omega))))) ?_
  rintro e w2 ⟨rfl, hR2, hB2⟩
  have hz3 := hB2.size
  simp [World.setCell] at hz3
  have HB2 : Hid (But b w w2) := hide (But.trans (by repeat (first | with_reducible exact HB1.out | with_reducible refine But.alloc ?_ _ | with_reducible refine But.fresh ?_ (by first | omega | (dsimp only; omega)) _)) hB2)
  have HX2 : Hid (Bx w2 (w.heap.size + 1) 27 #[.int .i64 0, .int .i64 0, .string ⟨#[]⟩, .int .u32 0, .slice none 0 0]) := hide (Bx.but (by repeat (first | with_reducible exact HX1.out | with_reducible exact Bx.newAt (by first | rfl | (simp [World.setCell]; done)) | with_reducible refine Bx.alloc ?_ _ | with_reducible refine Bx.other ?_ _ (by first | omega | (dsimp only; omega)))) hB2 (by omega))
  have hp1 := HP1.out.set 2 (.string (S nt))
  have HP2 : Hid (Bx w2 w.heap.size 27 #[.int .i64 0, .int .i64 at_, .string (S nt), .int .u32 0, .slice none 0 0]) := hide (Bx.but hp1 hB2 (by omega))
  have hfo := follows_any hR2 [40]
  rw [hg] at hfo
  clear hB2 hp1 htk p0 p1 p2 p3 p4 pl pf
  go_wp2_with fail
  refine hfo.mono ?_
  rintro e w5 ⟨rfl, hR5, hb5⟩
  have hz5 := hb5.size
  have HB5 := hide (HB2.out.trans (But.of_below hb5))
  have HX5 := hide (HX2.out.below hb5)
  have HP5 := hide (HP2.out.below hb5)
  have hgi := given_any d q hl w5 r1 hR5
  clear hfo hb5 hR2 hR5
  go_wp2_with fail
  refine hgi.mono ?_
  rintro e w6 ⟨s, rfl, hR6, hB6, hK6⟩
  clear hgi
  have hz6 := hB6.size
  obtain ⟨sp, sn, sc, rfl⟩ := hK6.slice
  have HR6 := hide hR6
  have HB6 := hide (HB5.out.trans hB6)
  have HX6 := hide (Bx.but HX5.out hB6 (by omega))
  have HP6 := hide (Bx.but HP5.out hB6 (by omega))
  have hkr := hK6.rep 8 at_ nt 0
  unfold nC at hkr
  have HT6 := hide hkr
  clear hR6 hB6 hK6 hkr
  have x0 := HX6.out.cell (k := 0) rfl
  have x1 := HX6.out.cell (k := 1) rfl
  have x2 := HX6.out.cell (k := 2) rfl
  have x3 := HX6.out.cell (k := 3) rfl
  have x4 := HX6.out.cell (k := 4) rfl
  have xl := HX6.out.lt
  have xf := HX6.out.free
  have m0 := HP6.out.cell (k := 0) rfl
  have m1 := HP6.out.cell (k := 1) rfl
  have m2 := HP6.out.cell (k := 2) rfl
  have m3 := HP6.out.cell (k := 3) rfl
  have m4 := HP6.out.cell (k := 4) rfl
  have ml := HP6.out.lt
  have mf := HP6.out.free
  go_wp2_with fail
  have hfin := fin_put2 (b := b) (g := g) (c := c) (L := L) (w := w) (r := (givF q L r1).1) (u := w5) (B := w.heap.size + 1) (y := .mk 8 at_ nt 0 [(givF q L r1).2]) (c0 := .int .i64 0) (c1 := .int .i64 0) (c2 := .string ⟨#[]⟩) (c3 := .int .u32 0) (c4 := .slice none 0 0) (v0 := .int .i64 8) (v1 := .int .i64 at_) (v2 := .string (S nt)) (v3 := .int .u32 0) (v4 := .slice sp sn sc) (w1 := (w6.setCell ⟨w.heap.size, 0, none⟩ (.int .i64 8)).setCell ⟨w.heap.size, 4, none⟩ (.slice sp sn sc)) (by repeat (first | with_reducible exact HR6.out | with_reducible refine Rd.alloc ?_ _ | with_reducible refine Rd.other ?_ _ (by first | omega | (dsimp only; omega)) (by first | omega | (dsimp only; omega)))) (by repeat (first | with_reducible exact HB6.out | with_reducible refine But.alloc ?_ _ | with_reducible refine But.fresh ?_ (by first | omega | (dsimp only; omega)) _)) (by repeat (first | with_reducible exact HX6.out | with_reducible exact Bx.newAt (by first | rfl | (simp [World.setCell]; done)) | with_reducible refine Bx.alloc ?_ _ | with_reducible refine Bx.other ?_ _ (by first | omega | (dsimp only; omega)))) (by omega) (by omega) (Rep.wide (v := w6) (by repeat (first | with_reducible exact HT6.out | with_reducible refine Rep.alloc ?_ (by first | omega | (dsimp only; omega) | (simp [World.setCell]; done) | (simp [World.setCell]; omega)) _ | with_reducible refine Rep.set ?_ (by first | omega | (dsimp only; omega)) _)) (Nat.le_refl _) (by simp [World.setCell])) hbz hgz
  exact bodyPost_ret (v := .agg #[.int .i64 8, .int .i64 at_, .string (S nt), .int .u32 0, .slice sp sn sc]) (results_cell_row (fn := Tryd.f94) rfl _ _ (w.heap.size + 1) 27 _ (0, 0) _ rfl hfin.1 Tryd.underlying27 rfl info_nd) rfl (hfin.2 _ rfl rfl)

set_option maxHeartbeats 16000000 in
theorem named_do (d : Int) (h1 : 0 ≤ d) (h7 : d ≤ 1000) (qi : R → R × Tr) (hmi : ∀ r, Mv r (qi r).1) (hli : NC b g c L 91 (d + 1) qi) (at_ : Int) (h : Rd w b g c L r) (hf : fol L [91] (name L r) = false) (hg : fol L [40] (name L r) = true) :
    Calls Tryd.prog 94 #[.pointer (some ⟨b, 0, none⟩), .agg #[.int .i64 0, .int .i64 at_, .string (S []), .int .u32 0, .slice none 0 0], .int .i64 d] w (NR b g c L w ((listF qi L (name L r)).1, .mk 10 at_ (tk L r).t 0 (listF qi L (name L r)).2)) := by
  have hbz := h.ltb
  have hgz := h.row.lt
  have HP : Hid (Bx (w.alloc (.cells #[.int .i64 0, .int .i64 at_, .string (S []), .int .u32 0, .slice none 0 0] 27)) w.heap.size 27 #[.int .i64 0, .int .i64 at_, .string (S []), .int .u32 0, .slice none 0 0]) := hide (Bx.newAt rfl)
  have hz0 : (w.alloc (.cells #[.int .i64 0, .int .i64 at_, .string (S []), .int .u32 0, .slice none 0 0] 27)).heap.size = w.heap.size + 1 := by simp
  have HRa := hide (h.alloc (.cells #[.int .i64 0, .int .i64 at_, .string (S []), .int .u32 0, .slice none 0 0] 27))
  generalize hwa : w.alloc (.cells #[.int .i64 0, .int .i64 at_, .string (S []), .int .u32 0, .slice none 0 0] 27) = wa at *
  have hBa : But b w wa := hwa ▸ (But.refl b w).alloc _
  have HX0 : Hid (Bx (wa.alloc (.cells #[.int .i64 0, .int .i64 0, .string ⟨#[]⟩, .int .u32 0, .slice none 0 0] 27)) (w.heap.size + 1) 27 #[.int .i64 0, .int .i64 0, .string ⟨#[]⟩, .int .u32 0, .slice none 0 0]) := hide (Bx.newAt hz0)
  have HP0 := hide (HP.out.alloc (.cells #[.int .i64 0, .int .i64 0, .string ⟨#[]⟩, .int .u32 0, .slice none 0 0] 27))
  have HB0 := hide (hBa.alloc (.cells #[.int .i64 0, .int .i64 0, .string ⟨#[]⟩, .int .u32 0, .slice none 0 0] 27))
  have hz1 : (wa.alloc (.cells #[.int .i64 0, .int .i64 0, .string ⟨#[]⟩, .int .u32 0, .slice none 0 0] 27)).heap.size = w.heap.size + 2 := by simp [hz0]
  have ho := name_any (HRa.out.alloc (.cells #[.int .i64 0, .int .i64 0, .string ⟨#[]⟩, .int .u32 0, .slice none 0 0] 27))
  generalize hw0 : wa.alloc (.cells #[.int .i64 0, .int .i64 0, .string ⟨#[]⟩, .int .u32 0, .slice none 0 0] 27) = w0 at *
  have HW0 := hide (hwa ▸ hw0)
  clear hBa HP HRa hwa hw0 h
  generalize (tk L r).t = nt at ho ⊢
  generalize name L r = r1 at *
  go_enter Tryd.func94, Tryd.ntmps94
  go_wp2_with fail
  rw [HW0.out]
  clear HW0
  refine ho.mono ?_
  rintro e w1 ⟨rfl, hR1, hB1⟩
  have hz2 := hB1.size
  have HR1 := hide hR1
  have HB1 := hide (HB0.out.trans hB1)
  have HX1 := hide (Bx.but HX0.out hB1 (by omega))
  have HP1 := hide (Bx.but HP0.out hB1 (by omega))
  clear ho hR1 hB1
  have p0 := HP1.out.cell (k := 0) rfl
  have p1 := HP1.out.cell (k := 1) rfl
  have p2 := HP1.out.cell (k := 2) rfl
  have p3 := HP1.out.cell (k := 3) rfl
  have p4 := HP1.out.cell (k := 4) rfl
  have pl := HP1.out.lt
  have pf := HP1.out.free
  go_wp2_with fail
  have htk : ∀ w', Rd w' b g c L r1 → Calls Tryd.prog 56 #[.pointer (some ⟨b, 0, none⟩), .string (S [91])] w' fun e w'' => e = .returned (.bool false) ∧ Rd w'' b g c L r1 ∧ But b w' w'' := fun w' h => by
    have := take_any h [91] (by decide)
    unfold take at this
    rw [hf, if_neg (by simp)] at this
    exact this
  refine Calls.mono (htk _ (by repeat (first | with_reducible exact HR1.out | with_reducible refine Rd.alloc ?_ _ | with_reducible refine Rd.other ?_ _ (by first | omega | (dsimp only; omega)) (by first | omega | (dsimp only; omega))))) ?_
  rintro e w2 ⟨rfl, hR2, hB2⟩
  have hz3 := hB2.size
  simp [World.setCell] at hz3
  have HB2 : Hid (But b w w2) := hide (But.trans (by repeat (first | with_reducible exact HB1.out | with_reducible refine But.alloc ?_ _ | with_reducible refine But.fresh ?_ (by first | omega | (dsimp only; omega)) _)) hB2)
  have HX2 : Hid (Bx w2 (w.heap.size + 1) 27 #[.int .i64 0, .int .i64 0, .string ⟨#[]⟩, .int .u32 0, .slice none 0 0]) := hide (Bx.but (by repeat (first | with_reducible exact HX1.out | with_reducible exact Bx.newAt (by first | rfl | (simp [World.setCell]; done)) | with_reducible refine Bx.alloc ?_ _ | with_reducible refine Bx.other ?_ _ (by first | omega | (dsimp only; omega)))) hB2 (by omega))
  have hp1 := HP1.out.set 2 (.string (S nt))
  have HP2 : Hid (Bx w2 w.heap.size 27 #[.int .i64 0, .int .i64 at_, .string (S nt), .int .u32 0, .slice none 0 0]) := hide (Bx.but hp1 hB2 (by omega))
  have hfo := follows_any hR2 [40]
  rw [hg] at hfo
  clear hB2 hp1 htk p0 p1 p2 p3 p4 pl pf
  go_wp2_with fail
  refine hfo.mono ?_
  rintro e w5 ⟨rfl, hR5, hb5⟩
  have hz5 := hb5.size
  have HB5 := hide (HB2.out.trans (But.of_below hb5))
  have HX5 := hide (HX2.out.below hb5)
  have HP5 := hide (HP2.out.below hb5)
  have hgi := arguments_any d h1 h7 qi hmi hli w5 r1 hR5
  clear hfo hb5 hR2 hR5
  go_wp2_with fail
  refine hgi.mono ?_
  rintro e w6 ⟨s, rfl, hR6, hB6, hK6⟩
  clear hgi
  have hz6 := hB6.size
  obtain ⟨sp, sn, sc, rfl⟩ := hK6.slice
  have HR6 := hide hR6
  have HB6 := hide (HB5.out.trans hB6)
  have HX6 := hide (Bx.but HX5.out hB6 (by omega))
  have HP6 := hide (Bx.but HP5.out hB6 (by omega))
  have hkr := hK6.rep 10 at_ nt 0
  unfold nC at hkr
  have HT6 := hide hkr
  clear hR6 hB6 hK6 hkr
  have x0 := HX6.out.cell (k := 0) rfl
  have x1 := HX6.out.cell (k := 1) rfl
  have x2 := HX6.out.cell (k := 2) rfl
  have x3 := HX6.out.cell (k := 3) rfl
  have x4 := HX6.out.cell (k := 4) rfl
  have xl := HX6.out.lt
  have xf := HX6.out.free
  have m0 := HP6.out.cell (k := 0) rfl
  have m1 := HP6.out.cell (k := 1) rfl
  have m2 := HP6.out.cell (k := 2) rfl
  have m3 := HP6.out.cell (k := 3) rfl
  have m4 := HP6.out.cell (k := 4) rfl
  have ml := HP6.out.lt
  have mf := HP6.out.free
  go_wp2_with fail
  have hfin := fin_put2 (b := b) (g := g) (c := c) (L := L) (w := w) (r := (listF qi L r1).1) (u := w5) (B := w.heap.size + 1) (y := .mk 10 at_ nt 0 (listF qi L r1).2) (c0 := .int .i64 0) (c1 := .int .i64 0) (c2 := .string ⟨#[]⟩) (c3 := .int .u32 0) (c4 := .slice none 0 0) (v0 := .int .i64 10) (v1 := .int .i64 at_) (v2 := .string (S nt)) (v3 := .int .u32 0) (v4 := .slice sp sn sc) (w1 := (w6.setCell ⟨w.heap.size, 0, none⟩ (.int .i64 10)).setCell ⟨w.heap.size, 4, none⟩ (.slice sp sn sc)) (by repeat (first | with_reducible exact HR6.out | with_reducible refine Rd.alloc ?_ _ | with_reducible refine Rd.other ?_ _ (by first | omega | (dsimp only; omega)) (by first | omega | (dsimp only; omega)))) (by repeat (first | with_reducible exact HB6.out | with_reducible refine But.alloc ?_ _ | with_reducible refine But.fresh ?_ (by first | omega | (dsimp only; omega)) _)) (by repeat (first | with_reducible exact HX6.out | with_reducible exact Bx.newAt (by first | rfl | (simp [World.setCell]; done)) | with_reducible refine Bx.alloc ?_ _ | with_reducible refine Bx.other ?_ _ (by first | omega | (dsimp only; omega)))) (by omega) (by omega) (Rep.wide (v := w6) (by repeat (first | with_reducible exact HT6.out | with_reducible refine Rep.alloc ?_ (by first | omega | (dsimp only; omega) | (simp [World.setCell]; done) | (simp [World.setCell]; omega)) _ | with_reducible refine Rep.set ?_ (by first | omega | (dsimp only; omega)) _)) (Nat.le_refl _) (by simp [World.setCell])) hbz hgz
  exact bodyPost_ret (v := .agg #[.int .i64 10, .int .i64 at_, .string (S nt), .int .u32 0, .slice sp sn sc]) (results_cell_row (fn := Tryd.f94) rfl _ _ (w.heap.size + 1) 27 _ (0, 0) _ rfl hfin.1 Tryd.underlying27 rfl info_nd) rfl (hfin.2 _ rfl rfl)

set_option maxHeartbeats 16000000 in
theorem named_put (d : Int) (h1 : 0 ≤ d) (h7 : d ≤ 1000) (q : R → R × Tr) (hl : NC b g c L 91 d q) (qi : R → R × Tr) (hli : NC b g c L 91 (d + 1) qi) (at_ : Int) (h : Rd w b g c L r) (hf : fol L [91] (name L r) = true) :
    Calls Tryd.prog 94 #[.pointer (some ⟨b, 0, none⟩), .agg #[.int .i64 0, .int .i64 at_, .string (S []), .int .u32 0, .slice none 0 0], .int .i64 d] w (NR b g c L w ((givF q L (idxF qi L (adv (name L r))).1).1, .mk 9 at_ (tk L r).t 0 [(idxF qi L (adv (name L r))).2, (givF q L (idxF qi L (adv (name L r))).1).2])) := by
  have hbz := h.ltb
  have hgz := h.row.lt
  have HP : Hid (Bx (w.alloc (.cells #[.int .i64 0, .int .i64 at_, .string (S []), .int .u32 0, .slice none 0 0] 27)) w.heap.size 27 #[.int .i64 0, .int .i64 at_, .string (S []), .int .u32 0, .slice none 0 0]) := hide (Bx.newAt rfl)
  have hz0 : (w.alloc (.cells #[.int .i64 0, .int .i64 at_, .string (S []), .int .u32 0, .slice none 0 0] 27)).heap.size = w.heap.size + 1 := by simp
  have HRa := hide (h.alloc (.cells #[.int .i64 0, .int .i64 at_, .string (S []), .int .u32 0, .slice none 0 0] 27))
  generalize hwa : w.alloc (.cells #[.int .i64 0, .int .i64 at_, .string (S []), .int .u32 0, .slice none 0 0] 27) = wa at *
  have hBa : But b w wa := hwa ▸ (But.refl b w).alloc _
  have HX0 : Hid (Bx (wa.alloc (.cells #[.int .i64 0, .int .i64 0, .string ⟨#[]⟩, .int .u32 0, .slice none 0 0] 27)) (w.heap.size + 1) 27 #[.int .i64 0, .int .i64 0, .string ⟨#[]⟩, .int .u32 0, .slice none 0 0]) := hide (Bx.newAt hz0)
  have HP0 := hide (HP.out.alloc (.cells #[.int .i64 0, .int .i64 0, .string ⟨#[]⟩, .int .u32 0, .slice none 0 0] 27))
  have HB0 := hide (hBa.alloc (.cells #[.int .i64 0, .int .i64 0, .string ⟨#[]⟩, .int .u32 0, .slice none 0 0] 27))
  have hz1 : (wa.alloc (.cells #[.int .i64 0, .int .i64 0, .string ⟨#[]⟩, .int .u32 0, .slice none 0 0] 27)).heap.size = w.heap.size + 2 := by simp [hz0]
  have ho := name_any (HRa.out.alloc (.cells #[.int .i64 0, .int .i64 0, .string ⟨#[]⟩, .int .u32 0, .slice none 0 0] 27))
  generalize hw0 : wa.alloc (.cells #[.int .i64 0, .int .i64 0, .string ⟨#[]⟩, .int .u32 0, .slice none 0 0] 27) = w0 at *
  have HW0 := hide (hwa ▸ hw0)
  clear hBa HP HRa hwa hw0 h
  generalize (tk L r).t = nt at ho ⊢
  generalize name L r = r1 at *
  go_enter Tryd.func94, Tryd.ntmps94
  go_wp2_with fail
  rw [HW0.out]
  clear HW0
  refine ho.mono ?_
  rintro e w1 ⟨rfl, hR1, hB1⟩
  have hz2 := hB1.size
  have HR1 := hide hR1
  have HB1 := hide (HB0.out.trans hB1)
  have HX1 := hide (Bx.but HX0.out hB1 (by omega))
  have HP1 := hide (Bx.but HP0.out hB1 (by omega))
  clear ho hR1 hB1
  have p0 := HP1.out.cell (k := 0) rfl
  have p1 := HP1.out.cell (k := 1) rfl
  have p2 := HP1.out.cell (k := 2) rfl
  have p3 := HP1.out.cell (k := 3) rfl
  have p4 := HP1.out.cell (k := 4) rfl
  have pl := HP1.out.lt
  have pf := HP1.out.free
  go_wp2_with fail
  have htk : ∀ w', Rd w' b g c L r1 → Calls Tryd.prog 56 #[.pointer (some ⟨b, 0, none⟩), .string (S [91])] w' fun e w'' => e = .returned (.bool true) ∧ Rd w'' b g c L (adv r1) ∧ But b w' w'' := fun w' h => by
    have := take_any h [91] (by decide)
    unfold take at this
    rw [hf, if_pos rfl] at this
    exact this
  refine Calls.mono (htk _ (by repeat (first | with_reducible exact HR1.out | with_reducible refine Rd.alloc ?_ _ | with_reducible refine Rd.other ?_ _ (by first | omega | (dsimp only; omega)) (by first | omega | (dsimp only; omega))))) ?_
  rintro e w2 ⟨rfl, hR2, hB2⟩
  have hz3 := hB2.size
  simp [World.setCell] at hz3
  have HB2 : Hid (But b w w2) := hide (But.trans (by repeat (first | with_reducible exact HB1.out | with_reducible refine But.alloc ?_ _ | with_reducible refine But.fresh ?_ (by first | omega | (dsimp only; omega)) _)) hB2)
  have HX2 : Hid (Bx w2 (w.heap.size + 1) 27 #[.int .i64 0, .int .i64 0, .string ⟨#[]⟩, .int .u32 0, .slice none 0 0]) := hide (Bx.but (by repeat (first | with_reducible exact HX1.out | with_reducible exact Bx.newAt (by first | rfl | (simp [World.setCell]; done)) | with_reducible refine Bx.alloc ?_ _ | with_reducible refine Bx.other ?_ _ (by first | omega | (dsimp only; omega)))) hB2 (by omega))
  have hp1 := HP1.out.set 2 (.string (S nt))
  have HP2 : Hid (Bx w2 w.heap.size 27 #[.int .i64 0, .int .i64 at_, .string (S nt), .int .u32 0, .slice none 0 0]) := hide (Bx.but hp1 hB2 (by omega))
  have hix := index_any d h1 h7 qi hli w2 (adv r1) hR2
  clear hB2 hp1 htk hR2 p0 p1 p2 p3 p4 pl pf
  go_wp2_with fail
  refine hix.mono ?_
  intro e w3 hn
  obtain ⟨k3, a3, t3, v3, l3, sp3, sn3, sc3, hq, rfl, hR3, hB3, hT3⟩ := hn.parts
  have hz4 := hB3.size
  have HQ3 := hide hq
  generalize hri : (idxF qi L (adv r1)).1 = ri at *
  have hR3a := hR3.alloc (.cells #[.int .i64 k3, .int .i64 a3, .string (S t3), .int .u32 v3, .slice sp3 sn3 sc3] 27)
  have HB3 := hide ((HB2.out.trans hB3).alloc (.cells #[.int .i64 k3, .int .i64 a3, .string (S t3), .int .u32 v3, .slice sp3 sn3 sc3] 27))
  have HX3 := hide ((Bx.but HX2.out hB3 (by omega)).alloc (.cells #[.int .i64 k3, .int .i64 a3, .string (S t3), .int .u32 v3, .slice sp3 sn3 sc3] 27))
  have HP3 := hide ((Bx.but HP2.out hB3 (by omega)).alloc (.cells #[.int .i64 k3, .int .i64 a3, .string (S t3), .int .u32 v3, .slice sp3 sn3 sc3] 27))
  have HK3 := hide (KL.one (w0 := w0) (by omega) hB3.size hT3)
  have hgi := given_any d q hl _ ri hR3a
  have hzA : (w3.alloc (.cells #[.int .i64 k3, .int .i64 a3, .string (S t3), .int .u32 v3, .slice sp3 sn3 sc3] 27)).heap.size = w3.heap.size + 1 := by simp
  clear hix hn hq hR3 hR3a hB3 hT3 hl hli
  go_wp2_with fail
  refine hgi.mono ?_
  rintro e w5 ⟨s, rfl, hR5, hB5, hK5⟩
  have hz5 := hB5.size
  have HR5 := hide hR5
  have HB5 := hide (HB3.out.trans hB5)
  have HX5 := hide (Bx.but HX3.out hB5 (by omega))
  have HP5 := hide (Bx.but HP3.out hB5 (by omega))
  have hKl := HK3.out.but hB5 (by omega)
  have hkb := HK3.out.blk
  obtain ⟨xs1, ho1, hl1, hk1⟩ := hKl
  obtain ⟨xs2, ho2, hl2, hk2⟩ := hK5
  match xs2, hl2, ho2, hk2 with
  | [x2], hl2, ho2, hk2 =>
  have ht2 := hk2 0 _ x2 rfl rfl
  have hx25 := ht2.size
  rcases ho2.2 with ⟨_, h0⟩ | ⟨g2, c2, cur2, rfl, hg20, hg2, hr2⟩
  · simp at h0
  have hcl := ho2.cells (g := g2) rfl
  have hone : ∀ u ∈ x2.toList, u.oneCell' = true := rep_cells ht2
  obtain ⟨i0, hi0, hi1, hi2, hi3⟩ := info_parts info_node
  have HCL := hide hcl
  have HON := hide hone
  have HO1 := hide ho1
  have HK1 := hide hk1
  have HT2 : Hid (Rep w5 (Fr (w3.alloc (.cells #[.int .i64 k3, .int .i64 a3, .string (S t3), .int .u32 v3, .slice sp3 sn3 sc3] 27)) w5) _ x2) := hide (ht2.kept (Nat.le_refl _) (fun _ _ => rfl) (fun j hj => hj.1))
  have hg2s : g2 < w5.heap.size := lt_heap hg2
  clear hgi hR5 hB5 hcl hone ho1 hk1 ht2 ho2 hk2 hr2
  have m0 := HP5.out.cell (k := 0) rfl
  have m1 := HP5.out.cell (k := 1) rfl
  have m2 := HP5.out.cell (k := 2) rfl
  have m3 := HP5.out.cell (k := 3) rfl
  have m4 := HP5.out.cell (k := 4) rfl
  have ml := HP5.out.lt
  have mf := HP5.out.free
  go_wp2_with (at_builtin; refine wpList_append_own_at _ rfl (.tmp 21) (.tmp 24) 25 rfl w0.heap.size 27 i0 (.agg zN) 5 64 Tryd.underlying25 hi0 hi1 hi2 hi3 rfl (by decide) _ 1 (xs1.map Array.toList).flatten rfl HO1.out ⟨g2, 0, none⟩ 1 c2 x2.toList rfl ?c0 ?c1 ?c2 ?c3 ?c4 ?c5 ?_)
  case c0 => rw [Array.length_toList, hx25]
  case c1 => intro j u hj; have := HCL.out j u (by simpa using hj); simpa using this
  case c2 => exact HON.out
  case c3 => simp [maxLen]
  case c4 => simp
  case c5 => omega
  intro v' w6 hown' hgrow _ hat
  have hz6 := hgrow.size
  have hrow : ∀ j, (Value.slice (some ⟨w3.heap.size, 0, none⟩) 1 1).ownBlock = some j → j = w3.heap.size := fun j hj => by injection hj with hj; exact hj.symm
  have HR6 := hide (HR5.out.grown hgrow (fun e => by have := hrow _ e.symm; omega) (fun e => by have := hrow _ e.symm; omega))
  have HB6 := hide (HB5.out.grown hgrow (fun j hj => by have := hrow _ hj; omega))
  have HX6 : Hid (Bx w6 (w.heap.size + 1) 27 #[.int .i64 0, .int .i64 0, .string ⟨#[]⟩, .int .u32 0, .slice none 0 0]) := hide ((hgrow.block _ HX5.out.lt (fun e => by have := hrow _ e.symm; omega)).trans HX5.out)
  have HP6 : Hid (Bx w6 w.heap.size 27 #[.int .i64 0, .int .i64 at_, .string (S nt), .int .u32 0, .slice none 0 0]) := hide ((hgrow.block _ HP5.out.lt (fun e => by have := hrow _ e.symm; omega)).trans HP5.out)
  have hK6 := KL.app2 (show w0.heap.size ≤ (w3.alloc (.cells #[.int .i64 k3, .int .i64 a3, .string (S t3), .int .u32 v3, .slice sp3 sn3 sc3] 27)).heap.size by omega) (fun j hj => by have := hrow _ hj; omega) HT2.out hl1 HK1.out (by rw [hz1]; exact hown') hgrow hat
  obtain ⟨sp, sn, sc, rfl⟩ := hK6.slice
  have hkr := hK6.rep 9 at_ nt 0
  unfold nC at hkr
  have HT6 : Hid (Rep w6 (Fr w0 w6) (.mk 9 at_ nt 0 [.mk k3 a3 t3 v3 l3, (givF q L ri).2]) #[.int .i64 9, .int .i64 at_, .string (S nt), .int .u32 0, .slice sp sn sc]) := hide hkr
  clear hown' hgrow hat hK6 hkr m0 m1 m2 m3 m4 ml mf
  have x0 := HX6.out.cell (k := 0) rfl
  have x1 := HX6.out.cell (k := 1) rfl
  have x2 := HX6.out.cell (k := 2) rfl
  have x3 := HX6.out.cell (k := 3) rfl
  have x4 := HX6.out.cell (k := 4) rfl
  have xl := HX6.out.lt
  have xf := HX6.out.free
  have m0 := HP6.out.cell (k := 0) rfl
  have m1 := HP6.out.cell (k := 1) rfl
  have m2 := HP6.out.cell (k := 2) rfl
  have m3 := HP6.out.cell (k := 3) rfl
  have m4 := HP6.out.cell (k := 4) rfl
  have ml := HP6.out.lt
  have mf := HP6.out.free
  go_wp2_with fail
  have hfin := fin_put2 (b := b) (g := g) (c := c) (L := L) (w := w) (r := (givF q L ri).1) (u := w0) (B := w.heap.size + 1) (y := .mk 9 at_ nt 0 [.mk k3 a3 t3 v3 l3, (givF q L ri).2]) (c0 := .int .i64 0) (c1 := .int .i64 0) (c2 := .string ⟨#[]⟩) (c3 := .int .u32 0) (c4 := .slice none 0 0) (v0 := .int .i64 9) (v1 := .int .i64 at_) (v2 := .string (S nt)) (v3 := .int .u32 0) (v4 := .slice sp sn sc) (w1 := (w6.setCell ⟨w.heap.size, 0, none⟩ (.int .i64 9)).setCell ⟨w.heap.size, 4, none⟩ (.slice sp sn sc)) (by repeat (first | with_reducible exact HR6.out | with_reducible refine Rd.alloc ?_ _ | with_reducible refine Rd.other ?_ _ (by first | omega | (dsimp only; omega)) (by first | omega | (dsimp only; omega)))) (by repeat (first | with_reducible exact HB6.out | with_reducible refine But.alloc ?_ _ | with_reducible refine But.fresh ?_ (by first | omega | (dsimp only; omega)) _)) (by repeat (first | with_reducible exact HX6.out | with_reducible exact Bx.newAt (by first | rfl | (simp [World.setCell]; done)) | with_reducible refine Bx.alloc ?_ _ | with_reducible refine Bx.other ?_ _ (by first | omega | (dsimp only; omega)))) (by omega) (by omega) (Rep.wide (v := w6) (by repeat (first | with_reducible exact HT6.out | with_reducible refine Rep.alloc ?_ (by first | omega | (dsimp only; omega) | (simp [World.setCell]; done) | (simp [World.setCell]; omega)) _ | with_reducible refine Rep.set ?_ (by first | omega | (dsimp only; omega)) _)) (Nat.le_refl _) (by simp [World.setCell])) hbz hgz
  exact bodyPost_ret (v := .agg #[.int .i64 9, .int .i64 at_, .string (S nt), .int .u32 0, .slice sp sn sc]) (results_cell_row (fn := Tryd.f94) rfl _ _ (w.heap.size + 1) 27 _ (0, 0) _ rfl hfin.1 Tryd.underlying27 rfl info_nd) rfl (hfin.2 _ rfl (by rw [HQ3.out]))

/-- A statement that begins with a name. -/
theorem named_any (d : Int) (h1 : 0 ≤ d) (h7 : d ≤ 1000) (q : R → R × Tr) (hl : NC b g c L 91 d q) (qi : R → R × Tr) (hmi : ∀ r, Mv r (qi r).1) (hli : (name L r).e = 0 → NC b g c L 91 (d + 1) qi) (at_ : Int) (h : Rd w b g c L r) :
    Calls Tryd.prog 94 #[.pointer (some ⟨b, 0, none⟩), .agg #[.int .i64 0, .int .i64 at_, .string (S []), .int .u32 0, .slice none 0 0], .int .i64 d] w (NR b g c L w ((namF q qi L r).1, .mk (namF q qi L r).2.1 at_ (tk L r).t 0 (namF q qi L r).2.2)) := by
  unfold namF
  cases hf : fol L [91] (name L r) with
  | true =>
    rw [if_pos rfl]
    exact named_put d h1 h7 q hl qi (hli (fol_e hf)) at_ h hf
  | false =>
    rw [if_neg (by simp)]
    cases hg : fol L [40] (name L r) with
    | true =>
      rw [if_pos rfl]
      exact named_do d h1 h7 qi hmi (hli (fol_e hg)) at_ h hf hg
    | false =>
      rw [if_neg (by simp)]
      exact named_set d h1 h7 q hl at_ h hf hg

end
end Go.Proofs.YtimiglepogeeiaaDoor.Parse

