/- An index: package parse's index. A contract. -/
import Derived.Test.YtimiglepogeeiaaDoorParseExpr
set_option linter.unusedVariables false
set_option linter.unusedSimpArgs false
set_option maxRecDepth 100000
namespace Go.Proofs.YtimiglepogeeiaaDoor.Parse
open Go.RowKit Go.Proofs.YtimiglepogeeiaaDoor.Lex

section
variable {b g c : Nat} {L : List T}

set_option maxHeartbeats 8000000 in
theorem index_any (d : Int) (h1 : 0 ≤ d) (h7 : d ≤ 1000) (q : R → R × Tr) (hl : NC b g c L 91 (d + 1) q) : NC b g c L 101 d (idxF q L) := by
  intro w r h
  have hbz := h.ltb
  have hgz := h.row.lt
  have HR := hide h
  have HB := hide (But.refl b w)
  have HX0 := hide (heap_new w zN 27)
  rw [zN_get] at HX0
  have ho := hl _ r (h.alloc (.cells zN 27))
  have hu : w.heap.size < (w.alloc (.cells zN 27)).heap.size := by simp
  rw [zN_get] at ho hu
  clear h hl
  go_enter Tryd.func101, Tryd.ntmps101
  go_wp2_with fail
  refine ho.mono ?_
  intro e w1 hn
  obtain ⟨k, a, t, v, l, sp, sn, sc, hq, rfl, hR1, hB1, hT1⟩ := hn.parts
  have HQ := hide hq
  have HR1 := hide hR1
  have HB1 : Hid (But b w w1) := hide (But.trans (by repeat (first | with_reducible exact HB.out | with_reducible refine But.alloc ?_ _ | with_reducible refine But.fresh ?_ (by first | omega | (dsimp only; omega)) _)) hB1)
  have HX1 : Hid (Bx w1 w.heap.size 27 #[.int .i64 0, .int .i64 0, .string ⟨#[]⟩, .int .u32 0, .slice none 0 0]) := hide (Bx.but (by repeat (first | with_reducible exact HX0.out | with_reducible exact Bx.newAt (by first | rfl | (simp [World.setCell]; done)) | with_reducible refine Bx.alloc ?_ _ | with_reducible refine Bx.other ?_ _ (by first | omega | (dsimp only; omega)))) hB1 (by omega))
  have HT1 := hide hT1
  have hz1 := hB1.size
  clear hR1 hB1 hT1 hn ho hq
  go_wp2_with fail
  refine Calls.mono (need_any (b := b) (g := g) (c := c) (L := L) (r := (q r).1) (by repeat (first | with_reducible exact HR1.out | with_reducible refine Rd.alloc ?_ _ | with_reducible refine Rd.other ?_ _ (by first | omega | (dsimp only; omega)) (by first | omega | (dsimp only; omega)))) [93] (by decide)) ?_
  rintro e w2 ⟨rfl, hR2, hB2⟩
  have HR2 := hide hR2
  have HB2 : Hid (But b w w2) := hide (But.trans (by repeat (first | with_reducible exact HB1.out | with_reducible refine But.alloc ?_ _ | with_reducible refine But.fresh ?_ (by first | omega | (dsimp only; omega)) _)) hB2)
  have HX2 : Hid (Bx w2 w.heap.size 27 #[.int .i64 0, .int .i64 0, .string ⟨#[]⟩, .int .u32 0, .slice none 0 0]) := hide (Bx.but (by repeat (first | with_reducible exact HX1.out | with_reducible exact Bx.newAt (by first | rfl | (simp [World.setCell]; done)) | with_reducible refine Bx.alloc ?_ _ | with_reducible refine Bx.other ?_ _ (by first | omega | (dsimp only; omega)))) hB2 (by omega))
  have HN2 : Hid (Bx w2 w1.heap.size 27 #[.int .i64 k, .int .i64 a, .string (S t), .int .u32 v, .slice sp sn sc]) := hide (Bx.but (by repeat (first | with_reducible exact HX1.out | with_reducible exact Bx.newAt (by first | rfl | (simp [World.setCell]; done)) | with_reducible refine Bx.alloc ?_ _ | with_reducible refine Bx.other ?_ _ (by first | omega | (dsimp only; omega)))) hB2 (by omega))
  have HT2 : Hid (Rep w2 (Fr (w.alloc (.cells #[.int .i64 0, .int .i64 0, .string ⟨#[]⟩, .int .u32 0, .slice none 0 0] 27)) w1) (.mk k a t v l) #[.int .i64 k, .int .i64 a, .string (S t), .int .u32 v, .slice sp sn sc]) := hide (Rep.keep (by repeat (first | with_reducible exact HT1.out | with_reducible refine Rep.alloc ?_ (by first | omega | (dsimp only; omega) | (simp [World.setCell])) _ | with_reducible refine Rep.set ?_ (by first | omega | (dsimp only; omega)) _)) hB2 (by simp) (by omega))
  have hz2 := hB2.size
  simp at hz2
  clear hR2 hB2
  have x0 := HX2.out.cell (k := 0) rfl
  have x1 := HX2.out.cell (k := 1) rfl
  have x2 := HX2.out.cell (k := 2) rfl
  have x3 := HX2.out.cell (k := 3) rfl
  have x4 := HX2.out.cell (k := 4) rfl
  have xl := HX2.out.lt
  have xf := HX2.out.free
  have n0 := HN2.out.cell (k := 0) rfl
  have n1 := HN2.out.cell (k := 1) rfl
  have n2 := HN2.out.cell (k := 2) rfl
  have n3 := HN2.out.cell (k := 3) rfl
  have n4 := HN2.out.cell (k := 4) rfl
  have nl := HN2.out.lt
  have nf := HN2.out.free
  go_wp2_with fail
  have hf := fin_put HR2.out HB2.out HX2.out hu (HT2.out.wide (Nat.le_refl _) (by omega)) hbz hgz
  exact bodyPost_ret (v := .agg #[.int .i64 k, .int .i64 a, .string (S t), .int .u32 v, .slice sp sn sc]) (results_cell_row (fn := Tryd.f101) rfl _ _ w.heap.size 27 _ (0, 0) _ rfl hf.1 Tryd.underlying27 rfl info_nd) rfl (hf.2 _ rfl HQ.out)

end
end Go.Proofs.YtimiglepogeeiaaDoor.Parse

