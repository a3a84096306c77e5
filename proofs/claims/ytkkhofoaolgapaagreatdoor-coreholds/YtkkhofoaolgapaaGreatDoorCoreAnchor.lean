/- The document's example: the statements' own 'anchor' is true. -/
import Derived.Test.YtkkhofoaolgapaaGreatDoorCoreAncM
import Derived.Test.YtkkhofoaolgapaaGreatDoorCoreSet
set_option linter.unusedVariables false
set_option linter.unusedSimpArgs false
namespace Go.Proofs.YtkkhofoaolgapaaGreatDoor.Core
open Go.RowKit Go.Proofs.YtkkhofoaolgapaaGreatDoor.Mem Go.Proofs.YtkkhofoaolgapaaGreatDoor.Alu

theorem field_R (a0 a1 a2 a3 a4 a5 a6 a7 a8 a9 a10 a11 a12 a13 a14 a15 a16 a17 a18 a19 : Int) (w : World) : Sem.run Tryz.prog (Instr.field 27 (.agg #[.int .u32 a0, .int .u32 a1, .int .u32 a2, .int .u32 a3, .int .u32 a4, .int .u32 a5, .int .u32 a6, .int .u32 a7, .int .u32 a8, .int .u32 a9, .int .u32 a10, .int .u32 a11, .int .u32 a12, .int .u32 a13, .int .u32 a14, .int .u32 a15, .int .u32 a16, .int .u32 a17, .int .u32 a18, .int .u32 a19]) 0) w = .ok (.agg #[.int .u32 a0, .int .u32 a1, .int .u32 a2, .int .u32 a3, .int .u32 a4, .int .u32 a5, .int .u32 a6, .int .u32 a7, .int .u32 a8, .int .u32 a9, .int .u32 a10, .int .u32 a11, .int .u32 a12, .int .u32 a13, .int .u32 a14, .int .u32 a15]) w := by
  kernel_rfl
theorem index_R (a0 a1 a2 a3 a4 a5 a6 a7 a8 a9 a10 a11 a12 a13 a14 a15 : Int) (w : World) : Sem.run Tryz.prog (Instr.index 25 (.agg #[.int .u32 a0, .int .u32 a1, .int .u32 a2, .int .u32 a3, .int .u32 a4, .int .u32 a5, .int .u32 a6, .int .u32 a7, .int .u32 a8, .int .u32 a9, .int .u32 a10, .int .u32 a11, .int .u32 a12, .int .u32 a13, .int .u32 a14, .int .u32 a15]) (.int .i64 0)) w = .ok (.int .u32 a0) w := by
  kernel_rfl
attribute [local go_sem] field_R index_R
/-- The slice that the example builds. -/
theorem an_its {w : World} {b : Nat} (h : w.heap[b]? = some (.cells ((inv an1).toList ++ (inv an2).toList).toArray 52 (0, 0))) : Its w (some ⟨b, 0, none⟩) 2 anI := by
  refine ⟨.inr ⟨b, 0, rfl, lt_of_heap h, fun i hi => ?_⟩, fun i hi => ?_⟩
  · intro j v hv
    have hj : j < 11 := by have := (List.getElem?_eq_some_iff.1 hv).1; simpa [inv] using this
    rw [cell_of_row w b _ _ _ _ h, List.getElem?_toArray]
    rcases (show i = 0 ∨ i = 1 by omega) with rfl | rfl
    · rw [show 0 + 0 * 11 + j = j by omega, List.getElem?_append_left (show j < (inv an1).toList.length from hj)]
      exact hv
    · rw [show 0 + 1 * 11 + j = 11 + j by omega, List.getElem?_append_right (show (inv an1).toList.length ≤ 11 + j from by show 11 ≤ 11 + j; omega)]
      rw [show 11 + j - (inv an1).toList.length = j from by show 11 + j - 11 = j; omega]
      exact hv
  · rcases (show i = 0 ∨ i = 1 by omega) with rfl | rfl <;> decide

set_option maxRecDepth 100000 in
set_option maxHeartbeats 4000000 in
theorem anchor7_any (w : World) (hL : Code.Laid w) :
    Calls Tryz.prog 7 #[] w fun e w' => e = .returned (.bool true) ∧ Below w.heap.size w w' := by
  go_enter Tryz.func7, Tryz.ntmps7
  go_wp2_with fail
  have hA := heap_alloc_new w (.cells #[.int .i64 8, .int .i64 0, .int .i64 0, .int .i64 0, .int .i64 0, .int .i64 5, .int .i64 0, .int .i64 0, .int .i64 0, .int .i64 0, .int .i64 0, .int .i64 31, .int .i64 0, .int .i64 0, .int .i64 14, .int .i64 0, .int .i64 0, .int .i64 0, .int .i64 0, .int .i64 0, .int .i64 0, .int .i64 0] 52)
  have hB := (Below.refl w.heap.size w).alloc (Nat.le_refl _) (.cells #[.int .i64 8, .int .i64 0, .int .i64 0, .int .i64 0, .int .i64 0, .int .i64 5, .int .i64 0, .int .i64 0, .int .i64 0, .int .i64 0, .int .i64 0, .int .i64 31, .int .i64 0, .int .i64 0, .int .i64 14, .int .i64 0, .int .i64 0, .int .i64 0, .int .i64 0, .int .i64 0, .int .i64 0, .int .i64 0] 52)
  refine (built_any (some ⟨w.heap.size, 0, none⟩) 2 2 anI 0 _ (an_its hA) (by decide) (hL.below hB)).mono ?_
  rintro e w1 ⟨hb1, hp⟩
  rcases hp with ⟨hbad, _⟩ | ⟨_, C, m, F, R, q, fc, rfl, hx1, hI1, hle, _⟩
  · exact absurd ⟨by omega, by omega⟩ hbad
  have hB1 : Below w.heap.size w w1 := hB.trans (hb1.mono hB.size)
  have hsz := hB.size
  rw [an_len] at hI1
  generalize (w.alloc (.cells #[.int .i64 8, .int .i64 0, .int .i64 0, .int .i64 0, .int .i64 0, .int .i64 5, .int .i64 0, .int .i64 0, .int .i64 0, .int .i64 0, .int .i64 0, .int .i64 31, .int .i64 0, .int .i64 0, .int .i64 14, .int .i64 0, .int .i64 0, .int .i64 0, .int .i64 0, .int .i64 0, .int .i64 0, .int .i64 0] 52)) = w0 at *
  clear hA hb1 hB
  go_upto_region 2 with (refine wpList_store_rowTo rfl 35 (.tmp 2) (.tmp 11) rfl rfl _ (refC (.slice q (prgB anI 2).length fc) 0 (-1)) rfl rfl 35 (refC (.slice none 0 0) 0 0) (heap_alloc_last _ _) info_ref rfl (one_ref _ _ _ _ _) ?_; rw [World.setRow_alloc_new])
  (try simp only [Act.put, List.getElem_toArray, List.getElem_cons_zero, List.getElem_cons_succ, List.setIfInBounds_toArray, List.set_cons_zero, List.set_cons_succ])
  have hb2 := (Below.refl w1.heap.size w1).alloc (Nat.le_refl _) (.cells (refC (.slice q (prgB anI 2).length fc) 0 (-1)) 35)
  have hB2 : Below w.heap.size w _ := hB1.trans (hb2.mono hB1.size)
  have hx2 := hx1.below hb2
  have hI2 := hI1.below hb2
  generalize w1.alloc (.cells (refC (.slice q (prgB anI 2).length fc) 0 (-1)) 35) = w2 at *
  clear hx1 hI1 hb2 hB1
  go_upto_region 5 with (refine wpList_store_rowTo rfl 27 (.tmp 3) (.tmp 14) rfl rfl _ (stv zerS) rfl rfl 27 (stv zerS) (heap_alloc_last _ _) info_st rfl (one_st _) ?_; rw [World.setRow_alloc_new])
  (try simp only [Act.put, List.getElem_toArray, List.getElem_cons_zero, List.getElem_cons_succ, List.setIfInBounds_toArray, List.set_cons_zero, List.set_cons_succ])
  have hb3 := (Below.refl w2.heap.size w2).alloc (Nat.le_refl _) (.cells (stv zerS) 27)
  have hB3 : Below w.heap.size w _ := hB2.trans (hb3.mono hB2.size)
  have hx3 := hx2.below hb3
  have hI3 := hI2.below hb3
  have X3 := Sx.new w2 zerS
  have hw2 := hB2.size
  have hCb : C < w2.heap.size := hx2.lt
  have hmb := hI2.ltB
  have hFb := hI2.ltF
  have hRb := hI2.ltR
  generalize w2.alloc (.cells (stv zerS) 27) = w3 at *
  generalize w2.heap.size = b at *
  clear hx2 hI2 hb3 hB2
  have c14 := X3.cell (k := 14) rfl
  have c15 := X3.cell (k := 15) rfl
  have f14 := X3.free 14
  have f15 := X3.free 15
  have X4 := hide (show Sx ((w3.setCell ⟨b, 14, none⟩ (.int .u32 4294967295)).setCell ⟨b, 15, none⟩ (.int .u32 134217728)) b anS from (X3.set (s' := zerS.reg 14 4294967295) rfl).set rfl)
  have O4 := hide (((Off.refl [b] w3).set (p := ⟨b, 14, none⟩) (by simp) (.int .u32 4294967295)).set (p := ⟨b, 15, none⟩) (by simp) (.int .u32 134217728))
  clear X3
  go_upto_region 6 with fail
  (try simp only [Act.put, List.getElem_toArray, List.getElem_cons_zero, List.getElem_cons_succ, List.setIfInBounds_toArray, List.set_cons_zero, List.set_cons_succ])
  generalize (w3.setCell ⟨b, 14, none⟩ (.int .u32 4294967295)).setCell ⟨b, 15, none⟩ (.int .u32 134217728) = w4 at *
  have hx4 := hx3.off O4.out (by simp; omega)
  have hI4 := isOff hI3 O4.out (by simp; omega) (by simp; omega) (by simp; omega)
  have hB4 : Below w.heap.size w w4 := hB3.trans (O4.out.below hB3.size (by intro k hk; simp at hk; omega))
  clear c14 c15 f14 f15 hx3 hI3 O4 hB3
  go_wp2_with (refine wpList_load_row rfl 27 (.tmp 3) rfl b rfl 27 _ (0, 0) _ (unhide X4) Tryz.underlying27 rfl info_st ?_)
  refine (SetC_any hx4 anS).mono ?_
  rintro e w5 ⟨rfl, hx5, ho5⟩
  have hmC : m ≠ C := fun e => by have x := hI4.box; rw [e, show w4.heap[C]? = _ from hx4] at x; simp at x
  have hFC : F ≠ C := fun e => by have x := hI4.fl; rw [e, show w4.heap[C]? = _ from hx4] at x; simp at x
  have hRC : R ≠ C := fun e => by have x := hI4.ram; rw [e, show w4.heap[C]? = _ from hx4] at x; simp at x
  have hI5 := isOff hI4 ho5 (by simpa using hmC) (by simpa using hFC) (by simpa using hRC)
  have hB5 : Below w.heap.size w w5 := hB4.trans (ho5.below hB4.size (by intro k hk; simp at hk; omega))
  clear hx4 hI4 ho5 X4
  have hL5 := hL.below hB5
  have ntR := not_of hL (B := R) (by omega)
  have ntC := not_of hL (B := C) (by omega)
  have HR := hide (RunA_any (w := w5) (C := C) (an_line m) (by decide) hx5 hI5 anF_bd (by decide) hL5 ntR ntC)
  clear hx5 hI5
  go_wp2_with fail
  refine (unhide HR).mono ?_
  rintro e w6 ⟨rfl, hx6, hI6, ho6⟩
  have hB6 : Below w.heap.size w w6 := hB5.trans (ho6.below hB5.size (by intro k hk; simp at hk; omega))
  have hc := an_c
  clear HR hB5 ho6
  go_wp2_with (first
    | (go_at_call 23; refine (HaltC_any hx6).mono ?_; rintro e w7 ⟨rfl, hb7⟩)
    | (go_at_call 22; refine (CyclesC_any (hx6.below hb7)).mono ?_; rintro e w8 ⟨rfl, rfl⟩))
  have hB8 : Below w.heap.size w w8 := hB6.trans (hb7.mono hB6.size)
  refine (StateC_any (hx6.below hb7)).mono ?_
  rintro e w9 ⟨rfl, hb9⟩
  have hB9 : Below w.heap.size w w9 := hB8.trans (hb9.mono hB8.size)
  have h0 : (anM m 2).s.R 0 = 5 := hc.2.2.2
  dsimp only [stv]
  go_wp2_with fail
  go_ret
  exact ⟨by simp [h0], hB9⟩
end Go.Proofs.YtkkhofoaolgapaaGreatDoor.Core

