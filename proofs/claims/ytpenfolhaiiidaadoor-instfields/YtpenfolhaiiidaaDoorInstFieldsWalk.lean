/- The statement InstFields: its walk. -/
import Derived.Test.YtpenfolhaiiidaaDoorInstTurned
import Derived.Test.YtpenfolhaiiidaaDoorInstSame
import Derived.Deep.RegionWith
set_option linter.unusedVariables false
namespace Go.Proofs.YtpenfolhaiiidaaDoor.Inst
open Go.RowKit Go.Proofs.YtpenfolhaiiidaaDoor.Alu Go.Proofs.YtpenfolhaiiidaaDoor.Imm

theorem box_keep {W W' : World} {b : Nat} {a0 a1 a2 a3 a4 a5 a6 a7 a8 a9 a10 : Int} (h : Box W b a0 a1 a2 a3 a4 a5 a6 a7 a8 a9 a10) (hb : Below W.heap.size W W') : Box W' b a0 a1 a2 a3 a4 a5 a6 a7 a8 a9 a10 := by
  have hl := cell_lt h.1
  obtain ⟨h0, h1, h2, h3, h4, h5, h6, h7, h8, h9, h10⟩ := h
  exact ⟨(hb.cell (p := ⟨b, 0, none⟩) hl).trans h0, (hb.cell (p := ⟨b, 1, none⟩) hl).trans h1, (hb.cell (p := ⟨b, 2, none⟩) hl).trans h2, (hb.cell (p := ⟨b, 3, none⟩) hl).trans h3, (hb.cell (p := ⟨b, 4, none⟩) hl).trans h4, (hb.cell (p := ⟨b, 5, none⟩) hl).trans h5, (hb.cell (p := ⟨b, 6, none⟩) hl).trans h6, (hb.cell (p := ⟨b, 7, none⟩) hl).trans h7, (hb.cell (p := ⟨b, 8, none⟩) hl).trans h8, (hb.cell (p := ⟨b, 9, none⟩) hl).trans h9, (hb.cell (p := ⟨b, 10, none⟩) hl).trans h10⟩

/-- Both boxes, as a statement of cells. -/
theorem both {W : World} {b c : Nat} {a0 a1 a2 a3 a4 a5 a6 a7 a8 a9 a10 d0 d1 d2 d3 d4 d5 d6 d7 d8 d9 d10 : Int} (h : Box W b a0 a1 a2 a3 a4 a5 a6 a7 a8 a9 a10) (g : Box W c d0 d1 d2 d3 d4 d5 d6 d7 d8 d9 d10) :
    W.cell? ⟨b, 0, none⟩ = some (.int .i64 a0) ∧ W.cell? ⟨b, 1, none⟩ = some (.int .i64 a1) ∧ W.cell? ⟨b, 2, none⟩ = some (.int .i64 a2) ∧ W.cell? ⟨b, 3, none⟩ = some (.int .i64 a3) ∧ W.cell? ⟨b, 4, none⟩ = some (.int .i64 a4) ∧ W.cell? ⟨b, 5, none⟩ = some (.int .i64 a5) ∧ W.cell? ⟨b, 6, none⟩ = some (.int .i64 a6) ∧ W.cell? ⟨b, 7, none⟩ = some (.int .i64 a7) ∧ W.cell? ⟨b, 8, none⟩ = some (.int .i64 a8) ∧ W.cell? ⟨b, 9, none⟩ = some (.int .i64 a9) ∧ W.cell? ⟨b, 10, none⟩ = some (.int .i64 a10) ∧ W.cell? ⟨c, 0, none⟩ = some (.int .i64 d0) ∧ W.cell? ⟨c, 1, none⟩ = some (.int .i64 d1) ∧ W.cell? ⟨c, 2, none⟩ = some (.int .i64 d2) ∧ W.cell? ⟨c, 3, none⟩ = some (.int .i64 d3) ∧ W.cell? ⟨c, 4, none⟩ = some (.int .i64 d4) ∧ W.cell? ⟨c, 5, none⟩ = some (.int .i64 d5) ∧ W.cell? ⟨c, 6, none⟩ = some (.int .i64 d6) ∧ W.cell? ⟨c, 7, none⟩ = some (.int .i64 d7) ∧ W.cell? ⟨c, 8, none⟩ = some (.int .i64 d8) ∧ W.cell? ⟨c, 9, none⟩ = some (.int .i64 d9) ∧ W.cell? ⟨c, 10, none⟩ = some (.int .i64 d10) := by
  obtain ⟨h0, h1, h2, h3, h4, h5, h6, h7, h8, h9, h10⟩ := h
  obtain ⟨g0, g1, g2, g3, g4, g5, g6, g7, g8, g9, g10⟩ := g
  exact ⟨h0, h1, h2, h3, h4, h5, h6, h7, h8, h9, h10, g0, g1, g2, g3, g4, g5, g6, g7, g8, g9, g10⟩

set_option maxHeartbeats 4000000 in
theorem fields_any (f rd rn rm ra im kd bs st cd rg k n : Int) (hn : -9223372036854775808 ≤ n ∧ n ≤ 9223372036854775807) (hg : -9223372036854775808 ≤ rg ∧ rg ≤ 9223372036854775807) (w : World) (hL : Laid w) :
    Calls Tryd.prog 6 #[.agg #[.int .i64 f, .int .i64 rd, .int .i64 rn, .int .i64 rm, .int .i64 ra, .int .i64 im, .int .i64 kd, .int .i64 bs, .int .i64 st, .int .i64 cd, .int .i64 rg], .int .i64 k, .int .i64 n] w fun e w' => e = .returned (.bool true) ∧ Below w.heap.size w w' := by
  go_enter Tryd.func6, Tryd.ntmps6
  go_wp2_with fail
  refine (anchor_any _ (hL.alloc _)).mono ?_
  rintro e w1 ⟨rfl, hb1⟩
  obtain ⟨hc, hf⟩ := bcell hb1
  have hz : w.heap.size < w1.heap.size := by have := hb1.size; simp at this; omega
  have HN := hide hn
  have HG := hide hg
  clear hn hg
  go_upto_region 3 with fail
  iterate 14 go_step
  go_cut [] from 11 (fun wx => Turned w w1 f rd rn rm ra im kd bs st cd rg wx)
  case first =>
    go_wp2_with fail
    · go_meet
      case rel => exact turned_1 hL hb1 (unhide HN) (unhide HG)
    · go_meet
      case rel => exact turned_2 hL hb1 (unhide HN) (unhide HG)
    · go_meet
      case rel => exact turned_3 hL hb1 (unhide HN) (unhide HG)
    · go_meet
      case rel => exact turned_4 hL hb1 (unhide HN) (unhide HG)
    · go_meet
      case rel => exact turned_5 hL hb1 (unhide HN) (unhide HG)
    · go_meet
      case rel => exact turned_6 hL hb1 (unhide HN) (unhide HG)
    · go_meet
      case rel => exact turned_7 hL hb1 (unhide HN) (unhide HG)
    · go_meet
      case rel => exact turned_8 hL hb1 (unhide HN) (unhide HG)
    · go_meet
      case rel => exact turned_9 hL hb1 (unhide HN) (unhide HG)
    · go_meet
      case rel => exact turned_10 hL hb1 (unhide HN) (unhide HG)
    · go_meet
      case rel => exact turned_not hL hb1 (unhide HG)
  case rest =>
    obtain ⟨x1, x2, x3, x4, x5, x6, x7, x8, x9, x10, hB, hC, hLc, hbc, hx⟩ := hcut
    have hE : (right f x1 x2 x3 x4 x5 x6 x7 x8 x9 x10 == refR f x1 x2 x3 x4 x5 x6 x7 x8 x9 x10) = true := by rw [right_eq f x1 x2 x3 x4 x5 x6 x7 x8 x9 x10 hx.1 hx.2]; simp
    clear hc hf hx hb1
    have hLd : Laid wc.drew := hLc.below (drew_below _)
    have hS0 := hide (both (box_keep hB (drew_below wc)) (box_keep hC (drew_below wc)))
    have hN := fun w => neq_inst w f x1 x2 x3 x4 x5 x6 x7 x8 x9 x10 f rd rn rm ra im kd bs st cd rg
    cases hq : same f x1 x2 x3 x4 x5 x6 x7 x8 x9 x10 f rd rn rm ra im kd bs st cd rg
    · simp only [hq, Bool.not_false] at hN
      go_wp2_with fail
      obtain ⟨c1_0, c1_1, c1_2, c1_3, c1_4, c1_5, c1_6, c1_7, c1_8, c1_9, c1_10, c1_11, c1_12, c1_13, c1_14, c1_15, c1_16, c1_17, c1_18, c1_19, c1_20, c1_21⟩ := unhide hS0
      go_region_with (first
        | (go_at_call 18; refine (Right_any _ _ _ _ _ _ _ _ _ _ _ _ hLd).mono ?_; rintro e w2 ⟨rfl, hb2⟩; obtain ⟨c2_0, c2_1, c2_2, c2_3, c2_4, c2_5, c2_6, c2_7, c2_8, c2_9, c2_10, c2_11, c2_12, c2_13, c2_14, c2_15, c2_16, c2_17, c2_18, c2_19, c2_20, c2_21⟩ := both (box_keep hB (next (drew_below wc) hb2)) (box_keep hC (next (drew_below wc) hb2)))
        | (go_at_call 19; refine (of_any _ _ _ _ _ _ _ _ _ _ _ _ ).mono ?_; rintro e w3 ⟨rfl, hb3⟩; obtain ⟨c3_0, c3_1, c3_2, c3_3, c3_4, c3_5, c3_6, c3_7, c3_8, c3_9, c3_10, c3_11, c3_12, c3_13, c3_14, c3_15, c3_16, c3_17, c3_18, c3_19, c3_20, c3_21⟩ := both (box_keep hB (next (next (drew_below wc) hb2) hb3)) (box_keep hC (next (next (drew_below wc) hb2) hb3)))
        | (go_at_call 20; refine (refRight_any _ _ _ _ _ _ _ _ _ _ _ _ ).mono ?_; rintro e w4 ⟨rfl, hb4⟩; obtain ⟨c4_0, c4_1, c4_2, c4_3, c4_4, c4_5, c4_6, c4_7, c4_8, c4_9, c4_10, c4_11, c4_12, c4_13, c4_14, c4_15, c4_16, c4_17, c4_18, c4_19, c4_20, c4_21⟩ := both (box_keep hB (next (next (next (drew_below wc) hb2) hb3) hb4)) (box_keep hC (next (next (next (drew_below wc) hb2) hb3) hb4))))
      all_goals
        go_wp2_with fail
        go_ret
        exact ⟨rfl, hbc.trans ((next (next (next (drew_below wc) hb2) hb3) hb4).mono hbc.size)⟩
    · simp only [hq, Bool.not_true] at hN
      obtain ⟨_, e1, e2, e3, e4, e5, e6, e7, e8, e9, e10⟩ := same_eq hq
      cases e1.symm; cases e2.symm; cases e3.symm; cases e4.symm; cases e5.symm; cases e6.symm; cases e7.symm; cases e8.symm; cases e9.symm; cases e10.symm
      clear hq
      go_wp2_with fail
      go_region_held3 (fun w' => w'.cell? ⟨w.heap.size, 0, none⟩ = some (.int .i64 f) ∧ w'.cell? ⟨w.heap.size, 1, none⟩ = some (.int .i64 rd) ∧ w'.cell? ⟨w.heap.size, 2, none⟩ = some (.int .i64 rn) ∧ w'.cell? ⟨w.heap.size, 3, none⟩ = some (.int .i64 rm) ∧ w'.cell? ⟨w.heap.size, 4, none⟩ = some (.int .i64 ra) ∧ w'.cell? ⟨w.heap.size, 5, none⟩ = some (.int .i64 im) ∧ w'.cell? ⟨w.heap.size, 6, none⟩ = some (.int .i64 kd) ∧ w'.cell? ⟨w.heap.size, 7, none⟩ = some (.int .i64 bs) ∧ w'.cell? ⟨w.heap.size, 8, none⟩ = some (.int .i64 st) ∧ w'.cell? ⟨w.heap.size, 9, none⟩ = some (.int .i64 cd) ∧ w'.cell? ⟨w.heap.size, 10, none⟩ = some (.int .i64 rg) ∧ w'.cell? ⟨w1.heap.size, 0, none⟩ = some (.int .i64 f) ∧ w'.cell? ⟨w1.heap.size, 1, none⟩ = some (.int .i64 rd) ∧ w'.cell? ⟨w1.heap.size, 2, none⟩ = some (.int .i64 rn) ∧ w'.cell? ⟨w1.heap.size, 3, none⟩ = some (.int .i64 rm) ∧ w'.cell? ⟨w1.heap.size, 4, none⟩ = some (.int .i64 ra) ∧ w'.cell? ⟨w1.heap.size, 5, none⟩ = some (.int .i64 im) ∧ w'.cell? ⟨w1.heap.size, 6, none⟩ = some (.int .i64 kd) ∧ w'.cell? ⟨w1.heap.size, 7, none⟩ = some (.int .i64 bs) ∧ w'.cell? ⟨w1.heap.size, 8, none⟩ = some (.int .i64 st) ∧ w'.cell? ⟨w1.heap.size, 9, none⟩ = some (.int .i64 cd) ∧ w'.cell? ⟨w1.heap.size, 10, none⟩ = some (.int .i64 rg)) (first
          | exact both (box_keep hB (next (next (next (next (next (drew_below wc) hb2) hb3) hb4) hb5) hb6)) (box_keep hC (next (next (next (next (next (drew_below wc) hb2) hb3) hb4) hb5) hb6))
          | exact both (box_keep hB (next (next (next (next (drew_below wc) hb2) hb3) hb4) hb5)) (box_keep hC (next (next (next (next (drew_below wc) hb2) hb3) hb4) hb5))
          | exact both (box_keep hB (next (next (next (drew_below wc) hb2) hb3) hb4)) (box_keep hC (next (next (next (drew_below wc) hb2) hb3) hb4))
          | exact both (box_keep hB (next (next (drew_below wc) hb2) hb3)) (box_keep hC (next (next (drew_below wc) hb2) hb3))
          | exact both (box_keep hB (next (drew_below wc) hb2)) (box_keep hC (next (drew_below wc) hb2))
          | exact unhide hS0) (first
        | (go_at_call 18; refine (Right_any _ _ _ _ _ _ _ _ _ _ _ _ (hLd.below (next (next (next hb2 hb3) hb4) hb5))).mono ?_; rintro e w6 ⟨rfl, hb6⟩)
        | (go_at_call 18; refine (Right_any _ _ _ _ _ _ _ _ _ _ _ _ (hLd.below (next (next hb2 hb3) hb4))).mono ?_; rintro e w5 ⟨rfl, hb5⟩)
        | (go_at_call 18; refine (Right_any _ _ _ _ _ _ _ _ _ _ _ _ hLd).mono ?_; rintro e w2 ⟨rfl, hb2⟩)
        | (go_at_call 19; refine (of_any _ _ _ _ _ _ _ _ _ _ _ _).mono ?_; rintro e w3 ⟨rfl, hb3⟩)
        | (go_at_call 20; refine (refRight_any _ _ _ _ _ _ _ _ _ _ _ _).mono ?_; rintro e w4 ⟨rfl, hb4⟩))
      all_goals
        go_wp2_with fail
        go_ret
        exact ⟨rfl, hbc.trans ((next (next (next (next (next (drew_below wc) hb2) hb3) hb4) hb5) hb6).mono hbc.size)⟩

end Go.Proofs.YtpenfolhaiiidaaDoor.Inst
