/- What the document's read answers: a contract. -/
import Derived.Test.YtjcoihbhgedgiaaDoorCodeRefs
import Derived.Test.YtjcoihbhgedgiaaDoorCodeRead
import Derived.Great.BuildSlice
import Derived.Laws.CopyOwn
set_option linter.unusedVariables false
set_option linter.unusedSimpArgs false
namespace Go.Proofs.YtjcoihbhgedgiaaDoor.Code
open Go.RowKit Go.Proofs.YtjcoihbhgedgiaaDoor.Alu Go.Proofs.YtjcoihbhgedgiaaDoor.Imm Go.Proofs.YtjcoihbhgedgiaaDoor.Inst

/-- The numbers that the entries of the table up to one gather out of a word. -/
def gat (l : List (List Int)) (W : Int) : Nat → Nat → Int
  | 0, _ => 0
  | k + 1, j => gat l W k j + (if (ent l k 0).toNat = j then bt W (ent l k 2) (ent l k 3) * pw (ent l k 1) else 0)
theorem hh_set {w X : World} {b2 i : Nat} {o : Obj} {v : Value} (hne : w.heap.size < b2) (h : X.heap[w.heap.size]? = some o) : (X.setCell ⟨b2, i, none⟩ v).heap[w.heap.size]? = some o := by
  rw [← h]
  exact ((Below.refl b2 X).setCell (p := ⟨b2, i, none⟩) (Nat.le_refl _) v).block _ hne
theorem stay {w : World} {b1 b2 k j : Nat} {v0 v1 v2 v3 u : Value} (h : b2 < b1) (hT : w.cell? ⟨b1, k * 4, none⟩ = some v0 ∧ w.cell? ⟨b1, k * 4 + 1, none⟩ = some v1 ∧ w.cell? ⟨b1, k * 4 + 2, none⟩ = some v2 ∧ w.cell? ⟨b1, k * 4 + 3, none⟩ = some v3) :
    (w.setCell ⟨b2, j, none⟩ u).cell? ⟨b1, k * 4, none⟩ = some v0 ∧ (w.setCell ⟨b2, j, none⟩ u).cell? ⟨b1, k * 4 + 1, none⟩ = some v1 ∧ (w.setCell ⟨b2, j, none⟩ u).cell? ⟨b1, k * 4 + 2, none⟩ = some v2 ∧ (w.setCell ⟨b2, j, none⟩ u).cell? ⟨b1, k * 4 + 3, none⟩ = some v3 := by
  obtain ⟨h0, h1, h2, h3⟩ := hT
  have f : ∀ o, (w.setCell ⟨b2, j, none⟩ u).cell? ⟨b1, o, none⟩ = w.cell? ⟨b1, o, none⟩ := fun o => World.cell?_setCell_far _ _ _ _ (by show b2 ≠ b1; omega)
  exact ⟨(f _).trans h0, (f _).trans h1, (f _).trans h2, (f _).trans h3⟩
theorem prod_bd {W a1 a2 a3 : Int} (h1 : 0 ≤ a1 ∧ a1 ≤ 24) (h3 : 0 ≤ a3 ∧ a3 ≤ 12) : 0 ≤ bt W a2 a3 * pw a1 ∧ bt W a2 a3 * pw a1 ≤ 68719476736 := by
  have b := bt_bd W a2 a3
  have c := pw_le a3 h3.1 h3.2
  have d := pw_pos a1
  have e : pw a1 ≤ 16777216 := by
    have h : (2 : Nat) ^ a1.toNat ≤ 2 ^ 24 := Nat.pow_le_pow_right (by decide) (by omega)
    have e : pw a1 = ((2 ^ a1.toNat : Nat) : Int) := by unfold pw; simp
    rw [e]; omega
  refine ⟨Int.mul_nonneg b.1 (by omega), ?_⟩
  have := Int.mul_le_mul (show bt W a2 a3 ≤ 4096 by omega) e (by omega) (by decide)
  omega
theorem gat_bd (l : List (List Int)) (W : Int) (j : Nat) : ∀ k : Nat, (∀ i, i < k → (0 ≤ ent l i 1 ∧ ent l i 1 ≤ 24) ∧ (0 ≤ ent l i 3 ∧ ent l i 3 ≤ 12)) → 0 ≤ gat l W k j ∧ gat l W k j ≤ k * 68719476736
  | 0, _ => ⟨Int.le_refl 0, Int.le_refl 0⟩
  | k + 1, h => by
    have ih := gat_bd l W j k (fun i hi => h i (by omega))
    have p := prod_bd (W := W) (a2 := ent l k 2) (h k (by omega)).1 (h k (by omega)).2
    show 0 ≤ gat l W k j + (if (ent l k 0).toNat = j then bt W (ent l k 2) (ent l k 3) * pw (ent l k 1) else 0) ∧ gat l W k j + (if (ent l k 0).toNat = j then bt W (ent l k 2) (ent l k 3) * pw (ent l k 1) else 0) ≤ _
    generalize bt W (ent l k 2) (ent l k 3) * pw (ent l k 1) = q at *
    split <;> omega
def v4 (s f y : Int) : Int := if s = 15 then lst y 256 else if s = 16 then lst y 2048 else if s = 33 then lst y 1048576 else if s = 34 then lst (tn y) 16777216 else if s = 1 ∧ 1 < f ∧ y = 0 then 32 else y
def v6 (s y5 y6 : Int) : Int := if (21 ≤ s ∧ s ≤ 23) ∧ y6 = 0 ∧ (y5 = 1 ∨ y5 = 2) then 32 else y6
def v2 (s W y : Int) : Int := if s = 32 then bt W 0 4 else y
/-- What the document does with the numbers that it has gathered. -/
def fxs (s f W : Int) (x : Nat → Int) (j : Nat) : Int := if j = 4 then v4 s f (x 4) else if j = 6 then v6 s (x 5) (x 6) else if j = 2 then v2 s W (x 2) else x j
theorem gat4_15 (W : Int) (h0 : 0 ≤ W) : gat (fl 15) W (fl 15).length 4 = W % 256 * 2 := by
  show ((0 + 0) + bt W 0 8 * pw 1) = _
  rw [bt_at W h0 (by decide : pw 0 = 1) (by decide : pw 8 = 256), show pw 1 = 2 from by decide]
  omega
theorem gat4_16 (W : Int) (h0 : 0 ≤ W) : gat (fl 16) W (fl 16).length 4 = W % 2048 * 2 := by
  show (0 + bt W 0 11 * pw 1) = _
  rw [bt_at W h0 (by decide : pw 0 = 1) (by decide : pw 11 = 2048), show pw 1 = 2 from by decide]
  omega
theorem gat4_33 (W : Int) (h0 : 0 ≤ W) : gat (fl 33) W (fl 33).length 4 = W / 67108864 % 2 * 1048576 + W / 65536 % 64 * 4096 + W / 8192 % 2 * 262144 + W / 2048 % 2 * 524288 + W % 2048 * 2 := by
  show ((((((0 + bt W 26 1 * pw 20) + 0) + bt W 16 6 * pw 12) + bt W 13 1 * pw 18) + bt W 11 1 * pw 19) + bt W 0 11 * pw 1) = _
  rw [bt_at W h0 (by decide : pw 26 = 67108864) (by decide : pw 1 = 2), bt_at W h0 (by decide : pw 16 = 65536) (by decide : pw 6 = 64), bt_at W h0 (by decide : pw 13 = 8192) (by decide : pw 1 = 2), bt_at W h0 (by decide : pw 11 = 2048) (by decide : pw 1 = 2), bt_at W h0 (by decide : pw 0 = 1) (by decide : pw 11 = 2048), show pw 20 = 1048576 from by decide, show pw 12 = 4096 from by decide, show pw 18 = 262144 from by decide, show pw 19 = 524288 from by decide, show pw 1 = 2 from by decide]
  omega
theorem gat4_34 (W : Int) (h0 : 0 ≤ W) : gat (fl 34) W (fl 34).length 4 = W / 67108864 % 2 * 16777216 + W / 65536 % 1024 * 4096 + W / 8192 % 2 * 8388608 + W / 2048 % 2 * 4194304 + W % 2048 * 2 := by
  show (((((0 + bt W 26 1 * pw 24) + bt W 16 10 * pw 12) + bt W 13 1 * pw 23) + bt W 11 1 * pw 22) + bt W 0 11 * pw 1) = _
  rw [bt_at W h0 (by decide : pw 26 = 67108864) (by decide : pw 1 = 2), bt_at W h0 (by decide : pw 16 = 65536) (by decide : pw 10 = 1024), bt_at W h0 (by decide : pw 13 = 8192) (by decide : pw 1 = 2), bt_at W h0 (by decide : pw 11 = 2048) (by decide : pw 1 = 2), bt_at W h0 (by decide : pw 0 = 1) (by decide : pw 11 = 2048), show pw 24 = 16777216 from by decide, show pw 12 = 4096 from by decide, show pw 23 = 8388608 from by decide, show pw 22 = 4194304 from by decide, show pw 1 = 2 from by decide]
  omega
theorem gat4 (W : Int) (h0 : 0 ≤ W) (s : Int) (h : s = 15 ∨ s = 16 ∨ s = 33 ∨ s = 34) : 0 ≤ gat (fl s) W (fl s).length 4 ∧ gat (fl s) W (fl s).length 4 ≤ 33554431 := by
  rcases h with rfl | rfl | rfl | rfl
  · rw [gat4_15 W h0]; omega
  · rw [gat4_16 W h0]; omega
  · rw [gat4_33 W h0]; omega
  · rw [gat4_34 W h0]; omega
/-- Ten numbers lie in a block. -/
def Ten (w : World) (b : Nat) (x : Nat → Int) : Prop := ∀ j : Nat, j ≤ 9 → w.cell? ⟨b, j, none⟩ = some (.int .i64 (x j)) ∧ w.frozen? ⟨b, j, none⟩ = false
theorem ten_step {wr : World} {b A : Nat} {x y : Nat → Int} {v : Int} (h : Ten wr b x) (hA : A ≤ 9) (hy : ∀ j, y j = if A = j then v else x j) : Ten (wr.setCell ⟨b, A, none⟩ (.int .i64 v)) b y := fun j hj => by
  have hf : (wr.setCell ⟨b, A, none⟩ (.int .i64 v)).frozen? ⟨b, j, none⟩ = wr.frozen? ⟨b, j, none⟩ := World.frozen?_setCell _ _ _ _
  refine ⟨?_, hf.trans (h j hj).2⟩
  rw [hy j]
  by_cases e : A = j
  · subst e; rw [if_pos rfl]; exact World.cell?_setCell_same wr _ _ (h A hA).1
  · rw [if_neg e, World.cell?_setCell_other wr _ _ _ (by intro q; injection q with _ q2 _; exact e q2)]; exact (h j hj).1
theorem tab_set {wr : World} {b1 b2 A : Nat} {l : List (List Int)} {v : Value} (h : Tab wr b1 l) (h12 : b2 < b1) : Tab (wr.setCell ⟨b2, A, none⟩ v) b1 l := fun k j hk hj => by
  rw [World.cell?_setCell_far _ _ _ _ (by show b2 ≠ b1; omega)]; exact h k j hk hj
theorem Ten.below {w w' : World} {b : Nat} {x : Nat → Int} (h : Ten w b x) (hl : b < w.heap.size) (hb : Below w.heap.size w w') : Ten w' b x := fun j hj =>
  ⟨((bcell hb).1 b j hl).trans (h j hj).1, ((bcell hb).2 b j hl).trans (h j hj).2⟩


set_option maxRecDepth 100000 in
set_option maxHeartbeats 4000000 in
theorem read_x (f W : Int) (i0 : 1 ≤ f) (i1 : f ≤ 100) (h0 : 0 ≤ W) (h1 : W < 4294967296) (hs13 : shp f ≠ 13) (w : World) :
    Calls Tryd.prog 36 #[.int .i64 f, .int .i64 W] w fun e w' => e = .returned (.agg #[.int .i64 f, .int .i64 (fxs (shp f) f W (gat (fl (shp f)) W (fl (shp f)).length) 0), .int .i64 (fxs (shp f) f W (gat (fl (shp f)) W (fl (shp f)).length) 1), .int .i64 (fxs (shp f) f W (gat (fl (shp f)) W (fl (shp f)).length) 2), .int .i64 (fxs (shp f) f W (gat (fl (shp f)) W (fl (shp f)).length) 3), .int .i64 (fxs (shp f) f W (gat (fl (shp f)) W (fl (shp f)).length) 4), .int .i64 (fxs (shp f) f W (gat (fl (shp f)) W (fl (shp f)).length) 5), .int .i64 (fxs (shp f) f W (gat (fl (shp f)) W (fl (shp f)).length) 6), .int .i64 (fxs (shp f) f W (gat (fl (shp f)) W (fl (shp f)).length) 7), .int .i64 (fxs (shp f) f W (gat (fl (shp f)) W (fl (shp f)).length) 8), .int .i64 (fxs (shp f) f W (gat (fl (shp f)) W (fl (shp f)).length) 9)]) ∧ Below w.heap.size w w' := by
  have hsb := shp_yes (isF_yes ⟨i0, i1⟩)
  have hB0 := (Below.refl w.heap.size w).alloc (Nat.le_refl _) (.cells #[.int .i64 0, .int .i64 0, .int .i64 0, .int .i64 0, .int .i64 0, .int .i64 0, .int .i64 0, .int .i64 0, .int .i64 0, .int .i64 0, .int .i64 0] 34)
  have HE := hide (fun k (hk : k < (fl (shp f)).length) => ent_bd (shp f) (shp_bd f).1 (shp_bd f).2 k hk)
  have hn7 := len_bd (shp f) (shp_bd f).1 (shp_bd f).2
  go_enter Tryd.func36, Tryd.ntmps36
  go_wp2_with fail
  refine (refShape_any _ _).mono ?_
  rintro e w1 ⟨rfl, hb1⟩
  go_wp2_with fail
  refine (fields_any _ hsb.1 hsb.2.1 hs13 _).mono ?_
  rintro e w3 ⟨rfl, hT, hz, hb4⟩
  go_wp2_with fail
  have hX0 : Ten w3 w1.heap.size (fun _ => 0) := by
    intro j hj
    have q := bcell hb4
    refine ⟨(q.1 w1.heap.size j (by simp)).trans ?_, (q.2 w1.heap.size j (by simp)).trans ?_⟩
    · obtain rfl | rfl | rfl | rfl | rfl | rfl | rfl | rfl | rfl | rfl : j = 0 ∨ j = 1 ∨ j = 2 ∨ j = 3 ∨ j = 4 ∨ j = 5 ∨ j = 6 ∨ j = 7 ∨ j = 8 ∨ j = 9 := by omega
      all_goals exact World.cell?_alloc_mark w1 _ _ (0, 0) _
    · exact World.frozen?_alloc_at _ _ _ _ rfl
  have hT2 : Tab w3 (w1.heap.size + 1) (fl (shp f)) := by simpa using hT
  have hB3 : Below w1.heap.size w1 w3 := ((Below.refl w1.heap.size w1).alloc (Nat.le_refl _) _).trans (hb4.mono (by simp))
  have hz2 : w1.heap.size + 1 < w3.heap.size := by simpa using hz
  clear hT hz hb4
  have HGB : Hid ((shp f = 15 ∨ shp f = 16 ∨ shp f = 33 ∨ shp f = 34) → 0 ≤ gat (fl (shp f)) W (fl (shp f)).length 4 ∧ gat (fl (shp f)) W (fl (shp f)).length 4 ≤ 33554431) := fun h => gat4 W h0 _ h
  generalize hl : fl (shp f) = l at *
  have HL := hide hl
  clear hl
  obtain ⟨n, hn⟩ : ∃ n, n = l.length := ⟨_, rfl⟩
  simp only [← hn] at HE hn7 HGB ⊢
  have HLn := hide hn.symm
  clear hn
  obtain ⟨b2, hb2⟩ : ∃ b2, b2 = w1.heap.size := ⟨_, rfl⟩
  rw [← hb2] at hX0 hT2 hB3 hz2 ⊢
  obtain ⟨b1, hb1'⟩ : ∃ b1, b1 = b2 + 1 := ⟨_, rfl⟩
  rw [← hb1'] at hT2 hz2 ⊢
  have h12 : b2 < b1 := by omega
  have HB2 := hide hb2
  clear hb2 hb1'
  go_loopw [8] (fun i wr => ∃ k : Nat, k ≤ n ∧ i = .int .i64 k ∧ Ten wr b2 (gat l W k) ∧ Tab wr b1 l ∧ Below b2 w1 wr ∧ b1 < wr.heap.size) (fun i _ => n - (intOf i).toNat)
  case atStart => exact ⟨0, Nat.zero_le _, rfl, hX0, hT2, hB3, hz2⟩
  case round =>
    obtain ⟨k, hk, rfl, hX, hT, hBr, hzr⟩ := hrel
    by_cases hkn : k = n
    · subst hkn
      have hne : w.heap.size < b2 := by have := hb1.size; rw [unhide HB2]; simp at this; omega
      have hh : wr.heap[w.heap.size]? = some (.cells #[.int .i64 0, .int .i64 0, .int .i64 0, .int .i64 0, .int .i64 0, .int .i64 0, .int .i64 0, .int .i64 0, .int .i64 0, .int .i64 0, .int .i64 0] 34 (0, 0)) := (hBr.block _ hne).trans ((hb1.block _ (by simp)).trans (heap_alloc_new w _))
      have hBw : Below w.heap.size w wr := hB0.trans ((hb1.mono hB0.size).trans (hBr.mono (by omega)))
      have hgb4 := HGB.out
      obtain ⟨c0, d0⟩ := hX 0 (by decide)
      obtain ⟨c1, d1⟩ := hX 1 (by decide)
      obtain ⟨c2, d2⟩ := hX 2 (by decide)
      obtain ⟨c3, d3⟩ := hX 3 (by decide)
      obtain ⟨c4, d4⟩ := hX 4 (by decide)
      obtain ⟨c5, d5⟩ := hX 5 (by decide)
      obtain ⟨c6, d6⟩ := hX 6 (by decide)
      obtain ⟨c7, d7⟩ := hX 7 (by decide)
      obtain ⟨c8, d8⟩ := hX 8 (by decide)
      obtain ⟨c9, d9⟩ := hX 9 (by decide)
      have HQ : Hid (fxs (shp f) f W (gat (fl (shp f)) W (fl (shp f)).length) 0 = gat l W k 0 ∧ fxs (shp f) f W (gat (fl (shp f)) W (fl (shp f)).length) 1 = gat l W k 1 ∧ fxs (shp f) f W (gat (fl (shp f)) W (fl (shp f)).length) 2 = v2 (shp f) W (gat l W k 2) ∧ fxs (shp f) f W (gat (fl (shp f)) W (fl (shp f)).length) 3 = gat l W k 3 ∧ fxs (shp f) f W (gat (fl (shp f)) W (fl (shp f)).length) 4 = v4 (shp f) f (gat l W k 4) ∧ fxs (shp f) f W (gat (fl (shp f)) W (fl (shp f)).length) 5 = gat l W k 5 ∧ fxs (shp f) f W (gat (fl (shp f)) W (fl (shp f)).length) 6 = v6 (shp f) (gat l W k 5) (gat l W k 6) ∧ fxs (shp f) f W (gat (fl (shp f)) W (fl (shp f)).length) 7 = gat l W k 7 ∧ fxs (shp f) f W (gat (fl (shp f)) W (fl (shp f)).length) 8 = gat l W k 8 ∧ fxs (shp f) f W (gat (fl (shp f)) W (fl (shp f)).length) 9 = gat l W k 9) := by
        rw [unhide HL, unhide HLn]; exact ⟨rfl, rfl, rfl, rfl, rfl, rfl, rfl, rfl, rfl, rfl⟩
      generalize gat l W k 0 = y0 at *
      generalize gat l W k 1 = y1 at *
      generalize gat l W k 2 = y2 at *
      generalize gat l W k 3 = y3 at *
      generalize gat l W k 4 = y4 at *
      generalize gat l W k 5 = y5 at *
      generalize gat l W k 6 = y6 at *
      generalize gat l W k 7 = y7 at *
      generalize gat l W k 8 = y8 at *
      generalize gat l W k 9 = y9 at *
      clear hX hT
      have hs1 := hsb.1
      have hs2 := hsb.2.1
      clear hsb HL HE HLn HGB hT2 hX0 hb1 HB2 hB3 hz2 hB0 hzr h12 hk hn7
      by_cases s15 : shp f = 15
      · have hy4 := hgb4 (.inl s15)
        clear hgb4
        go_wp2_with fail
        refine (least_any _ _ 256 (by omega) (by omega) (by omega) (by omega) (by decide) (by decide) _).mono ?_
        rintro e w5 ⟨rfl, hb5⟩
        have xz : b2 < wr.heap.size := cell_lt c0
        have x0 : w5.cell? ⟨b2, 0, none⟩ = some (.int .i64 y0) := ((bcell hb5).1 b2 0 xz).trans c0
        have x1 : w5.cell? ⟨b2, 1, none⟩ = some (.int .i64 y1) := ((bcell hb5).1 b2 1 xz).trans c1
        have x2 : w5.cell? ⟨b2, 2, none⟩ = some (.int .i64 y2) := ((bcell hb5).1 b2 2 xz).trans c2
        have x3 : w5.cell? ⟨b2, 3, none⟩ = some (.int .i64 y3) := ((bcell hb5).1 b2 3 xz).trans c3
        have x4 : w5.cell? ⟨b2, 4, none⟩ = some (.int .i64 y4) := ((bcell hb5).1 b2 4 xz).trans c4
        have x5 : w5.cell? ⟨b2, 5, none⟩ = some (.int .i64 y5) := ((bcell hb5).1 b2 5 xz).trans c5
        have x6 : w5.cell? ⟨b2, 6, none⟩ = some (.int .i64 y6) := ((bcell hb5).1 b2 6 xz).trans c6
        have x7 : w5.cell? ⟨b2, 7, none⟩ = some (.int .i64 y7) := ((bcell hb5).1 b2 7 xz).trans c7
        have x8 : w5.cell? ⟨b2, 8, none⟩ = some (.int .i64 y8) := ((bcell hb5).1 b2 8 xz).trans c8
        have x9 : w5.cell? ⟨b2, 9, none⟩ = some (.int .i64 y9) := ((bcell hb5).1 b2 9 xz).trans c9
        have xd4 : w5.frozen? ⟨b2, 4, none⟩ = false := ((bcell hb5).2 b2 4 xz).trans d4
        have xh : w5.heap[w.heap.size]? = some (.cells #[.int .i64 0, .int .i64 0, .int .i64 0, .int .i64 0, .int .i64 0, .int .i64 0, .int .i64 0, .int .i64 0, .int .i64 0, .int .i64 0, .int .i64 0] 34 (0, 0)) := (hb5.block _ (by omega)).trans hh
        have xB : Below w.heap.size w w5 := hBw.trans (hb5.mono hBw.size)
        clear hh c0 c1 c2 c3 c4 c5 c6 c7 c8 c9 d0 d1 d2 d3 d4 d5 d6 d7 d8 d9 hBr
        go_upto_region 22 with fail
        have hhE : (w5.setCell ⟨b2, 4, none⟩ (.int .i64 (lst y4 256))).heap[w.heap.size]? = some (.cells #[.int .i64 0, .int .i64 0, .int .i64 0, .int .i64 0, .int .i64 0, .int .i64 0, .int .i64 0, .int .i64 0, .int .i64 0, .int .i64 0, .int .i64 0] 34 (0, 0)) := hh_set hne xh
        have hBE : Below w.heap.size w (w5.setCell ⟨b2, 4, none⟩ (.int .i64 (lst y4 256))) := xB.setCell (p := ⟨b2, 4, none⟩) (by show w.heap.size ≤ b2; omega) _
        have e4 : v4 (shp f) f y4 = lst y4 256 := by unfold v4; rw [if_pos s15]
        have e6 : v6 (shp f) y5 y6 = y6 := by unfold v6; rw [if_neg (by omega)]
        have e2 : v2 (shp f) W y2 = y2 := by unfold v2; rw [if_neg (by omega)]
        have HEE := hide (And.intro e4 (And.intro e6 e2))
        clear e4 e6 e2
        go_wp2_with (first | (refine wpList_buildTo rfl 34 _ rfl _ rfl #[.int .i64 f, .int .i64 y0, .int .i64 y1, .int .i64 y2, .int .i64 y3, .int .i64 (lst y4 256), .int .i64 y5, .int .i64 y6, .int .i64 y7, .int .i64 y8, .int .i64 y9] (by kernel_rfl) ?_) | refine wpList_store_rowTo rfl 34 _ _ rfl rfl w.heap.size #[.int .i64 f, .int .i64 y0, .int .i64 y1, .int .i64 y2, .int .i64 y3, .int .i64 (lst y4 256), .int .i64 y5, .int .i64 y6, .int .i64 y7, .int .i64 y8, .int .i64 y9] rfl rfl 34 #[.int .i64 0, .int .i64 0, .int .i64 0, .int .i64 0, .int .i64 0, .int .i64 0, .int .i64 0, .int .i64 0, .int .i64 0, .int .i64 0, .int .i64 0] hhE (by kernel_rfl) (by kernel_rfl) (by kernel_rfl) ?_)
        have hr : ∀ j, ((w5.setCell ⟨b2, 4, none⟩ (.int .i64 (lst y4 256))).setRow w.heap.size #[.int .i64 f, .int .i64 y0, .int .i64 y1, .int .i64 y2, .int .i64 y3, .int .i64 (lst y4 256), .int .i64 y5, .int .i64 y6, .int .i64 y7, .int .i64 y8, .int .i64 y9]).cell? ⟨w.heap.size, j, none⟩ = #[.int .i64 f, .int .i64 y0, .int .i64 y1, .int .i64 y2, .int .i64 y3, .int .i64 (lst y4 256), .int .i64 y5, .int .i64 y6, .int .i64 y7, .int .i64 y8, .int .i64 y9][j]? := fun j => cell_setRow_same _ _ _ _ _ _ _ hhE
        exact bodyPost_ret (v := (.agg #[.int .i64 f, .int .i64 y0, .int .i64 y1, .int .i64 y2, .int .i64 y3, .int .i64 (lst y4 256), .int .i64 y5, .int .i64 y6, .int .i64 y7, .int .i64 y8, .int .i64 y9])) (by simp [results, Tryd.results36, go_sem, hr]) rfl ⟨by
          obtain ⟨q0, q1, q2, q3, q4, q5, q6, q7, q8, q9⟩ := HQ.out
          obtain ⟨e4, e6, e2⟩ := unhide HEE
          rw [q0, q1, q2, q3, q4, q5, q6, q7, q8, q9, e4, e6, e2], below_setRow hBE (Nat.le_refl _) _⟩
      · by_cases s16 : shp f = 16
        · have hy4 := hgb4 (.inr (.inl s16))
          clear hgb4
          go_wp2_with fail
          refine (least_any _ _ 2048 (by omega) (by omega) (by omega) (by omega) (by decide) (by decide) _).mono ?_
          rintro e w5 ⟨rfl, hb5⟩
          have xz : b2 < wr.heap.size := cell_lt c0
          have x0 : w5.cell? ⟨b2, 0, none⟩ = some (.int .i64 y0) := ((bcell hb5).1 b2 0 xz).trans c0
          have x1 : w5.cell? ⟨b2, 1, none⟩ = some (.int .i64 y1) := ((bcell hb5).1 b2 1 xz).trans c1
          have x2 : w5.cell? ⟨b2, 2, none⟩ = some (.int .i64 y2) := ((bcell hb5).1 b2 2 xz).trans c2
          have x3 : w5.cell? ⟨b2, 3, none⟩ = some (.int .i64 y3) := ((bcell hb5).1 b2 3 xz).trans c3
          have x4 : w5.cell? ⟨b2, 4, none⟩ = some (.int .i64 y4) := ((bcell hb5).1 b2 4 xz).trans c4
          have x5 : w5.cell? ⟨b2, 5, none⟩ = some (.int .i64 y5) := ((bcell hb5).1 b2 5 xz).trans c5
          have x6 : w5.cell? ⟨b2, 6, none⟩ = some (.int .i64 y6) := ((bcell hb5).1 b2 6 xz).trans c6
          have x7 : w5.cell? ⟨b2, 7, none⟩ = some (.int .i64 y7) := ((bcell hb5).1 b2 7 xz).trans c7
          have x8 : w5.cell? ⟨b2, 8, none⟩ = some (.int .i64 y8) := ((bcell hb5).1 b2 8 xz).trans c8
          have x9 : w5.cell? ⟨b2, 9, none⟩ = some (.int .i64 y9) := ((bcell hb5).1 b2 9 xz).trans c9
          have xd4 : w5.frozen? ⟨b2, 4, none⟩ = false := ((bcell hb5).2 b2 4 xz).trans d4
          have xh : w5.heap[w.heap.size]? = some (.cells #[.int .i64 0, .int .i64 0, .int .i64 0, .int .i64 0, .int .i64 0, .int .i64 0, .int .i64 0, .int .i64 0, .int .i64 0, .int .i64 0, .int .i64 0] 34 (0, 0)) := (hb5.block _ (by omega)).trans hh
          have xB : Below w.heap.size w w5 := hBw.trans (hb5.mono hBw.size)
          clear hh c0 c1 c2 c3 c4 c5 c6 c7 c8 c9 d0 d1 d2 d3 d4 d5 d6 d7 d8 d9 hBr
          go_upto_region 22 with fail
          have hhE : (w5.setCell ⟨b2, 4, none⟩ (.int .i64 (lst y4 2048))).heap[w.heap.size]? = some (.cells #[.int .i64 0, .int .i64 0, .int .i64 0, .int .i64 0, .int .i64 0, .int .i64 0, .int .i64 0, .int .i64 0, .int .i64 0, .int .i64 0, .int .i64 0] 34 (0, 0)) := hh_set hne xh
          have hBE : Below w.heap.size w (w5.setCell ⟨b2, 4, none⟩ (.int .i64 (lst y4 2048))) := xB.setCell (p := ⟨b2, 4, none⟩) (by show w.heap.size ≤ b2; omega) _
          have e4 : v4 (shp f) f y4 = lst y4 2048 := by unfold v4; rw [if_neg (by omega), if_pos s16]
          have e6 : v6 (shp f) y5 y6 = y6 := by unfold v6; rw [if_neg (by omega)]
          have e2 : v2 (shp f) W y2 = y2 := by unfold v2; rw [if_neg (by omega)]
          have HEE := hide (And.intro e4 (And.intro e6 e2))
          clear e4 e6 e2
          go_wp2_with (first | (refine wpList_buildTo rfl 34 _ rfl _ rfl #[.int .i64 f, .int .i64 y0, .int .i64 y1, .int .i64 y2, .int .i64 y3, .int .i64 (lst y4 2048), .int .i64 y5, .int .i64 y6, .int .i64 y7, .int .i64 y8, .int .i64 y9] (by kernel_rfl) ?_) | refine wpList_store_rowTo rfl 34 _ _ rfl rfl w.heap.size #[.int .i64 f, .int .i64 y0, .int .i64 y1, .int .i64 y2, .int .i64 y3, .int .i64 (lst y4 2048), .int .i64 y5, .int .i64 y6, .int .i64 y7, .int .i64 y8, .int .i64 y9] rfl rfl 34 #[.int .i64 0, .int .i64 0, .int .i64 0, .int .i64 0, .int .i64 0, .int .i64 0, .int .i64 0, .int .i64 0, .int .i64 0, .int .i64 0, .int .i64 0] hhE (by kernel_rfl) (by kernel_rfl) (by kernel_rfl) ?_)
          have hr : ∀ j, ((w5.setCell ⟨b2, 4, none⟩ (.int .i64 (lst y4 2048))).setRow w.heap.size #[.int .i64 f, .int .i64 y0, .int .i64 y1, .int .i64 y2, .int .i64 y3, .int .i64 (lst y4 2048), .int .i64 y5, .int .i64 y6, .int .i64 y7, .int .i64 y8, .int .i64 y9]).cell? ⟨w.heap.size, j, none⟩ = #[.int .i64 f, .int .i64 y0, .int .i64 y1, .int .i64 y2, .int .i64 y3, .int .i64 (lst y4 2048), .int .i64 y5, .int .i64 y6, .int .i64 y7, .int .i64 y8, .int .i64 y9][j]? := fun j => cell_setRow_same _ _ _ _ _ _ _ hhE
          exact bodyPost_ret (v := (.agg #[.int .i64 f, .int .i64 y0, .int .i64 y1, .int .i64 y2, .int .i64 y3, .int .i64 (lst y4 2048), .int .i64 y5, .int .i64 y6, .int .i64 y7, .int .i64 y8, .int .i64 y9])) (by simp [results, Tryd.results36, go_sem, hr]) rfl ⟨by
            obtain ⟨q0, q1, q2, q3, q4, q5, q6, q7, q8, q9⟩ := HQ.out
            obtain ⟨e4, e6, e2⟩ := unhide HEE
            rw [q0, q1, q2, q3, q4, q5, q6, q7, q8, q9, e4, e6, e2], below_setRow hBE (Nat.le_refl _) _⟩
        · by_cases s33 : shp f = 33
          · have hy4 := hgb4 (.inr (.inr (.inl s33)))
            clear hgb4
            go_wp2_with fail
            refine (least_any _ _ 1048576 (by omega) (by omega) (by omega) (by omega) (by decide) (by decide) _).mono ?_
            rintro e w5 ⟨rfl, hb5⟩
            have xz : b2 < wr.heap.size := cell_lt c0
            have x0 : w5.cell? ⟨b2, 0, none⟩ = some (.int .i64 y0) := ((bcell hb5).1 b2 0 xz).trans c0
            have x1 : w5.cell? ⟨b2, 1, none⟩ = some (.int .i64 y1) := ((bcell hb5).1 b2 1 xz).trans c1
            have x2 : w5.cell? ⟨b2, 2, none⟩ = some (.int .i64 y2) := ((bcell hb5).1 b2 2 xz).trans c2
            have x3 : w5.cell? ⟨b2, 3, none⟩ = some (.int .i64 y3) := ((bcell hb5).1 b2 3 xz).trans c3
            have x4 : w5.cell? ⟨b2, 4, none⟩ = some (.int .i64 y4) := ((bcell hb5).1 b2 4 xz).trans c4
            have x5 : w5.cell? ⟨b2, 5, none⟩ = some (.int .i64 y5) := ((bcell hb5).1 b2 5 xz).trans c5
            have x6 : w5.cell? ⟨b2, 6, none⟩ = some (.int .i64 y6) := ((bcell hb5).1 b2 6 xz).trans c6
            have x7 : w5.cell? ⟨b2, 7, none⟩ = some (.int .i64 y7) := ((bcell hb5).1 b2 7 xz).trans c7
            have x8 : w5.cell? ⟨b2, 8, none⟩ = some (.int .i64 y8) := ((bcell hb5).1 b2 8 xz).trans c8
            have x9 : w5.cell? ⟨b2, 9, none⟩ = some (.int .i64 y9) := ((bcell hb5).1 b2 9 xz).trans c9
            have xd4 : w5.frozen? ⟨b2, 4, none⟩ = false := ((bcell hb5).2 b2 4 xz).trans d4
            have xh : w5.heap[w.heap.size]? = some (.cells #[.int .i64 0, .int .i64 0, .int .i64 0, .int .i64 0, .int .i64 0, .int .i64 0, .int .i64 0, .int .i64 0, .int .i64 0, .int .i64 0, .int .i64 0] 34 (0, 0)) := (hb5.block _ (by omega)).trans hh
            have xB : Below w.heap.size w w5 := hBw.trans (hb5.mono hBw.size)
            clear hh c0 c1 c2 c3 c4 c5 c6 c7 c8 c9 d0 d1 d2 d3 d4 d5 d6 d7 d8 d9 hBr
            go_upto_region 22 with fail
            have hhE : (w5.setCell ⟨b2, 4, none⟩ (.int .i64 (lst y4 1048576))).heap[w.heap.size]? = some (.cells #[.int .i64 0, .int .i64 0, .int .i64 0, .int .i64 0, .int .i64 0, .int .i64 0, .int .i64 0, .int .i64 0, .int .i64 0, .int .i64 0, .int .i64 0] 34 (0, 0)) := hh_set hne xh
            have hBE : Below w.heap.size w (w5.setCell ⟨b2, 4, none⟩ (.int .i64 (lst y4 1048576))) := xB.setCell (p := ⟨b2, 4, none⟩) (by show w.heap.size ≤ b2; omega) _
            have e4 : v4 (shp f) f y4 = lst y4 1048576 := by unfold v4; rw [if_neg (by omega), if_neg (by omega), if_pos s33]
            have e6 : v6 (shp f) y5 y6 = y6 := by unfold v6; rw [if_neg (by omega)]
            have e2 : v2 (shp f) W y2 = y2 := by unfold v2; rw [if_neg (by omega)]
            have HEE := hide (And.intro e4 (And.intro e6 e2))
            clear e4 e6 e2
            go_wp2_with (first | (refine wpList_buildTo rfl 34 _ rfl _ rfl #[.int .i64 f, .int .i64 y0, .int .i64 y1, .int .i64 y2, .int .i64 y3, .int .i64 (lst y4 1048576), .int .i64 y5, .int .i64 y6, .int .i64 y7, .int .i64 y8, .int .i64 y9] (by kernel_rfl) ?_) | refine wpList_store_rowTo rfl 34 _ _ rfl rfl w.heap.size #[.int .i64 f, .int .i64 y0, .int .i64 y1, .int .i64 y2, .int .i64 y3, .int .i64 (lst y4 1048576), .int .i64 y5, .int .i64 y6, .int .i64 y7, .int .i64 y8, .int .i64 y9] rfl rfl 34 #[.int .i64 0, .int .i64 0, .int .i64 0, .int .i64 0, .int .i64 0, .int .i64 0, .int .i64 0, .int .i64 0, .int .i64 0, .int .i64 0, .int .i64 0] hhE (by kernel_rfl) (by kernel_rfl) (by kernel_rfl) ?_)
            have hr : ∀ j, ((w5.setCell ⟨b2, 4, none⟩ (.int .i64 (lst y4 1048576))).setRow w.heap.size #[.int .i64 f, .int .i64 y0, .int .i64 y1, .int .i64 y2, .int .i64 y3, .int .i64 (lst y4 1048576), .int .i64 y5, .int .i64 y6, .int .i64 y7, .int .i64 y8, .int .i64 y9]).cell? ⟨w.heap.size, j, none⟩ = #[.int .i64 f, .int .i64 y0, .int .i64 y1, .int .i64 y2, .int .i64 y3, .int .i64 (lst y4 1048576), .int .i64 y5, .int .i64 y6, .int .i64 y7, .int .i64 y8, .int .i64 y9][j]? := fun j => cell_setRow_same _ _ _ _ _ _ _ hhE
            exact bodyPost_ret (v := (.agg #[.int .i64 f, .int .i64 y0, .int .i64 y1, .int .i64 y2, .int .i64 y3, .int .i64 (lst y4 1048576), .int .i64 y5, .int .i64 y6, .int .i64 y7, .int .i64 y8, .int .i64 y9])) (by simp [results, Tryd.results36, go_sem, hr]) rfl ⟨by
              obtain ⟨q0, q1, q2, q3, q4, q5, q6, q7, q8, q9⟩ := HQ.out
              obtain ⟨e4, e6, e2⟩ := unhide HEE
              rw [q0, q1, q2, q3, q4, q5, q6, q7, q8, q9, e4, e6, e2], below_setRow hBE (Nat.le_refl _) _⟩
          · by_cases s34 : shp f = 34
            · have hy4 := hgb4 (.inr (.inr (.inr s34)))
              clear hgb4
              have htn := tn_parts y4 hy4.1 hy4.2
              have htb : 0 ≤ tn y4 ∧ tn y4 ≤ 33554431 := ⟨htn.1, htn.2.1⟩
              clear htn
              go_wp2_with fail
              refine (turn_any _ hy4.1 hy4.2 _).mono ?_
              rintro e w5 ⟨rfl, hb5⟩
              have xz : b2 < wr.heap.size := cell_lt c0
              have x0 : w5.cell? ⟨b2, 0, none⟩ = some (.int .i64 y0) := ((bcell hb5).1 b2 0 xz).trans c0
              have x1 : w5.cell? ⟨b2, 1, none⟩ = some (.int .i64 y1) := ((bcell hb5).1 b2 1 xz).trans c1
              have x2 : w5.cell? ⟨b2, 2, none⟩ = some (.int .i64 y2) := ((bcell hb5).1 b2 2 xz).trans c2
              have x3 : w5.cell? ⟨b2, 3, none⟩ = some (.int .i64 y3) := ((bcell hb5).1 b2 3 xz).trans c3
              have x4 : w5.cell? ⟨b2, 4, none⟩ = some (.int .i64 y4) := ((bcell hb5).1 b2 4 xz).trans c4
              have x5 : w5.cell? ⟨b2, 5, none⟩ = some (.int .i64 y5) := ((bcell hb5).1 b2 5 xz).trans c5
              have x6 : w5.cell? ⟨b2, 6, none⟩ = some (.int .i64 y6) := ((bcell hb5).1 b2 6 xz).trans c6
              have x7 : w5.cell? ⟨b2, 7, none⟩ = some (.int .i64 y7) := ((bcell hb5).1 b2 7 xz).trans c7
              have x8 : w5.cell? ⟨b2, 8, none⟩ = some (.int .i64 y8) := ((bcell hb5).1 b2 8 xz).trans c8
              have x9 : w5.cell? ⟨b2, 9, none⟩ = some (.int .i64 y9) := ((bcell hb5).1 b2 9 xz).trans c9
              have xd4 : w5.frozen? ⟨b2, 4, none⟩ = false := ((bcell hb5).2 b2 4 xz).trans d4
              have xh : w5.heap[w.heap.size]? = some (.cells #[.int .i64 0, .int .i64 0, .int .i64 0, .int .i64 0, .int .i64 0, .int .i64 0, .int .i64 0, .int .i64 0, .int .i64 0, .int .i64 0, .int .i64 0] 34 (0, 0)) := (hb5.block _ (by omega)).trans hh
              have xB : Below w.heap.size w w5 := hBw.trans (hb5.mono hBw.size)
              clear hh c0 c1 c2 c3 c4 c5 c6 c7 c8 c9 d0 d1 d2 d3 d4 d5 d6 d7 d8 d9 hBr
              go_wp2_with fail
              refine (least_any _ _ 16777216 (by omega) (by omega) (by omega) (by omega) (by decide) (by decide) _).mono ?_
              rintro e w6 ⟨rfl, hb6⟩
              have zz : b2 < w5.heap.size := cell_lt x0
              have z0 : w6.cell? ⟨b2, 0, none⟩ = some (.int .i64 y0) := ((bcell hb6).1 b2 0 zz).trans x0
              have z1 : w6.cell? ⟨b2, 1, none⟩ = some (.int .i64 y1) := ((bcell hb6).1 b2 1 zz).trans x1
              have z2 : w6.cell? ⟨b2, 2, none⟩ = some (.int .i64 y2) := ((bcell hb6).1 b2 2 zz).trans x2
              have z3 : w6.cell? ⟨b2, 3, none⟩ = some (.int .i64 y3) := ((bcell hb6).1 b2 3 zz).trans x3
              have z4 : w6.cell? ⟨b2, 4, none⟩ = some (.int .i64 y4) := ((bcell hb6).1 b2 4 zz).trans x4
              have z5 : w6.cell? ⟨b2, 5, none⟩ = some (.int .i64 y5) := ((bcell hb6).1 b2 5 zz).trans x5
              have z6 : w6.cell? ⟨b2, 6, none⟩ = some (.int .i64 y6) := ((bcell hb6).1 b2 6 zz).trans x6
              have z7 : w6.cell? ⟨b2, 7, none⟩ = some (.int .i64 y7) := ((bcell hb6).1 b2 7 zz).trans x7
              have z8 : w6.cell? ⟨b2, 8, none⟩ = some (.int .i64 y8) := ((bcell hb6).1 b2 8 zz).trans x8
              have z9 : w6.cell? ⟨b2, 9, none⟩ = some (.int .i64 y9) := ((bcell hb6).1 b2 9 zz).trans x9
              have zd4 : w6.frozen? ⟨b2, 4, none⟩ = false := ((bcell hb6).2 b2 4 zz).trans xd4
              have zh : w6.heap[w.heap.size]? = some (.cells #[.int .i64 0, .int .i64 0, .int .i64 0, .int .i64 0, .int .i64 0, .int .i64 0, .int .i64 0, .int .i64 0, .int .i64 0, .int .i64 0, .int .i64 0] 34 (0, 0)) := (hb6.block _ (by omega)).trans xh
              have zB : Below w.heap.size w w6 := xB.trans (hb6.mono xB.size)
              clear xh x0 x1 x2 x3 x4 x5 x6 x7 x8 x9 xd4
              go_upto_region 22 with fail
              have hhE : (w6.setCell ⟨b2, 4, none⟩ (.int .i64 (lst (tn y4) 16777216))).heap[w.heap.size]? = some (.cells #[.int .i64 0, .int .i64 0, .int .i64 0, .int .i64 0, .int .i64 0, .int .i64 0, .int .i64 0, .int .i64 0, .int .i64 0, .int .i64 0, .int .i64 0] 34 (0, 0)) := hh_set hne zh
              have hBE : Below w.heap.size w (w6.setCell ⟨b2, 4, none⟩ (.int .i64 (lst (tn y4) 16777216))) := zB.setCell (p := ⟨b2, 4, none⟩) (by show w.heap.size ≤ b2; omega) _
              have e4 : v4 (shp f) f y4 = lst (tn y4) 16777216 := by unfold v4; rw [if_neg (by omega), if_neg (by omega), if_neg (by omega), if_pos s34]
              have e6 : v6 (shp f) y5 y6 = y6 := by unfold v6; rw [if_neg (by omega)]
              have e2 : v2 (shp f) W y2 = y2 := by unfold v2; rw [if_neg (by omega)]
              have HEE := hide (And.intro e4 (And.intro e6 e2))
              clear e4 e6 e2
              go_wp2_with (first | (refine wpList_buildTo rfl 34 _ rfl _ rfl #[.int .i64 f, .int .i64 y0, .int .i64 y1, .int .i64 y2, .int .i64 y3, .int .i64 (lst (tn y4) 16777216), .int .i64 y5, .int .i64 y6, .int .i64 y7, .int .i64 y8, .int .i64 y9] (by kernel_rfl) ?_) | refine wpList_store_rowTo rfl 34 _ _ rfl rfl w.heap.size #[.int .i64 f, .int .i64 y0, .int .i64 y1, .int .i64 y2, .int .i64 y3, .int .i64 (lst (tn y4) 16777216), .int .i64 y5, .int .i64 y6, .int .i64 y7, .int .i64 y8, .int .i64 y9] rfl rfl 34 #[.int .i64 0, .int .i64 0, .int .i64 0, .int .i64 0, .int .i64 0, .int .i64 0, .int .i64 0, .int .i64 0, .int .i64 0, .int .i64 0, .int .i64 0] hhE (by kernel_rfl) (by kernel_rfl) (by kernel_rfl) ?_)
              have hr : ∀ j, ((w6.setCell ⟨b2, 4, none⟩ (.int .i64 (lst (tn y4) 16777216))).setRow w.heap.size #[.int .i64 f, .int .i64 y0, .int .i64 y1, .int .i64 y2, .int .i64 y3, .int .i64 (lst (tn y4) 16777216), .int .i64 y5, .int .i64 y6, .int .i64 y7, .int .i64 y8, .int .i64 y9]).cell? ⟨w.heap.size, j, none⟩ = #[.int .i64 f, .int .i64 y0, .int .i64 y1, .int .i64 y2, .int .i64 y3, .int .i64 (lst (tn y4) 16777216), .int .i64 y5, .int .i64 y6, .int .i64 y7, .int .i64 y8, .int .i64 y9][j]? := fun j => cell_setRow_same _ _ _ _ _ _ _ hhE
              exact bodyPost_ret (v := (.agg #[.int .i64 f, .int .i64 y0, .int .i64 y1, .int .i64 y2, .int .i64 y3, .int .i64 (lst (tn y4) 16777216), .int .i64 y5, .int .i64 y6, .int .i64 y7, .int .i64 y8, .int .i64 y9])) (by simp [results, Tryd.results36, go_sem, hr]) rfl ⟨by
                obtain ⟨q0, q1, q2, q3, q4, q5, q6, q7, q8, q9⟩ := HQ.out
                obtain ⟨e4, e6, e2⟩ := unhide HEE
                rw [q0, q1, q2, q3, q4, q5, q6, q7, q8, q9, e4, e6, e2], below_setRow hBE (Nat.le_refl _) _⟩
            · clear hgb4
              by_cases s1 : shp f = 1
              · by_cases hf1 : f ≤ 1
                · go_upto_region 22 with fail
                  have hhE : (wr).heap[w.heap.size]? = some (.cells #[.int .i64 0, .int .i64 0, .int .i64 0, .int .i64 0, .int .i64 0, .int .i64 0, .int .i64 0, .int .i64 0, .int .i64 0, .int .i64 0, .int .i64 0] 34 (0, 0)) := hh
                  have hBE : Below w.heap.size w (wr) := hBw
                  have e4 : v4 (shp f) f y4 = y4 := by unfold v4; rw [if_neg (by omega), if_neg (by omega), if_neg (by omega), if_neg (by omega), if_neg (by omega)]
                  have e6 : v6 (shp f) y5 y6 = y6 := by unfold v6; rw [if_neg (by omega)]
                  have e2 : v2 (shp f) W y2 = y2 := by unfold v2; rw [if_neg (by omega)]
                  have HEE := hide (And.intro e4 (And.intro e6 e2))
                  clear e4 e6 e2
                  go_wp2_with (first | (refine wpList_buildTo rfl 34 _ rfl _ rfl #[.int .i64 f, .int .i64 y0, .int .i64 y1, .int .i64 y2, .int .i64 y3, .int .i64 y4, .int .i64 y5, .int .i64 y6, .int .i64 y7, .int .i64 y8, .int .i64 y9] (by kernel_rfl) ?_) | refine wpList_store_rowTo rfl 34 _ _ rfl rfl w.heap.size #[.int .i64 f, .int .i64 y0, .int .i64 y1, .int .i64 y2, .int .i64 y3, .int .i64 y4, .int .i64 y5, .int .i64 y6, .int .i64 y7, .int .i64 y8, .int .i64 y9] rfl rfl 34 #[.int .i64 0, .int .i64 0, .int .i64 0, .int .i64 0, .int .i64 0, .int .i64 0, .int .i64 0, .int .i64 0, .int .i64 0, .int .i64 0, .int .i64 0] hhE (by kernel_rfl) (by kernel_rfl) (by kernel_rfl) ?_)
                  have hr : ∀ j, ((wr).setRow w.heap.size #[.int .i64 f, .int .i64 y0, .int .i64 y1, .int .i64 y2, .int .i64 y3, .int .i64 y4, .int .i64 y5, .int .i64 y6, .int .i64 y7, .int .i64 y8, .int .i64 y9]).cell? ⟨w.heap.size, j, none⟩ = #[.int .i64 f, .int .i64 y0, .int .i64 y1, .int .i64 y2, .int .i64 y3, .int .i64 y4, .int .i64 y5, .int .i64 y6, .int .i64 y7, .int .i64 y8, .int .i64 y9][j]? := fun j => cell_setRow_same _ _ _ _ _ _ _ hhE
                  exact bodyPost_ret (v := (.agg #[.int .i64 f, .int .i64 y0, .int .i64 y1, .int .i64 y2, .int .i64 y3, .int .i64 y4, .int .i64 y5, .int .i64 y6, .int .i64 y7, .int .i64 y8, .int .i64 y9])) (by simp [results, Tryd.results36, go_sem, hr]) rfl ⟨by
                    obtain ⟨q0, q1, q2, q3, q4, q5, q6, q7, q8, q9⟩ := HQ.out
                    obtain ⟨e4, e6, e2⟩ := unhide HEE
                    simp only [s1] at q0 q1 q2 q3 q4 q5 q6 q7 q8 q9 e4 e6 e2
                    rw [q0, q1, q2, q3, q4, q5, q6, q7, q8, q9, e4, e6, e2], below_setRow hBE (Nat.le_refl _) _⟩
                · by_cases hyb : (y4 == 0) = true
                  · go_upto_region 22 with fail
                    have hhE : (wr.setCell ⟨b2, 4, none⟩ (.int .i64 32)).heap[w.heap.size]? = some (.cells #[.int .i64 0, .int .i64 0, .int .i64 0, .int .i64 0, .int .i64 0, .int .i64 0, .int .i64 0, .int .i64 0, .int .i64 0, .int .i64 0, .int .i64 0] 34 (0, 0)) := hh_set hne hh
                    have hBE : Below w.heap.size w (wr.setCell ⟨b2, 4, none⟩ (.int .i64 32)) := hBw.setCell (p := ⟨b2, 4, none⟩) (by show w.heap.size ≤ b2; omega) _
                    have e4 : v4 (shp f) f y4 = 32 := by unfold v4; have hy0 : y4 = 0 := (by simpa using hyb); rw [if_neg (by omega), if_neg (by omega), if_neg (by omega), if_neg (by omega), if_pos (by omega)]
                    have e6 : v6 (shp f) y5 y6 = y6 := by unfold v6; rw [if_neg (by omega)]
                    have e2 : v2 (shp f) W y2 = y2 := by unfold v2; rw [if_neg (by omega)]
                    have HEE := hide (And.intro e4 (And.intro e6 e2))
                    clear e4 e6 e2
                    go_wp2_with (first | (refine wpList_buildTo rfl 34 _ rfl _ rfl #[.int .i64 f, .int .i64 y0, .int .i64 y1, .int .i64 y2, .int .i64 y3, .int .i64 32, .int .i64 y5, .int .i64 y6, .int .i64 y7, .int .i64 y8, .int .i64 y9] (by kernel_rfl) ?_) | refine wpList_store_rowTo rfl 34 _ _ rfl rfl w.heap.size #[.int .i64 f, .int .i64 y0, .int .i64 y1, .int .i64 y2, .int .i64 y3, .int .i64 32, .int .i64 y5, .int .i64 y6, .int .i64 y7, .int .i64 y8, .int .i64 y9] rfl rfl 34 #[.int .i64 0, .int .i64 0, .int .i64 0, .int .i64 0, .int .i64 0, .int .i64 0, .int .i64 0, .int .i64 0, .int .i64 0, .int .i64 0, .int .i64 0] hhE (by kernel_rfl) (by kernel_rfl) (by kernel_rfl) ?_)
                    have hr : ∀ j, ((wr.setCell ⟨b2, 4, none⟩ (.int .i64 32)).setRow w.heap.size #[.int .i64 f, .int .i64 y0, .int .i64 y1, .int .i64 y2, .int .i64 y3, .int .i64 32, .int .i64 y5, .int .i64 y6, .int .i64 y7, .int .i64 y8, .int .i64 y9]).cell? ⟨w.heap.size, j, none⟩ = #[.int .i64 f, .int .i64 y0, .int .i64 y1, .int .i64 y2, .int .i64 y3, .int .i64 32, .int .i64 y5, .int .i64 y6, .int .i64 y7, .int .i64 y8, .int .i64 y9][j]? := fun j => cell_setRow_same _ _ _ _ _ _ _ hhE
                    exact bodyPost_ret (v := (.agg #[.int .i64 f, .int .i64 y0, .int .i64 y1, .int .i64 y2, .int .i64 y3, .int .i64 32, .int .i64 y5, .int .i64 y6, .int .i64 y7, .int .i64 y8, .int .i64 y9])) (by simp [results, Tryd.results36, go_sem, hr]) rfl ⟨by
                      obtain ⟨q0, q1, q2, q3, q4, q5, q6, q7, q8, q9⟩ := HQ.out
                      obtain ⟨e4, e6, e2⟩ := unhide HEE
                      simp only [s1] at q0 q1 q2 q3 q4 q5 q6 q7 q8 q9 e4 e6 e2
                      rw [q0, q1, q2, q3, q4, q5, q6, q7, q8, q9, e4, e6, e2], below_setRow hBE (Nat.le_refl _) _⟩
                  · have hyf : (y4 == 0) = false := by simpa using hyb
                    clear hyb
                    go_upto_region 22 with fail
                    have hhE : (wr).heap[w.heap.size]? = some (.cells #[.int .i64 0, .int .i64 0, .int .i64 0, .int .i64 0, .int .i64 0, .int .i64 0, .int .i64 0, .int .i64 0, .int .i64 0, .int .i64 0, .int .i64 0] 34 (0, 0)) := hh
                    have hBE : Below w.heap.size w (wr) := hBw
                    have e4 : v4 (shp f) f y4 = y4 := by unfold v4; have hy0 : ¬ y4 = 0 := (by simpa using hyf); rw [if_neg (by omega), if_neg (by omega), if_neg (by omega), if_neg (by omega), if_neg (by omega)]
                    have e6 : v6 (shp f) y5 y6 = y6 := by unfold v6; rw [if_neg (by omega)]
                    have e2 : v2 (shp f) W y2 = y2 := by unfold v2; rw [if_neg (by omega)]
                    have HEE := hide (And.intro e4 (And.intro e6 e2))
                    clear e4 e6 e2
                    go_wp2_with (first | (refine wpList_buildTo rfl 34 _ rfl _ rfl #[.int .i64 f, .int .i64 y0, .int .i64 y1, .int .i64 y2, .int .i64 y3, .int .i64 y4, .int .i64 y5, .int .i64 y6, .int .i64 y7, .int .i64 y8, .int .i64 y9] (by kernel_rfl) ?_) | refine wpList_store_rowTo rfl 34 _ _ rfl rfl w.heap.size #[.int .i64 f, .int .i64 y0, .int .i64 y1, .int .i64 y2, .int .i64 y3, .int .i64 y4, .int .i64 y5, .int .i64 y6, .int .i64 y7, .int .i64 y8, .int .i64 y9] rfl rfl 34 #[.int .i64 0, .int .i64 0, .int .i64 0, .int .i64 0, .int .i64 0, .int .i64 0, .int .i64 0, .int .i64 0, .int .i64 0, .int .i64 0, .int .i64 0] hhE (by kernel_rfl) (by kernel_rfl) (by kernel_rfl) ?_)
                    have hr : ∀ j, ((wr).setRow w.heap.size #[.int .i64 f, .int .i64 y0, .int .i64 y1, .int .i64 y2, .int .i64 y3, .int .i64 y4, .int .i64 y5, .int .i64 y6, .int .i64 y7, .int .i64 y8, .int .i64 y9]).cell? ⟨w.heap.size, j, none⟩ = #[.int .i64 f, .int .i64 y0, .int .i64 y1, .int .i64 y2, .int .i64 y3, .int .i64 y4, .int .i64 y5, .int .i64 y6, .int .i64 y7, .int .i64 y8, .int .i64 y9][j]? := fun j => cell_setRow_same _ _ _ _ _ _ _ hhE
                    exact bodyPost_ret (v := (.agg #[.int .i64 f, .int .i64 y0, .int .i64 y1, .int .i64 y2, .int .i64 y3, .int .i64 y4, .int .i64 y5, .int .i64 y6, .int .i64 y7, .int .i64 y8, .int .i64 y9])) (by simp [results, Tryd.results36, go_sem, hr]) rfl ⟨by
                      obtain ⟨q0, q1, q2, q3, q4, q5, q6, q7, q8, q9⟩ := HQ.out
                      obtain ⟨e4, e6, e2⟩ := unhide HEE
                      simp only [s1] at q0 q1 q2 q3 q4 q5 q6 q7 q8 q9 e4 e6 e2
                      rw [q0, q1, q2, q3, q4, q5, q6, q7, q8, q9, e4, e6, e2], below_setRow hBE (Nat.le_refl _) _⟩
              · by_cases s32 : shp f = 32
                · go_upto_region 22 with (first | (go_at_call 29; refine (bits_any _ _ _ (by omega) (by omega) (by omega) (by omega) (by omega) (by omega) _).mono ?_; rintro e w7 ⟨rfl, rfl⟩))
                  have hhE : ((wr.setCell ⟨b2, 2, none⟩ (.int .i64 (bt W 0 4))).drew).heap[w.heap.size]? = some (.cells #[.int .i64 0, .int .i64 0, .int .i64 0, .int .i64 0, .int .i64 0, .int .i64 0, .int .i64 0, .int .i64 0, .int .i64 0, .int .i64 0, .int .i64 0] 34 (0, 0)) := hh_set hne hh
                  have hBE : Below w.heap.size w ((wr.setCell ⟨b2, 2, none⟩ (.int .i64 (bt W 0 4))).drew) := (hBw.setCell (p := ⟨b2, 2, none⟩) (by show w.heap.size ≤ b2; omega) _).drew
                  have e4 : v4 (shp f) f y4 = y4 := by unfold v4; rw [if_neg (by omega), if_neg (by omega), if_neg (by omega), if_neg (by omega), if_neg (by omega)]
                  have e6 : v6 (shp f) y5 y6 = y6 := by unfold v6; rw [if_neg (by omega)]
                  have e2 : v2 (shp f) W y2 = bt W 0 4 := by unfold v2; rw [if_pos s32]
                  have HEE := hide (And.intro e4 (And.intro e6 e2))
                  clear e4 e6 e2
                  go_wp2_with (first | (refine wpList_buildTo rfl 34 _ rfl _ rfl #[.int .i64 f, .int .i64 y0, .int .i64 y1, .int .i64 (bt W 0 4), .int .i64 y3, .int .i64 y4, .int .i64 y5, .int .i64 y6, .int .i64 y7, .int .i64 y8, .int .i64 y9] (by kernel_rfl) ?_) | refine wpList_store_rowTo rfl 34 _ _ rfl rfl w.heap.size #[.int .i64 f, .int .i64 y0, .int .i64 y1, .int .i64 (bt W 0 4), .int .i64 y3, .int .i64 y4, .int .i64 y5, .int .i64 y6, .int .i64 y7, .int .i64 y8, .int .i64 y9] rfl rfl 34 #[.int .i64 0, .int .i64 0, .int .i64 0, .int .i64 0, .int .i64 0, .int .i64 0, .int .i64 0, .int .i64 0, .int .i64 0, .int .i64 0, .int .i64 0] hhE (by kernel_rfl) (by kernel_rfl) (by kernel_rfl) ?_)
                  have hr : ∀ j, (((wr.setCell ⟨b2, 2, none⟩ (.int .i64 (bt W 0 4))).drew).setRow w.heap.size #[.int .i64 f, .int .i64 y0, .int .i64 y1, .int .i64 (bt W 0 4), .int .i64 y3, .int .i64 y4, .int .i64 y5, .int .i64 y6, .int .i64 y7, .int .i64 y8, .int .i64 y9]).cell? ⟨w.heap.size, j, none⟩ = #[.int .i64 f, .int .i64 y0, .int .i64 y1, .int .i64 (bt W 0 4), .int .i64 y3, .int .i64 y4, .int .i64 y5, .int .i64 y6, .int .i64 y7, .int .i64 y8, .int .i64 y9][j]? := fun j => cell_setRow_same _ _ _ _ _ _ _ hhE
                  exact bodyPost_ret (v := (.agg #[.int .i64 f, .int .i64 y0, .int .i64 y1, .int .i64 (bt W 0 4), .int .i64 y3, .int .i64 y4, .int .i64 y5, .int .i64 y6, .int .i64 y7, .int .i64 y8, .int .i64 y9])) (by simp [results, Tryd.results36, go_sem, hr]) rfl ⟨by
                    obtain ⟨q0, q1, q2, q3, q4, q5, q6, q7, q8, q9⟩ := HQ.out
                    obtain ⟨e4, e6, e2⟩ := unhide HEE
                    rw [q0, q1, q2, q3, q4, q5, q6, q7, q8, q9, e4, e6, e2], below_setRow hBE (Nat.le_refl _) _⟩
                · by_cases s21 : 21 ≤ shp f ∧ shp f ≤ 23
                  · by_cases hy6 : (y6 == 0) = true
                    · by_cases hy5 : (y5 == 1) = true
                      · go_upto_region 22 with fail
                        have hhE : (wr.setCell ⟨b2, 6, none⟩ (.int .i64 32)).heap[w.heap.size]? = some (.cells #[.int .i64 0, .int .i64 0, .int .i64 0, .int .i64 0, .int .i64 0, .int .i64 0, .int .i64 0, .int .i64 0, .int .i64 0, .int .i64 0, .int .i64 0] 34 (0, 0)) := hh_set hne hh
                        have hBE : Below w.heap.size w (wr.setCell ⟨b2, 6, none⟩ (.int .i64 32)) := hBw.setCell (p := ⟨b2, 6, none⟩) (by show w.heap.size ≤ b2; omega) _
                        have e4 : v4 (shp f) f y4 = y4 := by unfold v4; rw [if_neg (by omega), if_neg (by omega), if_neg (by omega), if_neg (by omega), if_neg (by omega)]
                        have e6 : v6 (shp f) y5 y6 = 32 := by unfold v6; have hy0 : y6 = 0 := (by simpa using hy6); have hy1 : y5 = 1 := (by simpa using hy5); rw [if_pos (by omega)]
                        have e2 : v2 (shp f) W y2 = y2 := by unfold v2; rw [if_neg (by omega)]
                        have HEE := hide (And.intro e4 (And.intro e6 e2))
                        clear e4 e6 e2
                        go_wp2_with (first | (refine wpList_buildTo rfl 34 _ rfl _ rfl #[.int .i64 f, .int .i64 y0, .int .i64 y1, .int .i64 y2, .int .i64 y3, .int .i64 y4, .int .i64 y5, .int .i64 32, .int .i64 y7, .int .i64 y8, .int .i64 y9] (by kernel_rfl) ?_) | refine wpList_store_rowTo rfl 34 _ _ rfl rfl w.heap.size #[.int .i64 f, .int .i64 y0, .int .i64 y1, .int .i64 y2, .int .i64 y3, .int .i64 y4, .int .i64 y5, .int .i64 32, .int .i64 y7, .int .i64 y8, .int .i64 y9] rfl rfl 34 #[.int .i64 0, .int .i64 0, .int .i64 0, .int .i64 0, .int .i64 0, .int .i64 0, .int .i64 0, .int .i64 0, .int .i64 0, .int .i64 0, .int .i64 0] hhE (by kernel_rfl) (by kernel_rfl) (by kernel_rfl) ?_)
                        have hr : ∀ j, ((wr.setCell ⟨b2, 6, none⟩ (.int .i64 32)).setRow w.heap.size #[.int .i64 f, .int .i64 y0, .int .i64 y1, .int .i64 y2, .int .i64 y3, .int .i64 y4, .int .i64 y5, .int .i64 32, .int .i64 y7, .int .i64 y8, .int .i64 y9]).cell? ⟨w.heap.size, j, none⟩ = #[.int .i64 f, .int .i64 y0, .int .i64 y1, .int .i64 y2, .int .i64 y3, .int .i64 y4, .int .i64 y5, .int .i64 32, .int .i64 y7, .int .i64 y8, .int .i64 y9][j]? := fun j => cell_setRow_same _ _ _ _ _ _ _ hhE
                        exact bodyPost_ret (v := (.agg #[.int .i64 f, .int .i64 y0, .int .i64 y1, .int .i64 y2, .int .i64 y3, .int .i64 y4, .int .i64 y5, .int .i64 32, .int .i64 y7, .int .i64 y8, .int .i64 y9])) (by simp [results, Tryd.results36, go_sem, hr]) rfl ⟨by
                          obtain ⟨q0, q1, q2, q3, q4, q5, q6, q7, q8, q9⟩ := HQ.out
                          obtain ⟨e4, e6, e2⟩ := unhide HEE
                          rw [q0, q1, q2, q3, q4, q5, q6, q7, q8, q9, e4, e6, e2], below_setRow hBE (Nat.le_refl _) _⟩
                      · by_cases hy52 : (y5 == 2) = true
                        · have g5 : (y5 == 1) = false := by simpa using hy5
                          clear hy5
                          go_upto_region 22 with fail
                          have hhE : (wr.setCell ⟨b2, 6, none⟩ (.int .i64 32)).heap[w.heap.size]? = some (.cells #[.int .i64 0, .int .i64 0, .int .i64 0, .int .i64 0, .int .i64 0, .int .i64 0, .int .i64 0, .int .i64 0, .int .i64 0, .int .i64 0, .int .i64 0] 34 (0, 0)) := hh_set hne hh
                          have hBE : Below w.heap.size w (wr.setCell ⟨b2, 6, none⟩ (.int .i64 32)) := hBw.setCell (p := ⟨b2, 6, none⟩) (by show w.heap.size ≤ b2; omega) _
                          have e4 : v4 (shp f) f y4 = y4 := by unfold v4; rw [if_neg (by omega), if_neg (by omega), if_neg (by omega), if_neg (by omega), if_neg (by omega)]
                          have e6 : v6 (shp f) y5 y6 = 32 := by unfold v6; have hy0 : y6 = 0 := (by simpa using hy6); have hy1 : y5 = 2 := (by simpa using hy52); rw [if_pos (by omega)]
                          have e2 : v2 (shp f) W y2 = y2 := by unfold v2; rw [if_neg (by omega)]
                          have HEE := hide (And.intro e4 (And.intro e6 e2))
                          clear e4 e6 e2
                          go_wp2_with (first | (refine wpList_buildTo rfl 34 _ rfl _ rfl #[.int .i64 f, .int .i64 y0, .int .i64 y1, .int .i64 y2, .int .i64 y3, .int .i64 y4, .int .i64 y5, .int .i64 32, .int .i64 y7, .int .i64 y8, .int .i64 y9] (by kernel_rfl) ?_) | refine wpList_store_rowTo rfl 34 _ _ rfl rfl w.heap.size #[.int .i64 f, .int .i64 y0, .int .i64 y1, .int .i64 y2, .int .i64 y3, .int .i64 y4, .int .i64 y5, .int .i64 32, .int .i64 y7, .int .i64 y8, .int .i64 y9] rfl rfl 34 #[.int .i64 0, .int .i64 0, .int .i64 0, .int .i64 0, .int .i64 0, .int .i64 0, .int .i64 0, .int .i64 0, .int .i64 0, .int .i64 0, .int .i64 0] hhE (by kernel_rfl) (by kernel_rfl) (by kernel_rfl) ?_)
                          have hr : ∀ j, ((wr.setCell ⟨b2, 6, none⟩ (.int .i64 32)).setRow w.heap.size #[.int .i64 f, .int .i64 y0, .int .i64 y1, .int .i64 y2, .int .i64 y3, .int .i64 y4, .int .i64 y5, .int .i64 32, .int .i64 y7, .int .i64 y8, .int .i64 y9]).cell? ⟨w.heap.size, j, none⟩ = #[.int .i64 f, .int .i64 y0, .int .i64 y1, .int .i64 y2, .int .i64 y3, .int .i64 y4, .int .i64 y5, .int .i64 32, .int .i64 y7, .int .i64 y8, .int .i64 y9][j]? := fun j => cell_setRow_same _ _ _ _ _ _ _ hhE
                          exact bodyPost_ret (v := (.agg #[.int .i64 f, .int .i64 y0, .int .i64 y1, .int .i64 y2, .int .i64 y3, .int .i64 y4, .int .i64 y5, .int .i64 32, .int .i64 y7, .int .i64 y8, .int .i64 y9])) (by simp [results, Tryd.results36, go_sem, hr]) rfl ⟨by
                            obtain ⟨q0, q1, q2, q3, q4, q5, q6, q7, q8, q9⟩ := HQ.out
                            obtain ⟨e4, e6, e2⟩ := unhide HEE
                            rw [q0, q1, q2, q3, q4, q5, q6, q7, q8, q9, e4, e6, e2], below_setRow hBE (Nat.le_refl _) _⟩
                        · have g5 : (y5 == 1) = false := by simpa using hy5
                          have g52 : (y5 == 2) = false := by simpa using hy52
                          clear hy5 hy52
                          go_upto_region 22 with fail
                          have hhE : (wr).heap[w.heap.size]? = some (.cells #[.int .i64 0, .int .i64 0, .int .i64 0, .int .i64 0, .int .i64 0, .int .i64 0, .int .i64 0, .int .i64 0, .int .i64 0, .int .i64 0, .int .i64 0] 34 (0, 0)) := hh
                          have hBE : Below w.heap.size w (wr) := hBw
                          have e4 : v4 (shp f) f y4 = y4 := by unfold v4; rw [if_neg (by omega), if_neg (by omega), if_neg (by omega), if_neg (by omega), if_neg (by omega)]
                          have e6 : v6 (shp f) y5 y6 = y6 := by unfold v6; have hy0 : ¬ y5 = 1 := (by simpa using g5); have hy1 : ¬ y5 = 2 := (by simpa using g52); rw [if_neg (by omega)]
                          have e2 : v2 (shp f) W y2 = y2 := by unfold v2; rw [if_neg (by omega)]
                          have HEE := hide (And.intro e4 (And.intro e6 e2))
                          clear e4 e6 e2
                          go_wp2_with (first | (refine wpList_buildTo rfl 34 _ rfl _ rfl #[.int .i64 f, .int .i64 y0, .int .i64 y1, .int .i64 y2, .int .i64 y3, .int .i64 y4, .int .i64 y5, .int .i64 y6, .int .i64 y7, .int .i64 y8, .int .i64 y9] (by kernel_rfl) ?_) | refine wpList_store_rowTo rfl 34 _ _ rfl rfl w.heap.size #[.int .i64 f, .int .i64 y0, .int .i64 y1, .int .i64 y2, .int .i64 y3, .int .i64 y4, .int .i64 y5, .int .i64 y6, .int .i64 y7, .int .i64 y8, .int .i64 y9] rfl rfl 34 #[.int .i64 0, .int .i64 0, .int .i64 0, .int .i64 0, .int .i64 0, .int .i64 0, .int .i64 0, .int .i64 0, .int .i64 0, .int .i64 0, .int .i64 0] hhE (by kernel_rfl) (by kernel_rfl) (by kernel_rfl) ?_)
                          have hr : ∀ j, ((wr).setRow w.heap.size #[.int .i64 f, .int .i64 y0, .int .i64 y1, .int .i64 y2, .int .i64 y3, .int .i64 y4, .int .i64 y5, .int .i64 y6, .int .i64 y7, .int .i64 y8, .int .i64 y9]).cell? ⟨w.heap.size, j, none⟩ = #[.int .i64 f, .int .i64 y0, .int .i64 y1, .int .i64 y2, .int .i64 y3, .int .i64 y4, .int .i64 y5, .int .i64 y6, .int .i64 y7, .int .i64 y8, .int .i64 y9][j]? := fun j => cell_setRow_same _ _ _ _ _ _ _ hhE
                          exact bodyPost_ret (v := (.agg #[.int .i64 f, .int .i64 y0, .int .i64 y1, .int .i64 y2, .int .i64 y3, .int .i64 y4, .int .i64 y5, .int .i64 y6, .int .i64 y7, .int .i64 y8, .int .i64 y9])) (by simp [results, Tryd.results36, go_sem, hr]) rfl ⟨by
                            obtain ⟨q0, q1, q2, q3, q4, q5, q6, q7, q8, q9⟩ := HQ.out
                            obtain ⟨e4, e6, e2⟩ := unhide HEE
                            rw [q0, q1, q2, q3, q4, q5, q6, q7, q8, q9, e4, e6, e2], below_setRow hBE (Nat.le_refl _) _⟩
                    · have g6 : (y6 == 0) = false := by simpa using hy6
                      clear hy6
                      go_upto_region 22 with fail
                      have hhE : (wr).heap[w.heap.size]? = some (.cells #[.int .i64 0, .int .i64 0, .int .i64 0, .int .i64 0, .int .i64 0, .int .i64 0, .int .i64 0, .int .i64 0, .int .i64 0, .int .i64 0, .int .i64 0] 34 (0, 0)) := hh
                      have hBE : Below w.heap.size w (wr) := hBw
                      have e4 : v4 (shp f) f y4 = y4 := by unfold v4; rw [if_neg (by omega), if_neg (by omega), if_neg (by omega), if_neg (by omega), if_neg (by omega)]
                      have e6 : v6 (shp f) y5 y6 = y6 := by unfold v6; have hy0 : ¬ y6 = 0 := (by simpa using g6); rw [if_neg (by omega)]
                      have e2 : v2 (shp f) W y2 = y2 := by unfold v2; rw [if_neg (by omega)]
                      have HEE := hide (And.intro e4 (And.intro e6 e2))
                      clear e4 e6 e2
                      go_wp2_with (first | (refine wpList_buildTo rfl 34 _ rfl _ rfl #[.int .i64 f, .int .i64 y0, .int .i64 y1, .int .i64 y2, .int .i64 y3, .int .i64 y4, .int .i64 y5, .int .i64 y6, .int .i64 y7, .int .i64 y8, .int .i64 y9] (by kernel_rfl) ?_) | refine wpList_store_rowTo rfl 34 _ _ rfl rfl w.heap.size #[.int .i64 f, .int .i64 y0, .int .i64 y1, .int .i64 y2, .int .i64 y3, .int .i64 y4, .int .i64 y5, .int .i64 y6, .int .i64 y7, .int .i64 y8, .int .i64 y9] rfl rfl 34 #[.int .i64 0, .int .i64 0, .int .i64 0, .int .i64 0, .int .i64 0, .int .i64 0, .int .i64 0, .int .i64 0, .int .i64 0, .int .i64 0, .int .i64 0] hhE (by kernel_rfl) (by kernel_rfl) (by kernel_rfl) ?_)
                      have hr : ∀ j, ((wr).setRow w.heap.size #[.int .i64 f, .int .i64 y0, .int .i64 y1, .int .i64 y2, .int .i64 y3, .int .i64 y4, .int .i64 y5, .int .i64 y6, .int .i64 y7, .int .i64 y8, .int .i64 y9]).cell? ⟨w.heap.size, j, none⟩ = #[.int .i64 f, .int .i64 y0, .int .i64 y1, .int .i64 y2, .int .i64 y3, .int .i64 y4, .int .i64 y5, .int .i64 y6, .int .i64 y7, .int .i64 y8, .int .i64 y9][j]? := fun j => cell_setRow_same _ _ _ _ _ _ _ hhE
                      exact bodyPost_ret (v := (.agg #[.int .i64 f, .int .i64 y0, .int .i64 y1, .int .i64 y2, .int .i64 y3, .int .i64 y4, .int .i64 y5, .int .i64 y6, .int .i64 y7, .int .i64 y8, .int .i64 y9])) (by simp [results, Tryd.results36, go_sem, hr]) rfl ⟨by
                        obtain ⟨q0, q1, q2, q3, q4, q5, q6, q7, q8, q9⟩ := HQ.out
                        obtain ⟨e4, e6, e2⟩ := unhide HEE
                        rw [q0, q1, q2, q3, q4, q5, q6, q7, q8, q9, e4, e6, e2], below_setRow hBE (Nat.le_refl _) _⟩
                  · by_cases slo : shp f < 21
                    · go_upto_region 22 with fail
                      have hhE : (wr).heap[w.heap.size]? = some (.cells #[.int .i64 0, .int .i64 0, .int .i64 0, .int .i64 0, .int .i64 0, .int .i64 0, .int .i64 0, .int .i64 0, .int .i64 0, .int .i64 0, .int .i64 0] 34 (0, 0)) := hh
                      have hBE : Below w.heap.size w (wr) := hBw
                      have e4 : v4 (shp f) f y4 = y4 := by unfold v4; rw [if_neg (by omega), if_neg (by omega), if_neg (by omega), if_neg (by omega), if_neg (by omega)]
                      have e6 : v6 (shp f) y5 y6 = y6 := by unfold v6; rw [if_neg (by omega)]
                      have e2 : v2 (shp f) W y2 = y2 := by unfold v2; rw [if_neg (by omega)]
                      have HEE := hide (And.intro e4 (And.intro e6 e2))
                      clear e4 e6 e2
                      go_wp2_with (first | (refine wpList_buildTo rfl 34 _ rfl _ rfl #[.int .i64 f, .int .i64 y0, .int .i64 y1, .int .i64 y2, .int .i64 y3, .int .i64 y4, .int .i64 y5, .int .i64 y6, .int .i64 y7, .int .i64 y8, .int .i64 y9] (by kernel_rfl) ?_) | refine wpList_store_rowTo rfl 34 _ _ rfl rfl w.heap.size #[.int .i64 f, .int .i64 y0, .int .i64 y1, .int .i64 y2, .int .i64 y3, .int .i64 y4, .int .i64 y5, .int .i64 y6, .int .i64 y7, .int .i64 y8, .int .i64 y9] rfl rfl 34 #[.int .i64 0, .int .i64 0, .int .i64 0, .int .i64 0, .int .i64 0, .int .i64 0, .int .i64 0, .int .i64 0, .int .i64 0, .int .i64 0, .int .i64 0] hhE (by kernel_rfl) (by kernel_rfl) (by kernel_rfl) ?_)
                      have hr : ∀ j, ((wr).setRow w.heap.size #[.int .i64 f, .int .i64 y0, .int .i64 y1, .int .i64 y2, .int .i64 y3, .int .i64 y4, .int .i64 y5, .int .i64 y6, .int .i64 y7, .int .i64 y8, .int .i64 y9]).cell? ⟨w.heap.size, j, none⟩ = #[.int .i64 f, .int .i64 y0, .int .i64 y1, .int .i64 y2, .int .i64 y3, .int .i64 y4, .int .i64 y5, .int .i64 y6, .int .i64 y7, .int .i64 y8, .int .i64 y9][j]? := fun j => cell_setRow_same _ _ _ _ _ _ _ hhE
                      exact bodyPost_ret (v := (.agg #[.int .i64 f, .int .i64 y0, .int .i64 y1, .int .i64 y2, .int .i64 y3, .int .i64 y4, .int .i64 y5, .int .i64 y6, .int .i64 y7, .int .i64 y8, .int .i64 y9])) (by simp [results, Tryd.results36, go_sem, hr]) rfl ⟨by
                        obtain ⟨q0, q1, q2, q3, q4, q5, q6, q7, q8, q9⟩ := HQ.out
                        obtain ⟨e4, e6, e2⟩ := unhide HEE
                        rw [q0, q1, q2, q3, q4, q5, q6, q7, q8, q9, e4, e6, e2], below_setRow hBE (Nat.le_refl _) _⟩
                    · go_upto_region 22 with fail
                      have hhE : (wr).heap[w.heap.size]? = some (.cells #[.int .i64 0, .int .i64 0, .int .i64 0, .int .i64 0, .int .i64 0, .int .i64 0, .int .i64 0, .int .i64 0, .int .i64 0, .int .i64 0, .int .i64 0] 34 (0, 0)) := hh
                      have hBE : Below w.heap.size w (wr) := hBw
                      have e4 : v4 (shp f) f y4 = y4 := by unfold v4; rw [if_neg (by omega), if_neg (by omega), if_neg (by omega), if_neg (by omega), if_neg (by omega)]
                      have e6 : v6 (shp f) y5 y6 = y6 := by unfold v6; rw [if_neg (by omega)]
                      have e2 : v2 (shp f) W y2 = y2 := by unfold v2; rw [if_neg (by omega)]
                      have HEE := hide (And.intro e4 (And.intro e6 e2))
                      clear e4 e6 e2
                      go_wp2_with (first | (refine wpList_buildTo rfl 34 _ rfl _ rfl #[.int .i64 f, .int .i64 y0, .int .i64 y1, .int .i64 y2, .int .i64 y3, .int .i64 y4, .int .i64 y5, .int .i64 y6, .int .i64 y7, .int .i64 y8, .int .i64 y9] (by kernel_rfl) ?_) | refine wpList_store_rowTo rfl 34 _ _ rfl rfl w.heap.size #[.int .i64 f, .int .i64 y0, .int .i64 y1, .int .i64 y2, .int .i64 y3, .int .i64 y4, .int .i64 y5, .int .i64 y6, .int .i64 y7, .int .i64 y8, .int .i64 y9] rfl rfl 34 #[.int .i64 0, .int .i64 0, .int .i64 0, .int .i64 0, .int .i64 0, .int .i64 0, .int .i64 0, .int .i64 0, .int .i64 0, .int .i64 0, .int .i64 0] hhE (by kernel_rfl) (by kernel_rfl) (by kernel_rfl) ?_)
                      have hr : ∀ j, ((wr).setRow w.heap.size #[.int .i64 f, .int .i64 y0, .int .i64 y1, .int .i64 y2, .int .i64 y3, .int .i64 y4, .int .i64 y5, .int .i64 y6, .int .i64 y7, .int .i64 y8, .int .i64 y9]).cell? ⟨w.heap.size, j, none⟩ = #[.int .i64 f, .int .i64 y0, .int .i64 y1, .int .i64 y2, .int .i64 y3, .int .i64 y4, .int .i64 y5, .int .i64 y6, .int .i64 y7, .int .i64 y8, .int .i64 y9][j]? := fun j => cell_setRow_same _ _ _ _ _ _ _ hhE
                      exact bodyPost_ret (v := (.agg #[.int .i64 f, .int .i64 y0, .int .i64 y1, .int .i64 y2, .int .i64 y3, .int .i64 y4, .int .i64 y5, .int .i64 y6, .int .i64 y7, .int .i64 y8, .int .i64 y9])) (by simp [results, Tryd.results36, go_sem, hr]) rfl ⟨by
                        obtain ⟨q0, q1, q2, q3, q4, q5, q6, q7, q8, q9⟩ := HQ.out
                        obtain ⟨e4, e6, e2⟩ := unhide HEE
                        rw [q0, q1, q2, q3, q4, q5, q6, q7, q8, q9, e4, e6, e2], below_setRow hBE (Nat.le_refl _) _⟩
    · have hlt : k < n := by omega
      have hkl : k < l.length := by rw [unhide HLn]; exact hlt
      obtain ⟨e0, e0', e1, e1', e2, e2', e3, e3', e4⟩ := (unhide HE) k hlt
      have HG : Hid (∀ j, gat l W (k + 1) j = gat l W k j + (if (ent l k 0).toNat = j then bt W (ent l k 2) (ent l k 3) * pw (ent l k 1) else 0)) := fun _ => rfl
      have hgb := gat_bd l W (ent l k 0).toNat k (fun i hi => by have := (unhide HE) i (by omega); exact ⟨⟨this.2.2.1, this.2.2.2.1⟩, ⟨by omega, this.2.2.2.2.2.2.2.1⟩⟩)
      have hpr := prod_bd (W := W) (a2 := ent l k 2) ⟨e1, e1'⟩ ⟨by omega, e3'⟩
      have t0 : wr.cell? ⟨b1, k * 4, none⟩ = some (.int .i64 (ent l k 0)) := by have := hT k 0 hkl (by decide); rw [Nat.mul_comm] at this; exact this
      have t1 : wr.cell? ⟨b1, k * 4 + 1, none⟩ = some (.int .i64 (ent l k 1)) := by have := hT k 1 hkl (by decide); rw [Nat.mul_comm] at this; exact this
      have t2 : wr.cell? ⟨b1, k * 4 + 2, none⟩ = some (.int .i64 (ent l k 2)) := by have := hT k 2 hkl (by decide); rw [Nat.mul_comm] at this; exact this
      have t3 : wr.cell? ⟨b1, k * 4 + 3, none⟩ = some (.int .i64 (ent l k 3)) := by have := hT k 3 hkl (by decide); rw [Nat.mul_comm] at this; exact this
      generalize ent l k 0 = a0 at *
      generalize ent l k 1 = a1 at *
      generalize ent l k 2 = a2 at *
      generalize ent l k 3 = a3 at *
      obtain ⟨A0, rfl⟩ := Int.eq_ofNat_of_zero_le e0
      have hA0 : A0 ≤ 9 := by omega
      have hA10 : (A0 : Int) < 10 := by omega
      obtain ⟨x0, x1⟩ := hX A0 hA0
      rw [Int.toNat_natCast] at hgb
      have HV : Hid (wrap64 (gat l W k A0 + wrap64 (bt W a2 a3 * pw a1)) = gat l W k A0 + bt W a2 a3 * pw a1) := by
        rw [IntWalk.wrap64_in (bt W a2 a3 * pw a1) ⟨by omega, by omega⟩, IntWalk.wrap64_in _ ⟨by omega, by omega⟩]; exact rfl
      have HY : Hid (∀ j, gat l W (k + 1) j = if A0 = j then wrap64 (gat l W k A0 + wrap64 (bt W a2 a3 * pw a1)) else gat l W k j) := by
        intro j
        rw [HG.out j, Int.toNat_natCast, HV.out]
        by_cases e : A0 = j
        · subst e; rw [if_pos rfl, if_pos rfl]
        · rw [if_neg e, if_neg e, Int.add_zero]
      clear hgb hpr
      go_wp2_with fail
      refine wp_region_held_drew (S := fun w' => w'.cell? ⟨b1, k * 4, none⟩ = some (.int .i64 (A0 : Int)) ∧ w'.cell? ⟨b1, k * 4 + 1, none⟩ = some (.int .i64 a1) ∧ w'.cell? ⟨b1, k * 4 + 2, none⟩ = some (.int .i64 a2) ∧ w'.cell? ⟨b1, k * 4 + 3, none⟩ = some (.int .i64 a3)) (by kernel_rfl) ⟨t0, t1, t2, t3⟩ (fun hHeld => ?_)
      refine wpAnyH_take (i := 0) (v := ?_) rfl (by kernel_rfl) (by kernel_rfl) (by kernel_rfl) (fun _ _ _ h => h) (Or.inl ⟨by rfl, ?_⟩) (by assumption) ?_
      rotate_left
      · intro w hSw; (try dsimp only at hSw); go_simp; (try with_reducible rfl)
      (try simp only [Act.put, List.setIfInBounds_toArray, List.set_cons_zero, List.set_cons_succ])
      refine wpAnyH_take (i := 1) (v := ?_) rfl (by kernel_rfl) (by kernel_rfl) (by kernel_rfl) (fun _ _ _ h => h) (Or.inl ⟨by rfl, ?_⟩) (by assumption) ?_
      rotate_left
      · intro w hSw; (try dsimp only at hSw); go_simp; (try with_reducible rfl)
      (try simp only [Act.put, List.setIfInBounds_toArray, List.set_cons_zero, List.set_cons_succ])
      refine wpAnyH_take (i := 2) (v := ?_) rfl (by kernel_rfl) (by kernel_rfl) (by kernel_rfl) (fun _ _ _ h => h) (Or.inl ⟨by rfl, ?_⟩) (by assumption) ?_
      rotate_left
      · intro w hSw; (try dsimp only at hSw); go_simp; (try with_reducible rfl)
      (try simp only [Act.put, List.setIfInBounds_toArray, List.set_cons_zero, List.set_cons_succ])
      refine wpAnyH_take (i := 3) (v := ?_) rfl (by kernel_rfl) (by kernel_rfl) (by kernel_rfl) (fun _ _ _ h => h) (Or.inl ⟨by rfl, ?_⟩) (by assumption) ?_
      rotate_left
      · intro w hSw; (try dsimp only at hSw); go_simp; (try with_reducible rfl)
      (try simp only [Act.put, List.setIfInBounds_toArray, List.set_cons_zero, List.set_cons_succ])
      refine wpAnyH_take (i := 4) (v := ?_) rfl (by kernel_rfl) (by kernel_rfl) (by kernel_rfl) (fun _ _ _ h => h) (Or.inl ⟨by rfl, ?_⟩) (by assumption) ?_
      rotate_left
      · intro w hSw; (try dsimp only at hSw); go_simp; (try with_reducible rfl)
      (try simp only [Act.put, List.setIfInBounds_toArray, List.set_cons_zero, List.set_cons_succ])
      refine wpAnyH_take (i := 5) (v := ?_) rfl (by kernel_rfl) (by kernel_rfl) (by kernel_rfl) (fun _ _ _ h => h) (Or.inl ⟨by rfl, ?_⟩) (by assumption) ?_
      rotate_left
      · intro w hSw; (try dsimp only at hSw); go_simp; (try with_reducible rfl)
      (try simp only [Act.put, List.setIfInBounds_toArray, List.set_cons_zero, List.set_cons_succ])
      refine wpAnyH_take (i := 6) (v := ?_) rfl (by kernel_rfl) (by kernel_rfl) (by kernel_rfl) (fun _ _ _ h => h) (Or.inl ⟨by rfl, ?_⟩) (by assumption) ?_
      rotate_left
      · intro w hSw; (try dsimp only at hSw); go_simp; (try with_reducible rfl)
      (try simp only [Act.put, List.setIfInBounds_toArray, List.set_cons_zero, List.set_cons_succ])
      refine wpAnyH_take (i := 7) (v := ?_) rfl (by kernel_rfl) (by kernel_rfl) (by kernel_rfl) (fun _ _ _ h => h) (Or.inl ⟨by rfl, ?_⟩) (by assumption) ?_
      rotate_left
      · intro w hSw; (try dsimp only at hSw); go_simp; (try with_reducible rfl)
      (try simp only [Act.put, List.setIfInBounds_toArray, List.set_cons_zero, List.set_cons_succ])
      refine wpAnyH_take (i := 8) (v := ?_) rfl (by kernel_rfl) (by kernel_rfl) (by kernel_rfl) (fun _ _ _ h => h) (Or.inl ⟨by rfl, ?_⟩) (by assumption) ?_
      rotate_left
      · intro w hSw; (try dsimp only at hSw); go_simp; (try with_reducible rfl)
      (try simp only [Act.put, List.setIfInBounds_toArray, List.set_cons_zero, List.set_cons_succ])
      refine wpAnyH_take (i := 9) (v := ?_) rfl (by kernel_rfl) (by kernel_rfl) (by kernel_rfl) (fun _ _ _ h => h) (Or.inl ⟨by rfl, ?_⟩) (by assumption) ?_
      rotate_left
      · intro w hSw; (try dsimp only at hSw); go_simp; (try with_reducible rfl)
      (try simp only [Act.put, List.setIfInBounds_toArray, List.set_cons_zero, List.set_cons_succ])
      refine wpAnyH_take (i := 10) (v := ?_) rfl (by kernel_rfl) (by kernel_rfl) (by kernel_rfl) (fun _ _ _ h => h) (Or.inl ⟨by rfl, ?_⟩) (by assumption) ?_
      rotate_left
      · intro w hSw; (try dsimp only at hSw); go_simp; (try with_reducible rfl)
      (try simp only [Act.put, List.setIfInBounds_toArray, List.set_cons_zero, List.set_cons_succ])
      refine wpAnyH_take (i := 12) (v := ?_) rfl (by kernel_rfl) (by kernel_rfl) (by kernel_rfl) (fun _ _ _ h => h) (Or.inl ⟨by rfl, ?_⟩) (by assumption) ?_
      rotate_left
      · intro w hSw; (try dsimp only at hSw); go_simp; (try with_reducible rfl)
      (try simp only [Act.put, List.setIfInBounds_toArray, List.set_cons_zero, List.set_cons_succ])
      refine wpAnyH_take (i := 13) (v := ?_) rfl (by kernel_rfl) (by kernel_rfl) (by kernel_rfl) (fun _ _ _ h => h) (Or.inl ⟨by rfl, ?_⟩) (by assumption) ?_
      rotate_left
      · intro w hSw; (try dsimp only at hSw); go_simp; (try with_reducible rfl)
      (try simp only [Act.put, List.setIfInBounds_toArray, List.set_cons_zero, List.set_cons_succ])
      refine wpAnyH_take (i := 14) (v := ?_) rfl (by kernel_rfl) (by kernel_rfl) (by kernel_rfl) (fun _ _ _ h => h) (Or.inl ⟨by rfl, ?_⟩) (by assumption) ?_
      rotate_left
      · intro w hSw; (try dsimp only at hSw); go_simp; (try with_reducible rfl)
      (try simp only [Act.put, List.setIfInBounds_toArray, List.set_cons_zero, List.set_cons_succ])
      refine wpAnyH_take (i := 15) (v := ?_) rfl (by kernel_rfl) (by kernel_rfl) (by kernel_rfl) (fun _ _ _ h => h) (Or.inl ⟨by rfl, ?_⟩) (by assumption) ?_
      rotate_left
      · intro w hSw; (try dsimp only at hSw); go_simp; (try with_reducible rfl)
      (try simp only [Act.put, List.setIfInBounds_toArray, List.set_cons_zero, List.set_cons_succ])
      refine wpAnyH_take (i := 16) (v := ?_) rfl (by kernel_rfl) (by kernel_rfl) (by kernel_rfl) (fun _ _ _ h => h) (Or.inl ⟨by rfl, ?_⟩) (by assumption) ?_
      rotate_left
      · intro w hSw; (try dsimp only at hSw); go_simp; (try with_reducible rfl)
      (try simp only [Act.put, List.setIfInBounds_toArray, List.set_cons_zero, List.set_cons_succ])
      refine wpAnyH_take (i := 17) (v := ?_) rfl (by kernel_rfl) (by kernel_rfl) (by kernel_rfl) (fun _ _ _ h => h) (Or.inl ⟨by rfl, ?_⟩) (by assumption) ?_
      rotate_left
      · intro w hSw; (try dsimp only at hSw); go_simp; (try with_reducible rfl)
      (try simp only [Act.put, List.setIfInBounds_toArray, List.set_cons_zero, List.set_cons_succ])
      refine wpAnyH_take (i := 18) (v := ?_) rfl (by kernel_rfl) (by kernel_rfl) (by kernel_rfl) (fun _ _ _ h => h) (Or.inl ⟨by rfl, ?_⟩) (by assumption) ?_
      rotate_left
      · intro w hSw; (try dsimp only at hSw); go_simp; (try with_reducible rfl)
      (try simp only [Act.put, List.setIfInBounds_toArray, List.set_cons_zero, List.set_cons_succ])
      refine wpAnyH_take (i := 19) (v := ?_) rfl (by kernel_rfl) (by kernel_rfl) (by kernel_rfl) (fun _ _ _ h => h) (Or.inl ⟨by rfl, ?_⟩) (by assumption) ?_
      rotate_left
      · intro w hSw; (try dsimp only at hSw); go_simp; (try with_reducible rfl)
      (try simp only [Act.put, List.setIfInBounds_toArray, List.set_cons_zero, List.set_cons_succ])
      refine wpAnyH_take (i := 20) (v := ?_) rfl (by kernel_rfl) (by kernel_rfl) (by kernel_rfl) (fun _ _ _ h => h) (Or.inl ⟨by rfl, ?_⟩) (by assumption) ?_
      rotate_left
      · intro w hSw; (try dsimp only at hSw); go_simp; (try with_reducible rfl)
      (try simp only [Act.put, List.setIfInBounds_toArray, List.set_cons_zero, List.set_cons_succ])
      refine wpAnyH_take (i := 21) (v := ?_) rfl (by kernel_rfl) (by kernel_rfl) (by kernel_rfl) (fun _ _ _ h => h) (Or.inl ⟨by rfl, ?_⟩) (by assumption) ?_
      rotate_left
      · intro w hSw; (try dsimp only at hSw); go_simp; (try with_reducible rfl)
      (try simp only [Act.put, List.setIfInBounds_toArray, List.set_cons_zero, List.set_cons_succ])
      refine wpAnyH_take (i := 22) (v := ?_) rfl (by kernel_rfl) (by kernel_rfl) (by kernel_rfl) (fun _ _ _ h => h) (Or.inl ⟨by rfl, ?_⟩) (by assumption) ?_
      rotate_left
      · intro w hSw; (try dsimp only at hSw); go_simp; (try with_reducible rfl)
      (try simp only [Act.put, List.setIfInBounds_toArray, List.set_cons_zero, List.set_cons_succ])
      refine wpAnyH_take (i := 24) (v := ?_) rfl (by kernel_rfl) (by kernel_rfl) (by kernel_rfl) (fun _ _ _ h => h) (Or.inl ⟨by rfl, ?_⟩) (by assumption) ?_
      rotate_left
      · intro w hSw; (try dsimp only at hSw); go_simp; (try with_reducible rfl)
      (try simp only [Act.put, List.setIfInBounds_toArray, List.set_cons_zero, List.set_cons_succ])
      refine wpAnyH_take (i := 25) (v := ?_) rfl (by kernel_rfl) (by kernel_rfl) (by kernel_rfl) (fun _ _ _ h => h) (Or.inl ⟨by rfl, ?_⟩) (by assumption) ?_
      rotate_left
      · intro w hSw; (try dsimp only at hSw); go_simp; (try with_reducible rfl)
      (try simp only [Act.put, List.setIfInBounds_toArray, List.set_cons_zero, List.set_cons_succ])
      refine wpAnyH_take (i := 26) (v := ?_) rfl (by kernel_rfl) (by kernel_rfl) (by kernel_rfl) (fun _ _ _ h => h) (Or.inl ⟨by rfl, ?_⟩) (by assumption) ?_
      rotate_left
      · intro w hSw; (try dsimp only at hSw); go_simp; (try with_reducible rfl)
      (try simp only [Act.put, List.setIfInBounds_toArray, List.set_cons_zero, List.set_cons_succ])
      refine wpAnyH_take (i := 27) (v := ?_) rfl (by kernel_rfl) (by kernel_rfl) (by kernel_rfl) (fun _ _ _ h => h) (Or.inl ⟨by rfl, ?_⟩) (by assumption) ?_
      rotate_left
      · intro w hSw; (try dsimp only at hSw); go_simp; (try with_reducible rfl)
      (try simp only [Act.put, List.setIfInBounds_toArray, List.set_cons_zero, List.set_cons_succ])
      refine wpAnyH_take (i := 28) (v := ?_) rfl (by kernel_rfl) (by kernel_rfl) (by kernel_rfl) (fun _ _ _ h => h) (Or.inl ⟨by rfl, ?_⟩) (by assumption) ?_
      rotate_left
      · intro w hSw; (try dsimp only at hSw); go_simp; (try with_reducible rfl)
      (try simp only [Act.put, List.setIfInBounds_toArray, List.set_cons_zero, List.set_cons_succ])
      refine wpAnyH_ready (rs := [11, 23]) (by kernel_rfl) (by simp) ?_
      refine AllReadyH.cons rfl (fun K hK => ?_) (AllReadyH.cons rfl (fun K hK => ?_) AllReadyH.nil)
      · go_simp
        refine hK.out _ _ ⟨t0, t1, t2, t3⟩ (fun hHeld => ?_)
        clear hK K
        (try simp only [Act.put, List.setIfInBounds_toArray, List.set_cons_zero, List.set_cons_succ])
        refine wpAnyH_ready (rs := [23]) (by kernel_rfl) (by simp) ?_
        refine AllReadyH.cons rfl (fun K hK => ?_) AllReadyH.nil
        · go_simp
          refine (bits_any _ _ _ (by omega) (by omega) (by omega) (by omega) (by omega) (by omega) _).mono ?_
          rintro e w7 ⟨rfl, rfl⟩
          refine hK.out _ _ ⟨t0, t1, t2, t3⟩ (fun hHeld => ?_)
          clear hK K
          (try simp only [Act.put, List.setIfInBounds_toArray, List.set_cons_zero, List.set_cons_succ])
          refine wpAnyH_ready (rs := [29]) (by kernel_rfl) (by simp) ?_
          refine AllReadyH.cons rfl (fun K hK => ?_) AllReadyH.nil
          · go_simp
            refine (power_any _ (by omega) (by omega) _).mono ?_
            rintro e w8 ⟨rfl, rfl⟩
            refine hK.out _ _ ⟨t0, t1, t2, t3⟩ (fun hHeld => ?_)
            clear hK K
            (try simp only [Act.put, List.setIfInBounds_toArray, List.set_cons_zero, List.set_cons_succ])
            refine wpAnyH_take (i := 30) (v := ?_) rfl (by kernel_rfl) (by kernel_rfl) (by kernel_rfl) (fun _ _ _ h => h) (Or.inl ⟨by rfl, ?_⟩) (by assumption) ?_
            rotate_left
            · intro w hSw; (try dsimp only at hSw); go_simp; (try with_reducible rfl)
            (try simp only [Act.put, List.setIfInBounds_toArray, List.set_cons_zero, List.set_cons_succ])
            refine wpAnyH_take (i := 31) (v := ?_) rfl (by kernel_rfl) (by kernel_rfl) (by kernel_rfl) (fun _ _ _ h => h) (Or.inl ⟨by rfl, ?_⟩) (by assumption) ?_
            rotate_left
            · intro w hSw; (try dsimp only at hSw); go_simp; (try with_reducible rfl)
            (try simp only [Act.put, List.setIfInBounds_toArray, List.set_cons_zero, List.set_cons_succ])
            refine wpAnyH_take (i := 32) (v := ?_) rfl (by kernel_rfl) (by kernel_rfl) (by kernel_rfl) (fun _ _ _ h => h) (Or.inl ⟨by rfl, ?_⟩) (by assumption) ?_
            rotate_left
            · intro w hSw; (try dsimp only at hSw); go_simp; (try with_reducible rfl)
            (try simp only [Act.put, List.setIfInBounds_toArray, List.set_cons_zero, List.set_cons_succ])
            refine wpAnyH_ready (rs := [33]) (by kernel_rfl) (by simp) ?_
            refine AllReadyH.cons rfl (fun K hK => ?_) AllReadyH.nil
            · go_simp
              refine hK.out _ _ (stay h12 ⟨t0, t1, t2, t3⟩) (fun hHeld => ?_)
              clear hK K
              (try simp only [Act.put, List.setIfInBounds_toArray, List.set_cons_zero, List.set_cons_succ])
              refine wpAnyH_done (by kernel_rfl) ?_ _
              go_wp2_with fail
              go_roundw
              case rel => exact ⟨k + 1, by omega, by go_num, ten_step hX hA0 HY.out, tab_set hT h12, (hBr.setCell (Nat.le_refl _) _).drew.drew, by simpa [World.setCell] using hzr⟩
              case measure => simp [intOf]; omega
      · go_simp
        refine (bits_any _ _ _ (by omega) (by omega) (by omega) (by omega) (by omega) (by omega) _).mono ?_
        rintro e w7 ⟨rfl, rfl⟩
        refine hK.out _ _ ⟨t0, t1, t2, t3⟩ (fun hHeld => ?_)
        clear hK K
        (try simp only [Act.put, List.setIfInBounds_toArray, List.set_cons_zero, List.set_cons_succ])
        refine wpAnyH_ready (rs := [11, 29]) (by kernel_rfl) (by simp) ?_
        refine AllReadyH.cons rfl (fun K hK => ?_) (AllReadyH.cons rfl (fun K hK => ?_) AllReadyH.nil)
        · go_simp
          refine hK.out _ _ ⟨t0, t1, t2, t3⟩ (fun hHeld => ?_)
          clear hK K
          (try simp only [Act.put, List.setIfInBounds_toArray, List.set_cons_zero, List.set_cons_succ])
          refine wpAnyH_ready (rs := [29]) (by kernel_rfl) (by simp) ?_
          refine AllReadyH.cons rfl (fun K hK => ?_) AllReadyH.nil
          · go_simp
            refine (power_any _ (by omega) (by omega) _).mono ?_
            rintro e w8 ⟨rfl, rfl⟩
            refine hK.out _ _ ⟨t0, t1, t2, t3⟩ (fun hHeld => ?_)
            clear hK K
            (try simp only [Act.put, List.setIfInBounds_toArray, List.set_cons_zero, List.set_cons_succ])
            refine wpAnyH_take (i := 30) (v := ?_) rfl (by kernel_rfl) (by kernel_rfl) (by kernel_rfl) (fun _ _ _ h => h) (Or.inl ⟨by rfl, ?_⟩) (by assumption) ?_
            rotate_left
            · intro w hSw; (try dsimp only at hSw); go_simp; (try with_reducible rfl)
            (try simp only [Act.put, List.setIfInBounds_toArray, List.set_cons_zero, List.set_cons_succ])
            refine wpAnyH_take (i := 31) (v := ?_) rfl (by kernel_rfl) (by kernel_rfl) (by kernel_rfl) (fun _ _ _ h => h) (Or.inl ⟨by rfl, ?_⟩) (by assumption) ?_
            rotate_left
            · intro w hSw; (try dsimp only at hSw); go_simp; (try with_reducible rfl)
            (try simp only [Act.put, List.setIfInBounds_toArray, List.set_cons_zero, List.set_cons_succ])
            refine wpAnyH_take (i := 32) (v := ?_) rfl (by kernel_rfl) (by kernel_rfl) (by kernel_rfl) (fun _ _ _ h => h) (Or.inl ⟨by rfl, ?_⟩) (by assumption) ?_
            rotate_left
            · intro w hSw; (try dsimp only at hSw); go_simp; (try with_reducible rfl)
            (try simp only [Act.put, List.setIfInBounds_toArray, List.set_cons_zero, List.set_cons_succ])
            refine wpAnyH_ready (rs := [33]) (by kernel_rfl) (by simp) ?_
            refine AllReadyH.cons rfl (fun K hK => ?_) AllReadyH.nil
            · go_simp
              refine hK.out _ _ (stay h12 ⟨t0, t1, t2, t3⟩) (fun hHeld => ?_)
              clear hK K
              (try simp only [Act.put, List.setIfInBounds_toArray, List.set_cons_zero, List.set_cons_succ])
              refine wpAnyH_done (by kernel_rfl) ?_ _
              go_wp2_with fail
              go_roundw
              case rel => exact ⟨k + 1, by omega, by go_num, ten_step hX hA0 HY.out, tab_set hT h12, (hBr.setCell (Nat.le_refl _) _).drew.drew, by simpa [World.setCell] using hzr⟩
              case measure => simp [intOf]; omega
        · go_simp
          refine (power_any _ (by omega) (by omega) _).mono ?_
          rintro e w8 ⟨rfl, rfl⟩
          refine hK.out _ _ ⟨t0, t1, t2, t3⟩ (fun hHeld => ?_)
          clear hK K
          (try simp only [Act.put, List.setIfInBounds_toArray, List.set_cons_zero, List.set_cons_succ])
          refine wpAnyH_take (i := 30) (v := ?_) rfl (by kernel_rfl) (by kernel_rfl) (by kernel_rfl) (fun _ _ _ h => h) (Or.inl ⟨by rfl, ?_⟩) (by assumption) ?_
          rotate_left
          · intro w hSw; (try dsimp only at hSw); go_simp; (try with_reducible rfl)
          (try simp only [Act.put, List.setIfInBounds_toArray, List.set_cons_zero, List.set_cons_succ])
          refine wpAnyH_ready (rs := [11]) (by kernel_rfl) (by simp) ?_
          refine AllReadyH.cons rfl (fun K hK => ?_) AllReadyH.nil
          · go_simp
            refine hK.out _ _ ⟨t0, t1, t2, t3⟩ (fun hHeld => ?_)
            clear hK K
            (try simp only [Act.put, List.setIfInBounds_toArray, List.set_cons_zero, List.set_cons_succ])
            refine wpAnyH_take (i := 31) (v := ?_) rfl (by kernel_rfl) (by kernel_rfl) (by kernel_rfl) (fun _ _ _ h => h) (Or.inl ⟨by rfl, ?_⟩) (by assumption) ?_
            rotate_left
            · intro w hSw; (try dsimp only at hSw); go_simp; (try with_reducible rfl)
            (try simp only [Act.put, List.setIfInBounds_toArray, List.set_cons_zero, List.set_cons_succ])
            refine wpAnyH_take (i := 32) (v := ?_) rfl (by kernel_rfl) (by kernel_rfl) (by kernel_rfl) (fun _ _ _ h => h) (Or.inl ⟨by rfl, ?_⟩) (by assumption) ?_
            rotate_left
            · intro w hSw; (try dsimp only at hSw); go_simp; (try with_reducible rfl)
            (try simp only [Act.put, List.setIfInBounds_toArray, List.set_cons_zero, List.set_cons_succ])
            refine wpAnyH_ready (rs := [33]) (by kernel_rfl) (by simp) ?_
            refine AllReadyH.cons rfl (fun K hK => ?_) AllReadyH.nil
            · go_simp
              refine hK.out _ _ (stay h12 ⟨t0, t1, t2, t3⟩) (fun hHeld => ?_)
              clear hK K
              (try simp only [Act.put, List.setIfInBounds_toArray, List.set_cons_zero, List.set_cons_succ])
              refine wpAnyH_done (by kernel_rfl) ?_ _
              go_wp2_with fail
              go_roundw
              case rel => exact ⟨k + 1, by omega, by go_num, ten_step hX hA0 HY.out, tab_set hT h12, (hBr.setCell (Nat.le_refl _) _).drew.drew, by simpa [World.setCell] using hzr⟩
              case measure => simp [intOf]; omega

end Go.Proofs.YtjcoihbhgedgiaaDoor.Code
