/- What half of package code answers: a contract. -/
import Derived.Test.YtegefbndpkbooaaDoorCodeLast
import Derived.Deep.QuietTactic
import Derived.BigQuiet
set_option linter.unusedVariables false
namespace Go.Proofs.YtegefbndpkbooaaDoor.Code
open Go.RowKit Go.Proofs.YtegefbndpkbooaaDoor.Alu Go.Proofs.YtegefbndpkbooaaDoor.Imm Go.Proofs.YtegefbndpkbooaaDoor.Inst

theorem or_half {x y : Int} (hx : 0 ≤ x ∧ x ≤ 255) (hy : 0 ≤ y ∧ y ≤ 255) : bits .or .u32 x (y * 256) = x + y * 256 :=
  (in_join (in_piece 8 0 1 255 x x rfl rfl hx.1 (by omega) (by decide) (by omega)) (in_piece 8 8 256 65280 y (y * 256) rfl rfl hy.1 (by omega) (by decide) rfl) (by decide)).1
theorem or_halves {x y : Int} (hx : 0 ≤ x ∧ x ≤ 65535) (hy : 0 ≤ y ∧ y ≤ 65535) : bits .or .u32 (x * 65536) y = x * 65536 + y :=
  u32_join 16 (x * 65536) y (by omega) (by omega) (by omega) (by omega) (by omega) (by omega)

set_option maxRecDepth 100000 in
theorem half_any (b o n cap : Nat) (x y : Int) (hn : 2 ≤ n) (hx : 0 ≤ x ∧ x ≤ 255) (hy : 0 ≤ y ∧ y ≤ 255) (w : World) (h0 : w.cell? ⟨b, o, none⟩ = some (.int .u8 x)) (h1 : w.cell? ⟨b, o + 1, none⟩ = some (.int .u8 y)) :
    Calls Tryd.prog 23 #[.slice (some ⟨b, o, none⟩) n cap] w fun e w' => e = .returned (.int .u32 (x + y * 256)) ∧ ∃ m, w' = w.drewN m := by
  have c0 : (0 : Int) < (n : Int) := by omega
  have c1 : (1 : Int) < (n : Int) := by omega
  go_enter Tryd.func23, Tryd.ntmps23
  go_wp2_with fail
  go_quiet (fail)
  go_wp2_with fail
  go_ret
  exact ⟨ret_int (or_half hx hy), _, rfl⟩

set_option maxRecDepth 100000 in
set_option maxHeartbeats 1000000 in
theorem At_out (p : Option Addr) (n cap : Nat) (k : Int) (hk : k < 0 ∨ (n : Int) < k) (w : World) :
    Calls Tryd.prog 9 #[.slice p n cap, .int .i64 k] w fun e w' => e = .returned (.tuple #[.agg #[.int .i64 0, .int .i64 0, .int .i64 0, .int .i64 0, .int .i64 0, .int .i64 0, .int .i64 0, .int .i64 0, .int .i64 0, .int .i64 0, .int .i64 0], .int .i64 11]) ∧ Below w.heap.size w w' := by
  have hB := (Below.refl w.heap.size w).alloc (Nat.le_refl _) (.cells #[.int .i64 0, .int .i64 0, .int .i64 0, .int .i64 0, .int .i64 0, .int .i64 0, .int .i64 0, .int .i64 0, .int .i64 0, .int .i64 0, .int .i64 0] 36)
  go_enter Tryd.func9, Tryd.ntmps9
  go_wp2_with fail
  all_goals first
    | (exfalso; omega)
    | exact bodyPost_ret (v := .tuple #[.agg #[.int .i64 0, .int .i64 0, .int .i64 0, .int .i64 0, .int .i64 0, .int .i64 0, .int .i64 0, .int .i64 0, .int .i64 0, .int .i64 0, .int .i64 0], .int .i64 11]) (by simp [results, Tryd.results9, go_sem]) rfl ⟨rfl, hB⟩

set_option maxRecDepth 100000 in
set_option maxHeartbeats 1000000 in
theorem At_short (b o cap n k : Nat) (hcap : n ≤ cap) (hm : cap ≤ maxLen) (ha : k ≤ n) (hn : n < k + 2) (w : World) :
    Calls Tryd.prog 9 #[.slice (some ⟨b, o, none⟩) n cap, .int .i64 k] w fun e w' => e = .returned (.tuple #[.agg #[.int .i64 0, .int .i64 0, .int .i64 0, .int .i64 0, .int .i64 0, .int .i64 0, .int .i64 0, .int .i64 0, .int .i64 0, .int .i64 0, .int .i64 0], .int .i64 41]) ∧ Below w.heap.size w w' := by
  have hB := (Below.refl w.heap.size w).alloc (Nat.le_refl _) (.cells #[.int .i64 0, .int .i64 0, .int .i64 0, .int .i64 0, .int .i64 0, .int .i64 0, .int .i64 0, .int .i64 0, .int .i64 0, .int .i64 0, .int .i64 0] 36)
  go_enter Tryd.func9, Tryd.ntmps9
  go_wp2_with fail
  all_goals first
    | (exfalso; omega)
    | exact bodyPost_ret (v := .tuple #[.agg #[.int .i64 0, .int .i64 0, .int .i64 0, .int .i64 0, .int .i64 0, .int .i64 0, .int .i64 0, .int .i64 0, .int .i64 0, .int .i64 0, .int .i64 0], .int .i64 41]) (by simp [results, Tryd.results9, go_sem]) rfl ⟨rfl, hB⟩

set_option maxRecDepth 100000 in
set_option maxHeartbeats 1000000 in
theorem At_narrow (b o cap n k : Nat) (x y : Int) (hcap : n ≤ cap) (hm : cap ≤ maxLen) (hn : k + 2 ≤ n) (hx : 0 ≤ x ∧ x ≤ 255) (hy : 0 ≤ y ∧ y ≤ 255) (hg : beg (x + y * 256) = false) (w : World) (hL : Laid w)
    (h0 : w.cell? ⟨b, o + k, none⟩ = some (.int .u8 x)) (h1 : w.cell? ⟨b, o + k + 1, none⟩ = some (.int .u8 y)) :
    Calls Tryd.prog 9 #[.slice (some ⟨b, o, none⟩) n cap, .int .i64 k] w (OfPost (x + y * 256) false w) := by
  have hB := (Below.refl w.heap.size w).alloc (Nat.le_refl _) (.cells #[.int .i64 0, .int .i64 0, .int .i64 0, .int .i64 0, .int .i64 0, .int .i64 0, .int .i64 0, .int .i64 0, .int .i64 0, .int .i64 0, .int .i64 0] 36)
  have hl0 := cell_lt h0
  have g0 := (hB.cell (p := ⟨b, o + k, none⟩) hl0).trans h0
  have g1 := (hB.cell (p := ⟨b, o + k + 1, none⟩) hl0).trans h1
  clear h0 h1
  go_enter Tryd.func9, Tryd.ntmps9
  go_wp2_with fail
  refine (half_any _ _ _ _ _ _ (by omega) hx hy _ g0 g1).mono ?_
  rintro e w1 ⟨rfl, m, rfl⟩
  go_wp2_with fail
  refine (Begins_any _ (by omega) (by omega) _).mono ?_
  rintro e w1 ⟨rfl, rfl⟩
  go_wp2_with fail
  have hD : Below w.heap.size w (((w.alloc (.cells #[.int .i64 0, .int .i64 0, .int .i64 0, .int .i64 0, .int .i64 0, .int .i64 0, .int .i64 0, .int .i64 0, .int .i64 0, .int .i64 0, .int .i64 0] 36)).drewN m).drew) := (hB.trans ((below_drewN _ _).mono hB.size)).drew
  refine (Of_any _ false (by omega) (by omega) _ (hL.below hD)).mono ?_
  rintro e w2 ⟨hb2, hp⟩
  have hb3 := hD.trans (hb2.mono hD.size)
  obtain ⟨hc, hfz⟩ := bcell hb2
  rcases hp with ⟨f, rd, rn, rm, ra, im, kd, bs, st, cd, rg, hH, rfl⟩ | ⟨hn, rfl⟩
  · go_wp2_with fail
    exact bodyPost_ret (v := .tuple #[.agg #[.int .i64 f, .int .i64 rd, .int .i64 rn, .int .i64 rm, .int .i64 ra, .int .i64 im, .int .i64 kd, .int .i64 bs, .int .i64 st, .int .i64 cd, .int .i64 rg], .int .i64 0]) (by simp [results, Tryd.results9, go_sem, hc]) rfl (ofPost_yes (set11 hb3) hH)
  · go_wp2_with fail
    exact bodyPost_ret (v := .tuple #[.agg #[.int .i64 0, .int .i64 0, .int .i64 0, .int .i64 0, .int .i64 0, .int .i64 0, .int .i64 0, .int .i64 0, .int .i64 0, .int .i64 0, .int .i64 0], .int .i64 40]) (by simp [results, Tryd.results9, go_sem, hc]) rfl (ofPost_no (set11 hb3) hn)

set_option maxRecDepth 100000 in
set_option maxHeartbeats 1000000 in
theorem At_cut (b o cap n k : Nat) (x y : Int) (hcap : n ≤ cap) (hm : cap ≤ maxLen) (hn : k + 2 ≤ n) (hn4 : n < k + 4) (hx : 0 ≤ x ∧ x ≤ 255) (hy : 0 ≤ y ∧ y ≤ 255) (hg : beg (x + y * 256) = true) (w : World) (hL : Laid w)
    (h0 : w.cell? ⟨b, o + k, none⟩ = some (.int .u8 x)) (h1 : w.cell? ⟨b, o + k + 1, none⟩ = some (.int .u8 y)) :
    Calls Tryd.prog 9 #[.slice (some ⟨b, o, none⟩) n cap, .int .i64 k] w fun e w' => e = .returned (.tuple #[.agg #[.int .i64 0, .int .i64 0, .int .i64 0, .int .i64 0, .int .i64 0, .int .i64 0, .int .i64 0, .int .i64 0, .int .i64 0, .int .i64 0, .int .i64 0], .int .i64 41]) ∧ Below w.heap.size w w' := by
  have hB := (Below.refl w.heap.size w).alloc (Nat.le_refl _) (.cells #[.int .i64 0, .int .i64 0, .int .i64 0, .int .i64 0, .int .i64 0, .int .i64 0, .int .i64 0, .int .i64 0, .int .i64 0, .int .i64 0, .int .i64 0] 36)
  have hl0 := cell_lt h0
  have g0 := (hB.cell (p := ⟨b, o + k, none⟩) hl0).trans h0
  have g1 := (hB.cell (p := ⟨b, o + k + 1, none⟩) hl0).trans h1
  clear h0 h1
  go_enter Tryd.func9, Tryd.ntmps9
  go_wp2_with fail
  refine (half_any _ _ _ _ _ _ (by omega) hx hy _ g0 g1).mono ?_
  rintro e w1 ⟨rfl, m, rfl⟩
  go_wp2_with fail
  refine (Begins_any _ (by omega) (by omega) _).mono ?_
  rintro e w1 ⟨rfl, rfl⟩
  have hD := below_drewN (w.alloc (.cells #[.int .i64 0, .int .i64 0, .int .i64 0, .int .i64 0, .int .i64 0, .int .i64 0, .int .i64 0, .int .i64 0, .int .i64 0, .int .i64 0, .int .i64 0] 36)) (m + 1)
  obtain ⟨hc, hfz⟩ := bcell hD
  have hb3 := hB.trans (hD.mono hB.size)
  clear hD g0 g1
  have hs1 : ((n - k : Nat) : Int) < 4 := by omega
  go_wp2_with fail
  exact bodyPost_ret (v := .tuple #[.agg #[.int .i64 0, .int .i64 0, .int .i64 0, .int .i64 0, .int .i64 0, .int .i64 0, .int .i64 0, .int .i64 0, .int .i64 0, .int .i64 0, .int .i64 0], .int .i64 41]) (by simp [results, Tryd.results9, go_sem, hc]) rfl ⟨rfl, set11 hb3⟩

set_option maxRecDepth 100000 in
set_option maxHeartbeats 1000000 in
theorem At_wide (b o cap n k : Nat) (x y u v : Int) (hcap : n ≤ cap) (hm : cap ≤ maxLen) (hn : k + 4 ≤ n) (hx : 0 ≤ x ∧ x ≤ 255) (hy : 0 ≤ y ∧ y ≤ 255) (hg : beg (x + y * 256) = true) (hu : 0 ≤ u ∧ u ≤ 255) (hv : 0 ≤ v ∧ v ≤ 255) (w : World) (hL : Laid w)
    (h0 : w.cell? ⟨b, o + k, none⟩ = some (.int .u8 x)) (h1 : w.cell? ⟨b, o + k + 1, none⟩ = some (.int .u8 y)) (h2 : w.cell? ⟨b, o + k + 2, none⟩ = some (.int .u8 u)) (h3 : w.cell? ⟨b, o + k + 3, none⟩ = some (.int .u8 v)) :
    Calls Tryd.prog 9 #[.slice (some ⟨b, o, none⟩) n cap, .int .i64 k] w (OfPost ((x + y * 256) * 65536 + (u + v * 256)) true w) := by
  have hB := (Below.refl w.heap.size w).alloc (Nat.le_refl _) (.cells #[.int .i64 0, .int .i64 0, .int .i64 0, .int .i64 0, .int .i64 0, .int .i64 0, .int .i64 0, .int .i64 0, .int .i64 0, .int .i64 0, .int .i64 0] 36)
  have hl0 := cell_lt h0
  have g0 := (hB.cell (p := ⟨b, o + k, none⟩) hl0).trans h0
  have g1 := (hB.cell (p := ⟨b, o + k + 1, none⟩) hl0).trans h1
  have g2 := (hB.cell (p := ⟨b, o + k + 2, none⟩) hl0).trans h2
  have g3 := (hB.cell (p := ⟨b, o + k + 3, none⟩) hl0).trans h3
  clear h0 h1 h2 h3
  go_enter Tryd.func9, Tryd.ntmps9
  go_wp2_with fail
  refine (half_any _ _ _ _ _ _ (by omega) hx hy _ g0 g1).mono ?_
  rintro e w1 ⟨rfl, m, rfl⟩
  go_wp2_with fail
  refine (Begins_any _ (by omega) (by omega) _).mono ?_
  rintro e w1 ⟨rfl, rfl⟩
  have hD := below_drewN (w.alloc (.cells #[.int .i64 0, .int .i64 0, .int .i64 0, .int .i64 0, .int .i64 0, .int .i64 0, .int .i64 0, .int .i64 0, .int .i64 0, .int .i64 0, .int .i64 0] 36)) (m + 1)
  have hlB := hB.size
  have g2 := (hD.cell (p := ⟨b, o + k + 2, none⟩) (Nat.lt_of_lt_of_le hl0 hlB)).trans g2
  have g3 := (hD.cell (p := ⟨b, o + k + 2 + 1, none⟩) (Nat.lt_of_lt_of_le hl0 hlB)).trans g3
  have hs1 : ¬ ((n - k : Nat) : Int) < 4 := by omega
  clear g0 g1
  go_wp2_with fail
  refine (half_any _ _ _ _ _ _ (by omega) hu hv _ g2 g3).mono ?_
  rintro e w1 ⟨rfl, m2, rfl⟩
  go_wp2_with fail
  have hb0 := hB.trans ((below_drewN (w.alloc (.cells #[.int .i64 0, .int .i64 0, .int .i64 0, .int .i64 0, .int .i64 0, .int .i64 0, .int .i64 0, .int .i64 0, .int .i64 0, .int .i64 0, .int .i64 0] 36)) (m + 1 + m2)).mono hB.size)
  rw [or_halves (by omega) (by omega)]
  refine (Of_any _ true (by omega) (by omega) _ (hL.below hb0)).mono ?_
  rintro e w2 ⟨hb2, hp⟩
  have hb3 := hb0.trans (hb2.mono hb0.size)
  obtain ⟨hc, hfz⟩ := bcell hb2
  rcases hp with ⟨f, rd, rn, rm, ra, im, kd, bs, st, cd, rg, hH, rfl⟩ | ⟨hn, rfl⟩
  · go_wp2_with fail
    exact bodyPost_ret (v := .tuple #[.agg #[.int .i64 f, .int .i64 rd, .int .i64 rn, .int .i64 rm, .int .i64 ra, .int .i64 im, .int .i64 kd, .int .i64 bs, .int .i64 st, .int .i64 cd, .int .i64 rg], .int .i64 0]) (by simp [results, Tryd.results9, go_sem, hc]) rfl (ofPost_yes (set11 hb3) hH)
  · go_wp2_with fail
    exact bodyPost_ret (v := .tuple #[.agg #[.int .i64 0, .int .i64 0, .int .i64 0, .int .i64 0, .int .i64 0, .int .i64 0, .int .i64 0, .int .i64 0, .int .i64 0, .int .i64 0, .int .i64 0], .int .i64 40]) (by simp [results, Tryd.results9, go_sem, hc]) rfl (ofPost_no (set11 hb3) hn)

set_option maxRecDepth 100000 in
set_option maxHeartbeats 1000000 in
theorem At_nil (w : World) :
    Calls Tryd.prog 9 #[.slice none 0 0, .int .i64 0] w fun e w' => e = .returned (.tuple #[.agg #[.int .i64 0, .int .i64 0, .int .i64 0, .int .i64 0, .int .i64 0, .int .i64 0, .int .i64 0, .int .i64 0, .int .i64 0, .int .i64 0, .int .i64 0], .int .i64 41]) ∧ Below w.heap.size w w' := by
  have hB := (Below.refl w.heap.size w).alloc (Nat.le_refl _) (.cells #[.int .i64 0, .int .i64 0, .int .i64 0, .int .i64 0, .int .i64 0, .int .i64 0, .int .i64 0, .int .i64 0, .int .i64 0, .int .i64 0, .int .i64 0] 36)
  go_enter Tryd.func9, Tryd.ntmps9
  go_wp2_with fail
  exact bodyPost_ret (v := .tuple #[.agg #[.int .i64 0, .int .i64 0, .int .i64 0, .int .i64 0, .int .i64 0, .int .i64 0, .int .i64 0, .int .i64 0, .int .i64 0, .int .i64 0, .int .i64 0], .int .i64 41]) (by simp [results, Tryd.results9, go_sem]) rfl ⟨rfl, hB⟩

end Go.Proofs.YtegefbndpkbooaaDoor.Code

