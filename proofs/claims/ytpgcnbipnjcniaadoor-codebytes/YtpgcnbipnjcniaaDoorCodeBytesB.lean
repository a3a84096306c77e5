/- The statement CodeBytes: its walk. -/
import Derived.Test.YtpgcnbipnjcniaaDoorCodeBytesA
import Derived.Laws.CopyOwn
import Derived.Laws.AppendOwnNone
import Derived.Laws.OwnMore
import Derived.Deep.QuietTactic
import Derived.BigQuiet
import Derived.Deep.Cut
import Derived.Deep.RegionHeld3
import Derived.Deep.Light
set_option linter.unusedVariables false
set_option linter.unusedSimpArgs false
namespace Go.Proofs.YtpgcnbipnjcniaaDoor.Code
open Go.RowKit Go.Proofs.YtpgcnbipnjcniaaDoor.Alu Go.Proofs.YtpgcnbipnjcniaaDoor.Imm Go.Proofs.YtpgcnbipnjcniaaDoor.Inst

theorem _root_.Go.Proofs.YtpgcnbipnjcniaaDoor.Args.Ints.below {w w' : World} {k : IntKind} {p : Option Addr} {n cap : Nat} {z : List Int} (I : Args.Ints w k p n cap z) (h : Below w.heap.size w w') : Args.Ints w' k p n cap z :=
  ⟨I.le, I.max, I.len, I.wf, I.cells.imp id fun ⟨b, o, hp, hb, hc⟩ => ⟨b, o, hp, Nat.lt_of_lt_of_le hb h.size, fun i hi => (h.cell (p := ⟨b, o + i, none⟩) hb).trans (hc i hi)⟩⟩

theorem boxed {w2 w' : World} {f rd rn rm ra im kd bs st cd rg : Int} (h : Below (w2.alloc (.cells #[.int .i64 f, .int .i64 rd, .int .i64 rn, .int .i64 rm, .int .i64 ra, .int .i64 im, .int .i64 kd, .int .i64 bs, .int .i64 st, .int .i64 cd, .int .i64 rg] 25)).heap.size (w2.alloc (.cells #[.int .i64 f, .int .i64 rd, .int .i64 rn, .int .i64 rm, .int .i64 ra, .int .i64 im, .int .i64 kd, .int .i64 bs, .int .i64 st, .int .i64 cd, .int .i64 rg] 25)) w') : w'.cell? ⟨w2.heap.size, 0, none⟩ = some (.int .i64 f) ∧ w'.cell? ⟨w2.heap.size, 1, none⟩ = some (.int .i64 rd) ∧ w'.cell? ⟨w2.heap.size, 2, none⟩ = some (.int .i64 rn) ∧ w'.cell? ⟨w2.heap.size, 3, none⟩ = some (.int .i64 rm) ∧ w'.cell? ⟨w2.heap.size, 4, none⟩ = some (.int .i64 ra) ∧ w'.cell? ⟨w2.heap.size, 5, none⟩ = some (.int .i64 im) ∧ w'.cell? ⟨w2.heap.size, 6, none⟩ = some (.int .i64 kd) ∧ w'.cell? ⟨w2.heap.size, 7, none⟩ = some (.int .i64 bs) ∧ w'.cell? ⟨w2.heap.size, 8, none⟩ = some (.int .i64 st) ∧ w'.cell? ⟨w2.heap.size, 9, none⟩ = some (.int .i64 cd) ∧ w'.cell? ⟨w2.heap.size, 10, none⟩ = some (.int .i64 rg) :=
  ⟨box_of h rfl, box_of h rfl, box_of h rfl, box_of h rfl, box_of h rfl, box_of h rfl, box_of h rfl, box_of h rfl, box_of h rfl, box_of h rfl, box_of h rfl⟩
theorem laid11 {w5 : World} {g : Nat} {v0 v1 v2 v3 v4 v5 v6 v7 v8 v9 v10 : Value} (z0 : w5.cell? ⟨g, 0, none⟩ = some (.int .i64 0)) (z1 : w5.cell? ⟨g, 1, none⟩ = some (.int .i64 0)) (z2 : w5.cell? ⟨g, 2, none⟩ = some (.int .i64 0)) (z3 : w5.cell? ⟨g, 3, none⟩ = some (.int .i64 0)) (z4 : w5.cell? ⟨g, 4, none⟩ = some (.int .i64 0)) (z5 : w5.cell? ⟨g, 5, none⟩ = some (.int .i64 0)) (z6 : w5.cell? ⟨g, 6, none⟩ = some (.int .i64 0)) (z7 : w5.cell? ⟨g, 7, none⟩ = some (.int .i64 0)) (z8 : w5.cell? ⟨g, 8, none⟩ = some (.int .i64 0)) (z9 : w5.cell? ⟨g, 9, none⟩ = some (.int .i64 0)) (z10 : w5.cell? ⟨g, 10, none⟩ = some (.int .i64 0)) : ((((((((((((w5).setCell ⟨g, 0, none⟩ v0).setCell ⟨g, 1, none⟩ v1).setCell ⟨g, 2, none⟩ v2).setCell ⟨g, 3, none⟩ v3).setCell ⟨g, 4, none⟩ v4).setCell ⟨g, 5, none⟩ v5).setCell ⟨g, 6, none⟩ v6).setCell ⟨g, 7, none⟩ v7).setCell ⟨g, 8, none⟩ v8).setCell ⟨g, 9, none⟩ v9).setCell ⟨g, 10, none⟩ v10).cell? ⟨g, 0, none⟩ = some v0 ∧ ((((((((((((w5).setCell ⟨g, 0, none⟩ v0).setCell ⟨g, 1, none⟩ v1).setCell ⟨g, 2, none⟩ v2).setCell ⟨g, 3, none⟩ v3).setCell ⟨g, 4, none⟩ v4).setCell ⟨g, 5, none⟩ v5).setCell ⟨g, 6, none⟩ v6).setCell ⟨g, 7, none⟩ v7).setCell ⟨g, 8, none⟩ v8).setCell ⟨g, 9, none⟩ v9).setCell ⟨g, 10, none⟩ v10).cell? ⟨g, 1, none⟩ = some v1 ∧ ((((((((((((w5).setCell ⟨g, 0, none⟩ v0).setCell ⟨g, 1, none⟩ v1).setCell ⟨g, 2, none⟩ v2).setCell ⟨g, 3, none⟩ v3).setCell ⟨g, 4, none⟩ v4).setCell ⟨g, 5, none⟩ v5).setCell ⟨g, 6, none⟩ v6).setCell ⟨g, 7, none⟩ v7).setCell ⟨g, 8, none⟩ v8).setCell ⟨g, 9, none⟩ v9).setCell ⟨g, 10, none⟩ v10).cell? ⟨g, 2, none⟩ = some v2 ∧ ((((((((((((w5).setCell ⟨g, 0, none⟩ v0).setCell ⟨g, 1, none⟩ v1).setCell ⟨g, 2, none⟩ v2).setCell ⟨g, 3, none⟩ v3).setCell ⟨g, 4, none⟩ v4).setCell ⟨g, 5, none⟩ v5).setCell ⟨g, 6, none⟩ v6).setCell ⟨g, 7, none⟩ v7).setCell ⟨g, 8, none⟩ v8).setCell ⟨g, 9, none⟩ v9).setCell ⟨g, 10, none⟩ v10).cell? ⟨g, 3, none⟩ = some v3 ∧ ((((((((((((w5).setCell ⟨g, 0, none⟩ v0).setCell ⟨g, 1, none⟩ v1).setCell ⟨g, 2, none⟩ v2).setCell ⟨g, 3, none⟩ v3).setCell ⟨g, 4, none⟩ v4).setCell ⟨g, 5, none⟩ v5).setCell ⟨g, 6, none⟩ v6).setCell ⟨g, 7, none⟩ v7).setCell ⟨g, 8, none⟩ v8).setCell ⟨g, 9, none⟩ v9).setCell ⟨g, 10, none⟩ v10).cell? ⟨g, 4, none⟩ = some v4 ∧ ((((((((((((w5).setCell ⟨g, 0, none⟩ v0).setCell ⟨g, 1, none⟩ v1).setCell ⟨g, 2, none⟩ v2).setCell ⟨g, 3, none⟩ v3).setCell ⟨g, 4, none⟩ v4).setCell ⟨g, 5, none⟩ v5).setCell ⟨g, 6, none⟩ v6).setCell ⟨g, 7, none⟩ v7).setCell ⟨g, 8, none⟩ v8).setCell ⟨g, 9, none⟩ v9).setCell ⟨g, 10, none⟩ v10).cell? ⟨g, 5, none⟩ = some v5 ∧ ((((((((((((w5).setCell ⟨g, 0, none⟩ v0).setCell ⟨g, 1, none⟩ v1).setCell ⟨g, 2, none⟩ v2).setCell ⟨g, 3, none⟩ v3).setCell ⟨g, 4, none⟩ v4).setCell ⟨g, 5, none⟩ v5).setCell ⟨g, 6, none⟩ v6).setCell ⟨g, 7, none⟩ v7).setCell ⟨g, 8, none⟩ v8).setCell ⟨g, 9, none⟩ v9).setCell ⟨g, 10, none⟩ v10).cell? ⟨g, 6, none⟩ = some v6 ∧ ((((((((((((w5).setCell ⟨g, 0, none⟩ v0).setCell ⟨g, 1, none⟩ v1).setCell ⟨g, 2, none⟩ v2).setCell ⟨g, 3, none⟩ v3).setCell ⟨g, 4, none⟩ v4).setCell ⟨g, 5, none⟩ v5).setCell ⟨g, 6, none⟩ v6).setCell ⟨g, 7, none⟩ v7).setCell ⟨g, 8, none⟩ v8).setCell ⟨g, 9, none⟩ v9).setCell ⟨g, 10, none⟩ v10).cell? ⟨g, 7, none⟩ = some v7 ∧ ((((((((((((w5).setCell ⟨g, 0, none⟩ v0).setCell ⟨g, 1, none⟩ v1).setCell ⟨g, 2, none⟩ v2).setCell ⟨g, 3, none⟩ v3).setCell ⟨g, 4, none⟩ v4).setCell ⟨g, 5, none⟩ v5).setCell ⟨g, 6, none⟩ v6).setCell ⟨g, 7, none⟩ v7).setCell ⟨g, 8, none⟩ v8).setCell ⟨g, 9, none⟩ v9).setCell ⟨g, 10, none⟩ v10).cell? ⟨g, 8, none⟩ = some v8 ∧ ((((((((((((w5).setCell ⟨g, 0, none⟩ v0).setCell ⟨g, 1, none⟩ v1).setCell ⟨g, 2, none⟩ v2).setCell ⟨g, 3, none⟩ v3).setCell ⟨g, 4, none⟩ v4).setCell ⟨g, 5, none⟩ v5).setCell ⟨g, 6, none⟩ v6).setCell ⟨g, 7, none⟩ v7).setCell ⟨g, 8, none⟩ v8).setCell ⟨g, 9, none⟩ v9).setCell ⟨g, 10, none⟩ v10).cell? ⟨g, 9, none⟩ = some v9 ∧ ((((((((((((w5).setCell ⟨g, 0, none⟩ v0).setCell ⟨g, 1, none⟩ v1).setCell ⟨g, 2, none⟩ v2).setCell ⟨g, 3, none⟩ v3).setCell ⟨g, 4, none⟩ v4).setCell ⟨g, 5, none⟩ v5).setCell ⟨g, 6, none⟩ v6).setCell ⟨g, 7, none⟩ v7).setCell ⟨g, 8, none⟩ v8).setCell ⟨g, 9, none⟩ v9).setCell ⟨g, 10, none⟩ v10).cell? ⟨g, 10, none⟩ = some v10 := by
  refine ⟨?_, ?_, ?_, ?_, ?_, ?_, ?_, ?_, ?_, ?_, ?_⟩ <;> simp [go_sem, z0, z1, z2, z3, z4, z5, z6, z7, z8, z9, z10]
theorem below_ad (w : World) (o : Obj) : Below w.heap.size w (w.alloc o).drew := ((Below.refl _ _).alloc (Nat.le_refl _) o).drew
theorem below_da (w : World) (o : Obj) : Below w.heap.size w (w.drew.alloc o) := (drew_below w).alloc (drew_below w).size o
theorem zeros11 {W0 w5 : World} (hb : Below (W0.alloc (.cells #[.int .i64 0, .int .i64 0, .int .i64 0, .int .i64 0, .int .i64 0, .int .i64 0, .int .i64 0, .int .i64 0, .int .i64 0, .int .i64 0, .int .i64 0] 25)).heap.size (W0.alloc (.cells #[.int .i64 0, .int .i64 0, .int .i64 0, .int .i64 0, .int .i64 0, .int .i64 0, .int .i64 0, .int .i64 0, .int .i64 0, .int .i64 0, .int .i64 0] 25)) w5) : (w5.cell? ⟨W0.heap.size, 0, none⟩ = some (.int .i64 0) ∧ w5.cell? ⟨W0.heap.size, 1, none⟩ = some (.int .i64 0) ∧ w5.cell? ⟨W0.heap.size, 2, none⟩ = some (.int .i64 0) ∧ w5.cell? ⟨W0.heap.size, 3, none⟩ = some (.int .i64 0) ∧ w5.cell? ⟨W0.heap.size, 4, none⟩ = some (.int .i64 0) ∧ w5.cell? ⟨W0.heap.size, 5, none⟩ = some (.int .i64 0) ∧ w5.cell? ⟨W0.heap.size, 6, none⟩ = some (.int .i64 0) ∧ w5.cell? ⟨W0.heap.size, 7, none⟩ = some (.int .i64 0) ∧ w5.cell? ⟨W0.heap.size, 8, none⟩ = some (.int .i64 0) ∧ w5.cell? ⟨W0.heap.size, 9, none⟩ = some (.int .i64 0) ∧ w5.cell? ⟨W0.heap.size, 10, none⟩ = some (.int .i64 0)) ∧ (w5.frozen? ⟨W0.heap.size, 0, none⟩ = false ∧ w5.frozen? ⟨W0.heap.size, 1, none⟩ = false ∧ w5.frozen? ⟨W0.heap.size, 2, none⟩ = false ∧ w5.frozen? ⟨W0.heap.size, 3, none⟩ = false ∧ w5.frozen? ⟨W0.heap.size, 4, none⟩ = false ∧ w5.frozen? ⟨W0.heap.size, 5, none⟩ = false ∧ w5.frozen? ⟨W0.heap.size, 6, none⟩ = false ∧ w5.frozen? ⟨W0.heap.size, 7, none⟩ = false ∧ w5.frozen? ⟨W0.heap.size, 8, none⟩ = false ∧ w5.frozen? ⟨W0.heap.size, 9, none⟩ = false ∧ w5.frozen? ⟨W0.heap.size, 10, none⟩ = false) :=
  ⟨⟨box_of (w := W0) hb rfl, box_of (w := W0) hb rfl, box_of (w := W0) hb rfl, box_of (w := W0) hb rfl, box_of (w := W0) hb rfl, box_of (w := W0) hb rfl, box_of (w := W0) hb rfl, box_of (w := W0) hb rfl, box_of (w := W0) hb rfl, box_of (w := W0) hb rfl, box_of (w := W0) hb rfl⟩, ⟨((bcell hb).2 W0.heap.size 0 (by simp)).trans (by simp [go_sem]), ((bcell hb).2 W0.heap.size 1 (by simp)).trans (by simp [go_sem]), ((bcell hb).2 W0.heap.size 2 (by simp)).trans (by simp [go_sem]), ((bcell hb).2 W0.heap.size 3 (by simp)).trans (by simp [go_sem]), ((bcell hb).2 W0.heap.size 4 (by simp)).trans (by simp [go_sem]), ((bcell hb).2 W0.heap.size 5 (by simp)).trans (by simp [go_sem]), ((bcell hb).2 W0.heap.size 6 (by simp)).trans (by simp [go_sem]), ((bcell hb).2 W0.heap.size 7 (by simp)).trans (by simp [go_sem]), ((bcell hb).2 W0.heap.size 8 (by simp)).trans (by simp [go_sem]), ((bcell hb).2 W0.heap.size 9 (by simp)).trans (by simp [go_sem]), ((bcell hb).2 W0.heap.size 10 (by simp)).trans (by simp [go_sem])⟩⟩
theorem Of_from0 {W0 : World} (hL : Laid W0) (W : Int) (wide : Bool) (h0 : 0 ≤ W) (h1 : W < 4294967296) :
    Calls Tryd.prog 10 #[.int .u32 W, .bool wide] W0.drew fun e w' => Below W0.heap.size W0 w' ∧ ∃ f rd rn rm ra im kd bs st cd rg en : Int, OfR W wide f rd rn rm ra im kd bs st cd rg en ∧ e = .returned (.tuple #[.agg #[.int .i64 f, .int .i64 rd, .int .i64 rn, .int .i64 rm, .int .i64 ra, .int .i64 im, .int .i64 kd, .int .i64 bs, .int .i64 st, .int .i64 cd, .int .i64 rg], .int .i64 en]) :=
  (Of_any W wide h0 h1 W0.drew (hL.below (drew_below W0))).mono fun e w' hp => ⟨next (drew_below W0) (ofR_of hp).1, (ofR_of hp).2⟩

theorem Of_from1 {W0 : World} (hL : Laid W0) (W : Int) (wide : Bool) (h0 : 0 ≤ W) (h1 : W < 4294967296) :
    Calls Tryd.prog 10 #[.int .u32 W, .bool wide] (W0.alloc (.cells #[.int .i64 0, .int .i64 0, .int .i64 0, .int .i64 0, .int .i64 0, .int .i64 0, .int .i64 0, .int .i64 0, .int .i64 0, .int .i64 0, .int .i64 0] 25)).drew fun e w' => Below W0.heap.size W0 w' ∧ ((w'.cell? ⟨W0.heap.size, 0, none⟩ = some (.int .i64 0) ∧ w'.cell? ⟨W0.heap.size, 1, none⟩ = some (.int .i64 0) ∧ w'.cell? ⟨W0.heap.size, 2, none⟩ = some (.int .i64 0) ∧ w'.cell? ⟨W0.heap.size, 3, none⟩ = some (.int .i64 0) ∧ w'.cell? ⟨W0.heap.size, 4, none⟩ = some (.int .i64 0) ∧ w'.cell? ⟨W0.heap.size, 5, none⟩ = some (.int .i64 0) ∧ w'.cell? ⟨W0.heap.size, 6, none⟩ = some (.int .i64 0) ∧ w'.cell? ⟨W0.heap.size, 7, none⟩ = some (.int .i64 0) ∧ w'.cell? ⟨W0.heap.size, 8, none⟩ = some (.int .i64 0) ∧ w'.cell? ⟨W0.heap.size, 9, none⟩ = some (.int .i64 0) ∧ w'.cell? ⟨W0.heap.size, 10, none⟩ = some (.int .i64 0)) ∧ (w'.frozen? ⟨W0.heap.size, 0, none⟩ = false ∧ w'.frozen? ⟨W0.heap.size, 1, none⟩ = false ∧ w'.frozen? ⟨W0.heap.size, 2, none⟩ = false ∧ w'.frozen? ⟨W0.heap.size, 3, none⟩ = false ∧ w'.frozen? ⟨W0.heap.size, 4, none⟩ = false ∧ w'.frozen? ⟨W0.heap.size, 5, none⟩ = false ∧ w'.frozen? ⟨W0.heap.size, 6, none⟩ = false ∧ w'.frozen? ⟨W0.heap.size, 7, none⟩ = false ∧ w'.frozen? ⟨W0.heap.size, 8, none⟩ = false ∧ w'.frozen? ⟨W0.heap.size, 9, none⟩ = false ∧ w'.frozen? ⟨W0.heap.size, 10, none⟩ = false)) ∧ ∃ f rd rn rm ra im kd bs st cd rg en : Int, OfR W wide f rd rn rm ra im kd bs st cd rg en ∧ e = .returned (.tuple #[.agg #[.int .i64 f, .int .i64 rd, .int .i64 rn, .int .i64 rm, .int .i64 ra, .int .i64 im, .int .i64 kd, .int .i64 bs, .int .i64 st, .int .i64 cd, .int .i64 rg], .int .i64 en]) :=
  (Of_any W wide h0 h1 _ (hL.below (below_ad W0 _))).mono fun e w' hp => ⟨next (below_ad W0 _) (ofR_of hp).1, zeros11 (next (drew_below _) (ofR_of hp).1), (ofR_of hp).2⟩

theorem below_new (w : World) (o : Obj) : Below w.heap.size w (w.alloc o) := (Below.refl _ _).alloc (Nat.le_refl _) o
theorem keepc {w w' : World} {b i : Nat} {v : Value} (hb : Below w.heap.size w w') (h : w.cell? ⟨b, i, none⟩ = some v) : w'.cell? ⟨b, i, none⟩ = some v := ((bcell hb).1 b i (cell_lt h)).trans h
theorem wrap_w {x : Int} (h0 : 0 ≤ x) (h1 : x < 4294967296) : IntKind.u32.wrap x = x := by
  simp [IntKind.wrap, IntKind.signed, IntKind.bits]; omega
theorem or_three {H u v : Int} (hH : 0 ≤ H ∧ H ≤ 65535) (hu : 0 ≤ u ∧ u ≤ 255) (hv : 0 ≤ v ∧ v ≤ 255) : bits .or .u32 (bits .or .u32 (H * 65536) u) (v * 256) = H * 65536 + (u + v * 256) := by
  have a := in_piece 16 16 65536 4294901760 H (H * 65536) rfl rfl hH.1 (by omega) (by decide) rfl
  have b := in_piece 8 0 1 255 u u rfl rfl hu.1 (by omega) (by decide) (by omega)
  have c := in_piece 8 8 256 65280 v (v * 256) rfl rfl hv.1 (by omega) (by decide) rfl
  have j := in_join a b (by decide)
  rw [j.1, (in_join j.2 c (by decide)).1]; omega
theorem hf_bd {w : World} {p : Option Addr} {n cap : Nat} {z : List Int} (I : Args.Ints w .u8 p n cap z) (k : Nat) : 0 ≤ hf z k ∧ hf z k ≤ 65535 := by
  have h1 := zb I k
  have h2 := zb I (k + 1)
  unfold hf; omega

theorem u8s_one (l : List Int) : ∀ u ∈ u8s l, u.oneCell' = true := by
  intro u hu
  simp only [u8s, List.mem_map] at hu
  obtain ⟨_, _, rfl⟩ := hu
  rfl
theorem byt_bd (W : Int) (b : Bool) : 0 < (byt W b).length ∧ (byt W b).length ≤ 4 := by unfold byt; split <;> simp
theorem u8s_len (l : List Int) : (u8s l).length = l.length := by simp [u8s]
theorem add_off (g j : Nat) : (⟨g, 0, none⟩ : Addr).add j = ⟨g, j, none⟩ := by unfold Addr.add; split <;> simp_all

set_option maxRecDepth 100000 in
set_option maxHeartbeats 8000000 in
theorem bytes_in (f rd rn rm ra im kd bs st cd rg : Int) (g0 : -9223372036854775808 ≤ rg) (g1 : rg ≤ 9223372036854775807) (p : Option Addr) (n cap k : Nat) (z : List Int) (hn : n ≤ 200) (hk : k ≤ n) (w : World) (hL : Laid w) (I : Args.Ints w .u8 p n cap z) :
    Calls Tryd.prog 3 #[.slice p n cap, .int .i64 k, .agg #[.int .i64 f, .int .i64 rd, .int .i64 rn, .int .i64 rm, .int .i64 ra, .int .i64 im, .int .i64 kd, .int .i64 bs, .int .i64 st, .int .i64 cd, .int .i64 rg]] w fun e w' => e = .returned (.bool true) ∧ Below w.heap.size w w' := by
  have hB := (Below.refl w.heap.size w).alloc (Nat.le_refl _) (.cells #[.int .i64 f, .int .i64 rd, .int .i64 rn, .int .i64 rm, .int .i64 ra, .int .i64 im, .int .i64 kd, .int .i64 bs, .int .i64 st, .int .i64 cd, .int .i64 rg] 25)
  have h200 : ¬ (200 : Int) < (n : Int) := by omega
  have hk2 : ¬ (n : Int) < (k : Int) := by omega
  have hk0 : ¬ (k : Int) < 0 := by omega
  go_enter Tryd.func3, Tryd.ntmps3
  go_wp2_with fail
  refine (anchor4_any _ (hL.alloc _)).mono ?_
  rintro e w1 ⟨rfl, hb1⟩
  have hB1 := hB.trans (hb1.mono hB.size)
  have hL1 := hL.below hB1
  go_wp2_with fail
  refine (At_any (I.below hB1) hk hL1).mono ?_
  rintro e w2 ⟨hb2, f', rd', rn', rm', ra', im', kd', bs', st', cd', rg', en, hR, rfl⟩
  have hb3 := next hb1 hb2
  have hb4 := hb3.alloc hb3.size (.cells #[.int .i64 f', .int .i64 rd', .int .i64 rn', .int .i64 rm', .int .i64 ra', .int .i64 im', .int .i64 kd', .int .i64 bs', .int .i64 st', .int .i64 cd', .int .i64 rg'] 25)
  have hL4 : Laid (w2.alloc (.cells #[.int .i64 f', .int .i64 rd', .int .i64 rn', .int .i64 rm', .int .i64 ra', .int .i64 im', .int .i64 kd', .int .i64 bs', .int .i64 st', .int .i64 cd', .int .i64 rg'] 25)) := (hL.alloc _).below hb4
  obtain ⟨hc, hf⟩ := bcell hb4
  clear hb1 hb2 hb3
  go_wp2_with fail
  refine (Bytes_any _ _ _ _ _ _ _ _ _ _ _ g0 g1 _ hL4).mono ?_
  rintro e w3 ⟨hb5, v, ef, rfl, hO⟩
  have hb6 := next hb4 hb5
  have hb7 := hB.trans (hb6.mono hB.size)
  clear hc hf
  go_upto_if 51 with fail
  go_cut [] from 11 (fun wx => Below w3.heap.size w3 wx)
  case first =>
    rcases hO with ⟨hr, rfl, ho⟩ | rfl
    · obtain ⟨i0, hi, hz0, hz1, hz2⟩ := info_parts infoU8
      have hlit := World.ownsRow_lit (base := w3.heap.size) (e := 5) (size := 1) w3 #[] 0 (Nat.le_refl _) (by decide) rfl
      have hlz : (u8s (z.take k)).length = k := by have := I.len; have := I.le; simp [u8s]; omega
      have hlb := byt_bd (wd f rd rn rm ra im kd bs st cd rg) (wdF f)
      have hkc : k ≤ cap := Nat.le_trans hk I.le
      have hL3 := hL.below hb7
      obtain ⟨g, gc, rfl, hg0, hg1, hgc, hgm, hgcell⟩ := own_slice ho hlb.1
      rcases shape I with ⟨rfl, rfl, rfl⟩ | ⟨a, rfl, rfl, rfl⟩ | ⟨b, o, rfl, hb, hcl⟩
      · obtain rfl : k = 0 := by omega
        have hb8 : Below w3.heap.size w3 (w3.alloc (.cells #[] 5)) := (Below.refl w3.heap.size w3).alloc (Nat.le_refl _) (.cells #[] 5)
        have hown1 := hlit
        go_wp2_with (first | (at_builtin; refine wpList_append_own_none rfl (.tmp 53) (.tmp 56) 22 rfl w3.heap.size 5 i0 1 Tryd.underlying22 hi _ 0 [] rfl hlit rfl ?_) | (at_builtin; refine wpList_append_own _ rfl (.tmp 57) (.tmp 58) 22 rfl w3.heap.size 5 i0 (.int .u8 0) 1 1 Tryd.underlying22 hi hz0 hz1 hz2 rfl (by decide) _ 0 [] rfl hown1 ⟨g, 0, none⟩ (byt (wd f rd rn rm ra im kd bs st cd rg) (wdF f)).length _ (u8s (byt (wd f rd rn rm ra im kd bs st cd rg) (wdF f))) rfl ?md0 ?md1 ?md2 ?md3 ?md4 hb8.size ?_))
        case md0 => exact u8s_len _
        case md1 => intro j u hj; exact hgcell j u hj
        case md2 => exact u8s_one _
        case md3 => unfold maxLen; omega
        case md4 => omega
        intro v2 w5 hown2 hgrow2 _
        have hb9 : Below w3.heap.size w3 w5 := hb8.grown hgrow2 hb8.size (fun j hj => (hown1.lt j hj).1)
        have hL5 := hL3.below hb9
        go_wp2_with fail
        refine (At_own _ _ _ _ _ _ _ _ _ _ _ hr g0 g1 w3.heap.size _ 0 [] rfl _ hL5 (by simpa using hown2)).mono ?_
        rintro e w6 ⟨rfl, hb10⟩
        have hb11 := hb9.trans (hb10.mono hb9.size)
        have hb12 := hb11.alloc hb11.size (.cells #[.int .i64 f, .int .i64 rd, .int .i64 rn, .int .i64 rm, .int .i64 ra, .int .i64 im, .int .i64 kd, .int .i64 bs, .int .i64 st, .int .i64 cd, .int .i64 rg] 25)
        obtain ⟨hc, hf⟩ := bcell (next hb6 hb12)
        have hN := fun w => neq_inst w f rd rn rm ra im kd bs st cd rg f rd rn rm ra im kd bs st cd rg
        simp only [same_yes, Bool.not_true] at hN
        go_wp2_with fail
        go_meet
        case rel => exact hb12
      · obtain rfl : k = 0 := by omega
        go_wp2_with (at_builtin; refine wpList_append_own _ rfl (.tmp 53) (.tmp 56) 22 rfl w3.heap.size 5 i0 (.int .u8 0) 1 1 Tryd.underlying22 hi hz0 hz1 hz2 rfl (by decide) _ 0 [] rfl hlit a 0 _ [] rfl rfl ?e1 ?e2 ?e3 ?e4 ?e5 ?_)
        intro v1 w4 hown1 hgrow1 _
        have hb8 : Below w3.heap.size w3 w4 := ((Below.refl w3.heap.size w3).alloc (Nat.le_refl _) (.cells #[] 5)).grown hgrow1 (by simp) (fun j hj => (hlit.lt j hj).1)
        go_wp2_with (at_builtin; refine wpList_append_own _ rfl (.tmp 57) (.tmp 58) 22 rfl w3.heap.size 5 i0 (.int .u8 0) 1 1 Tryd.underlying22 hi hz0 hz1 hz2 rfl (by decide) _ 0 [] rfl hown1 ⟨g, 0, none⟩ (byt (wd f rd rn rm ra im kd bs st cd rg) (wdF f)).length _ (u8s (byt (wd f rd rn rm ra im kd bs st cd rg) (wdF f))) rfl ?nd0 ?nd1 ?nd2 ?nd3 ?nd4 hb8.size ?_)
        case nd0 => rw [u8s_len, Nat.mul_one]
        case nd1 => intro j u hj; rw [add_off]; exact (hb8.cell (p := ⟨g, j, none⟩) hg1).trans (hgcell j u hj)
        case nd2 => exact u8s_one _
        case nd3 => simp; unfold maxLen; omega
        case nd4 => simp; omega
        intro v2 w5 hown2 hgrow2 _
        have hb9 : Below w3.heap.size w3 w5 := hb8.grown hgrow2 hb8.size (fun j hj => (hown1.lt j hj).1)
        have hL5 := hL3.below hb9
        go_wp2_with fail
        refine (At_own _ _ _ _ _ _ _ _ _ _ _ hr g0 g1 w3.heap.size _ 0 [] rfl _ hL5 (by simpa using hown2)).mono ?_
        rintro e w6 ⟨rfl, hb10⟩
        have hb11 := hb9.trans (hb10.mono hb9.size)
        have hb12 := hb11.alloc hb11.size (.cells #[.int .i64 f, .int .i64 rd, .int .i64 rn, .int .i64 rm, .int .i64 ra, .int .i64 im, .int .i64 kd, .int .i64 bs, .int .i64 st, .int .i64 cd, .int .i64 rg] 25)
        obtain ⟨hc, hf⟩ := bcell (next hb6 hb12)
        have hN := fun w => neq_inst w f rd rn rm ra im kd bs st cd rg f rd rn rm ra im kd bs st cd rg
        simp only [same_yes, Bool.not_true] at hN
        go_wp2_with fail
        go_meet
        case rel => exact hb12
      · go_wp2_with (at_builtin; refine wpList_append_own _ rfl (.tmp 53) (.tmp 56) 22 rfl w3.heap.size 5 i0 (.int .u8 0) 1 1 Tryd.underlying22 hi hz0 hz1 hz2 rfl (by decide) _ 0 [] rfl hlit ⟨b, o, none⟩ k _ (u8s (z.take k)) rfl ?c0 ?c1 ?c2 ?c3 ?c4 ?c5 ?_)
        case c1 =>
          intro j u hj
          have hjk : j < k := by have := (List.getElem?_eq_some_iff.1 hj).1; omega
          have hbw : b < w3.heap.size := Nat.lt_of_lt_of_le hb hb7.size
          rw [u8s, List.getElem?_map, List.getElem?_take, if_pos hjk] at hj
          have hjz : j < z.length := by have := I.len; have := I.le; omega
          rw [List.getElem?_eq_getElem hjz] at hj
          have hx := hcl j (by have := I.le; omega)
          rw [List.getD_eq_getElem?_getD, List.getElem?_eq_getElem hjz] at hx
          refine (((Below.refl w3.heap.size w3).alloc (Nat.le_refl _) (.cells #[] 5)).cell (p := ⟨b, o + j, none⟩) hbw).trans ((hb7.cell (p := ⟨b, o + j, none⟩) hb).trans (hx.trans ?_))
          simpa using hj
        case c2 => exact u8s_one _
        case c3 => unfold maxLen; omega
        case c4 => omega
        intro v1 w4 hown1 hgrow1 _
        have hb8 : Below w3.heap.size w3 w4 := ((Below.refl w3.heap.size w3).alloc (Nat.le_refl _) (.cells #[] 5)).grown hgrow1 (by simp) (fun j hj => (hlit.lt j hj).1)
        go_wp2_with (at_builtin; refine wpList_append_own _ rfl (.tmp 57) (.tmp 58) 22 rfl w3.heap.size 5 i0 (.int .u8 0) 1 1 Tryd.underlying22 hi hz0 hz1 hz2 rfl (by decide) _ k _ rfl hown1 ⟨g, 0, none⟩ (byt (wd f rd rn rm ra im kd bs st cd rg) (wdF f)).length _ (u8s (byt (wd f rd rn rm ra im kd bs st cd rg) (wdF f))) rfl ?d0 ?d1 ?d2 ?d3 ?d4 hb8.size ?_)
        case d0 => rw [u8s_len, Nat.mul_one]
        case d1 => intro j u hj; rw [add_off]; exact (hb8.cell (p := ⟨g, j, none⟩) hg1).trans (hgcell j u hj)
        case d2 => exact u8s_one _
        case d3 => unfold maxLen; omega
        case d4 => omega
        intro v2 w5 hown2 hgrow2 _
        have hb9 : Below w3.heap.size w3 w5 := hb8.grown hgrow2 hb8.size (fun j hj => (hown1.lt j hj).1)
        have hL5 := hL3.below hb9
        go_wp2_with fail
        refine (At_own _ _ _ _ _ _ _ _ _ _ _ hr g0 g1 w3.heap.size _ k _ hlz _ hL5 hown2).mono ?_
        rintro e w6 ⟨rfl, hb10⟩
        have hb11 := hb9.trans (hb10.mono hb9.size)
        have hb12 := hb11.alloc hb11.size (.cells #[.int .i64 f, .int .i64 rd, .int .i64 rn, .int .i64 rm, .int .i64 ra, .int .i64 im, .int .i64 kd, .int .i64 bs, .int .i64 st, .int .i64 cd, .int .i64 rg] 25)
        obtain ⟨hc, hf⟩ := bcell (next hb6 hb12)
        have hN := fun w => neq_inst w f rd rn rm ra im kd bs st cd rg f rd rn rm ra im kd bs st cd rg
        simp only [same_yes, Bool.not_true] at hN
        go_wp2_with fail
        go_meet
        case rel => exact hb12
    · go_wp2_with fail
      go_meet
      case rel => exact Below.refl _ _
  case rest =>
    have hbc := hb7.trans (hcut.mono hb7.size)
    have hLc := hL.below hbc
    have hIc := I.below hbc
    have hcp := I.le
    rcases hR with ⟨hs, rfl⟩ | ⟨hs, hg, hR⟩ | ⟨hs, hs4, hg, rfl⟩ | ⟨hs, hg, hR⟩
    · have hs2 : ((n - k : Nat) : Int) < 2 := by omega
      rcases shape I with ⟨rfl, rfl, rfl⟩ | ⟨a, rfl, rfl, rfl⟩ | ⟨b, o, rfl, hb, hcl⟩
      · obtain rfl : k = 0 := by omega
        go_wp2_with fail
        go_ret
        exact ⟨rfl, hbc⟩
      · obtain rfl : k = 0 := by omega
        go_wp2_with fail
        go_ret
        exact ⟨rfl, hbc⟩
      · go_wp2_with fail
        all_goals
          go_ret
          exact ⟨rfl, hbc⟩
    · obtain ⟨b, o, rfl, hb, hcl⟩ : ∃ b o, p = some ⟨b, o, none⟩ ∧ b < w.heap.size ∧ ∀ i, i < cap → w.cell? ⟨b, o + i, none⟩ = some (.int .u8 (z.getD i 0)) := by
        rcases shape I with ⟨_, h, _⟩ | ⟨_, _, h, _⟩ | h
        · omega
        · omega
        · exact h
      have hs2 : ¬ ((n - k : Nat) : Int) < 2 := by omega
      have c0 : (0 : Int) < ((n - k : Nat) : Int) := by omega
      have c1 : (1 : Int) < ((n - k : Nat) : Int) := by omega
      have hx := zb I k
      have hy := zb I (k + 1)
      have x0 := (hbc.cell (p := ⟨b, o + k, none⟩) hb).trans (hcl k (by omega))
      have x1 : wc.cell? ⟨b, o + k + 1, none⟩ = some (.int .u8 (z.getD (k + 1) 0)) := (hbc.cell (p := ⟨b, o + k + 1, none⟩) hb).trans (hcl (k + 1) (by omega))
      unfold hf at hg hR
      generalize z.getD k 0 = x at *
      generalize z.getD (k + 1) 0 = y at *
      go_wp2_with fail
      go_quiet (fail)
      go_wp2_with fail
      rw [or_half hx hy]
      refine (Begins_any _ (by omega) (by omega) _).mono ?_
      rintro e w4 ⟨rfl, rfl⟩
      go_wp2_with fail
      refine (Of_any _ false (by omega) (by omega) _ (hLc.below (below_drewN _ _))).mono ?_
      rintro e w5 hp
      obtain ⟨hb9, f'', rd'', rn'', rm'', ra'', im'', kd'', bs'', st'', cd'', rg'', en', hR2, rfl⟩ := ofR_of hp
      obtain ⟨⟨rfl, rfl, rfl, rfl, rfl, rfl, rfl, rfl, rfl, rfl, rfl⟩, rfl⟩ := ofR_one hR hR2
      have hb10 := next hcut (next (below_drewN _ _) hb9)
      have hb11 := hbc.trans ((next (below_drewN _ _) hb9).mono hbc.size)
      have hb12 := hb10.alloc hb10.size (.cells #[.int .i64 f', .int .i64 rd', .int .i64 rn', .int .i64 rm', .int .i64 ra', .int .i64 im', .int .i64 kd', .int .i64 bs', .int .i64 st', .int .i64 cd', .int .i64 rg'] 25)
      have hb13 := hb11.alloc hb11.size (.cells #[.int .i64 f', .int .i64 rd', .int .i64 rn', .int .i64 rm', .int .i64 ra', .int .i64 im', .int .i64 kd', .int .i64 bs', .int .i64 st', .int .i64 cd', .int .i64 rg'] 25)
      obtain ⟨hc, hfz⟩ := bcell (next hb5 hb12)
      have hq := fun w => eql_inst w f' rd' rn' rm' ra' im' kd' bs' st' cd' rg' f' rd' rn' rm' ra' im' kd' bs' st' cd' rg'
      simp only [same_yes] at hq
      clear hb10 hb11 hb12 hb9 hb5 hb6 hcut
      go_wp2_with fail
      go_ret
      exact ⟨rfl, hb13⟩
    · obtain ⟨b, o, rfl, hb, hcl⟩ : ∃ b o, p = some ⟨b, o, none⟩ ∧ b < w.heap.size ∧ ∀ i, i < cap → w.cell? ⟨b, o + i, none⟩ = some (.int .u8 (z.getD i 0)) := by
        rcases shape I with ⟨_, h, _⟩ | ⟨_, _, h, _⟩ | h
        · omega
        · omega
        · exact h
      have hs2 : ¬ ((n - k : Nat) : Int) < 2 := by omega
      have hs3 : ((n - k : Nat) : Int) < 4 := by omega
      have c0 : (0 : Int) < ((n - k : Nat) : Int) := by omega
      have c1 : (1 : Int) < ((n - k : Nat) : Int) := by omega
      have hx := zb I k
      have hy := zb I (k + 1)
      have x0 := (hbc.cell (p := ⟨b, o + k, none⟩) hb).trans (hcl k (by omega))
      have x1 : wc.cell? ⟨b, o + k + 1, none⟩ = some (.int .u8 (z.getD (k + 1) 0)) := (hbc.cell (p := ⟨b, o + k + 1, none⟩) hb).trans (hcl (k + 1) (by omega))
      unfold hf at hg
      generalize z.getD k 0 = x at *
      generalize z.getD (k + 1) 0 = y at *
      go_wp2_with fail
      go_quiet (fail)
      go_wp2_with fail
      rw [or_half hx hy]
      refine (Begins_any _ (by omega) (by omega) _).mono ?_
      rintro e w4 ⟨rfl, rfl⟩
      go_wp2_with fail
      go_ret
      exact ⟨rfl, hbc.trans ((below_drewN _ _).mono hbc.size)⟩
    · obtain ⟨b, o, rfl, hb, hcl⟩ : ∃ b o, p = some ⟨b, o, none⟩ ∧ b < w.heap.size ∧ ∀ i, i < cap → w.cell? ⟨b, o + i, none⟩ = some (.int .u8 (z.getD i 0)) := by
        rcases shape I with ⟨_, h, _⟩ | ⟨_, _, h, _⟩ | h
        · omega
        · omega
        · exact h
      have hs2 : ¬ ((n - k : Nat) : Int) < 2 := by omega
      have hs3 : ¬ ((n - k : Nat) : Int) < 4 := by omega
      have c0 : (0 : Int) < ((n - k : Nat) : Int) := by omega
      have c1 : (1 : Int) < ((n - k : Nat) : Int) := by omega
      have c2 : (2 : Int) < ((n - k : Nat) : Int) := by omega
      have c3 : (3 : Int) < ((n - k : Nat) : Int) := by omega
      have hx := zb I k
      have hy := zb I (k + 1)
      have hu := zb I (k + 2)
      have hv := zb I (k + 3)
      have x0 := (hbc.cell (p := ⟨b, o + k, none⟩) hb).trans (hcl k (by omega))
      have x1 : wc.cell? ⟨b, o + k + 1, none⟩ = some (.int .u8 (z.getD (k + 1) 0)) := (hbc.cell (p := ⟨b, o + k + 1, none⟩) hb).trans (hcl (k + 1) (by omega))
      have x2 : wc.cell? ⟨b, o + k + 2, none⟩ = some (.int .u8 (z.getD (k + 2) 0)) := (hbc.cell (p := ⟨b, o + k + 2, none⟩) hb).trans (hcl (k + 2) (by omega))
      have x3 : wc.cell? ⟨b, o + k + 3, none⟩ = some (.int .u8 (z.getD (k + 3) 0)) := (hbc.cell (p := ⟨b, o + k + 3, none⟩) hb).trans (hcl (k + 3) (by omega))
      unfold hf at hg hR
      rw [show k + 2 + 1 = k + 3 from rfl] at hR
      generalize z.getD k 0 = x at *
      generalize z.getD (k + 1) 0 = y at *
      generalize z.getD (k + 2) 0 = u at *
      generalize z.getD (k + 3) 0 = v' at *
      go_wp2_with fail
      go_quiet (fail)
      go_wp2_with fail
      rw [or_half hx hy]
      refine (Begins_any _ (by omega) (by omega) _).mono ?_
      rintro e w4 ⟨rfl, rfl⟩
      go_wp2_with fail
      have e1 : IntKind.u32.wrap ((x + y * 256) * 65536) = (x + y * 256) * 65536 := wrap_w (by omega) (by omega)
      have e2 : IntKind.u32.wrap u = u := wrap_w (by omega) (by omega)
      have e3 : IntKind.u32.wrap v' = v' := wrap_w (by omega) (by omega)
      have e4 : IntKind.u32.wrap (v' * 256) = v' * 256 := wrap_w (by omega) (by omega)
      have e5 := or_three (H := x + y * 256) (by omega) hu hv
      have hbw : b < wc.heap.size := Nat.lt_of_lt_of_le hb hbc.size
      obtain ⟨W0, hW, hb8⟩ : ∃ W0, W0 = wc.drewN (nq + 1) ∧ Below wc.heap.size wc W0 := ⟨_, rfl, below_drewN _ _⟩
      rw [← hW]
      have y2 := (hb8.cell (p := ⟨b, o + k + 2, none⟩) hbw).trans x2
      have y3 := (hb8.cell (p := ⟨b, o + k + 3, none⟩) hbw).trans x3
      have hL0 := hLc.below hb8
      have HB := hide (hbc.trans (hb8.mono hbc.size))
      have HX := hide (next hb5 (next hcut hb8))
      have HR := hide hR
      clear hR hW x0 x1 x2 x3 hb8 hcl hb5 hb6 hb7 hcut hbc hLc hIc hB hB1 hL1 hb4 hL4 hO
      have hw0 : 0 ≤ (x + y * 256) * 65536 + (u + v' * 256) := by omega
      have hw1 : (x + y * 256) * 65536 + (u + v' * 256) < 4294967296 := by omega
      refine wp_region_held_drew (S := fun w' => w'.cell? ⟨b, o + k + 2, none⟩ = some (.int .u8 u) ∧ w'.cell? ⟨b, o + k + 3, none⟩ = some (.int .u8 v')) (by kernel_rfl) ⟨keepc (drew_below _) y2, keepc (drew_below _) y3⟩ (fun hHeld => ?_)
      refine wpAnyH_take (i := 0) (v := ?_) rfl (by kernel_rfl) (by kernel_rfl) (by kernel_rfl) (fun _ _ _ h => h) (Or.inl ⟨by rfl, ?_⟩) (by assumption) ?_
      rotate_left
      · intro w hSw; (try dsimp only at hSw); go_simp; (try with_reducible rfl)
      (try simp only [Act.put, List.setIfInBounds_toArray, List.set_cons_zero, List.set_cons_succ])
      refine wpAnyH_take (i := 1) (v := ?_) rfl (by kernel_rfl) (by kernel_rfl) (by kernel_rfl) (fun _ _ _ h => h) (Or.inl ⟨by rfl, ?_⟩) (by assumption) ?_
      rotate_left
      · intro w hSw; (try dsimp only at hSw); go_simp; (try with_reducible rfl)
      (try simp only [Act.put, List.setIfInBounds_toArray, List.set_cons_zero, List.set_cons_succ])
      refine wpAnyH_take (i := 2) (v := ?_) rfl (by kernel_rfl) (by kernel_rfl) (by kernel_rfl) (fun _ _ _ h => h) (Or.inl ⟨by rfl, ?_⟩) (by assumption) ?_
      rotate_left
      · intro w hSw; (try dsimp only at hSw); go_simp; (try with_reducible rfl)
      (try simp only [Act.put, List.setIfInBounds_toArray, List.set_cons_zero, List.set_cons_succ])
      refine wpAnyH_take (i := 3) (v := ?_) rfl (by kernel_rfl) (by kernel_rfl) (by kernel_rfl) (fun _ _ _ h => h) (Or.inl ⟨by rfl, ?_⟩) (by assumption) ?_
      rotate_left
      · intro w hSw; (try dsimp only at hSw); go_simp; (try with_reducible rfl)
      (try simp only [Act.put, List.setIfInBounds_toArray, List.set_cons_zero, List.set_cons_succ])
      refine wpAnyH_take (i := 4) (v := ?_) rfl (by kernel_rfl) (by kernel_rfl) (by kernel_rfl) (fun _ _ _ h => h) (Or.inl ⟨by rfl, ?_⟩) (by assumption) ?_
      rotate_left
      · intro w hSw; (try dsimp only at hSw); obtain ⟨s2, s3⟩ := hSw; go_simp; (try with_reducible rfl)
      (try simp only [Act.put, List.setIfInBounds_toArray, List.set_cons_zero, List.set_cons_succ])
      refine wpAnyH_take (i := 5) (v := ?_) rfl (by kernel_rfl) (by kernel_rfl) (by kernel_rfl) (fun _ _ _ h => h) (Or.inl ⟨by rfl, ?_⟩) (by assumption) ?_
      rotate_left
      · intro w hSw; (try dsimp only at hSw); go_simp; (try with_reducible rfl)
      (try simp only [Act.put, List.setIfInBounds_toArray, List.set_cons_zero, List.set_cons_succ])
      refine wpAnyH_take (i := 6) (v := ?_) rfl (by kernel_rfl) (by kernel_rfl) (by kernel_rfl) (fun _ _ _ h => h) (Or.inl ⟨by rfl, ?_⟩) (by assumption) ?_
      rotate_left
      · intro w hSw; (try dsimp only at hSw); go_simp; (try with_reducible rfl)
      (try simp only [Act.put, List.setIfInBounds_toArray, List.set_cons_zero, List.set_cons_succ])
      refine wpAnyH_take (i := 7) (v := ?_) rfl (by kernel_rfl) (by kernel_rfl) (by kernel_rfl) (fun _ _ _ h => h) (Or.inl ⟨by rfl, ?_⟩) (by assumption) ?_
      rotate_left
      · intro w hSw; (try dsimp only at hSw); go_simp; (try with_reducible rfl)
      (try simp only [Act.put, List.setIfInBounds_toArray, List.set_cons_zero, List.set_cons_succ])
      refine wpAnyH_take (i := 8) (v := ?_) rfl (by kernel_rfl) (by kernel_rfl) (by kernel_rfl) (fun _ _ _ h => h) (Or.inl ⟨by rfl, ?_⟩) (by assumption) ?_
      rotate_left
      · intro w hSw; (try dsimp only at hSw); go_simp; (try with_reducible rfl)
      (try simp only [Act.put, List.setIfInBounds_toArray, List.set_cons_zero, List.set_cons_succ])
      refine wpAnyH_take (i := 9) (v := ?_) rfl (by kernel_rfl) (by kernel_rfl) (by kernel_rfl) (fun _ _ _ h => h) (Or.inl ⟨by rfl, ?_⟩) (by assumption) ?_
      rotate_left
      · intro w hSw; (try dsimp only at hSw); obtain ⟨s2, s3⟩ := hSw; go_simp; (try with_reducible rfl)
      (try simp only [Act.put, List.setIfInBounds_toArray, List.set_cons_zero, List.set_cons_succ])
      refine wpAnyH_take (i := 10) (v := ?_) rfl (by kernel_rfl) (by kernel_rfl) (by kernel_rfl) (fun _ _ _ h => h) (Or.inl ⟨by rfl, ?_⟩) (by assumption) ?_
      rotate_left
      · intro w hSw; (try dsimp only at hSw); go_simp; (try with_reducible rfl)
      (try simp only [Act.put, List.setIfInBounds_toArray, List.set_cons_zero, List.set_cons_succ])
      refine wpAnyH_take (i := 11) (v := ?_) rfl (by kernel_rfl) (by kernel_rfl) (by kernel_rfl) (fun _ _ _ h => h) (Or.inl ⟨by rfl, ?_⟩) (by assumption) ?_
      rotate_left
      · intro w hSw; (try dsimp only at hSw); go_simp; (try with_reducible rfl)
      (try simp only [Act.put, List.setIfInBounds_toArray, List.set_cons_zero, List.set_cons_succ])
      refine wpAnyH_take (i := 12) (v := ?_) rfl (by kernel_rfl) (by kernel_rfl) (by kernel_rfl) (fun _ _ _ h => h) (Or.inl ⟨by rfl, ?_⟩) (by assumption) ?_
      rotate_left
      · intro w hSw; (try dsimp only at hSw); go_simp; (try with_reducible rfl)
      (try simp only [Act.put, List.setIfInBounds_toArray, List.set_cons_zero, List.set_cons_succ])
      refine wpAnyH_ready (rs := [13, 17]) (by kernel_rfl) (by simp) ?_
      refine AllReadyH.cons rfl (fun K hK => ?_) (AllReadyH.cons rfl (fun K hK => ?_) AllReadyH.nil)
      · go_simp
        with_reducible refine (Of_from0 hL0 _ true hw0 hw1).mono ?_
        rintro e w5 ⟨hbz, f'', rd'', rn'', rm'', ra'', im'', kd'', bs'', st'', cd'', rg'', en', hR2, rfl⟩
        have y4 := keepc hbz y2
        have y5 := keepc hbz y3
        refine hK.out _ _ ⟨y4, y5⟩ (fun hHeld => ?_)
        clear hK K
        (try simp only [Act.put, List.setIfInBounds_toArray, List.set_cons_zero, List.set_cons_succ])
        refine wpAnyH_take (i := 14) (v := ?_) rfl (by kernel_rfl) (by kernel_rfl) (by kernel_rfl) (fun _ _ _ h => h) (Or.inl ⟨by rfl, ?_⟩) (by assumption) ?_
        rotate_left
        · intro w hSw; (try dsimp only at hSw); go_simp; (try with_reducible rfl)
        (try simp only [Act.put, List.setIfInBounds_toArray, List.set_cons_zero, List.set_cons_succ])
        refine wpAnyH_take (i := 15) (v := ?_) rfl (by kernel_rfl) (by kernel_rfl) (by kernel_rfl) (fun _ _ _ h => h) (Or.inl ⟨by rfl, ?_⟩) (by assumption) ?_
        rotate_left
        · intro w hSw; (try dsimp only at hSw); go_simp; (try with_reducible rfl)
        (try simp only [Act.put, List.setIfInBounds_toArray, List.set_cons_zero, List.set_cons_succ])
        refine wpAnyH_take (i := 16) (v := ?_) rfl (by kernel_rfl) (by kernel_rfl) (by kernel_rfl) (fun _ _ _ h => h) (Or.inl ⟨by rfl, ?_⟩) (by assumption) ?_
        rotate_left
        · intro w hSw; (try dsimp only at hSw); go_simp; (try with_reducible rfl)
        (try simp only [Act.put, List.setIfInBounds_toArray, List.set_cons_zero, List.set_cons_succ])
        refine wpAnyH_ready (rs := [17]) (by kernel_rfl) (by simp) ?_
        refine AllReadyH.cons rfl (fun K hK => ?_) AllReadyH.nil
        go_simp
        refine hK.out _ _ ⟨keepc (below_new _ _) y4, keepc (below_new _ _) y5⟩ (fun hHeld => ?_)
        clear hK K
        (try simp only [Act.put, List.setIfInBounds_toArray, List.set_cons_zero, List.set_cons_succ])
        refine wpAnyH_ready (rs := [18]) (by kernel_rfl) (by simp) ?_
        refine AllReadyH.cons rfl (fun K hK => ?_) AllReadyH.nil
        go_simp
        refine hK.out _ _ ⟨keepc (below_new _ _) y4, keepc (below_new _ _) y5⟩ (fun hHeld => ?_)
        clear hK K
        (try simp only [Act.put, List.setIfInBounds_toArray, List.set_cons_zero, List.set_cons_succ])
        refine wpAnyH_take (i := 19) (v := ?_) rfl (by kernel_rfl) (by kernel_rfl) (by kernel_rfl) (fun _ _ _ h => h) (Or.inl ⟨by rfl, ?_⟩) (by assumption) ?_
        rotate_left
        · intro w hSw; (try dsimp only at hSw); go_simp; (try with_reducible rfl)
        (try simp only [Act.put, List.setIfInBounds_toArray, List.set_cons_zero, List.set_cons_succ])
        refine wpAnyH_done (by kernel_rfl) ?_ _
        obtain ⟨⟨rfl, rfl, rfl, rfl, rfl, rfl, rfl, rfl, rfl, rfl, rfl⟩, rfl⟩ := ofR_one (unhide HR) hR2
        have hb10 := next (unhide HX) hbz
        have hb11 := (unhide HB).trans (hbz.mono (unhide HB).size)
        have hb12 := hb10.alloc hb10.size (.cells #[.int .i64 f', .int .i64 rd', .int .i64 rn', .int .i64 rm', .int .i64 ra', .int .i64 im', .int .i64 kd', .int .i64 bs', .int .i64 st', .int .i64 cd', .int .i64 rg'] 25)
        have hb13 := hb11.alloc hb11.size (.cells #[.int .i64 f', .int .i64 rd', .int .i64 rn', .int .i64 rm', .int .i64 ra', .int .i64 im', .int .i64 kd', .int .i64 bs', .int .i64 st', .int .i64 cd', .int .i64 rg'] 25)
        obtain ⟨hc, hfz⟩ := bcell hb12
        have hq := fun w => eql_inst w f' rd' rn' rm' ra' im' kd' bs' st' cd' rg' f' rd' rn' rm' ra' im' kd' bs' st' cd' rg'
        simp only [same_yes] at hq
        clear hb10 hb11 hb12
        go_wp2_with fail
        go_ret
        exact ⟨rfl, hb13⟩
      · go_simp
        refine hK.out _ _ ⟨keepc (below_ad _ _) y2, keepc (below_ad _ _) y3⟩ (fun hHeld => ?_)
        clear hK K
        (try simp only [Act.put, List.setIfInBounds_toArray, List.set_cons_zero, List.set_cons_succ])
        refine wpAnyH_ready (rs := [13]) (by kernel_rfl) (by simp) ?_
        refine AllReadyH.cons rfl (fun K hK => ?_) AllReadyH.nil
        go_simp
        with_reducible refine (Of_from1 hL0 _ true hw0 hw1).mono ?_
        rintro e w5 ⟨hbz, ⟨⟨z0, z1, z2, z3, z4, z5, z6, z7, z8, z9, z10⟩, q0, q1, q2, q3, q4, q5, q6, q7, q8, q9, q10⟩, f'', rd'', rn'', rm'', ra'', im'', kd'', bs'', st'', cd'', rg'', en', hR2, rfl⟩
        have y4 := keepc hbz y2
        have y5 := keepc hbz y3
        refine hK.out _ _ ⟨y4, y5⟩ (fun hHeld => ?_)
        clear hK K
        (try simp only [Act.put, List.setIfInBounds_toArray, List.set_cons_zero, List.set_cons_succ])
        refine wpAnyH_take (i := 14) (v := ?_) rfl (by kernel_rfl) (by kernel_rfl) (by kernel_rfl) (fun _ _ _ h => h) (Or.inl ⟨by rfl, ?_⟩) (by assumption) ?_
        rotate_left
        · intro w hSw; (try dsimp only at hSw); go_simp; (try with_reducible rfl)
        (try simp only [Act.put, List.setIfInBounds_toArray, List.set_cons_zero, List.set_cons_succ])
        refine wpAnyH_take (i := 15) (v := ?_) rfl (by kernel_rfl) (by kernel_rfl) (by kernel_rfl) (fun _ _ _ h => h) (Or.inl ⟨by rfl, ?_⟩) (by assumption) ?_
        rotate_left
        · intro w hSw; (try dsimp only at hSw); go_simp; (try with_reducible rfl)
        (try simp only [Act.put, List.setIfInBounds_toArray, List.set_cons_zero, List.set_cons_succ])
        refine wpAnyH_take (i := 16) (v := ?_) rfl (by kernel_rfl) (by kernel_rfl) (by kernel_rfl) (fun _ _ _ h => h) (Or.inl ⟨by rfl, ?_⟩) (by assumption) ?_
        rotate_left
        · intro w hSw; (try dsimp only at hSw); go_simp; (try with_reducible rfl)
        (try simp only [Act.put, List.setIfInBounds_toArray, List.set_cons_zero, List.set_cons_succ])
        refine wpAnyH_ready (rs := [18]) (by kernel_rfl) (by simp) ?_
        refine AllReadyH.cons rfl (fun K hK => ?_) AllReadyH.nil
        go_simp
        refine hK.out _ _ ⟨keepc (set11 hbz) y2, keepc (set11 hbz) y3⟩ (fun hHeld => ?_)
        clear hK K
        (try simp only [Act.put, List.setIfInBounds_toArray, List.set_cons_zero, List.set_cons_succ])
        refine wpAnyH_take (i := 19) (v := ?_) rfl (by kernel_rfl) (by kernel_rfl) (by kernel_rfl) (fun _ _ _ h => h) (Or.inl ⟨by rfl, ?_⟩) (by assumption) ?_
        rotate_left
        · intro w hSw; (try dsimp only at hSw); go_simp; (try with_reducible rfl)
        (try simp only [Act.put, List.setIfInBounds_toArray, List.set_cons_zero, List.set_cons_succ])
        refine wpAnyH_done (by kernel_rfl) ?_ _
        obtain ⟨⟨rfl, rfl, rfl, rfl, rfl, rfl, rfl, rfl, rfl, rfl, rfl⟩, rfl⟩ := ofR_one (unhide HR) hR2
        have hb10 := next (unhide HX) (set11 (v0 := .int .i64 f') (v1 := .int .i64 rd') (v2 := .int .i64 rn') (v3 := .int .i64 rm') (v4 := .int .i64 ra') (v5 := .int .i64 im') (v6 := .int .i64 kd') (v7 := .int .i64 bs') (v8 := .int .i64 st') (v9 := .int .i64 cd') (v10 := .int .i64 rg') hbz)
        have hb13 := (unhide HB).trans ((set11 (v0 := .int .i64 f') (v1 := .int .i64 rd') (v2 := .int .i64 rn') (v3 := .int .i64 rm') (v4 := .int .i64 ra') (v5 := .int .i64 im') (v6 := .int .i64 kd') (v7 := .int .i64 bs') (v8 := .int .i64 st') (v9 := .int .i64 cd') (v10 := .int .i64 rg') hbz).mono (unhide HB).size)
        have hq := fun w => eql_inst w f' rd' rn' rm' ra' im' kd' bs' st' cd' rg' f' rd' rn' rm' ra' im' kd' bs' st' cd' rg'
        simp only [same_yes] at hq
        obtain ⟨x0, x1, x2, x3, x4, x5, x6, x7, x8, x9, x10⟩ := boxed hb10
        obtain ⟨t0, t1, t2, t3, t4, t5, t6, t7, t8, t9, t10⟩ := laid11 (v0 := .int .i64 f') (v1 := .int .i64 rd') (v2 := .int .i64 rn') (v3 := .int .i64 rm') (v4 := .int .i64 ra') (v5 := .int .i64 im') (v6 := .int .i64 kd') (v7 := .int .i64 bs') (v8 := .int .i64 st') (v9 := .int .i64 cd') (v10 := .int .i64 rg') z0 z1 z2 z3 z4 z5 z6 z7 z8 z9 z10
        clear hb10 z0 z1 z2 z3 z4 z5 z6 z7 z8 z9 z10 q0 q1 q2 q3 q4 q5 q6 q7 q8 q9 q10 hHeld hbz y4 y5 y2 y3
        generalize (((((((((((w5).setCell ⟨W0.heap.size, 0, none⟩ (.int .i64 f')).setCell ⟨W0.heap.size, 1, none⟩ (.int .i64 rd')).setCell ⟨W0.heap.size, 2, none⟩ (.int .i64 rn')).setCell ⟨W0.heap.size, 3, none⟩ (.int .i64 rm')).setCell ⟨W0.heap.size, 4, none⟩ (.int .i64 ra')).setCell ⟨W0.heap.size, 5, none⟩ (.int .i64 im')).setCell ⟨W0.heap.size, 6, none⟩ (.int .i64 kd')).setCell ⟨W0.heap.size, 7, none⟩ (.int .i64 bs')).setCell ⟨W0.heap.size, 8, none⟩ (.int .i64 st')).setCell ⟨W0.heap.size, 9, none⟩ (.int .i64 cd')).setCell ⟨W0.heap.size, 10, none⟩ (.int .i64 rg') = W6 at *
        go_wp2_with fail
        go_ret
        exact ⟨rfl, hb13⟩

end Go.Proofs.YtpgcnbipnjcniaaDoor.Code
