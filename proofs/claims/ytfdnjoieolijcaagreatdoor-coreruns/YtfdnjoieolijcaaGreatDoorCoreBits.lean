/- States by value: flags as bits, conditions: package core. -/
import Derived.Test.YtfdnjoieolijcaaGreatDoorCoreMove
import Derived.Deep.WholeRow
import Derived.Deep.MidRow
import Derived.StillTailTactics
import Derived.Great.BuildSlice
set_option linter.unusedVariables false
namespace Go.Proofs.YtfdnjoieolijcaaGreatDoor.Core
open Go.RowKit Go.Proofs.YtfdnjoieolijcaaGreatDoor.Mem Go.Proofs.YtfdnjoieolijcaaGreatDoor.Alu

/-- A state whose flags are 0 or 1. -/
def bitsS (s : St) : St := { s with n := b01 s.n, z := b01 s.z, c := b01 s.c, v := b01 s.v }
/-- A state's box. -/
def Sx (w : World) (b : Nat) (s : St) : Prop := w.heap[b]? = some (.cells (stv s) 27 (0, 0))
theorem Sx.cell {w : World} {b : Nat} {s : St} (h : Sx w b s) {k : Nat} {v : Value} (hk : (stv s)[k]? = some v) : w.cell? ⟨b, k, none⟩ = some v := by simp [World.cell?, show w.heap[b]? = _ from h, hk]
theorem Sx.free {w : World} {b : Nat} {s : St} (h : Sx w b s) (i : Nat) : w.frozen? ⟨b, i, none⟩ = false := free_row h i
theorem Sx.new (w : World) (s : St) : Sx (w.alloc (.cells (stv s) 27)) w.heap.size s := heap_alloc_new _ _
theorem Sx.set {w : World} {b : Nat} {s s' : St} (h : Sx w b s) {k : Nat} {v : Value} (e : (stv s).setIfInBounds k v = stv s') : Sx (w.setCell ⟨b, k, none⟩ v) b s' := by
  show (w.setCell ⟨b, k, none⟩ v).heap[b]? = _
  rw [setRam_heap w k v h, e]
theorem info_st : (Tryz.prog.info? 27).map (·.size) = some 20 := by kernel_rfl
theorem Sx.load {w : World} {b : Nat} {s : St} (h : Sx w b s) : (Instr.loadAt 27 (.pointer (some ⟨b, 0, none⟩))).run Tryz.prog w = .ok (.agg (stv s)) w := by
  simp only [Instr.loadAt, Instr.sureAddr, Sem.run_bind, Sem.run_pure, Result.andThen_ok]
  exact run_loadVar_row w b _ _ (stv s) (0, 0) _ h Tryz.underlying27 rfl info_st

theorem one_st (s : St) : (stv s).all (·.oneCell') = true := by simp [stv, Value.oneCell']
theorem Sx.store {w : World} {b : Nat} {s : St} (h : Sx w b s) (s' : St) : (Instr.storeAt 27 (.pointer (some ⟨b, 0, none⟩)) (.agg (stv s'))).run Tryz.prog w = .ok () (w.setRow b (stv s')) := by
  simp only [Instr.storeAt, Instr.sureAddr, Sem.run_bind, Sem.run_pure, Result.andThen_ok]
  exact run_storeVar_row w b _ _ (stv s) (stv s') h info_st rfl (one_st s')
theorem Sx.row {w : World} {b : Nat} {s : St} (h : Sx w b s) (s' : St) : Sx (w.setRow b (stv s')) b s' := setRow_heap w b _ _ _ _ h
def zerS : St := ⟨fun _ => 0, 0, 0, 0, 0⟩
theorem setRow_below {B : Nat} {a w : World} (h : Below B a w) {b : Nat} (hb : B ≤ b) (cs : Array Value) : Below B a (w.setRow b cs) :=
  h.trans ⟨rfl, rfl, rfl, by simp, fun k hk => setRow_other w b k cs (by omega)⟩
theorem Sx.other {w : World} {b k : Nat} {s : St} (h : Sx w b s) (hk : b ≠ k) {o : Nat} {v : Value} : Sx (w.setCell ⟨k, o, none⟩ v) b s := (Below.heap_setCell _ _ _ _ hk).trans h

set_option maxRecDepth 100000 in
set_option maxHeartbeats 4000000 in
theorem withBits_any (s : St) (w : World) :
    Calls Tryz.prog 37 #[.agg (stv s)] w fun e w' => e = .returned (.agg (stv (bitsS s))) ∧ Below w.heap.size w w' := by
  have hx : Sx ((w.alloc (.cells (stv s) 27)).alloc (.cells (stv zerS) 27)) w.heap.size s := heap_alloc2_old _ _ _
  have hy : Sx ((w.alloc (.cells (stv s) 27)).alloc (.cells (stv zerS) 27)) (w.heap.size + 1) zerS := heap_alloc2_new _ _ _
  have hb : Below w.heap.size w ((w.alloc (.cells (stv s) 27)).alloc (.cells (stv zerS) 27)) := ((Below.refl _ _).alloc (Nat.le_refl _) _).alloc (by simp) _
  go_enter Tryz.func37, Tryz.ntmps37
  go_wp2_with fail
  rw [show (Obj.cells #[.int .u32 0, .int .u32 0, .int .u32 0, .int .u32 0, .int .u32 0, .int .u32 0, .int .u32 0, .int .u32 0, .int .u32 0, .int .u32 0, .int .u32 0, .int .u32 0, .int .u32 0, .int .u32 0, .int .u32 0, .int .u32 0, .int .u32 0, .int .u32 0, .int .u32 0, .int .u32 0] 27) = .cells (stv zerS) 27 from rfl]
  generalize (w.alloc (.cells (stv s) 27)).alloc (.cells (stv zerS) 27) = w1 at *
  generalize hS : w.heap.size = S at *
  have c16 := hx.cell (k := 16) rfl
  have c17 := hx.cell (k := 17) rfl
  have c18 := hx.cell (k := 18) rfl
  have c19 := hx.cell (k := 19) rfl
  have f16 := hx.free 16
  have f17 := hx.free 17
  have f18 := hx.free 18
  have f19 := hx.free 19
  replace hx := hide hx
  replace hy := hide hy
  replace hb := hide hb
  refine wp_region_still_tail 13 (by kernel_rfl) (by kernel_rfl) ?_
  simp only [List.take_succ_cons, List.take_zero, List.drop_succ_cons, List.drop_zero]
  still_step
  still_step
  still_call (asBitC_any _ _)
  still_step
  still_step
  still_call (asBitC_any _ _)
  still_step
  still_step
  still_call (asBitC_any _ _)
  still_step
  still_step
  still_call (asBitC_any _ _)
  still_step
  refine wpStill_nil ?_
  show wpList Tryz.prog _ _ _ _ w1.drew
  have e16 : w1.drew.cell? ⟨S, 16, none⟩ = some (.int .u32 s.n) := c16
  have e17 : w1.drew.cell? ⟨S, 17, none⟩ = some (.int .u32 s.z) := c17
  have e18 : w1.drew.cell? ⟨S, 18, none⟩ = some (.int .u32 s.c) := c18
  have e19 : w1.drew.cell? ⟨S, 19, none⟩ = some (.int .u32 s.v) := c19
  have g16 : w1.drew.frozen? ⟨S, 16, none⟩ = false := f16
  have g17 : w1.drew.frozen? ⟨S, 17, none⟩ = false := f17
  have g18 : w1.drew.frozen? ⟨S, 18, none⟩ = false := f18
  have g19 : w1.drew.frozen? ⟨S, 19, none⟩ = false := f19
  replace hx : Hid (Sx w1.drew S s) := hx.out
  replace hy : Hid (Sx w1.drew (S + 1) zerS) := hy.out
  replace hb : Hid (Below S w w1.drew) := hb.out.drew
  clear c16 c17 c18 c19 f16 f17 f18 f19
  generalize w1.drew = w2 at *
  have h4 : Sx ((((w2.setCell ⟨S, 16, none⟩ (.int .u32 (b01 s.n))).setCell ⟨S, 17, none⟩ (.int .u32 (b01 s.z))).setCell ⟨S, 18, none⟩ (.int .u32 (b01 s.c))).setCell ⟨S, 19, none⟩ (.int .u32 (b01 s.v))) S (bitsS s) :=
    (((Sx.set (s' := { s with n := b01 s.n }) (show Sx w2 S s from hx.out) rfl).set (s' := { s with n := b01 s.n, z := b01 s.z }) rfl).set (s' := { s with n := b01 s.n, z := b01 s.z, c := b01 s.c }) rfl).set (s' := bitsS s) rfl
  have h5 : Sx ((((w2.setCell ⟨S, 16, none⟩ (.int .u32 (b01 s.n))).setCell ⟨S, 17, none⟩ (.int .u32 (b01 s.z))).setCell ⟨S, 18, none⟩ (.int .u32 (b01 s.c))).setCell ⟨S, 19, none⟩ (.int .u32 (b01 s.v))) (S + 1) zerS :=
    (((Sx.other (show Sx w2 (S + 1) zerS from hy.out) (by omega)).other (by omega)).other (by omega)).other (by omega)
  have b5 : Below S w ((((w2.setCell ⟨S, 16, none⟩ (.int .u32 (b01 s.n))).setCell ⟨S, 17, none⟩ (.int .u32 (b01 s.z))).setCell ⟨S, 18, none⟩ (.int .u32 (b01 s.c))).setCell ⟨S, 19, none⟩ (.int .u32 (b01 s.v))) :=
    (((hb.out.setCell (Nat.le_refl _) _).setCell (Nat.le_refl _) _).setCell (Nat.le_refl _) _).setCell (Nat.le_refl _) _
  replace h4 := hide h4
  replace h5 := hide h5
  replace b5 := hide b5
  refine wpList_plain rfl (fun K hK => ?_)
  go_simp
  refine hK _ _ ?_
  clear hK K
  (try simp only [Act.put, List.getElem_toArray, List.getElem_cons_zero, List.getElem_cons_succ, List.setIfInBounds_toArray, List.set_cons_zero, List.set_cons_succ])
  refine wpList_plain rfl (fun K hK => ?_)
  go_simp
  refine hK _ _ ?_
  clear hK K
  (try simp only [Act.put, List.getElem_toArray, List.getElem_cons_zero, List.getElem_cons_succ, List.setIfInBounds_toArray, List.set_cons_zero, List.set_cons_succ])
  refine wpList_plain rfl (fun K hK => ?_)
  go_simp
  refine hK _ _ ?_
  clear hK K
  (try simp only [Act.put, List.getElem_toArray, List.getElem_cons_zero, List.getElem_cons_succ, List.setIfInBounds_toArray, List.set_cons_zero, List.set_cons_succ])
  refine wpList_plain rfl (fun K hK => ?_)
  go_simp
  refine hK _ _ ?_
  clear hK K
  (try simp only [Act.put, List.getElem_toArray, List.getElem_cons_zero, List.getElem_cons_succ, List.setIfInBounds_toArray, List.set_cons_zero, List.set_cons_succ])
  refine wpList_plain rfl (fun K hK => ?_)
  go_simp
  refine hK _ _ ?_
  clear hK K
  (try simp only [Act.put, List.getElem_toArray, List.getElem_cons_zero, List.getElem_cons_succ, List.setIfInBounds_toArray, List.set_cons_zero, List.set_cons_succ])
  refine wpList_plain rfl (fun K hK => ?_)
  go_simp
  refine hK _ _ ?_
  clear hK K
  (try simp only [Act.put, List.getElem_toArray, List.getElem_cons_zero, List.getElem_cons_succ, List.setIfInBounds_toArray, List.set_cons_zero, List.set_cons_succ])
  refine wpList_plain rfl (fun K hK => ?_)
  go_simp
  refine hK _ _ ?_
  clear hK K
  (try simp only [Act.put, List.getElem_toArray, List.getElem_cons_zero, List.getElem_cons_succ, List.setIfInBounds_toArray, List.set_cons_zero, List.set_cons_succ])
  refine wpList_nil ?_
  go_wp2_with (first
    | (refine wpList_load_row rfl 27 (.tmp 1) rfl _ rfl 27 _ (0, 0) _ (unhide h4) Tryz.underlying27 rfl info_st ?_)
    | (refine wpList_store_rowTo rfl 27 (.tmp 2) (.tmp 19) rfl rfl _ (stv (bitsS s)) rfl rfl 27 (stv zerS) (unhide h5) info_st rfl (one_st _) ?_))
  have h6 := (unhide h5).row (bitsS s)
  refine bodyPost_ret (v := .agg (stv (bitsS s))) ?_ rfl ⟨rfl, ?_⟩
  · exact results_cell_row (fn := Tryz.f37) rfl _ _ (S + 1) 27 _ (0, 0) _ rfl h6 Tryz.underlying27 rfl info_st
  · rw [hS]; exact setRow_below (b := S + 1) (unhide b5) (by omega) _
end Go.Proofs.YtfdnjoieolijcaaGreatDoor.Core

