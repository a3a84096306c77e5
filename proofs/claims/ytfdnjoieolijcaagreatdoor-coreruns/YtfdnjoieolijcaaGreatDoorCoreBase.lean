/- A step that is being done, in the heap: its box of 37 cells, as registers by number, flags, fields. No function of the program is walked here. -/
import Derived.Test.YtfdnjoieolijcaaGreatDoorMemAll
import Derived.Test.YtfdnjoieolijcaaGreatDoorCodeLaid
import Derived.Test.YtfdnjoieolijcaaGreatDoorInsBase
set_option linter.unusedVariables false
namespace Go.Proofs.YtfdnjoieolijcaaGreatDoor.Core
open Go.RowKit Go.Proofs.YtfdnjoieolijcaaGreatDoor.Mem

/-- Registers and flags. -/
structure St where
  R : Nat → Int
  n : Int
  z : Int
  c : Int
  v : Int
/-- A step that is being done. -/
structure Wo where
  s : St
  m : Nat
  i : Ins
  pc : Int
  hk : Int
  hc : Int
  da : Int
  wo : Int

/-- A state as a value. -/
def stv (s : St) : Array Value := #[.int .u32 (s.R 0), .int .u32 (s.R 1), .int .u32 (s.R 2), .int .u32 (s.R 3), .int .u32 (s.R 4), .int .u32 (s.R 5), .int .u32 (s.R 6), .int .u32 (s.R 7), .int .u32 (s.R 8), .int .u32 (s.R 9), .int .u32 (s.R 10), .int .u32 (s.R 11), .int .u32 (s.R 12), .int .u32 (s.R 13), .int .u32 (s.R 14), .int .u32 (s.R 15), .int .u32 s.n, .int .u32 s.z, .int .u32 s.c, .int .u32 s.v]
/-- A box's cells. -/
def wkc (W : Wo) : Array Value := #[.int .u32 (W.s.R 0), .int .u32 (W.s.R 1), .int .u32 (W.s.R 2), .int .u32 (W.s.R 3), .int .u32 (W.s.R 4), .int .u32 (W.s.R 5), .int .u32 (W.s.R 6), .int .u32 (W.s.R 7), .int .u32 (W.s.R 8), .int .u32 (W.s.R 9), .int .u32 (W.s.R 10), .int .u32 (W.s.R 11), .int .u32 (W.s.R 12), .int .u32 (W.s.R 13), .int .u32 (W.s.R 14), .int .u32 (W.s.R 15), .int .u32 W.s.n, .int .u32 W.s.z, .int .u32 W.s.c, .int .u32 W.s.v,
  .pointer (some ⟨W.m, 0, none⟩), .int .i64 W.i.f, .int .i64 W.i.rd, .int .i64 W.i.rn, .int .i64 W.i.rm, .int .i64 W.i.ra, .int .i64 W.i.im, .int .i64 W.i.kd, .int .i64 W.i.bs, .int .i64 W.i.st, .int .i64 W.i.cd, .int .i64 W.i.rg, .int .u32 W.pc, .int .i64 W.hk, .int .i64 W.hc, .int .u32 W.da, .int .i64 W.wo]
def Wk (w : World) (B : Nat) (W : Wo) : Prop := w.heap[B]? = some (.cells (wkc W) 152 (0, 0))


section
variable {w w' : World} {B : Nat} {W : Wo}
theorem Wk.lt (h : Wk w B W) : B < w.heap.size := lt_of_heap h
theorem Wk.off (h : Wk w B W) {S : List Nat} (ho : Off S w w') (hB : B ∉ S) : Wk w' B W := (ho.block B h.lt hB).trans h
theorem Wk.below (h : Wk w B W) (hb : Below w.heap.size w w') : Wk w' B W := (hb.block B h.lt).trans h
theorem Wk.drew (h : Wk w B W) : Wk w.drew B W := h
theorem Wk.alloc (h : Wk w B W) (o : Obj) : Wk (w.alloc o) B W := h.below ((Below.refl _ w).alloc (Nat.le_refl _) o)
theorem Wk.cell (h : Wk w B W) {k : Nat} {v : Value} (hk : (wkc W)[k]? = some v) : w.cell? ⟨B, k, none⟩ = some v := by simp [World.cell?, show w.heap[B]? = _ from h, hk]
theorem Wk.free (h : Wk w B W) (i : Nat) : w.frozen? ⟨B, i, none⟩ = false := free_row h i
theorem reg_at (W : Wo) (k : Nat) (hk : k < 16) : (wkc W)[k]? = some (.int .u32 (W.s.R k)) := by
  rcases (show k = 0 ∨ k = 1 ∨ k = 2 ∨ k = 3 ∨ k = 4 ∨ k = 5 ∨ k = 6 ∨ k = 7 ∨ k = 8 ∨ k = 9 ∨ k = 10 ∨ k = 11 ∨ k = 12 ∨ k = 13 ∨ k = 14 ∨ k = 15 by omega) with rfl | rfl | rfl | rfl | rfl | rfl | rfl | rfl | rfl | rfl | rfl | rfl | rfl | rfl | rfl | rfl <;> rfl
theorem Wk.reg (h : Wk w B W) (k : Nat) (hk : k < 16) : w.cell? ⟨B, k, none⟩ = some (.int .u32 (W.s.R k)) := h.cell (reg_at W k hk)
theorem Wk.regI (h : Wk w B W) (k : Int) (h0 : 0 ≤ k) (hk : k < 16) : w.cell? ⟨B, k.toNat, none⟩ = some (.int .u32 (W.s.R k.toNat)) := h.reg _ (by omega)
theorem Wk.c13 (h : Wk w B W) : w.cell? ⟨B, 13, none⟩ = some (.int .u32 (W.s.R 13)) := h.cell rfl
theorem Wk.c15 (h : Wk w B W) : w.cell? ⟨B, 15, none⟩ = some (.int .u32 (W.s.R 15)) := h.cell rfl
theorem Wk.cn (h : Wk w B W) : w.cell? ⟨B, 16, none⟩ = some (.int .u32 W.s.n) := h.cell rfl
theorem Wk.cz (h : Wk w B W) : w.cell? ⟨B, 17, none⟩ = some (.int .u32 W.s.z) := h.cell rfl
theorem Wk.cc (h : Wk w B W) : w.cell? ⟨B, 18, none⟩ = some (.int .u32 W.s.c) := h.cell rfl
theorem Wk.cv (h : Wk w B W) : w.cell? ⟨B, 19, none⟩ = some (.int .u32 W.s.v) := h.cell rfl
theorem Wk.cm (h : Wk w B W) : w.cell? ⟨B, 20, none⟩ = some (.pointer (some ⟨W.m, 0, none⟩)) := h.cell rfl
theorem Wk.cf (h : Wk w B W) : w.cell? ⟨B, 21, none⟩ = some (.int .i64 W.i.f) := h.cell rfl
theorem Wk.crd (h : Wk w B W) : w.cell? ⟨B, 22, none⟩ = some (.int .i64 W.i.rd) := h.cell rfl
theorem Wk.crn (h : Wk w B W) : w.cell? ⟨B, 23, none⟩ = some (.int .i64 W.i.rn) := h.cell rfl
theorem Wk.crm (h : Wk w B W) : w.cell? ⟨B, 24, none⟩ = some (.int .i64 W.i.rm) := h.cell rfl
theorem Wk.cra (h : Wk w B W) : w.cell? ⟨B, 25, none⟩ = some (.int .i64 W.i.ra) := h.cell rfl
theorem Wk.cim (h : Wk w B W) : w.cell? ⟨B, 26, none⟩ = some (.int .i64 W.i.im) := h.cell rfl
theorem Wk.ckd (h : Wk w B W) : w.cell? ⟨B, 27, none⟩ = some (.int .i64 W.i.kd) := h.cell rfl
theorem Wk.cbs (h : Wk w B W) : w.cell? ⟨B, 28, none⟩ = some (.int .i64 W.i.bs) := h.cell rfl
theorem Wk.cst (h : Wk w B W) : w.cell? ⟨B, 29, none⟩ = some (.int .i64 W.i.st) := h.cell rfl
theorem Wk.ccd (h : Wk w B W) : w.cell? ⟨B, 30, none⟩ = some (.int .i64 W.i.cd) := h.cell rfl
theorem Wk.crg (h : Wk w B W) : w.cell? ⟨B, 31, none⟩ = some (.int .i64 W.i.rg) := h.cell rfl
theorem Wk.cpc (h : Wk w B W) : w.cell? ⟨B, 32, none⟩ = some (.int .u32 W.pc) := h.cell rfl
theorem Wk.chk (h : Wk w B W) : w.cell? ⟨B, 33, none⟩ = some (.int .i64 W.hk) := h.cell rfl
theorem Wk.chc (h : Wk w B W) : w.cell? ⟨B, 34, none⟩ = some (.int .i64 W.hc) := h.cell rfl
theorem Wk.cda (h : Wk w B W) : w.cell? ⟨B, 35, none⟩ = some (.int .u32 W.da) := h.cell rfl
theorem Wk.cwo (h : Wk w B W) : w.cell? ⟨B, 36, none⟩ = some (.int .i64 W.wo) := h.cell rfl

/-- A box one of whose cells is another one. -/
theorem Wk.set (h : Wk w B W) {k : Nat} {v : Value} {W' : Wo} (e : (wkc W).setIfInBounds k v = wkc W') : Wk (w.setCell ⟨B, k, none⟩ v) B W' := by
  show (w.setCell ⟨B, k, none⟩ v).heap[B]? = _
  rw [setRam_heap w k v h, e]
end

/-- A register is another word. -/
def St.reg (s : St) (k : Nat) (x : Int) : St := { s with R := put s.R k x }
def Wo.reg (W : Wo) (k : Nat) (x : Int) : Wo := { W with s := W.s.reg k x }
theorem set_reg (W : Wo) (k : Nat) (hk : k < 16) (x : Int) : (wkc W).setIfInBounds k (.int .u32 x) = wkc (W.reg k x) := by
  rcases (show k = 0 ∨ k = 1 ∨ k = 2 ∨ k = 3 ∨ k = 4 ∨ k = 5 ∨ k = 6 ∨ k = 7 ∨ k = 8 ∨ k = 9 ∨ k = 10 ∨ k = 11 ∨ k = 12 ∨ k = 13 ∨ k = 14 ∨ k = 15 by omega) with rfl | rfl | rfl | rfl | rfl | rfl | rfl | rfl | rfl | rfl | rfl | rfl | rfl | rfl | rfl | rfl <;> rfl
theorem Wk.putR {w : World} {B : Nat} {W : Wo} (h : Wk w B W) (k : Nat) (hk : k < 16) (x : Int) : Wk (w.setCell ⟨B, k, none⟩ (.int .u32 x)) B (W.reg k x) := h.set (set_reg W k hk x)
theorem Wk.putN {w : World} {B : Nat} {W : Wo} (h : Wk w B W) (x : Int) : Wk (w.setCell ⟨B, 16, none⟩ (.int .u32 x)) B { W with s := { W.s with n := x } } := h.set rfl
theorem Wk.putZ {w : World} {B : Nat} {W : Wo} (h : Wk w B W) (x : Int) : Wk (w.setCell ⟨B, 17, none⟩ (.int .u32 x)) B { W with s := { W.s with z := x } } := h.set rfl
theorem Wk.putC {w : World} {B : Nat} {W : Wo} (h : Wk w B W) (x : Int) : Wk (w.setCell ⟨B, 18, none⟩ (.int .u32 x)) B { W with s := { W.s with c := x } } := h.set rfl
theorem Wk.putV {w : World} {B : Nat} {W : Wo} (h : Wk w B W) (x : Int) : Wk (w.setCell ⟨B, 19, none⟩ (.int .u32 x)) B { W with s := { W.s with v := x } } := h.set rfl
theorem Wk.putHk {w : World} {B : Nat} {W : Wo} (h : Wk w B W) (x : Int) : Wk (w.setCell ⟨B, 33, none⟩ (.int .i64 x)) B { W with hk := x } := h.set rfl
theorem Wk.putHc {w : World} {B : Nat} {W : Wo} (h : Wk w B W) (x : Int) : Wk (w.setCell ⟨B, 34, none⟩ (.int .i64 x)) B { W with hc := x } := h.set rfl
theorem Wk.putDa {w : World} {B : Nat} {W : Wo} (h : Wk w B W) (x : Int) : Wk (w.setCell ⟨B, 35, none⟩ (.int .u32 x)) B { W with da := x } := h.set rfl
theorem Wk.putWo {w : World} {B : Nat} {W : Wo} (h : Wk w B W) (x : Int) : Wk (w.setCell ⟨B, 36, none⟩ (.int .i64 x)) B { W with wo := x } := h.set rfl

end Go.Proofs.YtfdnjoieolijcaaGreatDoor.Core

