/- An item of a program, as a value: package asm. No function of the program is walked here. -/
import Derived.Test.YtegefbndpkbooaaDoorInsBase
import Derived.Test.YtegefbndpkbooaaDoorInstSame
import Derived.Test.YtegefbndpkbooaaDoorInstForm
set_option linter.unusedVariables false
namespace Go.Proofs.YtegefbndpkbooaaDoor.Asm
open Go.RowKit Go.Proofs.YtegefbndpkbooaaDoor.Core

/-- An item's fields. -/
structure It where
  k : Int
  i : Ins
  c : Int
  l : Int
  t : Int
/-- An item as a value. -/
def itv (x : It) : Array Value := #[.int .i64 x.k, .int .i64 x.i.f, .int .i64 x.i.rd, .int .i64 x.i.rn, .int .i64 x.i.rm, .int .i64 x.i.ra, .int .i64 x.i.im, .int .i64 x.i.kd, .int .i64 x.i.bs, .int .i64 x.i.st, .int .i64 x.i.cd, .int .i64 x.i.rg, .int .i64 x.c, .int .i64 x.l, .int .i64 x.t]
theorem one_it (x : It) : (itv x).all (·.oneCell') = true := by simp [itv, Value.oneCell']
theorem info_it : (Tryd.prog.info? 38).map (·.size) = some 15 := by kernel_rfl
def doI (i : Ins) : It := ⟨1, i, 0, 0, 0⟩
def goI (c l : Int) : It := ⟨2, zerI, c, l, 0⟩
def hereI (l : Int) : It := ⟨3, zerI, 0, l, 0⟩
def padI (t : Int) : It := ⟨4, zerI, 0, 0, t⟩
def zerT : It := ⟨0, zerI, 0, 0, 0⟩

def eqIns (a b : Ins) : Bool := Inst.same a.f a.rd a.rn a.rm a.ra a.im a.kd a.bs a.st a.cd a.rg b.f b.rd b.rn b.rm b.ra b.im b.kd b.bs b.st b.cd b.rg
def eqIt (x y : It) : Bool := x.k == y.k && (eqIns x.i y.i && (x.c == y.c && (x.l == y.l && (x.t == y.t && true))))
theorem eqIns_iff {a b : Ins} : eqIns a b = true ↔ a = b := by
  constructor
  · intro h
    obtain ⟨f, rd, rn, rm, ra, im, kd, bs, st, cd, rg⟩ := a
    obtain ⟨f', rd', rn', rm', ra', im', kd', bs', st', cd', rg'⟩ := b
    obtain ⟨h1, h2, h3, h4, h5, h6, h7, h8, h9, h10, h11⟩ := Inst.same_eq h
    dsimp only at h1 h2 h3 h4 h5 h6 h7 h8 h9 h10 h11
    subst h1 h2 h3 h4 h5 h6 h7 h8 h9 h10 h11
    rfl
  · rintro rfl; exact Inst.same_yes _ _ _ _ _ _ _ _ _ _ _
theorem eqIt_iff {x y : It} : eqIt x y = true ↔ x = y := by
  obtain ⟨k, i, c, l, t⟩ := x
  obtain ⟨k', i', c', l', t'⟩ := y
  unfold eqIt
  simp [eqIns_iff]
theorem eqIt_self (x : It) : eqIt x x = true := eqIt_iff.2 rfl
theorem eqIt_no {x y : It} (h : x ≠ y) : eqIt x y = false := by
  cases e : eqIt x y
  · rfl
  · exact absurd (eqIt_iff.1 e) h

theorem eq_stepS {P : Program} {w : World} {d : Nat} {xs ys : Array Value} {f : Field} {fs : List Field} {xa ya : Array Value} {q r : Bool} (hn : f.name ≠ "_")
    (hx : ∀ w, (part f.type xs f.offset).run P w = .ok (.agg xa) w) (hy : ∀ w, (part f.type ys f.offset).run P w = .ok (.agg ya) w) (hq : (Op.equalIn (d + 1) f.type (.agg xa) (.agg ya)).run P w = .ok q w) (hr : (Op.eqFields (d + 1) xs ys fs).run P w = .ok r w) :
    (Op.eqFields (d + 1) xs ys (f :: fs)).run P w = .ok (q && r) w := by
  unfold Op.eqFields
  rw [if_pos hn]
  simp only [Sem.run_bind, hx, hy, Result.andThen_ok, hq]
  cases q
  · simp
  · simpa using hr

set_option maxRecDepth 100000 in
theorem inner_item (w : World) (x y : It) : (Op.equalIn 9999 36 (.agg (inv x.i)) (.agg (inv y.i))).run Tryd.prog w = .ok (eqIns x.i y.i) w := by
  rw [run_equalIn_agg w 9998 36 _ _ (by kernel_rfl) (by kernel_rfl)]
  unfold Program.fieldsOf
  rw [Tryd.underlying36]
  exact (Inst.eq_step (a := x.i.f) (b := y.i.f) (by decide) Tryd.underlying34 (fun _ => by kernel_rfl) (fun _ => by kernel_rfl) (Inst.eq_step (a := x.i.rd) (b := y.i.rd) (by decide) Tryd.underlying3 (fun _ => by kernel_rfl) (fun _ => by kernel_rfl) (Inst.eq_step (a := x.i.rn) (b := y.i.rn) (by decide) Tryd.underlying3 (fun _ => by kernel_rfl) (fun _ => by kernel_rfl) (Inst.eq_step (a := x.i.rm) (b := y.i.rm) (by decide) Tryd.underlying3 (fun _ => by kernel_rfl) (fun _ => by kernel_rfl) (Inst.eq_step (a := x.i.ra) (b := y.i.ra) (by decide) Tryd.underlying3 (fun _ => by kernel_rfl) (fun _ => by kernel_rfl) (Inst.eq_step (a := x.i.im) (b := y.i.im) (by decide) Tryd.underlying3 (fun _ => by kernel_rfl) (fun _ => by kernel_rfl) (Inst.eq_step (a := x.i.kd) (b := y.i.kd) (by decide) Tryd.underlying3 (fun _ => by kernel_rfl) (fun _ => by kernel_rfl) (Inst.eq_step (a := x.i.bs) (b := y.i.bs) (by decide) Tryd.underlying3 (fun _ => by kernel_rfl) (fun _ => by kernel_rfl) (Inst.eq_step (a := x.i.st) (b := y.i.st) (by decide) Tryd.underlying3 (fun _ => by kernel_rfl) (fun _ => by kernel_rfl) (Inst.eq_step (a := x.i.cd) (b := y.i.cd) (by decide) Tryd.underlying3 (fun _ => by kernel_rfl) (fun _ => by kernel_rfl) (Inst.eq_step (a := x.i.rg) (b := y.i.rg) (by decide) Tryd.underlying3 (fun _ => by kernel_rfl) (fun _ => by kernel_rfl) Inst.eq_nil)))))))))))

set_option maxRecDepth 100000 in
theorem eql_item (w : World) (x y : It) : (binOp .eql 38 (.agg (itv x)) (.agg (itv y))).run Tryd.prog w = .ok (.bool (eqIt x y)) w := by
  rw [run_eql_struct, run_equalIn_agg w 9999 38 _ _ (by kernel_rfl) (by kernel_rfl)]
  unfold Program.fieldsOf
  rw [Tryd.underlying38]
  exact congrArg (fun r => Result.andThen r (fun b w' => Result.ok (Value.bool b) w')) (Inst.eq_step (a := x.k) (b := y.k) (by decide) Tryd.underlying3 (fun _ => by kernel_rfl) (fun _ => by kernel_rfl) (eq_stepS (xa := inv x.i) (ya := inv y.i) (by decide) (fun _ => by kernel_rfl) (fun _ => by kernel_rfl) (inner_item w x y) (Inst.eq_step (a := x.c) (b := y.c) (by decide) Tryd.underlying3 (fun _ => by kernel_rfl) (fun _ => by kernel_rfl) (Inst.eq_step (a := x.l) (b := y.l) (by decide) Tryd.underlying3 (fun _ => by kernel_rfl) (fun _ => by kernel_rfl) (Inst.eq_step (a := x.t) (b := y.t) (by decide) Tryd.underlying3 (fun _ => by kernel_rfl) (fun _ => by kernel_rfl) Inst.eq_nil)))))

end Go.Proofs.YtegefbndpkbooaaDoor.Asm

