/- An instruction as a value; worlds that differ in some blocks alone. No function of the program is walked here. -/
import Derived.Test.YtegefbndpkbooaaDoorCodeLaid
import Derived.Below
import Derived.Deep.MidRow
set_option linter.unusedVariables false
namespace Go.Proofs.YtegefbndpkbooaaDoor.Core
open Go.RowKit

/-- An instruction's fields. -/
structure Ins where
  f : Int
  rd : Int
  rn : Int
  rm : Int
  ra : Int
  im : Int
  kd : Int
  bs : Int
  st : Int
  cd : Int
  rg : Int
/-- Nothing that was there has turned, but in the blocks S. -/
structure Off (S : List Nat) (w w' : World) : Prop where
  os : w'.os = w.os
  tape : w'.tape = w.tape
  output : w'.output = w.output
  size : w.heap.size ≤ w'.heap.size
  block : ∀ k, k < w.heap.size → k ∉ S → w'.heap[k]? = w.heap[k]?
theorem Off.refl (S : List Nat) (w : World) : Off S w w := ⟨rfl, rfl, rfl, Nat.le_refl _, fun _ _ _ => rfl⟩
theorem Off.trans {S : List Nat} {a b c : World} (h : Off S a b) (k : Off S b c) : Off S a c :=
  ⟨k.os.trans h.os, k.tape.trans h.tape, k.output.trans h.output, Nat.le_trans h.size k.size, fun i hi hn => (k.block i (Nat.lt_of_lt_of_le hi h.size) hn).trans (h.block i hi hn)⟩
theorem Off.of_below {S : List Nat} {a b : World} (h : Below a.heap.size a b) : Off S a b := ⟨h.os, h.tape, h.output, h.size, fun i hi _ => h.block i hi⟩
theorem Off.mono {S T : List Nat} {a b : World} (h : Off S a b) (hs : ∀ k, k ∈ S → k ∈ T) : Off T a b := ⟨h.os, h.tape, h.output, h.size, fun i hi hn => h.block i hi (fun e => hn (hs i e))⟩
theorem Off.below {S : List Nat} {a b : World} {n : Nat} (h : Off S a b) (hn : n ≤ a.heap.size) (hs : ∀ k, k ∈ S → n ≤ k) : Below n a b := ⟨h.os, h.tape, h.output, h.size, fun i hi => h.block i (by omega) (fun e => by have := hs i e; omega)⟩
theorem Off.drew {S : List Nat} {a b : World} (h : Off S a b) : Off S a b.drew := ⟨h.os, h.tape, h.output, h.size, h.block⟩
theorem Off.alloc {S : List Nat} {a b : World} (h : Off S a b) (o : Obj) : Off S a (b.alloc o) :=
  h.trans (Off.of_below ((Below.refl _ b).alloc (Nat.le_refl _) o))
theorem Off.set {S : List Nat} {a b : World} (h : Off S a b) {p : Addr} (hp : p.block ∈ S) (v : Value) : Off S a (b.setCell p v) :=
  h.trans ⟨rfl, rfl, rfl, by simp [World.setCell], fun k hk hn => Below.heap_setCell _ _ _ _ (fun e => hn (e ▸ hp))⟩
theorem Off.cell {S : List Nat} {w w' : World} (h : Off S w w') {p : Addr} (hp : p.block < w.heap.size) (hs : p.block ∉ S) : w'.cell? p = w.cell? p := World.cell?_of_block (w := w) (h.block p.block hp hs)

/-- An instruction as a value; whether it may be; the empty one. -/
def inv (i : Ins) : Array Value := #[.int .i64 i.f, .int .i64 i.rd, .int .i64 i.rn, .int .i64 i.rm, .int .i64 i.ra, .int .i64 i.im, .int .i64 i.kd, .int .i64 i.bs, .int .i64 i.st, .int .i64 i.cd, .int .i64 i.rg]
def Ins.right (i : Ins) : Bool := Inst.right i.f i.rd i.rn i.rm i.ra i.im i.kd i.bs i.st i.cd i.rg
def zerI : Ins := ⟨0, 0, 0, 0, 0, 0, 0, 0, 0, 0, 0⟩
theorem one_in (i : Ins) : (inv i).all (·.oneCell') = true := by simp [inv, Value.oneCell']
theorem info_in : (Tryd.prog.info? 36).map (·.size) = some 11 := by kernel_rfl

end Go.Proofs.YtegefbndpkbooaaDoor.Core

