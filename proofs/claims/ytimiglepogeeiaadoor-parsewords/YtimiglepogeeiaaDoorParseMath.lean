/- Trees as functions of tokens. No function of the program is walked here. -/
import Derived.Test.YtimiglepogeeiaaDoorLexMore
import Derived.WalkKit
set_option linter.unusedVariables false
set_option linter.unusedSimpArgs false
namespace Go.Proofs.YtimiglepogeeiaaDoor.Parse
open Go.RowKit Go.Proofs.YtimiglepogeeiaaDoor.Lex

/-- A tree. -/
inductive Tr where
  | mk (k a : Int) (t : List UInt8) (v : Int) (l : List Tr)

/-- Where a reader stands: at which token, how many nodes there are, what is wrong. -/
structure R where
  i : Nat
  n : Int
  e : Int
deriving DecidableEq

def endT : T := ⟨4, 0, [], 0⟩
def tk (L : List T) (r : R) : T := L.getD r.i endT
def refu (e : Int) (r : R) : R := if r.e = 0 then ⟨r.i, r.n, e⟩ else r
def adv (r : R) : R := ⟨r.i + 1, r.n, 0⟩
def must (b : Bool) (r : R) : R := if r.e = 0 then (if b then adv r else ⟨r.i, r.n, 110⟩) else r
def fol (L : List T) (x : List UInt8) (r : R) : Bool := decide (r.e = 0 ∧ (tk L r).t = x)
def need (L : List T) (x : List UInt8) (r : R) : R := must (decide ((tk L r).t = x)) r
def take (L : List T) (x : List UInt8) (r : R) : R := if fol L x r then adv r else r

def words : List (List UInt8) := [[102, 110], [101, 120, 112, 111, 114, 116], [108, 101, 116], [118, 97, 114], [97, 114, 114], [105, 102], [101, 108, 115, 101], [102, 111, 114], [105, 110], [114, 101, 116, 117, 114, 110], [112, 117, 98], [117, 51, 50], [117, 54, 52]]
def isW (x : List UInt8) : Bool := words.contains x
def name (L : List T) (r : R) : R := must (decide ((tk L r).k = 1) && !isW (tk L r).t) r
def numb (L : List T) (r : R) : R := must (decide ((tk L r).k = 2)) r
def sizR (L : List T) (r : R) : R := need L [93] (numb L (need L [91] r))
def sizV (L : List T) (r : R) : Int := (tk L (need L [91] r)).v
def nod (r : R) : R := if wrap64 (r.n + 1) > 16384 then refu 136 ⟨r.i, wrap64 (r.n + 1), r.e⟩ else ⟨r.i, wrap64 (r.n + 1), r.e⟩
def deep (d : Int) (r : R) : R := if d > 64 then refu 111 r else r

/-- Parts with commas between. -/
def moreF (each : R → R × Tr) (L : List T) : Nat → R → List Tr → R × List Tr
  | 0, r, l => (r, l)
  | m + 1, r, l => if fol L [44] r then moreF each L m (each (adv r)).1 (l ++ [(each (adv r)).2]) else (r, l)
def listF (each : R → R × Tr) (L : List T) (r : R) : R × List Tr :=
  if fol L [41] (need L [40] r) then (adv (need L [40] r), [])
  else (need L [41] (moreF each L (L.length + 1) (each (need L [40] r)).1 [(each (need L [40] r)).2]).1, (moreF each L (L.length + 1) (each (need L [40] r)).1 [(each (need L [40] r)).2]).2)

def lvOf (t : List UInt8) : Int :=
  if t = [124] then 1 else if t = [94] then 2 else if t = [38] then 3 else if t = [61, 61] ∨ t = [60] then 4
  else if t = [60, 60] ∨ t = [62, 62] ∨ t = [60, 60, 60] then 5 else if t = [43] ∨ t = [45] then 6 else if t = [42] ∨ t = [47] ∨ t = [37] then 7 else 0

def joinF (nx : R → R × Tr) (L : List T) (r : R) (x : Tr) : R × Tr :=
  ((nx (must true (nod r))).1, .mk 19 (tk L r).a (tk L r).t 0 [x, (nx (must true (nod r))).2])
def loopF (nx : R → R × Tr) (L : List T) (lv : Int) : Nat → R → Tr → R × Tr
  | 0, r, x => (r, x)
  | m + 1, r, x => if r.e = 0 ∧ lvOf (tk L r).t = lv then (if lv = 4 then joinF nx L r x else loopF nx L lv m (joinF nx L r x).1 (joinF nx L r x).2) else (r, x)
/-- An expression of a level: of 8 - n. -/
def lvlF (op : R → R × Tr) (L : List T) : Nat → R → R × Tr
  | 0, r => op r
  | n + 1, r => loopF (lvlF op L n) L (7 - n) (L.length + 2) (lvlF op L n r).1 (lvlF op L n r).2

def idxF (ex : R → R × Tr) (L : List T) (r : R) : R × Tr := (need L [93] (ex r).1, (ex r).2)
def callF (ex : R → R × Tr) (L : List T) (r : R) : R × Int × List Tr :=
  if fol L [91] r then ((idxF ex L (adv r)).1, 16, [(idxF ex L (adv r)).2])
  else if fol L [40] r then ((listF ex L r).1, 17, (listF ex L r).2)
  else (r, 15, [])
def opF (op : R → R × Tr) (L : List T) (d : Int) (r0 : R) : R × Tr :=
  let r := deep d r0
  if fol L [40] r then (need L [41] (lvlF op L 7 (adv r)).1, (lvlF op L 7 (adv r)).2)
  else if (tk L r).k = 2 then (numb L (nod r), .mk 14 (tk L r).a [] (tk L r).v [])
  else if fol L [126] (nod r) ∨ fol L [45] (nod r) then ((op (adv (nod r))).1, .mk 18 (tk L r).a (tk L r).t 0 [(op (adv (nod r))).2])
  else ((callF (lvlF op L 7) L (name L (nod r))).1, .mk (callF (lvlF op L 7) L (name L (nod r))).2.1 (tk L r).a (tk L r).t 0 (callF (lvlF op L 7) L (name L (nod r))).2.2)
/-- An operand at a depth, so far below the deepest. -/
def opS (L : List T) : Nat → R → R × Tr
  | 0, r => (r, .mk 0 0 [] 0 [])
  | k + 1, r => opF (opS L k) L (67 - (k + 1)) r
/-- An expression at a depth. -/
def exS (L : List T) (k : Nat) (r : R) : R × Tr := lvlF (opS L k) L 7 r

def givF (ex : R → R × Tr) (L : List T) (r : R) : R × Tr := ex (need L [61] r)
def chF (ex bl : R → R × Tr) (L : List T) (r : R) : R × List Tr :=
  let p := ex r
  let q := bl p.1
  if fol L [101, 108, 115, 101] q.1 then ((bl (adv q.1)).1, [p.2, q.2, (bl (adv q.1)).2]) else (q.1, [p.2, q.2])
def rouF (ex bl : R → R × Tr) (L : List T) (r : R) : R × List Tr :=
  let p := ex (need L [105, 110] (name L r))
  let q := ex (need L [46, 46] p.1)
  let b := bl q.1
  (b.1, [p.2, q.2, b.2])
/-- A statement that begins with a name: of what kind it is, what it holds. -/
def namF (ex ix : R → R × Tr) (L : List T) (r : R) : R × Int × List Tr :=
  if fol L [91] (name L r) then ((givF ex L (idxF ix L (adv (name L r))).1).1, 9, [(idxF ix L (adv (name L r))).2, (givF ex L (idxF ix L (adv (name L r))).1).2])
  else if fol L [40] (name L r) then ((listF ix L (name L r)).1, 10, (listF ix L (name L r)).2)
  else ((givF ex L (name L r)).1, 8, [(givF ex L (name L r)).2])
def stF (ex ix bl : R → R × Tr) (L : List T) (r0 : R) : R × Tr :=
  let a := (tk L r0).a
  let r := nod r0
  let s := adv r
  let t := (tk L s).t
  if fol L [108, 101, 116] r then (need L [59] (givF ex L (name L s)).1, .mk 5 a t 0 [(givF ex L (name L s)).2])
  else if fol L [118, 97, 114] r then (need L [59] (givF ex L (name L s)).1, .mk 6 a t 0 [(givF ex L (name L s)).2])
  else if fol L [97, 114, 114] r then (need L [59] (sizR L (name L s)), .mk 7 a t (sizV L (name L s)) [])
  else if fol L [114, 101, 116, 117, 114, 110] r then (need L [59] (ex s).1, .mk 13 a [] 0 [(ex s).2])
  else if fol L [105, 102] r then ((chF ex bl L s).1, .mk 11 a [] 0 (chF ex bl L s).2)
  else if fol L [102, 111, 114] r then ((rouF ex bl L s).1, .mk 12 a t 0 (rouF ex bl L s).2)
  else (need L [59] (namF ex ix L r).1, .mk (namF ex ix L r).2.1 a (tk L r).t 0 (namF ex ix L r).2.2)

def blkL (st : R → R × Tr) (L : List T) : Nat → R → List Tr → R × List Tr
  | 0, r, l => (r, l)
  | m + 1, r, l => if r.e = 0 then (if fol L [125] r then (adv r, l) else blkL st L m (st r).1 (l ++ [(st r).2])) else (r, l)
def blkF (st : R → R × Tr) (L : List T) (r : R) : R × Tr :=
  ((blkL st L (L.length + 2) (need L [123] (nod r)) []).1, .mk 4 (tk L r).a [] 0 (blkL st L (L.length + 2) (need L [123] (nod r)) []).2)
/-- A block, so far below the deepest: a block at depth d has k = 67 - d. -/
def blS (L : List T) : Nat → R → R × Tr
  | 0, r => (r, .mk 0 0 [] 0 [])
  | k + 1, r => blkF (stF (exS L k) (exS L (k - 1)) (blS L k) L) L r

def pmF (L : List T) (r0 : R) : R × Tr :=
  let a := (tk L r0).a
  let t := (tk L r0).t
  let r := need L [58] (name L (nod r0))
  if fol L [112, 117, 98] r then (adv r, .mk 3 a t 1 [])
  else if fol L [117, 51, 50] r then (adv r, .mk 3 a t 2 [])
  else if fol L [117, 54, 52] r then (adv r, .mk 3 a t 3 [])
  else (sizR L (nod r), .mk 3 a t 4 [.mk 14 (tk L r).a [] (sizV L (nod r)) []])
def resF (L : List T) (r : R) : R × Int :=
  if fol L [45, 62] r then (if fol L [117, 51, 50] (adv r) then (adv (adv r), 2) else (need L [117, 54, 52] (adv r), 4)) else (r, 0)
def fnF (L : List T) (r0 : R) : R × Tr :=
  let a := (tk L r0).a
  let x := fol L [101, 120, 112, 111, 114, 116] (nod r0)
  let r := need L [102, 110] (take L [101, 120, 112, 111, 114, 116] (nod r0))
  let t := (tk L r).t
  let p := listF (pmF L) L (name L r)
  let q := resF L p.1
  let b := blS L 66 q.1
  (b.1, .mk 2 a t ((if x then 1 else 0) + q.2) (p.2 ++ [b.2]))
def prL (L : List T) : Nat → R → List Tr → R × List Tr
  | 0, r, l => (r, l)
  | m + 1, r, l => if r.e = 0 ∧ (tk L r).k ≠ 4 then prL L m (fnF L r).1 (l ++ [(fnF L r).2]) else (r, l)
def prF (L : List T) (r : R) : R × Tr :=
  ((prL L (L.length + 2) (nod r) []).1, .mk 1 (tk L r).a [] 0 (prL L (L.length + 2) (nod r) []).2)
/-- A source's tree; or an error and its offset. -/
def parsed (l : List UInt8) : Except (Int × Int) Tr :=
  match lexed l with
  | .error e => .error (e.1, e.2)
  | .ok L => if (prF L ⟨0, 0, 0⟩).1.e ≠ 0 then .error ((prF L ⟨0, 0, 0⟩).1.e, (tk L (prF L ⟨0, 0, 0⟩).1).a) else .ok (prF L ⟨0, 0, 0⟩).2

/-- How a reader moves: never back; what is wrong stays. -/
structure Mv (r s : R) : Prop where
  i : r.i ≤ s.i
  e : r.e ≠ 0 → s.e ≠ 0
/-- And it moves on, or something is wrong. -/
structure Mo (r s : R) : Prop where
  v : Mv r s
  o : s.e ≠ 0 ∨ r.i < s.i
theorem Mv.refl (r : R) : Mv r r := ⟨Nat.le_refl _, id⟩
theorem Mv.trans {a b c : R} (h : Mv a b) (k : Mv b c) : Mv a c := ⟨Nat.le_trans h.i k.i, fun x => k.e (h.e x)⟩
theorem Mo.trans {a b c : R} (h : Mo a b) (k : Mv b c) : Mo a c := ⟨h.v.trans k, h.o.elim (fun x => .inl (k.e x)) (fun x => .inr (Nat.lt_of_lt_of_le x k.i))⟩
theorem Mv.then {a b c : R} (h : Mv a b) (k : Mo b c) : Mo a c := ⟨h.trans k.v, k.o.elim .inl (fun x => .inr (Nat.lt_of_le_of_lt h.i x))⟩
theorem refu_mv (e : Int) (he : e ≠ 0) (r : R) : Mv r (refu e r) := by
  unfold refu
  split
  · exact ⟨Nat.le_refl _, fun _ => he⟩
  · exact Mv.refl r
theorem must_mo (b : Bool) (r : R) : Mo r (must b r) := by
  unfold must adv
  split
  · rename_i h
    split
    · exact ⟨⟨Nat.le_succ _, fun x => absurd h x⟩, .inr (Nat.lt_succ_self _)⟩
    · exact ⟨⟨Nat.le_refl _, fun _ => by simp⟩, .inl (by simp)⟩
  · rename_i h
    exact ⟨Mv.refl r, .inl h⟩
theorem need_mo (L : List T) (x : List UInt8) (r : R) : Mo r (need L x r) := must_mo _ r
theorem name_mo (L : List T) (r : R) : Mo r (name L r) := must_mo _ r
theorem numb_mo (L : List T) (r : R) : Mo r (numb L r) := must_mo _ r
theorem fol_e {L : List T} {x : List UInt8} {r : R} (h : fol L x r = true) : r.e = 0 := (of_decide_eq_true h).1
theorem fol_t {L : List T} {x : List UInt8} {r : R} (h : fol L x r = true) : (tk L r).t = x := (of_decide_eq_true h).2
theorem adv_mo {L : List T} {x : List UInt8} {r : R} (h : fol L x r = true) : Mo r (adv r) := ⟨⟨Nat.le_succ _, fun e => absurd (fol_e h) e⟩, .inr (Nat.lt_succ_self _)⟩
theorem take_mv (L : List T) (x : List UInt8) (r : R) : Mv r (take L x r) := by
  unfold take
  split
  · rename_i h; exact (adv_mo h).v
  · exact Mv.refl r
theorem nod_mv (r : R) : Mv r (nod r) := by
  unfold nod refu
  split
  · split
    · exact ⟨Nat.le_refl _, fun _ => by simp⟩
    · exact ⟨Nat.le_refl _, id⟩
  · exact ⟨Nat.le_refl _, id⟩
theorem nod_i (r : R) : (nod r).i = r.i := by
  unfold nod refu
  split
  · split <;> rfl
  · rfl
theorem tk_nod (L : List T) (r : R) : tk L (nod r) = tk L r := by unfold tk; rw [nod_i]
theorem deep_mv (d : Int) (r : R) : Mv r (deep d r) := by
  unfold deep
  split
  · exact refu_mv _ (by decide) r
  · exact Mv.refl r
theorem sizR_mo (L : List T) (r : R) : Mo r (sizR L r) := (need_mo L _ r).trans ((numb_mo L _).v.trans (need_mo L _ _).v)

theorem moreF_mv {each : R → R × Tr} {L : List T} (h : ∀ r, Mv r (each r).1) : ∀ m r l, Mv r (moreF each L m r l).1
  | 0, r, l => Mv.refl r
  | m + 1, r, l => by
    unfold moreF
    split
    · rename_i hf
      exact (adv_mo hf).v.trans ((h _).trans (moreF_mv h m _ _))
    · exact Mv.refl r
theorem listF_mo {each : R → R × Tr} {L : List T} (h : ∀ r, Mv r (each r).1) (r : R) : Mo r (listF each L r).1 := by
  unfold listF
  split
  · rename_i hf; exact (need_mo L _ r).trans (adv_mo hf).v
  · exact (need_mo L _ r).trans ((h _).trans ((moreF_mv h _ _ _).trans (need_mo L _ _).v))
theorem joinF_mo {nx : R → R × Tr} {L : List T} (h : ∀ r, Mv r (nx r).1) (r : R) (x : Tr) : Mo r (joinF nx L r x).1 :=
  (nod_mv r).then ((must_mo true _).trans (h _))
theorem loopF_mv {nx : R → R × Tr} {L : List T} (h : ∀ r, Mv r (nx r).1) (lv : Int) : ∀ m r x, Mv r (loopF nx L lv m r x).1
  | 0, r, x => Mv.refl r
  | m + 1, r, x => by
    unfold loopF
    split
    · split
      · exact (joinF_mo h r x).v
      · exact (joinF_mo h r x).v.trans (loopF_mv h lv m _ _)
    · exact Mv.refl r
theorem lvlF_mv {op : R → R × Tr} {L : List T} (h : ∀ r, Mv r (op r).1) : ∀ n r, Mv r (lvlF op L n r).1
  | 0, r => h r
  | n + 1, r => (lvlF_mv h n r).trans (loopF_mv (lvlF_mv h n) _ _ _ _)
theorem idxF_mv {ex : R → R × Tr} {L : List T} (h : ∀ r, Mv r (ex r).1) (r : R) : Mv r (idxF ex L r).1 := (h r).trans (need_mo L _ _).v
theorem callF_mv {ex : R → R × Tr} {L : List T} (h : ∀ r, Mv r (ex r).1) (r : R) : Mv r (callF ex L r).1 := by
  unfold callF
  split
  · rename_i hf; exact (adv_mo hf).v.trans (idxF_mv h _)
  · split
    · exact (listF_mo h r).v
    · exact Mv.refl r
theorem opF_mv {op : R → R × Tr} {L : List T} (h : ∀ r, Mv r (op r).1) (d : Int) (r : R) : Mv r (opF op L d r).1 := by
  unfold opF
  dsimp only
  split
  · rename_i hf; exact (deep_mv d r).trans ((adv_mo hf).v.trans ((lvlF_mv h _ _).trans (need_mo L _ _).v))
  · split
    · exact (deep_mv d r).trans ((nod_mv _).trans (numb_mo L _).v)
    · split
      · rename_i hf
        refine (deep_mv d r).trans ((nod_mv _).trans (Mv.trans ?_ (h _)))
        rcases hf with hf | hf <;> exact (adv_mo hf).v
      · exact (deep_mv d r).trans ((nod_mv _).trans ((name_mo L _).v.trans (callF_mv (lvlF_mv h 7) _)))
theorem opS_mv (L : List T) : ∀ k r, Mv r (opS L k r).1
  | 0, r => Mv.refl r
  | k + 1, r => opF_mv (opS_mv L k) _ r
theorem exS_mv (L : List T) (k : Nat) (r : R) : Mv r (exS L k r).1 := lvlF_mv (opS_mv L k) 7 r
theorem givF_mo {ex : R → R × Tr} {L : List T} (h : ∀ r, Mv r (ex r).1) (r : R) : Mo r (givF ex L r).1 := (need_mo L _ r).trans (h _)
theorem chF_mv {ex bl : R → R × Tr} {L : List T} (h : ∀ r, Mv r (ex r).1) (hb : ∀ r, Mv r (bl r).1) (r : R) : Mv r (chF ex bl L r).1 := by
  unfold chF
  dsimp only
  split
  · rename_i hf; exact (h r).trans ((hb _).trans ((adv_mo hf).v.trans (hb _)))
  · exact (h r).trans (hb _)
theorem rouF_mo {ex bl : R → R × Tr} {L : List T} (h : ∀ r, Mv r (ex r).1) (hb : ∀ r, Mv r (bl r).1) (r : R) : Mo r (rouF ex bl L r).1 :=
  (name_mo L r).trans ((need_mo L _ _).v.trans ((h _).trans ((need_mo L _ _).v.trans ((h _).trans (hb _)))))
theorem namF_mo {ex ix : R → R × Tr} {L : List T} (h : ∀ r, Mv r (ex r).1) (hi : ∀ r, Mv r (ix r).1) (r : R) : Mo r (namF ex ix L r).1 := by
  unfold namF
  split
  · rename_i hf; exact (name_mo L r).trans ((adv_mo hf).v.trans ((idxF_mv hi _).trans (givF_mo h _).v))
  · split
    · exact (name_mo L r).trans (listF_mo hi _).v
    · exact (name_mo L r).trans (givF_mo h _).v
theorem stF_mo {ex ix bl : R → R × Tr} {L : List T} (h : ∀ r, Mv r (ex r).1) (hi : ∀ r, Mv r (ix r).1) (hb : ∀ r, Mv r (bl r).1) (r : R) : Mo r (stF ex ix bl L r).1 := by
  unfold stF
  dsimp only
  refine (nod_mv r).then ?_
  split
  · rename_i hf; exact (adv_mo hf).trans ((name_mo L _).v.trans ((givF_mo h _).v.trans (need_mo L _ _).v))
  split
  · rename_i hf; exact (adv_mo hf).trans ((name_mo L _).v.trans ((givF_mo h _).v.trans (need_mo L _ _).v))
  split
  · rename_i hf; exact (adv_mo hf).trans ((name_mo L _).v.trans ((sizR_mo L _).v.trans (need_mo L _ _).v))
  split
  · rename_i hf; exact (adv_mo hf).trans ((h _).trans (need_mo L _ _).v)
  split
  · rename_i hf; exact (adv_mo hf).trans (chF_mv h hb _)
  split
  · rename_i hf; exact (adv_mo hf).trans (rouF_mo h hb _).v
  · exact (namF_mo h hi _).trans (need_mo L _ _).v
theorem blkL_mv {st : R → R × Tr} {L : List T} (h : ∀ r, Mv r (st r).1) : ∀ m r l, Mv r (blkL st L m r l).1
  | 0, r, l => Mv.refl r
  | m + 1, r, l => by
    unfold blkL
    split
    · split
      · rename_i hf; exact (adv_mo hf).v
      · exact (h r).trans (blkL_mv h m _ _)
    · exact Mv.refl r
theorem blkF_mo {st : R → R × Tr} {L : List T} (h : ∀ r, Mv r (st r).1) (r : R) : Mo r (blkF st L r).1 :=
  (nod_mv r).then ((need_mo L _ _).trans (blkL_mv h _ _ _))
theorem blS_mv (L : List T) : ∀ k r, Mv r (blS L k r).1
  | 0, r => Mv.refl r
  | k + 1, r => (blkF_mo (fun r => (stF_mo (exS_mv L k) (exS_mv L (k - 1)) (blS_mv L k) r).v) r).v
theorem pmF_mo (L : List T) (r : R) : Mo r (pmF L r).1 := by
  unfold pmF
  dsimp only
  have hh : Mo r (need L [58] (name L (nod r))) := (nod_mv r).then ((name_mo L _).trans (need_mo L _ _).v)
  refine hh.trans ?_
  split
  · rename_i hf; exact (adv_mo hf).v
  split
  · rename_i hf; exact (adv_mo hf).v
  split
  · rename_i hf; exact (adv_mo hf).v
  · exact (nod_mv _).trans (sizR_mo L _).v
theorem resF_mv (L : List T) (r : R) : Mv r (resF L r).1 := by
  unfold resF
  split
  · rename_i hf
    split
    · rename_i hg; exact (adv_mo hf).v.trans (adv_mo hg).v
    · exact (adv_mo hf).v.trans (need_mo L _ _).v
  · exact Mv.refl r
theorem fnF_mo (L : List T) (r : R) : Mo r (fnF L r).1 := by
  unfold fnF
  dsimp only
  exact (nod_mv r).then ((take_mv L _ _).then ((need_mo L _ _).trans ((name_mo L _).v.trans ((listF_mo (fun r => (pmF_mo L r).v) _).v.trans ((resF_mv L _).trans (blS_mv L _ _))))))

/-- Nothing as deep as that is read. -/
theorem opF_bad {op : R → R × Tr} {L : List T} (h : ∀ r, Mv r (op r).1) {d : Int} (hd : 64 < d) (r : R) : (opF op L d r).1.e ≠ 0 := by
  have hz : (deep d r).e ≠ 0 := by
    unfold deep refu
    rw [if_pos hd]
    split
    · simp
    · assumption
  have : Mv (deep d r) (opF op L d r).1 := by
    unfold opF
    dsimp only
    split
    · rename_i hf; exact absurd (fol_e hf) hz
    · split
      · exact (nod_mv _).trans (numb_mo L _).v
      · split
        · rename_i hf
          refine (nod_mv _).trans (Mv.trans ?_ (h _))
          rcases hf with hf | hf <;> exact (adv_mo hf).v
        · exact (nod_mv _).trans ((name_mo L _).v.trans (callF_mv (lvlF_mv h 7) _))
  exact this.e hz
theorem exS_bad (L : List T) (k : Nat) (h1 : 1 ≤ k) (h2 : k ≤ 2) (r : R) : (exS L k r).1.e ≠ 0 := by
  have h : ∀ n r, (lvlF (opS L k) L n r).1.e ≠ 0 := by
    intro n
    induction n with
    | zero =>
      intro r
      match k, h1, h2 with
      | 1, _, _ => exact opF_bad (opS_mv L 0) (by simp) r
      | 2, _, _ => exact opF_bad (opS_mv L 1) (by simp) r
    | succ n ih => intro r; exact (loopF_mv (lvlF_mv (opS_mv L k) n) _ _ _ _).e (ih r)
  exact h 7 r

end Go.Proofs.YtimiglepogeeiaaDoor.Parse

