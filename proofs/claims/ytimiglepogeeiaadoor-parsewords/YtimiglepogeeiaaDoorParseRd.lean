/- A reader in the heap: its box; worlds that differ in it alone; trees in the heap. No function of the program is walked here. -/
import Derived.Test.YtimiglepogeeiaaDoorParseMath
import Derived.Test.YtimiglepogeeiaaDoorLexRow
import Derived.Below
import Derived.Deep.MidRow
import Derived.Deep.WholeRow
set_option linter.unusedVariables false
set_option linter.unusedSimpArgs false
namespace Go.Proofs.YtimiglepogeeiaaDoor.Parse
open Go.RowKit Go.Proofs.YtimiglepogeeiaaDoor.Lex

/-- Nothing that was there has turned, but in block b. -/
structure But (b : Nat) (w w' : World) : Prop where
  os : w'.os = w.os
  tape : w'.tape = w.tape
  output : w'.output = w.output
  size : w.heap.size ≤ w'.heap.size
  block : ∀ k, k < w.heap.size → k ≠ b → w'.heap[k]? = w.heap[k]?
theorem But.refl (b : Nat) (w : World) : But b w w := ⟨rfl, rfl, rfl, Nat.le_refl _, fun _ _ _ => rfl⟩
theorem But.trans {b : Nat} {u v w : World} (h : But b u v) (k : But b v w) : But b u w :=
  ⟨k.os.trans h.os, k.tape.trans h.tape, k.output.trans h.output, Nat.le_trans h.size k.size, fun i hi hn => (k.block i (Nat.lt_of_lt_of_le hi h.size) hn).trans (h.block i hi hn)⟩
theorem But.of_below {b : Nat} {u v : World} (h : Below u.heap.size u v) : But b u v := ⟨h.os, h.tape, h.output, h.size, fun i hi _ => h.block i hi⟩
theorem But.below {b : Nat} {u v : World} {n : Nat} (h : But b u v) (hn : n ≤ u.heap.size) (hb : n ≤ b) : Below n u v := ⟨h.os, h.tape, h.output, h.size, fun i hi => h.block i (by omega) (fun e => by omega)⟩
theorem But.drew {b : Nat} {u v : World} (h : But b u v) : But b u v.drew := ⟨h.os, h.tape, h.output, h.size, h.block⟩
theorem But.drewN {b : Nat} {u v : World} (h : But b u v) (n : Nat) : But b u (v.drewN n) := ⟨h.os, h.tape, h.output, h.size, h.block⟩
theorem But.alloc {b : Nat} {u v : World} (h : But b u v) (o : Obj) : But b u (v.alloc o) := h.trans (But.of_below ((Below.refl _ v).alloc (Nat.le_refl _) o))
theorem But.set {b : Nat} {u v : World} (h : But b u v) (k : Nat) (x : Value) : But b u (v.setCell ⟨b, k, none⟩ x) :=
  h.trans ⟨rfl, rfl, rfl, by simp [World.setCell], fun i hi hn => Below.heap_setCell _ _ _ _ (fun e => hn e)⟩
theorem But.cell {b : Nat} {w w' : World} (h : But b w w') {p : Addr} (hp : p.block < w.heap.size) (hs : p.block ≠ b) : w'.cell? p = w.cell? p := World.cell?_of_block (w := w) (h.block p.block hp hs)

theorem lt_heap {w : World} {b : Nat} {o : Obj} (h : w.heap[b]? = some o) : b < w.heap.size := (Array.getElem?_eq_some_iff.1 h).1
theorem set_heap {c : Array Value} {t : TypeId} {b : Nat} (w : World) (i : Nat) (v : Value) (h : w.heap[b]? = some (.cells c t (0, 0))) : (w.setCell ⟨b, i, none⟩ v).heap[b]? = some (.cells (c.setIfInBounds i v) t (0, 0)) := by
  simp [World.setCell, Array.getElem?_modify, h]
theorem free_heap {w : World} {b : Nat} {c : Array Value} {t : TypeId} (h : w.heap[b]? = some (.cells c t (0, 0))) (i : Nat) : w.frozen? ⟨b, i, none⟩ = false := by simp [World.frozen?, h]

theorem heap_new (w : World) (c : Array Value) (t : TypeId) : (w.alloc (.cells c t)).heap[w.heap.size]? = some (.cells c t (0, 0)) := by show (w.heap.push _)[w.heap.size]? = _; simp
/-- A box of cells. -/
def Bx (w : World) (B : Nat) (t : TypeId) (c : Array Value) : Prop := w.heap[B]? = some (.cells c t (0, 0))
section
variable {w w' : World} {B : Nat} {ty : TypeId} {c : Array Value}
theorem Bx.lt (h : Bx w B ty c) : B < w.heap.size := lt_heap h
theorem Bx.free (h : Bx w B ty c) (i : Nat) : w.frozen? ⟨B, i, none⟩ = false := free_heap h i
theorem Bx.cell (h : Bx w B ty c) {k : Nat} {v : Value} (hk : c[k]? = some v) : w.cell? ⟨B, k, none⟩ = some v := by simp [World.cell?, show w.heap[B]? = _ from h, hk]
theorem Bx.below (h : Bx w B ty c) (hb : Below w.heap.size w w') : Bx w' B ty c := (hb.block B h.lt).trans h
theorem Bx.but {b : Nat} (h : Bx w B ty c) (hb : But b w w') (hn : B ≠ b) : Bx w' B ty c := (hb.block B h.lt hn).trans h
theorem Bx.alloc (h : Bx w B ty c) (o : Obj) : Bx (w.alloc o) B ty c := h.below ((Below.refl _ w).alloc (Nat.le_refl _) o)
theorem Bx.set (h : Bx w B ty c) (i : Nat) (v : Value) : Bx (w.setCell ⟨B, i, none⟩ v) B ty (c.setIfInBounds i v) := set_heap w i v h
theorem Bx.other (h : Bx w B ty c) {p : Addr} (v : Value) (hp : B ≠ p.block) : Bx (w.setCell p v) B ty c := (Below.heap_setCell _ _ _ _ hp).trans h
theorem Bx.put4 {c0 c1 c2 c3 : Value} (h : Bx w B ty #[c0, c1, c2, c3]) (v0 v1 v2 v3 : Value) : Bx ((((w.setCell ⟨B, 0, none⟩ v0).setCell ⟨B, 1, none⟩ v1).setCell ⟨B, 2, none⟩ v2).setCell ⟨B, 3, none⟩ v3) B ty #[v0, v1, v2, v3] := (((h.set 0 v0).set 1 v1).set 2 v2).set 3 v3
theorem Bx.put5 {c0 c1 c2 c3 c4 : Value} (h : Bx w B ty #[c0, c1, c2, c3, c4]) (v0 v1 v2 v3 v4 : Value) : Bx (((((w.setCell ⟨B, 0, none⟩ v0).setCell ⟨B, 1, none⟩ v1).setCell ⟨B, 2, none⟩ v2).setCell ⟨B, 3, none⟩ v3).setCell ⟨B, 4, none⟩ v4) B ty #[v0, v1, v2, v3, v4] := ((((h.set 0 v0).set 1 v1).set 2 v2).set 3 v3).set 4 v4
end

/-- What all tokens are: the last one is the end; it has no text; the others are none. -/
structure Toks (L : List T) : Prop where
  en : ∀ i t, L[i]? = some t → i + 1 < L.length ∨ (t.k = 4 ∧ t.t = [])
  ne : 0 < L.length

/-- A reader's cells. -/
def rdC (g c : Nat) (L : List T) (r : R) : Array Value := #[.slice (some ⟨g, r.i * 4, none⟩) (L.length - r.i) (c - r.i), .int .i64 r.n, .int .i64 r.e]
/-- Block b is a reader's box; the tokens lie in block g. -/
structure Rd (w : World) (b g c : Nat) (L : List T) (r : R) : Prop where
  box : w.heap[b]? = some (.cells (rdC g c L r) 50 (0, 0))
  row : Row w g L
  ne : g ≠ b
  lt : r.i < L.length
  cap : L.length ≤ c
  sz : L.length ≤ 70000
  tks : Toks L
section
variable {w w' : World} {b g c : Nat} {L : List T} {r : R}
theorem Rd.c0 (h : Rd w b g c L r) : w.cell? ⟨b, 0, none⟩ = some (.slice (some ⟨g, r.i * 4, none⟩) (L.length - r.i) (c - r.i)) := by simp [World.cell?, h.box, rdC]
theorem Rd.c1 (h : Rd w b g c L r) : w.cell? ⟨b, 1, none⟩ = some (.int .i64 r.n) := by simp [World.cell?, h.box, rdC]
theorem Rd.c2 (h : Rd w b g c L r) : w.cell? ⟨b, 2, none⟩ = some (.int .i64 r.e) := by simp [World.cell?, h.box, rdC]
theorem Rd.free (h : Rd w b g c L r) (i : Nat) : w.frozen? ⟨b, i, none⟩ = false := free_heap h.box i
theorem Rd.ltb (h : Rd w b g c L r) : b < w.heap.size := lt_heap h.box
theorem Rd.kept (h : Rd w b g c L r) (hb : Below w.heap.size w w') : Rd w' b g c L r := ⟨(hb.block b h.ltb).trans h.box, h.row.below hb, h.ne, h.lt, h.cap, h.sz, h.tks⟩
theorem Row.but (h : Row w g L) (hb : But b w w') (hn : g ≠ b) : Row w' g L where
  lt := Nat.lt_of_lt_of_le h.lt hb.size
  k := fun i t ht => by rw [hb.cell (p := ⟨g, _, none⟩) h.lt hn]; exact h.k i t ht
  a := fun i t ht => by rw [hb.cell (p := ⟨g, _, none⟩) h.lt hn]; exact h.a i t ht
  t := fun i t ht => by rw [hb.cell (p := ⟨g, _, none⟩) h.lt hn]; exact h.t i t ht
  v := fun i t ht => by rw [hb.cell (p := ⟨g, _, none⟩) h.lt hn]; exact h.v i t ht
theorem Rd.drew (h : Rd w b g c L r) : Rd w.drew b g c L r := h.kept ⟨rfl, rfl, rfl, Nat.le_refl _, fun _ _ => rfl⟩
theorem Rd.drewN (h : Rd w b g c L r) (n : Nat) : Rd (w.drewN n) b g c L r := h.kept ⟨rfl, rfl, rfl, Nat.le_refl _, fun _ _ => rfl⟩
theorem Rd.alloc (h : Rd w b g c L r) (o : Obj) : Rd (w.alloc o) b g c L r := h.kept ((Below.refl _ w).alloc (Nat.le_refl _) o)
theorem Rd.setE (h : Rd w b g c L r) (e : Int) : Rd (w.setCell ⟨b, 2, none⟩ (.int .i64 e)) b g c L ⟨r.i, r.n, e⟩ :=
  ⟨(set_heap w 2 _ h.box).trans rfl, Row.but h.row ((But.refl b w).set 2 _) h.ne, h.ne, h.lt, h.cap, h.sz, h.tks⟩
theorem Rd.setN (h : Rd w b g c L r) (n : Int) : Rd (w.setCell ⟨b, 1, none⟩ (.int .i64 n)) b g c L ⟨r.i, n, r.e⟩ :=
  ⟨(set_heap w 1 _ h.box).trans rfl, Row.but h.row ((But.refl b w).set 1 _) h.ne, h.ne, h.lt, h.cap, h.sz, h.tks⟩
theorem Rd.setL (h : Rd w b g c L r) (hi : r.i + 1 < L.length) (he : r.e = 0) (o n d : Nat) (ho : o = r.i * 4 + 4) (hn : n = L.length - r.i - 1) (hd : d = c - r.i - 1) :
    Rd (w.setCell ⟨b, 0, none⟩ (.slice (some ⟨g, o, none⟩) n d)) b g c L (adv r) := by
  refine ⟨(set_heap w 0 _ h.box).trans ?_, Row.but h.row ((But.refl b w).set 0 _) h.ne, h.ne, hi, h.cap, h.sz, h.tks⟩
  subst ho hn hd
  simp only [rdC, adv, he, List.setIfInBounds_toArray, List.set_cons_zero]
  rw [show (r.i + 1) * 4 = r.i * 4 + 4 by omega, Nat.sub_sub, Nat.sub_sub]
theorem Row.other (h : Row w g L) {p : Addr} (v : Value) (hp : g ≠ p.block) : Row (w.setCell p v) g L :=
  Row.but h (b := p.block) ⟨rfl, rfl, rfl, by simp [World.setCell], fun i hi hn => Below.heap_setCell _ _ _ _ hn⟩ hp
theorem Rd.other (h : Rd w b g c L r) {p : Addr} (v : Value) (hb : b ≠ p.block) (hg : g ≠ p.block) : Rd (w.setCell p v) b g c L r :=
  ⟨(Below.heap_setCell _ _ _ _ hb).trans h.box, Row.other h.row v hg, h.ne, h.lt, h.cap, h.sz, h.tks⟩
theorem Rd.put4 (h : Rd w b g c L r) {B : Nat} (v0 v1 v2 v3 : Value) (hb : b ≠ B) (hg : g ≠ B) : Rd ((((w.setCell ⟨B, 0, none⟩ v0).setCell ⟨B, 1, none⟩ v1).setCell ⟨B, 2, none⟩ v2).setCell ⟨B, 3, none⟩ v3) b g c L r :=
  (((h.other v0 hb hg).other v1 hb hg).other v2 hb hg).other v3 hb hg
theorem Rd.put5 (h : Rd w b g c L r) {B : Nat} (v0 v1 v2 v3 v4 : Value) (hb : b ≠ B) (hg : g ≠ B) : Rd (((((w.setCell ⟨B, 0, none⟩ v0).setCell ⟨B, 1, none⟩ v1).setCell ⟨B, 2, none⟩ v2).setCell ⟨B, 3, none⟩ v3).setCell ⟨B, 4, none⟩ v4) b g c L r :=
  ((((h.other v0 hb hg).other v1 hb hg).other v2 hb hg).other v3 hb hg).other v4 hb hg
theorem But.fresh {u v : World} (h : But b u v) {p : Addr} (hp : u.heap.size ≤ p.block) (x : Value) : But b u (v.setCell p x) :=
  ⟨h.os, h.tape, h.output, Nat.le_trans h.size (by simp [World.setCell]), fun i hi hn => (Below.heap_setCell _ _ _ _ (by omega)).trans (h.block i hi hn)⟩
theorem But.put4 {u v : World} (h : But b u v) {B : Nat} (hp : u.heap.size ≤ B) (v0 v1 v2 v3 : Value) : But b u ((((v.setCell ⟨B, 0, none⟩ v0).setCell ⟨B, 1, none⟩ v1).setCell ⟨B, 2, none⟩ v2).setCell ⟨B, 3, none⟩ v3) :=
  (((h.fresh (p := ⟨B, 0, none⟩) hp v0).fresh (p := ⟨B, 1, none⟩) hp v1).fresh (p := ⟨B, 2, none⟩) hp v2).fresh (p := ⟨B, 3, none⟩) hp v3
theorem But.put5 {u v : World} (h : But b u v) {B : Nat} (hp : u.heap.size ≤ B) (v0 v1 v2 v3 v4 : Value) : But b u (((((v.setCell ⟨B, 0, none⟩ v0).setCell ⟨B, 1, none⟩ v1).setCell ⟨B, 2, none⟩ v2).setCell ⟨B, 3, none⟩ v3).setCell ⟨B, 4, none⟩ v4) :=
  ((((h.fresh (p := ⟨B, 0, none⟩) hp v0).fresh (p := ⟨B, 1, none⟩) hp v1).fresh (p := ⟨B, 2, none⟩) hp v2).fresh (p := ⟨B, 3, none⟩) hp v3).fresh (p := ⟨B, 4, none⟩) hp v4
theorem Rd.tok (h : Rd w b g c L r) : L[r.i]? = some (tk L r) := by
  unfold tk
  rw [List.getD, List.getElem?_eq_getElem h.lt]; rfl
theorem Rd.next (h : Rd w b g c L r) (hk : (tk L r).k ≠ 4 ∨ (tk L r).t ≠ []) : r.i + 1 < L.length := by
  rcases h.tks.en r.i _ h.tok with h1 | ⟨h1, h2⟩
  · exact h1
  · rcases hk with hk | hk
    · exact absurd h1 hk
    · exact absurd h2 hk
theorem Rd.range (h : Rd w b g c L r) : w.rangeAt g (r.i * 4) (tA (tk L r)).toList := by
  have ht := h.tok
  intro j v hv
  match j, hv with
  | 0, hv => simp [tA] at hv; subst hv; exact h.row.k _ _ ht
  | 1, hv => simp [tA] at hv; subst hv; exact h.row.a _ _ ht
  | 2, hv => simp [tA] at hv; subst hv; exact h.row.t _ _ ht
  | 3, hv => simp [tA] at hv; subst hv; exact h.row.v _ _ ht
end

/-- A node's cells. -/
def nC (k a : Int) (t : List UInt8) (v : Int) (s : Value) : Array Value := #[.int .i64 k, .int .i64 a, .string (S t), .int .u32 v, s]
/-- A tree in the heap: its own node as a value; all that it leads to lies in blocks of P. -/
inductive Rep (w : World) (P : Nat → Prop) : Tr → Array Value → Prop
  | mk (k a : Int) (t : List UInt8) (v : Int) (l : List Tr) (s : Value) (xs : List (Array Value)) :
    w.ownsRow 0 27 5 s l.length (xs.map Array.toList).flatten → (∀ j, s.ownBlock = some j → P j) → xs.length = l.length →
    (∀ (i : Nat) (y : Tr) (x : Array Value), l[i]? = some y → xs[i]? = some x → Rep w P y x) → Rep w P (.mk k a t v l) (nC k a t v s)
theorem Rep.size {w : World} {P : Nat → Prop} {y : Tr} {x : Array Value} (h : Rep w P y x) : x.size = 5 := by cases h; rfl
theorem owns_kept {w w' : World} {base : Nat} {e : TypeId} {size : Nat} {v : Value} {n : Nat} {xs : List Value} (h : w.ownsRow base e size v n xs) (hs : w.heap.size ≤ w'.heap.size) (hb : ∀ j, v.ownBlock = some j → w'.heap[j]? = w.heap[j]?) : w'.ownsRow base e size v n xs := by
  refine ⟨h.1, ?_⟩
  rcases h.2 with h0 | ⟨g, cap, cur, hv, hB, hg, h1, h2, h3, h4⟩
  · exact .inl h0
  · exact .inr ⟨g, cap, cur, hv, hB, (hb g (by rw [hv]; rfl)).trans hg, h1, h2, h3, h4⟩
theorem owns_base {w : World} {base base' : Nat} {e : TypeId} {size : Nat} {v : Value} {n : Nat} {xs : List Value} (h : w.ownsRow base e size v n xs) (hb : base' ≤ base) : w.ownsRow base' e size v n xs := by
  refine ⟨h.1, ?_⟩
  rcases h.2 with h0 | ⟨g, cap, cur, hv, hB, hr⟩
  · exact .inl h0
  · exact .inr ⟨g, cap, cur, hv, Nat.le_trans hb hB, hr⟩
theorem Rep.kept {w w' : World} {P Q : Nat → Prop} (hs : w.heap.size ≤ w'.heap.size) (hb : ∀ j, P j → w'.heap[j]? = w.heap[j]?) (hQ : ∀ j, P j → Q j) {y : Tr} {x : Array Value} (h : Rep w P y x) : Rep w' Q y x := by
  induction h with
  | mk k a t v l s xs ho hP hl hx ih =>
    exact .mk k a t v l s xs (owns_kept ho hs (fun j hj => hb j (hP j hj))) (fun j hj => hQ j (hP j hj)) hl ih

/-- The blocks from a place on, up to another. -/
def Fr (u w : World) (j : Nat) : Prop := u.heap.size ≤ j ∧ j < w.heap.size
theorem Rep.but {b : Nat} {u v w : World} (hv : u.heap.size ≤ v.heap.size) (hb : b < u.heap.size) (h : But b v w) {y : Tr} {x : Array Value} (hr : Rep v (Fr u v) y x) : Rep w (Fr u w) y x :=
  hr.kept h.size (fun j hj => h.block j hj.2 (fun e => by have := hj.1; omega)) (fun j hj => ⟨hj.1, Nat.lt_of_lt_of_le hj.2 h.size⟩)
theorem Rep.from {u u' w : World} (hu : u.heap.size ≤ u'.heap.size) {y : Tr} {x : Array Value} (hr : Rep w (Fr u' w) y x) : Rep w (Fr u w) y x :=
  hr.kept (Nat.le_refl _) (fun _ _ => rfl) (fun j hj => ⟨Nat.le_trans hu hj.1, hj.2⟩)
/-- A node without a list. -/
theorem Rep.leaf (w : World) (P : Nat → Prop) (k a : Int) (t : List UInt8) (v : Int) : Rep w P (.mk k a t v []) (nC k a t v (.slice none 0 0)) :=
  .mk k a t v [] _ [] (World.ownsRow_nil _ _ _ _) (fun j h => by cases h) rfl (fun i y x h => by simp at h)
/-- A node another one of whose fields is another one. -/
theorem Rep.at {w : World} {P : Nat → Prop} {k a : Int} {t : List UInt8} {v : Int} {l : List Tr} {x : Array Value} (h : Rep w P (.mk k a t v l) x) : ∃ (s : Value) (xs : List (Array Value)), x = nC k a t v s ∧ w.ownsRow 0 27 5 s l.length (xs.map Array.toList).flatten ∧ (∀ j, s.ownBlock = some j → P j) ∧ xs.length = l.length ∧ (∀ (i : Nat) (y : Tr) (z : Array Value), l[i]? = some y → xs[i]? = some z → Rep w P y z) := by
  cases h with
  | mk _ _ _ _ _ s xs ho hP hl hx => exact ⟨s, xs, rfl, ho, hP, hl, hx⟩

end Go.Proofs.YtimiglepogeeiaaDoor.Parse

