/- Lists of trees in the heap, as they grow. No function of the program is walked here. -/
import Derived.Test.YtimiglepogeeiaaDoorParseNode
import Derived.Maps.AppendAt
import Derived.Great.BuildSlice
set_option linter.unusedVariables false
set_option linter.unusedSimpArgs false
namespace Go.Proofs.YtimiglepogeeiaaDoor.Parse
open Go.RowKit Go.Proofs.YtimiglepogeeiaaDoor.Lex

/-- What a function tells that reads a tree. -/
def NR (b g c : Nat) (L : List T) (w : World) (q : R × Tr) (e : Ending) (w' : World) : Prop :=
  ∃ x, e = .returned (.agg x) ∧ Rd w' b g c L q.1 ∧ But b w w' ∧ Rep w' (Fr w w') q.2 x

/-- A list of trees, all of it born behind a world, none of it in its own block. -/
def KL (w0 w : World) (l : List Tr) (s : Value) : Prop :=
  ∃ xs : List (Array Value), w.ownsRow w0.heap.size 27 5 s l.length (xs.map Array.toList).flatten ∧ xs.length = l.length ∧
    ∀ (i : Nat) (y : Tr) (x : Array Value), l[i]? = some y → xs[i]? = some x → Rep w (fun j => Fr w0 w j ∧ s.ownBlock ≠ some j) y x
theorem KL.nil (w0 w : World) : KL w0 w [] (.slice none 0 0) := ⟨[], World.ownsRow_nil _ _ _ _, rfl, fun i y x h => by simp at h⟩
theorem KL.blk {w0 w : World} {l : List Tr} {s : Value} (h : KL w0 w l s) : ∀ j, s.ownBlock = some j → w0.heap.size ≤ j ∧ j < w.heap.size := by
  obtain ⟨xs, ho, _, _⟩ := h
  exact ho.lt
theorem KL.but {b : Nat} {w0 w w' : World} {l : List Tr} {s : Value} (h : KL w0 w l s) (hb : But b w w') (hb0 : b < w0.heap.size) : KL w0 w' l s := by
  have hbl := h.blk
  obtain ⟨xs, ho, hl, hk⟩ := h
  refine ⟨xs, owns_kept ho hb.size (fun j hj => hb.block j (hbl j hj).2 (fun e => by have := (hbl j hj).1; omega)), hl, fun i y x hy hx => ?_⟩
  exact (hk i y x hy hx).kept hb.size (fun j hj => hb.block j hj.1.2 (fun e => by have := hj.1.1; omega)) (fun j hj => ⟨⟨hj.1.1, Nat.lt_of_lt_of_le hj.1.2 hb.size⟩, hj.2⟩)
theorem KL.kept {w0 w w' : World} {l : List Tr} {s : Value} (h : KL w0 w l s) (hb : Below w.heap.size w w') : KL w0 w' l s := by
  have hbl := h.blk
  obtain ⟨xs, ho, hl, hk⟩ := h
  refine ⟨xs, owns_kept ho hb.size (fun j hj => hb.block j (hbl j hj).2), hl, fun i y x hy hx => ?_⟩
  exact (hk i y x hy hx).kept hb.size (fun j hj => hb.block j hj.1.2) (fun j hj => ⟨⟨hj.1.1, Nat.lt_of_lt_of_le hj.1.2 hb.size⟩, hj.2⟩)
theorem KL.from {w0 u w : World} {l : List Tr} {s : Value} (h : KL u w l s) (hu : w0.heap.size ≤ u.heap.size) : KL w0 w l s := by
  obtain ⟨xs, ho, hl, hk⟩ := h
  exact ⟨xs, owns_base ho hu, hl, fun i y x hy hx => (hk i y x hy hx).kept (Nat.le_refl _) (fun _ _ => rfl) (fun j hj => ⟨⟨Nat.le_trans hu hj.1.1, hj.1.2⟩, hj.2⟩)⟩
/-- A store into another block, that is no tree's. -/
theorem KL.other {w0 w : World} {l : List Tr} {s : Value} (h : KL w0 w l s) {p : Addr} (v : Value) (hp : p.block < w0.heap.size) : KL w0 (w.setCell p v) l s :=
  h.but (b := p.block) ⟨rfl, rfl, rfl, by simp [World.setCell], fun i hi hn => Below.heap_setCell _ _ _ _ hn⟩ hp
theorem KL.rep {w0 w : World} {l : List Tr} {s : Value} (h : KL w0 w l s) (k a : Int) (t : List UInt8) (v : Int) : Rep w (Fr w0 w) (.mk k a t v l) (nC k a t v s) := by
  have hbl := h.blk
  obtain ⟨xs, ho, hl, hk⟩ := h
  exact .mk k a t v l s xs (owns_base ho (Nat.zero_le _)) (fun j hj => hbl j hj) hl (fun i y x hy hx => (hk i y x hy hx).kept (Nat.le_refl _) (fun _ _ => rfl) (fun j hj => hj.1))
theorem rep_below {w w' : World} {u : World} {y : Tr} {x : Array Value} (h : Rep w (Fr u w) y x) (hb : Below w.heap.size w w') : Rep w' (Fr u w') y x :=
  h.kept hb.size (fun j hj => hb.block j hj.2) (fun j hj => ⟨hj.1, Nat.lt_of_lt_of_le hj.2 hb.size⟩)
theorem Row.blk {w w' : World} {g : Nat} {L : List T} (h : Row w g L) (hs : w.heap.size ≤ w'.heap.size) (e : w'.heap[g]? = w.heap[g]?) : Row w' g L where
  lt := Nat.lt_of_lt_of_le h.lt hs
  k := fun i t ht => by rw [World.cell?_of_block (w := w) e]; exact h.k i t ht
  a := fun i t ht => by rw [World.cell?_of_block (w := w) e]; exact h.a i t ht
  t := fun i t ht => by rw [World.cell?_of_block (w := w) e]; exact h.t i t ht
  v := fun i t ht => by rw [World.cell?_of_block (w := w) e]; exact h.v i t ht
theorem Rd.grown {w w' : World} {b g c : Nat} {L : List T} {r : R} {row : Option Nat} (h : Rd w b g c L r) (hg : w.grownBy w' row) (hb : some b ≠ row) (hgg : some g ≠ row) : Rd w' b g c L r :=
  ⟨(hg.block b h.ltb hb).trans h.box, Row.blk h.row hg.size (hg.block g h.row.lt hgg), h.ne, h.lt, h.cap, h.sz, h.tks⟩
theorem But.grown {b : Nat} {u v w : World} {row : Option Nat} (h : But b u v) (hg : v.grownBy w row) (hr : ∀ j, row = some j → u.heap.size ≤ j) : But b u w :=
  ⟨hg.os.trans h.os, hg.tape.trans h.tape, hg.output.trans h.output, Nat.le_trans h.size hg.size, fun i hi hn =>
    (hg.block i (Nat.lt_of_lt_of_le hi h.size) (fun e => by have := hr i e.symm; omega)).trans (h.block i hi hn)⟩
theorem owns_one {w : World} {base : Nat} {e : TypeId} {size : Nat} {v : Value} {n : Nat} {xs : List Value} (h : w.ownsRow base e size v n xs) : v.oneCell' = true := by
  rcases h.2 with ⟨rfl, _⟩ | ⟨g, cap, cur, rfl, _⟩ <;> rfl
theorem rep_one {w : World} {P : Nat → Prop} {y : Tr} {k a v : Int} {t : List UInt8} {s : Value} (h : Rep w P y #[.int .i64 k, .int .i64 a, .string (S t), .int .u32 v, s]) : s.oneCell' = true := by
  generalize hx : (#[.int .i64 k, .int .i64 a, .string (S t), .int .u32 v, s] : Array Value) = x at h
  cases h with
  | mk k' a' t' v' l s' xs ho =>
    unfold nC at hx
    injection hx with hx
    simp at hx
    obtain ⟨_, _, _, _, rfl⟩ := hx
    exact owns_one ho
/-- A list of one. -/
theorem KL.one {u w0 w : World} (h0 : w0.heap.size ≤ u.heap.size) (h1 : u.heap.size ≤ w.heap.size) {y : Tr} {x : Array Value} (h : Rep w (Fr u w) y x) :
    KL w0 (w.alloc (.cells x 27)) [y] (.slice (some ⟨w.heap.size, 0, none⟩) 1 1) := by
  refine ⟨[x], ⟨by simp [h.size], .inr ⟨w.heap.size, 1, x, rfl, Nat.le_trans h0 h1, heap_new w x _, Nat.le_refl _, by unfold maxLen; omega, by rw [h.size], ?_⟩⟩, rfl, fun i y' x' hy hx => ?_⟩
  · simp only [List.map_cons, List.map_nil, List.flatten_cons, List.flatten_nil, List.append_nil]
    exact List.take_of_length_le (by simp [h.size])
  · match i, hy, hx with
    | 0, hy, hx =>
      simp at hy hx
      subst hy hx
      exact h.kept (by simp) (fun j hj => ((Below.refl _ w).alloc (Nat.le_refl _) _).block j hj.2) (fun j hj => ⟨⟨Nat.le_trans h0 hj.1, by have := hj.2; simp; omega⟩, by simp only [Value.ownBlock, ne_eq, Option.some.injEq]; intro e; have := hj.2; omega⟩)
/-- A list, one longer. -/
theorem KL.app {u w0 w w2 : World} {l : List Tr} {s v' : Value} {y : Tr} {x : Array Value} {xs : List (Array Value)}
    (hu : w0.heap.size ≤ u.heap.size) (hsu : ∀ j, s.ownBlock = some j → j < u.heap.size) (hx : Rep w (Fr u w) y x)
    (hl : xs.length = l.length) (hk : ∀ (i : Nat) (y : Tr) (x : Array Value), l[i]? = some y → xs[i]? = some x → Rep w (fun j => Fr w0 w j ∧ s.ownBlock ≠ some j) y x)
    (ho : w2.ownsRow w0.heap.size 27 5 v' (l.length + 1) ((xs.map Array.toList).flatten ++ x.toList))
    (hg : (w.alloc (.cells x 27)).grownBy w2 s.ownBlock) (hat : v'.ownBlock = s.ownBlock ∨ v'.ownBlock = some (w.heap.size + 1)) :
    KL w0 w2 (l ++ [y]) v' := by
  have hz := hg.size
  simp at hz
  have hblk : ∀ j, j < w.heap.size → s.ownBlock ≠ some j → w2.heap[j]? = w.heap[j]? := fun j hj hn =>
    (hg.block j (by simp; omega) (fun e => hn e.symm)).trans (((Below.refl _ w).alloc (Nat.le_refl _) (.cells x 27)).block j hj)
  have hnew : ∀ j, j < w.heap.size → s.ownBlock ≠ some j → v'.ownBlock ≠ some j := fun j hj hn => by
    rcases hat with e | e
    · rw [e]; exact hn
    · rw [e]; intro e'; injection e' with e'; omega
  refine ⟨xs ++ [x], ?_, by simp [hl], fun i y' x' hy hx' => ?_⟩
  · rw [List.length_append, List.map_append, List.flatten_append]
    simpa using ho
  · by_cases hi : i < l.length
    · rw [List.getElem?_append_left hi] at hy
      rw [List.getElem?_append_left (by omega)] at hx'
      exact (hk i y' x' hy hx').kept (by omega) (fun j hj => hblk j hj.1.2 hj.2) (fun j hj => ⟨⟨hj.1.1, by have := hj.1.2; omega⟩, hnew j hj.1.2 hj.2⟩)
    · have hi2 : i = l.length := by
        have := (List.getElem?_eq_some_iff.1 hy).1
        simp at this
        omega
      subst hi2
      rw [List.getElem?_append_right (Nat.le_refl _), Nat.sub_self] at hy
      rw [← hl, List.getElem?_append_right (Nat.le_refl _), Nat.sub_self] at hx'
      simp at hy hx'
      subst hy hx'
      have hn : ∀ j, Fr u w j → s.ownBlock ≠ some j := fun j hj e => by have := hsu j e; have := hj.1; omega
      exact hx.kept (by omega) (fun j hj => hblk j hj.2 (hn j hj)) (fun j hj => ⟨⟨Nat.le_trans hu hj.1, by have := hj.2; omega⟩, hnew j hj.2 (hn j hj)⟩)

/-- A list, one longer: what is appended lies there already. -/
theorem KL.app2 {u w0 w w2 : World} {l : List Tr} {s v' : Value} {y : Tr} {x : Array Value} {xs : List (Array Value)}
    (hu : w0.heap.size ≤ u.heap.size) (hsu : ∀ j, s.ownBlock = some j → j < u.heap.size) (hx : Rep w (Fr u w) y x)
    (hl : xs.length = l.length) (hk : ∀ (i : Nat) (y : Tr) (x : Array Value), l[i]? = some y → xs[i]? = some x → Rep w (fun j => Fr w0 w j ∧ s.ownBlock ≠ some j) y x)
    (ho : w2.ownsRow w0.heap.size 27 5 v' (l.length + 1) ((xs.map Array.toList).flatten ++ x.toList))
    (hg : w.grownBy w2 s.ownBlock) (hat : v'.ownBlock = s.ownBlock ∨ v'.ownBlock = some w.heap.size) :
    KL w0 w2 (l ++ [y]) v' := by
  have hz := hg.size
  have hblk : ∀ j, j < w.heap.size → s.ownBlock ≠ some j → w2.heap[j]? = w.heap[j]? := fun j hj hn =>
    hg.block j hj (fun e => hn e.symm)
  have hnew : ∀ j, j < w.heap.size → s.ownBlock ≠ some j → v'.ownBlock ≠ some j := fun j hj hn => by
    rcases hat with e | e
    · rw [e]; exact hn
    · rw [e]; intro e'; injection e' with e'; omega
  refine ⟨xs ++ [x], ?_, by simp [hl], fun i y' x' hy hx' => ?_⟩
  · rw [List.length_append, List.map_append, List.flatten_append]
    simpa using ho
  · by_cases hi : i < l.length
    · rw [List.getElem?_append_left hi] at hy
      rw [List.getElem?_append_left (by omega)] at hx'
      exact (hk i y' x' hy hx').kept (by omega) (fun j hj => hblk j hj.1.2 hj.2) (fun j hj => ⟨⟨hj.1.1, by have := hj.1.2; omega⟩, hnew j hj.1.2 hj.2⟩)
    · have hi2 : i = l.length := by
        have := (List.getElem?_eq_some_iff.1 hy).1
        simp at this
        omega
      subst hi2
      rw [List.getElem?_append_right (Nat.le_refl _), Nat.sub_self] at hy
      rw [← hl, List.getElem?_append_right (Nat.le_refl _), Nat.sub_self] at hx'
      simp at hy hx'
      subst hy hx'
      have hn : ∀ j, Fr u w j → s.ownBlock ≠ some j := fun j hj e => by have := hsu j e; have := hj.1; omega
      exact hx.kept (by omega) (fun j hj => hblk j hj.2 (hn j hj)) (fun j hj => ⟨⟨Nat.le_trans hu hj.1, by have := hj.2; omega⟩, hnew j hj.2 (hn j hj)⟩)

theorem flat_len : ∀ xs : List (Array Value), (∀ x ∈ xs, x.size = 5) → (xs.map Array.toList).flatten.length = xs.length * 5
  | [], _ => rfl
  | x :: xs, h => by
    rw [List.map_cons, List.flatten_cons, List.length_append, flat_len xs (fun y hy => h y (List.mem_cons_of_mem _ hy))]
    have := h x (List.mem_cons_self ..)
    simp [this]
    omega
/-- A list of some, made at once. -/
theorem KL.made {u w0 w : World} (h0 : w0.heap.size ≤ u.heap.size) (h1 : u.heap.size ≤ w.heap.size) (l : List Tr) (xs : List (Array Value)) (n : Nat) (hn : n = l.length) (cs : Array Value) (hcs : cs.toList = (xs.map Array.toList).flatten) (hl : xs.length = l.length) (hm : l.length ≤ maxLen)
    (hk : ∀ (i : Nat) (y : Tr) (x : Array Value), l[i]? = some y → xs[i]? = some x → Rep w (Fr u w) y x) :
    KL w0 (w.alloc (.cells cs 27)) l (.slice (some ⟨w.heap.size, 0, none⟩) n n) := by
  subst hn
  have hs : ∀ x ∈ xs, x.size = 5 := fun x hx => by
    obtain ⟨i, hi, rfl⟩ := List.getElem_of_mem hx
    have hi' : i < l.length := by omega
    exact (hk i l[i] xs[i] (List.getElem?_eq_getElem hi') (List.getElem?_eq_getElem hi)).size
  have hf := flat_len xs hs
  have hsz : cs.size = l.length * 5 := by rw [← Array.length_toList, hcs, hf, hl]
  refine ⟨xs, ⟨by rw [hf, hl], .inr ⟨w.heap.size, l.length, cs, rfl, Nat.le_trans h0 h1, heap_new w cs _, Nat.le_refl _, hm, hsz, ?_⟩⟩, hl, fun i y x hy hx => ?_⟩
  · rw [← hcs]
    exact List.take_of_length_le (by rw [Array.length_toList, hsz]; exact Nat.le_refl _)
  · exact (hk i y x hy hx).kept (by simp) (fun j hj => ((Below.refl _ w).alloc (Nat.le_refl _) _).block j hj.2) (fun j hj => ⟨⟨Nat.le_trans h0 hj.1, by have := hj.2; simp; omega⟩, by simp only [Value.ownBlock, ne_eq, Option.some.injEq]; intro e; have := hj.2; omega⟩)

/-- A node whose list lies in a block of its own. -/
theorem rep_arr {w : World} {P : Nat → Prop} {A : Nat} (k a : Int) (t : List UInt8) (v : Int) (l : List Tr) (xs : List (Array Value)) (n : Nat) (hn : n = l.length) (cs : Array Value) (hcs : cs.toList = (xs.map Array.toList).flatten) (hl : xs.length = l.length) (hm : l.length ≤ maxLen)
    (hA : Bx w A 27 cs) (hP : P A) (hk : ∀ (i : Nat) (y : Tr) (x : Array Value), l[i]? = some y → xs[i]? = some x → Rep w P y x) :
    Rep w P (.mk k a t v l) (nC k a t v (.slice (some ⟨A, 0, none⟩) n n)) := by
  subst hn
  have hs : ∀ x ∈ xs, x.size = 5 := fun x hx => by
    obtain ⟨i, hi, rfl⟩ := List.getElem_of_mem hx
    have hi' : i < l.length := by omega
    exact (hk i l[i] xs[i] (List.getElem?_eq_getElem hi') (List.getElem?_eq_getElem hi)).size
  have hf := flat_len xs hs
  have hsz : cs.size = l.length * 5 := by rw [← Array.length_toList, hcs, hf, hl]
  refine .mk k a t v l _ xs ⟨by rw [hf, hl], .inr ⟨A, l.length, cs, rfl, Nat.zero_le _, hA, Nat.le_refl _, hm, hsz, ?_⟩⟩ (fun j hj => ?_) hl hk
  · rw [← hcs]
    exact List.take_of_length_le (by rw [Array.length_toList, hsz]; exact Nat.le_refl _)
  · injection hj with hj
    subst hj
    exact hP
theorem rep_cells {w : World} {P : Nat → Prop} {y : Tr} {x : Array Value} (h : Rep w P y x) : ∀ u ∈ x.toList, u.oneCell' = true := by
  cases h with
  | mk k a t v l s xs ho =>
    intro u hu
    simp [nC] at hu
    rcases hu with rfl | rfl | rfl | rfl | rfl
    · rfl
    · rfl
    · rfl
    · rfl
    · exact owns_one ho
theorem Rep.alloc {u v w : World} {y : Tr} {x : Array Value} (h : Rep w (Fr u v) y x) (hv : v.heap.size ≤ w.heap.size) (o : Obj) : Rep (w.alloc o) (Fr u v) y x :=
  h.kept (by simp) (fun j hj => ((Below.refl _ w).alloc (Nat.le_refl _) o).block j (Nat.lt_of_lt_of_le hj.2 hv)) (fun j hj => hj)
theorem Rep.set {u v w : World} {y : Tr} {x : Array Value} (h : Rep w (Fr u v) y x) {p : Addr} (hp : p.block < u.heap.size ∨ v.heap.size ≤ p.block) (z : Value) : Rep (w.setCell p z) (Fr u v) y x :=
  h.kept (by simp [World.setCell]) (fun j hj => Below.heap_setCell _ _ _ _ (by have h1 := hj.1; have h2 := hj.2; omega)) (fun j hj => hj)
theorem Rep.keep {b : Nat} {u v w w' : World} {y : Tr} {x : Array Value} (h : Rep w (Fr u v) y x) (hb : But b w w') (hv : v.heap.size ≤ w.heap.size) (hbu : b < u.heap.size) : Rep w' (Fr u v) y x :=
  h.kept hb.size (fun j hj => hb.block j (Nat.lt_of_lt_of_le hj.2 hv) (by have h1 := hj.1; omega)) (fun j hj => hj)
theorem Rep.wide {u v u' v' w : World} {y : Tr} {x : Array Value} (h : Rep w (Fr u v) y x) (hu : u'.heap.size ≤ u.heap.size) (hv : v.heap.size ≤ v'.heap.size) : Rep w (Fr u' v') y x :=
  h.kept (Nat.le_refl _) (fun _ _ => rfl) (fun j hj => ⟨Nat.le_trans hu hj.1, Nat.lt_of_lt_of_le hj.2 hv⟩)
theorem KL.alloc {w0 w : World} {l : List Tr} {s : Value} (h : KL w0 w l s) (o : Obj) : KL w0 (w.alloc o) l s := h.kept ((Below.refl _ w).alloc (Nat.le_refl _) o)
theorem KL.slice {w0 w : World} {l : List Tr} {s : Value} (h : KL w0 w l s) : ∃ p n d, s = .slice p n d := by
  obtain ⟨xs, ho, _⟩ := h
  rcases ho.2 with ⟨rfl, _⟩ | ⟨g, cap, cur, rfl, _⟩
  · exact ⟨_, _, _, rfl⟩
  · exact ⟨_, _, _, rfl⟩
theorem Bx.newAt {w : World} {A : Nat} {c : Array Value} {t : TypeId} (h : w.heap.size = A) : Bx (w.alloc (.cells c t)) A t c := by subst h; exact heap_new w c t
theorem info_node' : (Tryd.prog.info? 27).map (fun i => (i.zero, i.size, i.bytes)) = some (some (.agg zN), 5, 64) := by kernel_rfl
section
/-- 'append', as one operation. -/
theorem wp_app {o : Oper} {a : Act} {w : World} {K : Act → World → Prop} {Q : Exit → Act → World → Prop} (s x : Operand)
    (ho : o.op = .call { callee := .builtin .append, args := #[s, x], argTypes := #[25, 25] })
    (base : Nat) (v : Value) (n : Nat) (xs : List Value) (hs : a.eval s = v) (hown : w.ownsRow base 27 5 v n xs)
    (ad : Addr) (c : Nat) (news : List Value) (hx : a.eval x = .slice (some ad) 1 c) (hl : news.length = 5) (hnews : ∀ j u, news[j]? = some u → w.cell? (ad.add j) = some u) (h1 : ∀ u ∈ news, u.oneCell' = true)
    (hn : n ≤ 100000) (hbase : base ≤ w.heap.size)
    (h : ∀ v' w', w'.ownsRow base 27 5 v' (n + 1) (xs ++ news) → w.grownBy w' v.ownBlock → (v'.ownBlock = v.ownBlock ∨ v'.ownBlock = some w.heap.size) → K (a.put o.dst v') w') : o.wp Tryd.prog a w K Q := by
  obtain ⟨i0, hi0, hi1, hi2, hi3⟩ := info_parts info_node'
  obtain ⟨v', w', hr, h2, h3, h4, h5⟩ := run_append_own_at (P := Tryd.prog) w base 25 o.type 27 i0 (.agg zN) 5 64 Tryd.underlying25 hi0 hi1 hi2 hi3 rfl (by decide) v n xs hown ad 1 c news (by omega) hnews h1 (by unfold maxLen; omega) (by omega) hbase
  unfold Oper.wp execOp
  simp only [ho, resolve, invoke, builtin, Sem.run_bind, Sem.run_pure, Result.andThen_ok, List.map_toArray, List.map_cons, List.map_nil, hs, hx, hr]
  exact h v' w' h2 h3 h5
end
theorem info_node : (Tryd.prog.info? 27).map (fun i => (i.zero, i.size, i.bytes)) = some (some (.agg zN), 5, 64) := by kernel_rfl
theorem built1 (k a v : Int) (t : ByteArray) (s : Value) : Tryd.prog.builtSlice 27 1 [(0, .agg #[.int .i64 k, .int .i64 a, .string t, .int .u32 v, s])] = some #[.int .i64 k, .int .i64 a, .string t, .int .u32 v, s] := by kernel_rfl

theorem built2 (k a v k' a' v' : Int) (t t' : ByteArray) (s s' : Value) : Tryd.prog.builtSlice 27 2 [(0, .agg #[.int .i64 k, .int .i64 a, .string t, .int .u32 v, s]), (1, .agg #[.int .i64 k', .int .i64 a', .string t', .int .u32 v', s'])] = some #[.int .i64 k, .int .i64 a, .string t, .int .u32 v, s, .int .i64 k', .int .i64 a', .string t', .int .u32 v', s'] := by kernel_rfl
theorem built3 (k a v k' a' v' k'' a'' v'' : Int) (t t' t'' : ByteArray) (s s' s'' : Value) : Tryd.prog.builtSlice 27 3 [(0, .agg #[.int .i64 k, .int .i64 a, .string t, .int .u32 v, s]), (1, .agg #[.int .i64 k', .int .i64 a', .string t', .int .u32 v', s']), (2, .agg #[.int .i64 k'', .int .i64 a'', .string t'', .int .u32 v'', s''])] = some #[.int .i64 k, .int .i64 a, .string t, .int .u32 v, s, .int .i64 k', .int .i64 a', .string t', .int .u32 v', s', .int .i64 k'', .int .i64 a'', .string t'', .int .u32 v'', s''] := by kernel_rfl
theorem wpList_kid1 {ops : Array Oper} {rest : List Oper} {o : Oper} {a : Act} {w : World} {Q : Exit → Act → World → Prop} (hg : o.guard = none) (x : Operand) (ho : o.op = .buildSlice 25 1 #[(0, x)]) (k d v : Int) (t : ByteArray) (s : Value) (hx : a.eval x = .agg #[.int .i64 k, .int .i64 d, .string t, .int .u32 v, s])
    (h : wpList Tryd.prog ops Q rest (a.put o.dst (.slice (some ⟨w.heap.size, 0, none⟩) 1 1)) (w.alloc (.cells #[.int .i64 k, .int .i64 d, .string t, .int .u32 v, s] 27))) : wpList Tryd.prog ops Q (o :: rest) a w := by
  have hf : Tryd.prog.builtSlice 27 1 (#[(0, x)].map fun (i, x) => (i, a.eval x)).toList = some #[.int .i64 k, .int .i64 d, .string t, .int .u32 v, s] := by
    simp only [List.map_toArray, List.map_cons, List.map_nil]
    rw [hx]
    exact built1 k d v t s
  exact Great.wpList_buildSliceTo hg 25 27 1 #[(0, x)] ho w.heap.size rfl _ rfl Tryd.underlying25 _ hf h
theorem wpList_kid2 {ops : Array Oper} {rest : List Oper} {o : Oper} {a : Act} {w : World} {Q : Exit → Act → World → Prop} (hg : o.guard = none) (x y : Operand) (ho : o.op = .buildSlice 25 2 #[(0, x), (1, y)]) (k d v k' d' v' : Int) (t t' : ByteArray) (s s' : Value) (hx : a.eval x = .agg #[.int .i64 k, .int .i64 d, .string t, .int .u32 v, s]) (hy : a.eval y = .agg #[.int .i64 k', .int .i64 d', .string t', .int .u32 v', s'])
    (h : wpList Tryd.prog ops Q rest (a.put o.dst (.slice (some ⟨w.heap.size, 0, none⟩) 2 2)) (w.alloc (.cells #[.int .i64 k, .int .i64 d, .string t, .int .u32 v, s, .int .i64 k', .int .i64 d', .string t', .int .u32 v', s'] 27))) : wpList Tryd.prog ops Q (o :: rest) a w := by
  have hf : Tryd.prog.builtSlice 27 2 (#[(0, x), (1, y)].map fun (i, x) => (i, a.eval x)).toList = some #[.int .i64 k, .int .i64 d, .string t, .int .u32 v, s, .int .i64 k', .int .i64 d', .string t', .int .u32 v', s'] := by
    simp only [List.map_toArray, List.map_cons, List.map_nil]
    rw [hx, hy]
    exact built2 k d v k' d' v' t t' s s'
  exact Great.wpList_buildSliceTo hg 25 27 2 #[(0, x), (1, y)] ho w.heap.size rfl _ rfl Tryd.underlying25 _ hf h
theorem wpList_kid3 {ops : Array Oper} {rest : List Oper} {o : Oper} {a : Act} {w : World} {Q : Exit → Act → World → Prop} (hg : o.guard = none) (x y z : Operand) (ho : o.op = .buildSlice 25 3 #[(0, x), (1, y), (2, z)]) (k d v k' d' v' k'' d'' v'' : Int) (t t' t'' : ByteArray) (s s' s'' : Value) (hx : a.eval x = .agg #[.int .i64 k, .int .i64 d, .string t, .int .u32 v, s]) (hy : a.eval y = .agg #[.int .i64 k', .int .i64 d', .string t', .int .u32 v', s']) (hz : a.eval z = .agg #[.int .i64 k'', .int .i64 d'', .string t'', .int .u32 v'', s''])
    (h : wpList Tryd.prog ops Q rest (a.put o.dst (.slice (some ⟨w.heap.size, 0, none⟩) 3 3)) (w.alloc (.cells #[.int .i64 k, .int .i64 d, .string t, .int .u32 v, s, .int .i64 k', .int .i64 d', .string t', .int .u32 v', s', .int .i64 k'', .int .i64 d'', .string t'', .int .u32 v'', s''] 27))) : wpList Tryd.prog ops Q (o :: rest) a w := by
  have hf : Tryd.prog.builtSlice 27 3 (#[(0, x), (1, y), (2, z)].map fun (i, x) => (i, a.eval x)).toList = some #[.int .i64 k, .int .i64 d, .string t, .int .u32 v, s, .int .i64 k', .int .i64 d', .string t', .int .u32 v', s', .int .i64 k'', .int .i64 d'', .string t'', .int .u32 v'', s''] := by
    simp only [List.map_toArray, List.map_cons, List.map_nil]
    rw [hx, hy, hz]
    exact built3 k d v k' d' v' k'' d'' v'' t t' t'' s s' s''
  exact Great.wpList_buildSliceTo hg 25 27 3 #[(0, x), (1, y), (2, z)] ho w.heap.size rfl _ rfl Tryd.underlying25 _ hf h

/-- What is still to be read, and whether all is well: a number that goes down. -/
def mea (b : Nat) (w : World) : Nat :=
  (match w.cell? ⟨b, 0, none⟩ with | some (.slice _ n _) => n * 2 | _ => 0) + (match w.cell? ⟨b, 2, none⟩ with | some (.int _ e) => if e = 0 then 1 else 0 | _ => 0)
theorem Rd.mea {w : World} {b g c : Nat} {L : List T} {r : R} (h : Rd w b g c L r) : Parse.mea b w = (L.length - r.i) * 2 + if r.e = 0 then 1 else 0 := by
  unfold Parse.mea
  rw [h.c0, h.c2]
theorem mea_lt {w w' : World} {b g c : Nat} {L : List T} {r s : R} (h : Rd w b g c L r) (h' : Rd w' b g c L s) (he : r.e = 0) (hm : Mo r s) : mea b w' < mea b w := by
  rw [h.mea, h'.mea, if_pos he]
  have h1 := hm.v.i
  have h2 := h.lt
  have h3 := h'.lt
  rcases hm.o with ho | ho
  · rw [if_neg ho]; omega
  · split <;> omega

end Go.Proofs.YtimiglepogeeiaaDoor.Parse

