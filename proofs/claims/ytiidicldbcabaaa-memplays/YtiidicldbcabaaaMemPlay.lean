/- A play of a memory: what lies in the heap between two steps; its steps. No function of the program is walked here. -/
import Derived.Test.YtiidicldbcabaaaMemRefS
import Derived.Test.YtiidicldbcabaaaMemIter
import Derived.Test.YtiidicldbcabaaaRecs
set_option linter.unusedVariables false
namespace Go.Proofs.Ytiidicldbcabaaa.Mem
open Go.RowKit Go.Shelf

theorem Lr.other {w : World} {lp : Option Addr} {L : List (Int × Int)} (h : Lr w lp L) {p : Addr} (v : Value) (hne : ∀ ad, lp = some ad → ad.block ≠ p.block) : Lr (w.setCell p v) lp L := by
  rcases h with h | ⟨b, rfl, hlt, hc⟩
  · exact .inl h
  · have hb : b ≠ p.block := hne _ rfl
    have e : (w.setCell p v).heap[b]? = w.heap[b]? := Below.heap_setCell _ _ _ _ hb
    refine .inr ⟨b, rfl, by simpa [World.setCell] using hlt, fun i hi => ?_⟩
    exact ⟨(World.cell?_of_block (w := w) (a := ⟨b, i * 2, none⟩) e).trans (hc i hi).1, (World.cell?_of_block (w := w) (a := ⟨b, i * 2 + 1, none⟩) e).trans (hc i hi).2⟩

/-- Between two steps: the result's box, the document's memory in its box, the memory, its copy. -/
structure Play (w : World) (q : Option Addr) (n c : Nat) (f : Nat → Int) (X B F R B' F' R' : Nat) (lp : Option Addr) (lc : Nat) (L : List (Int × Int)) (W : World) : Prop where
  rb : W.heap[w.heap.size]? = some (.cells #[.bool false] 4 (0, 0))
  xb : W.heap[X]? = some (.cells #[.slice q n c, .slice lp L.length lc] 31 (0, 0))
  lr : Lr W lp L
  ap : ∀ ad, lp = some ad → ad.block ≠ R ∧ ad.block ≠ X
  mem : Is W B F R n f (ramOf L)
  cop : Is W B' F' R' n f (fun _ => 0)
  lb : Below w.heap.size w W
  ge : w.heap.size < X ∧ w.heap.size < R
  ne : R ≠ R'

section
variable {w W W' : World} {q : Option Addr} {n c : Nat} {f : Nat → Int} {X B F R B' F' R' : Nat} {lp : Option Addr} {lc : Nat} {L : List (Int × Int)}
theorem Play.below (h : Play w q n c f X B F R B' F' R' lp lc L W) (hb : Below W.heap.size W W') : Play w q n c f X B F R B' F' R' lp lc L W' :=
  ⟨(hb.block _ (lt_of_heap h.rb)).trans h.rb, (hb.block _ (lt_of_heap h.xb)).trans h.xb, h.lr.below hb, h.ap, h.mem.below hb, h.cop.below hb, h.lb.trans (hb.mono h.lb.size), h.ge, h.ne⟩
theorem Play.alloc (h : Play w q n c f X B F R B' F' R' lp lc L W) (o : Obj) : Play w q n c f X B F R B' F' R' lp lc L (W.alloc o) := h.below ((Below.refl _ W).alloc (Nat.le_refl _) o)
theorem Play.x0 (h : Play w q n c f X B F R B' F' R' lp lc L W) : W.cell? ⟨X, 0, none⟩ = some (.slice q n c) := by simp [World.cell?, h.xb]
theorem Play.x1 (h : Play w q n c f X B F R B' F' R' lp lc L W) : W.cell? ⟨X, 1, none⟩ = some (.slice lp L.length lc) := by simp [World.cell?, h.xb]
theorem Play.xf (h : Play w q n c f X B F R B' F' R' lp lc L W) (i : Nat) : W.frozen? ⟨X, i, none⟩ = false := free_row h.xb i
/-- Blocks of other types are other blocks. -/
theorem Play.xne (h : Play w q n c f X B F R B' F' R' lp lc L W) : X ≠ B ∧ X ≠ F ∧ X ≠ R ∧ X ≠ B' ∧ X ≠ F' ∧ X ≠ R' := by
  refine ⟨fun e => ?_, fun e => ?_, fun e => ?_, fun e => ?_, fun e => ?_, fun e => ?_⟩
  · have := h.xb; rw [e, h.mem.box] at this; simp at this
  · have := h.xb; rw [e, h.mem.fl] at this; simp at this
  · have := h.xb; rw [e, h.mem.ram] at this; simp at this
  · have := h.xb; rw [e, h.cop.box] at this; simp at this
  · have := h.xb; rw [e, h.cop.fl] at this; simp at this
  · have := h.xb; rw [e, h.cop.ram] at this; simp at this
theorem Play.rne (h : Play w q n c f X B F R B' F' R' lp lc L W) : R ≠ B' ∧ R ≠ F' := by
  refine ⟨fun e => ?_, fun e => ?_⟩
  · have := h.mem.ram; rw [e, h.cop.box] at this; simp at this
  · have := h.mem.ram; rw [e, h.cop.fl] at this; simp at this
/-- The document's memory is written into its box. -/
theorem Play.put (h : Play w q n c f X B F R B' F' R' lp lc L W) {lp' : Option Addr} {lc' : Nat} {L' : List (Int × Int)} (hr : Lr W lp' L') (ha : ∀ ad, lp' = some ad → ad.block ≠ R ∧ ad.block ≠ X) (hm : ∀ i, i < 16384 → ramOf L' i = ramOf L i) :
    Play w q n c f X B F R B' F' R' lp' lc' L' ((W.setCell ⟨X, 0, none⟩ (.slice q n c)).setCell ⟨X, 1, none⟩ (.slice lp' L'.length lc')) := by
  obtain ⟨a1, a2, a3, a4, a5, a6⟩ := h.xne
  have hge := h.ge
  have keep : ∀ k, k ≠ X → ((W.setCell ⟨X, 0, none⟩ (.slice q n c)).setCell ⟨X, 1, none⟩ (.slice lp' L'.length lc')).heap[k]? = W.heap[k]? := fun k hk =>
    (Below.heap_setCell _ _ _ _ hk).trans (Below.heap_setCell _ _ _ _ hk)
  refine ⟨(keep _ (by omega)).trans h.rb, ?_, (hr.other _ (fun ad e => (ha ad e).2)).other _ (fun ad e => (ha ad e).2), ha, (h.mem.kept (keep _ (fun e => a1 e.symm)) (keep _ (fun e => a2 e.symm)) (keep _ (fun e => a3 e.symm))).same (fun i hi => (hm i hi).symm),
    h.cop.kept (keep _ (fun e => a4 e.symm)) (keep _ (fun e => a5 e.symm)) (keep _ (fun e => a6 e.symm)), (h.lb.setCell (p := ⟨X, 0, none⟩) (by show _ ≤ X; omega) _).setCell (p := ⟨X, 1, none⟩) (by show _ ≤ X; omega) _, h.ge, h.ne⟩
  rw [setRam_heap _ 1 _ (setRam_heap _ 0 _ h.xb)]; rfl
end

/-- The words of the list have addresses of RAM, each once. -/
structure Good (L : List (Int × Int)) (k : Nat) : Prop where
  apart : Apart L
  at_ : ∀ e ∈ L, ∃ i, i < 16384 ∧ e.1 = 536870912 + 4 * (i : Nat)
  len : L.length ≤ k
theorem stored {a : Int} (h : stE a = 0) (h0 : 0 ≤ a) (h1 : a < 4294967296) : ∃ i : Nat, i < 16384 ∧ a = 536870912 + 4 * (i : Int) ∧ (rp a).toNat = i := by
  unfold stE at h
  by_cases ha : a % 4 = 0
  · rw [if_pos ha] at h
    by_cases hp : fp a < 65536
    · rw [if_pos hp] at h; omega
    · rw [if_neg hp] at h
      by_cases hr : rp a < 16384
      · have := rp_range a
        exact ⟨(rp a).toNat, by omega, by unfold rp at *; omega, rfl⟩
      · rw [if_neg hr] at h; omega
  · rw [if_neg ha] at h; omega
theorem Good.st {L : List (Int × Int)} {k : Nat} (h : Good L k) {a x : Int} (hE : stE a = 0) (h0 : 0 ≤ a) (h1 : a < 4294967296) : Good (st L a x) (k + 1) := by
  obtain ⟨i, hi, ha, _⟩ := stored hE h0 h1
  refine ⟨apart_st L a x h.apart, fun e he => ?_, by have := len_st L a x; have := h.len; omega⟩
  rcases mem_st he with h' | rfl
  · exact h.at_ e h'
  · exact ⟨i, hi, ha⟩
theorem Good.more {L : List (Int × Int)} {k : Nat} (h : Good L k) : Good L (k + 1) := ⟨h.apart, h.at_, Nat.le_succ_of_le h.len⟩
theorem ramOf_st {L : List (Int × Int)} {a x : Int} (hE : stE a = 0) (h0 : 0 ≤ a) (h1 : a < 4294967296) (i : Nat) : put (ramOf L) (rp a).toNat x i = ramOf (st L a x) i := by
  obtain ⟨j, hj, ha, hr⟩ := stored hE h0 h1
  unfold put ramOf
  rw [ld_st, hr]
  by_cases h : i = j
  · subst h; rw [if_pos rfl, if_pos ha]
  · rw [if_neg h, if_neg (by omega)]
theorem ramOf_nil : ramOf [] = fun _ => 0 := rfl

section
variable {w W : World} {q : Option Addr} {n c : Nat} {f : Nat → Int} {X B F R B' F' R' : Nat} {lp : Option Addr} {lc : Nat} {L : List (Int × Int)}
/-- A step that stores: w2, behind the document's Store; then its answer is written, then the memory's Store. -/
theorem Play.stored3 (h : Play w q n c f X B F R B' F' R' lp lc L W) {w2 : World} (hb : Below W.heap.size W w2) {lp' : Option Addr} {lc' : Nat} {L' : List (Int × Int)} (ha : ∀ ad, lp' = some ad → W.heap.size ≤ ad.block) :
    Is ((w2.setCell ⟨X, 0, none⟩ (.slice q n c)).setCell ⟨X, 1, none⟩ (.slice lp' L'.length lc')) B F R n f (ramOf L) := by
  obtain ⟨a1, a2, a3, _, _, _⟩ := h.xne
  exact ((h.mem.below hb).other _ a1 a2 a3).other _ a1 a2 a3
theorem Play.stored4 (h : Play w q n c f X B F R B' F' R' lp lc L W) {w2 : World} (hb : Below W.heap.size W w2) {lp' : Option Addr} {lc' : Nat} {a x : Int} (hE : stE a = 0) (h0 : 0 ≤ a) (h1 : a < 4294967296) (hr : Lr w2 lp' (st L a x)) (ha : ∀ ad, lp' = some ad → W.heap.size ≤ ad.block) :
    Play w q n c f X B F R B' F' R' lp' lc' (st L a x) (((w2.setCell ⟨X, 0, none⟩ (.slice q n c)).setCell ⟨X, 1, none⟩ (.slice lp' (st L a x).length lc')).setCell ⟨R, (rp a).toNat, none⟩ (.int .u32 x)) := by
  have hp := h.below hb
  obtain ⟨a1, a2, a3, a4, a5, a6⟩ := h.xne
  obtain ⟨b1, b2⟩ := h.rne
  have hge := h.ge
  have hR := h.mem.ltR
  have hX := lt_of_heap h.xb
  have ha' : ∀ ad, lp' = some ad → ad.block ≠ R ∧ ad.block ≠ X := fun ad e => by have := ha ad e; omega
  have keepX : ∀ k, k ≠ X → ((w2.setCell ⟨X, 0, none⟩ (.slice q n c)).setCell ⟨X, 1, none⟩ (.slice lp' (st L a x).length lc')).heap[k]? = w2.heap[k]? := fun k hk =>
    (Below.heap_setCell _ _ _ _ hk).trans (Below.heap_setCell _ _ _ _ hk)
  have keep : ∀ k, k ≠ X → k ≠ R → (((w2.setCell ⟨X, 0, none⟩ (.slice q n c)).setCell ⟨X, 1, none⟩ (.slice lp' (st L a x).length lc')).setCell ⟨R, (rp a).toNat, none⟩ (.int .u32 x)).heap[k]? = w2.heap[k]? := fun k hk hk2 =>
    (Below.heap_setCell _ _ _ _ hk2).trans (keepX k hk)
  have hM := h.stored3 hb (lc' := lc') (L' := st L a x) ha
  refine ⟨(keep _ (by omega) (by omega)).trans hp.rb, ?_, (((hr.other _ (fun ad e => (ha' ad e).2)).other _ (fun ad e => (ha' ad e).2)).other _ (fun ad e => (ha' ad e).1)), ha', (hM.store (rp a).toNat x).same (fun i _ => ramOf_st hE h0 h1 i),
    hp.cop.kept (keep _ (fun e => a4 e.symm) (fun e => b1 e.symm)) (keep _ (fun e => a5 e.symm) (fun e => b2 e.symm)) (keep _ (fun e => a6 e.symm) (fun e => h.ne e.symm)), ?_, h.ge, h.ne⟩
  · rw [Below.heap_setCell _ _ _ _ (show X ≠ R from a3), setRam_heap _ 1 _ (setRam_heap _ 0 _ hp.xb)]; rfl
  · exact ((hp.lb.setCell (p := ⟨X, 0, none⟩) (by show _ ≤ X; omega) _).setCell (p := ⟨X, 1, none⟩) (by show _ ≤ X; omega) _).setCell (p := ⟨R, (rp a).toNat, none⟩) (by show _ ≤ R; omega) _
end

end Go.Proofs.Ytiidicldbcabaaa.Mem

