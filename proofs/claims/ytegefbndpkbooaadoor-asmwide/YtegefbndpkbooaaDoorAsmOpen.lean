/- An item as an argument, by value and in slices: opened. -/
import Derived.Test.YtegefbndpkbooaaDoorAsmBase
import Derived.Test.YtegefbndpkbooaaDoorFlatOpen
set_option linter.unusedVariables false
namespace Go.Proofs.YtegefbndpkbooaaDoor.Asm
open Go.ChangeShapes Go.WideShapes Go.RowKit Go.Deep Go.Proofs.YtegefbndpkbooaaDoor.Core

theorem flat_i : Args.Flat Tryd.prog 3 1 := Args.flat_int Tryd.underlying3 (by kernel_rfl)
theorem flat_f : Args.Flat Tryd.prog 34 1 := Args.flat_int Tryd.underlying34 (by kernel_rfl)
set_option maxRecDepth 100000 in
theorem flat_inst : Args.Flat Tryd.prog 36 11 := by
  refine Args.flat_struct Tryd.underlying36 (by kernel_rfl) (fun _ => 1) ?_ ?_
  · intro i f hi
    have hi' : i < 11 := (Array.getElem?_eq_some_iff.1 hi).1
    rcases (show i = 0 ∨ i = 1 ∨ i = 2 ∨ i = 3 ∨ i = 4 ∨ i = 5 ∨ i = 6 ∨ i = 7 ∨ i = 8 ∨ i = 9 ∨ i = 10 by omega) with rfl | rfl | rfl | rfl | rfl | rfl | rfl | rfl | rfl | rfl | rfl
    all_goals
      injection hi with hi
      subst hi
      first | exact flat_i | exact flat_f
  · intro q hq
    rcases (show q = 0 ∨ q = 1 ∨ q = 2 ∨ q = 3 ∨ q = 4 ∨ q = 5 ∨ q = 6 ∨ q = 7 ∨ q = 8 ∨ q = 9 ∨ q = 10 by omega) with rfl | rfl | rfl | rfl | rfl | rfl | rfl | rfl | rfl | rfl | rfl
    all_goals first | exact ⟨0, _, rfl, by decide, by decide⟩ | exact ⟨1, _, rfl, by decide, by decide⟩ | exact ⟨2, _, rfl, by decide, by decide⟩ | exact ⟨3, _, rfl, by decide, by decide⟩ | exact ⟨4, _, rfl, by decide, by decide⟩ | exact ⟨5, _, rfl, by decide, by decide⟩ | exact ⟨6, _, rfl, by decide, by decide⟩ | exact ⟨7, _, rfl, by decide, by decide⟩ | exact ⟨8, _, rfl, by decide, by decide⟩ | exact ⟨9, _, rfl, by decide, by decide⟩ | exact ⟨10, _, rfl, by decide, by decide⟩
set_option maxRecDepth 100000 in
theorem flat_item : Args.Flat Tryd.prog 38 15 := by
  refine Args.flat_struct Tryd.underlying38 (by kernel_rfl) (fun i => if i = 1 then 11 else 1) ?_ ?_
  · intro i f hi
    have hi' : i < 5 := (Array.getElem?_eq_some_iff.1 hi).1
    rcases (show i = 0 ∨ i = 1 ∨ i = 2 ∨ i = 3 ∨ i = 4 by omega) with rfl | rfl | rfl | rfl | rfl
    all_goals
      injection hi with hi
      subst hi
      first | exact flat_i | exact flat_inst
  · intro q hq
    rcases (show q = 0 ∨ q = 1 ∨ q = 2 ∨ q = 3 ∨ q = 4 ∨ q = 5 ∨ q = 6 ∨ q = 7 ∨ q = 8 ∨ q = 9 ∨ q = 10 ∨ q = 11 ∨ q = 12 ∨ q = 13 ∨ q = 14 by omega) with rfl | rfl | rfl | rfl | rfl | rfl | rfl | rfl | rfl | rfl | rfl | rfl | rfl | rfl | rfl
    all_goals first | exact ⟨0, _, rfl, by decide, by decide⟩ | exact ⟨1, _, rfl, by decide, by decide⟩ | exact ⟨2, _, rfl, by decide, by decide⟩ | exact ⟨3, _, rfl, by decide, by decide⟩ | exact ⟨4, _, rfl, by decide, by decide⟩

/-- An item's registers' bits are of 64 bits. -/
def wfT (x : It) : Prop := -9223372036854775808 ≤ x.i.rg ∧ x.i.rg ≤ 9223372036854775807
theorem wfT.rg {x : It} (h : wfT x) : -9223372036854775808 ≤ x.i.rg ∧ x.i.rg ≤ 9223372036854775807 := h
def itOf (z : Nat → Int) : It := ⟨z 0, ⟨z 1, z 2, z 3, z 4, z 5, z 6, z 7, z 8, z 9, z 10, z 11⟩, z 12, z 13, z 14⟩
theorem wf_itOf {z : Nat → Int} (h : ∀ i, i < 15 → (Lit.int .i64 (z i)).wf = true) : wfT (itOf z) := by
  have := bounds_i64 (h 11 (by decide))
  exact ⟨by show _ ≤ z 11; omega, by show z 11 ≤ _; omega⟩


set_option maxRecDepth 100000 in
theorem open_item {H : Type} {enc : TypeId × Value → H} {w : World} {base : Nat} {spare : Nat → Bool} {held : Bool} {r : Reach} {b0 : Nat} {v : Value} {d : DataW H} {p : List MemPlace}
    (hv : Value.okWide Tryd.prog w r b0 38 v) (h : DataW.Trod enc Tryd.prog w base spare held 38 v d p) : ∃ x : It, v = .agg (itv x) ∧ p = [] ∧ wfT x := by
  obtain ⟨z, rfl, hp, hw⟩ := Args.open_flat Tryd.underlying38 flat_item hv h
  exact ⟨itOf z, rfl, hp, wf_itOf hw⟩

/-- Items in a slice. -/
structure Items (w : World) (p : Option Addr) (n : Nat) (X : Nat → It) : Prop where
  cells : n = 0 ∨ ∃ b off, p = some ⟨b, off, none⟩ ∧ b < w.heap.size ∧ ∀ i, i < n → w.rangeAt b (off + i * 15) (itv (X i)).toList
  wf : ∀ i, i < n → wfT (X i)
theorem Items.below {w w' : World} {p : Option Addr} {n : Nat} {X : Nat → It} (h : Items w p n X) (hb : Below w.heap.size w w') : Items w' p n X := by
  refine ⟨?_, h.wf⟩
  rcases h.cells with h0 | ⟨b, off, rfl, hlt, hc⟩
  · exact .inl h0
  · exact .inr ⟨b, off, rfl, Nat.lt_of_lt_of_le hlt hb.size, fun i hi j v hv => (hb.cell (p := ⟨b, _, none⟩) hlt).trans (hc i hi j v hv)⟩
theorem Items.off {S : List Nat} {w w' : World} {p : Option Addr} {n : Nat} {X : Nat → It} (h : Items w p n X) (ho : Off S w w') (hs : ∀ b off, p = some ⟨b, off, none⟩ → b ∉ S) : Items w' p n X := by
  refine ⟨?_, h.wf⟩
  rcases h.cells with h0 | ⟨b, off, rfl, hlt, hc⟩
  · exact .inl h0
  · exact .inr ⟨b, off, rfl, Nat.lt_of_lt_of_le hlt ho.size, fun i hi j v hv => (ho.cell (p := ⟨b, _, none⟩) hlt (hs b off rfl)).trans (hc i hi j v hv)⟩
set_option maxRecDepth 100000 in
theorem Items.of_recs {w : World} {p : Option Addr} {n cap : Nat} {F : Nat → Nat → Int} (h : Args.Recs w (List.replicate 15 .i64) p n cap F) : Items w p n (fun i => itOf (F i)) := by
  rcases h.cells with h0 | ⟨b, off, rfl, hlt, hc⟩
  · exact ⟨.inl h0, fun i hi => by omega⟩
  · refine ⟨.inr ⟨b, off, rfl, hlt, fun i hi j v hv => ?_⟩, fun i hi => wf_itOf fun j hj => (hc i hi j .i64 (by rw [List.getElem?_replicate, if_pos hj])).2⟩
    have hj : j < 15 := by have := (List.getElem?_eq_some_iff.1 hv).1; simpa [itv] using this
    have c := (hc i hi j .i64 (by rw [List.getElem?_replicate, if_pos hj])).1
    rw [show (List.replicate 15 IntKind.i64).length = 15 from rfl, ← Nat.add_assoc] at c
    rw [c, ← hv]
    have key : ∀ k, k < 15 → some (Value.int .i64 (F i k)) = (itv (itOf (F i))).toList[k]? := fun k hk => by
      match k, hk with
      | 0, _ => rfl
      | 1, _ => rfl
      | 2, _ => rfl
      | 3, _ => rfl
      | 4, _ => rfl
      | 5, _ => rfl
      | 6, _ => rfl
      | 7, _ => rfl
      | 8, _ => rfl
      | 9, _ => rfl
      | 10, _ => rfl
      | 11, _ => rfl
      | 12, _ => rfl
      | 13, _ => rfl
      | 14, _ => rfl
    exact key j hj
end Go.Proofs.YtegefbndpkbooaaDoor.Asm

