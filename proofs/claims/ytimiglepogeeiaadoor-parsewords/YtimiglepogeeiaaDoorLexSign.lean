/- Signs: package lex's sign, the document's signLen. Contracts. -/
import Derived.Test.YtimiglepogeeiaaDoorLexWords
import Derived.Deep.MidRow
set_option linter.unusedVariables false
set_option linter.unusedSimpArgs false
namespace Go.Proofs.YtimiglepogeeiaaDoor.Lex
open Go.RowKit

/-- The table of signs: its cells, as they lie in the heap. -/
def sgA (L : List (List UInt8)) : Array Value := (L.map fun l => Value.string (S l)).toArray
def Sig (w : World) : Prop := w.rangeAt 0 0 (sgA signs).toList
theorem cell_lt {w : World} {b o : Nat} {v : Value} (h : w.cell? ⟨b, o, none⟩ = some v) : b < w.heap.size := by
  by_cases hb : b < w.heap.size
  · exact hb
  · have : w.heap[b]? = none := Array.getElem?_eq_none (by omega)
    simp [World.cell?, this] at h
theorem Sig.below {w w' : World} (h : Sig w) (hb : Below w.heap.size w w') : Sig w' := fun j v hv => by
  have hc := h j v hv
  rw [hb.cell (cell_lt hc)]
  exact hc
/-- The document's order. -/
def signR : List (List UInt8) := [[60, 60, 60], [45, 62], [46, 46], [61, 61], [60, 60], [62, 62], [60], [40], [41], [123], [125], [91], [93], [44], [59], [58], [61], [43], [45], [42], [47], [37], [38], [124], [94], [126]]

theorem idx_all (L : List (List UInt8)) (hL : L.length = 26) (w : World) (k : Nat) (hk : k < 26) : (Instr.index 97 (.agg (sgA L)) (.int .i64 k)).run Tryd.prog w = .ok (.string (S (L.getD k []))) w := by
  have hc : (sgA L)[k]? = some (.string (S (L.getD k []))) := by
    simp [sgA, List.getD, List.getElem?_eq_getElem (show k < L.length by omega)]
  have hu : Tryd.prog.underlying 97 = some (.array 26 9) := Tryd.underlying97
  have hi : (Tryd.prog.info? 9).map (·.size) = some 1 := by kernel_rfl
  unfold Instr.index
  rw [show asIntOf (Value.int IntKind.i64 (k : Int)) = pure (IntKind.i64, (k : Int)) from rfl]
  cases hq : Tryd.prog.info? 9 with
  | none => rw [hq] at hi; cases hi
  | some i =>
    rw [hq] at hi
    have hz : i.size = 1 := by simpa using hi
    simp only [List.getD] at hc
    simp [run_underlying hu, hk, part, sizeOf, typeInfo, hq, hz, hc]

theorem sgnL_step (L : List (List UInt8)) (l : List UInt8) (k : Nat) (hk : k < L.length) : sgnL (L.drop k) l = if (L.getD k []).isPrefixOf l then (L.getD k []).length else sgnL (L.drop (k + 1)) l := by
  rw [List.drop_eq_getElem_cons hk, sgnL]
  simp [List.getD, List.getElem?_eq_getElem hk]
theorem sign_len (k : Nat) (hk : k < 26) : 1 ≤ (signs.getD k []).length := by
  have h : ∀ k, k < 26 → 1 ≤ (signs.getD k []).length := by decide
  exact h k hk
theorem Pre_is (s p : ByteArray) (b : Bool) (h : (B p).isPrefixOf (B s) = b) (w : World) : Calls Tryd.prog 47 #[.string s, .string p] w fun e w' => e = .returned (.bool b) ∧ w' = w :=
  (HasPrefix_any s p w).mono fun e w' hw => ⟨by rw [hw.1, h], hw.2⟩
theorem take_pre {g l : List UInt8} (h : g.isPrefixOf l = true) : l.take g.length = g := (List.prefix_iff_eq_take.1 (List.isPrefixOf_iff_prefix.1 h)).symm

/-- What sign tells. -/
def sgV (s : ByteArray) : Value := if sgn (B s) = 0 then .tuple #[.agg #[.int .i64 0, .int .i64 0, .string (S []), .int .u32 0], .int .i64 100] else .tuple #[.agg #[.int .i64 3, .int .i64 0, .string (S ((B s).take (sgn (B s)))), .int .u32 0], .int .i64 0]

/-- No sign ahead of the k-th fits. -/
def SRel (L : List (List UInt8)) (s : ByteArray) (i : Value) : Prop := ∃ k : Nat, k ≤ 26 ∧ i = .int .i64 k ∧ sgnL L (B s) = sgnL (L.drop k) (B s)

set_option maxHeartbeats 2000000 in
theorem sign_any (s : ByteArray) (w : World) (hs : s.size ≤ maxLen) (hS : Sig w) : Calls Tryd.prog 54 #[.string s] w fun e w' => e = .returned (sgV s) ∧ Below w.heap.size w w' := by
  unfold maxLen at hs
  have hl := B_len s
  have hI := idx_all signs rfl
  have hb := (Below.refl w.heap.size w).alloc (Nat.le_refl _) (.cells #[.int .i64 0, .int .i64 0, .string ⟨#[]⟩, .int .u32 0] 53)
  have hS2 : Hid (World.rangeAt (w.alloc (.cells #[.int .i64 0, .int .i64 0, .string ⟨#[]⟩, .int .u32 0] 53)) 0 0 (sgA signs).toList) := hS.below hb
  clear hS
  go_enter Tryd.func54, Tryd.ntmps54
  go_wp2_with (refine wpList_load_mid rfl 97 (.global 0) rfl 0 0 rfl (sgA signs).toList _ hS2.out Tryd.underlying97 rfl (by kernel_rfl) ?_)
  go_loop [7] (fun i => SRel signs s i) (fun i => 26 - (intOf i).toNat)
  case atStart => exact ⟨0, by omega, rfl, rfl⟩
  case round =>
    obtain ⟨k, hk, rfl, he⟩ := hrel
    by_cases hlt : k < 26
    · have hIk : ∀ w, (Instr.index 97 (.agg (sgA signs)) (.int .i64 k)).run Tryd.prog w = .ok (.string (S (signs.getD k []))) w := fun w => hI w k hlt
      have hst : Hid (_ = _) := sgnL_step signs (B s) k hlt
      have hlen : Hid (1 ≤ (signs.getD k []).length) := sign_len k hlt
      clear hI
      generalize hg : signs.getD k [] = g at *
      cases hp : g.isPrefixOf (B s)
      · go_wp2_with (go_at_call 47; refine (Pre_is s (S g) _ hp _).mono ?_; rintro e w' ⟨rfl, rfl⟩)
        exact ⟨⟨k + 1, by omega, by go_num, by rw [he, hst.out, hp]; rfl⟩, by simp [intOf]; omega⟩
      · go_wp2_with (go_at_call 47; refine (Pre_is s (S g) _ hp _).mono ?_; rintro e w' ⟨rfl, rfl⟩)
        have hsg : sgn (B s) = g.length := by rw [sgn, he, hst.out, hp]; rfl
        have hlen' := hlen.out
        refine bodyPost_ret (v := .tuple #[.agg #[.int .i64 3, .int .i64 0, .string (S g), .int .u32 0], .int .i64 0]) (by simp [results, Tryd.results54, go_sem]) rfl ⟨?_, (Below.refl _ _).alloc (Nat.le_refl _) _⟩
        rw [sgV, hsg, if_neg (by omega), take_pre hp]
    · clear hI
      have hsg : sgn (B s) = 0 := by rw [sgn, he, List.drop_of_length_le (show signs.length ≤ k by show 26 ≤ k; omega)]; rfl
      go_wp2_with fail
      refine bodyPost_ret (v := .tuple #[.agg #[.int .i64 0, .int .i64 0, .string ⟨#[]⟩, .int .u32 0], .int .i64 100]) (by simp [results, Tryd.results54, go_sem]) rfl ⟨?_, (Below.refl _ _).alloc (Nat.le_refl _) _⟩
      rw [sgV, if_pos hsg]
      rfl

theorem sgn_ref (l : List UInt8) : sgn l = sgnL signR l := by
  unfold sgn signs signR
  match l with
  | [] => rfl
  | a :: r =>
    by_cases h : a = 60
    · subst h
      simp [sgnL, List.isPrefixOf]
    · have h' : ((60 : UInt8) == a) = false := by simpa using fun e => h e.symm
      simp [sgnL, List.isPrefixOf, h']

end Go.Proofs.YtimiglepogeeiaaDoor.Lex

