/- The anchor of the statements of layer 6; bytes as strings. -/
import Derived.Test.YtiidicldbcabaaaMemOps
import Derived.Test.YtiidicldbcabaaaArgs
import Derived.Laws.BytesArg
set_option linter.unusedVariables false
namespace Go.Proofs.Ytiidicldbcabaaa.Mem
open Go.RowKit

theorem Is.drew {w : World} {B F R n : Nat} {f g : Nat → Int} (h : Is w B F R n f g) : Is w.drew B F R n f g := ⟨h.box, h.fl, h.ram⟩

/-- Bytes as a string. -/
def strOf (n : Nat) (f : Nat → Int) : ByteArray := strOfNums ((List.range n).map f)
theorem conv_run (w : World) (p : Option Addr) (n cap : Nat) (f : Nat → Int) (hs : Sl w .u8 p n f) :
    (convert 22 9 (.slice p n cap)).run Try.prog w = .ok (.string (strOf n f)) w := by
  rcases hs with h | ⟨b, off, rfl, hlt, hc⟩
  · subst h
    cases p with
    | none => exact run_convert_bytes_nil w 22 5 Try.underlying22 Try.underlying5 0 cap 9 Try.underlying9
    | some a =>
      rw [run_convert_bytes_string w 22 9 5 _ 0 cap Try.underlying22 Try.underlying5 Try.underlying9, run_bytesToString w _ 0 cap [] (by rfl)]
      rfl
  · have := run_convert_bytes_arg w 22 5 Try.underlying22 Try.underlying5 b off n cap ((List.range n).map f) (by simp) (fun i hi => by rw [hc i hi]; simp [hi]) 9 Try.underlying9
    exact this

theorem Sl.ints {w : World} {k : IntKind} {p : Option Addr} {n cap : Nat} {z : List Int} (h : Args.Ints w k p n cap z) : Sl w k p n (fun i => z.getD i 0) := by
  rcases h.cells with h0 | ⟨b, off, rfl, hlt, hc⟩
  · exact .inl (by have := h.le; omega)
  · exact .inr ⟨b, off, rfl, hlt, fun i hi => hc i (by have := h.le; omega)⟩
theorem bytes_of {w : World} {p : Option Addr} {n cap : Nat} {z : List Int} (h : Args.Ints w .u8 p n cap z) : ∀ i, i < n → 0 ≤ z.getD i 0 ∧ z.getD i 0 < 256 := by
  intro i hi
  have hl : i < z.length := by have := h.len; have := h.le; omega
  have hm : z.getD i 0 ∈ z := by
    rw [List.getD_eq_getElem?_getD, List.getElem?_eq_getElem hl, Option.getD_some]; exact List.getElem_mem hl
  have := h.wf _ hm
  generalize z.getD i 0 = x at *
  simp [Lit.wf] at this
  have e1 : IntKind.u8.min = 0 := rfl
  have e2 : IntKind.u8.max = 255 := rfl
  omega

/-- A slice of bytes, opened. -/
theorem opened {w : World} {p : Option Addr} {n cap : Nat} {z : List Int} (h : Args.Ints w .u8 p n cap z) : ∃ f, Sl w .u8 p n f ∧ ∀ i, i < n → 0 ≤ f i ∧ f i < 256 := ⟨_, Sl.ints h, bytes_of h⟩
theorem wf32 {x : Int} (h : (Lit.int .u32 x).wf = true) : 0 ≤ x ∧ x < 4294967296 := by
  simp [Lit.wf] at h
  have e1 : IntKind.u32.min = 0 := rfl
  have e2 : IntKind.u32.max = 4294967295 := rfl
  omega

theorem Store_no {w : World} {B F R n : Nat} {f g : Nat → Int} (h : Is w B F R n f g) (a x : Int) (h0 : 0 ≤ a) (h1 : a < 4294967296) (hE : stE a ≠ 0) :
    Calls Try.prog 12 #[.pointer (some ⟨B, 0, none⟩), .int .u32 a, .int .u32 x] w fun e w' => e = .returned (.int .i64 (stE a)) ∧ w' = w :=
  (Store_any h a x h0 h1).mono fun e w' hh => ⟨hh.1, by rw [hh.2, if_neg hE]⟩
theorem Store_yes {w : World} {B F R n : Nat} {f g : Nat → Int} (h : Is w B F R n f g) (a x : Int) (h0 : 0 ≤ a) (h1 : a < 4294967296) (hE : stE a = 0) :
    Calls Try.prog 12 #[.pointer (some ⟨B, 0, none⟩), .int .u32 a, .int .u32 x] w fun e w' => e = .returned (.int .i64 0) ∧ w' = w.setCell ⟨R, (rp a).toNat, none⟩ (.int .u32 x) :=
  (Store_any h a x h0 h1).mono fun e w' hh => ⟨by rw [hh.1, hE], by rw [hh.2, if_pos hE]⟩

/-- The anchor's two bytes. -/
def ab (i : Nat) : Int := if i = 0 then 1 else 2
set_option maxRecDepth 100000 in
theorem anchor_any (w : World) : Calls Try.prog 8 #[] w fun e w' => e = .returned (.bool true) ∧ Below w.heap.size w w' := by
  have hb0 := (Below.refl w.heap.size w).alloc (Nat.le_refl _) (.cells #[.int .u8 1, .int .u8 2] 5)
  have hS : Sl (w.alloc (.cells #[.int .u8 1, .int .u8 2] 5)) .u8 (some ⟨w.heap.size, 0, none⟩) 2 ab := .inr ⟨_, _, rfl, by simp, fun i hi => by
    rcases (show i = 0 ∨ i = 1 by omega) with rfl | rfl <;> simp [ab]⟩
  have hf : ∀ i, i < 2 → 0 ≤ ab i ∧ ab i < 256 := fun i hi => by rcases (show i = 0 ∨ i = 1 by omega) with rfl | rfl <;> simp [ab]
  have e1 : ldV 2 ab (fun _ => 0) 536870912 = 0 := by decide
  have e2 : ldE 2 536870912 = 0 := by decide
  have e3 : hfV 2 ab 134217728 = 513 := by decide
  have e4 : hfE 2 134217728 = 0 := by decide
  have e5 : stE 134217728 = 62 := by decide
  go_enter Try.func8, Try.ntmps8
  go_wp2_with fail
  refine (New_ok _ 2 2 ab _ hS (by decide)).mono ?_
  rintro e w1 ⟨B, F, R, rfl, hI, hle, hb⟩
  go_wp2_with (first | (go_at_call 13; refine (Load_any hI hf (by decide) 536870912 (by decide) (by decide)).mono ?_; rintro e w' ⟨rfl, rfl⟩; rw [e1, e2]) | (go_at_call 15; refine (Half_any hI hf (by decide) 134217728 (by decide) (by decide)).mono ?_; rintro e w' ⟨rfl, rfl⟩; rw [e3, e4]) | (go_at_call 12; refine (Store_no hI 134217728 1 (by decide) (by decide) (by decide)).mono ?_; rintro e w' ⟨rfl, rfl⟩; rw [e5]))
  go_ret
  exact ⟨rfl, hb0.trans (hb.mono hb0.size)⟩

end Go.Proofs.Ytiidicldbcabaaa.Mem
