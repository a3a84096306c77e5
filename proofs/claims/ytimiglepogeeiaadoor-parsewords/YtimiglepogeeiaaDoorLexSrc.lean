/- A source as an argument, as a string; tokens as rows of cells. -/
import Derived.Test.YtimiglepogeeiaaDoorLexTok
import Derived.Test.YtimiglepogeeiaaDoorLexMore
import Derived.Laws.BytesArg
import Derived.Laws.AppendOwn
set_option linter.unusedVariables false
set_option linter.unusedSimpArgs false
namespace Go.Proofs.YtimiglepogeeiaaDoor.Lex
open Go.RowKit

/-- A slice of bytes in the heap. -/
structure Src (w : World) (p : Option Addr) (n : Nat) (l : List UInt8) : Prop where
  len : l.length = n
  cells : n = 0 ∨ ∃ b off, p = some ⟨b, off, none⟩ ∧ b < w.heap.size ∧ ∀ i, i < n → w.cell? ⟨b, off + i, none⟩ = some (.int .u8 (byt l i))
theorem Src.below {w w' : World} {p : Option Addr} {n : Nat} {l : List UInt8} (h : Src w p n l) (hb : Below w.heap.size w w') : Src w' p n l := by
  refine ⟨h.len, ?_⟩
  rcases h.cells with h0 | ⟨b, off, rfl, hlt, hc⟩
  · exact .inl h0
  · exact .inr ⟨b, off, rfl, Nat.lt_of_lt_of_le hlt hb.size, fun i hi => by rw [hb.cell (p := ⟨b, off + i, none⟩) hlt]; exact hc i hi⟩
theorem nums_S (l : List UInt8) : strOfNums (l.map fun c => ((c.toNat : Nat) : Int)) = S l := by
  unfold strOfNums S
  rw [List.map_map]
  congr 2
  rw [List.map_congr_left (g := id) (fun c _ => by simp [Function.comp]), List.map_id]
theorem conv_src {w : World} {p : Option Addr} {n : Nat} {l : List UInt8} (cap : Nat) (h : Src w p n l) :
    (convert 22 9 (.slice p n cap)).run Tryd.prog w = .ok (.string (S l)) w := by
  rcases h.cells with h0 | ⟨b, off, rfl, hlt, hc⟩
  · have hl : l = [] := List.eq_nil_of_length_eq_zero (by rw [h.len]; exact h0)
    subst hl
    subst h0
    cases p with
    | none => exact run_convert_bytes_nil w 22 5 Tryd.underlying22 Tryd.underlying5 0 cap 9 Tryd.underlying9
    | some a =>
      rw [run_convert_bytes_string w 22 9 5 _ 0 cap Tryd.underlying22 Tryd.underlying5 Tryd.underlying9, run_bytesToString w _ 0 cap [] (by rfl)]
      rfl
  · have := run_convert_bytes_arg w 22 5 Tryd.underlying22 Tryd.underlying5 b off n cap (l.map fun c => ((c.toNat : Nat) : Int)) (by simp [h.len]) (fun i hi => by rw [hc i hi]; simp [byt, List.getD, h.len, hi]) 9 Tryd.underlying9
    rw [nums_S] at this
    exact this

theorem owns_below {w w' : World} {base : Nat} {e : TypeId} {size : Nat} {v : Value} {n : Nat} {xs : List Value} (h : w.ownsRow base e size v n xs) (hb : Below w.heap.size w w') : w'.ownsRow base e size v n xs :=
  h.kept (row := some w.heap.size) ⟨hb.os, hb.tape, hb.output, hb.size, fun k hk _ => hb.block k hk⟩ (by
    rcases hq : v.ownBlock with _ | k
    · exact .inl rfl
    · exact .inr fun e => by have := h.lt k hq; cases e; omega)

/-- A token's cells; tokens' cells. -/
def tC (t : T) : List Value := [.int .i64 t.k, .int .i64 t.a, .string (S t.t), .int .u32 t.v]
def tsC (ts : List T) : List Value := (ts.map tC).flatten
theorem tsC_snoc (ts : List T) (t : T) : tsC (ts ++ [t]) = tsC ts ++ tC t := by simp [tsC]
theorem tsC_len (ts : List T) : (tsC ts).length = ts.length * 4 := by
  induction ts with
  | nil => rfl
  | cons t ts ih => simp [tsC] at ih ⊢; rw [ih]; simp [tC]; omega
theorem infoTok : (Tryd.prog.info? 53).map (fun i => (i.zero, i.size, i.bytes)) = some (some (.agg #[.int .i64 0, .int .i64 0, .string ⟨#[]⟩, .int .u32 0]), 4, 40) := by kernel_rfl
theorem infoRefT : (Tryd.prog.info? 60).map (fun i => (i.zero, i.size, i.bytes)) = some (some (.agg #[.int .i64 0, .int .i64 0, .string ⟨#[]⟩, .int .u32 0]), 4, 40) := by kernel_rfl

end Go.Proofs.YtimiglepogeeiaaDoor.Lex

