/- Sources as arguments: opened. -/
import Derived.Test.YtcplkdiieeefiaaDoorArgs
import Derived.Test.YtcplkdiieeefiaaDoorLexRow
set_option linter.unusedVariables false
set_option linter.unusedSimpArgs false
namespace Go.Proofs.YtcplkdiieeefiaaDoor.Lex
open Go.RowKit

theorem src_of {w : World} {p : Option Addr} {n cap : Nat} {z : List Int} (h : Args.Ints w .u8 p n cap z) : ∃ l, Src w p n l ∧ n ≤ maxLen := by
  have h1 := h.le
  have h2 := h.max
  have h3 := h.len
  refine ⟨(z.take n).map fun x => UInt8.ofNat x.toNat, ⟨by simp; omega, ?_⟩, by omega⟩
  rcases h.cells with h0 | ⟨b, off, rfl, hlt, hc⟩
  · exact .inl (by omega)
  · refine .inr ⟨b, off, rfl, hlt, fun i hi => ?_⟩
    rw [hc i (by omega)]
    have hz : i < z.length := by omega
    have hm : z.getD i 0 ∈ z := by
      rw [List.getD_eq_getElem?_getD, List.getElem?_eq_getElem hz, Option.getD_some]; exact List.getElem_mem hz
    have hw := h.wf _ hm
    simp [Lit.wf] at hw
    have e1 : IntKind.u8.min = 0 := rfl
    have e2 : IntKind.u8.max = 255 := rfl
    have hb : byt ((z.take n).map fun x => UInt8.ofNat x.toNat) i = z.getD i 0 := by
      unfold byt
      have hg : ((z.take n).map fun x => UInt8.ofNat x.toNat)[i]? = some (UInt8.ofNat (z[i]).toNat) := by
        rw [List.getElem?_map, List.getElem?_take, if_pos hi, List.getElem?_eq_getElem hz]; rfl
      have hzz : z.getD i 0 = z[i] := by rw [List.getD_eq_getElem?_getD, List.getElem?_eq_getElem hz, Option.getD_some]
      rw [List.getD_eq_getElem?_getD, hg, Option.getD_some, hzz]
      rw [List.getElem?_eq_getElem hz] at hw
      simp at hw ⊢
      omega
    rw [hb]

end Go.Proofs.YtcplkdiieeefiaaDoor.Lex

