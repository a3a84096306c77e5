/- Operands and expressions at every depth: contracts. -/
import Derived.Test.YtimiglepogeeiaaDoorParseUn
set_option linter.unusedVariables false
set_option linter.unusedSimpArgs false
set_option maxRecDepth 100000
namespace Go.Proofs.YtimiglepogeeiaaDoor.Parse
open Go.RowKit Go.Proofs.YtimiglepogeeiaaDoor.Lex

section
variable {b g c : Nat} {L : List T}

theorem Mv.ok {r s : R} (h : Mv r s) (hs : s.e = 0) : r.e = 0 := by
  apply Classical.byContradiction
  intro hn
  exact h.e hn hs

theorem operand_any (d : Int) (h1 : 0 ≤ d) (h7 : d ≤ 1000) (op : R → R × Tr) (hmv : ∀ r, Mv r (op r).1) (hop : d ≤ 64 → NC b g c L 109 (d + 1) op) : NC b g c L 109 d (opF op L d) := by
  intro w r h
  unfold opF
  dsimp only
  cases hf : fol L [40] (deep d r) with
  | true =>
    rw [if_pos rfl]
    exact op_paren d h1 h7 (lvlF op L 7) (exC (d + 1) op hmv (hop (deep_ok (fol_e hf)))) h hf
  | false =>
    rw [if_neg (by simp)]
    by_cases hk : (tk L (deep d r)).k = 2
    · rw [if_pos hk]
      exact op_num d h hf hk
    · rw [if_neg hk]
      cases hm1 : fol L [126] (nod (deep d r)) with
      | true =>
        rw [if_pos (.inl rfl)]
        exact op_un1 d h1 h7 op (hop (deep_ok ((nod_mv _).ok (fol_e hm1)))) h hf hk hm1
      | false =>
        cases hm2 : fol L [45] (nod (deep d r)) with
        | true =>
          rw [if_pos (.inr rfl)]
          exact op_un2 d h1 h7 op (hop (deep_ok ((nod_mv _).ok (fol_e hm2)))) h hf hk hm1 hm2
        | false =>
          rw [if_neg (by simp)]
          exact op_name d h1 h7 (lvlF op L 7) (lvlF_mv hmv 7) (fun he => exC (d + 1) op hmv (hop (deep_ok ((nod_mv _).ok ((name_mo L _).v.ok he))))) h hf hk hm1 hm2

theorem operand_all : ∀ k : Nat, k ≤ 66 → ∀ d : Int, d = 66 - k → NC b g c L 109 d (opS L (k + 1))
  | 0, _, d, hd => by
    have : opS L 1 = opF (opS L 0) L d := by
      funext r
      show opF (opS L 0) L (67 - ((0 : Nat) + 1 : Nat)) r = _
      rw [hd]
      rfl
    rw [this]
    exact operand_any d (by omega) (by omega) _ (opS_mv L 0) (fun h => by omega)
  | k + 1, hk, d, hd => by
    have : opS L (k + 1 + 1) = opF (opS L (k + 1)) L d := by
      funext r
      show opF (opS L (k + 1)) L (67 - ((k : Int) + 1 + 1)) r = _
      rw [show (67 : Int) - ((k : Int) + 1 + 1) = d by omega]
    rw [this]
    exact operand_any d (by omega) (by omega) _ (opS_mv L (k + 1)) (fun _ => operand_all k (by omega) (d + 1) (by omega))

/-- An expression at depth 67 - k. -/
theorem expression_all (k : Nat) (h1 : 1 ≤ k) (h2 : k ≤ 67) (d : Int) (hd : d = 67 - k) : NC b g c L 91 d (exS L k) := by
  obtain ⟨m, rfl⟩ : ∃ m, k = m + 1 := ⟨k - 1, by omega⟩
  exact exC d (opS L (m + 1)) (opS_mv L (m + 1)) (operand_all m (by omega) d (by omega))

end
end Go.Proofs.YtimiglepogeeiaaDoor.Parse

