/- What the document's small functions of layer 4 answer: contracts. -/
import Derived.Test.YtegefbndpkbooaaDoorChecked
import Derived.Test.YtegefbndpkbooaaDoorAluAll
import Derived.ProofKit
import Derived.Handy
import Derived.Outline
import Derived.Deep.Light
import Derived.Deep.RegionWith
set_option linter.unusedVariables false
namespace Go.Proofs.YtegefbndpkbooaaDoor.Code
open Go.RowKit Go.Proofs.YtegefbndpkbooaaDoor.Alu

theorem pow_bd (n : Nat) (h : n ≤ 61) : (1 : Int) ≤ 2 ^ n ∧ (2 : Int) ^ n ≤ 2305843009213693952 := by
  have h1 : (2 : Nat) ^ n ≤ 2 ^ 61 := Nat.pow_le_pow_right (by decide) h
  have h2 : 0 < (2 : Nat) ^ n := Nat.pow_pos (by decide)
  have e : (2 : Int) ^ n = ((2 ^ n : Nat) : Int) := by simp
  rw [e]; omega

/-- Two to a power. -/
def pw (n : Int) : Int := 2 ^ n.toNat
theorem pw_bd (n : Int) (h : n ≤ 61) : 1 ≤ pw n ∧ pw n ≤ 2305843009213693952 := pow_bd n.toNat (by omega)

/-- So many bits of a number, from one on. -/
def bt (n a c : Int) : Int := (if n < 0 then n + 1099511627776 else n) / pw a % pw c

theorem quo_rem (x p c : Int) (h0 : 0 ≤ x) (h1 : x ≤ 4611686018427387904) (hp : 1 ≤ p) : (wrap64 (x.tdiv p)).tmod c = x / p % c := by
  have hq : 0 ≤ x / p := Int.ediv_nonneg h0 (by omega)
  have hl : x / p ≤ x := Int.ediv_le_self _ h0
  rw [Int.tdiv_eq_ediv_of_nonneg h0, IntWalk.wrap64_in _ ⟨by omega, by omega⟩, Int.tmod_eq_emod_of_nonneg hq]
theorem pw40 : pw 40 = 1099511627776 := by decide

theorem bt_at (n : Int) {a c A C : Int} (hn : 0 ≤ n) (hA : pw a = A) (hC : pw c = C) : bt n a c = n / A % C := by
  unfold bt; rw [if_neg (by omega), hA, hC]
theorem bt_bit (n a : Int) : 0 ≤ bt n a 1 ∧ bt n a 1 ≤ 1 := by
  unfold bt
  have : pw 1 = 2 := by decide
  rw [this]; omega

end Go.Proofs.YtegefbndpkbooaaDoor.Code

