/- What the document's small functions of layer 4 answer: contracts, goes on. -/
import Derived.Test.YtegefbndpkbooaaDoorChecked
import Derived.Test.YtegefbndpkbooaaDoorCodeDoc
import Derived.Test.YtegefbndpkbooaaDoorAluAll
import Derived.ProofKit
import Derived.Handy
import Derived.Outline
import Derived.Deep.Light
import Derived.Deep.RegionWith
set_option linter.unusedVariables false
namespace Go.Proofs.YtegefbndpkbooaaDoor.Code
open Go.RowKit Go.Proofs.YtegefbndpkbooaaDoor.Alu

/-- One bit of how far a wide jump goes, turned. -/
def tone (n p : Int) : Int := n + ((if n / p % 2 = n / 16777216 % 2 then 1 else 0) - n / p % 2) * p
def tn (n : Int) : Int := tone (tone n 4194304) 8388608
theorem tone_bd (n p : Int) (hp : p = 4194304 ∨ p = 8388608) (h0 : 0 ≤ n) (h1 : n ≤ 33554431) : 0 ≤ tone n p ∧ tone n p ≤ 33554431 ∧ tone n p / 16777216 = n / 16777216 := by
  unfold tone
  rcases hp with rfl | rfl <;> split <;> omega

end Go.Proofs.YtegefbndpkbooaaDoor.Code

