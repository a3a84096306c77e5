/- What half of package code answers: a contract. -/
import Derived.Test.YtkkhofoaolgapaaGreatDoorCodeLast
import Derived.Deep.QuietTactic
import Derived.BigQuiet
set_option linter.unusedVariables false
namespace Go.Proofs.YtkkhofoaolgapaaGreatDoor.Code
open Go.RowKit Go.Proofs.YtkkhofoaolgapaaGreatDoor.Alu Go.Proofs.YtkkhofoaolgapaaGreatDoor.Imm Go.Proofs.YtkkhofoaolgapaaGreatDoor.Inst

theorem or_half {x y : Int} (hx : 0 ≤ x ∧ x ≤ 255) (hy : 0 ≤ y ∧ y ≤ 255) : bits .or .u32 x (y * 256) = x + y * 256 :=
  (in_join (in_piece 8 0 1 255 x x rfl rfl hx.1 (by omega) (by decide) (by omega)) (in_piece 8 8 256 65280 y (y * 256) rfl rfl hy.1 (by omega) (by decide) rfl) (by decide)).1
theorem or_halves {x y : Int} (hx : 0 ≤ x ∧ x ≤ 65535) (hy : 0 ≤ y ∧ y ≤ 65535) : bits .or .u32 (x * 65536) y = x * 65536 + y :=
  u32_join 16 (x * 65536) y (by omega) (by omega) (by omega) (by omega) (by omega) (by omega)

end Go.Proofs.YtkkhofoaolgapaaGreatDoor.Code

