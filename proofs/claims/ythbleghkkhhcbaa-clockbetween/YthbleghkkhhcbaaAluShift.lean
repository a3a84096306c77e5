/- What Shift answers, by package alu and by the document: contracts. -/
import Derived.Test.YthbleghkkhhcbaaAluWalks
set_option linter.unusedVariables false
namespace Go.Proofs.Ythbleghkkhhcbaa.Alu
open Go.RowKit

theorem hide {P : Prop} (h : P) : Hid P := h
theorem unhide {P : Prop} (h : Hid P) : P := h.out