/- CodeTabA, CodeTabB, CodeTabC, CodeFields, CodeRefW, joined. -/
import Derived.Test.YtjcoihbhgedgiaaDoorCodeTab
import Derived.Test.YtjcoihbhgedgiaaDoorCodeDocB
import Derived.Test.YtjcoihbhgedgiaaDoorCodeMsk
import Derived.Test.YtjcoihbhgedgiaaDoorInstTab
import Derived.Test.YtjcoihbhgedgiaaDoorInstLaid
import Derived.BigQuiet
import Derived.Deep.QuietTactic
import Derived.Deep.RegionHeld3

/-! What the document's 'fields' answers, shape by shape: contracts. -/
set_option linter.unusedVariables false
namespace Go.Proofs.YtjcoihbhgedgiaaDoor.Code
open Go.RowKit Go.Proofs.YtjcoihbhgedgiaaDoor.Alu

set_option maxRecDepth 100000 in
theorem fields_1 (w : World) :
    Calls Tryd.prog 32 #[.int .i64 1] w fun e w' => e = .returned (.slice (some ⟨w.heap.size, 0, none⟩) 3 3) ∧ w' = w.alloc (.cells #[.int .i64 4, .int .i64 0, .int .i64 6, .int .i64 5, .int .i64 2, .int .i64 0, .int .i64 3, .int .i64 3, .int .i64 0, .int .i64 0, .int .i64 0, .int .i64 3] 61) := by
  go_enter Tryd.func32, Tryd.ntmps32
  go_wp2_with fail
  go_ret
  exact ⟨rfl, rfl⟩

set_option maxRecDepth 100000 in
theorem fields_2 (w : World) :
    Calls Tryd.prog 32 #[.int .i64 2] w fun e w' => e = .returned (.slice (some ⟨w.heap.size, 0, none⟩) 3 3) ∧ w' = w.alloc (.cells #[.int .i64 2, .int .i64 0, .int .i64 6, .int .i64 3, .int .i64 1, .int .i64 0, .int .i64 3, .int .i64 3, .int .i64 0, .int .i64 0, .int .i64 0, .int .i64 3] 61) := by
  go_enter Tryd.func32, Tryd.ntmps32
  go_wp2_with fail
  go_ret
  exact ⟨rfl, rfl⟩

set_option maxRecDepth 100000 in
theorem fields_3 (w : World) :
    Calls Tryd.prog 32 #[.int .i64 3] w fun e w' => e = .returned (.slice (some ⟨w.heap.size, 0, none⟩) 3 3) ∧ w' = w.alloc (.cells #[.int .i64 4, .int .i64 0, .int .i64 6, .int .i64 3, .int .i64 1, .int .i64 0, .int .i64 3, .int .i64 3, .int .i64 0, .int .i64 0, .int .i64 0, .int .i64 3] 61) := by
  go_enter Tryd.func32, Tryd.ntmps32
  go_wp2_with fail
  go_ret
  exact ⟨rfl, rfl⟩

set_option maxRecDepth 100000 in
theorem fields_4 (w : World) :
    Calls Tryd.prog 32 #[.int .i64 4] w fun e w' => e = .returned (.slice (some ⟨w.heap.size, 0, none⟩) 2 2) ∧ w' = w.alloc (.cells #[.int .i64 0, .int .i64 0, .int .i64 8, .int .i64 3, .int .i64 4, .int .i64 0, .int .i64 0, .int .i64 8] 61) := by
  go_enter Tryd.func32, Tryd.ntmps32
  go_wp2_with fail
  go_ret
  exact ⟨rfl, rfl⟩

set_option maxRecDepth 100000 in
theorem fields_5 (w : World) :
    Calls Tryd.prog 32 #[.int .i64 5] w fun e w' => e = .returned (.slice (some ⟨w.heap.size, 0, none⟩) 2 2) ∧ w' = w.alloc (.cells #[.int .i64 2, .int .i64 0, .int .i64 3, .int .i64 3, .int .i64 0, .int .i64 0, .int .i64 0, .int .i64 3] 61) := by
  go_enter Tryd.func32, Tryd.ntmps32
  go_wp2_with fail
  go_ret
  exact ⟨rfl, rfl⟩

set_option maxRecDepth 100000 in
theorem fields_6 (w : World) :
    Calls Tryd.prog 32 #[.int .i64 6] w fun e w' => e = .returned (.slice (some ⟨w.heap.size, 0, none⟩) 3 3) ∧ w' = w.alloc (.cells #[.int .i64 0, .int .i64 3, .int .i64 7, .int .i64 1, .int .i64 2, .int .i64 0, .int .i64 3, .int .i64 4, .int .i64 0, .int .i64 0, .int .i64 0, .int .i64 3] 61) := by
  go_enter Tryd.func32, Tryd.ntmps32
  go_wp2_with fail
  go_ret
  exact ⟨rfl, rfl⟩

set_option maxRecDepth 100000 in
theorem fields_7 (w : World) :
    Calls Tryd.prog 32 #[.int .i64 7] w fun e w' => e = .returned (.slice (some ⟨w.heap.size, 0, none⟩) 1 1) ∧ w' = w.alloc (.cells #[.int .i64 2, .int .i64 0, .int .i64 3, .int .i64 4] 61) := by
  go_enter Tryd.func32, Tryd.ntmps32
  go_wp2_with fail
  go_ret
  exact ⟨rfl, rfl⟩

set_option maxRecDepth 100000 in
theorem fields_8 (w : World) :
    Calls Tryd.prog 32 #[.int .i64 8] w fun e w' => e = .returned (.slice (some ⟨w.heap.size, 0, none⟩) 2 2) ∧ w' = w.alloc (.cells #[.int .i64 0, .int .i64 0, .int .i64 8, .int .i64 3, .int .i64 4, .int .i64 2, .int .i64 0, .int .i64 8] 61) := by
  go_enter Tryd.func32, Tryd.ntmps32
  go_wp2_with fail
  go_ret
  exact ⟨rfl, rfl⟩

set_option maxRecDepth 100000 in
theorem fields_9 (w : World) :
    Calls Tryd.prog 32 #[.int .i64 9] w fun e w' => e = .returned (.slice (some ⟨w.heap.size, 0, none⟩) 3 3) ∧ w' = w.alloc (.cells #[.int .i64 4, .int .i64 2, .int .i64 6, .int .i64 5, .int .i64 1, .int .i64 0, .int .i64 3, .int .i64 3, .int .i64 0, .int .i64 0, .int .i64 0, .int .i64 3] 61) := by
  go_enter Tryd.func32, Tryd.ntmps32
  go_wp2_with fail
  go_ret
  exact ⟨rfl, rfl⟩

set_option maxRecDepth 100000 in
theorem fields_10 (w : World) :
    Calls Tryd.prog 32 #[.int .i64 10] w fun e w' => e = .returned (.slice (some ⟨w.heap.size, 0, none⟩) 1 1) ∧ w' = w.alloc (.cells #[.int .i64 4, .int .i64 2, .int .i64 0, .int .i64 7] 61) := by
  go_enter Tryd.func32, Tryd.ntmps32
  go_wp2_with fail
  go_ret
  exact ⟨rfl, rfl⟩

set_option maxRecDepth 100000 in
theorem fields_11 (w : World) :
    Calls Tryd.prog 32 #[.int .i64 11] w fun e w' => e = .returned (.slice (some ⟨w.heap.size, 0, none⟩) 2 2) ∧ w' = w.alloc (.cells #[.int .i64 9, .int .i64 14, .int .i64 8, .int .i64 1, .int .i64 9, .int .i64 0, .int .i64 0, .int .i64 8] 61) := by
  go_enter Tryd.func32, Tryd.ntmps32
  go_wp2_with fail
  go_ret
  exact ⟨rfl, rfl⟩

set_option maxRecDepth 100000 in
theorem fields_12 (w : World) :
    Calls Tryd.prog 32 #[.int .i64 12] w fun e w' => e = .returned (.slice (some ⟨w.heap.size, 0, none⟩) 2 2) ∧ w' = w.alloc (.cells #[.int .i64 9, .int .i64 15, .int .i64 8, .int .i64 1, .int .i64 9, .int .i64 0, .int .i64 0, .int .i64 8] 61) := by
  go_enter Tryd.func32, Tryd.ntmps32
  go_wp2_with fail
  go_ret
  exact ⟨rfl, rfl⟩

end Go.Proofs.YtjcoihbhgedgiaaDoor.Code

/-! What the document's 'fields' answers, shape by shape: contracts. -/
set_option linter.unusedVariables false
namespace Go.Proofs.YtjcoihbhgedgiaaDoor.Code
open Go.RowKit Go.Proofs.YtjcoihbhgedgiaaDoor.Alu

set_option maxRecDepth 100000 in
theorem fields_14 (w : World) :
    Calls Tryd.prog 32 #[.int .i64 14] w fun e w' => e = .returned (.slice (some ⟨w.heap.size, 0, none⟩) 1 1) ∧ w' = w.alloc (.cells #[.int .i64 4, .int .i64 0, .int .i64 0, .int .i64 8] 61) := by
  go_enter Tryd.func32, Tryd.ntmps32
  go_wp2_with fail
  go_ret
  exact ⟨rfl, rfl⟩

set_option maxRecDepth 100000 in
theorem fields_15 (w : World) :
    Calls Tryd.prog 32 #[.int .i64 15] w fun e w' => e = .returned (.slice (some ⟨w.heap.size, 0, none⟩) 2 2) ∧ w' = w.alloc (.cells #[.int .i64 8, .int .i64 0, .int .i64 8, .int .i64 4, .int .i64 4, .int .i64 1, .int .i64 0, .int .i64 8] 61) := by
  go_enter Tryd.func32, Tryd.ntmps32
  go_wp2_with fail
  go_ret
  exact ⟨rfl, rfl⟩

set_option maxRecDepth 100000 in
theorem fields_16 (w : World) :
    Calls Tryd.prog 32 #[.int .i64 16] w fun e w' => e = .returned (.slice (some ⟨w.heap.size, 0, none⟩) 1 1) ∧ w' = w.alloc (.cells #[.int .i64 4, .int .i64 1, .int .i64 0, .int .i64 11] 61) := by
  go_enter Tryd.func32, Tryd.ntmps32
  go_wp2_with fail
  go_ret
  exact ⟨rfl, rfl⟩

set_option maxRecDepth 100000 in
theorem fields_17 (w : World) :
    Calls Tryd.prog 32 #[.int .i64 17] w fun e w' => e = .returned (.slice (some ⟨w.heap.size, 0, none⟩) 5 5) ∧ w' = w.alloc (.cells #[.int .i64 4, .int .i64 11, .int .i64 26, .int .i64 1, .int .i64 4, .int .i64 12, .int .i64 16, .int .i64 4, .int .i64 4, .int .i64 8, .int .i64 12, .int .i64 3, .int .i64 4, .int .i64 0, .int .i64 0, .int .i64 8, .int .i64 0, .int .i64 0, .int .i64 8, .int .i64 4] 61) := by
  go_enter Tryd.func32, Tryd.ntmps32
  go_wp2_with fail
  go_ret
  exact ⟨rfl, rfl⟩

set_option maxRecDepth 100000 in
theorem fields_18 (w : World) :
    Calls Tryd.prog 32 #[.int .i64 18] w fun e w' => e = .returned (.slice (some ⟨w.heap.size, 0, none⟩) 6 6) ∧ w' = w.alloc (.cells #[.int .i64 4, .int .i64 11, .int .i64 26, .int .i64 1, .int .i64 4, .int .i64 8, .int .i64 12, .int .i64 3, .int .i64 4, .int .i64 0, .int .i64 0, .int .i64 8, .int .i64 7, .int .i64 0, .int .i64 20, .int .i64 1, .int .i64 1, .int .i64 0, .int .i64 16, .int .i64 4, .int .i64 0, .int .i64 0, .int .i64 8, .int .i64 4] 61) := by
  go_enter Tryd.func32, Tryd.ntmps32
  go_wp2_with fail
  go_ret
  exact ⟨rfl, rfl⟩

set_option maxRecDepth 100000 in
theorem fields_19 (w : World) :
    Calls Tryd.prog 32 #[.int .i64 19] w fun e w' => e = .returned (.slice (some ⟨w.heap.size, 0, none⟩) 5 5) ∧ w' = w.alloc (.cells #[.int .i64 4, .int .i64 11, .int .i64 26, .int .i64 1, .int .i64 4, .int .i64 8, .int .i64 12, .int .i64 3, .int .i64 4, .int .i64 0, .int .i64 0, .int .i64 8, .int .i64 7, .int .i64 0, .int .i64 20, .int .i64 1, .int .i64 0, .int .i64 0, .int .i64 8, .int .i64 4] 61) := by
  go_enter Tryd.func32, Tryd.ntmps32
  go_wp2_with fail
  go_ret
  exact ⟨rfl, rfl⟩

set_option maxRecDepth 100000 in
theorem fields_20 (w : World) :
    Calls Tryd.prog 32 #[.int .i64 20] w fun e w' => e = .returned (.slice (some ⟨w.heap.size, 0, none⟩) 4 4) ∧ w' = w.alloc (.cells #[.int .i64 4, .int .i64 11, .int .i64 26, .int .i64 1, .int .i64 4, .int .i64 8, .int .i64 12, .int .i64 3, .int .i64 4, .int .i64 0, .int .i64 0, .int .i64 8, .int .i64 1, .int .i64 0, .int .i64 16, .int .i64 4] 61) := by
  go_enter Tryd.func32, Tryd.ntmps32
  go_wp2_with fail
  go_ret
  exact ⟨rfl, rfl⟩

set_option maxRecDepth 100000 in
theorem fields_21 (w : World) :
    Calls Tryd.prog 32 #[.int .i64 21] w fun e w' => e = .returned (.slice (some ⟨w.heap.size, 0, none⟩) 7 7) ∧ w' = w.alloc (.cells #[.int .i64 6, .int .i64 2, .int .i64 12, .int .i64 3, .int .i64 6, .int .i64 0, .int .i64 6, .int .i64 2, .int .i64 5, .int .i64 0, .int .i64 4, .int .i64 2, .int .i64 7, .int .i64 0, .int .i64 20, .int .i64 1, .int .i64 1, .int .i64 0, .int .i64 16, .int .i64 4, .int .i64 0, .int .i64 0, .int .i64 8, .int .i64 4, .int .i64 2, .int .i64 0, .int .i64 0, .int .i64 4] 61) := by
  go_enter Tryd.func32, Tryd.ntmps32
  go_wp2_with fail
  go_ret
  exact ⟨rfl, rfl⟩

set_option maxRecDepth 100000 in
theorem fields_22 (w : World) :
    Calls Tryd.prog 32 #[.int .i64 22] w fun e w' => e = .returned (.slice (some ⟨w.heap.size, 0, none⟩) 6 6) ∧ w' = w.alloc (.cells #[.int .i64 6, .int .i64 2, .int .i64 12, .int .i64 3, .int .i64 6, .int .i64 0, .int .i64 6, .int .i64 2, .int .i64 5, .int .i64 0, .int .i64 4, .int .i64 2, .int .i64 7, .int .i64 0, .int .i64 20, .int .i64 1, .int .i64 0, .int .i64 0, .int .i64 8, .int .i64 4, .int .i64 2, .int .i64 0, .int .i64 0, .int .i64 4] 61) := by
  go_enter Tryd.func32, Tryd.ntmps32
  go_wp2_with fail
  go_ret
  exact ⟨rfl, rfl⟩

set_option maxRecDepth 100000 in
theorem fields_23 (w : World) :
    Calls Tryd.prog 32 #[.int .i64 23] w fun e w' => e = .returned (.slice (some ⟨w.heap.size, 0, none⟩) 5 5) ∧ w' = w.alloc (.cells #[.int .i64 6, .int .i64 2, .int .i64 12, .int .i64 3, .int .i64 6, .int .i64 0, .int .i64 6, .int .i64 2, .int .i64 5, .int .i64 0, .int .i64 4, .int .i64 2, .int .i64 1, .int .i64 0, .int .i64 16, .int .i64 4, .int .i64 2, .int .i64 0, .int .i64 0, .int .i64 4] 61) := by
  go_enter Tryd.func32, Tryd.ntmps32
  go_wp2_with fail
  go_ret
  exact ⟨rfl, rfl⟩

set_option maxRecDepth 100000 in
theorem fields_24 (w : World) :
    Calls Tryd.prog 32 #[.int .i64 24] w fun e w' => e = .returned (.slice (some ⟨w.heap.size, 0, none⟩) 5 5) ∧ w' = w.alloc (.cells #[.int .i64 4, .int .i64 11, .int .i64 26, .int .i64 1, .int .i64 4, .int .i64 8, .int .i64 12, .int .i64 3, .int .i64 4, .int .i64 0, .int .i64 0, .int .i64 8, .int .i64 1, .int .i64 0, .int .i64 16, .int .i64 4, .int .i64 0, .int .i64 0, .int .i64 8, .int .i64 4] 61) := by
  go_enter Tryd.func32, Tryd.ntmps32
  go_wp2_with fail
  go_ret
  exact ⟨rfl, rfl⟩

end Go.Proofs.YtjcoihbhgedgiaaDoor.Code

/-! What the document's 'fields' answers, shape by shape: contracts. -/
set_option linter.unusedVariables false
namespace Go.Proofs.YtjcoihbhgedgiaaDoor.Code
open Go.RowKit Go.Proofs.YtjcoihbhgedgiaaDoor.Alu

set_option maxRecDepth 100000 in
theorem fields_25 (w : World) :
    Calls Tryd.prog 32 #[.int .i64 25] w fun e w' => e = .returned (.slice (some ⟨w.heap.size, 0, none⟩) 3 3) ∧ w' = w.alloc (.cells #[.int .i64 1, .int .i64 0, .int .i64 16, .int .i64 4, .int .i64 0, .int .i64 0, .int .i64 12, .int .i64 4, .int .i64 4, .int .i64 0, .int .i64 0, .int .i64 12] 61) := by
  go_enter Tryd.func32, Tryd.ntmps32
  go_wp2_with fail
  go_ret
  exact ⟨rfl, rfl⟩

set_option maxRecDepth 100000 in
theorem fields_26 (w : World) :
    Calls Tryd.prog 32 #[.int .i64 26] w fun e w' => e = .returned (.slice (some ⟨w.heap.size, 0, none⟩) 4 4) ∧ w' = w.alloc (.cells #[.int .i64 1, .int .i64 0, .int .i64 16, .int .i64 4, .int .i64 0, .int .i64 0, .int .i64 12, .int .i64 4, .int .i64 6, .int .i64 0, .int .i64 4, .int .i64 2, .int .i64 2, .int .i64 0, .int .i64 0, .int .i64 4] 61) := by
  go_enter Tryd.func32, Tryd.ntmps32
  go_wp2_with fail
  go_ret
  exact ⟨rfl, rfl⟩

set_option maxRecDepth 100000 in
theorem fields_27 (w : World) :
    Calls Tryd.prog 32 #[.int .i64 27] w fun e w' => e = .returned (.slice (some ⟨w.heap.size, 0, none⟩) 4 4) ∧ w' = w.alloc (.cells #[.int .i64 7, .int .i64 0, .int .i64 20, .int .i64 1, .int .i64 1, .int .i64 0, .int .i64 16, .int .i64 4, .int .i64 0, .int .i64 0, .int .i64 8, .int .i64 4, .int .i64 2, .int .i64 0, .int .i64 0, .int .i64 4] 61) := by
  go_enter Tryd.func32, Tryd.ntmps32
  go_wp2_with fail
  go_ret
  exact ⟨rfl, rfl⟩

set_option maxRecDepth 100000 in
theorem fields_28 (w : World) :
    Calls Tryd.prog 32 #[.int .i64 28] w fun e w' => e = .returned (.slice (some ⟨w.heap.size, 0, none⟩) 3 3) ∧ w' = w.alloc (.cells #[.int .i64 1, .int .i64 0, .int .i64 16, .int .i64 4, .int .i64 0, .int .i64 0, .int .i64 8, .int .i64 4, .int .i64 2, .int .i64 0, .int .i64 0, .int .i64 4] 61) := by
  go_enter Tryd.func32, Tryd.ntmps32
  go_wp2_with fail
  go_ret
  exact ⟨rfl, rfl⟩

set_option maxRecDepth 100000 in
theorem fields_29 (w : World) :
    Calls Tryd.prog 32 #[.int .i64 29] w fun e w' => e = .returned (.slice (some ⟨w.heap.size, 0, none⟩) 4 4) ∧ w' = w.alloc (.cells #[.int .i64 1, .int .i64 0, .int .i64 16, .int .i64 4, .int .i64 3, .int .i64 0, .int .i64 12, .int .i64 4, .int .i64 0, .int .i64 0, .int .i64 8, .int .i64 4, .int .i64 2, .int .i64 0, .int .i64 0, .int .i64 4] 61) := by
  go_enter Tryd.func32, Tryd.ntmps32
  go_wp2_with fail
  go_ret
  exact ⟨rfl, rfl⟩

set_option maxRecDepth 100000 in
theorem fields_30 (w : World) :
    Calls Tryd.prog 32 #[.int .i64 30] w fun e w' => e = .returned (.slice (some ⟨w.heap.size, 0, none⟩) 4 4) ∧ w' = w.alloc (.cells #[.int .i64 1, .int .i64 0, .int .i64 16, .int .i64 4, .int .i64 3, .int .i64 0, .int .i64 12, .int .i64 4, .int .i64 0, .int .i64 0, .int .i64 8, .int .i64 4, .int .i64 2, .int .i64 0, .int .i64 0, .int .i64 4] 61) := by
  go_enter Tryd.func32, Tryd.ntmps32
  go_wp2_with fail
  go_ret
  exact ⟨rfl, rfl⟩

set_option maxRecDepth 100000 in
theorem fields_31 (w : World) :
    Calls Tryd.prog 32 #[.int .i64 31] w fun e w' => e = .returned (.slice (some ⟨w.heap.size, 0, none⟩) 4 4) ∧ w' = w.alloc (.cells #[.int .i64 1, .int .i64 0, .int .i64 16, .int .i64 4, .int .i64 0, .int .i64 0, .int .i64 12, .int .i64 4, .int .i64 3, .int .i64 0, .int .i64 8, .int .i64 4, .int .i64 2, .int .i64 0, .int .i64 0, .int .i64 4] 61) := by
  go_enter Tryd.func32, Tryd.ntmps32
  go_wp2_with fail
  go_ret
  exact ⟨rfl, rfl⟩

set_option maxRecDepth 100000 in
theorem fields_32 (w : World) :
    Calls Tryd.prog 32 #[.int .i64 32] w fun e w' => e = .returned (.slice (some ⟨w.heap.size, 0, none⟩) 3 3) ∧ w' = w.alloc (.cells #[.int .i64 2, .int .i64 0, .int .i64 16, .int .i64 4, .int .i64 0, .int .i64 0, .int .i64 8, .int .i64 4, .int .i64 2, .int .i64 0, .int .i64 0, .int .i64 4] 61) := by
  go_enter Tryd.func32, Tryd.ntmps32
  go_wp2_with fail
  go_ret
  exact ⟨rfl, rfl⟩

set_option maxRecDepth 100000 in
theorem fields_33 (w : World) :
    Calls Tryd.prog 32 #[.int .i64 33] w fun e w' => e = .returned (.slice (some ⟨w.heap.size, 0, none⟩) 6 6) ∧ w' = w.alloc (.cells #[.int .i64 4, .int .i64 20, .int .i64 26, .int .i64 1, .int .i64 8, .int .i64 0, .int .i64 22, .int .i64 4, .int .i64 4, .int .i64 12, .int .i64 16, .int .i64 6, .int .i64 4, .int .i64 18, .int .i64 13, .int .i64 1, .int .i64 4, .int .i64 19, .int .i64 11, .int .i64 1, .int .i64 4, .int .i64 1, .int .i64 0, .int .i64 11] 61) := by
  go_enter Tryd.func32, Tryd.ntmps32
  go_wp2_with fail
  go_ret
  exact ⟨rfl, rfl⟩

set_option maxRecDepth 100000 in
theorem fields_34 (w : World) :
    Calls Tryd.prog 32 #[.int .i64 34] w fun e w' => e = .returned (.slice (some ⟨w.heap.size, 0, none⟩) 5 5) ∧ w' = w.alloc (.cells #[.int .i64 4, .int .i64 24, .int .i64 26, .int .i64 1, .int .i64 4, .int .i64 12, .int .i64 16, .int .i64 10, .int .i64 4, .int .i64 23, .int .i64 13, .int .i64 1, .int .i64 4, .int .i64 22, .int .i64 11, .int .i64 1, .int .i64 4, .int .i64 1, .int .i64 0, .int .i64 11] 61) := by
  go_enter Tryd.func32, Tryd.ntmps32
  go_wp2_with fail
  go_ret
  exact ⟨rfl, rfl⟩

end Go.Proofs.YtjcoihbhgedgiaaDoor.Code

/-! What the document's 'fields' answers: a contract for every shape. -/
set_option linter.unusedVariables false
namespace Go.Proofs.YtjcoihbhgedgiaaDoor.Code
open Go.RowKit Go.Proofs.YtjcoihbhgedgiaaDoor.Alu

set_option maxRecDepth 100000 in
theorem fields_13 (w : World) :
    Calls Tryd.prog 32 #[.int .i64 13] w fun e w' => e = .returned (.slice none 0 0) ∧ w' = w := by
  go_enter Tryd.func32, Tryd.ntmps32
  go_wp2_with fail
  go_ret
  exact ⟨rfl, rfl⟩

/-- A table lies in a block. -/
def Tab (w : World) (b : Nat) (l : List (List Int)) : Prop := ∀ k j : Nat, k < l.length → j < 4 → w.cell? ⟨b, 4 * k + j, none⟩ = some (.int .i64 (ent l k j))
theorem tab_new (s : Int) (h0 : 0 ≤ s) (h1 : s ≤ 34) (w : World) (cs : Array Value) (hcs : cs = ((flat (fl s)).map (Value.int .i64)).toArray) : Tab (w.alloc (.cells cs 61)) w.heap.size (fl s) := by
  intro k j hk hj
  rw [hcs]
  refine (World.cell?_alloc_mark w _ _ (0, 0) _).trans ?_
  simp only [List.getElem?_toArray, List.getElem?_map, flat_at s h0 h1 k j hk hj, Option.map_some]
theorem Tab.below {w w' : World} {b : Nat} {l : List (List Int)} (h : Tab w b l) (hl : b < w.heap.size) (hb : Below w.heap.size w w') : Tab w' b l :=
  fun k j hk hj => (hb.cell (p := ⟨b, 4 * k + j, none⟩) hl).trans (h k j hk hj)

def FieldsPost (s : Int) (w : World) (e : Ending) (w' : World) : Prop :=
  e = .returned (.slice (some ⟨w.heap.size, 0, none⟩) (fl s).length (fl s).length) ∧ Tab w' w.heap.size (fl s) ∧ w.heap.size < w'.heap.size ∧ Below w.heap.size w w'
theorem post_of {s : Int} (h0 : 0 ≤ s) (h1 : s ≤ 34) {w w' : World} {e : Ending} {n : Nat} {cs : Array Value} (hn : n = (fl s).length) (hcs : cs = ((flat (fl s)).map (Value.int .i64)).toArray)
    (h : e = .returned (.slice (some ⟨w.heap.size, 0, none⟩) n n) ∧ w' = w.alloc (.cells cs 61)) : FieldsPost s w e w' := by
  obtain ⟨rfl, rfl⟩ := h
  subst hn
  exact ⟨rfl, tab_new s h0 h1 w cs hcs, by simp, (Below.refl _ _).alloc (Nat.le_refl _) _⟩

theorem fields_any (s : Int) (h0 : 1 ≤ s) (h1 : s ≤ 34) (h13 : s ≠ 13) (w : World) :
    Calls Tryd.prog 32 #[.int .i64 s] w (FieldsPost s w) := by
  rcases (show s = 1 ∨ s = 2 ∨ s = 3 ∨ s = 4 ∨ s = 5 ∨ s = 6 ∨ s = 7 ∨ s = 8 ∨ s = 9 ∨ s = 10 ∨ s = 11 ∨ 12 ≤ s by omega) with rfl | rfl | rfl | rfl | rfl | rfl | rfl | rfl | rfl | rfl | rfl | hk
  · exact (fields_1 w).mono fun e w' h => post_of (by decide) (by decide) rfl rfl h
  · exact (fields_2 w).mono fun e w' h => post_of (by decide) (by decide) rfl rfl h
  · exact (fields_3 w).mono fun e w' h => post_of (by decide) (by decide) rfl rfl h
  · exact (fields_4 w).mono fun e w' h => post_of (by decide) (by decide) rfl rfl h
  · exact (fields_5 w).mono fun e w' h => post_of (by decide) (by decide) rfl rfl h
  · exact (fields_6 w).mono fun e w' h => post_of (by decide) (by decide) rfl rfl h
  · exact (fields_7 w).mono fun e w' h => post_of (by decide) (by decide) rfl rfl h
  · exact (fields_8 w).mono fun e w' h => post_of (by decide) (by decide) rfl rfl h
  · exact (fields_9 w).mono fun e w' h => post_of (by decide) (by decide) rfl rfl h
  · exact (fields_10 w).mono fun e w' h => post_of (by decide) (by decide) rfl rfl h
  · exact (fields_11 w).mono fun e w' h => post_of (by decide) (by decide) rfl rfl h
  rcases (show s = 12 ∨ s = 14 ∨ s = 15 ∨ s = 16 ∨ s = 17 ∨ s = 18 ∨ s = 19 ∨ s = 20 ∨ s = 21 ∨ s = 22 ∨ s = 23 ∨ 24 ≤ s by omega) with rfl | rfl | rfl | rfl | rfl | rfl | rfl | rfl | rfl | rfl | rfl | hk
  · exact (fields_12 w).mono fun e w' h => post_of (by decide) (by decide) rfl rfl h
  · exact (fields_14 w).mono fun e w' h => post_of (by decide) (by decide) rfl rfl h
  · exact (fields_15 w).mono fun e w' h => post_of (by decide) (by decide) rfl rfl h
  · exact (fields_16 w).mono fun e w' h => post_of (by decide) (by decide) rfl rfl h
  · exact (fields_17 w).mono fun e w' h => post_of (by decide) (by decide) rfl rfl h
  · exact (fields_18 w).mono fun e w' h => post_of (by decide) (by decide) rfl rfl h
  · exact (fields_19 w).mono fun e w' h => post_of (by decide) (by decide) rfl rfl h
  · exact (fields_20 w).mono fun e w' h => post_of (by decide) (by decide) rfl rfl h
  · exact (fields_21 w).mono fun e w' h => post_of (by decide) (by decide) rfl rfl h
  · exact (fields_22 w).mono fun e w' h => post_of (by decide) (by decide) rfl rfl h
  · exact (fields_23 w).mono fun e w' h => post_of (by decide) (by decide) rfl rfl h
  rcases (show s = 24 ∨ s = 25 ∨ s = 26 ∨ s = 27 ∨ s = 28 ∨ s = 29 ∨ s = 30 ∨ s = 31 ∨ s = 32 ∨ s = 33 ∨ s = 34 by omega) with rfl | rfl | rfl | rfl | rfl | rfl | rfl | rfl | rfl | rfl | rfl
  · exact (fields_24 w).mono fun e w' h => post_of (by decide) (by decide) rfl rfl h
  · exact (fields_25 w).mono fun e w' h => post_of (by decide) (by decide) rfl rfl h
  · exact (fields_26 w).mono fun e w' h => post_of (by decide) (by decide) rfl rfl h
  · exact (fields_27 w).mono fun e w' h => post_of (by decide) (by decide) rfl rfl h
  · exact (fields_28 w).mono fun e w' h => post_of (by decide) (by decide) rfl rfl h
  · exact (fields_29 w).mono fun e w' h => post_of (by decide) (by decide) rfl rfl h
  · exact (fields_30 w).mono fun e w' h => post_of (by decide) (by decide) rfl rfl h
  · exact (fields_31 w).mono fun e w' h => post_of (by decide) (by decide) rfl rfl h
  · exact (fields_32 w).mono fun e w' h => post_of (by decide) (by decide) rfl rfl h
  · exact (fields_33 w).mono fun e w' h => post_of (by decide) (by decide) rfl rfl h
  · exact (fields_34 w).mono fun e w' h => post_of (by decide) (by decide) rfl rfl h

end Go.Proofs.YtjcoihbhgedgiaaDoor.Code

/-! What the document's Word answers of a right instruction: a contract. -/
set_option linter.unusedVariables false
namespace Go.Proofs.YtjcoihbhgedgiaaDoor.Code
open Go.RowKit Go.Proofs.YtjcoihbhgedgiaaDoor.Alu Go.Proofs.YtjcoihbhgedgiaaDoor.Imm Go.Proofs.YtjcoihbhgedgiaaDoor.Inst

/-- What the loops of the document's Word go by: the running word, and where an entry's part goes. -/
structure Steps (l : List (List Int)) (g : List Int) (n : Nat) (s : Nat → Int) : Prop where
  len : l.length = n
  small : n ≤ 7
  ent : ∀ k, k < n → 0 ≤ ent l k 0 ∧ ent l k 0 ≤ 9 ∧ 0 ≤ ent l k 1 ∧ ent l k 1 ≤ 24 ∧ 0 ≤ ent l k 2 ∧ ent l k 2 ≤ 31 ∧ 1 ≤ ent l k 3 ∧ ent l k 3 ≤ 12 ∧ ent l k 2 + ent l k 3 ≤ 32
  bd : ∀ k, k ≤ n → 0 ≤ s k ∧ s k < 4294967296
  none : ∀ k, k < n → bt (s k) (Code.ent l k 2) (Code.ent l k 3) = 0
  step : ∀ k, k < n → s (k + 1) = s k + pc l g k * pw (Code.ent l k 2)
theorem steps_of {f : Int} (h0 : 1 ≤ f) (h1 : f ≤ 100) (g : List Int) : Steps (fl (shp f)) g (fl (shp f)).length (fun k => bts f + sumK (fl (shp f)) g k) := by
  obtain ⟨a, _, b, _⟩ := apart_of h0 h1
  have hs := shp_bd f
  refine ⟨rfl, len_bd _ hs.1 hs.2, fun k hk => ent_bd _ hs.1 hs.2 k hk, fun k hk => (in_sum a g b k hk).le, fun k hk => none_at a g b k hk, fun k hk => ?_⟩
  show bts f + (sumK _ g k + pc _ g k * pw _) = _
  rw [← Int.add_assoc]

theorem keepS {w3 wr : World} {b0 b1 k : Nat} {f rd rn rm ra im kd bs st cd rg a0 a1 a2 a3 : Int} (hw3 : b0 < w3.heap.size) (hz : b1 < w3.heap.size) (hX : ∀ i v, #[.int .i64 f, .int .i64 rd, .int .i64 rn, .int .i64 rm, .int .i64 ra, .int .i64 im, .int .i64 kd, .int .i64 bs, .int .i64 st, .int .i64 cd, .int .i64 rg][i]? = some v → w3.cell? ⟨b0, i, none⟩ = some v) (hT : w3.cell? ⟨b1, k * 4, none⟩ = some (.int .i64 a0) ∧ w3.cell? ⟨b1, k * 4 + 1, none⟩ = some (.int .i64 a1) ∧ w3.cell? ⟨b1, k * 4 + 2, none⟩ = some (.int .i64 a2) ∧ w3.cell? ⟨b1, k * 4 + 3, none⟩ = some (.int .i64 a3)) (hbr : Below w3.heap.size w3 wr) : wr.cell? ⟨b0, 0, none⟩ = some (.int .i64 f) ∧ wr.cell? ⟨b0, 1, none⟩ = some (.int .i64 rd) ∧ wr.cell? ⟨b0, 2, none⟩ = some (.int .i64 rn) ∧ wr.cell? ⟨b0, 3, none⟩ = some (.int .i64 rm) ∧ wr.cell? ⟨b0, 4, none⟩ = some (.int .i64 ra) ∧ wr.cell? ⟨b0, 5, none⟩ = some (.int .i64 im) ∧ wr.cell? ⟨b0, 6, none⟩ = some (.int .i64 kd) ∧ wr.cell? ⟨b0, 7, none⟩ = some (.int .i64 bs) ∧ wr.cell? ⟨b0, 8, none⟩ = some (.int .i64 st) ∧ wr.cell? ⟨b0, 9, none⟩ = some (.int .i64 cd) ∧ wr.cell? ⟨b0, 10, none⟩ = some (.int .i64 rg) ∧ wr.cell? ⟨b1, k * 4, none⟩ = some (.int .i64 a0) ∧ wr.cell? ⟨b1, k * 4 + 1, none⟩ = some (.int .i64 a1) ∧ wr.cell? ⟨b1, k * 4 + 2, none⟩ = some (.int .i64 a2) ∧ wr.cell? ⟨b1, k * 4 + 3, none⟩ = some (.int .i64 a3) := by
  have q := (bcell hbr).1
  obtain ⟨t0, t1, t2, t3⟩ := hT
  exact ⟨(q _ 0 hw3).trans (hX 0 _ rfl), (q _ 1 hw3).trans (hX 1 _ rfl), (q _ 2 hw3).trans (hX 2 _ rfl), (q _ 3 hw3).trans (hX 3 _ rfl), (q _ 4 hw3).trans (hX 4 _ rfl), (q _ 5 hw3).trans (hX 5 _ rfl), (q _ 6 hw3).trans (hX 6 _ rfl), (q _ 7 hw3).trans (hX 7 _ rfl), (q _ 8 hw3).trans (hX 8 _ rfl), (q _ 9 hw3).trans (hX 9 _ rfl), (q _ 10 hw3).trans (hX 10 _ rfl), (q _ _ hz).trans t0, (q _ _ hz).trans t1, (q _ _ hz).trans t2, (q _ _ hz).trans t3⟩

theorem bt_bd (n a c : Int) : 0 ≤ bt n a c ∧ bt n a c < pw c := by
  unfold bt
  exact ⟨Int.emod_nonneg _ (by have := pw_pos c; omega), Int.emod_lt_of_pos _ (pw_pos _)⟩
theorem pw_le (a : Int) (h0 : 0 ≤ a) (h1 : a ≤ 12) : pw a ≤ 4096 := by
  have h : (2 : Nat) ^ a.toNat ≤ 2 ^ 12 := Nat.pow_le_pow_right (by decide) (by omega)
  have e : pw a = ((2 ^ a.toNat : Nat) : Int) := by unfold pw; simp
  rw [e]; omega
theorem pw_nat (b : Nat) : pw (b : Int) = 2 ^ b := by unfold pw; rw [Int.toNat_natCast]
theorem pw_add (a : Int) (b : Nat) (h : 0 ≤ a) : pw (a + b) = pw a * 2 ^ b := by
  unfold pw
  rw [show (a + (b : Int)).toNat = a.toNat + b by omega, Int.pow_add]
theorem in_step1 (p a : Int) (b : Nat) (h : bt p (b : Int) 1 = 1) (hp : 0 ≤ p) (ha : 0 ≤ a) : p % pw ((b + 1 : Nat) : Int) * pw a = p % pw (b : Int) * pw a + pw (a + (b : Int)) := by
  rw [bt_at p hp rfl (by decide : pw 1 = 2), pw_nat] at h
  rw [pw_nat, pw_nat, bit_more, h, pw_add a b ha, Int.one_mul, Int.add_mul, Int.mul_comm (2 ^ b)]
theorem in_step0 (p : Int) (b : Nat) (h : bt p (b : Int) 1 = 0) (hp : 0 ≤ p) : p % pw ((b + 1 : Nat) : Int) = p % pw (b : Int) := by
  rw [bt_at p hp rfl (by decide : pw 1 = 2), pw_nat] at h
  rw [pw_nat, pw_nat, bit_more, h, Int.zero_mul, Int.add_zero]
theorem in_bd (p a c : Int) (b : Nat) (h0 : 0 ≤ p) (h1 : p < pw c) (ha : 0 ≤ a) (hc : 0 ≤ c) (h : a + c ≤ 32) : 0 ≤ p % pw (b : Int) * pw a ∧ p % pw (b : Int) * pw a ≤ 4294967296 := by
  have e1 : 0 ≤ p % pw (b : Int) := Int.emod_nonneg _ (by have := pw_pos (b : Int); omega)
  have e2 : p % pw (b : Int) ≤ p := by
    have := Int.emod_add_mul_ediv p (pw (b : Int))
    have : 0 ≤ pw (b : Int) * (p / pw (b : Int)) := Int.mul_nonneg (by have := pw_pos (b : Int); omega) (Int.ediv_nonneg h0 (by have := pw_pos (b : Int); omega))
    omega
  have e3 : p % pw (b : Int) * pw a ≤ pw c * pw a := Int.mul_le_mul_of_nonneg_right (by omega) (by have := pw_pos a; omega)
  have e4 : pw c * pw a = pw (a + c) := by
    obtain ⟨C, rfl⟩ := Int.eq_ofNat_of_zero_le hc
    rw [pw_add a C ha, pw_nat, Int.mul_comm]
  have e5 : pw (a + c) ≤ 4294967296 := by
    have h : (2 : Nat) ^ (a + c).toNat ≤ 2 ^ 32 := Nat.pow_le_pow_right (by decide) (by omega)
    have e : pw (a + c) = ((2 ^ (a + c).toNat : Nat) : Int) := by unfold pw; simp
    rw [e]; omega
  exact ⟨Int.mul_nonneg e1 (by have := pw_pos a; omega), by omega⟩
theorem belowDrewN (w : World) (n : Nat) : Below w.heap.size w (w.drewN n) := ⟨rfl, rfl, rfl, Nat.le_refl _, fun _ _ => rfl⟩
theorem quietDrew1 {P : Program} {f : FuncId} {args : Array Value} {w0 : World} {n : Nat} {v : Value} (h : Calls P f args (w0.drewN n) fun e w' => e = .returned v ∧ w' = (w0.drewN n).drew) : Calls P f args (w0.drewN n) fun e w' => e = .returned v ∧ ∃ m, w' = w0.drewN m :=
  h.mono fun e w' ⟨a, b⟩ => ⟨a, n + 1, b⟩
theorem field_all {f rd rn rm ra im kd bs st cd rg : Int} (h : right f rd rn rm ra im kd bs st cd rg = true) (g0 : -9223372036854775808 ≤ rg) (g1 : rg ≤ 9223372036854775807) : (-16777216 ≤ rd ∧ rd ≤ 16777216) ∧ (-16777216 ≤ rn ∧ rn ≤ 16777216) ∧ (-16777216 ≤ rm ∧ rm ≤ 16777216) ∧ (-16777216 ≤ ra ∧ ra ≤ 16777216) ∧ (-16777216 ≤ im ∧ im ≤ 16777216) ∧ (-16777216 ≤ kd ∧ kd ≤ 16777216) ∧ (-16777216 ≤ bs ∧ bs ≤ 16777216) ∧ (-16777216 ≤ st ∧ st ≤ 16777216) ∧ (-16777216 ≤ cd ∧ cd ≤ 16777216) ∧ (-16777216 ≤ rg ∧ rg ≤ 16777216) := by
  obtain ⟨⟨i0, i1⟩, h⟩ := at_own h g0 g1
  have hs := shp_yes (isF_yes ⟨i0, i1⟩)
  generalize shp f = s at *
  clear i0 i1 g0 g1
  obtain ⟨s0, s1, _⟩ := hs
  rcases (show s = 1 ∨ s = 2 ∨ s = 3 ∨ s = 4 ∨ s = 5 ∨ s = 6 ∨ s = 7 ∨ s = 8 ∨ s = 9 ∨ s = 10 ∨ s = 11 ∨ s = 12 ∨ 13 ≤ s by omega) with rfl | rfl | rfl | rfl | rfl | rfl | rfl | rfl | rfl | rfl | rfl | rfl | hk
  · have l := lin_1 h; clear h; omega
  · have l := lin_2 h; clear h; omega
  · have l := lin_3 h; clear h; omega
  · have l := lin_4 h; clear h; omega
  · have l := lin_5 h; clear h; omega
  · have l := lin_6 h; clear h; omega
  · have l := lin_7 h; clear h; omega
  · have l := lin_8 h; clear h; omega
  · have l := lin_9 h; clear h; omega
  · have l := lin_10 h; clear h; omega
  · have l := lin_11 h; clear h; omega
  · have l := lin_12 h; clear h; omega
  rcases (show s = 13 ∨ s = 14 ∨ s = 15 ∨ s = 16 ∨ s = 17 ∨ s = 18 ∨ s = 19 ∨ s = 20 ∨ s = 21 ∨ s = 22 ∨ s = 23 ∨ s = 24 ∨ 25 ≤ s by omega) with rfl | rfl | rfl | rfl | rfl | rfl | rfl | rfl | rfl | rfl | rfl | rfl | hk
  · have l := lin_13 h; clear h; omega
  · have l := lin_14 h; clear h; omega
  · have l := lin_15 h; clear h; omega
  · have l := lin_16 h; clear h; omega
  · have l := lin_17 h; clear h; omega
  · have l := lin_18 h; clear h; omega
  · have l := lin_19 h; clear h; omega
  · have l := lin_20 h; clear h; omega
  · have l := lin_21 h; clear h; omega
  · have l := lin_22 h; clear h; omega
  · have l := lin_23 h; clear h; omega
  · have l := lin_24 h; clear h; omega
  rcases (show s = 25 ∨ s = 26 ∨ s = 27 ∨ s = 28 ∨ s = 29 ∨ s = 30 ∨ s = 31 ∨ s = 32 ∨ s = 33 ∨ s = 34 by omega) with rfl | rfl | rfl | rfl | rfl | rfl | rfl | rfl | rfl | rfl
  · have l := lin_25 h; clear h; omega
  · have l := lin_26 h; clear h; omega
  · have l := lin_27 h; clear h; omega
  · have l := lin_28 h; clear h; omega
  · have l := lin_29 h; clear h; omega
  · have l := lin_30 h; clear h; omega
  · have l := lin_31 h; clear h; omega
  · have l := lin_32 h; clear h; omega
  · have l := lin_33 h; clear h; omega
  · have l := lin_34 h; clear h; omega
theorem getD_bd {a0 a1 a2 a3 a4 a5 a6 a7 a8 a9 lo hi : Int} (h0 : lo ≤ a0 ∧ a0 ≤ hi) (h1 : lo ≤ a1 ∧ a1 ≤ hi) (h2 : lo ≤ a2 ∧ a2 ≤ hi) (h3 : lo ≤ a3 ∧ a3 ≤ hi) (h4 : lo ≤ a4 ∧ a4 ≤ hi) (h5 : lo ≤ a5 ∧ a5 ≤ hi) (h6 : lo ≤ a6 ∧ a6 ≤ hi) (h7 : lo ≤ a7 ∧ a7 ≤ hi) (h8 : lo ≤ a8 ∧ a8 ≤ hi) (h9 : lo ≤ a9 ∧ a9 ≤ hi) (hz : lo ≤ 0 ∧ 0 ≤ hi) : ∀ j : Nat, lo ≤ [a0, a1, a2, a3, a4, a5, a6, a7, a8, a9].getD j 0 ∧ [a0, a1, a2, a3, a4, a5, a6, a7, a8, a9].getD j 0 ≤ hi
  | 0 => h0 | 1 => h1 | 2 => h2 | 3 => h3 | 4 => h4 | 5 => h5 | 6 => h6 | 7 => h7 | 8 => h8 | 9 => h9
  | n + 10 => by rw [show [a0, a1, a2, a3, a4, a5, a6, a7, a8, a9].getD (n + 10) 0 = 0 from rfl]; exact hz
theorem field_bd {f rd rn rm ra im kd bs st cd rg : Int} (h : right f rd rn rm ra im kd bs st cd rg = true) (g0 : -9223372036854775808 ≤ rg) (g1 : rg ≤ 9223372036854775807) : ∀ j : Nat, -1099511627776 ≤ [rd, rn, rm, ra, im, kd, bs, st, cd, rg].getD j 0 ∧ [rd, rn, rm, ra, im, kd, bs, st, cd, rg].getD j 0 ≤ 4611686018427387904 := by
  obtain ⟨h0, h1, h2, h3, h4, h5, h6, h7, h8, h9⟩ := field_all h g0 g1
  exact getD_bd (by omega) (by omega) (by omega) (by omega) (by omega) (by omega) (by omega) (by omega) (by omega) (by omega) (by omega)
theorem field_bd34 {f rd rn rm ra im kd bs st cd rg : Int} (h : right f rd rn rm ra im kd bs st cd rg = true) (g0 : -9223372036854775808 ≤ rg) (g1 : rg ≤ 9223372036854775807) (jm : Int) (hj : 0 ≤ jm ∧ jm ≤ 33554431) : ∀ j : Nat, -1099511627776 ≤ [rd, rn, rm, ra, jm, kd, bs, st, cd, rg].getD j 0 ∧ [rd, rn, rm, ra, jm, kd, bs, st, cd, rg].getD j 0 ≤ 4611686018427387904 := by
  obtain ⟨h0, h1, h2, h3, h4, h5, h6, h7, h8, h9⟩ := field_all h g0 g1
  exact getD_bd (by omega) (by omega) (by omega) (by omega) (by omega) (by omega) (by omega) (by omega) (by omega) (by omega) (by omega)
/-- A box whose sixth cell has been written twice. -/
theorem box5 {w1 w4 : World} {b : Nat} {f rd rn rm ra im kd bs st cd rg jm : Int} {u : Value} (hA : ∀ i v, #[.int .i64 f, .int .i64 rd, .int .i64 rn, .int .i64 rm, .int .i64 ra, .int .i64 im, .int .i64 kd, .int .i64 bs, .int .i64 st, .int .i64 cd, .int .i64 rg][i]? = some v → w1.cell? ⟨b, i, none⟩ = some v) (hb : Below (w1.setCell ⟨b, 5, none⟩ u).heap.size (w1.setCell ⟨b, 5, none⟩ u) w4) :
    ∀ i v, #[.int .i64 f, .int .i64 rd, .int .i64 rn, .int .i64 rm, .int .i64 ra, .int .i64 jm, .int .i64 kd, .int .i64 bs, .int .i64 st, .int .i64 cd, .int .i64 rg][i]? = some v → (w4.setCell ⟨b, 5, none⟩ (.int .i64 jm)).cell? ⟨b, i, none⟩ = some v := by
  have hl : b < (w1.setCell ⟨b, 5, none⟩ u).heap.size := by
    have := cell_lt (hA 0 _ rfl)
    simpa [World.setCell] using this
  have q := (bcell hb).1
  have h5 : w4.cell? ⟨b, 5, none⟩ = some u := (q b 5 hl).trans (World.cell?_setCell_same w1 _ u (hA 5 _ rfl))
  intro i v hv
  by_cases hi : i = 5
  · subst hi
    rw [World.cell?_setCell_same w4 _ _ h5]; exact hv
  · rw [World.cell?_setCell_other w4 _ _ _ (by intro e; injection e with _ e2 _; exact hi e2.symm), q b i hl, World.cell?_setCell_other w1 _ _ _ (by intro e; injection e with _ e2 _; exact hi e2.symm)]
    refine hA i v ?_
    rw [← hv]
    have : i < 11 := by
      rcases Nat.lt_or_ge i 11 with h | h
      · exact h
      · rw [Array.getElem?_eq_none (by simpa using h)] at hv; cases hv
    obtain rfl | rfl | rfl | rfl | rfl | rfl | rfl | rfl | rfl | rfl : i = 0 ∨ i = 1 ∨ i = 2 ∨ i = 3 ∨ i = 4 ∨ i = 6 ∨ i = 7 ∨ i = 8 ∨ i = 9 ∨ i = 10 := by omega
    all_goals rfl

theorem refWord_13 (f rd rn rm ra im kd bs st cd rg : Int) (h : right f rd rn rm ra im kd bs st cd rg = true) (g0 : -9223372036854775808 ≤ rg) (g1 : rg ≤ 9223372036854775807) (hs13 : shp f = 13) (w : World) :
    Calls Tryd.prog 14 #[.agg #[.int .i64 f, .int .i64 rd, .int .i64 rn, .int .i64 rm, .int .i64 ra, .int .i64 im, .int .i64 kd, .int .i64 bs, .int .i64 st, .int .i64 cd, .int .i64 rg]] w fun e w' => e = .returned (.int .u32 (wd f rd rn rm ra im kd bs st cd rg)) ∧ Below w.heap.size w w' := by
  obtain ⟨⟨i0, i1⟩, _⟩ := at_own h g0 g1
  have hbt := (apart_of i0 i1).2.2.1.le
  have HW : Hid (wd f rd rn rm ra im kd bs st cd rg = bts f) := by show bts f + add (shp f) rd rn rm ra im kd bs st cd rg = bts f; rw [hs13]; show bts f + 0 = _; omega
  have hB := (Below.refl w.heap.size w).alloc (Nat.le_refl _) (.cells #[.int .i64 f, .int .i64 rd, .int .i64 rn, .int .i64 rm, .int .i64 ra, .int .i64 im, .int .i64 kd, .int .i64 bs, .int .i64 st, .int .i64 cd, .int .i64 rg] 34)
  go_enter Tryd.func14, Tryd.ntmps14
  go_wp2_with fail
  refine (refShape_any _ _).mono ?_
  rintro e w1 ⟨rfl, hb1⟩
  obtain ⟨hc, hf⟩ := bcell hb1
  go_wp2_with fail
  refine (refBits_any _ _).mono ?_
  rintro e w2 ⟨rfl, hb2⟩
  have hb3 := next hb1 hb2
  clear hb1 hb2 hc hf
  go_wp2_with (first | (go_at_call 32; refine (fields_13 _).mono ?_; rintro e w3 ⟨rfl, rfl⟩))
  refine wp_loop_rounds 1 ?_
  rw [rounds_succ]
  go_wp2_with fail
  go_ret
  exact ⟨ret_int (by rw [HW.out]), hB.trans (hb3.mono hB.size)⟩

set_option maxHeartbeats 4000000 in
theorem refWord_x (f rd rn rm ra im kd bs st cd rg : Int) (h : right f rd rn rm ra im kd bs st cd rg = true) (g0 : -9223372036854775808 ≤ rg) (g1 : rg ≤ 9223372036854775807) (hs34 : shp f ≠ 34) (hs13 : shp f ≠ 13) (w : World) :
    Calls Tryd.prog 14 #[.agg #[.int .i64 f, .int .i64 rd, .int .i64 rn, .int .i64 rm, .int .i64 ra, .int .i64 im, .int .i64 kd, .int .i64 bs, .int .i64 st, .int .i64 cd, .int .i64 rg]] w fun e w' => e = .returned (.int .u32 (wd f rd rn rm ra im kd bs st cd rg)) ∧ Below w.heap.size w w' := by
  obtain ⟨⟨i0, i1⟩, _⟩ := at_own h g0 g1
  have hsb := shp_yes (isF_yes ⟨i0, i1⟩)
  have hbt := (apart_of i0 i1).2.2.1.le
  have hn34 : (shp f == 34) = false := by rw [beq_eq_false_iff_ne]; exact hs34
  have HF := hide (field_bd h g0 g1)
  have HS := hide (steps_of i0 i1 [rd, rn, rm, ra, im, kd, bs, st, cd, rg])
  have HW : Hid (bts f + sumK (fl (shp f)) [rd, rn, rm, ra, im, kd, bs, st, cd, rg] (fl (shp f)).length = wd f rd rn rm ra im kd bs st cd rg) := by
    have := sum_all h g0 g1
    unfold gF at this; rw [if_neg hs34] at this
    show _ = bts f + _; rw [this]
  have hB := (Below.refl w.heap.size w).alloc (Nat.le_refl _) (.cells #[.int .i64 f, .int .i64 rd, .int .i64 rn, .int .i64 rm, .int .i64 ra, .int .i64 im, .int .i64 kd, .int .i64 bs, .int .i64 st, .int .i64 cd, .int .i64 rg] 34)
  go_enter Tryd.func14, Tryd.ntmps14
  go_wp2_with fail
  refine (refShape_any _ _).mono ?_
  rintro e w1 ⟨rfl, hb1⟩
  obtain ⟨hc, hf⟩ := bcell hb1
  go_wp2_with fail
  refine (refBits_any _ _).mono ?_
  rintro e w2 ⟨rfl, hb2⟩
  have hb3 := next hb1 hb2
  clear hb1 hb2 hc hf
  go_wp2_with fail
  refine (fields_any _ hsb.1 hsb.2.1 hs13 _).mono ?_
  rintro e w3 ⟨rfl, hT, hz, hb4⟩
  have hb5 := next hb3 hb4
  have hX : ∀ i v, #[.int .i64 f, .int .i64 rd, .int .i64 rn, .int .i64 rm, .int .i64 ra, .int .i64 im, .int .i64 kd, .int .i64 bs, .int .i64 st, .int .i64 cd, .int .i64 rg][i]? = some v → w3.cell? ⟨w.heap.size, i, none⟩ = some v := fun i v hv => Inst.box_of hb5 hv
  have hw3 : w.heap.size < w3.heap.size := by have := hb5.size; simp at this; omega
  have hB3 := hB.trans (hb5.mono hB.size)
  clear hb3 hb4 hb5 hB hsb hn34 hs34 hs13 i0 i1 g0 g1
  generalize w2.heap.size = b1 at *
  generalize fl (shp f) = l at *
  obtain ⟨s, hs0, HSt⟩ : ∃ s : Nat → Int, s = (fun k => bts f + sumK l [rd, rn, rm, ra, im, kd, bs, st, cd, rg] k) ∧ Hid (Steps l [rd, rn, rm, ra, im, kd, bs, st, cd, rg] l.length s) := ⟨_, rfl, HS⟩
  have es0 : bts f = s 0 := by rw [hs0]; show _ = bts f + 0; rw [Int.add_zero]
  have HW2 : Hid (s l.length = wd f rd rn rm ra im kd bs st cd rg) := by rw [hs0]; exact HW
  clear HW HS hs0
  rw [es0]
  obtain ⟨n, hn⟩ : ∃ n, n = l.length := ⟨_, rfl⟩
  rw [← hn] at HSt HW2 ⊢
  have HLn := hide hn.symm
  clear hn
  have hn7 := HSt.out.small
  go_wp2_with fail
  go_loopw [4, 6] (fun x i wr => ∃ k : Nat, k ≤ n ∧ i = .int .i64 k ∧ x = .int .i64 (s k) ∧ Below w3.heap.size w3 wr) (fun _ i _ => n - (intOf i).toNat)
  case atStart => exact ⟨0, Nat.zero_le _, rfl, rfl, Below.refl _ _⟩
  case round =>
    obtain ⟨k, hk, rfl, rfl, hbr⟩ := hrel
    have hsk := HSt.out.bd k hk
    by_cases hkn : k = n
    · subst hkn
      go_wp2_with fail
      go_ret
      exact ⟨ret_int (by rw [← HW2.out]), hB3.trans (hbr.mono (by omega))⟩
    · have hlt : k < n := by omega
      obtain ⟨e0, e0', e1, e1', e2, e2', e3, e3', e4⟩ := HSt.out.ent k hlt
      have hno := HSt.out.none k hlt
      have HST : Hid (s (k + 1) = s k + pc l [rd, rn, rm, ra, im, kd, bs, st, cd, rg] k * pw (ent l k 2)) := HSt.out.step k hlt
      have HPC : Hid (pc l [rd, rn, rm, ra, im, kd, bs, st, cd, rg] k = bt ([rd, rn, rm, ra, im, kd, bs, st, cd, rg].getD (ent l k 0).toNat 0) (ent l k 1) (ent l k 3)) := rfl
      have hkl : k < l.length := by rw [unhide HLn]; exact hlt
      have t0 : w3.cell? ⟨b1, k * 4, none⟩ = some (.int .i64 (ent l k 0)) := by have := hT k 0 hkl (by decide); rw [Nat.mul_comm] at this; exact this
      have t1 : w3.cell? ⟨b1, k * 4 + 1, none⟩ = some (.int .i64 (ent l k 1)) := by have := hT k 1 hkl (by decide); rw [Nat.mul_comm] at this; exact this
      have t2 : w3.cell? ⟨b1, k * 4 + 2, none⟩ = some (.int .i64 (ent l k 2)) := by have := hT k 2 hkl (by decide); rw [Nat.mul_comm] at this; exact this
      have t3 : w3.cell? ⟨b1, k * 4 + 3, none⟩ = some (.int .i64 (ent l k 3)) := by have := hT k 3 hkl (by decide); rw [Nat.mul_comm] at this; exact this
      have HFk := (unhide HF) (ent l k 0).toNat
      generalize ent l k 0 = a0 at *
      generalize ent l k 1 = a1 at *
      generalize ent l k 2 = a2 at *
      generalize ent l k 3 = a3 at *
      have hT' : w3.cell? ⟨b1, k * 4, none⟩ = some (.int .i64 a0) ∧ w3.cell? ⟨b1, k * 4 + 1, none⟩ = some (.int .i64 a1) ∧ w3.cell? ⟨b1, k * 4 + 2, none⟩ = some (.int .i64 a2) ∧ w3.cell? ⟨b1, k * 4 + 3, none⟩ = some (.int .i64 a3) := ⟨t0, t1, t2, t3⟩
      clear t0 t1 t2 t3
      obtain ⟨gv, hgv⟩ : ∃ gv, gv = [rd, rn, rm, ra, im, kd, bs, st, cd, rg].getD a0.toNat 0 := ⟨_, rfl⟩
      have hget : ∀ W, Calls Tryd.prog 33 #[.agg #[.int .i64 f, .int .i64 rd, .int .i64 rn, .int .i64 rm, .int .i64 ra, .int .i64 im, .int .i64 kd, .int .i64 bs, .int .i64 st, .int .i64 cd, .int .i64 rg], .int .i64 a0] W fun e w' => e = .returned (.int .i64 gv) ∧ Below W.heap.size W w' := by
        intro W; rw [hgv]; exact get_any _ _ _ _ _ _ _ _ _ _ _ _ e0 e0' _
      rw [← hgv] at HFk HPC
      have hn1 := HFk.1
      have hn2 := HFk.2
      clear HFk hgv
      go_wp2_with fail
      go_region_held3 (fun w' => w'.cell? ⟨w.heap.size, 0, none⟩ = some (.int .i64 f) ∧ w'.cell? ⟨w.heap.size, 1, none⟩ = some (.int .i64 rd) ∧ w'.cell? ⟨w.heap.size, 2, none⟩ = some (.int .i64 rn) ∧ w'.cell? ⟨w.heap.size, 3, none⟩ = some (.int .i64 rm) ∧ w'.cell? ⟨w.heap.size, 4, none⟩ = some (.int .i64 ra) ∧ w'.cell? ⟨w.heap.size, 5, none⟩ = some (.int .i64 im) ∧ w'.cell? ⟨w.heap.size, 6, none⟩ = some (.int .i64 kd) ∧ w'.cell? ⟨w.heap.size, 7, none⟩ = some (.int .i64 bs) ∧ w'.cell? ⟨w.heap.size, 8, none⟩ = some (.int .i64 st) ∧ w'.cell? ⟨w.heap.size, 9, none⟩ = some (.int .i64 cd) ∧ w'.cell? ⟨w.heap.size, 10, none⟩ = some (.int .i64 rg) ∧ w'.cell? ⟨b1, k * 4, none⟩ = some (.int .i64 a0) ∧ w'.cell? ⟨b1, k * 4 + 1, none⟩ = some (.int .i64 a1) ∧ w'.cell? ⟨b1, k * 4 + 2, none⟩ = some (.int .i64 a2) ∧ w'.cell? ⟨b1, k * 4 + 3, none⟩ = some (.int .i64 a3)) (first
        | exact keepS hw3 hz hX hT' (next (next hbr (drew_below _)) hb6).drew
        | exact keepS hw3 hz hX hT' (next (next hbr (drew_below _)) hb6)
        | exact keepS hw3 hz hX hT' (next hbr (drew_below _))) (first
        | (go_at_call 33; refine (hget _).mono ?_; rintro e w6 ⟨rfl, hb6⟩)
        | (go_at_call 29; refine (bits_any _ _ _ hn1 hn2 (by omega) (by omega) (by omega) (by omega) _).mono ?_; rintro e w7 ⟨rfl, rfl⟩))
      go_wp2_with fail
      have hb7 : Below w3.heap.size w3 w6.drew := (next (next hbr (drew_below _)) hb6).drew
      have hTW := (keepS hw3 hz hX hT' hb7).2
      clear hb6 hbr
      generalize w6.drew = W at *
      obtain ⟨p, hp⟩ : ∃ p, p = bt gv a1 a3 := ⟨_, rfl⟩
      have hpb : 0 ≤ p ∧ p < pw a3 := by rw [hp]; exact bt_bd _ _ _
      have HP : Hid (s (k + 1) = s k + p * pw a2) := by rw [HST.out, HPC.out, ← hp]; exact rfl
      rw [← hp]
      clear hp HST HPC hn1 hn2
      have hpa := pw_bd a3 (by omega)
      have hp12 := pw_le a3 (by omega) e3'
      obtain ⟨y0, y1, y2, y3⟩ := hTW
      go_quiet (first | (go_at_call 29; exact quietDrew1 (bits_any _ _ _ (by omega) (by omega) (by omega) (by omega) (by omega) (by omega) _)))
      have hb8 : Below w3.heap.size w3 (W.drewN nq) := next hb7 (belowDrewN _ _)
      clear hb7 y0 y1 y2 y3
      generalize W.drewN nq = W2 at *
      rw [hno]
      clear hno
      go_wp2_with fail
      go_loopw [4, 9] (fun x i wr => ∃ b : Nat, (b : Int) ≤ a3 ∧ i = .int .i64 b ∧ Below w3.heap.size w3 wr ∧ ∃ v : Int, x = .int .i64 v ∧ 0 ≤ v ∧ v ≤ 8589934592 ∧ Hid (v = s k + p % pw b * pw a2)) (fun _ i _ => a3.toNat - (intOf i).toNat)
      case atStart => exact ⟨0, by omega, rfl, hb8, s k, rfl, by omega, by omega, by show s k = s k + p % 1 * pw a2; rw [Int.emod_one, Int.zero_mul, Int.add_zero]⟩
      case round =>
        obtain ⟨b, hb, rfl, hbw, v, rfl, v0, v1, hv⟩ := hrel
        obtain ⟨y0, y1, y2, y3⟩ := (keepS hw3 hz hX hT' hbw).2
        by_cases hb3 : (b : Int) = a3
        · have HQ : Hid (v = s (k + 1)) := by rw [hv.out, HP.out, hb3, Int.emod_eq_of_lt hpb.1 hpb.2]; exact rfl
          go_wp2_with fail
          go_roundw
          case rel => exact ⟨k + 1, by omega, by go_num, by rw [HQ.out], hbw⟩
          case measure => simp [intOf]; omega
        · have hb4 : (b : Int) < a3 := by omega
          have hz0 : bt 0 (b : Int) 1 = 0 := by unfold bt; rw [if_neg (by decide), Int.zero_ediv, Int.zero_emod]
          have hbb := in_bd p a2 a3 (b + 1) hpb.1 hpb.2 e2 (by omega) e4
          have hpb2 := pw_bd (a2 + (b : Int)) (by omega)
          by_cases h1 : bt p (b : Int) 1 = 1
          · have HI := hide (in_step1 p a2 b h1 hpb.1 e2)
            go_wp2_with (first | (go_at_call 29; refine (bits_any _ _ _ (by omega) (by omega) (by omega) (by omega) (by omega) (by omega) _).mono ?_; rintro e w7 ⟨rfl, rfl⟩) | (go_at_call 34; refine (power_any _ (by omega) (by omega) _).mono ?_; rintro e w8 ⟨rfl, rfl⟩))
            have HV : Hid (v + pw (a2 + (b : Int)) = s k + p % pw ((b + 1 : Nat) : Int) * pw a2) := by rw [unhide HI, hv.out, Int.add_assoc]; exact rfl
            have hvb : v + pw (a2 + (b : Int)) ≤ 8589934592 := by rw [HV.out]; omega
            go_roundw
            case rel => first | exact ⟨b + 1, by omega, by go_num, hbw.drew.drew, v + pw (a2 + (b : Int)), rfl, by omega, hvb, HV⟩ | ((repeat apply Exists.intro); exact ⟨⟨b + 1, by omega, by go_num, hbw.drew.drew, v + pw (a2 + (b : Int)), rfl, by omega, hvb, HV⟩, rfl⟩)
            case measure => simp [intOf]; omega
          · have h0 : bt p (b : Int) 1 = 0 := by have := bt_bit p (b : Int); omega
            have HI := hide (in_step0 p b h0 hpb.1)
            clear h1
            go_wp2_with (first | (go_at_call 29; refine (bits_any _ _ _ (by omega) (by omega) (by omega) (by omega) (by omega) (by omega) _).mono ?_; rintro e w7 ⟨rfl, rfl⟩))
            go_roundw
            case rel => first | exact ⟨b + 1, by omega, by go_num, hbw.drew, v, rfl, v0, v1, by rw [unhide HI]; exact hv⟩ | ((repeat apply Exists.intro); exact ⟨⟨b + 1, by omega, by go_num, hbw.drew, v, rfl, v0, v1, by rw [unhide HI]; exact hv⟩, rfl⟩)
            case measure => simp [intOf]; omega

set_option maxHeartbeats 4000000 in
theorem refWord_34 (f rd rn rm ra im kd bs st cd rg : Int) (h : right f rd rn rm ra im kd bs st cd rg = true) (g0 : -9223372036854775808 ≤ rg) (g1 : rg ≤ 9223372036854775807) (hs34 : shp f = 34) (w : World) :
    Calls Tryd.prog 14 #[.agg #[.int .i64 f, .int .i64 rd, .int .i64 rn, .int .i64 rm, .int .i64 ra, .int .i64 im, .int .i64 kd, .int .i64 bs, .int .i64 st, .int .i64 cd, .int .i64 rg]] w fun e w' => e = .returned (.int .u32 (wd f rd rn rm ra im kd bs st cd rg)) ∧ Below w.heap.size w w' := by
  obtain ⟨⟨i0, i1⟩, _⟩ := at_own h g0 g1
  have hbt := (apart_of i0 i1).2.2.1.le
  have him := (field_all h g0 g1).2.2.2.2.1
  have hnb : 0 ≤ bt im 0 25 ∧ bt im 0 25 ≤ 33554431 := by
    have := bt_bd im 0 25
    have e : pw 25 = 33554432 := by decide
    rw [e] at this; omega
  have htn := tn_parts (bt im 0 25) hnb.1 hnb.2
  have hjm : 0 ≤ tn (bt im 0 25) ∧ tn (bt im 0 25) ≤ 33554431 := ⟨htn.1, htn.2.1⟩
  clear htn
  have HF := hide (field_bd34 h g0 g1 _ hjm)
  have HS := hide (steps_of i0 i1 [rd, rn, rm, ra, tn (bt im 0 25), kd, bs, st, cd, rg])
  have HW : Hid (bts f + sumK (fl (shp f)) [rd, rn, rm, ra, tn (bt im 0 25), kd, bs, st, cd, rg] (fl (shp f)).length = wd f rd rn rm ra im kd bs st cd rg) := by
    have := sum_all h g0 g1
    unfold gF at this; rw [if_pos hs34] at this
    show _ = bts f + _; rw [this]
  have HT := turn_any (bt im 0 25) hnb.1 hnb.2
  have HBt : ∀ W, Calls Tryd.prog 29 #[.int .i64 im, .int .i64 0, .int .i64 25] W fun e w' => e = .returned (.int .i64 (bt im 0 25)) ∧ w' = W.drew := fun W => bits_any im 0 25 (by omega) (by omega) (by decide) (by decide) (by decide) (by decide) W
  generalize tn (bt im 0 25) = jm at *
  generalize bt im 0 25 = nm at *
  have hB := (Below.refl w.heap.size w).alloc (Nat.le_refl _) (.cells #[.int .i64 f, .int .i64 rd, .int .i64 rn, .int .i64 rm, .int .i64 ra, .int .i64 im, .int .i64 kd, .int .i64 bs, .int .i64 st, .int .i64 cd, .int .i64 rg] 34)
  go_enter Tryd.func14, Tryd.ntmps14
  go_wp2_with fail
  refine (refShape_any _ _).mono ?_
  rintro e w1 ⟨rfl, hb1⟩
  have hA : ∀ i v, #[.int .i64 f, .int .i64 rd, .int .i64 rn, .int .i64 rm, .int .i64 ra, .int .i64 im, .int .i64 kd, .int .i64 bs, .int .i64 st, .int .i64 cd, .int .i64 rg][i]? = some v → w1.cell? ⟨w.heap.size, i, none⟩ = some v := fun i v hv => Inst.box_of hb1 hv
  have hsz : w.heap.size < w1.heap.size := by have := hb1.size; simp at this; omega
  have hB1 := hB.trans (hb1.mono hB.size)
  obtain ⟨hc, hf⟩ := bcell hb1
  go_wp2_with (first | (go_at_call 29; refine (HBt _).mono ?_; rintro e w' ⟨rfl, rfl⟩))
  refine (HT _).mono ?_
  rintro e w4 ⟨rfl, hb4⟩
  have hb4' := next (drew_below (w1.setCell ⟨w.heap.size, 5, none⟩ (.int .i64 nm))) hb4
  have hX2 := box5 (jm := jm) hA hb4'
  have hB4 : Below w.heap.size w (w4.setCell ⟨w.heap.size, 5, none⟩ (.int .i64 jm)) := ((hB1.setCell (p := ⟨w.heap.size, 5, none⟩) (Nat.le_refl _) (.int .i64 nm)).trans (hb4'.mono (by simp [World.setCell]; omega))).setCell (Nat.le_refl _) _
  have hsz4 : w.heap.size < w4.heap.size := by have := hb4'.size; simp [World.setCell] at this; omega
  obtain ⟨hc4, hf4⟩ := bcell hb4
  go_wp2_with fail
  refine (refBits_any _ _).mono ?_
  rintro e w2 ⟨rfl, hb2⟩
  have hY : w.heap.size < (w4.setCell ⟨w.heap.size, 5, none⟩ (.int .i64 jm)).heap.size := by simpa [World.setCell] using hsz4
  clear hc hf hc4 hf4 hb4 hb4' hA hb1 hB1
  generalize w4.setCell ⟨w.heap.size, 5, none⟩ (.int .i64 jm) = Y at *
  go_wp2_with fail
  rw [hs34] at HS HW
  refine (fields_any _ (by decide) (by decide) (by decide) _).mono ?_
  rintro e w3 ⟨rfl, hT, hz, hb5⟩
  have hb6 := next hb2 hb5
  have hX : ∀ i v, #[.int .i64 f, .int .i64 rd, .int .i64 rn, .int .i64 rm, .int .i64 ra, .int .i64 jm, .int .i64 kd, .int .i64 bs, .int .i64 st, .int .i64 cd, .int .i64 rg][i]? = some v → w3.cell? ⟨w.heap.size, i, none⟩ = some v := fun i v hv => ((bcell hb6).1 _ i hY).trans (hX2 i v hv)
  have hw3 : w.heap.size < w3.heap.size := by have := hb6.size; omega
  have hB3 := hB4.trans (hb6.mono hB4.size)
  clear hb2 hb5 hb6 hB hX2 hY hsz hsz4 hB4 hjm hnb him HT HBt i0 i1 g0 g1
  generalize w2.heap.size = b1 at *
  generalize fl 34 = l at *
  obtain ⟨s, hs0, HSt⟩ : ∃ s : Nat → Int, s = (fun k => bts f + sumK l [rd, rn, rm, ra, jm, kd, bs, st, cd, rg] k) ∧ Hid (Steps l [rd, rn, rm, ra, jm, kd, bs, st, cd, rg] l.length s) := ⟨_, rfl, HS⟩
  have es0 : bts f = s 0 := by rw [hs0]; show _ = bts f + 0; rw [Int.add_zero]
  have HW2 : Hid (s l.length = wd f rd rn rm ra im kd bs st cd rg) := by rw [hs0]; exact HW
  clear HW HS hs0
  rw [es0]
  obtain ⟨n, hn⟩ : ∃ n, n = l.length := ⟨_, rfl⟩
  rw [← hn] at HSt HW2 ⊢
  have HLn := hide hn.symm
  clear hn
  have hn7 := HSt.out.small
  go_wp2_with fail
  go_loopw [4, 6] (fun x i wr => ∃ k : Nat, k ≤ n ∧ i = .int .i64 k ∧ x = .int .i64 (s k) ∧ Below w3.heap.size w3 wr) (fun _ i _ => n - (intOf i).toNat)
  case atStart => exact ⟨0, Nat.zero_le _, rfl, rfl, Below.refl _ _⟩
  case round =>
    obtain ⟨k, hk, rfl, rfl, hbr⟩ := hrel
    have hsk := HSt.out.bd k hk
    by_cases hkn : k = n
    · subst hkn
      go_wp2_with fail
      go_ret
      exact ⟨ret_int (by rw [← HW2.out]), hB3.trans (hbr.mono (by omega))⟩
    · have hlt : k < n := by omega
      obtain ⟨e0, e0', e1, e1', e2, e2', e3, e3', e4⟩ := HSt.out.ent k hlt
      have hno := HSt.out.none k hlt
      have HST : Hid (s (k + 1) = s k + pc l [rd, rn, rm, ra, jm, kd, bs, st, cd, rg] k * pw (ent l k 2)) := HSt.out.step k hlt
      have HPC : Hid (pc l [rd, rn, rm, ra, jm, kd, bs, st, cd, rg] k = bt ([rd, rn, rm, ra, jm, kd, bs, st, cd, rg].getD (ent l k 0).toNat 0) (ent l k 1) (ent l k 3)) := rfl
      have hkl : k < l.length := by rw [unhide HLn]; exact hlt
      have t0 : w3.cell? ⟨b1, k * 4, none⟩ = some (.int .i64 (ent l k 0)) := by have := hT k 0 hkl (by decide); rw [Nat.mul_comm] at this; exact this
      have t1 : w3.cell? ⟨b1, k * 4 + 1, none⟩ = some (.int .i64 (ent l k 1)) := by have := hT k 1 hkl (by decide); rw [Nat.mul_comm] at this; exact this
      have t2 : w3.cell? ⟨b1, k * 4 + 2, none⟩ = some (.int .i64 (ent l k 2)) := by have := hT k 2 hkl (by decide); rw [Nat.mul_comm] at this; exact this
      have t3 : w3.cell? ⟨b1, k * 4 + 3, none⟩ = some (.int .i64 (ent l k 3)) := by have := hT k 3 hkl (by decide); rw [Nat.mul_comm] at this; exact this
      have HFk := (unhide HF) (ent l k 0).toNat
      generalize ent l k 0 = a0 at *
      generalize ent l k 1 = a1 at *
      generalize ent l k 2 = a2 at *
      generalize ent l k 3 = a3 at *
      have hT' : w3.cell? ⟨b1, k * 4, none⟩ = some (.int .i64 a0) ∧ w3.cell? ⟨b1, k * 4 + 1, none⟩ = some (.int .i64 a1) ∧ w3.cell? ⟨b1, k * 4 + 2, none⟩ = some (.int .i64 a2) ∧ w3.cell? ⟨b1, k * 4 + 3, none⟩ = some (.int .i64 a3) := ⟨t0, t1, t2, t3⟩
      clear t0 t1 t2 t3
      obtain ⟨gv, hgv⟩ : ∃ gv, gv = [rd, rn, rm, ra, jm, kd, bs, st, cd, rg].getD a0.toNat 0 := ⟨_, rfl⟩
      have hget : ∀ W, Calls Tryd.prog 33 #[.agg #[.int .i64 f, .int .i64 rd, .int .i64 rn, .int .i64 rm, .int .i64 ra, .int .i64 jm, .int .i64 kd, .int .i64 bs, .int .i64 st, .int .i64 cd, .int .i64 rg], .int .i64 a0] W fun e w' => e = .returned (.int .i64 gv) ∧ Below W.heap.size W w' := by
        intro W; rw [hgv]; exact get_any _ _ _ _ _ _ _ _ _ _ _ _ e0 e0' _
      rw [← hgv] at HFk HPC
      have hn1 := HFk.1
      have hn2 := HFk.2
      clear HFk hgv
      go_wp2_with fail
      go_region_held3 (fun w' => w'.cell? ⟨w.heap.size, 0, none⟩ = some (.int .i64 f) ∧ w'.cell? ⟨w.heap.size, 1, none⟩ = some (.int .i64 rd) ∧ w'.cell? ⟨w.heap.size, 2, none⟩ = some (.int .i64 rn) ∧ w'.cell? ⟨w.heap.size, 3, none⟩ = some (.int .i64 rm) ∧ w'.cell? ⟨w.heap.size, 4, none⟩ = some (.int .i64 ra) ∧ w'.cell? ⟨w.heap.size, 5, none⟩ = some (.int .i64 jm) ∧ w'.cell? ⟨w.heap.size, 6, none⟩ = some (.int .i64 kd) ∧ w'.cell? ⟨w.heap.size, 7, none⟩ = some (.int .i64 bs) ∧ w'.cell? ⟨w.heap.size, 8, none⟩ = some (.int .i64 st) ∧ w'.cell? ⟨w.heap.size, 9, none⟩ = some (.int .i64 cd) ∧ w'.cell? ⟨w.heap.size, 10, none⟩ = some (.int .i64 rg) ∧ w'.cell? ⟨b1, k * 4, none⟩ = some (.int .i64 a0) ∧ w'.cell? ⟨b1, k * 4 + 1, none⟩ = some (.int .i64 a1) ∧ w'.cell? ⟨b1, k * 4 + 2, none⟩ = some (.int .i64 a2) ∧ w'.cell? ⟨b1, k * 4 + 3, none⟩ = some (.int .i64 a3)) (first
        | exact keepS hw3 hz hX hT' (next (next hbr (drew_below _)) hb6).drew
        | exact keepS hw3 hz hX hT' (next (next hbr (drew_below _)) hb6)
        | exact keepS hw3 hz hX hT' (next hbr (drew_below _))) (first
        | (go_at_call 33; refine (hget _).mono ?_; rintro e w6 ⟨rfl, hb6⟩)
        | (go_at_call 29; refine (bits_any _ _ _ hn1 hn2 (by omega) (by omega) (by omega) (by omega) _).mono ?_; rintro e w7 ⟨rfl, rfl⟩))
      go_wp2_with fail
      have hb7 : Below w3.heap.size w3 w6.drew := (next (next hbr (drew_below _)) hb6).drew
      have hTW := (keepS hw3 hz hX hT' hb7).2
      clear hb6 hbr
      generalize w6.drew = W at *
      obtain ⟨p, hp⟩ : ∃ p, p = bt gv a1 a3 := ⟨_, rfl⟩
      have hpb : 0 ≤ p ∧ p < pw a3 := by rw [hp]; exact bt_bd _ _ _
      have HP : Hid (s (k + 1) = s k + p * pw a2) := by rw [HST.out, HPC.out, ← hp]; exact rfl
      rw [← hp]
      clear hp HST HPC hn1 hn2
      have hpa := pw_bd a3 (by omega)
      have hp12 := pw_le a3 (by omega) e3'
      obtain ⟨y0, y1, y2, y3⟩ := hTW
      go_quiet (first | (go_at_call 29; exact quietDrew1 (bits_any _ _ _ (by omega) (by omega) (by omega) (by omega) (by omega) (by omega) _)))
      have hb8 : Below w3.heap.size w3 (W.drewN nq) := next hb7 (belowDrewN _ _)
      clear hb7 y0 y1 y2 y3
      generalize W.drewN nq = W2 at *
      rw [hno]
      clear hno
      go_wp2_with fail
      go_loopw [4, 9] (fun x i wr => ∃ b : Nat, (b : Int) ≤ a3 ∧ i = .int .i64 b ∧ Below w3.heap.size w3 wr ∧ ∃ v : Int, x = .int .i64 v ∧ 0 ≤ v ∧ v ≤ 8589934592 ∧ Hid (v = s k + p % pw b * pw a2)) (fun _ i _ => a3.toNat - (intOf i).toNat)
      case atStart => exact ⟨0, by omega, rfl, hb8, s k, rfl, by omega, by omega, by show s k = s k + p % 1 * pw a2; rw [Int.emod_one, Int.zero_mul, Int.add_zero]⟩
      case round =>
        obtain ⟨b, hb, rfl, hbw, v, rfl, v0, v1, hv⟩ := hrel
        obtain ⟨y0, y1, y2, y3⟩ := (keepS hw3 hz hX hT' hbw).2
        by_cases hb3 : (b : Int) = a3
        · have HQ : Hid (v = s (k + 1)) := by rw [hv.out, HP.out, hb3, Int.emod_eq_of_lt hpb.1 hpb.2]; exact rfl
          go_wp2_with fail
          go_roundw
          case rel => exact ⟨k + 1, by omega, by go_num, by rw [HQ.out], hbw⟩
          case measure => simp [intOf]; omega
        · have hb4 : (b : Int) < a3 := by omega
          have hz0 : bt 0 (b : Int) 1 = 0 := by unfold bt; rw [if_neg (by decide), Int.zero_ediv, Int.zero_emod]
          have hbb := in_bd p a2 a3 (b + 1) hpb.1 hpb.2 e2 (by omega) e4
          have hpb2 := pw_bd (a2 + (b : Int)) (by omega)
          by_cases h1 : bt p (b : Int) 1 = 1
          · have HI := hide (in_step1 p a2 b h1 hpb.1 e2)
            go_wp2_with (first | (go_at_call 29; refine (bits_any _ _ _ (by omega) (by omega) (by omega) (by omega) (by omega) (by omega) _).mono ?_; rintro e w7 ⟨rfl, rfl⟩) | (go_at_call 34; refine (power_any _ (by omega) (by omega) _).mono ?_; rintro e w8 ⟨rfl, rfl⟩))
            have HV : Hid (v + pw (a2 + (b : Int)) = s k + p % pw ((b + 1 : Nat) : Int) * pw a2) := by rw [unhide HI, hv.out, Int.add_assoc]; exact rfl
            have hvb : v + pw (a2 + (b : Int)) ≤ 8589934592 := by rw [HV.out]; omega
            go_roundw
            case rel => first | exact ⟨b + 1, by omega, by go_num, hbw.drew.drew, v + pw (a2 + (b : Int)), rfl, by omega, hvb, HV⟩ | ((repeat apply Exists.intro); exact ⟨⟨b + 1, by omega, by go_num, hbw.drew.drew, v + pw (a2 + (b : Int)), rfl, by omega, hvb, HV⟩, rfl⟩)
            case measure => simp [intOf]; omega
          · have h0 : bt p (b : Int) 1 = 0 := by have := bt_bit p (b : Int); omega
            have HI := hide (in_step0 p b h0 hpb.1)
            clear h1
            go_wp2_with (first | (go_at_call 29; refine (bits_any _ _ _ (by omega) (by omega) (by omega) (by omega) (by omega) (by omega) _).mono ?_; rintro e w7 ⟨rfl, rfl⟩))
            go_roundw
            case rel => first | exact ⟨b + 1, by omega, by go_num, hbw.drew, v, rfl, v0, v1, by rw [unhide HI]; exact hv⟩ | ((repeat apply Exists.intro); exact ⟨⟨b + 1, by omega, by go_num, hbw.drew, v, rfl, v0, v1, by rw [unhide HI]; exact hv⟩, rfl⟩)
            case measure => simp [intOf]; omega

theorem refWord_any (f rd rn rm ra im kd bs st cd rg : Int) (h : right f rd rn rm ra im kd bs st cd rg = true) (g0 : -9223372036854775808 ≤ rg) (g1 : rg ≤ 9223372036854775807) (w : World) :
    Calls Tryd.prog 14 #[.agg #[.int .i64 f, .int .i64 rd, .int .i64 rn, .int .i64 rm, .int .i64 ra, .int .i64 im, .int .i64 kd, .int .i64 bs, .int .i64 st, .int .i64 cd, .int .i64 rg]] w fun e w' => e = .returned (.int .u32 (wd f rd rn rm ra im kd bs st cd rg)) ∧ Below w.heap.size w w' := by
  by_cases h34 : shp f = 34
  · exact refWord_34 f rd rn rm ra im kd bs st cd rg h g0 g1 h34 w
  · by_cases h13 : shp f = 13
    · exact refWord_13 f rd rn rm ra im kd bs st cd rg h g0 g1 h13 w
    · exact refWord_x f rd rn rm ra im kd bs st cd rg h g0 g1 h34 h13 w

end Go.Proofs.YtjcoihbhgedgiaaDoor.Code
