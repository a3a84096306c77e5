/- The document's example of layer 9 is true. -/
import Derived.Test.YtcplkdiieeefiaaDoorLexRow
import Derived.Lib.SlBytesConst
set_option linter.unusedVariables false
set_option linter.unusedSimpArgs false
namespace Go.Proofs.YtcplkdiieeefiaaDoor.Lex
open Go.RowKit

def exB : List UInt8 := [120, 60, 60, 60, 48, 120, 49, 102, 47, 47, 121]
def exT : List T := [⟨1, 0, [120], 0⟩, ⟨3, 1, [60, 60, 60], 0⟩, ⟨2, 4, [48, 120, 49, 102], 31⟩, ⟨4, 11, [], 0⟩]
theorem ex_toks : lexed exB = .ok exT := by
  have e0 : toks exB 0 = pre [⟨1, 0, [120], 0⟩] (toks (exB.drop 1) 1) := toks_at_good exB 0 (by decide) (by decide) (by decide)
  have e1 : toks (exB.drop 1) 1 = pre [⟨3, 1, [60, 60, 60], 0⟩] (toks (exB.drop 4) 4) := toks_at_good exB 1 (by decide) (by decide) (by decide)
  have e2 : toks (exB.drop 4) 4 = pre [⟨2, 4, [48, 120, 49, 102], 31⟩] (toks (exB.drop 11) 11) := toks_at_good exB 4 (by decide) (by decide) (by decide)
  have e3 : toks (exB.drop 11) 11 = .ok [⟨4, 11, [], 0⟩] := toks_at_end exB 11 (by decide)
  unfold lexed
  rw [if_neg (by decide), e0, e1, e2, e3]
  rfl

theorem src_new (l : List UInt8) (w : World) (fr : Nat × Nat) : Src (w.alloc (.cells (l.map fun c => Value.int .u8 c.toNat).toArray 5 fr)) (some ⟨w.heap.size, 0, none⟩) l.length l := by
  refine ⟨rfl, .inr ⟨_, 0, rfl, by simp, fun i hi => ?_⟩⟩
  rw [Nat.zero_add, World.cell?_alloc_mark w _ _ fr i]
  simp [byt, List.getD, List.getElem?_eq_getElem hi]

set_option maxHeartbeats 2000000 in
theorem anchor9_any (w : World) (hS : Sig w) : Calls Tryd.prog 8 #[] w fun e w' => e = .returned (.bool true) ∧ Below w.heap.size w w' := by
  have kc := fun (w : World) (C : Array Value) (n c : Nat) => Lib.run_convert_bytes_const (P := Tryd.prog) w 22 5 C n c Tryd.underlying22 Tryd.underlying5
  have hb0 := (Below.refl w.heap.size w).alloc (Nat.le_refl _) (.cells #[.int .u8 120, .int .u8 60, .int .u8 60, .int .u8 60, .int .u8 48, .int .u8 120, .int .u8 49, .int .u8 102, .int .u8 47, .int .u8 47, .int .u8 121] 5 (11, 12))
  have hT := Tokens_any exB (some ⟨w.heap.size, 0, none⟩) 11 11 _ (hS.below hb0) (src_new exB w (11, 12)) (by unfold maxLen; omega)
  have s1 : (S [60, 60, 60]).toList = [60, 60, 60] := by rw [Lib.toList_data]; rfl
  have s2 : (S []).toList = [] := by rw [Lib.toList_data]; rfl
  rw [ex_toks] at hT
  go_enter Tryd.func8, Tryd.ntmps8
  go_wp2_with fail
  refine hT.mono ?_
  rintro e w1 ⟨⟨v, rfl, hown⟩, hb1⟩
  obtain ⟨g, cap, rfl, hge, hR⟩ := owned hown (by simp [exT])
  have hB := hide (hb0.trans (hb1.mono hb0.size))
  have c1 : w1.cell? ⟨g, 6, none⟩ = some (.string (S [60, 60, 60])) := hR.t 1 ⟨3, 1, [60, 60, 60], 0⟩ rfl
  have c2 : w1.cell? ⟨g, 11, none⟩ = some (.int .u32 31) := hR.v 2 ⟨2, 4, [48, 120, 49, 102], 31⟩ rfl
  have c30 : w1.cell? ⟨g, 12, none⟩ = some (.int .i64 4) := hR.k 3 ⟨4, 11, [], 0⟩ rfl
  have c31 : w1.cell? ⟨g, 13, none⟩ = some (.int .i64 11) := hR.a 3 ⟨4, 11, [], 0⟩ rfl
  have c32 : w1.cell? ⟨g, 14, none⟩ = some (.string (S [])) := hR.t 3 ⟨4, 11, [], 0⟩ rfl
  have c33 : w1.cell? ⟨g, 15, none⟩ = some (.int .u32 0) := hR.v 3 ⟨4, 11, [], 0⟩ rfl
  clear hown hb1 hb0 hR hS hT kc
  have h4 : exT.length = 4 := rfl
  go_wp2_with fail
  go_ret
  exact ⟨rfl, hB.out⟩

end Go.Proofs.YtcplkdiieeefiaaDoor.Lex

