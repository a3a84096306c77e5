/- The document's example of layer 10 is true; which words are no names, by the document. -/
import Derived.Test.YtimiglepogeeiaaDoorParseEx
import Derived.Lib.SlBytesConst
import Derived.Great.Walk
import Derived.Deep.QuietTactic
import Derived.BigQuiet
set_option linter.unusedVariables false
set_option linter.unusedSimpArgs false
set_option maxRecDepth 100000
namespace Go.Proofs.YtimiglepogeeiaaDoor.Parse
open Go.RowKit Go.Proofs.YtimiglepogeeiaaDoor.Lex

theorem src_made (l : List UInt8) (w : World) (fr : Nat × Nat) : Src (w.alloc (.cells (l.map fun c => Value.int .u8 c.toNat).toArray 5 fr)) (some ⟨w.heap.size, 0, none⟩) l.length l := by
  refine ⟨rfl, .inr ⟨_, 0, rfl, by simp, fun i hi => ?_⟩⟩
  rw [Nat.zero_add, World.cell?_alloc_mark w _ _ fr i]
  simp [byt, List.getD, List.getElem?_eq_getElem hi]
def exF : List FN := [⟨1, 0, [], 0, 1⟩, ⟨2, 0, [102], 0, 1⟩, ⟨4, 6, [], 0, 1⟩, ⟨8, 7, [120], 0, 1⟩, ⟨19, 10, [43], 0, 2⟩, ⟨14, 9, [], 1, 0⟩, ⟨19, 12, [42], 0, 2⟩, ⟨14, 11, [], 2, 0⟩, ⟨14, 13, [], 3, 0⟩]
theorem ex_flat : flatT exTr = exF := by
  unfold exTr exF
  simp [flatT, flatL]

set_option maxHeartbeats 4000000 in
theorem anchor10_any (w : World) (hS : Sig w) : Calls Tryd.prog 9 #[] w fun e w' => e = .returned (.bool true) ∧ Below w.heap.size w w' := by
  have kc := fun (w : World) (C : Array Value) (n c : Nat) => Lib.run_convert_bytes_const (P := Tryd.prog) w 22 5 C n c Tryd.underlying22 Tryd.underlying5
  have hb0 := (Below.refl w.heap.size w).alloc (Nat.le_refl _) (.cells (exS10.map fun c => Value.int .u8 c.toNat).toArray 5 (16, 17))
  have hT := Parse_any exS10 (some ⟨w.heap.size, 0, none⟩) 16 16 _ (hS.below hb0) (src_made exS10 w (16, 17)) (by simp [maxLen])
  rw [ex_parsed] at hT
  have s1 : (S [43]).toList = [43] := by rw [Lib.toList_data]; rfl
  have s2 : (S [42]).toList = [42] := by rw [Lib.toList_data]; rfl
  have HB0 := hide hb0
  clear hb0
  go_enter Tryd.func9, Tryd.ntmps9
  go_wp2_with fail
  refine hT.mono ?_
  rintro e w1 ⟨⟨x, rfl, hrep⟩, hb1⟩
  unfold exTr at hrep
  obtain ⟨q, n, c, rfl⟩ := Rep.slice hrep
  have hz1 := hb1.size
  simp at hz1
  have hb1' : Below w.heap.size _ w1 := hb1.mono (by simp)
  have HB1 := hide ((HB0.out.trans hb1').alloc (by omega) (.cells #[.int .i64 1, .int .i64 0, .string (S []), .int .u32 0, .slice q n c] 27))
  have hfl := flat_any hrep (fun j hj => hj.2) (w1.alloc (.cells #[.int .i64 1, .int .i64 0, .string (S []), .int .u32 0, .slice q n c] 27)) 0 (by omega) (by show 0 + ((flatT exTr).length : Int) ≤ 20000; rw [ex_flat]; decide) (by simp) (fun j hj => ((Below.refl w1.heap.size w1).alloc (Nat.le_refl _) _).block j hj.2)
  have e9 : flatT (.mk 1 0 [] 0 [.mk 2 0 [102] 0 [.mk 4 6 [] 0 [.mk 8 7 [120] 0 [.mk 19 10 [43] 0 [.mk 14 9 [] 1 [], .mk 19 12 [42] 0 [.mk 14 11 [] 2 [], .mk 14 13 [] 3 []]]]]]]) = exF := ex_flat
  rw [e9] at hfl
  clear hT kc hb1 hb1' hrep e9
  go_wp2_with fail
  refine hfl.mono ?_
  rintro e w2 ⟨s, rfl, hown, hb2⟩
  have hz2 := hb2.size
  simp at hz2
  rcases hown.2 with ⟨_, h0⟩ | ⟨g, cap, cur, rfl, hg, hh, _⟩
  · simp [exF] at h0
  have hcl := hown.cells (g := g) rfl
  have c4 : w2.cell? ⟨g, 22, none⟩ = some (.string (S [43])) := by have := hcl 22 (.string (S [43])) rfl; rw [Addr.add_mid] at this; exact this
  have c6 : w2.cell? ⟨g, 32, none⟩ = some (.string (S [42])) := by have := hcl 32 (.string (S [42])) rfl; rw [Addr.add_mid] at this; exact this
  have hb2' : Below w.heap.size _ w2 := hb2.mono (by simp; omega)
  have HB2 := hide (HB1.out.trans hb2')
  have h9 : exF.length = 9 := rfl
  clear hcl hown hb2 hb2' hh hfl
  go_wp2_with fail
  go_ret
  exact ⟨rfl, HB2.out⟩

end Go.Proofs.YtimiglepogeeiaaDoor.Parse

