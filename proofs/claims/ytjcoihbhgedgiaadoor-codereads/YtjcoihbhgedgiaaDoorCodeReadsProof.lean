/- For every 32 bits w, wide or not, the statement CodeReads returns true: they are read as the instruction that has them, by the document, or as none.
Conditions: none of the arguments; the package variables that the row lists hold what the program lays (the card ties them to its text). -/
import Derived.Test.YtjcoihbhgedgiaaDoorRows
import Derived.WalkKit
import Derived.ProofKit
import Derived.OpenShut
import Derived.Deep.DeepHandedRow
import Derived.Deep.RegionHeld3
import Derived.Test.YtjcoihbhgedgiaaDoorCards
import Derived.Test.YtjcoihbhgedgiaaDoorTie
import Derived.Below
import Derived.OpenShut
import Derived.ProofKit
import Derived.Test.YtjcoihbhgedgiaaDoorCodeLaid
import Derived.Test.YtjcoihbhgedgiaaDoorCodeRefR
import Derived.Test.YtjcoihbhgedgiaaDoorCodeLast
import Derived.Test.YtjcoihbhgedgiaaDoorInstRules
/-! From what lies behind a call to the row's own end: where nothing is asked again of what is handed back. -/
set_option linter.unusedVariables false
namespace Go.Proofs.YtjcoihbhgedgiaaDoor.Ends
open Go.ChangeShapes Go.WideShapes Go.ChangeAt Go.RowKit

theorem post_of_frame {H : Type} {enc : TypeId × Value → H} {P : Program} {f : Func} {s : ChangeSpec} {apart fresh handsOn : Bool} {W W' : World} {args : Array Value} {v : Value} {ds gs : List (DataW H)} {before pa pv : List MemPlace}
    (hW : DataW.Whole enc P f.params.toList s.vars apart W args.toList ds gs before)
    (hres : ∀ (b : Nat) (sp : Nat → Bool) (hd : Bool), DataW.TrodAll enc P W' b sp hd f.resultTypes.toList (v.resultList f.resultTypes.size) (s.fn H (ds ++ gs)).results [])
    (hargs : ∀ sp : Nat → Bool, (∀ p ∈ before, sp p.block = true) → DataW.TrodAll enc P W' 0 sp true f.params.toList args.toList (s.fn H (ds ++ gs)).args pa)
    (hvars : ∀ sp : Nat → Bool, (∀ p ∈ before, sp p.block = true) → DataW.TrodVars enc P W' sp s.vars (s.fn H (ds ++ gs)).vars pv)
    (hps : before = pa ++ pv) (hk : W.keptBut W' (· ∈ before)) :
    s.post enc P f apart fresh handsOn false W args v W' := by
  have hold : ∀ p ∈ before, (fun b => decide (b < W.heap.size)) p.block = true := fun p hp => by simpa using hW.lt p hp
  refine ⟨ds, gs, before, [], pa, pv, hW, hres _ _ _, hargs _ hold, hvars _ hold, World.keptBut_mono (fun p hp => ⟨hp, ?_⟩) hk, fun h => by cases h⟩
  rw [hps, List.mem_append] at hp
  exact Or.inr hp

end Go.Proofs.YtjcoihbhgedgiaaDoor.Ends

/-! CodeRefM, CodeRefO, CodeReadsWalk, joined. -/

/-! What the document's read gathers out of a word is what the readers say. -/
set_option linter.unusedVariables false
set_option linter.unusedSimpArgs false
namespace Go.Proofs.YtjcoihbhgedgiaaDoor.Code
open Go.Proofs.YtjcoihbhgedgiaaDoor.Alu Go.Proofs.YtjcoihbhgedgiaaDoor.Imm Go.Proofs.YtjcoihbhgedgiaaDoor.Inst

theorem fxs_2 (s f W : Int) (x : Nat → Int) : fxs s f W x 2 = v2 s W (x 2) := rfl
theorem fxs_4 (s f W : Int) (x : Nat → Int) : fxs s f W x 4 = v4 s f (x 4) := rfl
theorem fxs_6 (s f W : Int) (x : Nat → Int) : fxs s f W x 6 = v6 s (x 5) (x 6) := rfl
theorem fxs_o (s f W : Int) (x : Nat → Int) (j : Nat) (h : j ≠ 4 ∧ j ≠ 6 ∧ j ≠ 2) : fxs s f W x j = x j := by unfold fxs; rw [if_neg h.1, if_neg h.2.1, if_neg h.2.2]
theorem v2_32 (W y : Int) : v2 32 W y = bt W 0 4 := by unfold v2; rw [if_pos rfl]
theorem v2_no (s W y : Int) (h : s ≠ 32) : v2 s W y = y := by unfold v2; rw [if_neg h]
theorem v4_15 (f y : Int) : v4 15 f y = lst y 256 := by unfold v4; rw [if_pos rfl]
theorem v4_16 (f y : Int) : v4 16 f y = lst y 2048 := by unfold v4; rw [if_neg (by decide), if_pos rfl]
theorem v4_33 (f y : Int) : v4 33 f y = lst y 1048576 := by unfold v4; rw [if_neg (by decide), if_neg (by decide), if_pos rfl]
theorem v4_34 (f y : Int) : v4 34 f y = lst (tn y) 16777216 := by unfold v4; rw [if_neg (by decide), if_neg (by decide), if_neg (by decide), if_pos rfl]
theorem v4_1 (f y : Int) : v4 1 f y = if 1 < f ∧ y = 0 then 32 else y := by
  unfold v4
  rw [if_neg (by decide), if_neg (by decide), if_neg (by decide), if_neg (by decide)]
  by_cases h : 1 < f ∧ y = 0
  · rw [if_pos ⟨rfl, h⟩, if_pos h]
  · rw [if_neg (fun g => h g.2), if_neg h]
theorem v4_no (s f y : Int) (h : s ≠ 15 ∧ s ≠ 16 ∧ s ≠ 33 ∧ s ≠ 34 ∧ s ≠ 1) : v4 s f y = y := by
  unfold v4
  rw [if_neg h.1, if_neg h.2.1, if_neg h.2.2.1, if_neg h.2.2.2.1, if_neg (fun g => h.2.2.2.2 g.1)]
theorem v6_yes (s y5 y6 : Int) (h : 21 ≤ s ∧ s ≤ 23) : v6 s y5 y6 = if y6 = 0 ∧ (y5 = 1 ∨ y5 = 2) then 32 else y6 := by
  unfold v6
  by_cases g : y6 = 0 ∧ (y5 = 1 ∨ y5 = 2)
  · rw [if_pos ⟨h, g⟩, if_pos g]
  · rw [if_neg (fun k => g k.2), if_neg g]
theorem v6_no (s y5 y6 : Int) (h : ¬ (21 ≤ s ∧ s ≤ 23)) : v6 s y5 y6 = y6 := by
  unfold v6
  rw [if_neg (fun k => h k.1)]
theorem jb_eq (p a : Int) (hp : 0 ≤ p ∧ p ≤ 1) (ha : 0 ≤ a ∧ a ≤ 1) : (if p = a then (1 : Int) else 0) = jb p a := by unfold jb; split <;> split <;> omega
theorem jump_back (a b p q e : Int) (ha : 0 ≤ a ∧ a ≤ 1) (hb : 0 ≤ b ∧ b ≤ 1023) (hp : 0 ≤ p ∧ p ≤ 1) (hq : 0 ≤ q ∧ q ≤ 1) (he : 0 ≤ e ∧ e ≤ 2047) :
    lst (tn (a * 16777216 + b * 4096 + p * 8388608 + q * 4194304 + e * 2)) 16777216 = sgn 16777216 (a * 16777216 + b * 4096 + jb p a * 8388608 + jb q a * 4194304 + e * 2) := by
  have e1 : a * 16777216 + b * 4096 + p * 8388608 + q * 4194304 + e * 2 = a * 16777216 + p * 8388608 + q * 4194304 + (b * 4096 + e * 2) := by omega
  have hc : 0 ≤ jb q a ∧ jb q a ≤ 1 := by unfold jb; split <;> omega
  have hd : 0 ≤ jb p a ∧ jb p a ≤ 1 := by unfold jb; split <;> omega
  unfold tn
  rw [e1, tone_22 a p q _ ha hp hq (by omega), jb_eq q a hq ha, tone_23 a p _ _ ha hp hc (by omega), jb_eq p a hp ha]
  generalize jb q a = c at *
  generalize jb p a = d at *
  clear e1
  unfold lst sgn
  split <;> split <;> omega

theorem ge_1_0 (W : Int) (h0 : 0 ≤ W) : gat (fl 1) W (fl 1).length 0 = W % 8 := by
  show (((0 + 0) + 0) + bt W 0 3 * pw 0) = _
  rw [bt_at W h0 (by decide : pw 0 = 1) (by decide : pw 3 = 8), show pw 0 = 1 from by decide]
  omega
theorem ge_1_1 (W : Int) (h0 : 0 ≤ W) : gat (fl 1) W (fl 1).length 1 = 0 := by
  show (((0 + 0) + 0) + 0) = _
  omega
theorem ge_1_2 (W : Int) (h0 : 0 ≤ W) : gat (fl 1) W (fl 1).length 2 = W / 8 % 8 := by
  show (((0 + 0) + bt W 3 3 * pw 0) + 0) = _
  rw [bt_at W h0 (by decide : pw 3 = 8) (by decide : pw 3 = 8), show pw 0 = 1 from by decide]
  omega
theorem ge_1_3 (W : Int) (h0 : 0 ≤ W) : gat (fl 1) W (fl 1).length 3 = 0 := by
  show (((0 + 0) + 0) + 0) = _
  omega
theorem ge_1_4 (W : Int) (h0 : 0 ≤ W) : gat (fl 1) W (fl 1).length 4 = W / 64 % 32 := by
  show (((0 + bt W 6 5 * pw 0) + 0) + 0) = _
  rw [bt_at W h0 (by decide : pw 6 = 64) (by decide : pw 5 = 32), show pw 0 = 1 from by decide]
  omega
theorem ge_1_5 (W : Int) (h0 : 0 ≤ W) : gat (fl 1) W (fl 1).length 5 = 0 := by
  show (((0 + 0) + 0) + 0) = _
  omega
theorem ge_1_6 (W : Int) (h0 : 0 ≤ W) : gat (fl 1) W (fl 1).length 6 = 0 := by
  show (((0 + 0) + 0) + 0) = _
  omega
theorem ge_1_7 (W : Int) (h0 : 0 ≤ W) : gat (fl 1) W (fl 1).length 7 = 0 := by
  show (((0 + 0) + 0) + 0) = _
  omega
theorem ge_1_8 (W : Int) (h0 : 0 ≤ W) : gat (fl 1) W (fl 1).length 8 = 0 := by
  show (((0 + 0) + 0) + 0) = _
  omega
theorem ge_1_9 (W : Int) (h0 : 0 ≤ W) : gat (fl 1) W (fl 1).length 9 = 0 := by
  show (((0 + 0) + 0) + 0) = _
  omega
theorem rx_1 (f W : Int) (hf : 1 ≤ f) (h0 : 0 ≤ W) : fxs 1 f W (gat (fl 1) W (fl 1).length) 0 = rdOf f 1 W ∧ fxs 1 f W (gat (fl 1) W (fl 1).length) 1 = rnOf f 1 W ∧ fxs 1 f W (gat (fl 1) W (fl 1).length) 2 = rmOf f 1 W ∧ fxs 1 f W (gat (fl 1) W (fl 1).length) 3 = raOf f 1 W ∧ fxs 1 f W (gat (fl 1) W (fl 1).length) 4 = imOf f 1 W ∧ fxs 1 f W (gat (fl 1) W (fl 1).length) 5 = kdOf f 1 W ∧ fxs 1 f W (gat (fl 1) W (fl 1).length) 6 = bsOf f 1 W ∧ fxs 1 f W (gat (fl 1) W (fl 1).length) 7 = stOf f 1 W ∧ fxs 1 f W (gat (fl 1) W (fl 1).length) 8 = cdOf f 1 W ∧ fxs 1 f W (gat (fl 1) W (fl 1).length) 9 = rgOf f 1 W := by
  refine ⟨?_, ?_, ?_, ?_, ?_, ?_, ?_, ?_, ?_, ?_⟩
  · rw [fxs_o _ _ _ _ _ (by decide), ge_1_0 W h0, rd_1]
  · rw [fxs_o _ _ _ _ _ (by decide), ge_1_1 W h0, rn_1]
  · rw [fxs_2, ge_1_2 W h0, v2_no _ _ _ (by decide), rm_1]
  · rw [fxs_o _ _ _ _ _ (by decide), ge_1_3 W h0, ra_1]
  · rw [fxs_4, ge_1_4 W h0, im_1]
    rw [v4_1]
    by_cases hq : W / 64 % 32 = 0
    · by_cases h1 : f = 1
      · rw [if_neg (by omega), if_neg (by omega)]
      · rw [if_pos ⟨by omega, hq⟩, if_pos ⟨h1, hq⟩]
    · rw [if_neg (fun h => hq h.2), if_neg (fun h => hq h.2)]
  · rw [fxs_o _ _ _ _ _ (by decide), ge_1_5 W h0, kd_1]
  · rw [fxs_6, ge_1_5 W h0, ge_1_6 W h0, bs_1]
    exact v6_no _ _ _ (by decide)
  · rw [fxs_o _ _ _ _ _ (by decide), ge_1_7 W h0, st_1]
  · rw [fxs_o _ _ _ _ _ (by decide), ge_1_8 W h0, cd_1]
  · rw [fxs_o _ _ _ _ _ (by decide), ge_1_9 W h0, rg_1]
theorem ge_2_0 (W : Int) (h0 : 0 ≤ W) : gat (fl 2) W (fl 2).length 0 = W % 8 := by
  show (((0 + 0) + 0) + bt W 0 3 * pw 0) = _
  rw [bt_at W h0 (by decide : pw 0 = 1) (by decide : pw 3 = 8), show pw 0 = 1 from by decide]
  omega
theorem ge_2_1 (W : Int) (h0 : 0 ≤ W) : gat (fl 2) W (fl 2).length 1 = W / 8 % 8 := by
  show (((0 + 0) + bt W 3 3 * pw 0) + 0) = _
  rw [bt_at W h0 (by decide : pw 3 = 8) (by decide : pw 3 = 8), show pw 0 = 1 from by decide]
  omega
theorem ge_2_2 (W : Int) (h0 : 0 ≤ W) : gat (fl 2) W (fl 2).length 2 = W / 64 % 8 := by
  show (((0 + bt W 6 3 * pw 0) + 0) + 0) = _
  rw [bt_at W h0 (by decide : pw 6 = 64) (by decide : pw 3 = 8), show pw 0 = 1 from by decide]
  omega
theorem ge_2_3 (W : Int) (h0 : 0 ≤ W) : gat (fl 2) W (fl 2).length 3 = 0 := by
  show (((0 + 0) + 0) + 0) = _
  omega
theorem ge_2_4 (W : Int) (h0 : 0 ≤ W) : gat (fl 2) W (fl 2).length 4 = 0 := by
  show (((0 + 0) + 0) + 0) = _
  omega
theorem ge_2_5 (W : Int) (h0 : 0 ≤ W) : gat (fl 2) W (fl 2).length 5 = 0 := by
  show (((0 + 0) + 0) + 0) = _
  omega
theorem ge_2_6 (W : Int) (h0 : 0 ≤ W) : gat (fl 2) W (fl 2).length 6 = 0 := by
  show (((0 + 0) + 0) + 0) = _
  omega
theorem ge_2_7 (W : Int) (h0 : 0 ≤ W) : gat (fl 2) W (fl 2).length 7 = 0 := by
  show (((0 + 0) + 0) + 0) = _
  omega
theorem ge_2_8 (W : Int) (h0 : 0 ≤ W) : gat (fl 2) W (fl 2).length 8 = 0 := by
  show (((0 + 0) + 0) + 0) = _
  omega
theorem ge_2_9 (W : Int) (h0 : 0 ≤ W) : gat (fl 2) W (fl 2).length 9 = 0 := by
  show (((0 + 0) + 0) + 0) = _
  omega
theorem rx_2 (f W : Int) (hf : 1 ≤ f) (h0 : 0 ≤ W) : fxs 2 f W (gat (fl 2) W (fl 2).length) 0 = rdOf f 2 W ∧ fxs 2 f W (gat (fl 2) W (fl 2).length) 1 = rnOf f 2 W ∧ fxs 2 f W (gat (fl 2) W (fl 2).length) 2 = rmOf f 2 W ∧ fxs 2 f W (gat (fl 2) W (fl 2).length) 3 = raOf f 2 W ∧ fxs 2 f W (gat (fl 2) W (fl 2).length) 4 = imOf f 2 W ∧ fxs 2 f W (gat (fl 2) W (fl 2).length) 5 = kdOf f 2 W ∧ fxs 2 f W (gat (fl 2) W (fl 2).length) 6 = bsOf f 2 W ∧ fxs 2 f W (gat (fl 2) W (fl 2).length) 7 = stOf f 2 W ∧ fxs 2 f W (gat (fl 2) W (fl 2).length) 8 = cdOf f 2 W ∧ fxs 2 f W (gat (fl 2) W (fl 2).length) 9 = rgOf f 2 W := by
  refine ⟨?_, ?_, ?_, ?_, ?_, ?_, ?_, ?_, ?_, ?_⟩
  · rw [fxs_o _ _ _ _ _ (by decide), ge_2_0 W h0, rd_2]
  · rw [fxs_o _ _ _ _ _ (by decide), ge_2_1 W h0, rn_2]
  · rw [fxs_2, ge_2_2 W h0, v2_no _ _ _ (by decide), rm_2]
  · rw [fxs_o _ _ _ _ _ (by decide), ge_2_3 W h0, ra_2]
  · rw [fxs_4, ge_2_4 W h0, im_2]
    exact v4_no _ _ _ (by decide)
  · rw [fxs_o _ _ _ _ _ (by decide), ge_2_5 W h0, kd_2]
  · rw [fxs_6, ge_2_5 W h0, ge_2_6 W h0, bs_2]
    exact v6_no _ _ _ (by decide)
  · rw [fxs_o _ _ _ _ _ (by decide), ge_2_7 W h0, st_2]
  · rw [fxs_o _ _ _ _ _ (by decide), ge_2_8 W h0, cd_2]
  · rw [fxs_o _ _ _ _ _ (by decide), ge_2_9 W h0, rg_2]
theorem ge_3_0 (W : Int) (h0 : 0 ≤ W) : gat (fl 3) W (fl 3).length 0 = W % 8 := by
  show (((0 + 0) + 0) + bt W 0 3 * pw 0) = _
  rw [bt_at W h0 (by decide : pw 0 = 1) (by decide : pw 3 = 8), show pw 0 = 1 from by decide]
  omega
theorem ge_3_1 (W : Int) (h0 : 0 ≤ W) : gat (fl 3) W (fl 3).length 1 = W / 8 % 8 := by
  show (((0 + 0) + bt W 3 3 * pw 0) + 0) = _
  rw [bt_at W h0 (by decide : pw 3 = 8) (by decide : pw 3 = 8), show pw 0 = 1 from by decide]
  omega
theorem ge_3_2 (W : Int) (h0 : 0 ≤ W) : gat (fl 3) W (fl 3).length 2 = 0 := by
  show (((0 + 0) + 0) + 0) = _
  omega
theorem ge_3_3 (W : Int) (h0 : 0 ≤ W) : gat (fl 3) W (fl 3).length 3 = 0 := by
  show (((0 + 0) + 0) + 0) = _
  omega
theorem ge_3_4 (W : Int) (h0 : 0 ≤ W) : gat (fl 3) W (fl 3).length 4 = W / 64 % 8 := by
  show (((0 + bt W 6 3 * pw 0) + 0) + 0) = _
  rw [bt_at W h0 (by decide : pw 6 = 64) (by decide : pw 3 = 8), show pw 0 = 1 from by decide]
  omega
theorem ge_3_5 (W : Int) (h0 : 0 ≤ W) : gat (fl 3) W (fl 3).length 5 = 0 := by
  show (((0 + 0) + 0) + 0) = _
  omega
theorem ge_3_6 (W : Int) (h0 : 0 ≤ W) : gat (fl 3) W (fl 3).length 6 = 0 := by
  show (((0 + 0) + 0) + 0) = _
  omega
theorem ge_3_7 (W : Int) (h0 : 0 ≤ W) : gat (fl 3) W (fl 3).length 7 = 0 := by
  show (((0 + 0) + 0) + 0) = _
  omega
theorem ge_3_8 (W : Int) (h0 : 0 ≤ W) : gat (fl 3) W (fl 3).length 8 = 0 := by
  show (((0 + 0) + 0) + 0) = _
  omega
theorem ge_3_9 (W : Int) (h0 : 0 ≤ W) : gat (fl 3) W (fl 3).length 9 = 0 := by
  show (((0 + 0) + 0) + 0) = _
  omega
theorem rx_3 (f W : Int) (hf : 1 ≤ f) (h0 : 0 ≤ W) : fxs 3 f W (gat (fl 3) W (fl 3).length) 0 = rdOf f 3 W ∧ fxs 3 f W (gat (fl 3) W (fl 3).length) 1 = rnOf f 3 W ∧ fxs 3 f W (gat (fl 3) W (fl 3).length) 2 = rmOf f 3 W ∧ fxs 3 f W (gat (fl 3) W (fl 3).length) 3 = raOf f 3 W ∧ fxs 3 f W (gat (fl 3) W (fl 3).length) 4 = imOf f 3 W ∧ fxs 3 f W (gat (fl 3) W (fl 3).length) 5 = kdOf f 3 W ∧ fxs 3 f W (gat (fl 3) W (fl 3).length) 6 = bsOf f 3 W ∧ fxs 3 f W (gat (fl 3) W (fl 3).length) 7 = stOf f 3 W ∧ fxs 3 f W (gat (fl 3) W (fl 3).length) 8 = cdOf f 3 W ∧ fxs 3 f W (gat (fl 3) W (fl 3).length) 9 = rgOf f 3 W := by
  refine ⟨?_, ?_, ?_, ?_, ?_, ?_, ?_, ?_, ?_, ?_⟩
  · rw [fxs_o _ _ _ _ _ (by decide), ge_3_0 W h0, rd_3]
  · rw [fxs_o _ _ _ _ _ (by decide), ge_3_1 W h0, rn_3]
  · rw [fxs_2, ge_3_2 W h0, v2_no _ _ _ (by decide), rm_3]
  · rw [fxs_o _ _ _ _ _ (by decide), ge_3_3 W h0, ra_3]
  · rw [fxs_4, ge_3_4 W h0, im_3]
    exact v4_no _ _ _ (by decide)
  · rw [fxs_o _ _ _ _ _ (by decide), ge_3_5 W h0, kd_3]
  · rw [fxs_6, ge_3_5 W h0, ge_3_6 W h0, bs_3]
    exact v6_no _ _ _ (by decide)
  · rw [fxs_o _ _ _ _ _ (by decide), ge_3_7 W h0, st_3]
  · rw [fxs_o _ _ _ _ _ (by decide), ge_3_8 W h0, cd_3]
  · rw [fxs_o _ _ _ _ _ (by decide), ge_3_9 W h0, rg_3]
theorem ge_4_0 (W : Int) (h0 : 0 ≤ W) : gat (fl 4) W (fl 4).length 0 = W / 256 % 8 := by
  show ((0 + bt W 8 3 * pw 0) + 0) = _
  rw [bt_at W h0 (by decide : pw 8 = 256) (by decide : pw 3 = 8), show pw 0 = 1 from by decide]
  omega
theorem ge_4_1 (W : Int) (h0 : 0 ≤ W) : gat (fl 4) W (fl 4).length 1 = 0 := by
  show ((0 + 0) + 0) = _
  omega
theorem ge_4_2 (W : Int) (h0 : 0 ≤ W) : gat (fl 4) W (fl 4).length 2 = 0 := by
  show ((0 + 0) + 0) = _
  omega
theorem ge_4_3 (W : Int) (h0 : 0 ≤ W) : gat (fl 4) W (fl 4).length 3 = 0 := by
  show ((0 + 0) + 0) = _
  omega
theorem ge_4_4 (W : Int) (h0 : 0 ≤ W) : gat (fl 4) W (fl 4).length 4 = W % 256 := by
  show ((0 + 0) + bt W 0 8 * pw 0) = _
  rw [bt_at W h0 (by decide : pw 0 = 1) (by decide : pw 8 = 256), show pw 0 = 1 from by decide]
  omega
theorem ge_4_5 (W : Int) (h0 : 0 ≤ W) : gat (fl 4) W (fl 4).length 5 = 0 := by
  show ((0 + 0) + 0) = _
  omega
theorem ge_4_6 (W : Int) (h0 : 0 ≤ W) : gat (fl 4) W (fl 4).length 6 = 0 := by
  show ((0 + 0) + 0) = _
  omega
theorem ge_4_7 (W : Int) (h0 : 0 ≤ W) : gat (fl 4) W (fl 4).length 7 = 0 := by
  show ((0 + 0) + 0) = _
  omega
theorem ge_4_8 (W : Int) (h0 : 0 ≤ W) : gat (fl 4) W (fl 4).length 8 = 0 := by
  show ((0 + 0) + 0) = _
  omega
theorem ge_4_9 (W : Int) (h0 : 0 ≤ W) : gat (fl 4) W (fl 4).length 9 = 0 := by
  show ((0 + 0) + 0) = _
  omega
theorem rx_4 (f W : Int) (hf : 1 ≤ f) (h0 : 0 ≤ W) : fxs 4 f W (gat (fl 4) W (fl 4).length) 0 = rdOf f 4 W ∧ fxs 4 f W (gat (fl 4) W (fl 4).length) 1 = rnOf f 4 W ∧ fxs 4 f W (gat (fl 4) W (fl 4).length) 2 = rmOf f 4 W ∧ fxs 4 f W (gat (fl 4) W (fl 4).length) 3 = raOf f 4 W ∧ fxs 4 f W (gat (fl 4) W (fl 4).length) 4 = imOf f 4 W ∧ fxs 4 f W (gat (fl 4) W (fl 4).length) 5 = kdOf f 4 W ∧ fxs 4 f W (gat (fl 4) W (fl 4).length) 6 = bsOf f 4 W ∧ fxs 4 f W (gat (fl 4) W (fl 4).length) 7 = stOf f 4 W ∧ fxs 4 f W (gat (fl 4) W (fl 4).length) 8 = cdOf f 4 W ∧ fxs 4 f W (gat (fl 4) W (fl 4).length) 9 = rgOf f 4 W := by
  refine ⟨?_, ?_, ?_, ?_, ?_, ?_, ?_, ?_, ?_, ?_⟩
  · rw [fxs_o _ _ _ _ _ (by decide), ge_4_0 W h0, rd_4]
  · rw [fxs_o _ _ _ _ _ (by decide), ge_4_1 W h0, rn_4]
  · rw [fxs_2, ge_4_2 W h0, v2_no _ _ _ (by decide), rm_4]
  · rw [fxs_o _ _ _ _ _ (by decide), ge_4_3 W h0, ra_4]
  · rw [fxs_4, ge_4_4 W h0, im_4]
    exact v4_no _ _ _ (by decide)
  · rw [fxs_o _ _ _ _ _ (by decide), ge_4_5 W h0, kd_4]
  · rw [fxs_6, ge_4_5 W h0, ge_4_6 W h0, bs_4]
    exact v6_no _ _ _ (by decide)
  · rw [fxs_o _ _ _ _ _ (by decide), ge_4_7 W h0, st_4]
  · rw [fxs_o _ _ _ _ _ (by decide), ge_4_8 W h0, cd_4]
  · rw [fxs_o _ _ _ _ _ (by decide), ge_4_9 W h0, rg_4]
theorem ge_5_0 (W : Int) (h0 : 0 ≤ W) : gat (fl 5) W (fl 5).length 0 = W % 8 := by
  show ((0 + 0) + bt W 0 3 * pw 0) = _
  rw [bt_at W h0 (by decide : pw 0 = 1) (by decide : pw 3 = 8), show pw 0 = 1 from by decide]
  omega
theorem ge_5_1 (W : Int) (h0 : 0 ≤ W) : gat (fl 5) W (fl 5).length 1 = 0 := by
  show ((0 + 0) + 0) = _
  omega
theorem ge_5_2 (W : Int) (h0 : 0 ≤ W) : gat (fl 5) W (fl 5).length 2 = W / 8 % 8 := by
  show ((0 + bt W 3 3 * pw 0) + 0) = _
  rw [bt_at W h0 (by decide : pw 3 = 8) (by decide : pw 3 = 8), show pw 0 = 1 from by decide]
  omega
theorem ge_5_3 (W : Int) (h0 : 0 ≤ W) : gat (fl 5) W (fl 5).length 3 = 0 := by
  show ((0 + 0) + 0) = _
  omega
theorem ge_5_4 (W : Int) (h0 : 0 ≤ W) : gat (fl 5) W (fl 5).length 4 = 0 := by
  show ((0 + 0) + 0) = _
  omega
theorem ge_5_5 (W : Int) (h0 : 0 ≤ W) : gat (fl 5) W (fl 5).length 5 = 0 := by
  show ((0 + 0) + 0) = _
  omega
theorem ge_5_6 (W : Int) (h0 : 0 ≤ W) : gat (fl 5) W (fl 5).length 6 = 0 := by
  show ((0 + 0) + 0) = _
  omega
theorem ge_5_7 (W : Int) (h0 : 0 ≤ W) : gat (fl 5) W (fl 5).length 7 = 0 := by
  show ((0 + 0) + 0) = _
  omega
theorem ge_5_8 (W : Int) (h0 : 0 ≤ W) : gat (fl 5) W (fl 5).length 8 = 0 := by
  show ((0 + 0) + 0) = _
  omega
theorem ge_5_9 (W : Int) (h0 : 0 ≤ W) : gat (fl 5) W (fl 5).length 9 = 0 := by
  show ((0 + 0) + 0) = _
  omega
theorem rx_5 (f W : Int) (hf : 1 ≤ f) (h0 : 0 ≤ W) : fxs 5 f W (gat (fl 5) W (fl 5).length) 0 = rdOf f 5 W ∧ fxs 5 f W (gat (fl 5) W (fl 5).length) 1 = rnOf f 5 W ∧ fxs 5 f W (gat (fl 5) W (fl 5).length) 2 = rmOf f 5 W ∧ fxs 5 f W (gat (fl 5) W (fl 5).length) 3 = raOf f 5 W ∧ fxs 5 f W (gat (fl 5) W (fl 5).length) 4 = imOf f 5 W ∧ fxs 5 f W (gat (fl 5) W (fl 5).length) 5 = kdOf f 5 W ∧ fxs 5 f W (gat (fl 5) W (fl 5).length) 6 = bsOf f 5 W ∧ fxs 5 f W (gat (fl 5) W (fl 5).length) 7 = stOf f 5 W ∧ fxs 5 f W (gat (fl 5) W (fl 5).length) 8 = cdOf f 5 W ∧ fxs 5 f W (gat (fl 5) W (fl 5).length) 9 = rgOf f 5 W := by
  refine ⟨?_, ?_, ?_, ?_, ?_, ?_, ?_, ?_, ?_, ?_⟩
  · rw [fxs_o _ _ _ _ _ (by decide), ge_5_0 W h0, rd_5]
  · rw [fxs_o _ _ _ _ _ (by decide), ge_5_1 W h0, rn_5]
  · rw [fxs_2, ge_5_2 W h0, v2_no _ _ _ (by decide), rm_5]
  · rw [fxs_o _ _ _ _ _ (by decide), ge_5_3 W h0, ra_5]
  · rw [fxs_4, ge_5_4 W h0, im_5]
    exact v4_no _ _ _ (by decide)
  · rw [fxs_o _ _ _ _ _ (by decide), ge_5_5 W h0, kd_5]
  · rw [fxs_6, ge_5_5 W h0, ge_5_6 W h0, bs_5]
    exact v6_no _ _ _ (by decide)
  · rw [fxs_o _ _ _ _ _ (by decide), ge_5_7 W h0, st_5]
  · rw [fxs_o _ _ _ _ _ (by decide), ge_5_8 W h0, cd_5]
  · rw [fxs_o _ _ _ _ _ (by decide), ge_5_9 W h0, rg_5]
theorem ge_6_0 (W : Int) (h0 : 0 ≤ W) : gat (fl 6) W (fl 6).length 0 = W / 128 % 2 * 8 + W % 8 := by
  show (((0 + bt W 7 1 * pw 3) + 0) + bt W 0 3 * pw 0) = _
  rw [bt_at W h0 (by decide : pw 7 = 128) (by decide : pw 1 = 2), bt_at W h0 (by decide : pw 0 = 1) (by decide : pw 3 = 8), show pw 3 = 8 from by decide, show pw 0 = 1 from by decide]
  omega
theorem ge_6_1 (W : Int) (h0 : 0 ≤ W) : gat (fl 6) W (fl 6).length 1 = 0 := by
  show (((0 + 0) + 0) + 0) = _
  omega
theorem ge_6_2 (W : Int) (h0 : 0 ≤ W) : gat (fl 6) W (fl 6).length 2 = W / 8 % 16 := by
  show (((0 + 0) + bt W 3 4 * pw 0) + 0) = _
  rw [bt_at W h0 (by decide : pw 3 = 8) (by decide : pw 4 = 16), show pw 0 = 1 from by decide]
  omega
theorem ge_6_3 (W : Int) (h0 : 0 ≤ W) : gat (fl 6) W (fl 6).length 3 = 0 := by
  show (((0 + 0) + 0) + 0) = _
  omega
theorem ge_6_4 (W : Int) (h0 : 0 ≤ W) : gat (fl 6) W (fl 6).length 4 = 0 := by
  show (((0 + 0) + 0) + 0) = _
  omega
theorem ge_6_5 (W : Int) (h0 : 0 ≤ W) : gat (fl 6) W (fl 6).length 5 = 0 := by
  show (((0 + 0) + 0) + 0) = _
  omega
theorem ge_6_6 (W : Int) (h0 : 0 ≤ W) : gat (fl 6) W (fl 6).length 6 = 0 := by
  show (((0 + 0) + 0) + 0) = _
  omega
theorem ge_6_7 (W : Int) (h0 : 0 ≤ W) : gat (fl 6) W (fl 6).length 7 = 0 := by
  show (((0 + 0) + 0) + 0) = _
  omega
theorem ge_6_8 (W : Int) (h0 : 0 ≤ W) : gat (fl 6) W (fl 6).length 8 = 0 := by
  show (((0 + 0) + 0) + 0) = _
  omega
theorem ge_6_9 (W : Int) (h0 : 0 ≤ W) : gat (fl 6) W (fl 6).length 9 = 0 := by
  show (((0 + 0) + 0) + 0) = _
  omega
theorem rx_6 (f W : Int) (hf : 1 ≤ f) (h0 : 0 ≤ W) : fxs 6 f W (gat (fl 6) W (fl 6).length) 0 = rdOf f 6 W ∧ fxs 6 f W (gat (fl 6) W (fl 6).length) 1 = rnOf f 6 W ∧ fxs 6 f W (gat (fl 6) W (fl 6).length) 2 = rmOf f 6 W ∧ fxs 6 f W (gat (fl 6) W (fl 6).length) 3 = raOf f 6 W ∧ fxs 6 f W (gat (fl 6) W (fl 6).length) 4 = imOf f 6 W ∧ fxs 6 f W (gat (fl 6) W (fl 6).length) 5 = kdOf f 6 W ∧ fxs 6 f W (gat (fl 6) W (fl 6).length) 6 = bsOf f 6 W ∧ fxs 6 f W (gat (fl 6) W (fl 6).length) 7 = stOf f 6 W ∧ fxs 6 f W (gat (fl 6) W (fl 6).length) 8 = cdOf f 6 W ∧ fxs 6 f W (gat (fl 6) W (fl 6).length) 9 = rgOf f 6 W := by
  refine ⟨?_, ?_, ?_, ?_, ?_, ?_, ?_, ?_, ?_, ?_⟩
  · rw [fxs_o _ _ _ _ _ (by decide), ge_6_0 W h0, rd_6]
  · rw [fxs_o _ _ _ _ _ (by decide), ge_6_1 W h0, rn_6]
  · rw [fxs_2, ge_6_2 W h0, v2_no _ _ _ (by decide), rm_6]
  · rw [fxs_o _ _ _ _ _ (by decide), ge_6_3 W h0, ra_6]
  · rw [fxs_4, ge_6_4 W h0, im_6]
    exact v4_no _ _ _ (by decide)
  · rw [fxs_o _ _ _ _ _ (by decide), ge_6_5 W h0, kd_6]
  · rw [fxs_6, ge_6_5 W h0, ge_6_6 W h0, bs_6]
    exact v6_no _ _ _ (by decide)
  · rw [fxs_o _ _ _ _ _ (by decide), ge_6_7 W h0, st_6]
  · rw [fxs_o _ _ _ _ _ (by decide), ge_6_8 W h0, cd_6]
  · rw [fxs_o _ _ _ _ _ (by decide), ge_6_9 W h0, rg_6]
theorem ge_7_0 (W : Int) (h0 : 0 ≤ W) : gat (fl 7) W (fl 7).length 0 = 0 := by
  show (0 + 0) = _
  omega
theorem ge_7_1 (W : Int) (h0 : 0 ≤ W) : gat (fl 7) W (fl 7).length 1 = 0 := by
  show (0 + 0) = _
  omega
theorem ge_7_2 (W : Int) (h0 : 0 ≤ W) : gat (fl 7) W (fl 7).length 2 = W / 8 % 16 := by
  show (0 + bt W 3 4 * pw 0) = _
  rw [bt_at W h0 (by decide : pw 3 = 8) (by decide : pw 4 = 16), show pw 0 = 1 from by decide]
  omega
theorem ge_7_3 (W : Int) (h0 : 0 ≤ W) : gat (fl 7) W (fl 7).length 3 = 0 := by
  show (0 + 0) = _
  omega
theorem ge_7_4 (W : Int) (h0 : 0 ≤ W) : gat (fl 7) W (fl 7).length 4 = 0 := by
  show (0 + 0) = _
  omega
theorem ge_7_5 (W : Int) (h0 : 0 ≤ W) : gat (fl 7) W (fl 7).length 5 = 0 := by
  show (0 + 0) = _
  omega
theorem ge_7_6 (W : Int) (h0 : 0 ≤ W) : gat (fl 7) W (fl 7).length 6 = 0 := by
  show (0 + 0) = _
  omega
theorem ge_7_7 (W : Int) (h0 : 0 ≤ W) : gat (fl 7) W (fl 7).length 7 = 0 := by
  show (0 + 0) = _
  omega
theorem ge_7_8 (W : Int) (h0 : 0 ≤ W) : gat (fl 7) W (fl 7).length 8 = 0 := by
  show (0 + 0) = _
  omega
theorem ge_7_9 (W : Int) (h0 : 0 ≤ W) : gat (fl 7) W (fl 7).length 9 = 0 := by
  show (0 + 0) = _
  omega
theorem rx_7 (f W : Int) (hf : 1 ≤ f) (h0 : 0 ≤ W) : fxs 7 f W (gat (fl 7) W (fl 7).length) 0 = rdOf f 7 W ∧ fxs 7 f W (gat (fl 7) W (fl 7).length) 1 = rnOf f 7 W ∧ fxs 7 f W (gat (fl 7) W (fl 7).length) 2 = rmOf f 7 W ∧ fxs 7 f W (gat (fl 7) W (fl 7).length) 3 = raOf f 7 W ∧ fxs 7 f W (gat (fl 7) W (fl 7).length) 4 = imOf f 7 W ∧ fxs 7 f W (gat (fl 7) W (fl 7).length) 5 = kdOf f 7 W ∧ fxs 7 f W (gat (fl 7) W (fl 7).length) 6 = bsOf f 7 W ∧ fxs 7 f W (gat (fl 7) W (fl 7).length) 7 = stOf f 7 W ∧ fxs 7 f W (gat (fl 7) W (fl 7).length) 8 = cdOf f 7 W ∧ fxs 7 f W (gat (fl 7) W (fl 7).length) 9 = rgOf f 7 W := by
  refine ⟨?_, ?_, ?_, ?_, ?_, ?_, ?_, ?_, ?_, ?_⟩
  · rw [fxs_o _ _ _ _ _ (by decide), ge_7_0 W h0, rd_7]
  · rw [fxs_o _ _ _ _ _ (by decide), ge_7_1 W h0, rn_7]
  · rw [fxs_2, ge_7_2 W h0, v2_no _ _ _ (by decide), rm_7]
  · rw [fxs_o _ _ _ _ _ (by decide), ge_7_3 W h0, ra_7]
  · rw [fxs_4, ge_7_4 W h0, im_7]
    exact v4_no _ _ _ (by decide)
  · rw [fxs_o _ _ _ _ _ (by decide), ge_7_5 W h0, kd_7]
  · rw [fxs_6, ge_7_5 W h0, ge_7_6 W h0, bs_7]
    exact v6_no _ _ _ (by decide)
  · rw [fxs_o _ _ _ _ _ (by decide), ge_7_7 W h0, st_7]
  · rw [fxs_o _ _ _ _ _ (by decide), ge_7_8 W h0, cd_7]
  · rw [fxs_o _ _ _ _ _ (by decide), ge_7_9 W h0, rg_7]
theorem ge_8_0 (W : Int) (h0 : 0 ≤ W) : gat (fl 8) W (fl 8).length 0 = W / 256 % 8 := by
  show ((0 + bt W 8 3 * pw 0) + 0) = _
  rw [bt_at W h0 (by decide : pw 8 = 256) (by decide : pw 3 = 8), show pw 0 = 1 from by decide]
  omega
theorem ge_8_1 (W : Int) (h0 : 0 ≤ W) : gat (fl 8) W (fl 8).length 1 = 0 := by
  show ((0 + 0) + 0) = _
  omega
theorem ge_8_2 (W : Int) (h0 : 0 ≤ W) : gat (fl 8) W (fl 8).length 2 = 0 := by
  show ((0 + 0) + 0) = _
  omega
theorem ge_8_3 (W : Int) (h0 : 0 ≤ W) : gat (fl 8) W (fl 8).length 3 = 0 := by
  show ((0 + 0) + 0) = _
  omega
theorem ge_8_4 (W : Int) (h0 : 0 ≤ W) : gat (fl 8) W (fl 8).length 4 = W % 256 * 4 := by
  show ((0 + 0) + bt W 0 8 * pw 2) = _
  rw [bt_at W h0 (by decide : pw 0 = 1) (by decide : pw 8 = 256), show pw 2 = 4 from by decide]
  omega
theorem ge_8_5 (W : Int) (h0 : 0 ≤ W) : gat (fl 8) W (fl 8).length 5 = 0 := by
  show ((0 + 0) + 0) = _
  omega
theorem ge_8_6 (W : Int) (h0 : 0 ≤ W) : gat (fl 8) W (fl 8).length 6 = 0 := by
  show ((0 + 0) + 0) = _
  omega
theorem ge_8_7 (W : Int) (h0 : 0 ≤ W) : gat (fl 8) W (fl 8).length 7 = 0 := by
  show ((0 + 0) + 0) = _
  omega
theorem ge_8_8 (W : Int) (h0 : 0 ≤ W) : gat (fl 8) W (fl 8).length 8 = 0 := by
  show ((0 + 0) + 0) = _
  omega
theorem ge_8_9 (W : Int) (h0 : 0 ≤ W) : gat (fl 8) W (fl 8).length 9 = 0 := by
  show ((0 + 0) + 0) = _
  omega
theorem rx_8 (f W : Int) (hf : 1 ≤ f) (h0 : 0 ≤ W) : fxs 8 f W (gat (fl 8) W (fl 8).length) 0 = rdOf f 8 W ∧ fxs 8 f W (gat (fl 8) W (fl 8).length) 1 = rnOf f 8 W ∧ fxs 8 f W (gat (fl 8) W (fl 8).length) 2 = rmOf f 8 W ∧ fxs 8 f W (gat (fl 8) W (fl 8).length) 3 = raOf f 8 W ∧ fxs 8 f W (gat (fl 8) W (fl 8).length) 4 = imOf f 8 W ∧ fxs 8 f W (gat (fl 8) W (fl 8).length) 5 = kdOf f 8 W ∧ fxs 8 f W (gat (fl 8) W (fl 8).length) 6 = bsOf f 8 W ∧ fxs 8 f W (gat (fl 8) W (fl 8).length) 7 = stOf f 8 W ∧ fxs 8 f W (gat (fl 8) W (fl 8).length) 8 = cdOf f 8 W ∧ fxs 8 f W (gat (fl 8) W (fl 8).length) 9 = rgOf f 8 W := by
  refine ⟨?_, ?_, ?_, ?_, ?_, ?_, ?_, ?_, ?_, ?_⟩
  · rw [fxs_o _ _ _ _ _ (by decide), ge_8_0 W h0, rd_8]
  · rw [fxs_o _ _ _ _ _ (by decide), ge_8_1 W h0, rn_8]
  · rw [fxs_2, ge_8_2 W h0, v2_no _ _ _ (by decide), rm_8]
  · rw [fxs_o _ _ _ _ _ (by decide), ge_8_3 W h0, ra_8]
  · rw [fxs_4, ge_8_4 W h0, im_8]
    exact v4_no _ _ _ (by decide)
  · rw [fxs_o _ _ _ _ _ (by decide), ge_8_5 W h0, kd_8]
  · rw [fxs_6, ge_8_5 W h0, ge_8_6 W h0, bs_8]
    exact v6_no _ _ _ (by decide)
  · rw [fxs_o _ _ _ _ _ (by decide), ge_8_7 W h0, st_8]
  · rw [fxs_o _ _ _ _ _ (by decide), ge_8_8 W h0, cd_8]
  · rw [fxs_o _ _ _ _ _ (by decide), ge_8_9 W h0, rg_8]
theorem ge_9_0 (W : Int) (h0 : 0 ≤ W) : gat (fl 9) W (fl 9).length 0 = W % 8 := by
  show (((0 + 0) + 0) + bt W 0 3 * pw 0) = _
  rw [bt_at W h0 (by decide : pw 0 = 1) (by decide : pw 3 = 8), show pw 0 = 1 from by decide]
  omega
theorem ge_9_1 (W : Int) (h0 : 0 ≤ W) : gat (fl 9) W (fl 9).length 1 = W / 8 % 8 := by
  show (((0 + 0) + bt W 3 3 * pw 0) + 0) = _
  rw [bt_at W h0 (by decide : pw 3 = 8) (by decide : pw 3 = 8), show pw 0 = 1 from by decide]
  omega
theorem ge_9_2 (W : Int) (h0 : 0 ≤ W) : gat (fl 9) W (fl 9).length 2 = 0 := by
  show (((0 + 0) + 0) + 0) = _
  omega
theorem ge_9_3 (W : Int) (h0 : 0 ≤ W) : gat (fl 9) W (fl 9).length 3 = 0 := by
  show (((0 + 0) + 0) + 0) = _
  omega
theorem ge_9_4 (W : Int) (h0 : 0 ≤ W) : gat (fl 9) W (fl 9).length 4 = W / 64 % 32 * 4 := by
  show (((0 + bt W 6 5 * pw 2) + 0) + 0) = _
  rw [bt_at W h0 (by decide : pw 6 = 64) (by decide : pw 5 = 32), show pw 2 = 4 from by decide]
  omega
theorem ge_9_5 (W : Int) (h0 : 0 ≤ W) : gat (fl 9) W (fl 9).length 5 = 0 := by
  show (((0 + 0) + 0) + 0) = _
  omega
theorem ge_9_6 (W : Int) (h0 : 0 ≤ W) : gat (fl 9) W (fl 9).length 6 = 0 := by
  show (((0 + 0) + 0) + 0) = _
  omega
theorem ge_9_7 (W : Int) (h0 : 0 ≤ W) : gat (fl 9) W (fl 9).length 7 = 0 := by
  show (((0 + 0) + 0) + 0) = _
  omega
theorem ge_9_8 (W : Int) (h0 : 0 ≤ W) : gat (fl 9) W (fl 9).length 8 = 0 := by
  show (((0 + 0) + 0) + 0) = _
  omega
theorem ge_9_9 (W : Int) (h0 : 0 ≤ W) : gat (fl 9) W (fl 9).length 9 = 0 := by
  show (((0 + 0) + 0) + 0) = _
  omega
theorem rx_9 (f W : Int) (hf : 1 ≤ f) (h0 : 0 ≤ W) : fxs 9 f W (gat (fl 9) W (fl 9).length) 0 = rdOf f 9 W ∧ fxs 9 f W (gat (fl 9) W (fl 9).length) 1 = rnOf f 9 W ∧ fxs 9 f W (gat (fl 9) W (fl 9).length) 2 = rmOf f 9 W ∧ fxs 9 f W (gat (fl 9) W (fl 9).length) 3 = raOf f 9 W ∧ fxs 9 f W (gat (fl 9) W (fl 9).length) 4 = imOf f 9 W ∧ fxs 9 f W (gat (fl 9) W (fl 9).length) 5 = kdOf f 9 W ∧ fxs 9 f W (gat (fl 9) W (fl 9).length) 6 = bsOf f 9 W ∧ fxs 9 f W (gat (fl 9) W (fl 9).length) 7 = stOf f 9 W ∧ fxs 9 f W (gat (fl 9) W (fl 9).length) 8 = cdOf f 9 W ∧ fxs 9 f W (gat (fl 9) W (fl 9).length) 9 = rgOf f 9 W := by
  refine ⟨?_, ?_, ?_, ?_, ?_, ?_, ?_, ?_, ?_, ?_⟩
  · rw [fxs_o _ _ _ _ _ (by decide), ge_9_0 W h0, rd_9]
  · rw [fxs_o _ _ _ _ _ (by decide), ge_9_1 W h0, rn_9]
  · rw [fxs_2, ge_9_2 W h0, v2_no _ _ _ (by decide), rm_9]
  · rw [fxs_o _ _ _ _ _ (by decide), ge_9_3 W h0, ra_9]
  · rw [fxs_4, ge_9_4 W h0, im_9]
    exact v4_no _ _ _ (by decide)
  · rw [fxs_o _ _ _ _ _ (by decide), ge_9_5 W h0, kd_9]
  · rw [fxs_6, ge_9_5 W h0, ge_9_6 W h0, bs_9]
    exact v6_no _ _ _ (by decide)
  · rw [fxs_o _ _ _ _ _ (by decide), ge_9_7 W h0, st_9]
  · rw [fxs_o _ _ _ _ _ (by decide), ge_9_8 W h0, cd_9]
  · rw [fxs_o _ _ _ _ _ (by decide), ge_9_9 W h0, rg_9]
theorem ge_10_0 (W : Int) (h0 : 0 ≤ W) : gat (fl 10) W (fl 10).length 0 = 0 := by
  show (0 + 0) = _
  omega
theorem ge_10_1 (W : Int) (h0 : 0 ≤ W) : gat (fl 10) W (fl 10).length 1 = 0 := by
  show (0 + 0) = _
  omega
theorem ge_10_2 (W : Int) (h0 : 0 ≤ W) : gat (fl 10) W (fl 10).length 2 = 0 := by
  show (0 + 0) = _
  omega
theorem ge_10_3 (W : Int) (h0 : 0 ≤ W) : gat (fl 10) W (fl 10).length 3 = 0 := by
  show (0 + 0) = _
  omega
theorem ge_10_4 (W : Int) (h0 : 0 ≤ W) : gat (fl 10) W (fl 10).length 4 = W % 128 * 4 := by
  show (0 + bt W 0 7 * pw 2) = _
  rw [bt_at W h0 (by decide : pw 0 = 1) (by decide : pw 7 = 128), show pw 2 = 4 from by decide]
  omega
theorem ge_10_5 (W : Int) (h0 : 0 ≤ W) : gat (fl 10) W (fl 10).length 5 = 0 := by
  show (0 + 0) = _
  omega
theorem ge_10_6 (W : Int) (h0 : 0 ≤ W) : gat (fl 10) W (fl 10).length 6 = 0 := by
  show (0 + 0) = _
  omega
theorem ge_10_7 (W : Int) (h0 : 0 ≤ W) : gat (fl 10) W (fl 10).length 7 = 0 := by
  show (0 + 0) = _
  omega
theorem ge_10_8 (W : Int) (h0 : 0 ≤ W) : gat (fl 10) W (fl 10).length 8 = 0 := by
  show (0 + 0) = _
  omega
theorem ge_10_9 (W : Int) (h0 : 0 ≤ W) : gat (fl 10) W (fl 10).length 9 = 0 := by
  show (0 + 0) = _
  omega
theorem rx_10 (f W : Int) (hf : 1 ≤ f) (h0 : 0 ≤ W) : fxs 10 f W (gat (fl 10) W (fl 10).length) 0 = rdOf f 10 W ∧ fxs 10 f W (gat (fl 10) W (fl 10).length) 1 = rnOf f 10 W ∧ fxs 10 f W (gat (fl 10) W (fl 10).length) 2 = rmOf f 10 W ∧ fxs 10 f W (gat (fl 10) W (fl 10).length) 3 = raOf f 10 W ∧ fxs 10 f W (gat (fl 10) W (fl 10).length) 4 = imOf f 10 W ∧ fxs 10 f W (gat (fl 10) W (fl 10).length) 5 = kdOf f 10 W ∧ fxs 10 f W (gat (fl 10) W (fl 10).length) 6 = bsOf f 10 W ∧ fxs 10 f W (gat (fl 10) W (fl 10).length) 7 = stOf f 10 W ∧ fxs 10 f W (gat (fl 10) W (fl 10).length) 8 = cdOf f 10 W ∧ fxs 10 f W (gat (fl 10) W (fl 10).length) 9 = rgOf f 10 W := by
  refine ⟨?_, ?_, ?_, ?_, ?_, ?_, ?_, ?_, ?_, ?_⟩
  · rw [fxs_o _ _ _ _ _ (by decide), ge_10_0 W h0, rd_10]
  · rw [fxs_o _ _ _ _ _ (by decide), ge_10_1 W h0, rn_10]
  · rw [fxs_2, ge_10_2 W h0, v2_no _ _ _ (by decide), rm_10]
  · rw [fxs_o _ _ _ _ _ (by decide), ge_10_3 W h0, ra_10]
  · rw [fxs_4, ge_10_4 W h0, im_10]
    exact v4_no _ _ _ (by decide)
  · rw [fxs_o _ _ _ _ _ (by decide), ge_10_5 W h0, kd_10]
  · rw [fxs_6, ge_10_5 W h0, ge_10_6 W h0, bs_10]
    exact v6_no _ _ _ (by decide)
  · rw [fxs_o _ _ _ _ _ (by decide), ge_10_7 W h0, st_10]
  · rw [fxs_o _ _ _ _ _ (by decide), ge_10_8 W h0, cd_10]
  · rw [fxs_o _ _ _ _ _ (by decide), ge_10_9 W h0, rg_10]
theorem ge_11_0 (W : Int) (h0 : 0 ≤ W) : gat (fl 11) W (fl 11).length 0 = 0 := by
  show ((0 + 0) + 0) = _
  omega
theorem ge_11_1 (W : Int) (h0 : 0 ≤ W) : gat (fl 11) W (fl 11).length 1 = 0 := by
  show ((0 + 0) + 0) = _
  omega
theorem ge_11_2 (W : Int) (h0 : 0 ≤ W) : gat (fl 11) W (fl 11).length 2 = 0 := by
  show ((0 + 0) + 0) = _
  omega
theorem ge_11_3 (W : Int) (h0 : 0 ≤ W) : gat (fl 11) W (fl 11).length 3 = 0 := by
  show ((0 + 0) + 0) = _
  omega
theorem ge_11_4 (W : Int) (h0 : 0 ≤ W) : gat (fl 11) W (fl 11).length 4 = 0 := by
  show ((0 + 0) + 0) = _
  omega
theorem ge_11_5 (W : Int) (h0 : 0 ≤ W) : gat (fl 11) W (fl 11).length 5 = 0 := by
  show ((0 + 0) + 0) = _
  omega
theorem ge_11_6 (W : Int) (h0 : 0 ≤ W) : gat (fl 11) W (fl 11).length 6 = 0 := by
  show ((0 + 0) + 0) = _
  omega
theorem ge_11_7 (W : Int) (h0 : 0 ≤ W) : gat (fl 11) W (fl 11).length 7 = 0 := by
  show ((0 + 0) + 0) = _
  omega
theorem ge_11_8 (W : Int) (h0 : 0 ≤ W) : gat (fl 11) W (fl 11).length 8 = 0 := by
  show ((0 + 0) + 0) = _
  omega
theorem ge_11_9 (W : Int) (h0 : 0 ≤ W) : gat (fl 11) W (fl 11).length 9 = W / 256 % 2 * 16384 + W % 256 := by
  show ((0 + bt W 8 1 * pw 14) + bt W 0 8 * pw 0) = _
  rw [bt_at W h0 (by decide : pw 8 = 256) (by decide : pw 1 = 2), bt_at W h0 (by decide : pw 0 = 1) (by decide : pw 8 = 256), show pw 14 = 16384 from by decide, show pw 0 = 1 from by decide]
  omega
theorem rx_11 (f W : Int) (hf : 1 ≤ f) (h0 : 0 ≤ W) : fxs 11 f W (gat (fl 11) W (fl 11).length) 0 = rdOf f 11 W ∧ fxs 11 f W (gat (fl 11) W (fl 11).length) 1 = rnOf f 11 W ∧ fxs 11 f W (gat (fl 11) W (fl 11).length) 2 = rmOf f 11 W ∧ fxs 11 f W (gat (fl 11) W (fl 11).length) 3 = raOf f 11 W ∧ fxs 11 f W (gat (fl 11) W (fl 11).length) 4 = imOf f 11 W ∧ fxs 11 f W (gat (fl 11) W (fl 11).length) 5 = kdOf f 11 W ∧ fxs 11 f W (gat (fl 11) W (fl 11).length) 6 = bsOf f 11 W ∧ fxs 11 f W (gat (fl 11) W (fl 11).length) 7 = stOf f 11 W ∧ fxs 11 f W (gat (fl 11) W (fl 11).length) 8 = cdOf f 11 W ∧ fxs 11 f W (gat (fl 11) W (fl 11).length) 9 = rgOf f 11 W := by
  refine ⟨?_, ?_, ?_, ?_, ?_, ?_, ?_, ?_, ?_, ?_⟩
  · rw [fxs_o _ _ _ _ _ (by decide), ge_11_0 W h0, rd_11]
  · rw [fxs_o _ _ _ _ _ (by decide), ge_11_1 W h0, rn_11]
  · rw [fxs_2, ge_11_2 W h0, v2_no _ _ _ (by decide), rm_11]
  · rw [fxs_o _ _ _ _ _ (by decide), ge_11_3 W h0, ra_11]
  · rw [fxs_4, ge_11_4 W h0, im_11]
    exact v4_no _ _ _ (by decide)
  · rw [fxs_o _ _ _ _ _ (by decide), ge_11_5 W h0, kd_11]
  · rw [fxs_6, ge_11_5 W h0, ge_11_6 W h0, bs_11]
    exact v6_no _ _ _ (by decide)
  · rw [fxs_o _ _ _ _ _ (by decide), ge_11_7 W h0, st_11]
  · rw [fxs_o _ _ _ _ _ (by decide), ge_11_8 W h0, cd_11]
  · rw [fxs_o _ _ _ _ _ (by decide), ge_11_9 W h0, rg_11]
theorem ge_12_0 (W : Int) (h0 : 0 ≤ W) : gat (fl 12) W (fl 12).length 0 = 0 := by
  show ((0 + 0) + 0) = _
  omega
theorem ge_12_1 (W : Int) (h0 : 0 ≤ W) : gat (fl 12) W (fl 12).length 1 = 0 := by
  show ((0 + 0) + 0) = _
  omega
theorem ge_12_2 (W : Int) (h0 : 0 ≤ W) : gat (fl 12) W (fl 12).length 2 = 0 := by
  show ((0 + 0) + 0) = _
  omega
theorem ge_12_3 (W : Int) (h0 : 0 ≤ W) : gat (fl 12) W (fl 12).length 3 = 0 := by
  show ((0 + 0) + 0) = _
  omega
theorem ge_12_4 (W : Int) (h0 : 0 ≤ W) : gat (fl 12) W (fl 12).length 4 = 0 := by
  show ((0 + 0) + 0) = _
  omega
theorem ge_12_5 (W : Int) (h0 : 0 ≤ W) : gat (fl 12) W (fl 12).length 5 = 0 := by
  show ((0 + 0) + 0) = _
  omega
theorem ge_12_6 (W : Int) (h0 : 0 ≤ W) : gat (fl 12) W (fl 12).length 6 = 0 := by
  show ((0 + 0) + 0) = _
  omega
theorem ge_12_7 (W : Int) (h0 : 0 ≤ W) : gat (fl 12) W (fl 12).length 7 = 0 := by
  show ((0 + 0) + 0) = _
  omega
theorem ge_12_8 (W : Int) (h0 : 0 ≤ W) : gat (fl 12) W (fl 12).length 8 = 0 := by
  show ((0 + 0) + 0) = _
  omega
theorem ge_12_9 (W : Int) (h0 : 0 ≤ W) : gat (fl 12) W (fl 12).length 9 = W / 256 % 2 * 32768 + W % 256 := by
  show ((0 + bt W 8 1 * pw 15) + bt W 0 8 * pw 0) = _
  rw [bt_at W h0 (by decide : pw 8 = 256) (by decide : pw 1 = 2), bt_at W h0 (by decide : pw 0 = 1) (by decide : pw 8 = 256), show pw 15 = 32768 from by decide, show pw 0 = 1 from by decide]
  omega
theorem rx_12 (f W : Int) (hf : 1 ≤ f) (h0 : 0 ≤ W) : fxs 12 f W (gat (fl 12) W (fl 12).length) 0 = rdOf f 12 W ∧ fxs 12 f W (gat (fl 12) W (fl 12).length) 1 = rnOf f 12 W ∧ fxs 12 f W (gat (fl 12) W (fl 12).length) 2 = rmOf f 12 W ∧ fxs 12 f W (gat (fl 12) W (fl 12).length) 3 = raOf f 12 W ∧ fxs 12 f W (gat (fl 12) W (fl 12).length) 4 = imOf f 12 W ∧ fxs 12 f W (gat (fl 12) W (fl 12).length) 5 = kdOf f 12 W ∧ fxs 12 f W (gat (fl 12) W (fl 12).length) 6 = bsOf f 12 W ∧ fxs 12 f W (gat (fl 12) W (fl 12).length) 7 = stOf f 12 W ∧ fxs 12 f W (gat (fl 12) W (fl 12).length) 8 = cdOf f 12 W ∧ fxs 12 f W (gat (fl 12) W (fl 12).length) 9 = rgOf f 12 W := by
  refine ⟨?_, ?_, ?_, ?_, ?_, ?_, ?_, ?_, ?_, ?_⟩
  · rw [fxs_o _ _ _ _ _ (by decide), ge_12_0 W h0, rd_12]
  · rw [fxs_o _ _ _ _ _ (by decide), ge_12_1 W h0, rn_12]
  · rw [fxs_2, ge_12_2 W h0, v2_no _ _ _ (by decide), rm_12]
  · rw [fxs_o _ _ _ _ _ (by decide), ge_12_3 W h0, ra_12]
  · rw [fxs_4, ge_12_4 W h0, im_12]
    exact v4_no _ _ _ (by decide)
  · rw [fxs_o _ _ _ _ _ (by decide), ge_12_5 W h0, kd_12]
  · rw [fxs_6, ge_12_5 W h0, ge_12_6 W h0, bs_12]
    exact v6_no _ _ _ (by decide)
  · rw [fxs_o _ _ _ _ _ (by decide), ge_12_7 W h0, st_12]
  · rw [fxs_o _ _ _ _ _ (by decide), ge_12_8 W h0, cd_12]
  · rw [fxs_o _ _ _ _ _ (by decide), ge_12_9 W h0, rg_12]
theorem ge_14_0 (W : Int) (h0 : 0 ≤ W) : gat (fl 14) W (fl 14).length 0 = 0 := by
  show (0 + 0) = _
  omega
theorem ge_14_1 (W : Int) (h0 : 0 ≤ W) : gat (fl 14) W (fl 14).length 1 = 0 := by
  show (0 + 0) = _
  omega
theorem ge_14_2 (W : Int) (h0 : 0 ≤ W) : gat (fl 14) W (fl 14).length 2 = 0 := by
  show (0 + 0) = _
  omega
theorem ge_14_3 (W : Int) (h0 : 0 ≤ W) : gat (fl 14) W (fl 14).length 3 = 0 := by
  show (0 + 0) = _
  omega
theorem ge_14_4 (W : Int) (h0 : 0 ≤ W) : gat (fl 14) W (fl 14).length 4 = W % 256 := by
  show (0 + bt W 0 8 * pw 0) = _
  rw [bt_at W h0 (by decide : pw 0 = 1) (by decide : pw 8 = 256), show pw 0 = 1 from by decide]
  omega
theorem ge_14_5 (W : Int) (h0 : 0 ≤ W) : gat (fl 14) W (fl 14).length 5 = 0 := by
  show (0 + 0) = _
  omega
theorem ge_14_6 (W : Int) (h0 : 0 ≤ W) : gat (fl 14) W (fl 14).length 6 = 0 := by
  show (0 + 0) = _
  omega
theorem ge_14_7 (W : Int) (h0 : 0 ≤ W) : gat (fl 14) W (fl 14).length 7 = 0 := by
  show (0 + 0) = _
  omega
theorem ge_14_8 (W : Int) (h0 : 0 ≤ W) : gat (fl 14) W (fl 14).length 8 = 0 := by
  show (0 + 0) = _
  omega
theorem ge_14_9 (W : Int) (h0 : 0 ≤ W) : gat (fl 14) W (fl 14).length 9 = 0 := by
  show (0 + 0) = _
  omega
theorem rx_14 (f W : Int) (hf : 1 ≤ f) (h0 : 0 ≤ W) : fxs 14 f W (gat (fl 14) W (fl 14).length) 0 = rdOf f 14 W ∧ fxs 14 f W (gat (fl 14) W (fl 14).length) 1 = rnOf f 14 W ∧ fxs 14 f W (gat (fl 14) W (fl 14).length) 2 = rmOf f 14 W ∧ fxs 14 f W (gat (fl 14) W (fl 14).length) 3 = raOf f 14 W ∧ fxs 14 f W (gat (fl 14) W (fl 14).length) 4 = imOf f 14 W ∧ fxs 14 f W (gat (fl 14) W (fl 14).length) 5 = kdOf f 14 W ∧ fxs 14 f W (gat (fl 14) W (fl 14).length) 6 = bsOf f 14 W ∧ fxs 14 f W (gat (fl 14) W (fl 14).length) 7 = stOf f 14 W ∧ fxs 14 f W (gat (fl 14) W (fl 14).length) 8 = cdOf f 14 W ∧ fxs 14 f W (gat (fl 14) W (fl 14).length) 9 = rgOf f 14 W := by
  refine ⟨?_, ?_, ?_, ?_, ?_, ?_, ?_, ?_, ?_, ?_⟩
  · rw [fxs_o _ _ _ _ _ (by decide), ge_14_0 W h0, rd_14]
  · rw [fxs_o _ _ _ _ _ (by decide), ge_14_1 W h0, rn_14]
  · rw [fxs_2, ge_14_2 W h0, v2_no _ _ _ (by decide), rm_14]
  · rw [fxs_o _ _ _ _ _ (by decide), ge_14_3 W h0, ra_14]
  · rw [fxs_4, ge_14_4 W h0, im_14]
    exact v4_no _ _ _ (by decide)
  · rw [fxs_o _ _ _ _ _ (by decide), ge_14_5 W h0, kd_14]
  · rw [fxs_6, ge_14_5 W h0, ge_14_6 W h0, bs_14]
    exact v6_no _ _ _ (by decide)
  · rw [fxs_o _ _ _ _ _ (by decide), ge_14_7 W h0, st_14]
  · rw [fxs_o _ _ _ _ _ (by decide), ge_14_8 W h0, cd_14]
  · rw [fxs_o _ _ _ _ _ (by decide), ge_14_9 W h0, rg_14]
theorem ge_15_0 (W : Int) (h0 : 0 ≤ W) : gat (fl 15) W (fl 15).length 0 = 0 := by
  show ((0 + 0) + 0) = _
  omega
theorem ge_15_1 (W : Int) (h0 : 0 ≤ W) : gat (fl 15) W (fl 15).length 1 = 0 := by
  show ((0 + 0) + 0) = _
  omega
theorem ge_15_2 (W : Int) (h0 : 0 ≤ W) : gat (fl 15) W (fl 15).length 2 = 0 := by
  show ((0 + 0) + 0) = _
  omega
theorem ge_15_3 (W : Int) (h0 : 0 ≤ W) : gat (fl 15) W (fl 15).length 3 = 0 := by
  show ((0 + 0) + 0) = _
  omega
theorem ge_15_4 (W : Int) (h0 : 0 ≤ W) : gat (fl 15) W (fl 15).length 4 = W % 256 * 2 := by
  show ((0 + 0) + bt W 0 8 * pw 1) = _
  rw [bt_at W h0 (by decide : pw 0 = 1) (by decide : pw 8 = 256), show pw 1 = 2 from by decide]
  omega
theorem ge_15_5 (W : Int) (h0 : 0 ≤ W) : gat (fl 15) W (fl 15).length 5 = 0 := by
  show ((0 + 0) + 0) = _
  omega
theorem ge_15_6 (W : Int) (h0 : 0 ≤ W) : gat (fl 15) W (fl 15).length 6 = 0 := by
  show ((0 + 0) + 0) = _
  omega
theorem ge_15_7 (W : Int) (h0 : 0 ≤ W) : gat (fl 15) W (fl 15).length 7 = 0 := by
  show ((0 + 0) + 0) = _
  omega
theorem ge_15_8 (W : Int) (h0 : 0 ≤ W) : gat (fl 15) W (fl 15).length 8 = W / 256 % 16 := by
  show ((0 + bt W 8 4 * pw 0) + 0) = _
  rw [bt_at W h0 (by decide : pw 8 = 256) (by decide : pw 4 = 16), show pw 0 = 1 from by decide]
  omega
theorem ge_15_9 (W : Int) (h0 : 0 ≤ W) : gat (fl 15) W (fl 15).length 9 = 0 := by
  show ((0 + 0) + 0) = _
  omega
theorem rx_15 (f W : Int) (hf : 1 ≤ f) (h0 : 0 ≤ W) : fxs 15 f W (gat (fl 15) W (fl 15).length) 0 = rdOf f 15 W ∧ fxs 15 f W (gat (fl 15) W (fl 15).length) 1 = rnOf f 15 W ∧ fxs 15 f W (gat (fl 15) W (fl 15).length) 2 = rmOf f 15 W ∧ fxs 15 f W (gat (fl 15) W (fl 15).length) 3 = raOf f 15 W ∧ fxs 15 f W (gat (fl 15) W (fl 15).length) 4 = imOf f 15 W ∧ fxs 15 f W (gat (fl 15) W (fl 15).length) 5 = kdOf f 15 W ∧ fxs 15 f W (gat (fl 15) W (fl 15).length) 6 = bsOf f 15 W ∧ fxs 15 f W (gat (fl 15) W (fl 15).length) 7 = stOf f 15 W ∧ fxs 15 f W (gat (fl 15) W (fl 15).length) 8 = cdOf f 15 W ∧ fxs 15 f W (gat (fl 15) W (fl 15).length) 9 = rgOf f 15 W := by
  refine ⟨?_, ?_, ?_, ?_, ?_, ?_, ?_, ?_, ?_, ?_⟩
  · rw [fxs_o _ _ _ _ _ (by decide), ge_15_0 W h0, rd_15]
  · rw [fxs_o _ _ _ _ _ (by decide), ge_15_1 W h0, rn_15]
  · rw [fxs_2, ge_15_2 W h0, v2_no _ _ _ (by decide), rm_15]
  · rw [fxs_o _ _ _ _ _ (by decide), ge_15_3 W h0, ra_15]
  · rw [fxs_4, ge_15_4 W h0, im_15]
    rw [v4_15]; unfold lst sgn; split <;> split <;> omega
  · rw [fxs_o _ _ _ _ _ (by decide), ge_15_5 W h0, kd_15]
  · rw [fxs_6, ge_15_5 W h0, ge_15_6 W h0, bs_15]
    exact v6_no _ _ _ (by decide)
  · rw [fxs_o _ _ _ _ _ (by decide), ge_15_7 W h0, st_15]
  · rw [fxs_o _ _ _ _ _ (by decide), ge_15_8 W h0, cd_15]
  · rw [fxs_o _ _ _ _ _ (by decide), ge_15_9 W h0, rg_15]
theorem ge_16_0 (W : Int) (h0 : 0 ≤ W) : gat (fl 16) W (fl 16).length 0 = 0 := by
  show (0 + 0) = _
  omega
theorem ge_16_1 (W : Int) (h0 : 0 ≤ W) : gat (fl 16) W (fl 16).length 1 = 0 := by
  show (0 + 0) = _
  omega
theorem ge_16_2 (W : Int) (h0 : 0 ≤ W) : gat (fl 16) W (fl 16).length 2 = 0 := by
  show (0 + 0) = _
  omega
theorem ge_16_3 (W : Int) (h0 : 0 ≤ W) : gat (fl 16) W (fl 16).length 3 = 0 := by
  show (0 + 0) = _
  omega
theorem ge_16_4 (W : Int) (h0 : 0 ≤ W) : gat (fl 16) W (fl 16).length 4 = W % 2048 * 2 := by
  show (0 + bt W 0 11 * pw 1) = _
  rw [bt_at W h0 (by decide : pw 0 = 1) (by decide : pw 11 = 2048), show pw 1 = 2 from by decide]
  omega
theorem ge_16_5 (W : Int) (h0 : 0 ≤ W) : gat (fl 16) W (fl 16).length 5 = 0 := by
  show (0 + 0) = _
  omega
theorem ge_16_6 (W : Int) (h0 : 0 ≤ W) : gat (fl 16) W (fl 16).length 6 = 0 := by
  show (0 + 0) = _
  omega
theorem ge_16_7 (W : Int) (h0 : 0 ≤ W) : gat (fl 16) W (fl 16).length 7 = 0 := by
  show (0 + 0) = _
  omega
theorem ge_16_8 (W : Int) (h0 : 0 ≤ W) : gat (fl 16) W (fl 16).length 8 = 0 := by
  show (0 + 0) = _
  omega
theorem ge_16_9 (W : Int) (h0 : 0 ≤ W) : gat (fl 16) W (fl 16).length 9 = 0 := by
  show (0 + 0) = _
  omega
theorem rx_16 (f W : Int) (hf : 1 ≤ f) (h0 : 0 ≤ W) : fxs 16 f W (gat (fl 16) W (fl 16).length) 0 = rdOf f 16 W ∧ fxs 16 f W (gat (fl 16) W (fl 16).length) 1 = rnOf f 16 W ∧ fxs 16 f W (gat (fl 16) W (fl 16).length) 2 = rmOf f 16 W ∧ fxs 16 f W (gat (fl 16) W (fl 16).length) 3 = raOf f 16 W ∧ fxs 16 f W (gat (fl 16) W (fl 16).length) 4 = imOf f 16 W ∧ fxs 16 f W (gat (fl 16) W (fl 16).length) 5 = kdOf f 16 W ∧ fxs 16 f W (gat (fl 16) W (fl 16).length) 6 = bsOf f 16 W ∧ fxs 16 f W (gat (fl 16) W (fl 16).length) 7 = stOf f 16 W ∧ fxs 16 f W (gat (fl 16) W (fl 16).length) 8 = cdOf f 16 W ∧ fxs 16 f W (gat (fl 16) W (fl 16).length) 9 = rgOf f 16 W := by
  refine ⟨?_, ?_, ?_, ?_, ?_, ?_, ?_, ?_, ?_, ?_⟩
  · rw [fxs_o _ _ _ _ _ (by decide), ge_16_0 W h0, rd_16]
  · rw [fxs_o _ _ _ _ _ (by decide), ge_16_1 W h0, rn_16]
  · rw [fxs_2, ge_16_2 W h0, v2_no _ _ _ (by decide), rm_16]
  · rw [fxs_o _ _ _ _ _ (by decide), ge_16_3 W h0, ra_16]
  · rw [fxs_4, ge_16_4 W h0, im_16]
    rw [v4_16]; unfold lst sgn; split <;> split <;> omega
  · rw [fxs_o _ _ _ _ _ (by decide), ge_16_5 W h0, kd_16]
  · rw [fxs_6, ge_16_5 W h0, ge_16_6 W h0, bs_16]
    exact v6_no _ _ _ (by decide)
  · rw [fxs_o _ _ _ _ _ (by decide), ge_16_7 W h0, st_16]
  · rw [fxs_o _ _ _ _ _ (by decide), ge_16_8 W h0, cd_16]
  · rw [fxs_o _ _ _ _ _ (by decide), ge_16_9 W h0, rg_16]
theorem ge_17_0 (W : Int) (h0 : 0 ≤ W) : gat (fl 17) W (fl 17).length 0 = W / 256 % 16 := by
  show (((((0 + 0) + 0) + 0) + 0) + bt W 8 4 * pw 0) = _
  rw [bt_at W h0 (by decide : pw 8 = 256) (by decide : pw 4 = 16), show pw 0 = 1 from by decide]
  omega
theorem ge_17_1 (W : Int) (h0 : 0 ≤ W) : gat (fl 17) W (fl 17).length 1 = 0 := by
  show (((((0 + 0) + 0) + 0) + 0) + 0) = _
  omega
theorem ge_17_2 (W : Int) (h0 : 0 ≤ W) : gat (fl 17) W (fl 17).length 2 = 0 := by
  show (((((0 + 0) + 0) + 0) + 0) + 0) = _
  omega
theorem ge_17_3 (W : Int) (h0 : 0 ≤ W) : gat (fl 17) W (fl 17).length 3 = 0 := by
  show (((((0 + 0) + 0) + 0) + 0) + 0) = _
  omega
theorem ge_17_4 (W : Int) (h0 : 0 ≤ W) : gat (fl 17) W (fl 17).length 4 = W / 67108864 % 2 * 2048 + W / 65536 % 16 * 4096 + W / 4096 % 8 * 256 + W % 256 := by
  show (((((0 + bt W 26 1 * pw 11) + bt W 16 4 * pw 12) + bt W 12 3 * pw 8) + bt W 0 8 * pw 0) + 0) = _
  rw [bt_at W h0 (by decide : pw 26 = 67108864) (by decide : pw 1 = 2), bt_at W h0 (by decide : pw 16 = 65536) (by decide : pw 4 = 16), bt_at W h0 (by decide : pw 12 = 4096) (by decide : pw 3 = 8), bt_at W h0 (by decide : pw 0 = 1) (by decide : pw 8 = 256), show pw 11 = 2048 from by decide, show pw 12 = 4096 from by decide, show pw 8 = 256 from by decide, show pw 0 = 1 from by decide]
  omega
theorem ge_17_5 (W : Int) (h0 : 0 ≤ W) : gat (fl 17) W (fl 17).length 5 = 0 := by
  show (((((0 + 0) + 0) + 0) + 0) + 0) = _
  omega
theorem ge_17_6 (W : Int) (h0 : 0 ≤ W) : gat (fl 17) W (fl 17).length 6 = 0 := by
  show (((((0 + 0) + 0) + 0) + 0) + 0) = _
  omega
theorem ge_17_7 (W : Int) (h0 : 0 ≤ W) : gat (fl 17) W (fl 17).length 7 = 0 := by
  show (((((0 + 0) + 0) + 0) + 0) + 0) = _
  omega
theorem ge_17_8 (W : Int) (h0 : 0 ≤ W) : gat (fl 17) W (fl 17).length 8 = 0 := by
  show (((((0 + 0) + 0) + 0) + 0) + 0) = _
  omega
theorem ge_17_9 (W : Int) (h0 : 0 ≤ W) : gat (fl 17) W (fl 17).length 9 = 0 := by
  show (((((0 + 0) + 0) + 0) + 0) + 0) = _
  omega
theorem rx_17 (f W : Int) (hf : 1 ≤ f) (h0 : 0 ≤ W) : fxs 17 f W (gat (fl 17) W (fl 17).length) 0 = rdOf f 17 W ∧ fxs 17 f W (gat (fl 17) W (fl 17).length) 1 = rnOf f 17 W ∧ fxs 17 f W (gat (fl 17) W (fl 17).length) 2 = rmOf f 17 W ∧ fxs 17 f W (gat (fl 17) W (fl 17).length) 3 = raOf f 17 W ∧ fxs 17 f W (gat (fl 17) W (fl 17).length) 4 = imOf f 17 W ∧ fxs 17 f W (gat (fl 17) W (fl 17).length) 5 = kdOf f 17 W ∧ fxs 17 f W (gat (fl 17) W (fl 17).length) 6 = bsOf f 17 W ∧ fxs 17 f W (gat (fl 17) W (fl 17).length) 7 = stOf f 17 W ∧ fxs 17 f W (gat (fl 17) W (fl 17).length) 8 = cdOf f 17 W ∧ fxs 17 f W (gat (fl 17) W (fl 17).length) 9 = rgOf f 17 W := by
  refine ⟨?_, ?_, ?_, ?_, ?_, ?_, ?_, ?_, ?_, ?_⟩
  · rw [fxs_o _ _ _ _ _ (by decide), ge_17_0 W h0, rd_17]
  · rw [fxs_o _ _ _ _ _ (by decide), ge_17_1 W h0, rn_17]
  · rw [fxs_2, ge_17_2 W h0, v2_no _ _ _ (by decide), rm_17]
  · rw [fxs_o _ _ _ _ _ (by decide), ge_17_3 W h0, ra_17]
  · rw [fxs_4, ge_17_4 W h0, im_17]
    exact v4_no _ _ _ (by decide)
  · rw [fxs_o _ _ _ _ _ (by decide), ge_17_5 W h0, kd_17]
  · rw [fxs_6, ge_17_5 W h0, ge_17_6 W h0, bs_17]
    exact v6_no _ _ _ (by decide)
  · rw [fxs_o _ _ _ _ _ (by decide), ge_17_7 W h0, st_17]
  · rw [fxs_o _ _ _ _ _ (by decide), ge_17_8 W h0, cd_17]
  · rw [fxs_o _ _ _ _ _ (by decide), ge_17_9 W h0, rg_17]
theorem ge_18_0 (W : Int) (h0 : 0 ≤ W) : gat (fl 18) W (fl 18).length 0 = W / 256 % 16 := by
  show ((((((0 + 0) + 0) + 0) + 0) + 0) + bt W 8 4 * pw 0) = _
  rw [bt_at W h0 (by decide : pw 8 = 256) (by decide : pw 4 = 16), show pw 0 = 1 from by decide]
  omega
theorem ge_18_1 (W : Int) (h0 : 0 ≤ W) : gat (fl 18) W (fl 18).length 1 = W / 65536 % 16 := by
  show ((((((0 + 0) + 0) + 0) + 0) + bt W 16 4 * pw 0) + 0) = _
  rw [bt_at W h0 (by decide : pw 16 = 65536) (by decide : pw 4 = 16), show pw 0 = 1 from by decide]
  omega
theorem ge_18_2 (W : Int) (h0 : 0 ≤ W) : gat (fl 18) W (fl 18).length 2 = 0 := by
  show ((((((0 + 0) + 0) + 0) + 0) + 0) + 0) = _
  omega
theorem ge_18_3 (W : Int) (h0 : 0 ≤ W) : gat (fl 18) W (fl 18).length 3 = 0 := by
  show ((((((0 + 0) + 0) + 0) + 0) + 0) + 0) = _
  omega
theorem ge_18_4 (W : Int) (h0 : 0 ≤ W) : gat (fl 18) W (fl 18).length 4 = W / 67108864 % 2 * 2048 + W / 4096 % 8 * 256 + W % 256 := by
  show ((((((0 + bt W 26 1 * pw 11) + bt W 12 3 * pw 8) + bt W 0 8 * pw 0) + 0) + 0) + 0) = _
  rw [bt_at W h0 (by decide : pw 26 = 67108864) (by decide : pw 1 = 2), bt_at W h0 (by decide : pw 12 = 4096) (by decide : pw 3 = 8), bt_at W h0 (by decide : pw 0 = 1) (by decide : pw 8 = 256), show pw 11 = 2048 from by decide, show pw 8 = 256 from by decide, show pw 0 = 1 from by decide]
  omega
theorem ge_18_5 (W : Int) (h0 : 0 ≤ W) : gat (fl 18) W (fl 18).length 5 = 0 := by
  show ((((((0 + 0) + 0) + 0) + 0) + 0) + 0) = _
  omega
theorem ge_18_6 (W : Int) (h0 : 0 ≤ W) : gat (fl 18) W (fl 18).length 6 = 0 := by
  show ((((((0 + 0) + 0) + 0) + 0) + 0) + 0) = _
  omega
theorem ge_18_7 (W : Int) (h0 : 0 ≤ W) : gat (fl 18) W (fl 18).length 7 = W / 1048576 % 2 := by
  show ((((((0 + 0) + 0) + 0) + bt W 20 1 * pw 0) + 0) + 0) = _
  rw [bt_at W h0 (by decide : pw 20 = 1048576) (by decide : pw 1 = 2), show pw 0 = 1 from by decide]
  omega
theorem ge_18_8 (W : Int) (h0 : 0 ≤ W) : gat (fl 18) W (fl 18).length 8 = 0 := by
  show ((((((0 + 0) + 0) + 0) + 0) + 0) + 0) = _
  omega
theorem ge_18_9 (W : Int) (h0 : 0 ≤ W) : gat (fl 18) W (fl 18).length 9 = 0 := by
  show ((((((0 + 0) + 0) + 0) + 0) + 0) + 0) = _
  omega
theorem rx_18 (f W : Int) (hf : 1 ≤ f) (h0 : 0 ≤ W) : fxs 18 f W (gat (fl 18) W (fl 18).length) 0 = rdOf f 18 W ∧ fxs 18 f W (gat (fl 18) W (fl 18).length) 1 = rnOf f 18 W ∧ fxs 18 f W (gat (fl 18) W (fl 18).length) 2 = rmOf f 18 W ∧ fxs 18 f W (gat (fl 18) W (fl 18).length) 3 = raOf f 18 W ∧ fxs 18 f W (gat (fl 18) W (fl 18).length) 4 = imOf f 18 W ∧ fxs 18 f W (gat (fl 18) W (fl 18).length) 5 = kdOf f 18 W ∧ fxs 18 f W (gat (fl 18) W (fl 18).length) 6 = bsOf f 18 W ∧ fxs 18 f W (gat (fl 18) W (fl 18).length) 7 = stOf f 18 W ∧ fxs 18 f W (gat (fl 18) W (fl 18).length) 8 = cdOf f 18 W ∧ fxs 18 f W (gat (fl 18) W (fl 18).length) 9 = rgOf f 18 W := by
  refine ⟨?_, ?_, ?_, ?_, ?_, ?_, ?_, ?_, ?_, ?_⟩
  · rw [fxs_o _ _ _ _ _ (by decide), ge_18_0 W h0, rd_18]
  · rw [fxs_o _ _ _ _ _ (by decide), ge_18_1 W h0, rn_18]
  · rw [fxs_2, ge_18_2 W h0, v2_no _ _ _ (by decide), rm_18]
  · rw [fxs_o _ _ _ _ _ (by decide), ge_18_3 W h0, ra_18]
  · rw [fxs_4, ge_18_4 W h0, im_18]
    exact v4_no _ _ _ (by decide)
  · rw [fxs_o _ _ _ _ _ (by decide), ge_18_5 W h0, kd_18]
  · rw [fxs_6, ge_18_5 W h0, ge_18_6 W h0, bs_18]
    exact v6_no _ _ _ (by decide)
  · rw [fxs_o _ _ _ _ _ (by decide), ge_18_7 W h0, st_18]
  · rw [fxs_o _ _ _ _ _ (by decide), ge_18_8 W h0, cd_18]
  · rw [fxs_o _ _ _ _ _ (by decide), ge_18_9 W h0, rg_18]
theorem ge_19_0 (W : Int) (h0 : 0 ≤ W) : gat (fl 19) W (fl 19).length 0 = W / 256 % 16 := by
  show (((((0 + 0) + 0) + 0) + 0) + bt W 8 4 * pw 0) = _
  rw [bt_at W h0 (by decide : pw 8 = 256) (by decide : pw 4 = 16), show pw 0 = 1 from by decide]
  omega
theorem ge_19_1 (W : Int) (h0 : 0 ≤ W) : gat (fl 19) W (fl 19).length 1 = 0 := by
  show (((((0 + 0) + 0) + 0) + 0) + 0) = _
  omega
theorem ge_19_2 (W : Int) (h0 : 0 ≤ W) : gat (fl 19) W (fl 19).length 2 = 0 := by
  show (((((0 + 0) + 0) + 0) + 0) + 0) = _
  omega
theorem ge_19_3 (W : Int) (h0 : 0 ≤ W) : gat (fl 19) W (fl 19).length 3 = 0 := by
  show (((((0 + 0) + 0) + 0) + 0) + 0) = _
  omega
theorem ge_19_4 (W : Int) (h0 : 0 ≤ W) : gat (fl 19) W (fl 19).length 4 = W / 67108864 % 2 * 2048 + W / 4096 % 8 * 256 + W % 256 := by
  show (((((0 + bt W 26 1 * pw 11) + bt W 12 3 * pw 8) + bt W 0 8 * pw 0) + 0) + 0) = _
  rw [bt_at W h0 (by decide : pw 26 = 67108864) (by decide : pw 1 = 2), bt_at W h0 (by decide : pw 12 = 4096) (by decide : pw 3 = 8), bt_at W h0 (by decide : pw 0 = 1) (by decide : pw 8 = 256), show pw 11 = 2048 from by decide, show pw 8 = 256 from by decide, show pw 0 = 1 from by decide]
  omega
theorem ge_19_5 (W : Int) (h0 : 0 ≤ W) : gat (fl 19) W (fl 19).length 5 = 0 := by
  show (((((0 + 0) + 0) + 0) + 0) + 0) = _
  omega
theorem ge_19_6 (W : Int) (h0 : 0 ≤ W) : gat (fl 19) W (fl 19).length 6 = 0 := by
  show (((((0 + 0) + 0) + 0) + 0) + 0) = _
  omega
theorem ge_19_7 (W : Int) (h0 : 0 ≤ W) : gat (fl 19) W (fl 19).length 7 = W / 1048576 % 2 := by
  show (((((0 + 0) + 0) + 0) + bt W 20 1 * pw 0) + 0) = _
  rw [bt_at W h0 (by decide : pw 20 = 1048576) (by decide : pw 1 = 2), show pw 0 = 1 from by decide]
  omega
theorem ge_19_8 (W : Int) (h0 : 0 ≤ W) : gat (fl 19) W (fl 19).length 8 = 0 := by
  show (((((0 + 0) + 0) + 0) + 0) + 0) = _
  omega
theorem ge_19_9 (W : Int) (h0 : 0 ≤ W) : gat (fl 19) W (fl 19).length 9 = 0 := by
  show (((((0 + 0) + 0) + 0) + 0) + 0) = _
  omega
theorem rx_19 (f W : Int) (hf : 1 ≤ f) (h0 : 0 ≤ W) : fxs 19 f W (gat (fl 19) W (fl 19).length) 0 = rdOf f 19 W ∧ fxs 19 f W (gat (fl 19) W (fl 19).length) 1 = rnOf f 19 W ∧ fxs 19 f W (gat (fl 19) W (fl 19).length) 2 = rmOf f 19 W ∧ fxs 19 f W (gat (fl 19) W (fl 19).length) 3 = raOf f 19 W ∧ fxs 19 f W (gat (fl 19) W (fl 19).length) 4 = imOf f 19 W ∧ fxs 19 f W (gat (fl 19) W (fl 19).length) 5 = kdOf f 19 W ∧ fxs 19 f W (gat (fl 19) W (fl 19).length) 6 = bsOf f 19 W ∧ fxs 19 f W (gat (fl 19) W (fl 19).length) 7 = stOf f 19 W ∧ fxs 19 f W (gat (fl 19) W (fl 19).length) 8 = cdOf f 19 W ∧ fxs 19 f W (gat (fl 19) W (fl 19).length) 9 = rgOf f 19 W := by
  refine ⟨?_, ?_, ?_, ?_, ?_, ?_, ?_, ?_, ?_, ?_⟩
  · rw [fxs_o _ _ _ _ _ (by decide), ge_19_0 W h0, rd_19]
  · rw [fxs_o _ _ _ _ _ (by decide), ge_19_1 W h0, rn_19]
  · rw [fxs_2, ge_19_2 W h0, v2_no _ _ _ (by decide), rm_19]
  · rw [fxs_o _ _ _ _ _ (by decide), ge_19_3 W h0, ra_19]
  · rw [fxs_4, ge_19_4 W h0, im_19]
    exact v4_no _ _ _ (by decide)
  · rw [fxs_o _ _ _ _ _ (by decide), ge_19_5 W h0, kd_19]
  · rw [fxs_6, ge_19_5 W h0, ge_19_6 W h0, bs_19]
    exact v6_no _ _ _ (by decide)
  · rw [fxs_o _ _ _ _ _ (by decide), ge_19_7 W h0, st_19]
  · rw [fxs_o _ _ _ _ _ (by decide), ge_19_8 W h0, cd_19]
  · rw [fxs_o _ _ _ _ _ (by decide), ge_19_9 W h0, rg_19]
theorem ge_20_0 (W : Int) (h0 : 0 ≤ W) : gat (fl 20) W (fl 20).length 0 = 0 := by
  show ((((0 + 0) + 0) + 0) + 0) = _
  omega
theorem ge_20_1 (W : Int) (h0 : 0 ≤ W) : gat (fl 20) W (fl 20).length 1 = W / 65536 % 16 := by
  show ((((0 + 0) + 0) + 0) + bt W 16 4 * pw 0) = _
  rw [bt_at W h0 (by decide : pw 16 = 65536) (by decide : pw 4 = 16), show pw 0 = 1 from by decide]
  omega
theorem ge_20_2 (W : Int) (h0 : 0 ≤ W) : gat (fl 20) W (fl 20).length 2 = 0 := by
  show ((((0 + 0) + 0) + 0) + 0) = _
  omega
theorem ge_20_3 (W : Int) (h0 : 0 ≤ W) : gat (fl 20) W (fl 20).length 3 = 0 := by
  show ((((0 + 0) + 0) + 0) + 0) = _
  omega
theorem ge_20_4 (W : Int) (h0 : 0 ≤ W) : gat (fl 20) W (fl 20).length 4 = W / 67108864 % 2 * 2048 + W / 4096 % 8 * 256 + W % 256 := by
  show ((((0 + bt W 26 1 * pw 11) + bt W 12 3 * pw 8) + bt W 0 8 * pw 0) + 0) = _
  rw [bt_at W h0 (by decide : pw 26 = 67108864) (by decide : pw 1 = 2), bt_at W h0 (by decide : pw 12 = 4096) (by decide : pw 3 = 8), bt_at W h0 (by decide : pw 0 = 1) (by decide : pw 8 = 256), show pw 11 = 2048 from by decide, show pw 8 = 256 from by decide, show pw 0 = 1 from by decide]
  omega
theorem ge_20_5 (W : Int) (h0 : 0 ≤ W) : gat (fl 20) W (fl 20).length 5 = 0 := by
  show ((((0 + 0) + 0) + 0) + 0) = _
  omega
theorem ge_20_6 (W : Int) (h0 : 0 ≤ W) : gat (fl 20) W (fl 20).length 6 = 0 := by
  show ((((0 + 0) + 0) + 0) + 0) = _
  omega
theorem ge_20_7 (W : Int) (h0 : 0 ≤ W) : gat (fl 20) W (fl 20).length 7 = 0 := by
  show ((((0 + 0) + 0) + 0) + 0) = _
  omega
theorem ge_20_8 (W : Int) (h0 : 0 ≤ W) : gat (fl 20) W (fl 20).length 8 = 0 := by
  show ((((0 + 0) + 0) + 0) + 0) = _
  omega
theorem ge_20_9 (W : Int) (h0 : 0 ≤ W) : gat (fl 20) W (fl 20).length 9 = 0 := by
  show ((((0 + 0) + 0) + 0) + 0) = _
  omega
theorem rx_20 (f W : Int) (hf : 1 ≤ f) (h0 : 0 ≤ W) : fxs 20 f W (gat (fl 20) W (fl 20).length) 0 = rdOf f 20 W ∧ fxs 20 f W (gat (fl 20) W (fl 20).length) 1 = rnOf f 20 W ∧ fxs 20 f W (gat (fl 20) W (fl 20).length) 2 = rmOf f 20 W ∧ fxs 20 f W (gat (fl 20) W (fl 20).length) 3 = raOf f 20 W ∧ fxs 20 f W (gat (fl 20) W (fl 20).length) 4 = imOf f 20 W ∧ fxs 20 f W (gat (fl 20) W (fl 20).length) 5 = kdOf f 20 W ∧ fxs 20 f W (gat (fl 20) W (fl 20).length) 6 = bsOf f 20 W ∧ fxs 20 f W (gat (fl 20) W (fl 20).length) 7 = stOf f 20 W ∧ fxs 20 f W (gat (fl 20) W (fl 20).length) 8 = cdOf f 20 W ∧ fxs 20 f W (gat (fl 20) W (fl 20).length) 9 = rgOf f 20 W := by
  refine ⟨?_, ?_, ?_, ?_, ?_, ?_, ?_, ?_, ?_, ?_⟩
  · rw [fxs_o _ _ _ _ _ (by decide), ge_20_0 W h0, rd_20]
  · rw [fxs_o _ _ _ _ _ (by decide), ge_20_1 W h0, rn_20]
  · rw [fxs_2, ge_20_2 W h0, v2_no _ _ _ (by decide), rm_20]
  · rw [fxs_o _ _ _ _ _ (by decide), ge_20_3 W h0, ra_20]
  · rw [fxs_4, ge_20_4 W h0, im_20]
    exact v4_no _ _ _ (by decide)
  · rw [fxs_o _ _ _ _ _ (by decide), ge_20_5 W h0, kd_20]
  · rw [fxs_6, ge_20_5 W h0, ge_20_6 W h0, bs_20]
    exact v6_no _ _ _ (by decide)
  · rw [fxs_o _ _ _ _ _ (by decide), ge_20_7 W h0, st_20]
  · rw [fxs_o _ _ _ _ _ (by decide), ge_20_8 W h0, cd_20]
  · rw [fxs_o _ _ _ _ _ (by decide), ge_20_9 W h0, rg_20]
theorem ge_21_0 (W : Int) (h0 : 0 ≤ W) : gat (fl 21) W (fl 21).length 0 = W / 256 % 16 := by
  show (((((((0 + 0) + 0) + 0) + 0) + 0) + bt W 8 4 * pw 0) + 0) = _
  rw [bt_at W h0 (by decide : pw 8 = 256) (by decide : pw 4 = 16), show pw 0 = 1 from by decide]
  omega
theorem ge_21_1 (W : Int) (h0 : 0 ≤ W) : gat (fl 21) W (fl 21).length 1 = W / 65536 % 16 := by
  show (((((((0 + 0) + 0) + 0) + 0) + bt W 16 4 * pw 0) + 0) + 0) = _
  rw [bt_at W h0 (by decide : pw 16 = 65536) (by decide : pw 4 = 16), show pw 0 = 1 from by decide]
  omega
theorem ge_21_2 (W : Int) (h0 : 0 ≤ W) : gat (fl 21) W (fl 21).length 2 = W % 16 := by
  show (((((((0 + 0) + 0) + 0) + 0) + 0) + 0) + bt W 0 4 * pw 0) = _
  rw [bt_at W h0 (by decide : pw 0 = 1) (by decide : pw 4 = 16), show pw 0 = 1 from by decide]
  omega
theorem ge_21_3 (W : Int) (h0 : 0 ≤ W) : gat (fl 21) W (fl 21).length 3 = 0 := by
  show (((((((0 + 0) + 0) + 0) + 0) + 0) + 0) + 0) = _
  omega
theorem ge_21_4 (W : Int) (h0 : 0 ≤ W) : gat (fl 21) W (fl 21).length 4 = 0 := by
  show (((((((0 + 0) + 0) + 0) + 0) + 0) + 0) + 0) = _
  omega
theorem ge_21_5 (W : Int) (h0 : 0 ≤ W) : gat (fl 21) W (fl 21).length 5 = W / 16 % 4 := by
  show (((((((0 + 0) + 0) + bt W 4 2 * pw 0) + 0) + 0) + 0) + 0) = _
  rw [bt_at W h0 (by decide : pw 4 = 16) (by decide : pw 2 = 4), show pw 0 = 1 from by decide]
  omega
theorem ge_21_6 (W : Int) (h0 : 0 ≤ W) : gat (fl 21) W (fl 21).length 6 = W / 4096 % 8 * 4 + W / 64 % 4 := by
  show (((((((0 + bt W 12 3 * pw 2) + bt W 6 2 * pw 0) + 0) + 0) + 0) + 0) + 0) = _
  rw [bt_at W h0 (by decide : pw 12 = 4096) (by decide : pw 3 = 8), bt_at W h0 (by decide : pw 6 = 64) (by decide : pw 2 = 4), show pw 2 = 4 from by decide, show pw 0 = 1 from by decide]
  omega
theorem ge_21_7 (W : Int) (h0 : 0 ≤ W) : gat (fl 21) W (fl 21).length 7 = W / 1048576 % 2 := by
  show (((((((0 + 0) + 0) + 0) + bt W 20 1 * pw 0) + 0) + 0) + 0) = _
  rw [bt_at W h0 (by decide : pw 20 = 1048576) (by decide : pw 1 = 2), show pw 0 = 1 from by decide]
  omega
theorem ge_21_8 (W : Int) (h0 : 0 ≤ W) : gat (fl 21) W (fl 21).length 8 = 0 := by
  show (((((((0 + 0) + 0) + 0) + 0) + 0) + 0) + 0) = _
  omega
theorem ge_21_9 (W : Int) (h0 : 0 ≤ W) : gat (fl 21) W (fl 21).length 9 = 0 := by
  show (((((((0 + 0) + 0) + 0) + 0) + 0) + 0) + 0) = _
  omega
theorem rx_21 (f W : Int) (hf : 1 ≤ f) (h0 : 0 ≤ W) : fxs 21 f W (gat (fl 21) W (fl 21).length) 0 = rdOf f 21 W ∧ fxs 21 f W (gat (fl 21) W (fl 21).length) 1 = rnOf f 21 W ∧ fxs 21 f W (gat (fl 21) W (fl 21).length) 2 = rmOf f 21 W ∧ fxs 21 f W (gat (fl 21) W (fl 21).length) 3 = raOf f 21 W ∧ fxs 21 f W (gat (fl 21) W (fl 21).length) 4 = imOf f 21 W ∧ fxs 21 f W (gat (fl 21) W (fl 21).length) 5 = kdOf f 21 W ∧ fxs 21 f W (gat (fl 21) W (fl 21).length) 6 = bsOf f 21 W ∧ fxs 21 f W (gat (fl 21) W (fl 21).length) 7 = stOf f 21 W ∧ fxs 21 f W (gat (fl 21) W (fl 21).length) 8 = cdOf f 21 W ∧ fxs 21 f W (gat (fl 21) W (fl 21).length) 9 = rgOf f 21 W := by
  refine ⟨?_, ?_, ?_, ?_, ?_, ?_, ?_, ?_, ?_, ?_⟩
  · rw [fxs_o _ _ _ _ _ (by decide), ge_21_0 W h0, rd_21]
  · rw [fxs_o _ _ _ _ _ (by decide), ge_21_1 W h0, rn_21]
  · rw [fxs_2, ge_21_2 W h0, v2_no _ _ _ (by decide), rm_21]
  · rw [fxs_o _ _ _ _ _ (by decide), ge_21_3 W h0, ra_21]
  · rw [fxs_4, ge_21_4 W h0, im_21]
    exact v4_no _ _ _ (by decide)
  · rw [fxs_o _ _ _ _ _ (by decide), ge_21_5 W h0, kd_21]
  · rw [fxs_6, ge_21_5 W h0, ge_21_6 W h0, bs_21]
    rw [v6_yes _ _ _ (by decide)]
  · rw [fxs_o _ _ _ _ _ (by decide), ge_21_7 W h0, st_21]
  · rw [fxs_o _ _ _ _ _ (by decide), ge_21_8 W h0, cd_21]
  · rw [fxs_o _ _ _ _ _ (by decide), ge_21_9 W h0, rg_21]
theorem ge_22_0 (W : Int) (h0 : 0 ≤ W) : gat (fl 22) W (fl 22).length 0 = W / 256 % 16 := by
  show ((((((0 + 0) + 0) + 0) + 0) + bt W 8 4 * pw 0) + 0) = _
  rw [bt_at W h0 (by decide : pw 8 = 256) (by decide : pw 4 = 16), show pw 0 = 1 from by decide]
  omega
theorem ge_22_1 (W : Int) (h0 : 0 ≤ W) : gat (fl 22) W (fl 22).length 1 = 0 := by
  show ((((((0 + 0) + 0) + 0) + 0) + 0) + 0) = _
  omega
theorem ge_22_2 (W : Int) (h0 : 0 ≤ W) : gat (fl 22) W (fl 22).length 2 = W % 16 := by
  show ((((((0 + 0) + 0) + 0) + 0) + 0) + bt W 0 4 * pw 0) = _
  rw [bt_at W h0 (by decide : pw 0 = 1) (by decide : pw 4 = 16), show pw 0 = 1 from by decide]
  omega
theorem ge_22_3 (W : Int) (h0 : 0 ≤ W) : gat (fl 22) W (fl 22).length 3 = 0 := by
  show ((((((0 + 0) + 0) + 0) + 0) + 0) + 0) = _
  omega
theorem ge_22_4 (W : Int) (h0 : 0 ≤ W) : gat (fl 22) W (fl 22).length 4 = 0 := by
  show ((((((0 + 0) + 0) + 0) + 0) + 0) + 0) = _
  omega
theorem ge_22_5 (W : Int) (h0 : 0 ≤ W) : gat (fl 22) W (fl 22).length 5 = W / 16 % 4 := by
  show ((((((0 + 0) + 0) + bt W 4 2 * pw 0) + 0) + 0) + 0) = _
  rw [bt_at W h0 (by decide : pw 4 = 16) (by decide : pw 2 = 4), show pw 0 = 1 from by decide]
  omega
theorem ge_22_6 (W : Int) (h0 : 0 ≤ W) : gat (fl 22) W (fl 22).length 6 = W / 4096 % 8 * 4 + W / 64 % 4 := by
  show ((((((0 + bt W 12 3 * pw 2) + bt W 6 2 * pw 0) + 0) + 0) + 0) + 0) = _
  rw [bt_at W h0 (by decide : pw 12 = 4096) (by decide : pw 3 = 8), bt_at W h0 (by decide : pw 6 = 64) (by decide : pw 2 = 4), show pw 2 = 4 from by decide, show pw 0 = 1 from by decide]
  omega
theorem ge_22_7 (W : Int) (h0 : 0 ≤ W) : gat (fl 22) W (fl 22).length 7 = W / 1048576 % 2 := by
  show ((((((0 + 0) + 0) + 0) + bt W 20 1 * pw 0) + 0) + 0) = _
  rw [bt_at W h0 (by decide : pw 20 = 1048576) (by decide : pw 1 = 2), show pw 0 = 1 from by decide]
  omega
theorem ge_22_8 (W : Int) (h0 : 0 ≤ W) : gat (fl 22) W (fl 22).length 8 = 0 := by
  show ((((((0 + 0) + 0) + 0) + 0) + 0) + 0) = _
  omega
theorem ge_22_9 (W : Int) (h0 : 0 ≤ W) : gat (fl 22) W (fl 22).length 9 = 0 := by
  show ((((((0 + 0) + 0) + 0) + 0) + 0) + 0) = _
  omega
theorem rx_22 (f W : Int) (hf : 1 ≤ f) (h0 : 0 ≤ W) : fxs 22 f W (gat (fl 22) W (fl 22).length) 0 = rdOf f 22 W ∧ fxs 22 f W (gat (fl 22) W (fl 22).length) 1 = rnOf f 22 W ∧ fxs 22 f W (gat (fl 22) W (fl 22).length) 2 = rmOf f 22 W ∧ fxs 22 f W (gat (fl 22) W (fl 22).length) 3 = raOf f 22 W ∧ fxs 22 f W (gat (fl 22) W (fl 22).length) 4 = imOf f 22 W ∧ fxs 22 f W (gat (fl 22) W (fl 22).length) 5 = kdOf f 22 W ∧ fxs 22 f W (gat (fl 22) W (fl 22).length) 6 = bsOf f 22 W ∧ fxs 22 f W (gat (fl 22) W (fl 22).length) 7 = stOf f 22 W ∧ fxs 22 f W (gat (fl 22) W (fl 22).length) 8 = cdOf f 22 W ∧ fxs 22 f W (gat (fl 22) W (fl 22).length) 9 = rgOf f 22 W := by
  refine ⟨?_, ?_, ?_, ?_, ?_, ?_, ?_, ?_, ?_, ?_⟩
  · rw [fxs_o _ _ _ _ _ (by decide), ge_22_0 W h0, rd_22]
  · rw [fxs_o _ _ _ _ _ (by decide), ge_22_1 W h0, rn_22]
  · rw [fxs_2, ge_22_2 W h0, v2_no _ _ _ (by decide), rm_22]
  · rw [fxs_o _ _ _ _ _ (by decide), ge_22_3 W h0, ra_22]
  · rw [fxs_4, ge_22_4 W h0, im_22]
    exact v4_no _ _ _ (by decide)
  · rw [fxs_o _ _ _ _ _ (by decide), ge_22_5 W h0, kd_22]
  · rw [fxs_6, ge_22_5 W h0, ge_22_6 W h0, bs_22]
    rw [v6_yes _ _ _ (by decide)]
  · rw [fxs_o _ _ _ _ _ (by decide), ge_22_7 W h0, st_22]
  · rw [fxs_o _ _ _ _ _ (by decide), ge_22_8 W h0, cd_22]
  · rw [fxs_o _ _ _ _ _ (by decide), ge_22_9 W h0, rg_22]
theorem ge_23_0 (W : Int) (h0 : 0 ≤ W) : gat (fl 23) W (fl 23).length 0 = 0 := by
  show (((((0 + 0) + 0) + 0) + 0) + 0) = _
  omega
theorem ge_23_1 (W : Int) (h0 : 0 ≤ W) : gat (fl 23) W (fl 23).length 1 = W / 65536 % 16 := by
  show (((((0 + 0) + 0) + 0) + bt W 16 4 * pw 0) + 0) = _
  rw [bt_at W h0 (by decide : pw 16 = 65536) (by decide : pw 4 = 16), show pw 0 = 1 from by decide]
  omega
theorem ge_23_2 (W : Int) (h0 : 0 ≤ W) : gat (fl 23) W (fl 23).length 2 = W % 16 := by
  show (((((0 + 0) + 0) + 0) + 0) + bt W 0 4 * pw 0) = _
  rw [bt_at W h0 (by decide : pw 0 = 1) (by decide : pw 4 = 16), show pw 0 = 1 from by decide]
  omega
theorem ge_23_3 (W : Int) (h0 : 0 ≤ W) : gat (fl 23) W (fl 23).length 3 = 0 := by
  show (((((0 + 0) + 0) + 0) + 0) + 0) = _
  omega
theorem ge_23_4 (W : Int) (h0 : 0 ≤ W) : gat (fl 23) W (fl 23).length 4 = 0 := by
  show (((((0 + 0) + 0) + 0) + 0) + 0) = _
  omega
theorem ge_23_5 (W : Int) (h0 : 0 ≤ W) : gat (fl 23) W (fl 23).length 5 = W / 16 % 4 := by
  show (((((0 + 0) + 0) + bt W 4 2 * pw 0) + 0) + 0) = _
  rw [bt_at W h0 (by decide : pw 4 = 16) (by decide : pw 2 = 4), show pw 0 = 1 from by decide]
  omega
theorem ge_23_6 (W : Int) (h0 : 0 ≤ W) : gat (fl 23) W (fl 23).length 6 = W / 4096 % 8 * 4 + W / 64 % 4 := by
  show (((((0 + bt W 12 3 * pw 2) + bt W 6 2 * pw 0) + 0) + 0) + 0) = _
  rw [bt_at W h0 (by decide : pw 12 = 4096) (by decide : pw 3 = 8), bt_at W h0 (by decide : pw 6 = 64) (by decide : pw 2 = 4), show pw 2 = 4 from by decide, show pw 0 = 1 from by decide]
  omega
theorem ge_23_7 (W : Int) (h0 : 0 ≤ W) : gat (fl 23) W (fl 23).length 7 = 0 := by
  show (((((0 + 0) + 0) + 0) + 0) + 0) = _
  omega
theorem ge_23_8 (W : Int) (h0 : 0 ≤ W) : gat (fl 23) W (fl 23).length 8 = 0 := by
  show (((((0 + 0) + 0) + 0) + 0) + 0) = _
  omega
theorem ge_23_9 (W : Int) (h0 : 0 ≤ W) : gat (fl 23) W (fl 23).length 9 = 0 := by
  show (((((0 + 0) + 0) + 0) + 0) + 0) = _
  omega
theorem rx_23 (f W : Int) (hf : 1 ≤ f) (h0 : 0 ≤ W) : fxs 23 f W (gat (fl 23) W (fl 23).length) 0 = rdOf f 23 W ∧ fxs 23 f W (gat (fl 23) W (fl 23).length) 1 = rnOf f 23 W ∧ fxs 23 f W (gat (fl 23) W (fl 23).length) 2 = rmOf f 23 W ∧ fxs 23 f W (gat (fl 23) W (fl 23).length) 3 = raOf f 23 W ∧ fxs 23 f W (gat (fl 23) W (fl 23).length) 4 = imOf f 23 W ∧ fxs 23 f W (gat (fl 23) W (fl 23).length) 5 = kdOf f 23 W ∧ fxs 23 f W (gat (fl 23) W (fl 23).length) 6 = bsOf f 23 W ∧ fxs 23 f W (gat (fl 23) W (fl 23).length) 7 = stOf f 23 W ∧ fxs 23 f W (gat (fl 23) W (fl 23).length) 8 = cdOf f 23 W ∧ fxs 23 f W (gat (fl 23) W (fl 23).length) 9 = rgOf f 23 W := by
  refine ⟨?_, ?_, ?_, ?_, ?_, ?_, ?_, ?_, ?_, ?_⟩
  · rw [fxs_o _ _ _ _ _ (by decide), ge_23_0 W h0, rd_23]
  · rw [fxs_o _ _ _ _ _ (by decide), ge_23_1 W h0, rn_23]
  · rw [fxs_2, ge_23_2 W h0, v2_no _ _ _ (by decide), rm_23]
  · rw [fxs_o _ _ _ _ _ (by decide), ge_23_3 W h0, ra_23]
  · rw [fxs_4, ge_23_4 W h0, im_23]
    exact v4_no _ _ _ (by decide)
  · rw [fxs_o _ _ _ _ _ (by decide), ge_23_5 W h0, kd_23]
  · rw [fxs_6, ge_23_5 W h0, ge_23_6 W h0, bs_23]
    rw [v6_yes _ _ _ (by decide)]
  · rw [fxs_o _ _ _ _ _ (by decide), ge_23_7 W h0, st_23]
  · rw [fxs_o _ _ _ _ _ (by decide), ge_23_8 W h0, cd_23]
  · rw [fxs_o _ _ _ _ _ (by decide), ge_23_9 W h0, rg_23]
theorem ge_24_0 (W : Int) (h0 : 0 ≤ W) : gat (fl 24) W (fl 24).length 0 = W / 256 % 16 := by
  show (((((0 + 0) + 0) + 0) + 0) + bt W 8 4 * pw 0) = _
  rw [bt_at W h0 (by decide : pw 8 = 256) (by decide : pw 4 = 16), show pw 0 = 1 from by decide]
  omega
theorem ge_24_1 (W : Int) (h0 : 0 ≤ W) : gat (fl 24) W (fl 24).length 1 = W / 65536 % 16 := by
  show (((((0 + 0) + 0) + 0) + bt W 16 4 * pw 0) + 0) = _
  rw [bt_at W h0 (by decide : pw 16 = 65536) (by decide : pw 4 = 16), show pw 0 = 1 from by decide]
  omega
theorem ge_24_2 (W : Int) (h0 : 0 ≤ W) : gat (fl 24) W (fl 24).length 2 = 0 := by
  show (((((0 + 0) + 0) + 0) + 0) + 0) = _
  omega
theorem ge_24_3 (W : Int) (h0 : 0 ≤ W) : gat (fl 24) W (fl 24).length 3 = 0 := by
  show (((((0 + 0) + 0) + 0) + 0) + 0) = _
  omega
theorem ge_24_4 (W : Int) (h0 : 0 ≤ W) : gat (fl 24) W (fl 24).length 4 = W / 67108864 % 2 * 2048 + W / 4096 % 8 * 256 + W % 256 := by
  show (((((0 + bt W 26 1 * pw 11) + bt W 12 3 * pw 8) + bt W 0 8 * pw 0) + 0) + 0) = _
  rw [bt_at W h0 (by decide : pw 26 = 67108864) (by decide : pw 1 = 2), bt_at W h0 (by decide : pw 12 = 4096) (by decide : pw 3 = 8), bt_at W h0 (by decide : pw 0 = 1) (by decide : pw 8 = 256), show pw 11 = 2048 from by decide, show pw 8 = 256 from by decide, show pw 0 = 1 from by decide]
  omega
theorem ge_24_5 (W : Int) (h0 : 0 ≤ W) : gat (fl 24) W (fl 24).length 5 = 0 := by
  show (((((0 + 0) + 0) + 0) + 0) + 0) = _
  omega
theorem ge_24_6 (W : Int) (h0 : 0 ≤ W) : gat (fl 24) W (fl 24).length 6 = 0 := by
  show (((((0 + 0) + 0) + 0) + 0) + 0) = _
  omega
theorem ge_24_7 (W : Int) (h0 : 0 ≤ W) : gat (fl 24) W (fl 24).length 7 = 0 := by
  show (((((0 + 0) + 0) + 0) + 0) + 0) = _
  omega
theorem ge_24_8 (W : Int) (h0 : 0 ≤ W) : gat (fl 24) W (fl 24).length 8 = 0 := by
  show (((((0 + 0) + 0) + 0) + 0) + 0) = _
  omega
theorem ge_24_9 (W : Int) (h0 : 0 ≤ W) : gat (fl 24) W (fl 24).length 9 = 0 := by
  show (((((0 + 0) + 0) + 0) + 0) + 0) = _
  omega
theorem rx_24 (f W : Int) (hf : 1 ≤ f) (h0 : 0 ≤ W) : fxs 24 f W (gat (fl 24) W (fl 24).length) 0 = rdOf f 24 W ∧ fxs 24 f W (gat (fl 24) W (fl 24).length) 1 = rnOf f 24 W ∧ fxs 24 f W (gat (fl 24) W (fl 24).length) 2 = rmOf f 24 W ∧ fxs 24 f W (gat (fl 24) W (fl 24).length) 3 = raOf f 24 W ∧ fxs 24 f W (gat (fl 24) W (fl 24).length) 4 = imOf f 24 W ∧ fxs 24 f W (gat (fl 24) W (fl 24).length) 5 = kdOf f 24 W ∧ fxs 24 f W (gat (fl 24) W (fl 24).length) 6 = bsOf f 24 W ∧ fxs 24 f W (gat (fl 24) W (fl 24).length) 7 = stOf f 24 W ∧ fxs 24 f W (gat (fl 24) W (fl 24).length) 8 = cdOf f 24 W ∧ fxs 24 f W (gat (fl 24) W (fl 24).length) 9 = rgOf f 24 W := by
  refine ⟨?_, ?_, ?_, ?_, ?_, ?_, ?_, ?_, ?_, ?_⟩
  · rw [fxs_o _ _ _ _ _ (by decide), ge_24_0 W h0, rd_24]
  · rw [fxs_o _ _ _ _ _ (by decide), ge_24_1 W h0, rn_24]
  · rw [fxs_2, ge_24_2 W h0, v2_no _ _ _ (by decide), rm_24]
  · rw [fxs_o _ _ _ _ _ (by decide), ge_24_3 W h0, ra_24]
  · rw [fxs_4, ge_24_4 W h0, im_24]
    exact v4_no _ _ _ (by decide)
  · rw [fxs_o _ _ _ _ _ (by decide), ge_24_5 W h0, kd_24]
  · rw [fxs_6, ge_24_5 W h0, ge_24_6 W h0, bs_24]
    exact v6_no _ _ _ (by decide)
  · rw [fxs_o _ _ _ _ _ (by decide), ge_24_7 W h0, st_24]
  · rw [fxs_o _ _ _ _ _ (by decide), ge_24_8 W h0, cd_24]
  · rw [fxs_o _ _ _ _ _ (by decide), ge_24_9 W h0, rg_24]
theorem ge_25_0 (W : Int) (h0 : 0 ≤ W) : gat (fl 25) W (fl 25).length 0 = W / 4096 % 16 := by
  show (((0 + 0) + bt W 12 4 * pw 0) + 0) = _
  rw [bt_at W h0 (by decide : pw 12 = 4096) (by decide : pw 4 = 16), show pw 0 = 1 from by decide]
  omega
theorem ge_25_1 (W : Int) (h0 : 0 ≤ W) : gat (fl 25) W (fl 25).length 1 = W / 65536 % 16 := by
  show (((0 + bt W 16 4 * pw 0) + 0) + 0) = _
  rw [bt_at W h0 (by decide : pw 16 = 65536) (by decide : pw 4 = 16), show pw 0 = 1 from by decide]
  omega
theorem ge_25_2 (W : Int) (h0 : 0 ≤ W) : gat (fl 25) W (fl 25).length 2 = 0 := by
  show (((0 + 0) + 0) + 0) = _
  omega
theorem ge_25_3 (W : Int) (h0 : 0 ≤ W) : gat (fl 25) W (fl 25).length 3 = 0 := by
  show (((0 + 0) + 0) + 0) = _
  omega
theorem ge_25_4 (W : Int) (h0 : 0 ≤ W) : gat (fl 25) W (fl 25).length 4 = W % 4096 := by
  show (((0 + 0) + 0) + bt W 0 12 * pw 0) = _
  rw [bt_at W h0 (by decide : pw 0 = 1) (by decide : pw 12 = 4096), show pw 0 = 1 from by decide]
  omega
theorem ge_25_5 (W : Int) (h0 : 0 ≤ W) : gat (fl 25) W (fl 25).length 5 = 0 := by
  show (((0 + 0) + 0) + 0) = _
  omega
theorem ge_25_6 (W : Int) (h0 : 0 ≤ W) : gat (fl 25) W (fl 25).length 6 = 0 := by
  show (((0 + 0) + 0) + 0) = _
  omega
theorem ge_25_7 (W : Int) (h0 : 0 ≤ W) : gat (fl 25) W (fl 25).length 7 = 0 := by
  show (((0 + 0) + 0) + 0) = _
  omega
theorem ge_25_8 (W : Int) (h0 : 0 ≤ W) : gat (fl 25) W (fl 25).length 8 = 0 := by
  show (((0 + 0) + 0) + 0) = _
  omega
theorem ge_25_9 (W : Int) (h0 : 0 ≤ W) : gat (fl 25) W (fl 25).length 9 = 0 := by
  show (((0 + 0) + 0) + 0) = _
  omega
theorem rx_25 (f W : Int) (hf : 1 ≤ f) (h0 : 0 ≤ W) : fxs 25 f W (gat (fl 25) W (fl 25).length) 0 = rdOf f 25 W ∧ fxs 25 f W (gat (fl 25) W (fl 25).length) 1 = rnOf f 25 W ∧ fxs 25 f W (gat (fl 25) W (fl 25).length) 2 = rmOf f 25 W ∧ fxs 25 f W (gat (fl 25) W (fl 25).length) 3 = raOf f 25 W ∧ fxs 25 f W (gat (fl 25) W (fl 25).length) 4 = imOf f 25 W ∧ fxs 25 f W (gat (fl 25) W (fl 25).length) 5 = kdOf f 25 W ∧ fxs 25 f W (gat (fl 25) W (fl 25).length) 6 = bsOf f 25 W ∧ fxs 25 f W (gat (fl 25) W (fl 25).length) 7 = stOf f 25 W ∧ fxs 25 f W (gat (fl 25) W (fl 25).length) 8 = cdOf f 25 W ∧ fxs 25 f W (gat (fl 25) W (fl 25).length) 9 = rgOf f 25 W := by
  refine ⟨?_, ?_, ?_, ?_, ?_, ?_, ?_, ?_, ?_, ?_⟩
  · rw [fxs_o _ _ _ _ _ (by decide), ge_25_0 W h0, rd_25]
  · rw [fxs_o _ _ _ _ _ (by decide), ge_25_1 W h0, rn_25]
  · rw [fxs_2, ge_25_2 W h0, v2_no _ _ _ (by decide), rm_25]
  · rw [fxs_o _ _ _ _ _ (by decide), ge_25_3 W h0, ra_25]
  · rw [fxs_4, ge_25_4 W h0, im_25]
    exact v4_no _ _ _ (by decide)
  · rw [fxs_o _ _ _ _ _ (by decide), ge_25_5 W h0, kd_25]
  · rw [fxs_6, ge_25_5 W h0, ge_25_6 W h0, bs_25]
    exact v6_no _ _ _ (by decide)
  · rw [fxs_o _ _ _ _ _ (by decide), ge_25_7 W h0, st_25]
  · rw [fxs_o _ _ _ _ _ (by decide), ge_25_8 W h0, cd_25]
  · rw [fxs_o _ _ _ _ _ (by decide), ge_25_9 W h0, rg_25]
theorem ge_26_0 (W : Int) (h0 : 0 ≤ W) : gat (fl 26) W (fl 26).length 0 = W / 4096 % 16 := by
  show ((((0 + 0) + bt W 12 4 * pw 0) + 0) + 0) = _
  rw [bt_at W h0 (by decide : pw 12 = 4096) (by decide : pw 4 = 16), show pw 0 = 1 from by decide]
  omega
theorem ge_26_1 (W : Int) (h0 : 0 ≤ W) : gat (fl 26) W (fl 26).length 1 = W / 65536 % 16 := by
  show ((((0 + bt W 16 4 * pw 0) + 0) + 0) + 0) = _
  rw [bt_at W h0 (by decide : pw 16 = 65536) (by decide : pw 4 = 16), show pw 0 = 1 from by decide]
  omega
theorem ge_26_2 (W : Int) (h0 : 0 ≤ W) : gat (fl 26) W (fl 26).length 2 = W % 16 := by
  show ((((0 + 0) + 0) + 0) + bt W 0 4 * pw 0) = _
  rw [bt_at W h0 (by decide : pw 0 = 1) (by decide : pw 4 = 16), show pw 0 = 1 from by decide]
  omega
theorem ge_26_3 (W : Int) (h0 : 0 ≤ W) : gat (fl 26) W (fl 26).length 3 = 0 := by
  show ((((0 + 0) + 0) + 0) + 0) = _
  omega
theorem ge_26_4 (W : Int) (h0 : 0 ≤ W) : gat (fl 26) W (fl 26).length 4 = 0 := by
  show ((((0 + 0) + 0) + 0) + 0) = _
  omega
theorem ge_26_5 (W : Int) (h0 : 0 ≤ W) : gat (fl 26) W (fl 26).length 5 = 0 := by
  show ((((0 + 0) + 0) + 0) + 0) = _
  omega
theorem ge_26_6 (W : Int) (h0 : 0 ≤ W) : gat (fl 26) W (fl 26).length 6 = W / 16 % 4 := by
  show ((((0 + 0) + 0) + bt W 4 2 * pw 0) + 0) = _
  rw [bt_at W h0 (by decide : pw 4 = 16) (by decide : pw 2 = 4), show pw 0 = 1 from by decide]
  omega
theorem ge_26_7 (W : Int) (h0 : 0 ≤ W) : gat (fl 26) W (fl 26).length 7 = 0 := by
  show ((((0 + 0) + 0) + 0) + 0) = _
  omega
theorem ge_26_8 (W : Int) (h0 : 0 ≤ W) : gat (fl 26) W (fl 26).length 8 = 0 := by
  show ((((0 + 0) + 0) + 0) + 0) = _
  omega
theorem ge_26_9 (W : Int) (h0 : 0 ≤ W) : gat (fl 26) W (fl 26).length 9 = 0 := by
  show ((((0 + 0) + 0) + 0) + 0) = _
  omega
theorem rx_26 (f W : Int) (hf : 1 ≤ f) (h0 : 0 ≤ W) : fxs 26 f W (gat (fl 26) W (fl 26).length) 0 = rdOf f 26 W ∧ fxs 26 f W (gat (fl 26) W (fl 26).length) 1 = rnOf f 26 W ∧ fxs 26 f W (gat (fl 26) W (fl 26).length) 2 = rmOf f 26 W ∧ fxs 26 f W (gat (fl 26) W (fl 26).length) 3 = raOf f 26 W ∧ fxs 26 f W (gat (fl 26) W (fl 26).length) 4 = imOf f 26 W ∧ fxs 26 f W (gat (fl 26) W (fl 26).length) 5 = kdOf f 26 W ∧ fxs 26 f W (gat (fl 26) W (fl 26).length) 6 = bsOf f 26 W ∧ fxs 26 f W (gat (fl 26) W (fl 26).length) 7 = stOf f 26 W ∧ fxs 26 f W (gat (fl 26) W (fl 26).length) 8 = cdOf f 26 W ∧ fxs 26 f W (gat (fl 26) W (fl 26).length) 9 = rgOf f 26 W := by
  refine ⟨?_, ?_, ?_, ?_, ?_, ?_, ?_, ?_, ?_, ?_⟩
  · rw [fxs_o _ _ _ _ _ (by decide), ge_26_0 W h0, rd_26]
  · rw [fxs_o _ _ _ _ _ (by decide), ge_26_1 W h0, rn_26]
  · rw [fxs_2, ge_26_2 W h0, v2_no _ _ _ (by decide), rm_26]
  · rw [fxs_o _ _ _ _ _ (by decide), ge_26_3 W h0, ra_26]
  · rw [fxs_4, ge_26_4 W h0, im_26]
    exact v4_no _ _ _ (by decide)
  · rw [fxs_o _ _ _ _ _ (by decide), ge_26_5 W h0, kd_26]
  · rw [fxs_6, ge_26_5 W h0, ge_26_6 W h0, bs_26]
    exact v6_no _ _ _ (by decide)
  · rw [fxs_o _ _ _ _ _ (by decide), ge_26_7 W h0, st_26]
  · rw [fxs_o _ _ _ _ _ (by decide), ge_26_8 W h0, cd_26]
  · rw [fxs_o _ _ _ _ _ (by decide), ge_26_9 W h0, rg_26]
theorem ge_27_0 (W : Int) (h0 : 0 ≤ W) : gat (fl 27) W (fl 27).length 0 = W / 256 % 16 := by
  show ((((0 + 0) + 0) + bt W 8 4 * pw 0) + 0) = _
  rw [bt_at W h0 (by decide : pw 8 = 256) (by decide : pw 4 = 16), show pw 0 = 1 from by decide]
  omega
theorem ge_27_1 (W : Int) (h0 : 0 ≤ W) : gat (fl 27) W (fl 27).length 1 = W / 65536 % 16 := by
  show ((((0 + 0) + bt W 16 4 * pw 0) + 0) + 0) = _
  rw [bt_at W h0 (by decide : pw 16 = 65536) (by decide : pw 4 = 16), show pw 0 = 1 from by decide]
  omega
theorem ge_27_2 (W : Int) (h0 : 0 ≤ W) : gat (fl 27) W (fl 27).length 2 = W % 16 := by
  show ((((0 + 0) + 0) + 0) + bt W 0 4 * pw 0) = _
  rw [bt_at W h0 (by decide : pw 0 = 1) (by decide : pw 4 = 16), show pw 0 = 1 from by decide]
  omega
theorem ge_27_3 (W : Int) (h0 : 0 ≤ W) : gat (fl 27) W (fl 27).length 3 = 0 := by
  show ((((0 + 0) + 0) + 0) + 0) = _
  omega
theorem ge_27_4 (W : Int) (h0 : 0 ≤ W) : gat (fl 27) W (fl 27).length 4 = 0 := by
  show ((((0 + 0) + 0) + 0) + 0) = _
  omega
theorem ge_27_5 (W : Int) (h0 : 0 ≤ W) : gat (fl 27) W (fl 27).length 5 = 0 := by
  show ((((0 + 0) + 0) + 0) + 0) = _
  omega
theorem ge_27_6 (W : Int) (h0 : 0 ≤ W) : gat (fl 27) W (fl 27).length 6 = 0 := by
  show ((((0 + 0) + 0) + 0) + 0) = _
  omega
theorem ge_27_7 (W : Int) (h0 : 0 ≤ W) : gat (fl 27) W (fl 27).length 7 = W / 1048576 % 2 := by
  show ((((0 + bt W 20 1 * pw 0) + 0) + 0) + 0) = _
  rw [bt_at W h0 (by decide : pw 20 = 1048576) (by decide : pw 1 = 2), show pw 0 = 1 from by decide]
  omega
theorem ge_27_8 (W : Int) (h0 : 0 ≤ W) : gat (fl 27) W (fl 27).length 8 = 0 := by
  show ((((0 + 0) + 0) + 0) + 0) = _
  omega
theorem ge_27_9 (W : Int) (h0 : 0 ≤ W) : gat (fl 27) W (fl 27).length 9 = 0 := by
  show ((((0 + 0) + 0) + 0) + 0) = _
  omega
theorem rx_27 (f W : Int) (hf : 1 ≤ f) (h0 : 0 ≤ W) : fxs 27 f W (gat (fl 27) W (fl 27).length) 0 = rdOf f 27 W ∧ fxs 27 f W (gat (fl 27) W (fl 27).length) 1 = rnOf f 27 W ∧ fxs 27 f W (gat (fl 27) W (fl 27).length) 2 = rmOf f 27 W ∧ fxs 27 f W (gat (fl 27) W (fl 27).length) 3 = raOf f 27 W ∧ fxs 27 f W (gat (fl 27) W (fl 27).length) 4 = imOf f 27 W ∧ fxs 27 f W (gat (fl 27) W (fl 27).length) 5 = kdOf f 27 W ∧ fxs 27 f W (gat (fl 27) W (fl 27).length) 6 = bsOf f 27 W ∧ fxs 27 f W (gat (fl 27) W (fl 27).length) 7 = stOf f 27 W ∧ fxs 27 f W (gat (fl 27) W (fl 27).length) 8 = cdOf f 27 W ∧ fxs 27 f W (gat (fl 27) W (fl 27).length) 9 = rgOf f 27 W := by
  refine ⟨?_, ?_, ?_, ?_, ?_, ?_, ?_, ?_, ?_, ?_⟩
  · rw [fxs_o _ _ _ _ _ (by decide), ge_27_0 W h0, rd_27]
  · rw [fxs_o _ _ _ _ _ (by decide), ge_27_1 W h0, rn_27]
  · rw [fxs_2, ge_27_2 W h0, v2_no _ _ _ (by decide), rm_27]
  · rw [fxs_o _ _ _ _ _ (by decide), ge_27_3 W h0, ra_27]
  · rw [fxs_4, ge_27_4 W h0, im_27]
    exact v4_no _ _ _ (by decide)
  · rw [fxs_o _ _ _ _ _ (by decide), ge_27_5 W h0, kd_27]
  · rw [fxs_6, ge_27_5 W h0, ge_27_6 W h0, bs_27]
    exact v6_no _ _ _ (by decide)
  · rw [fxs_o _ _ _ _ _ (by decide), ge_27_7 W h0, st_27]
  · rw [fxs_o _ _ _ _ _ (by decide), ge_27_8 W h0, cd_27]
  · rw [fxs_o _ _ _ _ _ (by decide), ge_27_9 W h0, rg_27]
theorem ge_28_0 (W : Int) (h0 : 0 ≤ W) : gat (fl 28) W (fl 28).length 0 = W / 256 % 16 := by
  show (((0 + 0) + bt W 8 4 * pw 0) + 0) = _
  rw [bt_at W h0 (by decide : pw 8 = 256) (by decide : pw 4 = 16), show pw 0 = 1 from by decide]
  omega
theorem ge_28_1 (W : Int) (h0 : 0 ≤ W) : gat (fl 28) W (fl 28).length 1 = W / 65536 % 16 := by
  show (((0 + bt W 16 4 * pw 0) + 0) + 0) = _
  rw [bt_at W h0 (by decide : pw 16 = 65536) (by decide : pw 4 = 16), show pw 0 = 1 from by decide]
  omega
theorem ge_28_2 (W : Int) (h0 : 0 ≤ W) : gat (fl 28) W (fl 28).length 2 = W % 16 := by
  show (((0 + 0) + 0) + bt W 0 4 * pw 0) = _
  rw [bt_at W h0 (by decide : pw 0 = 1) (by decide : pw 4 = 16), show pw 0 = 1 from by decide]
  omega
theorem ge_28_3 (W : Int) (h0 : 0 ≤ W) : gat (fl 28) W (fl 28).length 3 = 0 := by
  show (((0 + 0) + 0) + 0) = _
  omega
theorem ge_28_4 (W : Int) (h0 : 0 ≤ W) : gat (fl 28) W (fl 28).length 4 = 0 := by
  show (((0 + 0) + 0) + 0) = _
  omega
theorem ge_28_5 (W : Int) (h0 : 0 ≤ W) : gat (fl 28) W (fl 28).length 5 = 0 := by
  show (((0 + 0) + 0) + 0) = _
  omega
theorem ge_28_6 (W : Int) (h0 : 0 ≤ W) : gat (fl 28) W (fl 28).length 6 = 0 := by
  show (((0 + 0) + 0) + 0) = _
  omega
theorem ge_28_7 (W : Int) (h0 : 0 ≤ W) : gat (fl 28) W (fl 28).length 7 = 0 := by
  show (((0 + 0) + 0) + 0) = _
  omega
theorem ge_28_8 (W : Int) (h0 : 0 ≤ W) : gat (fl 28) W (fl 28).length 8 = 0 := by
  show (((0 + 0) + 0) + 0) = _
  omega
theorem ge_28_9 (W : Int) (h0 : 0 ≤ W) : gat (fl 28) W (fl 28).length 9 = 0 := by
  show (((0 + 0) + 0) + 0) = _
  omega
theorem rx_28 (f W : Int) (hf : 1 ≤ f) (h0 : 0 ≤ W) : fxs 28 f W (gat (fl 28) W (fl 28).length) 0 = rdOf f 28 W ∧ fxs 28 f W (gat (fl 28) W (fl 28).length) 1 = rnOf f 28 W ∧ fxs 28 f W (gat (fl 28) W (fl 28).length) 2 = rmOf f 28 W ∧ fxs 28 f W (gat (fl 28) W (fl 28).length) 3 = raOf f 28 W ∧ fxs 28 f W (gat (fl 28) W (fl 28).length) 4 = imOf f 28 W ∧ fxs 28 f W (gat (fl 28) W (fl 28).length) 5 = kdOf f 28 W ∧ fxs 28 f W (gat (fl 28) W (fl 28).length) 6 = bsOf f 28 W ∧ fxs 28 f W (gat (fl 28) W (fl 28).length) 7 = stOf f 28 W ∧ fxs 28 f W (gat (fl 28) W (fl 28).length) 8 = cdOf f 28 W ∧ fxs 28 f W (gat (fl 28) W (fl 28).length) 9 = rgOf f 28 W := by
  refine ⟨?_, ?_, ?_, ?_, ?_, ?_, ?_, ?_, ?_, ?_⟩
  · rw [fxs_o _ _ _ _ _ (by decide), ge_28_0 W h0, rd_28]
  · rw [fxs_o _ _ _ _ _ (by decide), ge_28_1 W h0, rn_28]
  · rw [fxs_2, ge_28_2 W h0, v2_no _ _ _ (by decide), rm_28]
  · rw [fxs_o _ _ _ _ _ (by decide), ge_28_3 W h0, ra_28]
  · rw [fxs_4, ge_28_4 W h0, im_28]
    exact v4_no _ _ _ (by decide)
  · rw [fxs_o _ _ _ _ _ (by decide), ge_28_5 W h0, kd_28]
  · rw [fxs_6, ge_28_5 W h0, ge_28_6 W h0, bs_28]
    exact v6_no _ _ _ (by decide)
  · rw [fxs_o _ _ _ _ _ (by decide), ge_28_7 W h0, st_28]
  · rw [fxs_o _ _ _ _ _ (by decide), ge_28_8 W h0, cd_28]
  · rw [fxs_o _ _ _ _ _ (by decide), ge_28_9 W h0, rg_28]
theorem ge_29_0 (W : Int) (h0 : 0 ≤ W) : gat (fl 29) W (fl 29).length 0 = W / 256 % 16 := by
  show ((((0 + 0) + 0) + bt W 8 4 * pw 0) + 0) = _
  rw [bt_at W h0 (by decide : pw 8 = 256) (by decide : pw 4 = 16), show pw 0 = 1 from by decide]
  omega
theorem ge_29_1 (W : Int) (h0 : 0 ≤ W) : gat (fl 29) W (fl 29).length 1 = W / 65536 % 16 := by
  show ((((0 + bt W 16 4 * pw 0) + 0) + 0) + 0) = _
  rw [bt_at W h0 (by decide : pw 16 = 65536) (by decide : pw 4 = 16), show pw 0 = 1 from by decide]
  omega
theorem ge_29_2 (W : Int) (h0 : 0 ≤ W) : gat (fl 29) W (fl 29).length 2 = W % 16 := by
  show ((((0 + 0) + 0) + 0) + bt W 0 4 * pw 0) = _
  rw [bt_at W h0 (by decide : pw 0 = 1) (by decide : pw 4 = 16), show pw 0 = 1 from by decide]
  omega
theorem ge_29_3 (W : Int) (h0 : 0 ≤ W) : gat (fl 29) W (fl 29).length 3 = W / 4096 % 16 := by
  show ((((0 + 0) + bt W 12 4 * pw 0) + 0) + 0) = _
  rw [bt_at W h0 (by decide : pw 12 = 4096) (by decide : pw 4 = 16), show pw 0 = 1 from by decide]
  omega
theorem ge_29_4 (W : Int) (h0 : 0 ≤ W) : gat (fl 29) W (fl 29).length 4 = 0 := by
  show ((((0 + 0) + 0) + 0) + 0) = _
  omega
theorem ge_29_5 (W : Int) (h0 : 0 ≤ W) : gat (fl 29) W (fl 29).length 5 = 0 := by
  show ((((0 + 0) + 0) + 0) + 0) = _
  omega
theorem ge_29_6 (W : Int) (h0 : 0 ≤ W) : gat (fl 29) W (fl 29).length 6 = 0 := by
  show ((((0 + 0) + 0) + 0) + 0) = _
  omega
theorem ge_29_7 (W : Int) (h0 : 0 ≤ W) : gat (fl 29) W (fl 29).length 7 = 0 := by
  show ((((0 + 0) + 0) + 0) + 0) = _
  omega
theorem ge_29_8 (W : Int) (h0 : 0 ≤ W) : gat (fl 29) W (fl 29).length 8 = 0 := by
  show ((((0 + 0) + 0) + 0) + 0) = _
  omega
theorem ge_29_9 (W : Int) (h0 : 0 ≤ W) : gat (fl 29) W (fl 29).length 9 = 0 := by
  show ((((0 + 0) + 0) + 0) + 0) = _
  omega
theorem rx_29 (f W : Int) (hf : 1 ≤ f) (h0 : 0 ≤ W) : fxs 29 f W (gat (fl 29) W (fl 29).length) 0 = rdOf f 29 W ∧ fxs 29 f W (gat (fl 29) W (fl 29).length) 1 = rnOf f 29 W ∧ fxs 29 f W (gat (fl 29) W (fl 29).length) 2 = rmOf f 29 W ∧ fxs 29 f W (gat (fl 29) W (fl 29).length) 3 = raOf f 29 W ∧ fxs 29 f W (gat (fl 29) W (fl 29).length) 4 = imOf f 29 W ∧ fxs 29 f W (gat (fl 29) W (fl 29).length) 5 = kdOf f 29 W ∧ fxs 29 f W (gat (fl 29) W (fl 29).length) 6 = bsOf f 29 W ∧ fxs 29 f W (gat (fl 29) W (fl 29).length) 7 = stOf f 29 W ∧ fxs 29 f W (gat (fl 29) W (fl 29).length) 8 = cdOf f 29 W ∧ fxs 29 f W (gat (fl 29) W (fl 29).length) 9 = rgOf f 29 W := by
  refine ⟨?_, ?_, ?_, ?_, ?_, ?_, ?_, ?_, ?_, ?_⟩
  · rw [fxs_o _ _ _ _ _ (by decide), ge_29_0 W h0, rd_29]
  · rw [fxs_o _ _ _ _ _ (by decide), ge_29_1 W h0, rn_29]
  · rw [fxs_2, ge_29_2 W h0, v2_no _ _ _ (by decide), rm_29]
  · rw [fxs_o _ _ _ _ _ (by decide), ge_29_3 W h0, ra_29]
  · rw [fxs_4, ge_29_4 W h0, im_29]
    exact v4_no _ _ _ (by decide)
  · rw [fxs_o _ _ _ _ _ (by decide), ge_29_5 W h0, kd_29]
  · rw [fxs_6, ge_29_5 W h0, ge_29_6 W h0, bs_29]
    exact v6_no _ _ _ (by decide)
  · rw [fxs_o _ _ _ _ _ (by decide), ge_29_7 W h0, st_29]
  · rw [fxs_o _ _ _ _ _ (by decide), ge_29_8 W h0, cd_29]
  · rw [fxs_o _ _ _ _ _ (by decide), ge_29_9 W h0, rg_29]
theorem ge_30_0 (W : Int) (h0 : 0 ≤ W) : gat (fl 30) W (fl 30).length 0 = W / 256 % 16 := by
  show ((((0 + 0) + 0) + bt W 8 4 * pw 0) + 0) = _
  rw [bt_at W h0 (by decide : pw 8 = 256) (by decide : pw 4 = 16), show pw 0 = 1 from by decide]
  omega
theorem ge_30_1 (W : Int) (h0 : 0 ≤ W) : gat (fl 30) W (fl 30).length 1 = W / 65536 % 16 := by
  show ((((0 + bt W 16 4 * pw 0) + 0) + 0) + 0) = _
  rw [bt_at W h0 (by decide : pw 16 = 65536) (by decide : pw 4 = 16), show pw 0 = 1 from by decide]
  omega
theorem ge_30_2 (W : Int) (h0 : 0 ≤ W) : gat (fl 30) W (fl 30).length 2 = W % 16 := by
  show ((((0 + 0) + 0) + 0) + bt W 0 4 * pw 0) = _
  rw [bt_at W h0 (by decide : pw 0 = 1) (by decide : pw 4 = 16), show pw 0 = 1 from by decide]
  omega
theorem ge_30_3 (W : Int) (h0 : 0 ≤ W) : gat (fl 30) W (fl 30).length 3 = W / 4096 % 16 := by
  show ((((0 + 0) + bt W 12 4 * pw 0) + 0) + 0) = _
  rw [bt_at W h0 (by decide : pw 12 = 4096) (by decide : pw 4 = 16), show pw 0 = 1 from by decide]
  omega
theorem ge_30_4 (W : Int) (h0 : 0 ≤ W) : gat (fl 30) W (fl 30).length 4 = 0 := by
  show ((((0 + 0) + 0) + 0) + 0) = _
  omega
theorem ge_30_5 (W : Int) (h0 : 0 ≤ W) : gat (fl 30) W (fl 30).length 5 = 0 := by
  show ((((0 + 0) + 0) + 0) + 0) = _
  omega
theorem ge_30_6 (W : Int) (h0 : 0 ≤ W) : gat (fl 30) W (fl 30).length 6 = 0 := by
  show ((((0 + 0) + 0) + 0) + 0) = _
  omega
theorem ge_30_7 (W : Int) (h0 : 0 ≤ W) : gat (fl 30) W (fl 30).length 7 = 0 := by
  show ((((0 + 0) + 0) + 0) + 0) = _
  omega
theorem ge_30_8 (W : Int) (h0 : 0 ≤ W) : gat (fl 30) W (fl 30).length 8 = 0 := by
  show ((((0 + 0) + 0) + 0) + 0) = _
  omega
theorem ge_30_9 (W : Int) (h0 : 0 ≤ W) : gat (fl 30) W (fl 30).length 9 = 0 := by
  show ((((0 + 0) + 0) + 0) + 0) = _
  omega
theorem rx_30 (f W : Int) (hf : 1 ≤ f) (h0 : 0 ≤ W) : fxs 30 f W (gat (fl 30) W (fl 30).length) 0 = rdOf f 30 W ∧ fxs 30 f W (gat (fl 30) W (fl 30).length) 1 = rnOf f 30 W ∧ fxs 30 f W (gat (fl 30) W (fl 30).length) 2 = rmOf f 30 W ∧ fxs 30 f W (gat (fl 30) W (fl 30).length) 3 = raOf f 30 W ∧ fxs 30 f W (gat (fl 30) W (fl 30).length) 4 = imOf f 30 W ∧ fxs 30 f W (gat (fl 30) W (fl 30).length) 5 = kdOf f 30 W ∧ fxs 30 f W (gat (fl 30) W (fl 30).length) 6 = bsOf f 30 W ∧ fxs 30 f W (gat (fl 30) W (fl 30).length) 7 = stOf f 30 W ∧ fxs 30 f W (gat (fl 30) W (fl 30).length) 8 = cdOf f 30 W ∧ fxs 30 f W (gat (fl 30) W (fl 30).length) 9 = rgOf f 30 W := by
  refine ⟨?_, ?_, ?_, ?_, ?_, ?_, ?_, ?_, ?_, ?_⟩
  · rw [fxs_o _ _ _ _ _ (by decide), ge_30_0 W h0, rd_30]
  · rw [fxs_o _ _ _ _ _ (by decide), ge_30_1 W h0, rn_30]
  · rw [fxs_2, ge_30_2 W h0, v2_no _ _ _ (by decide), rm_30]
  · rw [fxs_o _ _ _ _ _ (by decide), ge_30_3 W h0, ra_30]
  · rw [fxs_4, ge_30_4 W h0, im_30]
    exact v4_no _ _ _ (by decide)
  · rw [fxs_o _ _ _ _ _ (by decide), ge_30_5 W h0, kd_30]
  · rw [fxs_6, ge_30_5 W h0, ge_30_6 W h0, bs_30]
    exact v6_no _ _ _ (by decide)
  · rw [fxs_o _ _ _ _ _ (by decide), ge_30_7 W h0, st_30]
  · rw [fxs_o _ _ _ _ _ (by decide), ge_30_8 W h0, cd_30]
  · rw [fxs_o _ _ _ _ _ (by decide), ge_30_9 W h0, rg_30]
theorem ge_31_0 (W : Int) (h0 : 0 ≤ W) : gat (fl 31) W (fl 31).length 0 = W / 4096 % 16 := by
  show ((((0 + 0) + bt W 12 4 * pw 0) + 0) + 0) = _
  rw [bt_at W h0 (by decide : pw 12 = 4096) (by decide : pw 4 = 16), show pw 0 = 1 from by decide]
  omega
theorem ge_31_1 (W : Int) (h0 : 0 ≤ W) : gat (fl 31) W (fl 31).length 1 = W / 65536 % 16 := by
  show ((((0 + bt W 16 4 * pw 0) + 0) + 0) + 0) = _
  rw [bt_at W h0 (by decide : pw 16 = 65536) (by decide : pw 4 = 16), show pw 0 = 1 from by decide]
  omega
theorem ge_31_2 (W : Int) (h0 : 0 ≤ W) : gat (fl 31) W (fl 31).length 2 = W % 16 := by
  show ((((0 + 0) + 0) + 0) + bt W 0 4 * pw 0) = _
  rw [bt_at W h0 (by decide : pw 0 = 1) (by decide : pw 4 = 16), show pw 0 = 1 from by decide]
  omega
theorem ge_31_3 (W : Int) (h0 : 0 ≤ W) : gat (fl 31) W (fl 31).length 3 = W / 256 % 16 := by
  show ((((0 + 0) + 0) + bt W 8 4 * pw 0) + 0) = _
  rw [bt_at W h0 (by decide : pw 8 = 256) (by decide : pw 4 = 16), show pw 0 = 1 from by decide]
  omega
theorem ge_31_4 (W : Int) (h0 : 0 ≤ W) : gat (fl 31) W (fl 31).length 4 = 0 := by
  show ((((0 + 0) + 0) + 0) + 0) = _
  omega
theorem ge_31_5 (W : Int) (h0 : 0 ≤ W) : gat (fl 31) W (fl 31).length 5 = 0 := by
  show ((((0 + 0) + 0) + 0) + 0) = _
  omega
theorem ge_31_6 (W : Int) (h0 : 0 ≤ W) : gat (fl 31) W (fl 31).length 6 = 0 := by
  show ((((0 + 0) + 0) + 0) + 0) = _
  omega
theorem ge_31_7 (W : Int) (h0 : 0 ≤ W) : gat (fl 31) W (fl 31).length 7 = 0 := by
  show ((((0 + 0) + 0) + 0) + 0) = _
  omega
theorem ge_31_8 (W : Int) (h0 : 0 ≤ W) : gat (fl 31) W (fl 31).length 8 = 0 := by
  show ((((0 + 0) + 0) + 0) + 0) = _
  omega
theorem ge_31_9 (W : Int) (h0 : 0 ≤ W) : gat (fl 31) W (fl 31).length 9 = 0 := by
  show ((((0 + 0) + 0) + 0) + 0) = _
  omega
theorem rx_31 (f W : Int) (hf : 1 ≤ f) (h0 : 0 ≤ W) : fxs 31 f W (gat (fl 31) W (fl 31).length) 0 = rdOf f 31 W ∧ fxs 31 f W (gat (fl 31) W (fl 31).length) 1 = rnOf f 31 W ∧ fxs 31 f W (gat (fl 31) W (fl 31).length) 2 = rmOf f 31 W ∧ fxs 31 f W (gat (fl 31) W (fl 31).length) 3 = raOf f 31 W ∧ fxs 31 f W (gat (fl 31) W (fl 31).length) 4 = imOf f 31 W ∧ fxs 31 f W (gat (fl 31) W (fl 31).length) 5 = kdOf f 31 W ∧ fxs 31 f W (gat (fl 31) W (fl 31).length) 6 = bsOf f 31 W ∧ fxs 31 f W (gat (fl 31) W (fl 31).length) 7 = stOf f 31 W ∧ fxs 31 f W (gat (fl 31) W (fl 31).length) 8 = cdOf f 31 W ∧ fxs 31 f W (gat (fl 31) W (fl 31).length) 9 = rgOf f 31 W := by
  refine ⟨?_, ?_, ?_, ?_, ?_, ?_, ?_, ?_, ?_, ?_⟩
  · rw [fxs_o _ _ _ _ _ (by decide), ge_31_0 W h0, rd_31]
  · rw [fxs_o _ _ _ _ _ (by decide), ge_31_1 W h0, rn_31]
  · rw [fxs_2, ge_31_2 W h0, v2_no _ _ _ (by decide), rm_31]
  · rw [fxs_o _ _ _ _ _ (by decide), ge_31_3 W h0, ra_31]
  · rw [fxs_4, ge_31_4 W h0, im_31]
    exact v4_no _ _ _ (by decide)
  · rw [fxs_o _ _ _ _ _ (by decide), ge_31_5 W h0, kd_31]
  · rw [fxs_6, ge_31_5 W h0, ge_31_6 W h0, bs_31]
    exact v6_no _ _ _ (by decide)
  · rw [fxs_o _ _ _ _ _ (by decide), ge_31_7 W h0, st_31]
  · rw [fxs_o _ _ _ _ _ (by decide), ge_31_8 W h0, cd_31]
  · rw [fxs_o _ _ _ _ _ (by decide), ge_31_9 W h0, rg_31]
theorem ge_32_0 (W : Int) (h0 : 0 ≤ W) : gat (fl 32) W (fl 32).length 0 = W / 256 % 16 := by
  show (((0 + 0) + bt W 8 4 * pw 0) + 0) = _
  rw [bt_at W h0 (by decide : pw 8 = 256) (by decide : pw 4 = 16), show pw 0 = 1 from by decide]
  omega
theorem ge_32_1 (W : Int) (h0 : 0 ≤ W) : gat (fl 32) W (fl 32).length 1 = 0 := by
  show (((0 + 0) + 0) + 0) = _
  omega
theorem ge_32_2 (W : Int) (h0 : 0 ≤ W) : gat (fl 32) W (fl 32).length 2 = W / 65536 % 16 + W % 16 := by
  show (((0 + bt W 16 4 * pw 0) + 0) + bt W 0 4 * pw 0) = _
  rw [bt_at W h0 (by decide : pw 16 = 65536) (by decide : pw 4 = 16), bt_at W h0 (by decide : pw 0 = 1) (by decide : pw 4 = 16), show pw 0 = 1 from by decide]
  omega
theorem ge_32_3 (W : Int) (h0 : 0 ≤ W) : gat (fl 32) W (fl 32).length 3 = 0 := by
  show (((0 + 0) + 0) + 0) = _
  omega
theorem ge_32_4 (W : Int) (h0 : 0 ≤ W) : gat (fl 32) W (fl 32).length 4 = 0 := by
  show (((0 + 0) + 0) + 0) = _
  omega
theorem ge_32_5 (W : Int) (h0 : 0 ≤ W) : gat (fl 32) W (fl 32).length 5 = 0 := by
  show (((0 + 0) + 0) + 0) = _
  omega
theorem ge_32_6 (W : Int) (h0 : 0 ≤ W) : gat (fl 32) W (fl 32).length 6 = 0 := by
  show (((0 + 0) + 0) + 0) = _
  omega
theorem ge_32_7 (W : Int) (h0 : 0 ≤ W) : gat (fl 32) W (fl 32).length 7 = 0 := by
  show (((0 + 0) + 0) + 0) = _
  omega
theorem ge_32_8 (W : Int) (h0 : 0 ≤ W) : gat (fl 32) W (fl 32).length 8 = 0 := by
  show (((0 + 0) + 0) + 0) = _
  omega
theorem ge_32_9 (W : Int) (h0 : 0 ≤ W) : gat (fl 32) W (fl 32).length 9 = 0 := by
  show (((0 + 0) + 0) + 0) = _
  omega
theorem rx_32 (f W : Int) (hf : 1 ≤ f) (h0 : 0 ≤ W) : fxs 32 f W (gat (fl 32) W (fl 32).length) 0 = rdOf f 32 W ∧ fxs 32 f W (gat (fl 32) W (fl 32).length) 1 = rnOf f 32 W ∧ fxs 32 f W (gat (fl 32) W (fl 32).length) 2 = rmOf f 32 W ∧ fxs 32 f W (gat (fl 32) W (fl 32).length) 3 = raOf f 32 W ∧ fxs 32 f W (gat (fl 32) W (fl 32).length) 4 = imOf f 32 W ∧ fxs 32 f W (gat (fl 32) W (fl 32).length) 5 = kdOf f 32 W ∧ fxs 32 f W (gat (fl 32) W (fl 32).length) 6 = bsOf f 32 W ∧ fxs 32 f W (gat (fl 32) W (fl 32).length) 7 = stOf f 32 W ∧ fxs 32 f W (gat (fl 32) W (fl 32).length) 8 = cdOf f 32 W ∧ fxs 32 f W (gat (fl 32) W (fl 32).length) 9 = rgOf f 32 W := by
  refine ⟨?_, ?_, ?_, ?_, ?_, ?_, ?_, ?_, ?_, ?_⟩
  · rw [fxs_o _ _ _ _ _ (by decide), ge_32_0 W h0, rd_32]
  · rw [fxs_o _ _ _ _ _ (by decide), ge_32_1 W h0, rn_32]
  · rw [fxs_2, v2_32, bt_at W h0 (by decide : pw 0 = 1) (by decide : pw 4 = 16), rm_32]; omega
  · rw [fxs_o _ _ _ _ _ (by decide), ge_32_3 W h0, ra_32]
  · rw [fxs_4, ge_32_4 W h0, im_32]
    exact v4_no _ _ _ (by decide)
  · rw [fxs_o _ _ _ _ _ (by decide), ge_32_5 W h0, kd_32]
  · rw [fxs_6, ge_32_5 W h0, ge_32_6 W h0, bs_32]
    exact v6_no _ _ _ (by decide)
  · rw [fxs_o _ _ _ _ _ (by decide), ge_32_7 W h0, st_32]
  · rw [fxs_o _ _ _ _ _ (by decide), ge_32_8 W h0, cd_32]
  · rw [fxs_o _ _ _ _ _ (by decide), ge_32_9 W h0, rg_32]
theorem ge_33_0 (W : Int) (h0 : 0 ≤ W) : gat (fl 33) W (fl 33).length 0 = 0 := by
  show ((((((0 + 0) + 0) + 0) + 0) + 0) + 0) = _
  omega
theorem ge_33_1 (W : Int) (h0 : 0 ≤ W) : gat (fl 33) W (fl 33).length 1 = 0 := by
  show ((((((0 + 0) + 0) + 0) + 0) + 0) + 0) = _
  omega
theorem ge_33_2 (W : Int) (h0 : 0 ≤ W) : gat (fl 33) W (fl 33).length 2 = 0 := by
  show ((((((0 + 0) + 0) + 0) + 0) + 0) + 0) = _
  omega
theorem ge_33_3 (W : Int) (h0 : 0 ≤ W) : gat (fl 33) W (fl 33).length 3 = 0 := by
  show ((((((0 + 0) + 0) + 0) + 0) + 0) + 0) = _
  omega
theorem ge_33_4 (W : Int) (h0 : 0 ≤ W) : gat (fl 33) W (fl 33).length 4 = W / 67108864 % 2 * 1048576 + W / 65536 % 64 * 4096 + W / 8192 % 2 * 262144 + W / 2048 % 2 * 524288 + W % 2048 * 2 := by
  show ((((((0 + bt W 26 1 * pw 20) + 0) + bt W 16 6 * pw 12) + bt W 13 1 * pw 18) + bt W 11 1 * pw 19) + bt W 0 11 * pw 1) = _
  rw [bt_at W h0 (by decide : pw 26 = 67108864) (by decide : pw 1 = 2), bt_at W h0 (by decide : pw 16 = 65536) (by decide : pw 6 = 64), bt_at W h0 (by decide : pw 13 = 8192) (by decide : pw 1 = 2), bt_at W h0 (by decide : pw 11 = 2048) (by decide : pw 1 = 2), bt_at W h0 (by decide : pw 0 = 1) (by decide : pw 11 = 2048), show pw 20 = 1048576 from by decide, show pw 12 = 4096 from by decide, show pw 18 = 262144 from by decide, show pw 19 = 524288 from by decide, show pw 1 = 2 from by decide]
  omega
theorem ge_33_5 (W : Int) (h0 : 0 ≤ W) : gat (fl 33) W (fl 33).length 5 = 0 := by
  show ((((((0 + 0) + 0) + 0) + 0) + 0) + 0) = _
  omega
theorem ge_33_6 (W : Int) (h0 : 0 ≤ W) : gat (fl 33) W (fl 33).length 6 = 0 := by
  show ((((((0 + 0) + 0) + 0) + 0) + 0) + 0) = _
  omega
theorem ge_33_7 (W : Int) (h0 : 0 ≤ W) : gat (fl 33) W (fl 33).length 7 = 0 := by
  show ((((((0 + 0) + 0) + 0) + 0) + 0) + 0) = _
  omega
theorem ge_33_8 (W : Int) (h0 : 0 ≤ W) : gat (fl 33) W (fl 33).length 8 = W / 4194304 % 16 := by
  show ((((((0 + 0) + bt W 22 4 * pw 0) + 0) + 0) + 0) + 0) = _
  rw [bt_at W h0 (by decide : pw 22 = 4194304) (by decide : pw 4 = 16), show pw 0 = 1 from by decide]
  omega
theorem ge_33_9 (W : Int) (h0 : 0 ≤ W) : gat (fl 33) W (fl 33).length 9 = 0 := by
  show ((((((0 + 0) + 0) + 0) + 0) + 0) + 0) = _
  omega
theorem rx_33 (f W : Int) (hf : 1 ≤ f) (h0 : 0 ≤ W) : fxs 33 f W (gat (fl 33) W (fl 33).length) 0 = rdOf f 33 W ∧ fxs 33 f W (gat (fl 33) W (fl 33).length) 1 = rnOf f 33 W ∧ fxs 33 f W (gat (fl 33) W (fl 33).length) 2 = rmOf f 33 W ∧ fxs 33 f W (gat (fl 33) W (fl 33).length) 3 = raOf f 33 W ∧ fxs 33 f W (gat (fl 33) W (fl 33).length) 4 = imOf f 33 W ∧ fxs 33 f W (gat (fl 33) W (fl 33).length) 5 = kdOf f 33 W ∧ fxs 33 f W (gat (fl 33) W (fl 33).length) 6 = bsOf f 33 W ∧ fxs 33 f W (gat (fl 33) W (fl 33).length) 7 = stOf f 33 W ∧ fxs 33 f W (gat (fl 33) W (fl 33).length) 8 = cdOf f 33 W ∧ fxs 33 f W (gat (fl 33) W (fl 33).length) 9 = rgOf f 33 W := by
  refine ⟨?_, ?_, ?_, ?_, ?_, ?_, ?_, ?_, ?_, ?_⟩
  · rw [fxs_o _ _ _ _ _ (by decide), ge_33_0 W h0, rd_33]
  · rw [fxs_o _ _ _ _ _ (by decide), ge_33_1 W h0, rn_33]
  · rw [fxs_2, ge_33_2 W h0, v2_no _ _ _ (by decide), rm_33]
  · rw [fxs_o _ _ _ _ _ (by decide), ge_33_3 W h0, ra_33]
  · rw [fxs_4, ge_33_4 W h0, im_33]
    rw [v4_33]; unfold lst sgn; split <;> split <;> omega
  · rw [fxs_o _ _ _ _ _ (by decide), ge_33_5 W h0, kd_33]
  · rw [fxs_6, ge_33_5 W h0, ge_33_6 W h0, bs_33]
    exact v6_no _ _ _ (by decide)
  · rw [fxs_o _ _ _ _ _ (by decide), ge_33_7 W h0, st_33]
  · rw [fxs_o _ _ _ _ _ (by decide), ge_33_8 W h0, cd_33]
  · rw [fxs_o _ _ _ _ _ (by decide), ge_33_9 W h0, rg_33]
theorem ge_34_0 (W : Int) (h0 : 0 ≤ W) : gat (fl 34) W (fl 34).length 0 = 0 := by
  show (((((0 + 0) + 0) + 0) + 0) + 0) = _
  omega
theorem ge_34_1 (W : Int) (h0 : 0 ≤ W) : gat (fl 34) W (fl 34).length 1 = 0 := by
  show (((((0 + 0) + 0) + 0) + 0) + 0) = _
  omega
theorem ge_34_2 (W : Int) (h0 : 0 ≤ W) : gat (fl 34) W (fl 34).length 2 = 0 := by
  show (((((0 + 0) + 0) + 0) + 0) + 0) = _
  omega
theorem ge_34_3 (W : Int) (h0 : 0 ≤ W) : gat (fl 34) W (fl 34).length 3 = 0 := by
  show (((((0 + 0) + 0) + 0) + 0) + 0) = _
  omega
theorem ge_34_4 (W : Int) (h0 : 0 ≤ W) : gat (fl 34) W (fl 34).length 4 = W / 67108864 % 2 * 16777216 + W / 65536 % 1024 * 4096 + W / 8192 % 2 * 8388608 + W / 2048 % 2 * 4194304 + W % 2048 * 2 := by
  show (((((0 + bt W 26 1 * pw 24) + bt W 16 10 * pw 12) + bt W 13 1 * pw 23) + bt W 11 1 * pw 22) + bt W 0 11 * pw 1) = _
  rw [bt_at W h0 (by decide : pw 26 = 67108864) (by decide : pw 1 = 2), bt_at W h0 (by decide : pw 16 = 65536) (by decide : pw 10 = 1024), bt_at W h0 (by decide : pw 13 = 8192) (by decide : pw 1 = 2), bt_at W h0 (by decide : pw 11 = 2048) (by decide : pw 1 = 2), bt_at W h0 (by decide : pw 0 = 1) (by decide : pw 11 = 2048), show pw 24 = 16777216 from by decide, show pw 12 = 4096 from by decide, show pw 23 = 8388608 from by decide, show pw 22 = 4194304 from by decide, show pw 1 = 2 from by decide]
  omega
theorem ge_34_5 (W : Int) (h0 : 0 ≤ W) : gat (fl 34) W (fl 34).length 5 = 0 := by
  show (((((0 + 0) + 0) + 0) + 0) + 0) = _
  omega
theorem ge_34_6 (W : Int) (h0 : 0 ≤ W) : gat (fl 34) W (fl 34).length 6 = 0 := by
  show (((((0 + 0) + 0) + 0) + 0) + 0) = _
  omega
theorem ge_34_7 (W : Int) (h0 : 0 ≤ W) : gat (fl 34) W (fl 34).length 7 = 0 := by
  show (((((0 + 0) + 0) + 0) + 0) + 0) = _
  omega
theorem ge_34_8 (W : Int) (h0 : 0 ≤ W) : gat (fl 34) W (fl 34).length 8 = 0 := by
  show (((((0 + 0) + 0) + 0) + 0) + 0) = _
  omega
theorem ge_34_9 (W : Int) (h0 : 0 ≤ W) : gat (fl 34) W (fl 34).length 9 = 0 := by
  show (((((0 + 0) + 0) + 0) + 0) + 0) = _
  omega
theorem rx_34 (f W : Int) (hf : 1 ≤ f) (h0 : 0 ≤ W) : fxs 34 f W (gat (fl 34) W (fl 34).length) 0 = rdOf f 34 W ∧ fxs 34 f W (gat (fl 34) W (fl 34).length) 1 = rnOf f 34 W ∧ fxs 34 f W (gat (fl 34) W (fl 34).length) 2 = rmOf f 34 W ∧ fxs 34 f W (gat (fl 34) W (fl 34).length) 3 = raOf f 34 W ∧ fxs 34 f W (gat (fl 34) W (fl 34).length) 4 = imOf f 34 W ∧ fxs 34 f W (gat (fl 34) W (fl 34).length) 5 = kdOf f 34 W ∧ fxs 34 f W (gat (fl 34) W (fl 34).length) 6 = bsOf f 34 W ∧ fxs 34 f W (gat (fl 34) W (fl 34).length) 7 = stOf f 34 W ∧ fxs 34 f W (gat (fl 34) W (fl 34).length) 8 = cdOf f 34 W ∧ fxs 34 f W (gat (fl 34) W (fl 34).length) 9 = rgOf f 34 W := by
  refine ⟨?_, ?_, ?_, ?_, ?_, ?_, ?_, ?_, ?_, ?_⟩
  · rw [fxs_o _ _ _ _ _ (by decide), ge_34_0 W h0, rd_34]
  · rw [fxs_o _ _ _ _ _ (by decide), ge_34_1 W h0, rn_34]
  · rw [fxs_2, ge_34_2 W h0, v2_no _ _ _ (by decide), rm_34]
  · rw [fxs_o _ _ _ _ _ (by decide), ge_34_3 W h0, ra_34]
  · rw [fxs_4, ge_34_4 W h0, im_34]
    rw [v4_34]; exact jump_back _ _ _ _ _ (by omega) (by omega) (by omega) (by omega) (by omega)
  · rw [fxs_o _ _ _ _ _ (by decide), ge_34_5 W h0, kd_34]
  · rw [fxs_6, ge_34_5 W h0, ge_34_6 W h0, bs_34]
    exact v6_no _ _ _ (by decide)
  · rw [fxs_o _ _ _ _ _ (by decide), ge_34_7 W h0, st_34]
  · rw [fxs_o _ _ _ _ _ (by decide), ge_34_8 W h0, cd_34]
  · rw [fxs_o _ _ _ _ _ (by decide), ge_34_9 W h0, rg_34]

theorem rx_all (f W : Int) (i0 : 1 ≤ f) (i1 : f ≤ 100) (h13 : shp f ≠ 13) (h0 : 0 ≤ W) : fxs (shp f) f W (gat (fl (shp f)) W (fl (shp f)).length) 0 = rdOf f (shp f) W ∧ fxs (shp f) f W (gat (fl (shp f)) W (fl (shp f)).length) 1 = rnOf f (shp f) W ∧ fxs (shp f) f W (gat (fl (shp f)) W (fl (shp f)).length) 2 = rmOf f (shp f) W ∧ fxs (shp f) f W (gat (fl (shp f)) W (fl (shp f)).length) 3 = raOf f (shp f) W ∧ fxs (shp f) f W (gat (fl (shp f)) W (fl (shp f)).length) 4 = imOf f (shp f) W ∧ fxs (shp f) f W (gat (fl (shp f)) W (fl (shp f)).length) 5 = kdOf f (shp f) W ∧ fxs (shp f) f W (gat (fl (shp f)) W (fl (shp f)).length) 6 = bsOf f (shp f) W ∧ fxs (shp f) f W (gat (fl (shp f)) W (fl (shp f)).length) 7 = stOf f (shp f) W ∧ fxs (shp f) f W (gat (fl (shp f)) W (fl (shp f)).length) 8 = cdOf f (shp f) W ∧ fxs (shp f) f W (gat (fl (shp f)) W (fl (shp f)).length) 9 = rgOf f (shp f) W := by
  have hs := shp_yes (isF_yes ⟨i0, i1⟩)
  generalize shp f = s at *
  obtain ⟨s0, s1, _⟩ := hs
  rcases (show s = 1 ∨ s = 2 ∨ s = 3 ∨ s = 4 ∨ s = 5 ∨ s = 6 ∨ s = 7 ∨ s = 8 ∨ s = 9 ∨ s = 10 ∨ s = 11 ∨ 12 ≤ s by omega) with rfl | rfl | rfl | rfl | rfl | rfl | rfl | rfl | rfl | rfl | rfl | hk
  · exact rx_1 f W i0 h0
  · exact rx_2 f W i0 h0
  · exact rx_3 f W i0 h0
  · exact rx_4 f W i0 h0
  · exact rx_5 f W i0 h0
  · exact rx_6 f W i0 h0
  · exact rx_7 f W i0 h0
  · exact rx_8 f W i0 h0
  · exact rx_9 f W i0 h0
  · exact rx_10 f W i0 h0
  · exact rx_11 f W i0 h0
  rcases (show s = 12 ∨ s = 14 ∨ s = 15 ∨ s = 16 ∨ s = 17 ∨ s = 18 ∨ s = 19 ∨ s = 20 ∨ s = 21 ∨ s = 22 ∨ s = 23 ∨ 24 ≤ s by omega) with rfl | rfl | rfl | rfl | rfl | rfl | rfl | rfl | rfl | rfl | rfl | hk
  · exact rx_12 f W i0 h0
  · exact rx_14 f W i0 h0
  · exact rx_15 f W i0 h0
  · exact rx_16 f W i0 h0
  · exact rx_17 f W i0 h0
  · exact rx_18 f W i0 h0
  · exact rx_19 f W i0 h0
  · exact rx_20 f W i0 h0
  · exact rx_21 f W i0 h0
  · exact rx_22 f W i0 h0
  · exact rx_23 f W i0 h0
  rcases (show s = 24 ∨ s = 25 ∨ s = 26 ∨ s = 27 ∨ s = 28 ∨ s = 29 ∨ s = 30 ∨ s = 31 ∨ s = 32 ∨ s = 33 ∨ s = 34 by omega) with rfl | rfl | rfl | rfl | rfl | rfl | rfl | rfl | rfl | rfl | rfl
  · exact rx_24 f W i0 h0
  · exact rx_25 f W i0 h0
  · exact rx_26 f W i0 h0
  · exact rx_27 f W i0 h0
  · exact rx_28 f W i0 h0
  · exact rx_29 f W i0 h0
  · exact rx_30 f W i0 h0
  · exact rx_31 f W i0 h0
  · exact rx_32 f W i0 h0
  · exact rx_33 f W i0 h0
  · exact rx_34 f W i0 h0

end Go.Proofs.YtjcoihbhgedgiaaDoor.Code

/-! What the document's read and its Of answer: contracts. -/
set_option linter.unusedVariables false
namespace Go.Proofs.YtjcoihbhgedgiaaDoor.Code
open Go.RowKit Go.Proofs.YtjcoihbhgedgiaaDoor.Alu Go.Proofs.YtjcoihbhgedgiaaDoor.Imm Go.Proofs.YtjcoihbhgedgiaaDoor.Inst

theorem read_13 (f W : Int) (hs : shp f = 13) (w : World) :
    Calls Tryd.prog 36 #[.int .i64 f, .int .i64 W] w fun e w' => e = .returned (.agg #[.int .i64 f, .int .i64 0, .int .i64 0, .int .i64 0, .int .i64 0, .int .i64 0, .int .i64 0, .int .i64 0, .int .i64 0, .int .i64 0, .int .i64 0]) ∧ Below w.heap.size w w' := by
  have hB0 := (Below.refl w.heap.size w).alloc (Nat.le_refl _) (.cells #[.int .i64 0, .int .i64 0, .int .i64 0, .int .i64 0, .int .i64 0, .int .i64 0, .int .i64 0, .int .i64 0, .int .i64 0, .int .i64 0, .int .i64 0] 34)
  go_enter Tryd.func36, Tryd.ntmps36
  go_wp2_with fail
  refine (refShape_any _ _).mono ?_
  rintro e w1 ⟨rfl, hb1⟩
  rw [hs]
  go_wp2_with fail
  refine (fields_13 _).mono ?_
  rintro e w3 ⟨rfl, rfl⟩
  go_wp2_with fail
  go_loopw [8] (fun i wr => i = .int .i64 0 ∧ wr = (w1.alloc (.cells #[.int .i64 0, .int .i64 0, .int .i64 0, .int .i64 0, .int .i64 0, .int .i64 0, .int .i64 0, .int .i64 0, .int .i64 0, .int .i64 0] 70))) (fun i _ => 0)
  case atStart => exact ⟨rfl, rfl⟩
  case round =>
    obtain ⟨rfl, rfl⟩ := hrel
    have hne : w.heap.size < w1.heap.size := by have := hb1.size; simp at this; omega
    have hA := (Below.refl w1.heap.size w1).alloc (Nat.le_refl _) (.cells #[.int .i64 0, .int .i64 0, .int .i64 0, .int .i64 0, .int .i64 0, .int .i64 0, .int .i64 0, .int .i64 0, .int .i64 0, .int .i64 0] 70)
    have hhE : (w1.alloc (.cells #[.int .i64 0, .int .i64 0, .int .i64 0, .int .i64 0, .int .i64 0, .int .i64 0, .int .i64 0, .int .i64 0, .int .i64 0, .int .i64 0] 70)).heap[w.heap.size]? = some (.cells #[.int .i64 0, .int .i64 0, .int .i64 0, .int .i64 0, .int .i64 0, .int .i64 0, .int .i64 0, .int .i64 0, .int .i64 0, .int .i64 0, .int .i64 0] 34 (0, 0)) := (hA.block _ hne).trans ((hb1.block _ (by simp)).trans (heap_alloc_new w _))
    have hBE : Below w.heap.size w (w1.alloc (.cells #[.int .i64 0, .int .i64 0, .int .i64 0, .int .i64 0, .int .i64 0, .int .i64 0, .int .i64 0, .int .i64 0, .int .i64 0, .int .i64 0] 70)) := hB0.trans ((hb1.mono hB0.size).trans (hA.mono (by omega)))
    go_upto_region 22 with fail
    go_wp2_with (first | (refine wpList_buildTo rfl 34 _ rfl _ rfl #[.int .i64 f, .int .i64 0, .int .i64 0, .int .i64 0, .int .i64 0, .int .i64 0, .int .i64 0, .int .i64 0, .int .i64 0, .int .i64 0, .int .i64 0] (by kernel_rfl) ?_) | refine wpList_store_rowTo rfl 34 _ _ rfl rfl w.heap.size #[.int .i64 f, .int .i64 0, .int .i64 0, .int .i64 0, .int .i64 0, .int .i64 0, .int .i64 0, .int .i64 0, .int .i64 0, .int .i64 0, .int .i64 0] rfl rfl 34 #[.int .i64 0, .int .i64 0, .int .i64 0, .int .i64 0, .int .i64 0, .int .i64 0, .int .i64 0, .int .i64 0, .int .i64 0, .int .i64 0, .int .i64 0] hhE (by kernel_rfl) (by kernel_rfl) (by kernel_rfl) ?_)
    have hr : ∀ j, ((w1.alloc (.cells #[.int .i64 0, .int .i64 0, .int .i64 0, .int .i64 0, .int .i64 0, .int .i64 0, .int .i64 0, .int .i64 0, .int .i64 0, .int .i64 0] 70)).setRow w.heap.size #[.int .i64 f, .int .i64 0, .int .i64 0, .int .i64 0, .int .i64 0, .int .i64 0, .int .i64 0, .int .i64 0, .int .i64 0, .int .i64 0, .int .i64 0]).cell? ⟨w.heap.size, j, none⟩ = #[.int .i64 f, .int .i64 0, .int .i64 0, .int .i64 0, .int .i64 0, .int .i64 0, .int .i64 0, .int .i64 0, .int .i64 0, .int .i64 0, .int .i64 0][j]? := fun j => cell_setRow_same _ _ _ _ _ _ _ hhE
    exact bodyPost_ret (v := .agg #[.int .i64 f, .int .i64 0, .int .i64 0, .int .i64 0, .int .i64 0, .int .i64 0, .int .i64 0, .int .i64 0, .int .i64 0, .int .i64 0, .int .i64 0]) (by simp [results, Tryd.results36, go_sem, hr]) rfl ⟨rfl, below_setRow hBE (Nat.le_refl _) _⟩

def ReadIs (f W : Int) : Value := .agg #[.int .i64 f, .int .i64 (rdOf f (shp f) W), .int .i64 (rnOf f (shp f) W), .int .i64 (rmOf f (shp f) W), .int .i64 (raOf f (shp f) W), .int .i64 (imOf f (shp f) W), .int .i64 (kdOf f (shp f) W), .int .i64 (bsOf f (shp f) W), .int .i64 (stOf f (shp f) W), .int .i64 (cdOf f (shp f) W), .int .i64 (rgOf f (shp f) W)]
theorem read_any (f W : Int) (i0 : 1 ≤ f) (i1 : f ≤ 100) (h0 : 0 ≤ W) (h1 : W < 4294967296) (w : World) :
    Calls Tryd.prog 36 #[.int .i64 f, .int .i64 W] w fun e w' => e = .returned (ReadIs f W) ∧ Below w.heap.size w w' := by
  by_cases hs : shp f = 13
  · refine (read_13 f W hs w).mono ?_
    rintro e w' ⟨rfl, hb⟩
    refine ⟨?_, hb⟩
    unfold ReadIs
    rw [hs, rd_13, rn_13, rm_13, ra_13, im_13, kd_13, bs_13, st_13, cd_13, rg_13]
  · refine (read_x f W i0 i1 h0 h1 hs w).mono ?_
    rintro e w' ⟨rfl, hb⟩
    refine ⟨?_, hb⟩
    obtain ⟨q0, q1, q2, q3, q4, q5, q6, q7, q8, q9⟩ := rx_all f W i0 i1 hs h0
    unfold ReadIs
    rw [q0, q1, q2, q3, q4, q5, q6, q7, q8, q9]

/-- What the document's Of answers. -/
def RefPost (W : Int) (wide : Bool) (w : World) (e : Ending) (w' : World) : Prop :=
  Below w.heap.size w w' ∧ ((∃ f rd rn rm ra im kd bs st cd rg : Int, Has W wide f rd rn rm ra im kd bs st cd rg ∧ e = .returned (.tuple #[.agg #[.int .i64 f, .int .i64 rd, .int .i64 rn, .int .i64 rm, .int .i64 ra, .int .i64 im, .int .i64 kd, .int .i64 bs, .int .i64 st, .int .i64 cd, .int .i64 rg], .bool true])) ∨ (NoneFrom W wide 101 ∧ e = .returned (.tuple #[.agg #[.int .i64 0, .int .i64 0, .int .i64 0, .int .i64 0, .int .i64 0, .int .i64 0, .int .i64 0, .int .i64 0, .int .i64 0, .int .i64 0, .int .i64 0], .bool false])))
theorem refPost_no {W : Int} {wide : Bool} {w w' : World} (hb : Below w.heap.size w w') (hn : NoneFrom W wide 101) : RefPost W wide w (.returned (.tuple #[.agg #[.int .i64 0, .int .i64 0, .int .i64 0, .int .i64 0, .int .i64 0, .int .i64 0, .int .i64 0, .int .i64 0, .int .i64 0, .int .i64 0, .int .i64 0], .bool false])) w' := ⟨hb, .inr ⟨hn, rfl⟩⟩
theorem refPost_yes {W : Int} {wide : Bool} {w w' : World} {f rd rn rm ra im kd bs st cd rg : Int} (hb : Below w.heap.size w w') (h : Has W wide f rd rn rm ra im kd bs st cd rg) : RefPost W wide w (.returned (.tuple #[.agg #[.int .i64 f, .int .i64 rd, .int .i64 rn, .int .i64 rm, .int .i64 ra, .int .i64 im, .int .i64 kd, .int .i64 bs, .int .i64 st, .int .i64 cd, .int .i64 rg], .bool true])) w' := ⟨hb, .inl ⟨f, rd, rn, rm, ra, im, kd, bs, st, cd, rg, h, rfl⟩⟩
theorem none_told {W : Int} {wide : Bool} {k : Int} (h : NoneFrom W wide k) (hk : ¬ (right k (rdOf k (shp k) W) (rnOf k (shp k) W) (rmOf k (shp k) W) (raOf k (shp k) W) (imOf k (shp k) W) (kdOf k (shp k) W) (bsOf k (shp k) W) (stOf k (shp k) W) (cdOf k (shp k) W) (rgOf k (shp k) W) = true ∧ wd k (rdOf k (shp k) W) (rnOf k (shp k) W) (rmOf k (shp k) W) (raOf k (shp k) W) (imOf k (shp k) W) (kdOf k (shp k) W) (bsOf k (shp k) W) (stOf k (shp k) W) (cdOf k (shp k) W) (rgOf k (shp k) W) = W)) : NoneFrom W wide (k + 1) := fun f rd rn rm ra im kd bs st cd rg g => by
  have := h f rd rn rm ra im kd bs st cd rg g
  by_cases e : f = k
  · subst e
    have t := told g.right g.lo g.hi
    rw [g.word] at t
    obtain ⟨t0, t1, t2, t3, t4, t5, t6, t7, t8, t9⟩ := t
    rw [t0, t1, t2, t3, t4, t5, t6, t7, t8, t9] at hk
    exact absurd ⟨g.right, g.word⟩ hk
  · omega
theorem none_start {W : Int} : NoneFrom W true 48 := fun f rd rn rm ra im kd bs st cd rg g => by
  have i := (at_own g.right g.lo g.hi).1
  have hw := g.wide
  unfold wdF at hw
  rw [decide_eq_true_eq] at hw
  omega
theorem none_end {W : Int} (h : NoneFrom W false 48) : NoneFrom W false 101 := fun f rd rn rm ra im kd bs st cd rg g => by
  have i := (at_own g.right g.lo g.hi).1
  have := h f rd rn rm ra im kd bs st cd rg g
  have hw := g.wide
  unfold wdF at hw
  rw [decide_eq_false_iff_not] at hw
  omega

theorem rgOf_bd (f s W : Int) : -9223372036854775808 ≤ rgOf f s W ∧ rgOf f s W ≤ 9223372036854775807 := by
  unfold rgOf
  repeat' split
  all_goals omega

set_option maxHeartbeats 1000000 in
theorem refOf_wide (W : Int) (h0 : 0 ≤ W) (h1 : W < 4294967296) (w : World) :
    Calls Tryd.prog 16 #[.int .u32 W, .bool true] w (RefPost W true w) := by
  have hB := (Below.refl w.heap.size w).alloc (Nat.le_refl _) (.cells #[.int .i64 0, .int .i64 0, .int .i64 0, .int .i64 0, .int .i64 0, .int .i64 0, .int .i64 0, .int .i64 0, .int .i64 0, .int .i64 0, .int .i64 0] 34)
  have HN := hide (none_start (W := W))
  go_enter Tryd.func16, Tryd.ntmps16
  go_wp2_with fail
  go_loopw [8] (fun i wr => ∃ k : Nat, 48 ≤ k ∧ k ≤ 100 + 1 ∧ i = .int .i64 k ∧ Below (w.alloc (.cells #[.int .i64 0, .int .i64 0, .int .i64 0, .int .i64 0, .int .i64 0, .int .i64 0, .int .i64 0, .int .i64 0, .int .i64 0, .int .i64 0, .int .i64 0] 34)).heap.size (w.alloc (.cells #[.int .i64 0, .int .i64 0, .int .i64 0, .int .i64 0, .int .i64 0, .int .i64 0, .int .i64 0, .int .i64 0, .int .i64 0, .int .i64 0, .int .i64 0] 34)) wr ∧ Hid (NoneFrom W true k)) (fun i _ => 100 + 1 - (intOf i).toNat)
  case atStart => exact ⟨48, by omega, by omega, rfl, Below.refl _ _, HN⟩
  case round =>
    obtain ⟨k, k0, k1, rfl, hb, hno⟩ := hrel
    obtain ⟨hc, hfz⟩ := bcell hb
    by_cases hk : k = 100 + 1
    · subst hk
      go_wp2_with fail
      exact bodyPost_ret (v := .tuple #[.agg #[.int .i64 0, .int .i64 0, .int .i64 0, .int .i64 0, .int .i64 0, .int .i64 0, .int .i64 0, .int .i64 0, .int .i64 0, .int .i64 0, .int .i64 0], .bool false]) (by simp [results, Tryd.results16, go_sem, hc]) rfl (refPost_no (set11 (hB.trans (hb.mono hB.size))) hno.out)
    · clear hc hfz
      go_wp2_with fail
      refine (read_any _ _ (by omega) (by omega) h0 h1 _).mono ?_
      rintro e w1 ⟨rfl, hb1⟩
      have hb2 := below_keep hb hb1
      have HT : Hid (¬ (right (k : Int) (rdOf k (shp k) W) (rnOf k (shp k) W) (rmOf k (shp k) W) (raOf k (shp k) W) (imOf k (shp k) W) (kdOf k (shp k) W) (bsOf k (shp k) W) (stOf k (shp k) W) (cdOf k (shp k) W) (rgOf k (shp k) W) = true ∧ wd (k : Int) (rdOf k (shp k) W) (rnOf k (shp k) W) (rmOf k (shp k) W) (raOf k (shp k) W) (imOf k (shp k) W) (kdOf k (shp k) W) (bsOf k (shp k) W) (stOf k (shp k) W) (cdOf k (shp k) W) (rgOf k (shp k) W) = W) → NoneFrom W true ((k : Int) + 1)) := fun hk => none_told hno.out hk
      have HG := hide (rgOf_bd (k : Int) (shp (k : Int)) W)
      unfold ReadIs
      generalize rdOf (k : Int) (shp (k : Int)) W = rd at HT HG ⊢
      generalize rnOf (k : Int) (shp (k : Int)) W = rn at HT HG ⊢
      generalize rmOf (k : Int) (shp (k : Int)) W = rm at HT HG ⊢
      generalize raOf (k : Int) (shp (k : Int)) W = ra at HT HG ⊢
      generalize imOf (k : Int) (shp (k : Int)) W = im at HT HG ⊢
      generalize kdOf (k : Int) (shp (k : Int)) W = kd at HT HG ⊢
      generalize bsOf (k : Int) (shp (k : Int)) W = bs at HT HG ⊢
      generalize stOf (k : Int) (shp (k : Int)) W = st at HT HG ⊢
      generalize cdOf (k : Int) (shp (k : Int)) W = cd at HT HG ⊢
      generalize rgOf (k : Int) (shp (k : Int)) W = rg at HT HG ⊢
      have hb3 := hb2.alloc hb2.size (.cells #[.int .i64 ↑k, .int .i64 rd, .int .i64 rn, .int .i64 rm, .int .i64 ra, .int .i64 im, .int .i64 kd, .int .i64 bs, .int .i64 st, .int .i64 cd, .int .i64 rg] 34)
      clear hb hb1 hb2
      have hre := right_eq (k : Int) rd rn rm ra im kd bs st cd rg (unhide HG).1 (unhide HG).2
      cases hr : right (k : Int) rd rn rm ra im kd bs st cd rg
      · rw [hr] at hre
        replace hre := hre.symm
        go_wp2_with fail
        refine (refRight_any _ _ _ _ _ _ _ _ _ _ _ _).mono ?_
        rintro e w2 ⟨rfl, hb4⟩
        have hb5 := below_keep hb3 hb4
        clear hb3 hb4
        go_wp2_with fail
        go_roundw
        case rel => exact ⟨k + 1, by omega, by omega, by go_num, hb5, by have := HT.out (fun h => by rw [h.1] at hr; cases hr); exact this⟩
        case measure => simp [intOf]; omega
      · rw [hr] at hre
        replace hre := hre.symm
        by_cases hq : wd (k : Int) rd rn rm ra im kd bs st cd rg = W
        · have HQ := hide hq
          clear hq
          have hqb : (wd (k : Int) rd rn rm ra im kd bs st cd rg == W) = true := by rw [unhide HQ]; simp
          go_wp2_with fail
          refine (refRight_any _ _ _ _ _ _ _ _ _ _ _ _).mono ?_
          rintro e w2 ⟨rfl, hb4⟩
          obtain ⟨hi, hif⟩ := bcell hb4
          go_wp2_with fail
          refine (refWord_any _ _ _ _ _ _ _ _ _ _ _ hr (unhide HG).1 (unhide HG).2 _).mono ?_
          rintro e w3 ⟨rfl, hb5⟩
          clear hi hif
          have hb6 := next hb4 hb5
          obtain ⟨hi, hif⟩ := bcell hb6
          have hb7 := below_keep hb3 hb6
          obtain ⟨hc, hfz⟩ := bcell hb7
          clear hb3 hb4 hb5 hb6
          go_wp2_with fail
          exact bodyPost_ret (v := .tuple #[.agg #[.int .i64 ↑k, .int .i64 rd, .int .i64 rn, .int .i64 rm, .int .i64 ra, .int .i64 im, .int .i64 kd, .int .i64 bs, .int .i64 st, .int .i64 cd, .int .i64 rg], .bool true]) (by simp [results, Tryd.results16, go_sem, hc]) rfl (refPost_yes (set11 (hB.trans (hb7.mono hB.size))) ⟨hr, (unhide HG).1, (unhide HG).2, unhide HQ, by unfold wdF; simp; omega⟩)
        · have HQ := hide hq
          have hqb : (wd (k : Int) rd rn rm ra im kd bs st cd rg == W) = false := by rw [beq_eq_false_iff_ne]; exact hq
          clear hq
          go_wp2_with fail
          refine (refRight_any _ _ _ _ _ _ _ _ _ _ _ _).mono ?_
          rintro e w2 ⟨rfl, hb4⟩
          obtain ⟨hi, hif⟩ := bcell hb4
          go_wp2_with fail
          refine (refWord_any _ _ _ _ _ _ _ _ _ _ _ hr (unhide HG).1 (unhide HG).2 _).mono ?_
          rintro e w3 ⟨rfl, hb5⟩
          have hb7 := below_keep hb3 (next hb4 hb5)
          clear hi hif hb3 hb4 hb5
          go_wp2_with fail
          go_roundw
          case rel => exact ⟨k + 1, by omega, by omega, by go_num, hb7, by have := HT.out (fun h => unhide HQ h.2); exact this⟩
          case measure => simp [intOf]; omega

set_option maxHeartbeats 1000000 in
theorem refOf_narrow (W : Int) (h0 : 0 ≤ W) (h1 : W < 4294967296) (w : World) :
    Calls Tryd.prog 16 #[.int .u32 W, .bool false] w (RefPost W false w) := by
  have hB := (Below.refl w.heap.size w).alloc (Nat.le_refl _) (.cells #[.int .i64 0, .int .i64 0, .int .i64 0, .int .i64 0, .int .i64 0, .int .i64 0, .int .i64 0, .int .i64 0, .int .i64 0, .int .i64 0, .int .i64 0] 34)
  have HN := hide (none_first W false)
  go_enter Tryd.func16, Tryd.ntmps16
  go_wp2_with fail
  go_loopw [8] (fun i wr => ∃ k : Nat, 1 ≤ k ∧ k ≤ 47 + 1 ∧ i = .int .i64 k ∧ Below (w.alloc (.cells #[.int .i64 0, .int .i64 0, .int .i64 0, .int .i64 0, .int .i64 0, .int .i64 0, .int .i64 0, .int .i64 0, .int .i64 0, .int .i64 0, .int .i64 0] 34)).heap.size (w.alloc (.cells #[.int .i64 0, .int .i64 0, .int .i64 0, .int .i64 0, .int .i64 0, .int .i64 0, .int .i64 0, .int .i64 0, .int .i64 0, .int .i64 0, .int .i64 0] 34)) wr ∧ Hid (NoneFrom W false k)) (fun i _ => 47 + 1 - (intOf i).toNat)
  case atStart => exact ⟨1, by omega, by omega, rfl, Below.refl _ _, HN⟩
  case round =>
    obtain ⟨k, k0, k1, rfl, hb, hno⟩ := hrel
    obtain ⟨hc, hfz⟩ := bcell hb
    by_cases hk : k = 47 + 1
    · subst hk
      go_wp2_with fail
      exact bodyPost_ret (v := .tuple #[.agg #[.int .i64 0, .int .i64 0, .int .i64 0, .int .i64 0, .int .i64 0, .int .i64 0, .int .i64 0, .int .i64 0, .int .i64 0, .int .i64 0, .int .i64 0], .bool false]) (by simp [results, Tryd.results16, go_sem, hc]) rfl (refPost_no (set11 (hB.trans (hb.mono hB.size))) (none_end hno.out))
    · clear hc hfz
      go_wp2_with fail
      refine (read_any _ _ (by omega) (by omega) h0 h1 _).mono ?_
      rintro e w1 ⟨rfl, hb1⟩
      have hb2 := below_keep hb hb1
      have HT : Hid (¬ (right (k : Int) (rdOf k (shp k) W) (rnOf k (shp k) W) (rmOf k (shp k) W) (raOf k (shp k) W) (imOf k (shp k) W) (kdOf k (shp k) W) (bsOf k (shp k) W) (stOf k (shp k) W) (cdOf k (shp k) W) (rgOf k (shp k) W) = true ∧ wd (k : Int) (rdOf k (shp k) W) (rnOf k (shp k) W) (rmOf k (shp k) W) (raOf k (shp k) W) (imOf k (shp k) W) (kdOf k (shp k) W) (bsOf k (shp k) W) (stOf k (shp k) W) (cdOf k (shp k) W) (rgOf k (shp k) W) = W) → NoneFrom W false ((k : Int) + 1)) := fun hk => none_told hno.out hk
      have HG := hide (rgOf_bd (k : Int) (shp (k : Int)) W)
      unfold ReadIs
      generalize rdOf (k : Int) (shp (k : Int)) W = rd at HT HG ⊢
      generalize rnOf (k : Int) (shp (k : Int)) W = rn at HT HG ⊢
      generalize rmOf (k : Int) (shp (k : Int)) W = rm at HT HG ⊢
      generalize raOf (k : Int) (shp (k : Int)) W = ra at HT HG ⊢
      generalize imOf (k : Int) (shp (k : Int)) W = im at HT HG ⊢
      generalize kdOf (k : Int) (shp (k : Int)) W = kd at HT HG ⊢
      generalize bsOf (k : Int) (shp (k : Int)) W = bs at HT HG ⊢
      generalize stOf (k : Int) (shp (k : Int)) W = st at HT HG ⊢
      generalize cdOf (k : Int) (shp (k : Int)) W = cd at HT HG ⊢
      generalize rgOf (k : Int) (shp (k : Int)) W = rg at HT HG ⊢
      have hb3 := hb2.alloc hb2.size (.cells #[.int .i64 ↑k, .int .i64 rd, .int .i64 rn, .int .i64 rm, .int .i64 ra, .int .i64 im, .int .i64 kd, .int .i64 bs, .int .i64 st, .int .i64 cd, .int .i64 rg] 34)
      clear hb hb1 hb2
      have hre := right_eq (k : Int) rd rn rm ra im kd bs st cd rg (unhide HG).1 (unhide HG).2
      cases hr : right (k : Int) rd rn rm ra im kd bs st cd rg
      · rw [hr] at hre
        replace hre := hre.symm
        go_wp2_with fail
        refine (refRight_any _ _ _ _ _ _ _ _ _ _ _ _).mono ?_
        rintro e w2 ⟨rfl, hb4⟩
        have hb5 := below_keep hb3 hb4
        clear hb3 hb4
        go_wp2_with fail
        go_roundw
        case rel => exact ⟨k + 1, by omega, by omega, by go_num, hb5, by have := HT.out (fun h => by rw [h.1] at hr; cases hr); exact this⟩
        case measure => simp [intOf]; omega
      · rw [hr] at hre
        replace hre := hre.symm
        by_cases hq : wd (k : Int) rd rn rm ra im kd bs st cd rg = W
        · have HQ := hide hq
          clear hq
          have hqb : (wd (k : Int) rd rn rm ra im kd bs st cd rg == W) = true := by rw [unhide HQ]; simp
          go_wp2_with fail
          refine (refRight_any _ _ _ _ _ _ _ _ _ _ _ _).mono ?_
          rintro e w2 ⟨rfl, hb4⟩
          obtain ⟨hi, hif⟩ := bcell hb4
          go_wp2_with fail
          refine (refWord_any _ _ _ _ _ _ _ _ _ _ _ hr (unhide HG).1 (unhide HG).2 _).mono ?_
          rintro e w3 ⟨rfl, hb5⟩
          clear hi hif
          have hb6 := next hb4 hb5
          obtain ⟨hi, hif⟩ := bcell hb6
          have hb7 := below_keep hb3 hb6
          obtain ⟨hc, hfz⟩ := bcell hb7
          clear hb3 hb4 hb5 hb6
          go_wp2_with fail
          exact bodyPost_ret (v := .tuple #[.agg #[.int .i64 ↑k, .int .i64 rd, .int .i64 rn, .int .i64 rm, .int .i64 ra, .int .i64 im, .int .i64 kd, .int .i64 bs, .int .i64 st, .int .i64 cd, .int .i64 rg], .bool true]) (by simp [results, Tryd.results16, go_sem, hc]) rfl (refPost_yes (set11 (hB.trans (hb7.mono hB.size))) ⟨hr, (unhide HG).1, (unhide HG).2, unhide HQ, by unfold wdF; simp; omega⟩)
        · have HQ := hide hq
          have hqb : (wd (k : Int) rd rn rm ra im kd bs st cd rg == W) = false := by rw [beq_eq_false_iff_ne]; exact hq
          clear hq
          go_wp2_with fail
          refine (refRight_any _ _ _ _ _ _ _ _ _ _ _ _).mono ?_
          rintro e w2 ⟨rfl, hb4⟩
          obtain ⟨hi, hif⟩ := bcell hb4
          go_wp2_with fail
          refine (refWord_any _ _ _ _ _ _ _ _ _ _ _ hr (unhide HG).1 (unhide HG).2 _).mono ?_
          rintro e w3 ⟨rfl, hb5⟩
          have hb7 := below_keep hb3 (next hb4 hb5)
          clear hi hif hb3 hb4 hb5
          go_wp2_with fail
          go_roundw
          case rel => exact ⟨k + 1, by omega, by omega, by go_num, hb7, by have := HT.out (fun h => unhide HQ h.2); exact this⟩
          case measure => simp [intOf]; omega

theorem refOf_any (W : Int) (wide : Bool) (h0 : 0 ≤ W) (h1 : W < 4294967296) (w : World) :
    Calls Tryd.prog 16 #[.int .u32 W, .bool wide] w (RefPost W wide w) := by
  cases wide
  · exact refOf_narrow W h0 h1 w
  · exact refOf_wide W h0 h1 w

end Go.Proofs.YtjcoihbhgedgiaaDoor.Code

/-! The statement CodeReads: its walk. -/
set_option linter.unusedVariables false
namespace Go.Proofs.YtjcoihbhgedgiaaDoor.Code
open Go.RowKit Go.Proofs.YtjcoihbhgedgiaaDoor.Alu Go.Proofs.YtjcoihbhgedgiaaDoor.Imm Go.Proofs.YtjcoihbhgedgiaaDoor.Inst

theorem has_once {W : Int} {wide : Bool} {f rd rn rm ra im kd bs st cd rg f' rd' rn' rm' ra' im' kd' bs' st' cd' rg' : Int} (h : Has W wide f rd rn rm ra im kd bs st cd rg) (h' : Has W wide f' rd' rn' rm' ra' im' kd' bs' st' cd' rg') : f = f' ∧ rd = rd' ∧ rn = rn' ∧ rm = rm' ∧ ra = ra' ∧ im = im' ∧ kd = kd' ∧ bs = bs' ∧ st = st' ∧ cd = cd' ∧ rg = rg' := by
  have hi := (at_own h.right h.lo h.hi).1
  have hi' := (at_own h'.right h'.lo h'.hi).1
  have hl : (f ≤ 47 ∧ f' ≤ 47) ∨ (48 ≤ f ∧ 48 ≤ f') := by
    have e := h.wide.trans h'.wide.symm
    unfold wdF at e
    rw [decide_eq_decide] at e
    omega
  exact once h.right h.lo h.hi h'.right h'.lo h'.hi hl (h.word.trans h'.word.symm)
theorem has_none {W : Int} {wide : Bool} {f rd rn rm ra im kd bs st cd rg : Int} (h : Has W wide f rd rn rm ra im kd bs st cd rg) (hn : NoneFrom W wide 101) : False := by
  have hi := (at_own h.right h.lo h.hi).1
  have := hn _ _ _ _ _ _ _ _ _ _ _ h
  omega

theorem keepc {w w' : World} {b i : Nat} {v : Value} (hb : Below w.heap.size w w') (h : w.cell? ⟨b, i, none⟩ = some v) : w'.cell? ⟨b, i, none⟩ = some v := ((bcell hb).1 b i (cell_lt h)).trans h
theorem keep22 {w w' : World} {bx yb : Nat} {f rd rn rm ra im kd bs st cd rg : Int} (hb : Below w.heap.size w w') (h : w.cell? ⟨bx, 0, none⟩ = some (.int .i64 f) ∧ w.cell? ⟨bx, 1, none⟩ = some (.int .i64 rd) ∧ w.cell? ⟨bx, 2, none⟩ = some (.int .i64 rn) ∧ w.cell? ⟨bx, 3, none⟩ = some (.int .i64 rm) ∧ w.cell? ⟨bx, 4, none⟩ = some (.int .i64 ra) ∧ w.cell? ⟨bx, 5, none⟩ = some (.int .i64 im) ∧ w.cell? ⟨bx, 6, none⟩ = some (.int .i64 kd) ∧ w.cell? ⟨bx, 7, none⟩ = some (.int .i64 bs) ∧ w.cell? ⟨bx, 8, none⟩ = some (.int .i64 st) ∧ w.cell? ⟨bx, 9, none⟩ = some (.int .i64 cd) ∧ w.cell? ⟨bx, 10, none⟩ = some (.int .i64 rg) ∧ w.cell? ⟨yb, 0, none⟩ = some (.int .i64 f) ∧ w.cell? ⟨yb, 1, none⟩ = some (.int .i64 rd) ∧ w.cell? ⟨yb, 2, none⟩ = some (.int .i64 rn) ∧ w.cell? ⟨yb, 3, none⟩ = some (.int .i64 rm) ∧ w.cell? ⟨yb, 4, none⟩ = some (.int .i64 ra) ∧ w.cell? ⟨yb, 5, none⟩ = some (.int .i64 im) ∧ w.cell? ⟨yb, 6, none⟩ = some (.int .i64 kd) ∧ w.cell? ⟨yb, 7, none⟩ = some (.int .i64 bs) ∧ w.cell? ⟨yb, 8, none⟩ = some (.int .i64 st) ∧ w.cell? ⟨yb, 9, none⟩ = some (.int .i64 cd) ∧ w.cell? ⟨yb, 10, none⟩ = some (.int .i64 rg)) : w'.cell? ⟨bx, 0, none⟩ = some (.int .i64 f) ∧ w'.cell? ⟨bx, 1, none⟩ = some (.int .i64 rd) ∧ w'.cell? ⟨bx, 2, none⟩ = some (.int .i64 rn) ∧ w'.cell? ⟨bx, 3, none⟩ = some (.int .i64 rm) ∧ w'.cell? ⟨bx, 4, none⟩ = some (.int .i64 ra) ∧ w'.cell? ⟨bx, 5, none⟩ = some (.int .i64 im) ∧ w'.cell? ⟨bx, 6, none⟩ = some (.int .i64 kd) ∧ w'.cell? ⟨bx, 7, none⟩ = some (.int .i64 bs) ∧ w'.cell? ⟨bx, 8, none⟩ = some (.int .i64 st) ∧ w'.cell? ⟨bx, 9, none⟩ = some (.int .i64 cd) ∧ w'.cell? ⟨bx, 10, none⟩ = some (.int .i64 rg) ∧ w'.cell? ⟨yb, 0, none⟩ = some (.int .i64 f) ∧ w'.cell? ⟨yb, 1, none⟩ = some (.int .i64 rd) ∧ w'.cell? ⟨yb, 2, none⟩ = some (.int .i64 rn) ∧ w'.cell? ⟨yb, 3, none⟩ = some (.int .i64 rm) ∧ w'.cell? ⟨yb, 4, none⟩ = some (.int .i64 ra) ∧ w'.cell? ⟨yb, 5, none⟩ = some (.int .i64 im) ∧ w'.cell? ⟨yb, 6, none⟩ = some (.int .i64 kd) ∧ w'.cell? ⟨yb, 7, none⟩ = some (.int .i64 bs) ∧ w'.cell? ⟨yb, 8, none⟩ = some (.int .i64 st) ∧ w'.cell? ⟨yb, 9, none⟩ = some (.int .i64 cd) ∧ w'.cell? ⟨yb, 10, none⟩ = some (.int .i64 rg) := by
  obtain ⟨h0, h1, h2, h3, h4, h5, h6, h7, h8, h9, h10, h11, h12, h13, h14, h15, h16, h17, h18, h19, h20, h21⟩ := h
  exact ⟨keepc hb h0, keepc hb h1, keepc hb h2, keepc hb h3, keepc hb h4, keepc hb h5, keepc hb h6, keepc hb h7, keepc hb h8, keepc hb h9, keepc hb h10, keepc hb h11, keepc hb h12, keepc hb h13, keepc hb h14, keepc hb h15, keepc hb h16, keepc hb h17, keepc hb h18, keepc hb h19, keepc hb h20, keepc hb h21⟩

set_option maxRecDepth 100000 in
set_option maxHeartbeats 2000000 in
theorem reads_law (W : Int) (wide : Bool) (h0 : 0 ≤ W) (h1 : W < 4294967296) (w : World) (hL : Laid w) :
    Calls Tryd.prog 4 #[.int .u32 W, .bool wide] w fun e w' => e = .returned (.bool true) ∧ Below w.heap.size w w' := by
  go_enter Tryd.func4, Tryd.ntmps4
  go_wp2_with fail
  refine (anchor4_any _ hL).mono ?_
  rintro e w1 ⟨rfl, hb1⟩
  have hL1 : Laid w1 := hL.below hb1
  go_wp2_with fail
  refine (Of_any W wide h0 h1 _ hL1).mono ?_
  rintro e w2 ⟨hb2, hp⟩
  have hb12 := next hb1 hb2
  clear hb1 hb2 hL1
  rcases hp with ⟨f, rd, rn, rm, ra, im, kd, bs, st, cd, rg, hH, rfl⟩ | ⟨hn, rfl⟩
  · have HH := hide hH
    clear hH
    go_wp2_with fail
    refine (refOf_any W wide h0 h1 _).mono ?_
    rintro e w3 ⟨hb3, hp⟩
    rcases hp with ⟨f', rd', rn', rm', ra', im', kd', bs', st', cd', rg', hH', rfl⟩ | ⟨hn, rfl⟩
    · obtain ⟨rfl, rfl, rfl, rfl, rfl, rfl, rfl, rfl, rfl, rfl, rfl⟩ := has_once (unhide HH) hH'
      clear hH' HH
      have hA := (Below.refl w3.heap.size w3).alloc (Nat.le_refl _) (.cells #[.int .i64 f, .int .i64 rd, .int .i64 rn, .int .i64 rm, .int .i64 ra, .int .i64 im, .int .i64 kd, .int .i64 bs, .int .i64 st, .int .i64 cd, .int .i64 rg] 34)
      have hX := next hb3 hA
      have HS : Hid ((w3.alloc (.cells #[.int .i64 f, .int .i64 rd, .int .i64 rn, .int .i64 rm, .int .i64 ra, .int .i64 im, .int .i64 kd, .int .i64 bs, .int .i64 st, .int .i64 cd, .int .i64 rg] 34)).cell? ⟨w2.heap.size, 0, none⟩ = some (.int .i64 f) ∧ (w3.alloc (.cells #[.int .i64 f, .int .i64 rd, .int .i64 rn, .int .i64 rm, .int .i64 ra, .int .i64 im, .int .i64 kd, .int .i64 bs, .int .i64 st, .int .i64 cd, .int .i64 rg] 34)).cell? ⟨w2.heap.size, 1, none⟩ = some (.int .i64 rd) ∧ (w3.alloc (.cells #[.int .i64 f, .int .i64 rd, .int .i64 rn, .int .i64 rm, .int .i64 ra, .int .i64 im, .int .i64 kd, .int .i64 bs, .int .i64 st, .int .i64 cd, .int .i64 rg] 34)).cell? ⟨w2.heap.size, 2, none⟩ = some (.int .i64 rn) ∧ (w3.alloc (.cells #[.int .i64 f, .int .i64 rd, .int .i64 rn, .int .i64 rm, .int .i64 ra, .int .i64 im, .int .i64 kd, .int .i64 bs, .int .i64 st, .int .i64 cd, .int .i64 rg] 34)).cell? ⟨w2.heap.size, 3, none⟩ = some (.int .i64 rm) ∧ (w3.alloc (.cells #[.int .i64 f, .int .i64 rd, .int .i64 rn, .int .i64 rm, .int .i64 ra, .int .i64 im, .int .i64 kd, .int .i64 bs, .int .i64 st, .int .i64 cd, .int .i64 rg] 34)).cell? ⟨w2.heap.size, 4, none⟩ = some (.int .i64 ra) ∧ (w3.alloc (.cells #[.int .i64 f, .int .i64 rd, .int .i64 rn, .int .i64 rm, .int .i64 ra, .int .i64 im, .int .i64 kd, .int .i64 bs, .int .i64 st, .int .i64 cd, .int .i64 rg] 34)).cell? ⟨w2.heap.size, 5, none⟩ = some (.int .i64 im) ∧ (w3.alloc (.cells #[.int .i64 f, .int .i64 rd, .int .i64 rn, .int .i64 rm, .int .i64 ra, .int .i64 im, .int .i64 kd, .int .i64 bs, .int .i64 st, .int .i64 cd, .int .i64 rg] 34)).cell? ⟨w2.heap.size, 6, none⟩ = some (.int .i64 kd) ∧ (w3.alloc (.cells #[.int .i64 f, .int .i64 rd, .int .i64 rn, .int .i64 rm, .int .i64 ra, .int .i64 im, .int .i64 kd, .int .i64 bs, .int .i64 st, .int .i64 cd, .int .i64 rg] 34)).cell? ⟨w2.heap.size, 7, none⟩ = some (.int .i64 bs) ∧ (w3.alloc (.cells #[.int .i64 f, .int .i64 rd, .int .i64 rn, .int .i64 rm, .int .i64 ra, .int .i64 im, .int .i64 kd, .int .i64 bs, .int .i64 st, .int .i64 cd, .int .i64 rg] 34)).cell? ⟨w2.heap.size, 8, none⟩ = some (.int .i64 st) ∧ (w3.alloc (.cells #[.int .i64 f, .int .i64 rd, .int .i64 rn, .int .i64 rm, .int .i64 ra, .int .i64 im, .int .i64 kd, .int .i64 bs, .int .i64 st, .int .i64 cd, .int .i64 rg] 34)).cell? ⟨w2.heap.size, 9, none⟩ = some (.int .i64 cd) ∧ (w3.alloc (.cells #[.int .i64 f, .int .i64 rd, .int .i64 rn, .int .i64 rm, .int .i64 ra, .int .i64 im, .int .i64 kd, .int .i64 bs, .int .i64 st, .int .i64 cd, .int .i64 rg] 34)).cell? ⟨w2.heap.size, 10, none⟩ = some (.int .i64 rg) ∧ (w3.alloc (.cells #[.int .i64 f, .int .i64 rd, .int .i64 rn, .int .i64 rm, .int .i64 ra, .int .i64 im, .int .i64 kd, .int .i64 bs, .int .i64 st, .int .i64 cd, .int .i64 rg] 34)).cell? ⟨w3.heap.size, 0, none⟩ = some (.int .i64 f) ∧ (w3.alloc (.cells #[.int .i64 f, .int .i64 rd, .int .i64 rn, .int .i64 rm, .int .i64 ra, .int .i64 im, .int .i64 kd, .int .i64 bs, .int .i64 st, .int .i64 cd, .int .i64 rg] 34)).cell? ⟨w3.heap.size, 1, none⟩ = some (.int .i64 rd) ∧ (w3.alloc (.cells #[.int .i64 f, .int .i64 rd, .int .i64 rn, .int .i64 rm, .int .i64 ra, .int .i64 im, .int .i64 kd, .int .i64 bs, .int .i64 st, .int .i64 cd, .int .i64 rg] 34)).cell? ⟨w3.heap.size, 2, none⟩ = some (.int .i64 rn) ∧ (w3.alloc (.cells #[.int .i64 f, .int .i64 rd, .int .i64 rn, .int .i64 rm, .int .i64 ra, .int .i64 im, .int .i64 kd, .int .i64 bs, .int .i64 st, .int .i64 cd, .int .i64 rg] 34)).cell? ⟨w3.heap.size, 3, none⟩ = some (.int .i64 rm) ∧ (w3.alloc (.cells #[.int .i64 f, .int .i64 rd, .int .i64 rn, .int .i64 rm, .int .i64 ra, .int .i64 im, .int .i64 kd, .int .i64 bs, .int .i64 st, .int .i64 cd, .int .i64 rg] 34)).cell? ⟨w3.heap.size, 4, none⟩ = some (.int .i64 ra) ∧ (w3.alloc (.cells #[.int .i64 f, .int .i64 rd, .int .i64 rn, .int .i64 rm, .int .i64 ra, .int .i64 im, .int .i64 kd, .int .i64 bs, .int .i64 st, .int .i64 cd, .int .i64 rg] 34)).cell? ⟨w3.heap.size, 5, none⟩ = some (.int .i64 im) ∧ (w3.alloc (.cells #[.int .i64 f, .int .i64 rd, .int .i64 rn, .int .i64 rm, .int .i64 ra, .int .i64 im, .int .i64 kd, .int .i64 bs, .int .i64 st, .int .i64 cd, .int .i64 rg] 34)).cell? ⟨w3.heap.size, 6, none⟩ = some (.int .i64 kd) ∧ (w3.alloc (.cells #[.int .i64 f, .int .i64 rd, .int .i64 rn, .int .i64 rm, .int .i64 ra, .int .i64 im, .int .i64 kd, .int .i64 bs, .int .i64 st, .int .i64 cd, .int .i64 rg] 34)).cell? ⟨w3.heap.size, 7, none⟩ = some (.int .i64 bs) ∧ (w3.alloc (.cells #[.int .i64 f, .int .i64 rd, .int .i64 rn, .int .i64 rm, .int .i64 ra, .int .i64 im, .int .i64 kd, .int .i64 bs, .int .i64 st, .int .i64 cd, .int .i64 rg] 34)).cell? ⟨w3.heap.size, 8, none⟩ = some (.int .i64 st) ∧ (w3.alloc (.cells #[.int .i64 f, .int .i64 rd, .int .i64 rn, .int .i64 rm, .int .i64 ra, .int .i64 im, .int .i64 kd, .int .i64 bs, .int .i64 st, .int .i64 cd, .int .i64 rg] 34)).cell? ⟨w3.heap.size, 9, none⟩ = some (.int .i64 cd) ∧ (w3.alloc (.cells #[.int .i64 f, .int .i64 rd, .int .i64 rn, .int .i64 rm, .int .i64 ra, .int .i64 im, .int .i64 kd, .int .i64 bs, .int .i64 st, .int .i64 cd, .int .i64 rg] 34)).cell? ⟨w3.heap.size, 10, none⟩ = some (.int .i64 rg)) := by
        refine ⟨?_, ?_, ?_, ?_, ?_, ?_, ?_, ?_, ?_, ?_, ?_, ?_, ?_, ?_, ?_, ?_, ?_, ?_, ?_, ?_, ?_, ?_⟩
        iterate 11 (first | exact Inst.box_of hX rfl)
        all_goals exact Inst.box_of (Below.refl _ _) rfl
      have hBB : Below w.heap.size w (w3.alloc (.cells #[.int .i64 f, .int .i64 rd, .int .i64 rn, .int .i64 rm, .int .i64 ra, .int .i64 im, .int .i64 kd, .int .i64 bs, .int .i64 st, .int .i64 cd, .int .i64 rg] 34)) := (hb12.alloc hb12.size _).trans (hX.mono (by have := hb12.size; simp; omega))
      have hq := fun w => eql_ref w f rd rn rm ra im kd bs st cd rg f rd rn rm ra im kd bs st cd rg
      have hsy : same f rd rn rm ra im kd bs st cd rg f rd rn rm ra im kd bs st cd rg = true := same_yes f rd rn rm ra im kd bs st cd rg
      clear hA hX hb3 hb12
      go_wp2_with fail
      have HB := hide hBB
      clear hBB
      generalize w3.alloc (.cells #[.int .i64 f, .int .i64 rd, .int .i64 rn, .int .i64 rm, .int .i64 ra, .int .i64 im, .int .i64 kd, .int .i64 bs, .int .i64 st, .int .i64 cd, .int .i64 rg] 34) = W0 at *
      generalize w2.heap.size = bx at *
      generalize w3.heap.size = yb at *
      go_region_held3 (fun w' => w'.cell? ⟨bx, 0, none⟩ = some (.int .i64 f) ∧ w'.cell? ⟨bx, 1, none⟩ = some (.int .i64 rd) ∧ w'.cell? ⟨bx, 2, none⟩ = some (.int .i64 rn) ∧ w'.cell? ⟨bx, 3, none⟩ = some (.int .i64 rm) ∧ w'.cell? ⟨bx, 4, none⟩ = some (.int .i64 ra) ∧ w'.cell? ⟨bx, 5, none⟩ = some (.int .i64 im) ∧ w'.cell? ⟨bx, 6, none⟩ = some (.int .i64 kd) ∧ w'.cell? ⟨bx, 7, none⟩ = some (.int .i64 bs) ∧ w'.cell? ⟨bx, 8, none⟩ = some (.int .i64 st) ∧ w'.cell? ⟨bx, 9, none⟩ = some (.int .i64 cd) ∧ w'.cell? ⟨bx, 10, none⟩ = some (.int .i64 rg) ∧ w'.cell? ⟨yb, 0, none⟩ = some (.int .i64 f) ∧ w'.cell? ⟨yb, 1, none⟩ = some (.int .i64 rd) ∧ w'.cell? ⟨yb, 2, none⟩ = some (.int .i64 rn) ∧ w'.cell? ⟨yb, 3, none⟩ = some (.int .i64 rm) ∧ w'.cell? ⟨yb, 4, none⟩ = some (.int .i64 ra) ∧ w'.cell? ⟨yb, 5, none⟩ = some (.int .i64 im) ∧ w'.cell? ⟨yb, 6, none⟩ = some (.int .i64 kd) ∧ w'.cell? ⟨yb, 7, none⟩ = some (.int .i64 bs) ∧ w'.cell? ⟨yb, 8, none⟩ = some (.int .i64 st) ∧ w'.cell? ⟨yb, 9, none⟩ = some (.int .i64 cd) ∧ w'.cell? ⟨yb, 10, none⟩ = some (.int .i64 rg)) (first | exact keep22 (next (Inst.drew_below _) hb4) HS.out | exact keep22 (Inst.drew_below _) HS.out | exact HS.out | go_keep) (first
        | (go_at_call 11; refine (of4_any _ _ _ _ _ _ _ _ _ _ _ _).mono ?_; rintro e w4 ⟨rfl, hb4⟩))
      all_goals
        go_wp2_with fail
        go_ret
        exact ⟨rfl, (unhide HB).trans ((next (Inst.drew_below _) hb4).mono (unhide HB).size)⟩
    · exact absurd hn (fun hn => has_none (unhide HH) hn)
  · have HH := hide hn
    clear hn
    have hq := fun w => eql_inst w 0 0 0 0 0 0 0 0 0 0 0 0 0 0 0 0 0 0 0 0 0 0
    have hsy : same 0 0 0 0 0 0 0 0 0 0 0 0 0 0 0 0 0 0 0 0 0 0 = true := same_yes 0 0 0 0 0 0 0 0 0 0 0
    go_wp2_with fail
    refine (refOf_any W wide h0 h1 _).mono ?_
    rintro e w3 ⟨hb3, hp⟩
    rcases hp with ⟨f', rd', rn', rm', ra', im', kd', bs', st', cd', rg', hH', rfl⟩ | ⟨hn, rfl⟩
    · exact absurd (unhide HH) (fun hn => has_none hH' hn)
    · have hX := next hb3 ((Below.refl w3.heap.size w3).alloc (Nat.le_refl _) (.cells #[.int .i64 0, .int .i64 0, .int .i64 0, .int .i64 0, .int .i64 0, .int .i64 0, .int .i64 0, .int .i64 0, .int .i64 0, .int .i64 0, .int .i64 0] 34))
      have x0 : (w3.alloc (.cells #[.int .i64 0, .int .i64 0, .int .i64 0, .int .i64 0, .int .i64 0, .int .i64 0, .int .i64 0, .int .i64 0, .int .i64 0, .int .i64 0, .int .i64 0] 34)).cell? ⟨w2.heap.size, 0, none⟩ = some (.int .i64 0) := Inst.box_of hX rfl
      have x1 : (w3.alloc (.cells #[.int .i64 0, .int .i64 0, .int .i64 0, .int .i64 0, .int .i64 0, .int .i64 0, .int .i64 0, .int .i64 0, .int .i64 0, .int .i64 0, .int .i64 0] 34)).cell? ⟨w2.heap.size, 1, none⟩ = some (.int .i64 0) := Inst.box_of hX rfl
      have x2 : (w3.alloc (.cells #[.int .i64 0, .int .i64 0, .int .i64 0, .int .i64 0, .int .i64 0, .int .i64 0, .int .i64 0, .int .i64 0, .int .i64 0, .int .i64 0, .int .i64 0] 34)).cell? ⟨w2.heap.size, 2, none⟩ = some (.int .i64 0) := Inst.box_of hX rfl
      have x3 : (w3.alloc (.cells #[.int .i64 0, .int .i64 0, .int .i64 0, .int .i64 0, .int .i64 0, .int .i64 0, .int .i64 0, .int .i64 0, .int .i64 0, .int .i64 0, .int .i64 0] 34)).cell? ⟨w2.heap.size, 3, none⟩ = some (.int .i64 0) := Inst.box_of hX rfl
      have x4 : (w3.alloc (.cells #[.int .i64 0, .int .i64 0, .int .i64 0, .int .i64 0, .int .i64 0, .int .i64 0, .int .i64 0, .int .i64 0, .int .i64 0, .int .i64 0, .int .i64 0] 34)).cell? ⟨w2.heap.size, 4, none⟩ = some (.int .i64 0) := Inst.box_of hX rfl
      have x5 : (w3.alloc (.cells #[.int .i64 0, .int .i64 0, .int .i64 0, .int .i64 0, .int .i64 0, .int .i64 0, .int .i64 0, .int .i64 0, .int .i64 0, .int .i64 0, .int .i64 0] 34)).cell? ⟨w2.heap.size, 5, none⟩ = some (.int .i64 0) := Inst.box_of hX rfl
      have x6 : (w3.alloc (.cells #[.int .i64 0, .int .i64 0, .int .i64 0, .int .i64 0, .int .i64 0, .int .i64 0, .int .i64 0, .int .i64 0, .int .i64 0, .int .i64 0, .int .i64 0] 34)).cell? ⟨w2.heap.size, 6, none⟩ = some (.int .i64 0) := Inst.box_of hX rfl
      have x7 : (w3.alloc (.cells #[.int .i64 0, .int .i64 0, .int .i64 0, .int .i64 0, .int .i64 0, .int .i64 0, .int .i64 0, .int .i64 0, .int .i64 0, .int .i64 0, .int .i64 0] 34)).cell? ⟨w2.heap.size, 7, none⟩ = some (.int .i64 0) := Inst.box_of hX rfl
      have x8 : (w3.alloc (.cells #[.int .i64 0, .int .i64 0, .int .i64 0, .int .i64 0, .int .i64 0, .int .i64 0, .int .i64 0, .int .i64 0, .int .i64 0, .int .i64 0, .int .i64 0] 34)).cell? ⟨w2.heap.size, 8, none⟩ = some (.int .i64 0) := Inst.box_of hX rfl
      have x9 : (w3.alloc (.cells #[.int .i64 0, .int .i64 0, .int .i64 0, .int .i64 0, .int .i64 0, .int .i64 0, .int .i64 0, .int .i64 0, .int .i64 0, .int .i64 0, .int .i64 0] 34)).cell? ⟨w2.heap.size, 9, none⟩ = some (.int .i64 0) := Inst.box_of hX rfl
      have x10 : (w3.alloc (.cells #[.int .i64 0, .int .i64 0, .int .i64 0, .int .i64 0, .int .i64 0, .int .i64 0, .int .i64 0, .int .i64 0, .int .i64 0, .int .i64 0, .int .i64 0] 34)).cell? ⟨w2.heap.size, 10, none⟩ = some (.int .i64 0) := Inst.box_of hX rfl
      have hBB : Below w.heap.size w w3 := (hb12.alloc hb12.size _).trans (hb3.mono (by have := hb12.size; simp; omega))
      clear hX hb3 hb12
      go_wp2_with fail
      go_ret
      exact ⟨rfl, hBB.alloc hBB.size _⟩

end Go.Proofs.YtjcoihbhgedgiaaDoor.Code

namespace Go.Proofs.YtjcoihbhgedgiaaDoor.codeReads
open Go.ChangeShapes Go.WideShapes Go.ChangeAt Go.RowKit
set_option linter.unusedVariables false

theorem own : ownKnob Tryd.prog.godebug = none := by kernel_rfl

theorem walk (a0 : Int) (a1 : Bool) (w0 : (Lit.int .u32 a0).wf = true)  (w : World) (hL : Code.Laid w) :
    Calls Tryd.prog 4 #[.int .u32 a0, .bool a1] w fun e w' => e = .returned (.bool true) ∧ Below w.heap.size w w' := by
  obtain ⟨g0, g1⟩ := bounds_u32 w0
  exact Code.reads_law a0 a1 (by omega) (by omega) w hL

theorem laid_met (os : Os) : laidMet Tryd.prog Rows.codeReadsRow.laid ((Code.laidWorld Tryd.prog os).forCall (fun _ _ => 0) ⟨#[], #[.int .u32 0, .bool false], []⟩).memory :=
  laidMet_of_run' 8 (by kernel_rfl) (by kernel_rfl)
theorem reads (os : Os) {H : Type} (enc : TypeId × Value → H) : ∃ places, DataW.whole enc Tryd.prog ((Code.laidWorld Tryd.prog os).forCall (fun _ _ => 0) ⟨#[], #[.int .u32 0, .bool false], []⟩).memory Tryd.f4.params.toList Rows.codeReadsSpec.vars false (#[.int .u32 0, .bool false] : Array Value).toList 8 = some ([(.lit (.int .u32 0)), (.lit (.bool false))], [], places) :=
  ⟨[], by kernel_rfl⟩

set_option maxRecDepth 100000 in
theorem lifted (os : Os) (started : os.Started) (H : Type) (enc : TypeId × Value → H) (F : Stop.Interp) :
    ReturnsInHanded {} Tryd.checked os 4 .any ((OpenSpec.ofChange Rows.codeReadsSpec).preRow enc Tryd.prog Tryd.f4 Rows.codeReadsRow.domain false Rows.codeReadsRow.laid) (((OpenSpec.ofChange Rows.codeReadsSpec).at F).post enc Tryd.prog Tryd.f4 false true false false) := by
  obtain ⟨places, hx⟩ := reads os enc
  refine returnsInHanded_of_row (C := Tryd.checked) (s := OpenSpec.ofChange Rows.codeReadsSpec) own started (by kernel_rfl) Tryd.func4
    (witness_row_at (enc := enc) (C := Tryd.checked) false (Code.laidWorld Tryd.prog os) #[.int .u32 0, .bool false] rfl (by kernel_rfl) (by kernel_rfl) (by kernel_rfl)
      (OpenSpec.preRow_of_cond 8 hx (by kernel_rfl) (fun k hk => by cases hk) (by kernel_rfl) (laid_met os))) ?_
  intro W base args ds gs before hval0 hW _ _ _ hL _ _
  have hval : ∀ (j : Nat) t v, Tryd.f4.params[j]? = some t → args[j]? = some v → Value.okWide Tryd.prog W .any base t v := hval0
  have hW' := hW
  obtain ⟨p, q, hA0, hV, rfl, hfz, hnd⟩ := hW
  have hA : DataW.TrodAll enc Tryd.prog W 0 (fun _ => true) true Tryd.f4.params.toList args.toList ds p := hA0
  rw [Tryd.params4] at hA hval
  obtain ⟨v0, vs0, d0, ds0, p0, q0, hargs, rfl, rfl, h0, r0⟩ := trodAll_cons hA
  obtain ⟨v1, vs1, d1, ds1, p1, q1, rfl, rfl, rfl, h1, r1⟩ := trodAll_cons r0
  obtain ⟨rfl, rfl, rfl⟩ := trodAll_nil r1
  obtain rfl : args = #[v0, v1] := by cases args; simp_all
  obtain ⟨rfl, rfl⟩ := trodVars_none hV
  obtain ⟨a0, rfl, rfl, rfl, w0⟩ := open_int Tryd.underlying26 (hval 0 26 v0 rfl rfl) h0
  obtain ⟨a1, rfl, rfl, rfl⟩ := open_bool Tryd.underlying4 (hval 1 4 v1 rfl rfl) h1
  clear hA0 hval0
  simp only [List.append_nil] at hW'
  refine (walk a0 a1 w0  W (Code.laid_of hL)).mono fun e W' ⟨he, hg⟩ => ?_
  subst he
  exact ⟨_, rfl, Ends.post_of_frame (pa := []) (pv := []) hW' (fun _ _ _ => (trodAll_cons_mk (shut_bool Tryd.underlying4 _) trodAll_mk0)) (fun sp _ => (trodAll_cons_mk (shut_int Tryd.underlying26 w0) (trodAll_cons_mk (shut_bool Tryd.underlying4 _) trodAll_mk0))) (fun _ _ => rfl) rfl
    (hg.frame _)⟩

theorem said : Rows.CodeReadsSaid :=
  OpenClaim.holds_of_cond 4 Tryd.f4 rfl rfl rfl rfl rfl rfl rfl ⟨rfl, rfl, rfl, rfl, rfl⟩ rfl rfl rfl rfl rfl (by kernel_rfl) Tryd.func4 (by kernel_rfl)
    (of_decide_eq_true (by kernel_rfl)) (by unfold Func.isWrapper; first | (rw [if_pos (by decide +kernel)]; kernel_rfl) | (rw [if_neg (by decide +kernel)]; exact ⟨rfl, rfl⟩))
    (fun os started H enc _ F => by rw [OpenClaim.pre_eq_preRow]; exact lifted os started H enc F)

/-- No parameter wants a stand-in; the program's own looks are off: what the card asks. -/
theorem plain (f : FuncId) (fn : Func) (hf : Tryd.pinned.checked.prog.funcNamed "remontoire/remontoirelaw04.CodeReads" = some f) (hfn : Tryd.pinned.checked.prog.funcs[f]? = some fn) :
    false = Tryd.pinned.checked.prog.looks [] ∧ ∀ (j : Nat) t, fn.params[j]? = some t → Tryd.pinned.checked.prog.wantsStandIn t = false := by
  obtain rfl : f = 4 := Option.some.inj ((show Tryd.prog.funcNamed "remontoire/remontoirelaw04.CodeReads" = some 4 by kernel_rfl).symm.trans hf) |>.symm
  obtain rfl : fn = Tryd.f4 := (Option.some.inj (Tryd.func4.symm.trans hfn)).symm
  refine ⟨by kernel_rfl, fun j t ht => ?_⟩
  rw [Tryd.params4] at ht
  have hm := Array.mem_of_getElem? ht
  simp only [List.mem_toArray, List.mem_cons, List.not_mem_nil, or_false] at hm
  rcases hm with rfl | rfl
  · exact (show Tryd.prog.wantsStandIn 26 = false by kernel_rfl)
  · exact (show Tryd.prog.wantsStandIn 4 = false by kernel_rfl)

/-- The card. -/
theorem proved : Rows.CodeReadsCardSaid :=
  Claim7.holds_tied_plain_at .later [] _ _ _ _ said (fun _ h => by cases h) (by kernel_rfl) (fun _ h => by cases h) codeReads_row_tie rfl ⟨rfl, rfl⟩ (by kernel_rfl) rfl plain (by kernel_rfl)
#print axioms proved
end Go.Proofs.YtjcoihbhgedgiaaDoor.codeReads
