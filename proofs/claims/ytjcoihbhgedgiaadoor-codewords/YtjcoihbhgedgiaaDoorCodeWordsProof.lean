/- For every instruction i the statement CodeWords returns true: a right one has the document's bits, and is read again from them; one that isn't right has none.
Conditions: none of the arguments; the package variables that the row lists hold what the program lays (the card ties them to its text). -/
import Derived.Test.YtjcoihbhgedgiaaDoorRows
import Derived.WalkKit
import Derived.ProofKit
import Derived.OpenShut
import Derived.Deep.DeepHandedRow
import Derived.Deep.RegionHeld3
import Derived.Test.YtjcoihbhgedgiaaDoorCards
import Derived.Test.YtjcoihbhgedgiaaDoorTie
import Derived.Below
import Derived.OpenShut
import Derived.ProofKit
import Derived.Test.YtjcoihbhgedgiaaDoorCodeLaid
import Derived.Test.YtjcoihbhgedgiaaDoorCodeLast
import Derived.Test.YtjcoihbhgedgiaaDoorCodeRefs
import Derived.Test.YtjcoihbhgedgiaaDoorInstRules
/-! From what lies behind a call to the row's own end: where nothing is asked again of what is handed back. -/
set_option linter.unusedVariables false
namespace Go.Proofs.YtjcoihbhgedgiaaDoor.Ends
open Go.ChangeShapes Go.WideShapes Go.ChangeAt Go.RowKit

theorem post_of_frame {H : Type} {enc : TypeId × Value → H} {P : Program} {f : Func} {s : ChangeSpec} {apart fresh handsOn : Bool} {W W' : World} {args : Array Value} {v : Value} {ds gs : List (DataW H)} {before pa pv : List MemPlace}
    (hW : DataW.Whole enc P f.params.toList s.vars apart W args.toList ds gs before)
    (hres : ∀ (b : Nat) (sp : Nat → Bool) (hd : Bool), DataW.TrodAll enc P W' b sp hd f.resultTypes.toList (v.resultList f.resultTypes.size) (s.fn H (ds ++ gs)).results [])
    (hargs : ∀ sp : Nat → Bool, (∀ p ∈ before, sp p.block = true) → DataW.TrodAll enc P W' 0 sp true f.params.toList args.toList (s.fn H (ds ++ gs)).args pa)
    (hvars : ∀ sp : Nat → Bool, (∀ p ∈ before, sp p.block = true) → DataW.TrodVars enc P W' sp s.vars (s.fn H (ds ++ gs)).vars pv)
    (hps : before = pa ++ pv) (hk : W.keptBut W' (· ∈ before)) :
    s.post enc P f apart fresh handsOn false W args v W' := by
  have hold : ∀ p ∈ before, (fun b => decide (b < W.heap.size)) p.block = true := fun p hp => by simpa using hW.lt p hp
  refine ⟨ds, gs, before, [], pa, pv, hW, hres _ _ _, hargs _ hold, hvars _ hold, World.keptBut_mono (fun p hp => ⟨hp, ?_⟩) hk, fun h => by cases h⟩
  rw [hps, List.mem_append] at hp
  exact Or.inr hp

end Go.Proofs.YtjcoihbhgedgiaaDoor.Ends

/-! The statement CodeWords: its walk. -/
set_option linter.unusedVariables false
namespace Go.Proofs.YtjcoihbhgedgiaaDoor.Code
open Go.RowKit Go.Proofs.YtjcoihbhgedgiaaDoor.Alu Go.Proofs.YtjcoihbhgedgiaaDoor.Imm Go.Proofs.YtjcoihbhgedgiaaDoor.Inst

theorem wide_47 {f : Int} (h0 : 1 ≤ f) (h1 : f ≤ 100) : wdF f = decide (47 < f) := by
  unfold wdF; rw [decide_eq_decide]; omega

/-- A right instruction is read again from its own word. -/
theorem Of_own (f rd rn rm ra im kd bs st cd rg : Int) (wide : Bool) (h : right f rd rn rm ra im kd bs st cd rg = true) (g0 : -9223372036854775808 ≤ rg) (g1 : rg ≤ 9223372036854775807) (hwd : wdF f = wide) (w : World) (hL : Laid w) :
    Calls Tryd.prog 13 #[.int .u32 (wd f rd rn rm ra im kd bs st cd rg), .bool wide] w fun e w' => e = .returned (.tuple #[.agg #[.int .i64 f, .int .i64 rd, .int .i64 rn, .int .i64 rm, .int .i64 ra, .int .i64 im, .int .i64 kd, .int .i64 bs, .int .i64 st, .int .i64 cd, .int .i64 rg], .int .i64 0]) ∧ Below w.heap.size w w' := by
  have hw := (apart_add h g0 g1).2.2.2
  have hi := (at_own h g0 g1).1
  have hH : Has (wd f rd rn rm ra im kd bs st cd rg) wide f rd rn rm ra im kd bs st cd rg := ⟨h, g0, g1, rfl, hwd⟩
  refine (Of_any (wd f rd rn rm ra im kd bs st cd rg) wide hw.1 hw.2 w hL).mono fun e w' ⟨hb, hp⟩ => ⟨?_, hb⟩
  rcases hp with ⟨f', rd', rn', rm', ra', im', kd', bs', st', cd', rg', hH', rfl⟩ | ⟨hn, rfl⟩
  · have hi' := (at_own hH'.right hH'.lo hH'.hi).1
    have hl : (f ≤ 47 ∧ f' ≤ 47) ∨ (48 ≤ f ∧ 48 ≤ f') := by
      have e := hwd.trans hH'.wide.symm
      unfold wdF at e
      rw [decide_eq_decide] at e
      omega
    obtain ⟨rfl, rfl, rfl, rfl, rfl, rfl, rfl, rfl, rfl, rfl, rfl⟩ := once h g0 g1 hH'.right hH'.lo hH'.hi hl hH'.word.symm
    rfl
  · have := hn _ _ _ _ _ _ _ _ _ _ _ hH
    omega

/-- What is owned, and isn't empty, is a slice with an address. -/
theorem own_slice {w : World} {base : Nat} {e : TypeId} {v : Value} {n : Nat} {xs : List Value} (h : w.ownsRow base e 1 v n xs) (hn : 0 < n) : ∃ g cap, v = .slice (some ⟨g, 0, none⟩) n cap ∧ base ≤ g ∧ g < w.heap.size ∧ n ≤ cap ∧ cap ≤ maxLen ∧ ∀ j u, xs[j]? = some u → w.cell? ⟨g, j, none⟩ = some u := by
  rcases h.2 with ⟨_, h0⟩ | ⟨g, cap, cur, rfl, hb, hg, hc, hm, _, ht⟩
  · omega
  · refine ⟨g, cap, rfl, hb, (Array.getElem?_eq_some_iff.1 hg).1, hc, hm, fun j u hu => ?_⟩
    have := h.cells (g := g) rfl j u hu
    rwa [show ((⟨g, 0, none⟩ : Addr).add j) = ⟨g, j, none⟩ by unfold Addr.add; split <;> simp_all] at this

theorem byt_len (W f : Int) (h : isF f = true) : ((byt W (wdF f)).length : Int) = siz f ∧ 0 < (byt W (wdF f)).length := by
  unfold byt siz; rw [if_pos h]; cases wdF f <;> simp

set_option maxHeartbeats 1000000 in
theorem words_law (f rd rn rm ra im kd bs st cd rg : Int) (g0 : -9223372036854775808 ≤ rg) (g1 : rg ≤ 9223372036854775807) (w : World) (hL : Laid w) :
    Calls Tryd.prog 3 #[.agg #[.int .i64 f, .int .i64 rd, .int .i64 rn, .int .i64 rm, .int .i64 ra, .int .i64 im, .int .i64 kd, .int .i64 bs, .int .i64 st, .int .i64 cd, .int .i64 rg]] w fun e w' => e = .returned (.bool true) ∧ Below w.heap.size w w' := by
  have hB := (Below.refl w.heap.size w).alloc (Nat.le_refl _) (.cells #[.int .i64 f, .int .i64 rd, .int .i64 rn, .int .i64 rm, .int .i64 ra, .int .i64 im, .int .i64 kd, .int .i64 bs, .int .i64 st, .int .i64 cd, .int .i64 rg] 24)
  have HE := hide (right_eq f rd rn rm ra im kd bs st cd rg g0 g1)
  cases hr : right f rd rn rm ra im kd bs st cd rg
  · have hrr : refR f rd rn rm ra im kd bs st cd rg = false := by rw [← unhide HE]; exact hr
    go_enter Tryd.func3, Tryd.ntmps3
    go_wp2_with fail
    refine (anchor4_any _ (hL.alloc _)).mono ?_
    rintro e w1 ⟨rfl, hb1⟩
    have hL1 : Laid w1 := (hL.alloc _).below hb1
    obtain ⟨hc, hf⟩ := bcell hb1
    go_wp2_with fail
    refine (Word_no _ _ _ _ _ _ _ _ _ _ _ hr _ hL1).mono ?_
    rintro e w2 ⟨rfl, hb2⟩
    have hL2 : Laid w2 := hL1.below hb2
    have hb3 := next hb1 hb2
    clear hc hf hb1 hb2 hL1
    obtain ⟨hc, hf⟩ := bcell hb3
    go_wp2_with fail
    refine (Bytes_no _ _ _ _ _ _ _ _ _ _ _ hr _ hL2).mono ?_
    rintro e w3 ⟨rfl, hb4⟩
    have hb5 := next hb3 hb4
    clear hc hf hb3 hb4 hL2
    obtain ⟨hc, hf⟩ := bcell hb5
    go_wp2_with fail
    refine (of4_any _ _ _ _ _ _ _ _ _ _ _ _).mono ?_
    rintro e w4 ⟨rfl, hb6⟩
    have hb7 := next hb5 hb6
    clear hc hf hb5 hb6
    go_wp2_with fail
    refine (refRight_any _ _ _ _ _ _ _ _ _ _ _ _).mono ?_
    rintro e w5 ⟨rfl, hb8⟩
    have hb9 := next hb7 hb8
    clear hb7 hb8
    go_wp2_with fail
    go_ret
    exact ⟨rfl, hB.trans (hb9.mono hB.size)⟩
  · have hrr : refR f rd rn rm ra im kd bs st cd rg = true := by rw [← unhide HE]; exact hr
    have hi := (at_own hr g0 g1).1
    have hbl := byt_len (wd f rd rn rm ra im kd bs st cd rg) f (isF_yes hi)
    have hq := fun w => eql_inst w f rd rn rm ra im kd bs st cd rg f rd rn rm ra im kd bs st cd rg
    have hsy : same f rd rn rm ra im kd bs st cd rg f rd rn rm ra im kd bs st cd rg = true := same_yes f rd rn rm ra im kd bs st cd rg
    have HG := hide (And.intro g0 g1)
    have HI := hide (wide_47 hi.1 hi.2)
    clear g0 g1 hi
    go_enter Tryd.func3, Tryd.ntmps3
    go_wp2_with fail
    refine (anchor4_any _ (hL.alloc _)).mono ?_
    rintro e w1 ⟨rfl, hb1⟩
    have hL1 : Laid w1 := (hL.alloc _).below hb1
    obtain ⟨hc, hf⟩ := bcell hb1
    go_wp2_with fail
    refine (Word_yes _ _ _ _ _ _ _ _ _ _ _ hr (unhide HG).1 (unhide HG).2 _ hL1).mono ?_
    rintro e w2 ⟨rfl, hb2⟩
    have hL2 : Laid w2 := hL1.below hb2
    have hb3 := next hb1 hb2
    clear hc hf hb1 hb2 hL1
    obtain ⟨hc, hf⟩ := bcell hb3
    go_wp2_with fail
    refine (Bytes_yes _ _ _ _ _ _ _ _ _ _ _ hr (unhide HG).1 (unhide HG).2 _ hL2).mono ?_
    rintro e w3 ⟨v, rfl, hown, hb4⟩
    have hL3 : Laid w3 := hL2.below hb4
    obtain ⟨g, cap, rfl, _⟩ := own_slice hown hbl.2
    have hb5 := next hb3 hb4
    clear hc hf hb3 hb4 hL2 hown
    obtain ⟨hc, hf⟩ := bcell hb5
    go_wp2_with fail
    refine (of4_any _ _ _ _ _ _ _ _ _ _ _ _).mono ?_
    rintro e w4 ⟨rfl, hb6⟩
    have hL4 : Laid w4 := hL3.below hb6
    have hb7 := next hb5 hb6
    clear hc hf hb5 hb6 hL3
    go_wp2_with fail
    refine (refRight_any _ _ _ _ _ _ _ _ _ _ _ _).mono ?_
    rintro e w5 ⟨rfl, hb8⟩
    have hL5 : Laid w5 := hL4.below hb8
    have hb9 := next hb7 hb8
    clear hb7 hb8 hL4
    obtain ⟨hc, hf⟩ := bcell hb9
    go_wp2_with fail
    refine (Of_own _ _ _ _ _ _ _ _ _ _ _ _ hr (unhide HG).1 (unhide HG).2 (unhide HI) _ hL5).mono ?_
    rintro e w6 ⟨rfl, hb10⟩
    have hb11 := next hb9 hb10
    clear hc hf hb9 hb10 hL5
    obtain ⟨hc, hf⟩ := bcell hb11
    have hz6 : w.heap.size < w6.heap.size := by have := hb11.size; simp at this; omega
    go_wp2_with fail
    refine (of4_any _ _ _ _ _ _ _ _ _ _ _ _).mono ?_
    rintro e w8 ⟨rfl, hb12⟩
    have hX : ∀ i v, #[.int .i64 f, .int .i64 rd, .int .i64 rn, .int .i64 rm, .int .i64 ra, .int .i64 im, .int .i64 kd, .int .i64 bs, .int .i64 st, .int .i64 cd, .int .i64 rg][i]? = some v → (w6.alloc (.cells #[.int .i64 f, .int .i64 rd, .int .i64 rn, .int .i64 rm, .int .i64 ra, .int .i64 im, .int .i64 kd, .int .i64 bs, .int .i64 st, .int .i64 cd, .int .i64 rg] 24)).cell? ⟨w.heap.size, i, none⟩ = some v := fun i v hv => (((Below.refl w6.heap.size w6).alloc (Nat.le_refl _) _).cell (p := ⟨w.heap.size, i, none⟩) hz6).trans (Inst.box_of hb11 hv)
    clear hc hf
    go_wp2_with fail
    refine (refWord_any _ _ _ _ _ _ _ _ _ _ _ hr (unhide HG).1 (unhide HG).2 _).mono ?_
    rintro e w9 ⟨rfl, hb13⟩
    have hb14 := next hb12 hb13
    have hz9 : w.heap.size < (w6.alloc (.cells #[.int .i64 f, .int .i64 rd, .int .i64 rn, .int .i64 rm, .int .i64 ra, .int .i64 im, .int .i64 kd, .int .i64 bs, .int .i64 st, .int .i64 cd, .int .i64 rg] 24)).heap.size := by simp; omega
    have q := (bcell hb14).1
    have x0 := (q _ 0 hz9).trans (hX 0 _ rfl)
    have x1 := (q _ 1 hz9).trans (hX 1 _ rfl)
    have x2 := (q _ 2 hz9).trans (hX 2 _ rfl)
    have x3 := (q _ 3 hz9).trans (hX 3 _ rfl)
    have x4 := (q _ 4 hz9).trans (hX 4 _ rfl)
    have x5 := (q _ 5 hz9).trans (hX 5 _ rfl)
    have x6 := (q _ 6 hz9).trans (hX 6 _ rfl)
    have x7 := (q _ 7 hz9).trans (hX 7 _ rfl)
    have x8 := (q _ 8 hz9).trans (hX 8 _ rfl)
    have x9 := (q _ 9 hz9).trans (hX 9 _ rfl)
    have x10 := (q _ 10 hz9).trans (hX 10 _ rfl)
    have y0 : w9.cell? ⟨w6.heap.size, 0, none⟩ = some (.int .i64 f) := Inst.box_of hb14 rfl
    have y1 : w9.cell? ⟨w6.heap.size, 1, none⟩ = some (.int .i64 rd) := Inst.box_of hb14 rfl
    have y2 : w9.cell? ⟨w6.heap.size, 2, none⟩ = some (.int .i64 rn) := Inst.box_of hb14 rfl
    have y3 : w9.cell? ⟨w6.heap.size, 3, none⟩ = some (.int .i64 rm) := Inst.box_of hb14 rfl
    have y4 : w9.cell? ⟨w6.heap.size, 4, none⟩ = some (.int .i64 ra) := Inst.box_of hb14 rfl
    have y5 : w9.cell? ⟨w6.heap.size, 5, none⟩ = some (.int .i64 im) := Inst.box_of hb14 rfl
    have y6 : w9.cell? ⟨w6.heap.size, 6, none⟩ = some (.int .i64 kd) := Inst.box_of hb14 rfl
    have y7 : w9.cell? ⟨w6.heap.size, 7, none⟩ = some (.int .i64 bs) := Inst.box_of hb14 rfl
    have y8 : w9.cell? ⟨w6.heap.size, 8, none⟩ = some (.int .i64 st) := Inst.box_of hb14 rfl
    have y9 : w9.cell? ⟨w6.heap.size, 9, none⟩ = some (.int .i64 cd) := Inst.box_of hb14 rfl
    have y10 : w9.cell? ⟨w6.heap.size, 10, none⟩ = some (.int .i64 rg) := Inst.box_of hb14 rfl
    clear hX q
    go_wp2_with fail
    refine (Inst.Bytes_any _ _ _ _ _ _ _ _ _ _ _ _).mono ?_
    rintro e w10 ⟨rfl, hb15⟩
    have hE := hbl.1
    go_wp2_with fail
    go_ret
    exact ⟨rfl, hB.trans ((hb11.trans ((((Below.refl w6.heap.size w6).alloc (Nat.le_refl _) _).trans ((next hb14 hb15).mono (by simp))).mono hb11.size)).mono hB.size)⟩

end Go.Proofs.YtjcoihbhgedgiaaDoor.Code

namespace Go.Proofs.YtjcoihbhgedgiaaDoor.codeWords
open Go.ChangeShapes Go.WideShapes Go.ChangeAt Go.RowKit
set_option linter.unusedVariables false

theorem own : ownKnob Tryd.prog.godebug = none := by kernel_rfl

theorem walk (f rd rn rm ra im kd bs st cd rg : Int) (w0 : ∀ z ∈ [f, rd, rn, rm, ra, im, kd, bs, st, cd, rg], (Lit.int .i64 z).wf = true) (w : World) (hL : Code.Laid w) :
    Calls Tryd.prog 3 #[.agg #[.int .i64 f, .int .i64 rd, .int .i64 rn, .int .i64 rm, .int .i64 ra, .int .i64 im, .int .i64 kd, .int .i64 bs, .int .i64 st, .int .i64 cd, .int .i64 rg]] w fun e w' => e = .returned (.bool true) ∧ Below w.heap.size w w' := by
  obtain ⟨g0, g1⟩ := bounds_i64 (w0 rg (by simp))
  exact Code.words_law f rd rn rm ra im kd bs st cd rg g0 g1 w hL

theorem laid_met (os : Os) : laidMet Tryd.prog Rows.codeWordsRow.laid ((Code.laidWorld Tryd.prog os).forCall (fun _ _ => 0) ⟨#[], #[.agg #[.int .i64 0, .int .i64 0, .int .i64 0, .int .i64 0, .int .i64 0, .int .i64 0, .int .i64 0, .int .i64 0, .int .i64 0, .int .i64 0, .int .i64 0]], []⟩).memory :=
  laidMet_of_run' 8 (by kernel_rfl) (by kernel_rfl)
theorem reads (os : Os) {H : Type} (enc : TypeId × Value → H) : ∃ places, DataW.whole enc Tryd.prog ((Code.laidWorld Tryd.prog os).forCall (fun _ _ => 0) ⟨#[], #[.agg #[.int .i64 0, .int .i64 0, .int .i64 0, .int .i64 0, .int .i64 0, .int .i64 0, .int .i64 0, .int .i64 0, .int .i64 0, .int .i64 0, .int .i64 0]], []⟩).memory Tryd.f3.params.toList Rows.codeWordsSpec.vars false (#[.agg #[.int .i64 0, .int .i64 0, .int .i64 0, .int .i64 0, .int .i64 0, .int .i64 0, .int .i64 0, .int .i64 0, .int .i64 0, .int .i64 0, .int .i64 0]] : Array Value).toList 8 = some ([(.agg [.lit (.int .i64 0), .lit (.int .i64 0), .lit (.int .i64 0), .lit (.int .i64 0), .lit (.int .i64 0), .lit (.int .i64 0), .lit (.int .i64 0), .lit (.int .i64 0), .lit (.int .i64 0), .lit (.int .i64 0), .lit (.int .i64 0)])], [], places) :=
  ⟨[], by kernel_rfl⟩

set_option maxRecDepth 100000 in
theorem lifted (os : Os) (started : os.Started) (H : Type) (enc : TypeId × Value → H) (F : Stop.Interp) :
    ReturnsInHanded {} Tryd.checked os 3 .any ((OpenSpec.ofChange Rows.codeWordsSpec).preRow enc Tryd.prog Tryd.f3 Rows.codeWordsRow.domain false Rows.codeWordsRow.laid) (((OpenSpec.ofChange Rows.codeWordsSpec).at F).post enc Tryd.prog Tryd.f3 false true false false) := by
  obtain ⟨places, hx⟩ := reads os enc
  refine returnsInHanded_of_row (C := Tryd.checked) (s := OpenSpec.ofChange Rows.codeWordsSpec) own started (by kernel_rfl) Tryd.func3
    (witness_row_at (enc := enc) (C := Tryd.checked) false (Code.laidWorld Tryd.prog os) #[.agg #[.int .i64 0, .int .i64 0, .int .i64 0, .int .i64 0, .int .i64 0, .int .i64 0, .int .i64 0, .int .i64 0, .int .i64 0, .int .i64 0, .int .i64 0]] rfl (by kernel_rfl) (by kernel_rfl) (by kernel_rfl)
      (OpenSpec.preRow_of_cond 8 hx (by kernel_rfl) (fun k hk => by cases hk) (by kernel_rfl) (laid_met os))) ?_
  intro W base args ds gs before hval0 hW _ _ _ hL _ _
  have hval : ∀ (j : Nat) t v, Tryd.f3.params[j]? = some t → args[j]? = some v → Value.okWide Tryd.prog W .any base t v := hval0
  have hW' := hW
  obtain ⟨p, q, hA0, hV, rfl, hfz, hnd⟩ := hW
  have hA : DataW.TrodAll enc Tryd.prog W 0 (fun _ => true) true Tryd.f3.params.toList args.toList ds p := hA0
  rw [Tryd.params3] at hA hval
  obtain ⟨v0, vs0, d0, ds0, p0, q0, hargs, rfl, rfl, h0, r0⟩ := trodAll_cons hA
  obtain ⟨rfl, rfl, rfl⟩ := trodAll_nil r0
  obtain rfl : args = #[v0] := by cases args; simp_all
  obtain ⟨rfl, rfl⟩ := trodVars_none hV
  have k0 := h0
  obtain ⟨f, rd, rn, rm, ra, im, kd, bs, st, cd, rg, rfl, rfl, rfl, w0⟩ := Inst.open_inst (hval 0 24 v0 rfl rfl) h0
  clear hA0 hval0
  simp only [List.append_nil] at hW'
  refine (walk f rd rn rm ra im kd bs st cd rg w0 W (Code.laid_of hL)).mono fun e W' ⟨he, hg⟩ => ?_
  subst he
  exact ⟨_, rfl, Ends.post_of_frame (pa := []) (pv := []) hW' (fun _ _ _ => (trodAll_cons_mk (shut_bool Tryd.underlying4 _) trodAll_mk0)) (fun sp _ => (trodAll_cons_mk (WideElems.Trod_stays Inst.laidOut (by kernel_rfl) (of_decide_eq_true (by kernel_rfl)) k0 (fun x hx => by cases hx) (fun x hx => by cases hx)) trodAll_mk0)) (fun _ _ => rfl) rfl
    (hg.frame _)⟩

theorem said : Rows.CodeWordsSaid :=
  OpenClaim.holds_of_cond 3 Tryd.f3 rfl rfl rfl rfl rfl rfl rfl ⟨rfl, rfl, rfl, rfl, rfl⟩ rfl rfl rfl rfl rfl (by kernel_rfl) Tryd.func3 (by kernel_rfl)
    (of_decide_eq_true (by kernel_rfl)) (by unfold Func.isWrapper; first | (rw [if_pos (by decide +kernel)]; kernel_rfl) | (rw [if_neg (by decide +kernel)]; exact ⟨rfl, rfl⟩))
    (fun os started H enc _ F => by rw [OpenClaim.pre_eq_preRow]; exact lifted os started H enc F)

/-- No parameter wants a stand-in; the program's own looks are off: what the card asks. -/
theorem plain (f : FuncId) (fn : Func) (hf : Tryd.pinned.checked.prog.funcNamed "remontoire/remontoirelaw04.CodeWords" = some f) (hfn : Tryd.pinned.checked.prog.funcs[f]? = some fn) :
    false = Tryd.pinned.checked.prog.looks [] ∧ ∀ (j : Nat) t, fn.params[j]? = some t → Tryd.pinned.checked.prog.wantsStandIn t = false := by
  obtain rfl : f = 3 := Option.some.inj ((show Tryd.prog.funcNamed "remontoire/remontoirelaw04.CodeWords" = some 3 by kernel_rfl).symm.trans hf) |>.symm
  obtain rfl : fn = Tryd.f3 := (Option.some.inj (Tryd.func3.symm.trans hfn)).symm
  refine ⟨by kernel_rfl, fun j t ht => ?_⟩
  rw [Tryd.params3] at ht
  have hm := Array.mem_of_getElem? ht
  simp only [List.mem_toArray, List.mem_cons, List.not_mem_nil, or_false] at hm
  rcases hm with rfl
  · exact (show Tryd.prog.wantsStandIn 24 = false by kernel_rfl)

/-- The card. -/
theorem proved : Rows.CodeWordsCardSaid :=
  Claim7.holds_tied_plain_at .later [] _ _ _ _ said (fun _ h => by cases h) (by kernel_rfl) (fun _ h => by cases h) codeWords_row_tie rfl ⟨rfl, rfl⟩ (by kernel_rfl) rfl plain (by kernel_rfl)
#print axioms proved
end Go.Proofs.YtjcoihbhgedgiaaDoor.codeWords
