/- For every item x the statement AsmRight returns true: it may be just if the document says so; what makes items makes them.
Conditions: none of the arguments; the package variables that the row lists hold what the program lays (the card ties them to its text). -/
import Derived.Test.YtfdnjoieolijcaaDoorRows
import Derived.WalkKit
import Derived.ProofKit
import Derived.OpenShut
import Derived.Deep.DeepHandedRow
import Derived.Deep.RegionHeld3
import Derived.Test.YtfdnjoieolijcaaDoorCards
import Derived.Test.YtfdnjoieolijcaaDoorTie
import Derived.Below
import Derived.OpenShut
import Derived.ProofKit
import Derived.Test.YtfdnjoieolijcaaDoorAsmLay
import Derived.Test.YtfdnjoieolijcaaDoorAsmRight0
import Derived.Test.YtfdnjoieolijcaaDoorInstRules
import Derived.Test.YtfdnjoieolijcaaDoorInstPre
/-! From what lies behind a call to the row's own end: where nothing is asked again of what is handed back. -/
set_option linter.unusedVariables false
namespace Go.Proofs.YtfdnjoieolijcaaDoor.Ends
open Go.ChangeShapes Go.WideShapes Go.ChangeAt Go.RowKit

theorem post_of_frame {H : Type} {enc : TypeId × Value → H} {P : Program} {f : Func} {s : ChangeSpec} {apart fresh handsOn : Bool} {W W' : World} {args : Array Value} {v : Value} {ds gs : List (DataW H)} {before pa pv : List MemPlace}
    (hW : DataW.Whole enc P f.params.toList s.vars apart W args.toList ds gs before)
    (hres : ∀ (b : Nat) (sp : Nat → Bool) (hd : Bool), DataW.TrodAll enc P W' b sp hd f.resultTypes.toList (v.resultList f.resultTypes.size) (s.fn H (ds ++ gs)).results [])
    (hargs : ∀ sp : Nat → Bool, (∀ p ∈ before, sp p.block = true) → DataW.TrodAll enc P W' 0 sp true f.params.toList args.toList (s.fn H (ds ++ gs)).args pa)
    (hvars : ∀ sp : Nat → Bool, (∀ p ∈ before, sp p.block = true) → DataW.TrodVars enc P W' sp s.vars (s.fn H (ds ++ gs)).vars pv)
    (hps : before = pa ++ pv) (hk : W.keptBut W' (· ∈ before)) :
    s.post enc P f apart fresh handsOn false W args v W' := by
  have hold : ∀ p ∈ before, (fun b => decide (b < W.heap.size)) p.block = true := fun p hp => by simpa using hW.lt p hp
  refine ⟨ds, gs, before, [], pa, pv, hW, hres _ _ _, hargs _ hold, hvars _ hold, World.keptBut_mono (fun p hp => ⟨hp, ?_⟩) hk, fun h => by cases h⟩
  rw [hps, List.mem_append] at hp
  exact Or.inr hp

/-- The same, where the arguments read as they did in what lies below. -/
theorem post_of_below {H : Type} {enc : TypeId × Value → H} {P : Program} {f : Func} {s : ChangeSpec} {apart fresh handsOn : Bool} {W W' : World} {args : Array Value} {v : Value} {ds gs : List (DataW H)} {before pa pv : List MemPlace}
    (hW : DataW.Whole enc P f.params.toList s.vars apart W args.toList ds gs before)
    (hres : ∀ (b : Nat) (sp : Nat → Bool) (hd : Bool), DataW.TrodAll enc P W' b sp hd f.resultTypes.toList (v.resultList f.resultTypes.size) (s.fn H (ds ++ gs)).results [])
    (hargs : DataW.TrodAll enc P W' 0 (fun b => decide (b < W.heap.size)) true f.params.toList args.toList (s.fn H (ds ++ gs)).args pa)
    (hvars : ∀ sp : Nat → Bool, (∀ p ∈ before, sp p.block = true) → DataW.TrodVars enc P W' sp s.vars (s.fn H (ds ++ gs)).vars pv)
    (hps : before = pa ++ pv) (hk : W.keptBut W' (· ∈ before)) :
    s.post enc P f apart fresh handsOn false W args v W' := by
  have hold : ∀ p ∈ before, (fun b => decide (b < W.heap.size)) p.block = true := fun p hp => by simpa using hW.lt p hp
  refine ⟨ds, gs, before, [], pa, pv, hW, hres _ _ _, hargs, hvars _ hold, World.keptBut_mono (fun p hp => ⟨hp, ?_⟩) hk, fun h => by cases h⟩
  rw [hps, List.mem_append] at hp
  exact Or.inr hp

end Go.Proofs.YtfdnjoieolijcaaDoor.Ends

/-! The document's example of layer 8 is true. -/
set_option linter.unusedVariables false
set_option linter.unusedSimpArgs false
namespace Go.Proofs.YtfdnjoieolijcaaDoor.Asm
open Go.RowKit Go.Proofs.YtfdnjoieolijcaaDoor.Core Go.Proofs.YtfdnjoieolijcaaDoor.Alu

def anX (k : Nat) : It := if k = 0 then hereI 1 else if k = 1 then doI nopI else goI (-1) 1
theorem an_all : allB 3 anX = true := by decide +kernel
theorem an_kind {k : Nat} (h : (anX k).k = 3) : k = 0 := by
  unfold anX at h
  by_cases h0 : k = 0
  · exact h0
  · rw [if_neg h0] at h
    split at h <;> exact absurd h (by decide)
theorem an_once : OnceM anX 3 := fun i j hij hj l hi hm => by
  have := an_kind hm.1
  omega
theorem an_found : Found anX 3 := fun i hi h2 => by
  rcases (show i = 0 ∨ i = 1 ∨ i = 2 by omega) with rfl | rfl | rfl
  · exact absurd h2 (by decide)
  · exact absurd h2 (by decide)
  · exact ⟨0, by omega, rfl, rfl⟩
theorem an_ends : (prg 3 anX).Ends 0 false where
  on := fun r h => by omega
  last := by
    simp only [Bool.false_eq_true, if_false]
    refine ⟨by decide +kernel, fun i hi => ?_⟩
    have hi' : i < 3 := hi
    rcases (show i = 0 ∨ i = 1 ∨ i = 2 by omega) with rfl | rfl | rfl <;> decide +kernel
def anJ : Ins := brI (-1) (-6) false
theorem an_bytes : bytK (prg 3 anX) anX ((prg 3 anX).it 0) 3 = insB nopI ++ insB anJ := by decide +kernel
theorem an_len : (insB nopI ++ insB anJ).length = 4 := by decide +kernel
theorem an_len2 : (insB nopI).length = 2 ∧ (insB anJ).length = 2 := by decide +kernel
theorem anJ_right : anJ.right = true := by decide +kernel
theorem an_items {w : World} {b : Nat} (h : w.heap[b]? = some (.cells ((itv (hereI 1)).toList ++ (itv (doI nopI)).toList ++ (itv (goI (-1) 1)).toList).toArray 26 (0, 0))) : Items w (some ⟨b, 0, none⟩) 3 anX := by
  refine ⟨.inr ⟨b, 0, rfl, lt_of_block h, fun i hi j v hv => ?_⟩, fun i hi => ?_⟩
  · have hj : j < 15 := by have := (List.getElem?_eq_some_iff.1 hv).1; simpa [itv] using this
    rw [cell_of_row w b _ _ _ _ h, List.getElem?_toArray]
    rcases (show i = 0 ∨ i = 1 ∨ i = 2 by omega) with rfl | rfl | rfl
    · rw [show 0 + 0 * 15 + j = j by omega, List.append_assoc, List.getElem?_append_left (show j < (itv (hereI 1)).toList.length from hj)]
      exact hv
    · rw [show 0 + 1 * 15 + j = 15 + j by omega, List.append_assoc, List.getElem?_append_right (show (itv (hereI 1)).toList.length ≤ 15 + j from by show 15 ≤ 15 + j; omega), show 15 + j - (itv (hereI 1)).toList.length = j from by show 15 + j - 15 = j; omega, List.getElem?_append_left (show j < (itv (doI nopI)).toList.length from hj)]
      exact hv
    · rw [show 0 + 2 * 15 + j = 30 + j by omega, List.getElem?_append_right (show ((itv (hereI 1)).toList ++ (itv (doI nopI)).toList).length ≤ 30 + j from by show 30 ≤ 30 + j; omega), show 30 + j - ((itv (hereI 1)).toList ++ (itv (doI nopI)).toList).length = j from by show 30 + j - 30 = j; omega]
      exact hv
  · rcases (show i = 0 ∨ i = 1 ∨ i = 2 by omega) with rfl | rfl | rfl <;> exact ⟨by decide, by decide⟩

theorem anAt (base g cap : Nat) (w : World) (ho : w.ownsRow base 5 1 (.slice (some ⟨g, 0, none⟩) 4 cap) 4 (Code.u8s (insB nopI ++ insB anJ))) (hL : Code.Laid w) :
    Calls Tryd.prog 17 #[.slice (some ⟨g, 0, none⟩) 4 cap, .int .i64 2] w fun e w' => e = .returned (.tuple #[.agg (inv anJ), .int .i64 0]) ∧ Below w.heap.size w w' := by
  have h4 : 2 + (insB anJ).length = 4 := by rw [an_len2.2]
  rw [u8s_app] at ho
  exact Code.At_own anJ.f anJ.rd anJ.rn anJ.rm anJ.ra anJ.im anJ.kd anJ.bs anJ.st anJ.cd anJ.rg anJ_right (by decide) (by decide) base (.slice (some ⟨g, 0, none⟩) 4 cap) 2 (Code.u8s (insB nopI)) (by simp [Code.u8s, an_len2.1]) w hL (by rw [show 2 + (Code.byt (Code.wd anJ.f anJ.rd anJ.rn anJ.rm anJ.ra anJ.im anJ.kd anJ.bs anJ.st anJ.cd anJ.rg) (Inst.wdF anJ.f)).length = 4 from h4]; exact ho)
theorem anEq (w : World) : (binOp .eql 24 (.agg (inv anJ)) (.agg #[.int .i64 47, .int .i64 0, .int .i64 0, .int .i64 0, .int .i64 0, .int .i64 (-6), .int .i64 0, .int .i64 0, .int .i64 0, .int .i64 0, .int .i64 0])).run Tryd.prog w = .ok (.bool true) w :=
  (Inst.eql_inst w anJ.f anJ.rd anJ.rn anJ.rm anJ.ra anJ.im anJ.kd anJ.bs anJ.st anJ.cd anJ.rg 47 0 0 0 0 (-6) 0 0 0 0 0).trans (by rw [show Inst.same anJ.f anJ.rd anJ.rn anJ.rm anJ.ra anJ.im anJ.kd anJ.bs anJ.st anJ.cd anJ.rg 47 0 0 0 0 (-6) 0 0 0 0 0 = true by decide +kernel])
set_option maxRecDepth 100000 in
set_option maxHeartbeats 4000000 in
theorem anchor8_any (w : World) (hL : Code.Laid w) :
    Calls Tryd.prog 7 #[] w fun e w' => e = .returned (.bool true) ∧ Below w.heap.size w w' := by
  go_enter Tryd.func7, Tryd.ntmps7
  go_wp2_with fail
  refine (Here_any 1 _).mono ?_
  rintro e w1 ⟨rfl, hb1⟩
  dsimp only [itv, hereI, zerI]
  go_wp2_with fail
  refine (Do_any nopI _).mono ?_
  rintro e w2 ⟨rfl, hb2⟩
  dsimp only [itv, doI, nopI]
  have hb2' := hb1.trans (hb2.mono hb1.size)
  go_wp2_with fail
  refine (Go_any (-1) 1 _).mono ?_
  rintro e w3 ⟨rfl, hb3⟩
  dsimp only [itv, goI, zerI]
  have hb3' := hb2'.trans (hb3.mono hb2'.size)
  clear hb1 hb2 hb3 hb2'
  go_wp2_with fail
  have hA := heap_alloc_new w3 (.cells ((itv (hereI 1)).toList ++ (itv (doI nopI)).toList ++ (itv (goI (-1) 1)).toList).toArray 26)
  have hI := an_items hA
  have hz3 : w3.heap.size < (w3.alloc (.cells ((itv (hereI 1)).toList ++ (itv (doI nopI)).toList ++ (itv (goI (-1) 1)).toList).toArray 26)).heap.size := by simp
  have hB4 := hb3'.alloc hb3'.size (.cells ((itv (hereI 1)).toList ++ (itv (doI nopI)).toList ++ (itv (goI (-1) 1)).toList).toArray 26)
  refine (Lay_any (some ⟨w3.heap.size, 0, none⟩) 3 3 anX _ hI (fun b off hq => by injection hq with hq; injection hq with hq; rw [← hq]; exact hz3) (by decide) (hL.below hB4)).mono ?_
  rintro e w4 ⟨hb4, hp⟩
  have hB5 := hB4.trans (hb4.mono hB4.size)
  clear hA hI hB4 hb3' hz3 hb4
  rcases hp with ⟨h, _⟩ | ⟨_, h2, _⟩ | ⟨_, _, R, hE, _⟩ | ⟨_, _, R, ga, gs, vb, hE, rfl, hA4, hS4, hlo, hown⟩
  · rw [an_all] at h; cases h
  · exact absurd ⟨an_once, an_found⟩ h2
  · exact absurd (Prg.Ends.one hE an_ends).2 (by decide)
  obtain ⟨rfl, _⟩ := Prg.Ends.one hE an_ends
  rw [an_bytes, an_len] at hown
  obtain ⟨g, cap, rfl, hg0, hg1, hgc, hgm, _⟩ := Code.own_slice hown (by decide)
  rw [show (((0 : Nat) : Int) + 1) = 1 from rfl]
  have hX5 := heap_alloc_new w4 (.cells (ldv (.slice (some ⟨g, 0, none⟩) 4 cap) ga gs 3 1) 44)
  have c0 : (w4.alloc (.cells (ldv (.slice (some ⟨g, 0, none⟩) 4 cap) ga gs 3 1) 44)).cell? ⟨w4.heap.size, 0, none⟩ = some (.slice (some ⟨g, 0, none⟩) 4 cap) := by rw [cell_of_row _ _ _ _ _ _ hX5]; rfl
  have hz5 : w4.heap.size < (w4.alloc (.cells (ldv (.slice (some ⟨g, 0, none⟩) 4 cap) ga gs 3 1) 44)).heap.size := by simp
  have hown5 := hide (hown.alloc (.cells (ldv (.slice (some ⟨g, 0, none⟩) 4 cap) ga gs 3 1) 44))
  have hB6 := hide (hB5.alloc hB5.size (.cells (ldv (.slice (some ⟨g, 0, none⟩) 4 cap) ga gs 3 1) 44))
  clear hX5 hown hA4 hS4 hE
  go_wp2_with (refine wpList_store_rowTo rfl 44 (.tmp 1) (.tmp 12) rfl rfl _ (ldv (.slice (some ⟨g, 0, none⟩) 4 cap) ga gs 3 1) rfl rfl 44 (#[.slice none 0 0, .slice none 0 0, .slice none 0 0, .int .i64 0]) (heap_alloc_last _ _) info_ld rfl (one_ld _ _ _ _ _ _ _) ?_; rw [World.setRow_alloc_new])
  refine (anAt _ g cap _ hown5.out (hL.below hB6.out)).mono ?_
  rintro e w6 ⟨rfl, hb6⟩
  have hB7 := hide (hB6.out.trans (hb6.mono hB6.out.size))
  have hX7 := hide (heap_alloc_last w6 (.cells (inv anJ) 24))
  have hq := anEq
  clear hb6 hB6 c0 hz5
  go_wp2_with (first
    | (refine wpList_store_rowTo rfl 24 (.tmp 3) (.tmp 26) rfl rfl _ (inv anJ) rfl rfl 24 (inv zerI) (heap_alloc_last _ _) info_in rfl (one_in _) ?_; rw [World.setRow_alloc_new])
    | (refine BigFrame.wpList_want rfl (fun K hK => ?_); refine wp_load_row 24 (.tmp 3) rfl w6.heap.size rfl 24 _ (0, 0) _ (unhide hX7) Tryd.underlying24 rfl info_in ?_; refine hK _ _ ?_))
  go_ret
  exact ⟨rfl, hB7.out.alloc hB7.out.size _⟩
end Go.Proofs.YtfdnjoieolijcaaDoor.Asm

/-! The document's item: of, empty, Right. -/
set_option linter.unusedVariables false
set_option linter.unusedSimpArgs false
namespace Go.Proofs.YtfdnjoieolijcaaDoor.Asm
open Go.RowKit Go.Proofs.YtfdnjoieolijcaaDoor.Core Go.Proofs.YtfdnjoieolijcaaDoor.Alu

set_option maxRecDepth 100000 in
set_option maxHeartbeats 2000000 in
theorem of8_any (x : It) (w : World) :
    Calls Tryd.prog 9 #[.agg (itv x)] w fun e w' => e = .returned (.agg (itv x)) ∧ Below w.heap.size w w' := by
  show Calls Tryd.prog 9 #[.agg #[.int .i64 x.k, .int .i64 x.i.f, .int .i64 x.i.rd, .int .i64 x.i.rn, .int .i64 x.i.rm, .int .i64 x.i.ra, .int .i64 x.i.im, .int .i64 x.i.kd, .int .i64 x.i.bs, .int .i64 x.i.st, .int .i64 x.i.cd, .int .i64 x.i.rg, .int .i64 x.c, .int .i64 x.l, .int .i64 x.t]] w _
  go_enter Tryd.func9, Tryd.ntmps9
  go_wp2
  exact bodyPost_ret (v := .agg (itv x)) (by simp [results, Tryd.results9, go_sem, itv]) rfl ⟨rfl, by repeat (first | exact Below.refl _ _ | refine Below.alloc ?_ (by first | (simp; done) | (simp; omega)) _)⟩

set_option maxRecDepth 100000 in
set_option maxHeartbeats 2000000 in
theorem empty_any (i : Ins) (w : World) :
    Calls Tryd.prog 25 #[.agg (inv i)] w fun e w' => e = .returned (.bool (eqIns i zerI)) ∧ Below w.heap.size w w' := by
  show Calls Tryd.prog 25 #[.agg #[.int .i64 i.f, .int .i64 i.rd, .int .i64 i.rn, .int .i64 i.rm, .int .i64 i.ra, .int .i64 i.im, .int .i64 i.kd, .int .i64 i.bs, .int .i64 i.st, .int .i64 i.cd, .int .i64 i.rg]] w _
  go_enter Tryd.func25, Tryd.ntmps25
  go_wp2_with fail
  all_goals
    go_ret
    exact ⟨ret_bool (by go_light; rw [Bool.eq_iff_iff]; simp_all [eqIns, zerI, Inst.same]), (Below.refl _ _).alloc (Nat.le_refl _) _⟩

theorem refRightI (i : Ins) (g : -9223372036854775808 ≤ i.rg ∧ i.rg ≤ 9223372036854775807) (w : World) :
    Calls Tryd.prog 24 #[.agg #[.int .i64 i.f, .int .i64 i.rd, .int .i64 i.rn, .int .i64 i.rm, .int .i64 i.ra, .int .i64 i.im, .int .i64 i.kd, .int .i64 i.bs, .int .i64 i.st, .int .i64 i.cd, .int .i64 i.rg]] w fun e w' => e = .returned (.bool i.right) ∧ Below w.heap.size w w' := by
  have h := Inst.right_eq i.f i.rd i.rn i.rm i.ra i.im i.kd i.bs i.st i.cd i.rg g.1 g.2
  unfold Ins.right
  rw [h]
  exact Inst.refRight_any i.f i.rd i.rn i.rm i.ra i.im i.kd i.bs i.st i.cd i.rg w
theorem emptyI (i : Ins) (w : World) :
    Calls Tryd.prog 25 #[.agg #[.int .i64 i.f, .int .i64 i.rd, .int .i64 i.rn, .int .i64 i.rm, .int .i64 i.ra, .int .i64 i.im, .int .i64 i.kd, .int .i64 i.bs, .int .i64 i.st, .int .i64 i.cd, .int .i64 i.rg]] w fun e w' => e = .returned (.bool (eqIns i zerI)) ∧ Below w.heap.size w w' := empty_any i w
/-- The document's own way to say which items may be. -/
def refT (x : It) : Bool :=
  if x.k = 1 then x.c == 0 && (x.l == 0 && (x.t == 0 && (x.i.right && (x.i.f != 46 && (x.i.f != 47 && (x.i.f != 99 && x.i.f != 100))))))
  else if x.k = 2 then eqIns x.i zerI && (x.t == 0 && (decide (-1 ≤ x.c) && (decide (x.c ≤ 13) && labB x.l)))
  else if x.k = 3 then eqIns x.i zerI && (x.c == 0 && (x.t == 0 && labB x.l))
  else if x.k = 4 then eqIns x.i zerI && (x.c == 0 && (x.l == 0 && (x.t == 4 || (x.t == 8 || x.t == 16))))
  else false
theorem refT_is (x : It) : rightT x = refT x := by
  obtain ⟨k, i, c, l, t⟩ := x
  unfold rightT refT
  dsimp only
  by_cases h1 : k = 1
  · subst h1
    rw [if_pos rfl, if_pos rfl, Bool.eq_iff_iff]
    have hf : (Inst.brc i.f = true) ↔ (i.f = 46 ∨ i.f = 47 ∨ i.f = 99 ∨ i.f = 100 ∨ i.f = 31) := by unfold Inst.brc; rw [decide_eq_true_eq]
    simp only [Bool.and_eq_true, eqIt_iff, doI, It.mk.injEq, beq_iff_eq, bne_iff_ne, Bool.or_eq_true, Bool.not_eq_true', true_and]
    rw [← Bool.not_eq_true, hf]
    constructor
    · rintro ⟨⟨h1, h2, h3⟩, h4, h5⟩; refine ⟨h1, h2, h3, h4, ?_⟩; omega
    · rintro ⟨h1, h2, h3, h4, h5⟩; refine ⟨⟨h1, h2, h3⟩, h4, ?_⟩; omega
  rw [if_neg h1, if_neg h1]
  by_cases h2 : k = 2
  · subst h2
    rw [if_pos rfl, if_pos rfl, Bool.eq_iff_iff]
    simp only [Bool.and_eq_true, eqIt_iff, goI, It.mk.injEq, beq_iff_eq, eqIns_iff, condB, labB, decide_eq_true_eq, true_and]
    constructor
    · rintro ⟨⟨h1, h2⟩, h3, h4⟩; exact ⟨h1, h2, h3.1, h3.2, h4⟩
    · rintro ⟨h1, h2, h3, h4, h5⟩; exact ⟨⟨h1, h2⟩, ⟨h3, h4⟩, h5⟩
  rw [if_neg h2, if_neg h2]
  by_cases h3 : k = 3
  · subst h3
    rw [if_pos rfl, if_pos rfl, Bool.eq_iff_iff]
    simp only [Bool.and_eq_true, eqIt_iff, hereI, It.mk.injEq, beq_iff_eq, eqIns_iff, labB, decide_eq_true_eq, true_and]
    constructor
    · rintro ⟨⟨h1, h2, h3⟩, h4⟩; exact ⟨h1, h2, h3, h4⟩
    · rintro ⟨h1, h2, h3, h4⟩; exact ⟨⟨h1, h2, h3⟩, h4⟩
  rw [if_neg h3, if_neg h3]
  by_cases h4 : k = 4
  · subst h4
    rw [if_pos rfl, if_pos rfl, Bool.eq_iff_iff]
    simp only [Bool.and_eq_true, eqIt_iff, padI, It.mk.injEq, beq_iff_eq, eqIns_iff, Bool.or_eq_true, true_and]
    constructor
    · rintro ⟨h1, h4⟩; exact ⟨h1.1, h1.2.1, by simpa using h1.2.2, by omega⟩
    · rintro ⟨h1, h2, h3, h4⟩; exact ⟨⟨h1, h2, by simpa using h3⟩, by omega⟩
  rw [if_neg h4, if_neg h4]

set_option maxRecDepth 100000 in
set_option maxHeartbeats 4000000 in
theorem refRight8_any (x : It) (hx : wfT x) (w : World) :
    Calls Tryd.prog 10 #[.agg (itv x)] w fun e w' => e = .returned (.bool (rightT x)) ∧ Below w.heap.size w w' := by
  rw [refT_is]
  show Calls Tryd.prog 10 #[.agg #[.int .i64 x.k, .int .i64 x.i.f, .int .i64 x.i.rd, .int .i64 x.i.rn, .int .i64 x.i.rm, .int .i64 x.i.ra, .int .i64 x.i.im, .int .i64 x.i.kd, .int .i64 x.i.bs, .int .i64 x.i.st, .int .i64 x.i.cd, .int .i64 x.i.rg, .int .i64 x.c, .int .i64 x.l, .int .i64 x.t]] w _
  have hb0 := (Below.refl w.heap.size w).alloc (Nat.le_refl _) (.cells #[.int .i64 x.k, .int .i64 x.i.f, .int .i64 x.i.rd, .int .i64 x.i.rn, .int .i64 x.i.rm, .int .i64 x.i.ra, .int .i64 x.i.im, .int .i64 x.i.kd, .int .i64 x.i.bs, .int .i64 x.i.st, .int .i64 x.i.cd, .int .i64 x.i.rg, .int .i64 x.c, .int .i64 x.l, .int .i64 x.t] 31)
  have HX := hide hx
  clear hx
  by_cases h1 : x.k = 1
  · have HE : Hid (refT x = (x.c == 0 && (x.l == 0 && (x.t == 0 && (x.i.right && (x.i.f != 46 && (x.i.f != 47 && (x.i.f != 99 && x.i.f != 100)))))))) := if_pos h1
    go_enter Tryd.func10, Tryd.ntmps10
    go_wp2_with (go_at_call 24; refine (refRightI x.i HX.out _).mono ?_; rintro e w1 ⟨rfl, hb1⟩)
    all_goals
      go_ret
      exact ⟨ret_bool (by rw [HE.out]; go_light; rw [Bool.eq_iff_iff]; simp_all), by first | exact ((Below.refl _ _).alloc (Nat.le_refl _) _).trans (hb1.mono (by simp)) | exact (Below.refl _ _).alloc (Nat.le_refl _) _⟩
  by_cases h2 : x.k = 2
  · have HE : Hid (refT x = (eqIns x.i zerI && (x.t == 0 && (decide (-1 ≤ x.c) && (decide (x.c ≤ 13) && labB x.l))))) := by unfold Hid refT; rw [if_neg h1, if_pos h2]
    cases he : eqIns x.i zerI
    all_goals
      go_enter Tryd.func10, Tryd.ntmps10
      go_wp2_with (go_at_call 25; refine (emptyI x.i _).mono ?_; rintro e w1 ⟨rfl, hb1⟩; obtain ⟨hc, hf⟩ := Inst.bcell hb1; rw [he])
      all_goals
        go_ret
        exact ⟨ret_bool (by rw [HE.out, he]; clear HE hb0 HX hb1 hc hf; go_light; rw [Bool.eq_iff_iff]; first | (simp_all [labB]; done) | (simp_all [labB]; omega)), ((Below.refl _ _).alloc (Nat.le_refl _) _).trans (hb1.mono (by simp))⟩
  by_cases h3 : x.k = 3
  · have HE : Hid (refT x = (eqIns x.i zerI && (x.c == 0 && (x.t == 0 && labB x.l)))) := by unfold Hid refT; rw [if_neg h1, if_neg h2, if_pos h3]
    cases he : eqIns x.i zerI
    all_goals
      go_enter Tryd.func10, Tryd.ntmps10
      go_wp2_with (go_at_call 25; refine (emptyI x.i _).mono ?_; rintro e w1 ⟨rfl, hb1⟩; obtain ⟨hc, hf⟩ := Inst.bcell hb1; rw [he])
      all_goals
        go_ret
        exact ⟨ret_bool (by rw [HE.out, he]; clear HE hb0 HX hb1 hc hf; go_light; rw [Bool.eq_iff_iff]; first | (simp_all [labB]; done) | (simp_all [labB]; omega)), ((Below.refl _ _).alloc (Nat.le_refl _) _).trans (hb1.mono (by simp))⟩
  by_cases h4 : x.k = 4
  · have HE : Hid (refT x = (eqIns x.i zerI && (x.c == 0 && (x.l == 0 && (x.t == 4 || (x.t == 8 || x.t == 16)))))) := by unfold Hid refT; rw [if_neg h1, if_neg h2, if_neg h3, if_pos h4]
    cases he : eqIns x.i zerI
    all_goals
      go_enter Tryd.func10, Tryd.ntmps10
      go_wp2_with (go_at_call 25; refine (emptyI x.i _).mono ?_; rintro e w1 ⟨rfl, hb1⟩; obtain ⟨hc, hf⟩ := Inst.bcell hb1; rw [he])
      all_goals
        go_ret
        exact ⟨ret_bool (by rw [HE.out, he]; clear HE hb0 HX hb1 hc hf; go_light; rw [Bool.eq_iff_iff]; first | (simp_all; done) | (simp_all; omega)), ((Below.refl _ _).alloc (Nat.le_refl _) _).trans (hb1.mono (by simp))⟩
  · have HE : Hid (refT x = false) := by unfold Hid refT; rw [if_neg h1, if_neg h2, if_neg h3, if_neg h4]
    go_enter Tryd.func10, Tryd.ntmps10
    go_wp2_with fail
    all_goals
      go_ret
      exact ⟨ret_bool HE.out.symm, (Below.refl _ _).alloc (Nat.le_refl _) _⟩
end Go.Proofs.YtfdnjoieolijcaaDoor.Asm

namespace Go.Proofs.YtfdnjoieolijcaaDoor.asmRight
open Go.ChangeShapes Go.WideShapes Go.ChangeAt Go.RowKit
set_option linter.unusedVariables false

theorem own : ownKnob Tryd.prog.godebug = none := by kernel_rfl
theorem laidOut : laidOutB Tryd.prog = true := by kernel_rfl
open Go.Proofs.YtfdnjoieolijcaaDoor.Asm Go.Proofs.YtfdnjoieolijcaaDoor.Core Go.Proofs.YtfdnjoieolijcaaDoor.Alu
set_option linter.unusedSimpArgs false

set_option maxRecDepth 100000 in
set_option maxHeartbeats 4000000 in
theorem walk (x0 : Asm.It) (w : World) (w0 : Asm.wfT x0) (hL : Code.Laid w) :
    Calls Tryd.prog 3 #[.agg (Asm.itv x0)] w fun e w' => e = .returned (.bool true) ∧ Below w.heap.size w w' := by
  have hX := heap_alloc_new w (.cells (itv x0) 26)
  have hb0 := (Below.refl w.heap.size w).alloc (Nat.le_refl _) (.cells (itv x0) 26)
  have hz : w.heap.size < (w.alloc (.cells (itv x0) 26)).heap.size := by simp
  have hWf := w0
  have hL0 := hL.below hb0
  go_enter Tryd.func3, Tryd.ntmps3
  go_wp2_with fail
  generalize hS : w.heap.size = S at *
  generalize w.alloc (.cells (itv x0) 26) = wa at *
  refine (anchor8_any _ hL0).mono ?_
  rintro e u0 ⟨rfl, hb1⟩
  have hX1 := (hb1.block S hz).trans hX
  have q1 : S ≤ u0.drew.heap.size := by show S ≤ u0.heap.size; have := hb1.size; omega
  have HB := hide ((hb0.trans (hb1.mono (by omega))).drew)
  have hLd : Code.Laid u0.drew := (hL0.below hb1).below ⟨rfl, rfl, rfl, Nat.le_refl _, fun _ _ => rfl⟩
  have hcell : ∀ (o : Nat) (v : Value), (itv x0)[o]? = some v → u0.drew.cell? ⟨S, o, none⟩ = some v := fun o v hv => by rw [cell_of_row _ _ _ _ _ _ (show u0.drew.heap[S]? = _ from hX1)]; exact hv
  clear hX hb0 hL0 hb1 w0
  go_wp2_with fail
  refine wp_region_held_drew (S := fun w' => w'.rangeAt S 0 (itv x0).toList ∧ w'.rangeAt S 1 (inv x0.i).toList ∧ w'.cell? ⟨S, 12, none⟩ = some (.int .i64 x0.c) ∧ w'.cell? ⟨S, 13, none⟩ = some (.int .i64 x0.l) ∧ w'.cell? ⟨S, 14, none⟩ = some (.int .i64 x0.t)) (by kernel_rfl) ⟨range_row (show u0.drew.heap[S]? = _ from hX1) 0 _ (by intro j v h; rw [Nat.zero_add, ← Array.getElem?_toList]; exact h), range_row (show u0.drew.heap[S]? = _ from hX1) 1 _ (itv_inst x0), hcell 12 _ rfl, hcell 13 _ rfl, hcell 14 _ rfl⟩ (fun hH1 => ?_)
  refine wpAnyH_take (i := 0) (v := .agg (itv x0)) rfl (by kernel_rfl) (by kernel_rfl) (by kernel_rfl) (fun _ _ _ h => h) (yieldsIf_load_mid (by rfl) 26 (.tmp 1) rfl S 0 rfl (itv x0).toList _ (fun w hw => hw.1) Tryd.underlying26 rfl info_it) (by assumption) ?_
  (try simp only [Act.put, List.getElem_toArray, List.getElem_cons_zero, List.setIfInBounds_toArray, List.set_cons_zero, List.set_cons_succ])
  refine wpAnyH_take (i := 2) (v := .agg (itv x0)) rfl (by kernel_rfl) (by kernel_rfl) (by kernel_rfl) (fun _ _ _ h => h) (yieldsIf_load_mid (by rfl) 26 (.tmp 1) rfl S 0 rfl (itv x0).toList _ (fun w hw => hw.1) Tryd.underlying26 rfl info_it) (by assumption) ?_
  (try simp only [Act.put, List.getElem_toArray, List.getElem_cons_zero, List.getElem_cons_succ, List.setIfInBounds_toArray, List.set_cons_zero, List.set_cons_succ])
  refine wpAnyH_ready (rs := [1]) (by kernel_rfl) (by simp) ?_
  refine AllReadyH.cons rfl (fun K hK => ?_) AllReadyH.nil
  go_simp
  with_reducible refine (Right_any x0 _ hLd.two).mono ?_
  rintro e u2 ⟨rfl, hb2⟩
  refine hK.out _ _ ⟨range_below hH1.1 hb2, range_below hH1.2.1 hb2, keep_cell hb2 hH1.2.2.1, keep_cell hb2 hH1.2.2.2.1, keep_cell hb2 hH1.2.2.2.2⟩ (fun hH2 => ?_)
  clear hK K
  (try simp only [Act.put, List.getElem_toArray, List.getElem_cons_zero, List.getElem_cons_succ, List.setIfInBounds_toArray, List.set_cons_zero, List.set_cons_succ])
  refine wpAnyH_ready (rs := [3]) (by kernel_rfl) (by simp) ?_
  refine AllReadyH.cons rfl (fun K hK => ?_) AllReadyH.nil
  go_simp
  with_reducible refine (of8_any x0 _).mono ?_
  rintro e u3 ⟨rfl, hb3⟩
  refine hK.out _ _ ⟨range_below hH2.1 hb3, range_below hH2.2.1 hb3, keep_cell hb3 hH2.2.2.1, keep_cell hb3 hH2.2.2.2.1, keep_cell hb3 hH2.2.2.2.2⟩ (fun hH3 => ?_)
  clear hK K
  (try simp only [Act.put, List.getElem_toArray, List.getElem_cons_zero, List.getElem_cons_succ, List.setIfInBounds_toArray, List.set_cons_zero, List.set_cons_succ])
  refine wpAnyH_ready (rs := [4]) (by kernel_rfl) (by simp) ?_
  refine AllReadyH.cons rfl (fun K hK => ?_) AllReadyH.nil
  go_simp
  with_reducible refine (refRight8_any x0 hWf _).mono ?_
  rintro e u4 ⟨rfl, hb4⟩
  refine hK.out _ _ ⟨range_below hH3.1 hb4, range_below hH3.2.1 hb4, keep_cell hb4 hH3.2.2.1, keep_cell hb4 hH3.2.2.2.1, keep_cell hb4 hH3.2.2.2.2⟩ (fun hH4 => ?_)
  clear hK K
  (try simp only [Act.put, List.getElem_toArray, List.getElem_cons_zero, List.getElem_cons_succ, List.setIfInBounds_toArray, List.set_cons_zero, List.set_cons_succ])
  refine wpAnyH_take (i := 5) (v := ?_) rfl (by kernel_rfl) (by kernel_rfl) (by kernel_rfl) (fun _ _ _ h => h) (Or.inl ⟨by rfl, ?_⟩) (by assumption) ?_
  rotate_left
  · intro w hSw; (try dsimp only at hSw); go_simp; (try with_reducible rfl)
  (try simp only [Act.put, List.getElem_toArray, List.getElem_cons_zero, List.getElem_cons_succ, List.setIfInBounds_toArray, List.set_cons_zero, List.set_cons_succ])
  refine wpAnyH_done (by kernel_rfl) ?_ _
  have Q2 : S ≤ u2.heap.size := Nat.le_trans q1 hb2.size
  have Q3 : S ≤ u3.heap.size := Nat.le_trans Q2 hb3.size
  have Q4 : S ≤ u4.heap.size := Nat.le_trans Q3 hb4.size
  have HB4 := hide ((((HB.out.trans (hb2.mono q1)).trans (hb3.mono Q2)).trans (hb4.mono Q3)).drew)
  have hG1 := hide hH4
  clear hH1 hH2 hH3 hH4 hb2 hb3 hb4 HB hX1 hcell hLd
  go_wp2_with fail
  refine wp_region_held_drew (S := fun w' => w'.rangeAt S 0 (itv x0).toList ∧ w'.rangeAt S 1 (inv x0.i).toList ∧ w'.cell? ⟨S, 12, none⟩ = some (.int .i64 x0.c) ∧ w'.cell? ⟨S, 13, none⟩ = some (.int .i64 x0.l) ∧ w'.cell? ⟨S, 14, none⟩ = some (.int .i64 x0.t)) (by kernel_rfl) hG1.out (fun hH4 => ?_)
  refine wpAnyH_take (i := 0) (v := ?_) rfl (by kernel_rfl) (by kernel_rfl) (by kernel_rfl) (fun _ _ _ h => h) (Or.inl ⟨by rfl, ?_⟩) (by assumption) ?_
  rotate_left
  · intro w hSw; (try dsimp only at hSw); go_simp; (try with_reducible rfl)
  (try simp only [Act.put, List.getElem_toArray, List.getElem_cons_zero, List.setIfInBounds_toArray, List.set_cons_zero, List.set_cons_succ])
  refine wpAnyH_take (i := 1) (v := .agg (inv x0.i)) rfl (by kernel_rfl) (by kernel_rfl) (by kernel_rfl) (fun _ _ _ h => h) (yieldsIf_load_mid (by rfl) 24 (.tmp 11) rfl S 1 rfl (inv x0.i).toList _ (fun w hw => hw.2.1) Tryd.underlying24 rfl info_in) (by assumption) ?_
  (try simp only [Act.put, List.getElem_toArray, List.getElem_cons_zero, List.getElem_cons_succ, List.setIfInBounds_toArray, List.set_cons_zero, List.set_cons_succ])
  refine wpAnyH_take (i := 3) (v := ?_) rfl (by kernel_rfl) (by kernel_rfl) (by kernel_rfl) (fun _ _ _ h => h) (Or.inl ⟨by rfl, ?_⟩) (by assumption) ?_
  rotate_left
  · intro w hSw; (try dsimp only at hSw); go_simp; (try with_reducible rfl)
  (try simp only [Act.put, List.getElem_toArray, List.getElem_cons_zero, List.getElem_cons_succ, List.setIfInBounds_toArray, List.set_cons_zero, List.set_cons_succ])
  refine wpAnyH_take (i := 4) (v := .agg (inv x0.i)) rfl (by kernel_rfl) (by kernel_rfl) (by kernel_rfl) (fun _ _ _ h => h) (yieldsIf_load_mid (by rfl) 24 (.tmp 14) rfl S 1 rfl (inv x0.i).toList _ (fun w hw => hw.2.1) Tryd.underlying24 rfl info_in) (by assumption) ?_
  (try simp only [Act.put, List.getElem_toArray, List.getElem_cons_zero, List.getElem_cons_succ, List.setIfInBounds_toArray, List.set_cons_zero, List.set_cons_succ])
  refine wpAnyH_take (i := 5) (v := .agg (itv (doI x0.i))) rfl (by kernel_rfl) (by kernel_rfl) (by kernel_rfl) (fun _ _ _ h => h) (Or.inl ⟨by rfl, ?_⟩) (by assumption) ?_
  · intro w hSw; go_simp; (try simp [itv, inv, doI, goI, hereI, padI, zerI])
  (try simp only [Act.put, List.getElem_toArray, List.getElem_cons_zero, List.getElem_cons_succ, List.setIfInBounds_toArray, List.set_cons_zero, List.set_cons_succ])
  refine wpAnyH_ready (rs := [2]) (by kernel_rfl) (by simp) ?_
  refine AllReadyH.cons rfl (fun K hK => ?_) AllReadyH.nil
  go_simp
  with_reducible refine (Do_any _ _).mono ?_
  rintro e u5 ⟨rfl, hb5⟩
  refine hK.out _ _ ⟨range_below hH4.1 hb5, range_below hH4.2.1 hb5, keep_cell hb5 hH4.2.2.1, keep_cell hb5 hH4.2.2.2.1, keep_cell hb5 hH4.2.2.2.2⟩ (fun hH5 => ?_)
  clear hK K
  (try simp only [Act.put, List.getElem_toArray, List.getElem_cons_zero, List.getElem_cons_succ, List.setIfInBounds_toArray, List.set_cons_zero, List.set_cons_succ])
  refine wpAnyH_take (i := 6) (v := .bool true) rfl (by kernel_rfl) (by kernel_rfl) (by kernel_rfl) (fun _ _ _ h => h) (Or.inl ⟨by rfl, ?_⟩) (by assumption) ?_
  · intro w hSw
    first
      | exact (run_eqN (doI x0.i) (doI x0.i) _ _ w).trans (by rw [eqIt_self])
      | exact (run_eq (doI x0.i) (doI x0.i) _ _ w).trans (by rw [eqIt_self])
  (try simp only [Act.put, List.getElem_toArray, List.getElem_cons_zero, List.getElem_cons_succ, List.setIfInBounds_toArray, List.set_cons_zero, List.set_cons_succ])
  refine wpAnyH_take (i := 7) (v := ?_) rfl (by kernel_rfl) (by kernel_rfl) (by kernel_rfl) (fun _ _ _ h => h) (Or.inl ⟨by rfl, ?_⟩) (by assumption) ?_
  rotate_left
  · intro w hSw; (try dsimp only at hSw); go_simp; (try with_reducible rfl)
  (try simp only [Act.put, List.getElem_toArray, List.getElem_cons_zero, List.getElem_cons_succ, List.setIfInBounds_toArray, List.set_cons_zero, List.set_cons_succ])
  refine wpAnyH_take (i := 8) (v := ?_) rfl (by kernel_rfl) (by kernel_rfl) (by kernel_rfl) (fun _ _ _ h => h) (Or.inl ⟨by rfl, ?_⟩) (by assumption) ?_
  rotate_left
  · intro w hSw; (try dsimp only at hSw); go_simp; (try with_reducible rfl)
  (try simp only [Act.put, List.getElem_toArray, List.getElem_cons_zero, List.getElem_cons_succ, List.setIfInBounds_toArray, List.set_cons_zero, List.set_cons_succ])
  refine wpAnyH_take (i := 9) (v := ?_) rfl (by kernel_rfl) (by kernel_rfl) (by kernel_rfl) (fun _ _ _ h => h) (Or.inl ⟨by rfl, ?_⟩) (by assumption) ?_
  rotate_left
  · intro w hSw; (try dsimp only at hSw); go_simp; (try with_reducible rfl)
  (try simp only [Act.put, List.getElem_toArray, List.getElem_cons_zero, List.getElem_cons_succ, List.setIfInBounds_toArray, List.set_cons_zero, List.set_cons_succ])
  refine wpAnyH_take (i := 10) (v := ?_) rfl (by kernel_rfl) (by kernel_rfl) (by kernel_rfl) (fun _ _ _ h => h) (Or.inl ⟨by rfl, ?_⟩) (by assumption) ?_
  rotate_left
  · intro w hSw; (try dsimp only at hSw); go_simp; (try with_reducible rfl)
  (try simp only [Act.put, List.getElem_toArray, List.getElem_cons_zero, List.getElem_cons_succ, List.setIfInBounds_toArray, List.set_cons_zero, List.set_cons_succ])
  refine wpAnyH_take (i := 11) (v := ?_) rfl (by kernel_rfl) (by kernel_rfl) (by kernel_rfl) (fun _ _ _ h => h) (Or.inl ⟨by rfl, ?_⟩) (by assumption) ?_
  rotate_left
  · intro w hSw; (try dsimp only at hSw); go_simp; (try with_reducible rfl)
  (try simp only [Act.put, List.getElem_toArray, List.getElem_cons_zero, List.getElem_cons_succ, List.setIfInBounds_toArray, List.set_cons_zero, List.set_cons_succ])
  refine wpAnyH_take (i := 13) (v := ?_) rfl (by kernel_rfl) (by kernel_rfl) (by kernel_rfl) (fun _ _ _ h => h) (Or.inl ⟨by rfl, ?_⟩) (by assumption) ?_
  rotate_left
  · intro w hSw; (try dsimp only at hSw); go_simp; (try with_reducible rfl)
  (try simp only [Act.put, List.getElem_toArray, List.getElem_cons_zero, List.getElem_cons_succ, List.setIfInBounds_toArray, List.set_cons_zero, List.set_cons_succ])
  refine wpAnyH_take (i := 14) (v := ?_) rfl (by kernel_rfl) (by kernel_rfl) (by kernel_rfl) (fun _ _ _ h => h) (Or.inl ⟨by rfl, ?_⟩) (by assumption) ?_
  rotate_left
  · intro w hSw; (try dsimp only at hSw); go_simp; (try with_reducible rfl)
  (try simp only [Act.put, List.getElem_toArray, List.getElem_cons_zero, List.getElem_cons_succ, List.setIfInBounds_toArray, List.set_cons_zero, List.set_cons_succ])
  refine wpAnyH_take (i := 15) (v := ?_) rfl (by kernel_rfl) (by kernel_rfl) (by kernel_rfl) (fun _ _ _ h => h) (Or.inl ⟨by rfl, ?_⟩) (by assumption) ?_
  rotate_left
  · intro w hSw; (try dsimp only at hSw); go_simp; (try with_reducible rfl)
  (try simp only [Act.put, List.getElem_toArray, List.getElem_cons_zero, List.getElem_cons_succ, List.setIfInBounds_toArray, List.set_cons_zero, List.set_cons_succ])
  refine wpAnyH_take (i := 16) (v := ?_) rfl (by kernel_rfl) (by kernel_rfl) (by kernel_rfl) (fun _ _ _ h => h) (Or.inl ⟨by rfl, ?_⟩) (by assumption) ?_
  rotate_left
  · intro w hSw; (try dsimp only at hSw); go_simp; (try with_reducible rfl)
  (try simp only [Act.put, List.getElem_toArray, List.getElem_cons_zero, List.getElem_cons_succ, List.setIfInBounds_toArray, List.set_cons_zero, List.set_cons_succ])
  refine wpAnyH_take (i := 17) (v := .agg (itv (goI x0.c x0.l))) rfl (by kernel_rfl) (by kernel_rfl) (by kernel_rfl) (fun _ _ _ h => h) (Or.inl ⟨by rfl, ?_⟩) (by assumption) ?_
  · intro w hSw; go_simp; (try simp [itv, inv, doI, goI, hereI, padI, zerI])
  (try simp only [Act.put, List.getElem_toArray, List.getElem_cons_zero, List.getElem_cons_succ, List.setIfInBounds_toArray, List.set_cons_zero, List.set_cons_succ])
  refine wpAnyH_ready (rs := [12]) (by kernel_rfl) (by simp) ?_
  refine AllReadyH.cons rfl (fun K hK => ?_) AllReadyH.nil
  go_simp
  with_reducible refine (Go_any _ _ _).mono ?_
  rintro e u6 ⟨rfl, hb6⟩
  refine hK.out _ _ ⟨range_below hH5.1 hb6, range_below hH5.2.1 hb6, keep_cell hb6 hH5.2.2.1, keep_cell hb6 hH5.2.2.2.1, keep_cell hb6 hH5.2.2.2.2⟩ (fun hH6 => ?_)
  clear hK K
  (try simp only [Act.put, List.getElem_toArray, List.getElem_cons_zero, List.getElem_cons_succ, List.setIfInBounds_toArray, List.set_cons_zero, List.set_cons_succ])
  refine wpAnyH_take (i := 18) (v := .bool true) rfl (by kernel_rfl) (by kernel_rfl) (by kernel_rfl) (fun _ _ _ h => h) (Or.inl ⟨by rfl, ?_⟩) (by assumption) ?_
  · intro w hSw
    first
      | exact (run_eqN (goI x0.c x0.l) (goI x0.c x0.l) _ _ w).trans (by rw [eqIt_self])
      | exact (run_eq (goI x0.c x0.l) (goI x0.c x0.l) _ _ w).trans (by rw [eqIt_self])
  (try simp only [Act.put, List.getElem_toArray, List.getElem_cons_zero, List.getElem_cons_succ, List.setIfInBounds_toArray, List.set_cons_zero, List.set_cons_succ])
  refine wpAnyH_take (i := 19) (v := ?_) rfl (by kernel_rfl) (by kernel_rfl) (by kernel_rfl) (fun _ _ _ h => h) (Or.inl ⟨by rfl, ?_⟩) (by assumption) ?_
  rotate_left
  · intro w hSw; (try dsimp only at hSw); go_simp; (try with_reducible rfl)
  (try simp only [Act.put, List.getElem_toArray, List.getElem_cons_zero, List.getElem_cons_succ, List.setIfInBounds_toArray, List.set_cons_zero, List.set_cons_succ])
  refine wpAnyH_take (i := 20) (v := ?_) rfl (by kernel_rfl) (by kernel_rfl) (by kernel_rfl) (fun _ _ _ h => h) (Or.inl ⟨by rfl, ?_⟩) (by assumption) ?_
  rotate_left
  · intro w hSw; (try dsimp only at hSw); go_simp; (try with_reducible rfl)
  (try simp only [Act.put, List.getElem_toArray, List.getElem_cons_zero, List.getElem_cons_succ, List.setIfInBounds_toArray, List.set_cons_zero, List.set_cons_succ])
  refine wpAnyH_take (i := 21) (v := ?_) rfl (by kernel_rfl) (by kernel_rfl) (by kernel_rfl) (fun _ _ _ h => h) (Or.inl ⟨by rfl, ?_⟩) (by assumption) ?_
  rotate_left
  · intro w hSw; (try dsimp only at hSw); go_simp; (try with_reducible rfl)
  (try simp only [Act.put, List.getElem_toArray, List.getElem_cons_zero, List.getElem_cons_succ, List.setIfInBounds_toArray, List.set_cons_zero, List.set_cons_succ])
  refine wpAnyH_take (i := 22) (v := ?_) rfl (by kernel_rfl) (by kernel_rfl) (by kernel_rfl) (fun _ _ _ h => h) (Or.inl ⟨by rfl, ?_⟩) (by assumption) ?_
  rotate_left
  · intro w hSw; (try dsimp only at hSw); go_simp; (try with_reducible rfl)
  (try simp only [Act.put, List.getElem_toArray, List.getElem_cons_zero, List.getElem_cons_succ, List.setIfInBounds_toArray, List.set_cons_zero, List.set_cons_succ])
  refine wpAnyH_take (i := 24) (v := ?_) rfl (by kernel_rfl) (by kernel_rfl) (by kernel_rfl) (fun _ _ _ h => h) (Or.inl ⟨by rfl, ?_⟩) (by assumption) ?_
  rotate_left
  · intro w hSw; (try dsimp only at hSw); go_simp; (try with_reducible rfl)
  (try simp only [Act.put, List.getElem_toArray, List.getElem_cons_zero, List.getElem_cons_succ, List.setIfInBounds_toArray, List.set_cons_zero, List.set_cons_succ])
  refine wpAnyH_take (i := 25) (v := ?_) rfl (by kernel_rfl) (by kernel_rfl) (by kernel_rfl) (fun _ _ _ h => h) (Or.inl ⟨by rfl, ?_⟩) (by assumption) ?_
  rotate_left
  · intro w hSw; (try dsimp only at hSw); go_simp; (try with_reducible rfl)
  (try simp only [Act.put, List.getElem_toArray, List.getElem_cons_zero, List.getElem_cons_succ, List.setIfInBounds_toArray, List.set_cons_zero, List.set_cons_succ])
  refine wpAnyH_take (i := 26) (v := .agg (itv (hereI x0.l))) rfl (by kernel_rfl) (by kernel_rfl) (by kernel_rfl) (fun _ _ _ h => h) (Or.inl ⟨by rfl, ?_⟩) (by assumption) ?_
  · intro w hSw; go_simp; (try simp [itv, inv, doI, goI, hereI, padI, zerI])
  (try simp only [Act.put, List.getElem_toArray, List.getElem_cons_zero, List.getElem_cons_succ, List.setIfInBounds_toArray, List.set_cons_zero, List.set_cons_succ])
  refine wpAnyH_ready (rs := [23]) (by kernel_rfl) (by simp) ?_
  refine AllReadyH.cons rfl (fun K hK => ?_) AllReadyH.nil
  go_simp
  with_reducible refine (Here_any _ _).mono ?_
  rintro e u7 ⟨rfl, hb7⟩
  refine hK.out _ _ ⟨range_below hH6.1 hb7, range_below hH6.2.1 hb7, keep_cell hb7 hH6.2.2.1, keep_cell hb7 hH6.2.2.2.1, keep_cell hb7 hH6.2.2.2.2⟩ (fun hH7 => ?_)
  clear hK K
  (try simp only [Act.put, List.getElem_toArray, List.getElem_cons_zero, List.getElem_cons_succ, List.setIfInBounds_toArray, List.set_cons_zero, List.set_cons_succ])
  refine wpAnyH_take (i := 27) (v := .bool true) rfl (by kernel_rfl) (by kernel_rfl) (by kernel_rfl) (fun _ _ _ h => h) (Or.inl ⟨by rfl, ?_⟩) (by assumption) ?_
  · intro w hSw
    first
      | exact (run_eqN (hereI x0.l) (hereI x0.l) _ _ w).trans (by rw [eqIt_self])
      | exact (run_eq (hereI x0.l) (hereI x0.l) _ _ w).trans (by rw [eqIt_self])
  (try simp only [Act.put, List.getElem_toArray, List.getElem_cons_zero, List.getElem_cons_succ, List.setIfInBounds_toArray, List.set_cons_zero, List.set_cons_succ])
  refine wpAnyH_take (i := 28) (v := ?_) rfl (by kernel_rfl) (by kernel_rfl) (by kernel_rfl) (fun _ _ _ h => h) (Or.inl ⟨by rfl, ?_⟩) (by assumption) ?_
  rotate_left
  · intro w hSw; (try dsimp only at hSw); go_simp; (try with_reducible rfl)
  (try simp only [Act.put, List.getElem_toArray, List.getElem_cons_zero, List.getElem_cons_succ, List.setIfInBounds_toArray, List.set_cons_zero, List.set_cons_succ])
  refine wpAnyH_take (i := 29) (v := ?_) rfl (by kernel_rfl) (by kernel_rfl) (by kernel_rfl) (fun _ _ _ h => h) (Or.inl ⟨by rfl, ?_⟩) (by assumption) ?_
  rotate_left
  · intro w hSw; (try dsimp only at hSw); go_simp; (try with_reducible rfl)
  (try simp only [Act.put, List.getElem_toArray, List.getElem_cons_zero, List.getElem_cons_succ, List.setIfInBounds_toArray, List.set_cons_zero, List.set_cons_succ])
  refine wpAnyH_take (i := 30) (v := ?_) rfl (by kernel_rfl) (by kernel_rfl) (by kernel_rfl) (fun _ _ _ h => h) (Or.inl ⟨by rfl, ?_⟩) (by assumption) ?_
  rotate_left
  · intro w hSw; (try dsimp only at hSw); go_simp; (try with_reducible rfl)
  (try simp only [Act.put, List.getElem_toArray, List.getElem_cons_zero, List.getElem_cons_succ, List.setIfInBounds_toArray, List.set_cons_zero, List.set_cons_succ])
  refine wpAnyH_take (i := 31) (v := ?_) rfl (by kernel_rfl) (by kernel_rfl) (by kernel_rfl) (fun _ _ _ h => h) (Or.inl ⟨by rfl, ?_⟩) (by assumption) ?_
  rotate_left
  · intro w hSw; (try dsimp only at hSw); go_simp; (try with_reducible rfl)
  (try simp only [Act.put, List.getElem_toArray, List.getElem_cons_zero, List.getElem_cons_succ, List.setIfInBounds_toArray, List.set_cons_zero, List.set_cons_succ])
  refine wpAnyH_take (i := 33) (v := ?_) rfl (by kernel_rfl) (by kernel_rfl) (by kernel_rfl) (fun _ _ _ h => h) (Or.inl ⟨by rfl, ?_⟩) (by assumption) ?_
  rotate_left
  · intro w hSw; (try dsimp only at hSw); go_simp; (try with_reducible rfl)
  (try simp only [Act.put, List.getElem_toArray, List.getElem_cons_zero, List.getElem_cons_succ, List.setIfInBounds_toArray, List.set_cons_zero, List.set_cons_succ])
  refine wpAnyH_take (i := 34) (v := ?_) rfl (by kernel_rfl) (by kernel_rfl) (by kernel_rfl) (fun _ _ _ h => h) (Or.inl ⟨by rfl, ?_⟩) (by assumption) ?_
  rotate_left
  · intro w hSw; (try dsimp only at hSw); go_simp; (try with_reducible rfl)
  (try simp only [Act.put, List.getElem_toArray, List.getElem_cons_zero, List.getElem_cons_succ, List.setIfInBounds_toArray, List.set_cons_zero, List.set_cons_succ])
  refine wpAnyH_take (i := 35) (v := .agg (itv (padI x0.t))) rfl (by kernel_rfl) (by kernel_rfl) (by kernel_rfl) (fun _ _ _ h => h) (Or.inl ⟨by rfl, ?_⟩) (by assumption) ?_
  · intro w hSw; go_simp; (try simp [itv, inv, doI, goI, hereI, padI, zerI])
  (try simp only [Act.put, List.getElem_toArray, List.getElem_cons_zero, List.getElem_cons_succ, List.setIfInBounds_toArray, List.set_cons_zero, List.set_cons_succ])
  refine wpAnyH_ready (rs := [32]) (by kernel_rfl) (by simp) ?_
  refine AllReadyH.cons rfl (fun K hK => ?_) AllReadyH.nil
  go_simp
  with_reducible refine (Pad_any _ _).mono ?_
  rintro e u8 ⟨rfl, hb8⟩
  refine hK.out _ _ ⟨range_below hH7.1 hb8, range_below hH7.2.1 hb8, keep_cell hb8 hH7.2.2.1, keep_cell hb8 hH7.2.2.2.1, keep_cell hb8 hH7.2.2.2.2⟩ (fun hH8 => ?_)
  clear hK K
  (try simp only [Act.put, List.getElem_toArray, List.getElem_cons_zero, List.getElem_cons_succ, List.setIfInBounds_toArray, List.set_cons_zero, List.set_cons_succ])
  refine wpAnyH_take (i := 36) (v := .bool true) rfl (by kernel_rfl) (by kernel_rfl) (by kernel_rfl) (fun _ _ _ h => h) (Or.inl ⟨by rfl, ?_⟩) (by assumption) ?_
  · intro w hSw
    first
      | exact (run_eqN (padI x0.t) (padI x0.t) _ _ w).trans (by rw [eqIt_self])
      | exact (run_eq (padI x0.t) (padI x0.t) _ _ w).trans (by rw [eqIt_self])
  (try simp only [Act.put, List.getElem_toArray, List.getElem_cons_zero, List.getElem_cons_succ, List.setIfInBounds_toArray, List.set_cons_zero, List.set_cons_succ])
  refine wpAnyH_take (i := 37) (v := ?_) rfl (by kernel_rfl) (by kernel_rfl) (by kernel_rfl) (fun _ _ _ h => h) (Or.inl ⟨by rfl, ?_⟩) (by assumption) ?_
  rotate_left
  · intro w hSw; (try dsimp only at hSw); go_simp; (try with_reducible rfl)
  (try simp only [Act.put, List.getElem_toArray, List.getElem_cons_zero, List.getElem_cons_succ, List.setIfInBounds_toArray, List.set_cons_zero, List.set_cons_succ])
  refine wpAnyH_take (i := 38) (v := ?_) rfl (by kernel_rfl) (by kernel_rfl) (by kernel_rfl) (fun _ _ _ h => h) (Or.inl ⟨by rfl, ?_⟩) (by assumption) ?_
  rotate_left
  · intro w hSw; (try dsimp only at hSw); go_simp; (try with_reducible rfl)
  (try simp only [Act.put, List.getElem_toArray, List.getElem_cons_zero, List.getElem_cons_succ, List.setIfInBounds_toArray, List.set_cons_zero, List.set_cons_succ])
  refine wpAnyH_done (by kernel_rfl) ?_ _
  have q5 : S ≤ u4.drew.heap.size := Q4
  have Q5 : S ≤ u5.heap.size := Nat.le_trans q5 hb5.size
  have Q6 : S ≤ u6.heap.size := Nat.le_trans Q5 hb6.size
  have Q7 : S ≤ u7.heap.size := Nat.le_trans Q6 hb7.size
  go_wp2_with fail
  go_ret
  exact ⟨rfl, by rw [hS]; exact (((HB4.out.trans (hb5.mono q5)).trans (hb6.mono Q5)).trans (hb7.mono Q6)).trans (hb8.mono Q7)⟩

theorem laid_met (os : Os) : laidMet Tryd.prog Rows.asmRightRow.laid ((Code.laidWorld Tryd.prog os).forCall (fun _ _ => 0) ⟨#[], #[.agg #[.int .i64 0, .int .i64 0, .int .i64 0, .int .i64 0, .int .i64 0, .int .i64 0, .int .i64 0, .int .i64 0, .int .i64 0, .int .i64 0, .int .i64 0, .int .i64 0, .int .i64 0, .int .i64 0, .int .i64 0]], []⟩).memory :=
  laidMet_of_run' 8 (by kernel_rfl) (by kernel_rfl)
theorem reads (os : Os) {H : Type} (enc : TypeId × Value → H) : ∃ places, DataW.whole enc Tryd.prog ((Code.laidWorld Tryd.prog os).forCall (fun _ _ => 0) ⟨#[], #[.agg #[.int .i64 0, .int .i64 0, .int .i64 0, .int .i64 0, .int .i64 0, .int .i64 0, .int .i64 0, .int .i64 0, .int .i64 0, .int .i64 0, .int .i64 0, .int .i64 0, .int .i64 0, .int .i64 0, .int .i64 0]], []⟩).memory Tryd.f3.params.toList Rows.asmRightSpec.vars false (#[.agg #[.int .i64 0, .int .i64 0, .int .i64 0, .int .i64 0, .int .i64 0, .int .i64 0, .int .i64 0, .int .i64 0, .int .i64 0, .int .i64 0, .int .i64 0, .int .i64 0, .int .i64 0, .int .i64 0, .int .i64 0]] : Array Value).toList 8 = some ([(.agg [.lit (.int .i64 0), .agg [.lit (.int .i64 0), .lit (.int .i64 0), .lit (.int .i64 0), .lit (.int .i64 0), .lit (.int .i64 0), .lit (.int .i64 0), .lit (.int .i64 0), .lit (.int .i64 0), .lit (.int .i64 0), .lit (.int .i64 0), .lit (.int .i64 0)], .lit (.int .i64 0), .lit (.int .i64 0), .lit (.int .i64 0)])], [], places) :=
  ⟨[], by kernel_rfl⟩

set_option maxRecDepth 100000 in
theorem lifted (os : Os) (started : os.Started) (H : Type) (enc : TypeId × Value → H) (F : Stop.Interp) :
    ReturnsInHanded {} Tryd.checked os 3 .any ((OpenSpec.ofChange Rows.asmRightSpec).preRow enc Tryd.prog Tryd.f3 Rows.asmRightRow.domain false Rows.asmRightRow.laid) (((OpenSpec.ofChange Rows.asmRightSpec).at F).post enc Tryd.prog Tryd.f3 false true false false) := by
  obtain ⟨places, hx⟩ := reads os enc
  refine returnsInHanded_of_row (C := Tryd.checked) (s := OpenSpec.ofChange Rows.asmRightSpec) own started (by kernel_rfl) Tryd.func3
    (witness_row_at (enc := enc) (C := Tryd.checked) false (Code.laidWorld Tryd.prog os) #[.agg #[.int .i64 0, .int .i64 0, .int .i64 0, .int .i64 0, .int .i64 0, .int .i64 0, .int .i64 0, .int .i64 0, .int .i64 0, .int .i64 0, .int .i64 0, .int .i64 0, .int .i64 0, .int .i64 0, .int .i64 0]] rfl (by kernel_rfl) (by kernel_rfl) (by kernel_rfl)
      (OpenSpec.preRow_of_cond 8 hx (by kernel_rfl) (fun k hk => by cases hk) (by kernel_rfl) (laid_met os))) ?_
  intro W base args ds gs before hval0 hW _ _ _ hL _ _
  have hval : ∀ (j : Nat) t v, Tryd.f3.params[j]? = some t → args[j]? = some v → Value.okWide Tryd.prog W .any base t v := hval0
  have hW' := hW
  obtain ⟨p, q, hA0, hV, rfl, hfz, hnd⟩ := hW
  have hA : DataW.TrodAll enc Tryd.prog W 0 (fun _ => true) true Tryd.f3.params.toList args.toList ds p := hA0
  rw [Tryd.params3] at hA hval
  obtain ⟨v0, vs0, d0, ds0, p0, q0, hargs, rfl, rfl, h0, r0⟩ := trodAll_cons hA
  obtain ⟨rfl, rfl, rfl⟩ := trodAll_nil r0
  obtain rfl : args = #[v0] := by cases args; simp_all
  obtain ⟨rfl, rfl⟩ := trodVars_none hV
  have k0 := h0
  obtain ⟨x0, rfl, rfl, w0⟩ := Asm.open_item (hval 0 26 v0 rfl rfl) h0
  clear hA0 hval0
  simp only [List.append_nil] at hW'
  try simp only [List.nil_append] at hW'
  have hlt : ∀ x, x ∈ ([] : List MemPlace) → x.block < W.heap.size := fun x hx => by simpa using hW'.lt x hx
  refine (walk x0 W w0 (Code.laid_of hL)).mono fun e W' ⟨he, hg⟩ => ?_
  subst he
  exact ⟨_, rfl, Ends.post_of_below (pv := []) hW' (fun _ _ _ => (trodAll_cons_mk (shut_bool Tryd.underlying4 _) trodAll_mk0)) (trodAll_cons_mk (WideElems.Trod_stays laidOut (by kernel_rfl) (of_decide_eq_true (by kernel_rfl)) k0 (fun x hx => by cases hx) (fun x hx => by cases hx)) trodAll_mk0) (fun _ _ => rfl) (by simp)
    (hg.frame _)⟩

theorem said : Rows.AsmRightSaid :=
  OpenClaim.holds_of_cond 3 Tryd.f3 rfl rfl rfl rfl rfl rfl rfl ⟨rfl, rfl, rfl, rfl, rfl⟩ rfl rfl rfl rfl rfl (by kernel_rfl) Tryd.func3 (by kernel_rfl)
    (of_decide_eq_true (by kernel_rfl)) (by unfold Func.isWrapper; first | (rw [if_pos (by decide +kernel)]; kernel_rfl) | (rw [if_neg (by decide +kernel)]; exact ⟨rfl, rfl⟩))
    (fun os started H enc _ F => by rw [OpenClaim.pre_eq_preRow]; exact lifted os started H enc F)

/-- No parameter wants a stand-in; the program's own looks are off: what the card asks. -/
theorem plain (f : FuncId) (fn : Func) (hf : Tryd.pinned.checked.prog.funcNamed "remontoire/remontoirelaw08.AsmRight" = some f) (hfn : Tryd.pinned.checked.prog.funcs[f]? = some fn) :
    false = Tryd.pinned.checked.prog.looks [] ∧ ∀ (j : Nat) t, fn.params[j]? = some t → Tryd.pinned.checked.prog.wantsStandIn t = false := by
  obtain rfl : f = 3 := Option.some.inj ((show Tryd.prog.funcNamed "remontoire/remontoirelaw08.AsmRight" = some 3 by kernel_rfl).symm.trans hf) |>.symm
  obtain rfl : fn = Tryd.f3 := (Option.some.inj (Tryd.func3.symm.trans hfn)).symm
  refine ⟨by kernel_rfl, fun j t ht => ?_⟩
  rw [Tryd.params3] at ht
  have hm := Array.mem_of_getElem? ht
  simp only [List.mem_toArray, List.mem_cons, List.not_mem_nil, or_false] at hm
  rcases hm with rfl
  · exact (show Tryd.prog.wantsStandIn 26 = false by kernel_rfl)

/-- The card. -/
theorem proved : Rows.AsmRightCardSaid :=
  Claim7.holds_tied_plain_at .later [] _ _ _ _ said (fun _ h => by cases h) (by kernel_rfl) (fun _ h => by cases h) asmRight_row_tie rfl ⟨rfl, rfl⟩ (by kernel_rfl) rfl plain (by kernel_rfl)
#print axioms proved
end Go.Proofs.YtfdnjoieolijcaaDoor.asmRight

