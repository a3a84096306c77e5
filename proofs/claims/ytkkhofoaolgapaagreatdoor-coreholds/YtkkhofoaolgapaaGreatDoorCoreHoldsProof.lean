/- For every state s and every number cond the statement CoreHolds returns true: the conditions are the document's, and each odd one holds just if the one ahead of it doesn't.
Conditions: none of the arguments; the package variables that the row lists hold what the program lays (the card ties them to its text). -/
import Derived.Test.YtkkhofoaolgapaaGreatDoorRows
import Derived.WalkKit
import Derived.ProofKit
import Derived.OpenShut
import Derived.Deep.DeepHandedRow
import Derived.Deep.RegionHeld3
import Derived.Test.YtkkhofoaolgapaaGreatDoorCards
import Derived.Test.YtkkhofoaolgapaaGreatDoorTie
import Derived.Great.BuildSlice
import Derived.LoopTactic
import Derived.Deep.Fields
import Derived.Laws.OwnMore
import Derived.Below
import Derived.OpenShut
import Derived.ProofKit
import Derived.Test.YtkkhofoaolgapaaGreatDoorCoreTop
import Derived.Test.YtkkhofoaolgapaaGreatDoorCoreOwn
import Derived.Test.YtkkhofoaolgapaaGreatDoorCodeBytesA
import Derived.Test.YtkkhofoaolgapaaGreatDoorCoreSet
import Derived.Test.YtkkhofoaolgapaaGreatDoorCoreBits
import Derived.Test.YtkkhofoaolgapaaGreatDoorCoreHold
/-! From what lies behind a call to the row's own end: where nothing is asked again of what is handed back. -/
set_option linter.unusedVariables false
namespace Go.Proofs.YtkkhofoaolgapaaGreatDoor.Ends
open Go.ChangeShapes Go.WideShapes Go.ChangeAt Go.RowKit

theorem post_of_frame {H : Type} {enc : TypeId × Value → H} {P : Program} {f : Func} {s : ChangeSpec} {apart fresh handsOn : Bool} {W W' : World} {args : Array Value} {v : Value} {ds gs : List (DataW H)} {before pa pv : List MemPlace}
    (hW : DataW.Whole enc P f.params.toList s.vars apart W args.toList ds gs before)
    (hres : ∀ (b : Nat) (sp : Nat → Bool) (hd : Bool), DataW.TrodAll enc P W' b sp hd f.resultTypes.toList (v.resultList f.resultTypes.size) (s.fn H (ds ++ gs)).results [])
    (hargs : ∀ sp : Nat → Bool, (∀ p ∈ before, sp p.block = true) → DataW.TrodAll enc P W' 0 sp true f.params.toList args.toList (s.fn H (ds ++ gs)).args pa)
    (hvars : ∀ sp : Nat → Bool, (∀ p ∈ before, sp p.block = true) → DataW.TrodVars enc P W' sp s.vars (s.fn H (ds ++ gs)).vars pv)
    (hps : before = pa ++ pv) (hk : W.keptBut W' (· ∈ before)) :
    s.post enc P f apart fresh handsOn false W args v W' := by
  have hold : ∀ p ∈ before, (fun b => decide (b < W.heap.size)) p.block = true := fun p hp => by simpa using hW.lt p hp
  refine ⟨ds, gs, before, [], pa, pv, hW, hres _ _ _, hargs _ hold, hvars _ hold, World.keptBut_mono (fun p hp => ⟨hp, ?_⟩) hk, fun h => by cases h⟩
  rw [hps, List.mem_append] at hp
  exact Or.inr hp

/-- The same, where the arguments read as they did in what lies below. -/
theorem post_of_below {H : Type} {enc : TypeId × Value → H} {P : Program} {f : Func} {s : ChangeSpec} {apart fresh handsOn : Bool} {W W' : World} {args : Array Value} {v : Value} {ds gs : List (DataW H)} {before pa pv : List MemPlace}
    (hW : DataW.Whole enc P f.params.toList s.vars apart W args.toList ds gs before)
    (hres : ∀ (b : Nat) (sp : Nat → Bool) (hd : Bool), DataW.TrodAll enc P W' b sp hd f.resultTypes.toList (v.resultList f.resultTypes.size) (s.fn H (ds ++ gs)).results [])
    (hargs : DataW.TrodAll enc P W' 0 (fun b => decide (b < W.heap.size)) true f.params.toList args.toList (s.fn H (ds ++ gs)).args pa)
    (hvars : ∀ sp : Nat → Bool, (∀ p ∈ before, sp p.block = true) → DataW.TrodVars enc P W' sp s.vars (s.fn H (ds ++ gs)).vars pv)
    (hps : before = pa ++ pv) (hk : W.keptBut W' (· ∈ before)) :
    s.post enc P f apart fresh handsOn false W args v W' := by
  have hold : ∀ p ∈ before, (fun b => decide (b < W.heap.size)) p.block = true := fun p hp => by simpa using hW.lt p hp
  refine ⟨ds, gs, before, [], pa, pv, hW, hres _ _ _, hargs, hvars _ hold, World.keptBut_mono (fun p hp => ⟨hp, ?_⟩) hk, fun h => by cases h⟩
  rw [hps, List.mem_append] at hp
  exact Or.inr hp

end Go.Proofs.YtkkhofoaolgapaaGreatDoor.Ends

/-! A run whose events nobody looks at: package core's Run with an empty function. -/
set_option linter.unusedVariables false
set_option linter.unusedSimpArgs false
namespace Go.Proofs.YtkkhofoaolgapaaGreatDoor.Core
open Go.RowKit Go.Proofs.YtkkhofoaolgapaaGreatDoor.Mem Go.Proofs.YtkkhofoaolgapaaGreatDoor.Alu

theorem eq_func (d : Nat) (fn : Fn) (a c : Array Value) (w : World) : Sem.run Tryz.prog (Op.equalIn (d + 1) 63 (.func fn a c) .nilFunc) w = .ok false w := by
  simp only [Op.equalIn, Sem.run_bind, run_underlying Tryz.underlying63, Result.andThen_ok]
  rfl
theorem neq_func (fn : Fn) (a c : Array Value) (w : World) : Sem.run Tryz.prog (binOp .neq 63 (.func fn a c) .nilFunc) w = .ok (.bool true) w := by
  have h := eq_func 9999 fn a c w
  have hm : Op.maxDepth = 9999 + 1 := rfl
  simp only [binOp, Op.equal, Sem.run_bind]
  rw [hm, h]
  rfl
attribute [local go_sem] neq_func

/-- A counter, as it is read in the heap. -/
def cyAt (C : Nat) (w : World) : Int := match w.cell? ⟨C, 24, none⟩ with | some v => intOf v | none => 0
theorem cyAt_of {w : World} {C : Nat} {M : Mc} (h : Mx w C M) : cyAt C w = M.cy := by
  have c : w.cell? ⟨C, 24, none⟩ = some (.int .i64 M.cy) := h.cell rfl
  unfold cyAt; rw [c]; rfl

/-- A block that is no table of the three. -/
def NoT (B : Nat) : Prop := NoTab B ∧ 0 ≠ B
theorem not_of {w : World} (hL : Code.Laid w) {B : Nat} (h : w.heap.size ≤ B) : NoT B := by
  have t1 := block_lt_of_cell (a := ⟨2, 0, none⟩) hL.two.fac.c0
  have t2 := block_lt_of_cell (a := ⟨1, 0, none⟩) (hL.two.shs 0 (by decide))
  have t3 := block_lt_of_cell (a := ⟨0, 0, none⟩) (hL.bits 0 (by decide))
  exact ⟨⟨by simp only at t1; omega, by simp only at t2; omega⟩, by simp only at t3; omega⟩
theorem Off.code {S : List Nat} {w w' : World} (h : Off S w w') (hL : Code.Laid w) (hs : ∀ k, k ∈ S → NoT k) : Code.Laid w' := by
  refine ⟨h.laid hL.two (fun k hk => (hs k hk).1), fun i hi => ?_⟩
  rw [h.cell (p := ⟨0, i, none⟩) (show 0 < _ from block_lt_of_cell (a := ⟨0, 0, none⟩) (hL.bits 0 (by decide))) (fun e => (hs _ e).2 rfl)]
  exact hL.bits i hi
/-- Steps that go well, one behind the other, up to a halt. -/
structure Line (n : Nat) (f : Nat → Int) (fuel : Int) (K : Nat) (Ms : Nat → Mc) (gs : Nat → Nat → Int) : Prop where
  step : ∀ k, k < K → (Ms k).hk = 0 ∧ (Ms k).cy < fuel ∧ May (Ms k) ∧ Words (gs k) ∧ ∃ j, AtI n f ((Ms k).s.R 15) j 0 ∧ stE n f (gs k) (Ms k) j 0 = 0 ∧ stM n f (gs k) (Ms k) j 0 = Ms (k + 1) ∧ stG n f (gs k) (Ms k) j 0 = gs (k + 1)
  halt : (Ms K).hk = 1 ∨ (Ms K).hk = 2
  m : ∀ k, k ≤ K → (Ms k).m = (Ms 0).m

theorem a1_any (a b c d x : Int) (w : World) : Calls Tryz.prog 26 #[.agg #[.int .u32 a, .int .u32 b, .int .i64 c, .int .i64 d, .int .i64 x]] w fun e w' => e = .returned (.tuple #[]) ∧ Below w.heap.size w w' := by
  go_enter Tryz.func26, Tryz.ntmps26
  go_wp2_with fail
  go_end0
  exact ⟨rfl, by repeat (first | with_reducible exact Below.refl _ _ | with_reducible refine Below.alloc ?_ (Nat.le_refl _) _)⟩

set_option maxRecDepth 100000 in
set_option maxHeartbeats 2000000 in
theorem RunA_any {w : World} {C F R n K : Nat} {f : Nat → Int} {Ms : Nat → Mc} {gs : Nat → Nat → Int} {fuel : Int} (hT : Line n f fuel K Ms gs) (hfu : fuel ≤ 1000000) (h : Mx w C (Ms 0)) (hm : Is w (Ms 0).m F R n f (gs 0)) (hf : ∀ i, i < n → 0 ≤ f i ∧ f i < 256) (hn : n ≤ 65536) (hL : Code.Laid w) (ntR : NoT R) (ntC : NoT C) :
    Calls Tryz.prog 20 #[.pointer (some ⟨C, 0, none⟩), .int .i64 fuel, .func (.func 26) #[] #[]] w fun e w' => e = .returned (.int .i64 0) ∧ Mx w' C (Ms K) ∧ Is w' (Ms K).m F R n f (gs K) ∧ Off [C, R] w w' := by
  go_enter Tryz.func20, Tryz.ntmps20
  go_wp2_with fail
  go_loopw [] (fun wr => ∃ k : Nat, k ≤ K ∧ Mx wr C (Ms k) ∧ Is wr (Ms k).m F R n f (gs k) ∧ Off [C, R] w wr) (fun wr => (fuel - cyAt C wr).toNat)
  case atStart => exact ⟨0, Nat.zero_le _, h, hm, Off.refl _ _⟩
  case round =>
    obtain ⟨k, hk, hx, hI, hO⟩ := hrel
    have c25 : wr.cell? ⟨C, 25, none⟩ = some (.int .i64 (Ms k).hk) := hx.cell rfl
    have c24 : wr.cell? ⟨C, 24, none⟩ = some (.int .i64 (Ms k).cy) := hx.cell rfl
    by_cases hlt : k < K
    · obtain ⟨hh, hc, hM, hg, j, hat, hE, hMs, hgs⟩ := hT.step k hlt
      rw [hh] at c25
      have hLr : Code.Laid wr := hO.code hL (by intro k hk; simp at hk; rcases hk with rfl | rfl; exact ntC; exact ntR)
      have HS := hide (Step_run hx hI hf hn hM hg hLr ntR.1 hh)
      have hcy := cyAt_of hx
      go_wp2_with fail
      refine (unhide HS).mono ?_
      rintro e w1 ⟨j', e0, hat', rfl, hx1, hI1, hO1⟩
      obtain ⟨rfl, rfl⟩ := at_one hat' hat
      have eV : stV n f (gs k) (Ms k) j' 0 = evA (Ms k) j' (exeW n f (gs k) (stW0 (Ms k) j')) := if_pos hE
      have eR : stR n f (gs k) (Ms k) j' 0 = 0 := if_pos hE
      have hW := went_of hM hf hg hat hE
      rw [hMs] at hx1 hW
      rw [hgs] at hI1
      rw [eV, eR]
      unfold evA evv
      have hmm := hT.m k hk
      have hmm1 := hT.m (k + 1) hlt
      have hcy1 := cyAt_of hx1
      have hlo := hW.lo
      rw [show (Ms k).m = (Ms (k + 1)).m by rw [hmm, hmm1]] at hI1
      clear hat hat' hE eV eR hM hg HS c24 c25
      generalize exeW n f (gs k) (stW0 (Ms k) j') = W1 at *
      generalize basI (Ms k).s j' = bb at *
      generalize Clock.mss (Ms k).fl (Ms k).l ((Ms k).s.R 15) (Inst.siz j'.f) = mm at *
      have hend : Hid (Mx w1 C (Ms (k + 1)) ∧ Is w1 (Ms (k + 1)).m F R n f (gs (k + 1)) ∧ Off [C, R] w w1) := ⟨hx1, hI1, hO.trans hO1⟩
      clear hx1 hI1 hO1 hW hx hI hO
      go_wp2_with fail
      refine (a1_any _ _ _ _ _ _).mono ?_
      rintro e w2 ⟨rfl, hb2⟩
      have hb3 : Below w1.heap.size w1 w2 := ((Below.refl w1.heap.size w1).alloc (Nat.le_refl _) _).trans (hb2.mono (by simp))
      go_wp2_with fail
      go_roundw
      case rel => exact ⟨k + 1, hlt, hend.out.1.below hb3, hend.out.2.1.below hb3, hend.out.2.2.trans (Off.of_below hb3)⟩
      case measure =>
        rw [hcy, cyAt_of (hend.out.1.below hb3)]
        omega
    · obtain rfl : k = K := by omega
      have hh := hT.halt
      rcases hh with hh | hh
      · rw [hh] at c25
        go_wp2_with fail
        go_ret
        exact ⟨rfl, hx, hI, hO⟩
      · rw [hh] at c25
        go_wp2_with fail
        go_ret
        exact ⟨rfl, hx, hI, hO⟩
end Go.Proofs.YtkkhofoaolgapaaGreatDoor.Core

/-! A machine that is built of instructions: the statements' own 'built'. -/
set_option linter.unusedVariables false
namespace Go.Proofs.YtkkhofoaolgapaaGreatDoor.Core
open Go.RowKit Go.Proofs.YtkkhofoaolgapaaGreatDoor.Mem Go.Proofs.YtkkhofoaolgapaaGreatDoor.Alu

theorem byt_le (W : Int) (b : Bool) : (Code.byt W b).length ≤ 4 := by unfold Code.byt; split <;> simp
/-- An instruction's bytes, as far as it may be. -/
def insB (i : Ins) : List Int := if i.right then Code.byt (Code.wd i.f i.rd i.rn i.rm i.ra i.im i.kd i.bs i.st i.cd i.rg) (Inst.wdF i.f) else []
def prgB (I : Nat → Ins) : Nat → List Int
  | 0 => []
  | k + 1 => prgB I k ++ insB (I k)
theorem insB_len (i : Ins) : (insB i).length ≤ 4 := by
  unfold insB; split
  · exact byt_le _ _
  · exact Nat.zero_le _
theorem prgB_len (I : Nat → Ins) : ∀ k, (prgB I k).length ≤ 4 * k
  | 0 => Nat.zero_le _
  | k + 1 => by
    have h1 := prgB_len I k
    have h2 := insB_len (I k)
    show (prgB I k ++ insB (I k)).length ≤ _
    rw [List.length_append]; omega
theorem byt_range (W : Int) (b : Bool) : ∀ x ∈ Code.byt W b, 0 ≤ x ∧ x < 256 := by
  intro x hx
  unfold Code.byt at hx
  split at hx <;> simp at hx <;> omega
theorem prgB_range (I : Nat → Ins) : ∀ k, ∀ x ∈ prgB I k, 0 ≤ x ∧ x < 256
  | 0, x, h => by simp [prgB] at h
  | k + 1, x, h => by
    rcases List.mem_append.1 (show x ∈ prgB I k ++ insB (I k) from h) with h | h
    · exact prgB_range I k x h
    · unfold insB at h
      split at h
      · exact byt_range _ _ x h
      · simp at h
/-- Flash: bytes by their places. -/
def flaF (I : Nat → Ins) (nl : Nat) : Nat → Int := fun k => (prgB I nl).getD k 0
theorem flaF_bd (I : Nat → Ins) (nl : Nat) (k : Nat) : 0 ≤ flaF I nl k ∧ flaF I nl k < 256 := by
  unfold flaF
  by_cases h : k < (prgB I nl).length
  · rw [List.getD_eq_getElem?_getD, List.getElem?_eq_getElem h]; exact prgB_range I nl _ (List.getElem_mem h)
  · rw [List.getD_eq_getElem?_getD, List.getElem?_eq_none (by omega)]; decide

/-- A slice of instructions. -/
structure Its (w : World) (p : Option Addr) (nl : Nat) (I : Nat → Ins) : Prop where
  cells : nl = 0 ∨ ∃ b off, p = some ⟨b, off, none⟩ ∧ b < w.heap.size ∧ ∀ i, i < nl → w.rangeAt b (off + i * 11) (inv (I i)).toList
  rg : ∀ i, i < nl → -9223372036854775808 ≤ (I i).rg ∧ (I i).rg ≤ 9223372036854775807
theorem Its.below {w w' : World} {p : Option Addr} {nl : Nat} {I : Nat → Ins} (h : Its w p nl I) (hb : Below w.heap.size w w') : Its w' p nl I := by
  refine ⟨?_, h.rg⟩
  rcases h.cells with h | ⟨b, off, rfl, hlt, hc⟩
  · exact .inl h
  · exact .inr ⟨b, off, rfl, Nat.lt_of_lt_of_le hlt hb.size, fun i hi => range_below (hc i hi) hb⟩

/-- The document's machine, new. -/
def refC (fl : Value) (wait line : Int) : Array Value := #[fl, .slice none 0 0, .int .i64 wait, .int .u32 0, .int .u32 0, .int .u32 0, .int .u32 0, .int .u32 0, .int .u32 0, .int .u32 0, .int .u32 0, .int .u32 0, .int .u32 0, .int .u32 0, .int .u32 0, .int .u32 0, .int .u32 0, .int .u32 0, .int .u32 0, .int .u32 0, .int .u32 0, .int .u32 0, .int .u32 0, .int .i64 line, .int .i64 0, .int .i64 0, .int .i64 0]
theorem one_ref (p : Option Addr) (n c : Nat) (wait line : Int) : (refC (.slice p n c) wait line).all (·.oneCell') = true := by simp [refC, Value.oneCell']
theorem info_ref : (Tryz.prog.info? 35).map (·.size) = some 27 := by kernel_rfl

set_option maxRecDepth 100000 in
theorem refNew_any (p : Option Addr) (n c : Nat) (wait : Int) (w : World) :
    Calls Tryz.prog 30 #[.slice p n c, .int .i64 wait] w fun e w' => e = .returned (.agg (refC (.slice p n c) wait (-1))) ∧ Below w.heap.size w w' := by
  have HN := hide (show (w.alloc (.cells #[.slice none 0 0, .slice none 0 0, .int .i64 0, .int .u32 0, .int .u32 0, .int .u32 0, .int .u32 0, .int .u32 0, .int .u32 0, .int .u32 0, .int .u32 0, .int .u32 0, .int .u32 0, .int .u32 0, .int .u32 0, .int .u32 0, .int .u32 0, .int .u32 0, .int .u32 0, .int .u32 0, .int .u32 0, .int .u32 0, .int .u32 0, .int .i64 0, .int .i64 0, .int .i64 0, .int .i64 0] 35)).heap[w.heap.size]? = some (.cells (refC (.slice none 0 0) 0 0) 35 (0, 0)) from heap_alloc_new _ _)
  have HB := hide (setRow_below (b := w.heap.size) ((Below.refl w.heap.size w).alloc (Nat.le_refl _) (.cells #[.slice none 0 0, .slice none 0 0, .int .i64 0, .int .u32 0, .int .u32 0, .int .u32 0, .int .u32 0, .int .u32 0, .int .u32 0, .int .u32 0, .int .u32 0, .int .u32 0, .int .u32 0, .int .u32 0, .int .u32 0, .int .u32 0, .int .u32 0, .int .u32 0, .int .u32 0, .int .u32 0, .int .u32 0, .int .u32 0, .int .u32 0, .int .i64 0, .int .i64 0, .int .i64 0, .int .i64 0] 35)) (Nat.le_refl _) (refC (.slice p n c) wait (-1)))
  have HL := hide (setRow_heap _ _ _ (refC (.slice p n c) wait (-1)) _ _ HN.out)
  go_enter Tryz.func30, Tryz.ntmps30
  go_wp2_with (refine wpList_store_rowTo rfl 35 (.tmp 4) (.tmp 8) rfl rfl _ (refC (.slice p n c) wait (-1)) rfl rfl 35 (refC (.slice none 0 0) 0 0) (unhide HN) info_ref rfl (one_ref _ _ _ _ _) ?_)
  refine bodyPost_ret (v := .agg (refC (.slice p n c) wait (-1))) ?_ rfl ⟨rfl, HB.out⟩
  exact results_cell_row (fn := Tryz.f30) rfl _ _ w.heap.size 35 _ (0, 0) _ rfl HL.out Tryz.underlying35 rfl info_ref

theorem BytesY (i : Ins) (hr : i.right = true) (g : -9223372036854775808 ≤ i.rg ∧ i.rg ≤ 9223372036854775807) (w : World) (hL : Code.Laid w) :
    Calls Tryz.prog 27 #[.agg (inv i)] w fun e w' => ∃ v, e = .returned (.tuple #[v, .int .i64 0]) ∧ w'.ownsRow w.heap.size 5 1 v (insB i).length (Code.u8s (insB i)) ∧ Below w.heap.size w w' := by
  have e : insB i = Code.byt (Code.wd i.f i.rd i.rn i.rm i.ra i.im i.kd i.bs i.st i.cd i.rg) (Inst.wdF i.f) := by unfold insB; rw [if_pos hr]
  rw [e]
  exact Code.Bytes_yes i.f i.rd i.rn i.rm i.ra i.im i.kd i.bs i.st i.cd i.rg hr g.1 g.2 w hL
theorem BytesN (i : Ins) (hr : i.right = false) (w : World) (hL : Code.Laid w) :
    Calls Tryz.prog 27 #[.agg (inv i)] w fun e w' => e = .returned (.tuple #[.slice none 0 0, .int .i64 10]) ∧ Below w.heap.size w w' :=
  Code.Bytes_no i.f i.rd i.rn i.rm i.ra i.im i.kd i.bs i.st i.cd i.rg hr w hL
theorem owns_below {w w' : World} {base : Nat} {e : TypeId} {size : Nat} {v : Value} {n : Nat} {xs : List Value} (h : w.ownsRow base e size v n xs) (hb : Below w.heap.size w w') : w'.ownsRow base e size v n xs :=
  h.kept (row := none) ⟨hb.os, hb.tape, hb.output, hb.size, fun i hi _ => hb.block i hi⟩ (by cases v.ownBlock <;> simp)
theorem u8s_one' (l : List Int) : ∀ u ∈ Code.u8s l, u.oneCell' = true := by
  intro u hu
  simp only [Code.u8s, List.mem_map] at hu
  obtain ⟨_, _, rfl⟩ := hu
  rfl
theorem add_off' (g j : Nat) : (⟨g, 0, none⟩ : Addr).add j = ⟨g, j, none⟩ := by unfold Addr.add; split <;> simp_all
theorem insB_pos {i : Ins} (hr : i.right = true) : 0 < (insB i).length := by
  unfold insB; rw [if_pos hr]; unfold Code.byt; split <;> simp

/-- What built answers. -/
def BuiltPost (I : Nat → Ins) (nl : Nat) (wait : Int) (w : World) (e : Ending) (w' : World) : Prop :=
  (¬ (0 ≤ wait ∧ wait ≤ 7) ∧ e = .returned (.tuple #[.pointer none, .agg (refC (.slice none 0 0) 0 0)]))
  ∨ ((0 ≤ wait ∧ wait ≤ 7) ∧ ∃ C m F R q fc, e = .returned (.tuple #[.pointer (some ⟨C, 0, none⟩), .agg (refC (.slice q (prgB I nl).length fc) wait (-1))]) ∧ Mx w' C (newM m wait) ∧ Is w' m F R (prgB I nl).length (flaF I nl) (fun _ => 0)
    ∧ (w.heap.size ≤ C ∧ w.heap.size ≤ m ∧ w.heap.size ≤ F ∧ w.heap.size ≤ R) ∧ Sl w' .u8 q (prgB I nl).length (flaF I nl))

theorem own_sl {w : World} {base : Nat} {v : Value} {l : List Int} (h : w.ownsRow base 5 1 v l.length (Code.u8s l)) : ∃ q c, v = .slice q l.length c ∧ Sl w .u8 q l.length (fun k => l.getD k 0) := by
  by_cases h0 : l = []
  · subst h0
    rcases h.2 with ⟨rfl, _⟩ | ⟨g, cap, cur, rfl, _⟩
    · exact ⟨none, 0, rfl, .inl rfl⟩
    · exact ⟨_, cap, rfl, .inl rfl⟩
  · obtain ⟨g, cap, rfl, hb, hg, _, _, hc⟩ := Code.own_slice h (by cases l; exact absurd rfl h0; simp)
    refine ⟨_, cap, rfl, .inr ⟨g, 0, rfl, hg, fun i hi => ?_⟩⟩
    rw [Nat.zero_add]
    refine hc i _ ?_
    simp [Code.u8s, List.getD, hi]

theorem own_sl' {w : World} {base : Nat} {q : Option Addr} {c : Nat} {l : List Int} (h : w.ownsRow base 5 1 (.slice q l.length c) l.length (Code.u8s l)) : Sl w .u8 q l.length (fun k => l.getD k 0) := by
  obtain ⟨q', c', e, h'⟩ := own_sl h
  injection e with e1
  rw [e1]; exact h'
theorem setRow_off (w : World) (b : Nat) (cs : Array Value) : Off [b] w (w.setRow b cs) := ⟨rfl, rfl, rfl, by simp, fun k hk hn => setRow_other w b k cs (by simpa using hn)⟩
theorem owns_off {w w' : World} {base S : Nat} {e : TypeId} {size : Nat} {v : Value} {n : Nat} {xs : List Value} (h : w.ownsRow base e size v n xs) (ho : Off [S] w w') (hS : S < base) : w'.ownsRow base e size v n xs :=
  h.kept (row := some S) ⟨ho.os, ho.tape, ho.output, ho.size, fun i hi hn => ho.block i hi (by simp; intro e; exact hn (by rw [e]))⟩ (by
    cases hv : v.ownBlock with
    | none => exact .inl rfl
    | some g => right; intro e; have := (h.lt g hv).1; injection e with e; omega)

set_option maxRecDepth 100000 in
set_option maxHeartbeats 4000000 in
theorem built_any (p : Option Addr) (nl cap : Nat) (I : Nat → Ins) (wait : Int) (w : World) (hI : Its w p nl I) (hnl : nl ≤ 40) (hL : Code.Laid w) :
    Calls Tryz.prog 8 #[.slice p nl cap, .slice none 0 0, .int .i64 wait] w fun e w' => Below w.heap.size w w' ∧ BuiltPost I nl wait w e w' := by
  have hnl' : (nl : Int) ≤ 40 := by omega
  obtain ⟨i0, hi, hz0, hz1, hz2⟩ := info_parts infoU8
  have HN := heap_alloc_new w (.cells #[.slice none 0 0, .slice none 0 0, .int .i64 0, .int .u32 0, .int .u32 0, .int .u32 0, .int .u32 0, .int .u32 0, .int .u32 0, .int .u32 0, .int .u32 0, .int .u32 0, .int .u32 0, .int .u32 0, .int .u32 0, .int .u32 0, .int .u32 0, .int .u32 0, .int .u32 0, .int .u32 0, .int .u32 0, .int .u32 0, .int .u32 0, .int .i64 0, .int .i64 0, .int .i64 0, .int .i64 0] 35)
  have HB := (Below.refl w.heap.size w).alloc (Nat.le_refl _) (.cells #[.slice none 0 0, .slice none 0 0, .int .i64 0, .int .u32 0, .int .u32 0, .int .u32 0, .int .u32 0, .int .u32 0, .int .u32 0, .int .u32 0, .int .u32 0, .int .u32 0, .int .u32 0, .int .u32 0, .int .u32 0, .int .u32 0, .int .u32 0, .int .u32 0, .int .u32 0, .int .u32 0, .int .u32 0, .int .u32 0, .int .u32 0, .int .i64 0, .int .i64 0, .int .i64 0, .int .i64 0] 35)
  have HS : (w.alloc (.cells #[.slice none 0 0, .slice none 0 0, .int .i64 0, .int .u32 0, .int .u32 0, .int .u32 0, .int .u32 0, .int .u32 0, .int .u32 0, .int .u32 0, .int .u32 0, .int .u32 0, .int .u32 0, .int .u32 0, .int .u32 0, .int .u32 0, .int .u32 0, .int .u32 0, .int .u32 0, .int .u32 0, .int .u32 0, .int .u32 0, .int .u32 0, .int .i64 0, .int .i64 0, .int .i64 0, .int .i64 0] 35)).heap.size = w.heap.size + 1 := by simp
  replace HN := hide HN
  replace HB := hide HB
  go_enter Tryz.func8, Tryz.ntmps8
  go_wp2_with fail
  generalize hS : w.heap.size = S at *
  generalize w.alloc (.cells #[.slice none 0 0, .slice none 0 0, .int .i64 0, .int .u32 0, .int .u32 0, .int .u32 0, .int .u32 0, .int .u32 0, .int .u32 0, .int .u32 0, .int .u32 0, .int .u32 0, .int .u32 0, .int .u32 0, .int .u32 0, .int .u32 0, .int .u32 0, .int .u32 0, .int .u32 0, .int .u32 0, .int .u32 0, .int .u32 0, .int .u32 0, .int .i64 0, .int .i64 0, .int .i64 0, .int .i64 0] 35) = w1 at *
  go_loopw [8, 19] (fun s8 s19 wr => ∃ k : Nat, k ≤ nl ∧ s19 = .int .i64 k ∧ wr.ownsRow w1.heap.size 5 1 s8 (prgB I k).length (Code.u8s (prgB I k)) ∧ Below w1.heap.size w1 wr) (fun _ s19 _ => nl - (intOf s19).toNat)
  case atStart => exact ⟨0, Nat.zero_le _, rfl, World.ownsRow_nil _ _ _ _, Below.refl _ _⟩
  case round =>
    obtain ⟨k, hk, rfl, ho, hb⟩ := hrel
    have hbw : Below S w wr := HB.out.trans (hb.mono (by omega))
    by_cases hlt : k < nl
    · have hlt' : (k : Int) < nl := by omega
      rcases hI.cells with h0 | ⟨b, off, rfl, hbl, hcl⟩
      · omega
      have hrow := hide (range_below (hcl k hlt) (by rw [hS]; exact hbw))
      have hrg := hI.rg k hlt
      have hB2 := (Below.refl wr.heap.size wr).alloc (Nat.le_refl _) (.cells (inv (I k)) 52)
      have hL2 : Code.Laid (wr.alloc (.cells (inv (I k)) 52)) := hL.below (by rw [hS]; exact hbw.alloc (by have := hb.size; omega) _)
      have ho2 := ho.alloc (.cells (inv (I k)) 52)
      have hb2 := hb.alloc hb.size (.cells (inv (I k)) 52)
      replace hB2 := hide hB2
      cases hr : (I k).right
      · have e2 : prgB I (k + 1) = prgB I k := by show prgB I k ++ insB (I k) = _; unfold insB; rw [hr]; simp
        go_wp2_with (first
          | (refine wpList_load_mid rfl 52 (.tmp 21) rfl b (off + k * 11) rfl (inv (I k)).toList _ (unhide hrow) Tryz.underlying52 rfl info_in ?_)
          | (refine wpList_store_rowTo rfl 52 (.tmp 10) (.tmp 22) rfl rfl _ (inv (I k)) rfl rfl 52 (inv zerI) (heap_alloc_last _ _) info_in rfl (one_in _) ?_; rw [World.setRow_alloc_new])
          | (refine wpList_load_row rfl 52 (.tmp 10) rfl _ rfl 52 _ (0, 0) _ (heap_alloc_last _ _) Tryz.underlying52 rfl info_in ?_))
        refine (BytesN (I k) hr _ hL2).mono ?_
        rintro e w3 ⟨rfl, hb3⟩
        have ho3 := owns_below ho2 hb3
        have hb4 := hb2.trans (hb3.mono hb2.size)
        clear hb3
        go_wp2_with fail
        go_roundw
        case rel => exact ⟨k + 1, by omega, by go_num, by rw [e2]; exact ho3, hb4⟩
        case measure => simp [intOf]; omega
      · have e2 : prgB I (k + 1) = prgB I k ++ insB (I k) := rfl
        have hpl := prgB_len I k
        have hil := insB_len (I k)
        go_wp2_with (first
          | (refine wpList_load_mid rfl 52 (.tmp 21) rfl b (off + k * 11) rfl (inv (I k)).toList _ (unhide hrow) Tryz.underlying52 rfl info_in ?_)
          | (refine wpList_store_rowTo rfl 52 (.tmp 10) (.tmp 22) rfl rfl _ (inv (I k)) rfl rfl 52 (inv zerI) (heap_alloc_last _ _) info_in rfl (one_in _) ?_; rw [World.setRow_alloc_new])
          | (refine wpList_load_row rfl 52 (.tmp 10) rfl _ rfl 52 _ (0, 0) _ (heap_alloc_last _ _) Tryz.underlying52 rfl info_in ?_))
        refine (BytesY (I k) hr hrg _ hL2).mono ?_
        rintro e w3 ⟨v3, rfl, hov, hb3⟩
        obtain ⟨g, gc, rfl, hg0, hg1, hgc, hgm, hgcell⟩ := Code.own_slice hov (insB_pos hr)
        have ho3 := owns_below ho2 hb3
        have hb4 := hb2.trans (hb3.mono hb2.size)
        clear hb3
        go_wp2_with (at_builtin; refine wpList_append_own _ rfl (.tmp 30) (.tmp 31) 23 rfl w1.heap.size 5 i0 (.int .u8 0) 1 1 Tryz.underlying23 hi hz0 hz1 hz2 rfl (by decide) _ _ _ rfl ho3 ⟨g, 0, none⟩ (insB (I k)).length _ (Code.u8s (insB (I k))) rfl ?k1 ?k2 ?k3 ?k4 ?k5 hb4.size ?_)
        case k1 => simp [Code.u8s]
        case k2 => intro j u hj; rw [add_off']; exact hgcell j u hj
        case k3 => exact u8s_one' _
        case k4 => unfold maxLen; omega
        case k5 => omega
        intro v5 w5 ho5 hg5 _
        have hb5 : Below w1.heap.size w1 w5 := hb4.grown hg5 hb4.size (fun j hj => (ho3.lt j hj).1)
        go_wp2_with fail
        go_roundw
        case rel => exact ⟨k + 1, by omega, by go_num, by rw [e2, List.length_append, HS]; simpa [Code.u8s] using ho5, hb5⟩
        case measure => simp [intOf]; omega
    · obtain rfl : k = nl := by omega
      have hpl := prgB_len I k
      obtain ⟨q, c, rfl, hsl⟩ := own_sl ho
      go_wp2_with (at_builtin; refine wpList_append_own_none rfl (.tmp 34) (.tmp 35) 23 rfl w1.heap.size 5 i0 1 Tryz.underlying23 hi _ _ _ rfl ho rfl ?_)
      refine (New_ok q (prgB I k).length c (flaF I k) _ hsl (by omega)).mono ?_
      rintro e w2 ⟨m, F, R, rfl, hIs, hle, hb2⟩
      have hb3 := hb.trans (hb2.mono hb.size)
      by_cases hw : 0 ≤ wait ∧ wait ≤ 7
      · go_wp2_with fail
        refine (NewC_yes m wait hw.1 hw.2 _).mono ?_
        rintro e w3 ⟨rfl, rfl⟩
        have hMx := heap_alloc_new w2 (.cells (mcc (newM m wait)) 81)
        have hIs3 := hIs.alloc (.cells (mcc (newM m wait)) 81)
        have hb4 := hb3.alloc hb3.size (.cells (mcc (newM m wait)) 81)
        have hsz := hb3.size
        have hball : Below wr.heap.size wr (w2.alloc (.cells (mcc (newM m wait)) 81)) := hb2.alloc hb2.size _
        have hwz := hb.size
        generalize w2.alloc (.cells (mcc (newM m wait)) 81) = w3 at *
        have hz := hb4.size
        go_wp2_with fail
        refine (refNew_any q (prgB I k).length c wait _).mono ?_
        rintro e w4 ⟨rfl, hb5⟩
        have hb6 := hb4.trans (hb5.mono hb4.size)
        have N4 : w4.heap[S]? = some (.cells (refC (.slice none 0 0) 0 0) 35 (0, 0)) := (hb6.block S (by omega)).trans HN.out
        have O4 := setRow_off w4 S (refC (.slice q (prgB I k).length c) wait (-1))
        have HL := setRow_heap _ _ _ (refC (.slice q (prgB I k).length c) wait (-1)) _ _ N4
        have M4 : Mx w4 w2.heap.size (newM m wait) := Mx.below (show Mx w3 w2.heap.size (newM m wait) from hMx) hb5
        have I4 := hIs3.below hb5
        have W4 := owns_below ho (hb2.trans ((Below.refl w2.heap.size w2).mono hb2.size))
        have hfin : w4.ownsRow w1.heap.size 5 1 (.slice q (prgB I k).length c) (prgB I k).length (Code.u8s (prgB I k)) := owns_below ho (hball.trans (hb5.mono hball.size))
        replace N4 := hide N4
        replace hMx := hide hMx
        clear hIs hIs3 hb2 hb3 ho W4
        go_wp2_with (refine wpList_store_rowTo rfl 35 (.tmp 7) (.tmp 65) rfl rfl _ (refC (.slice q (prgB I k).length c) wait (-1)) rfl rfl 35 (refC (.slice none 0 0) 0 0) (unhide N4) info_ref rfl (one_ref _ _ _ _ _) ?_)
        refine bodyPost_ret (v := .tuple #[.pointer (some ⟨w2.heap.size, 0, none⟩), .agg (refC (.slice q (prgB I k).length c) wait (-1))]) (by have HR := run_loadVar_row (P := Tryz.prog) _ S 35 35 (refC (.slice q (prgB I k).length c) wait (-1)) (0, 0) _ HL Tryz.underlying35 rfl info_ref; simp [results, Tryz.results8, asAddr, HR]) rfl ⟨by rw [hS]; exact setRow_below (HB.out.trans (hb6.mono (by omega))) (Nat.le_refl _) _, .inr ⟨hw, _, m, F, R, q, c, rfl, M4.off O4 (by simp; omega), isOff I4 O4 (by simp; omega) (by simp; omega) (by simp; omega), ⟨by omega, by omega, by omega, by omega⟩, own_sl' (owns_off hfin O4 (by omega))⟩⟩
      · go_wp2_with fail
        refine (NewC_no m wait (by omega) _).mono ?_
        rintro e w3 ⟨rfl, rfl⟩
        have hz := hb3.size
        have N4 : w3.heap[S]? = some (.cells (refC (.slice none 0 0) 0 0) 35 (0, 0)) := (hb3.block S (by omega)).trans HN.out
        have HL := setRow_heap _ _ _ (refC (.slice none 0 0) 0 0) _ _ N4
        replace N4 := hide N4
        go_wp2_with (refine wpList_store_rowTo rfl 35 (.tmp 7) (.tmp 61) rfl rfl _ (refC (.slice none 0 0) 0 0) rfl rfl 35 (refC (.slice none 0 0) 0 0) (unhide N4) info_ref rfl (one_ref _ _ _ _ _) ?_)
        refine bodyPost_ret (v := .tuple #[.pointer none, .agg (refC (.slice none 0 0) 0 0)]) (by have HR := run_loadVar_row (P := Tryz.prog) _ S 35 35 (refC (.slice none 0 0) 0 0) (0, 0) _ HL Tryz.underlying35 rfl info_ref; simp [results, Tryz.results8, asAddr, HR]) rfl ⟨by rw [hS]; exact setRow_below (HB.out.trans (hb3.mono (by omega))) (Nat.le_refl _) _, .inl ⟨hw, rfl⟩⟩
end Go.Proofs.YtkkhofoaolgapaaGreatDoor.Core

/-! The document's example, by numbers: two instructions, and what they leave. No function of the program is walked here. -/
set_option linter.unusedVariables false
namespace Go.Proofs.YtkkhofoaolgapaaGreatDoor.Core
open Go.RowKit Go.Proofs.YtkkhofoaolgapaaGreatDoor.Mem Go.Proofs.YtkkhofoaolgapaaGreatDoor.Alu

def an1 : Ins := ⟨8, 0, 0, 0, 0, 5, 0, 0, 0, 0, 0⟩
def an2 : Ins := ⟨31, 0, 0, 14, 0, 0, 0, 0, 0, 0, 0⟩
def anI (k : Nat) : Ins := if k = 0 then an1 else an2
def anF : Nat → Int := flaF anI 2
def noG : Nat → Int := fun _ => 0
theorem an_len : (prgB anI 2).length = 4 := by decide +kernel
def anS : St := (zerS.reg 14 4294967295).reg 15 134217728
def anA : Mc := { newM 0 0 with s := bitsS anS }
def anB : Mc := stM 4 anF noG anA an1 0
def anC : Mc := stM 4 anF noG anB an2 0
theorem an_v1 : hfV 4 anF 134217728 = 8197 ∧ hfE 4 134217728 = 0 ∧ Code.beg 8197 = false := by decide +kernel
theorem an_v2 : hfV 4 anF 134217730 = 18288 ∧ hfE 4 134217730 = 0 ∧ Code.beg 18288 = false := by decide +kernel
theorem an_r1 : Inst.right 8 0 0 0 0 5 0 0 0 0 0 = true ∧ Code.wd 8 0 0 0 0 5 0 0 0 0 0 = 8197 ∧ Inst.wdF 8 = false := by decide +kernel
theorem an_r2 : Inst.right 31 0 0 14 0 0 0 0 0 0 0 = true ∧ Code.wd 31 0 0 14 0 0 0 0 0 0 0 = 18288 ∧ Inst.wdF 31 = false := by decide +kernel
theorem an_at1 : AtI 4 anF 134217728 an1 0 := .inr (.inl ⟨an_v1.2.1, by rw [an_v1.1]; exact an_v1.2.2, by rw [an_v1.1]; exact .inl ⟨⟨an_r1.1, by decide, by decide, an_r1.2.1, an_r1.2.2⟩, rfl⟩⟩)
theorem an_at2 : AtI 4 anF 134217730 an2 0 := .inr (.inl ⟨an_v2.2.1, by rw [an_v2.1]; exact an_v2.2.2, by rw [an_v2.1]; exact .inl ⟨⟨an_r2.1, by decide, by decide, an_r2.2.1, an_r2.2.2⟩, rfl⟩⟩)
theorem an_e1 : stE 4 anF noG anA an1 0 = 0 := by decide +kernel
theorem an_e2 : stE 4 anF noG anB an2 0 = 0 := by decide +kernel
theorem an_b : anB.s.R 15 = 134217730 ∧ anB.hk = 0 ∧ anB.cy = 1 := by decide +kernel
theorem an_c : anC.hk = 1 ∧ anC.hc = 0 ∧ anC.cy = 4 ∧ anC.s.R 0 = 5 := by decide +kernel
theorem an_a : anA.s.R 15 = 134217728 ∧ anA.hk = 0 ∧ anA.cy = 0 := by decide +kernel
theorem an_g (M : Mc) (j : Ins) (h : j = an1 ∨ j = an2) : stG 4 anF noG M j 0 = noG := by
  unfold stG exeG
  rcases h with rfl | rfl
  · rw [if_pos rfl, if_neg (show ¬ isSt (stW0 M an1).i.f = true from (by decide : ¬ isSt 8 = true)), if_neg (show ¬ (stW0 M an1).i.f = 42 from (by decide : ¬ (8 : Int) = 42))]
  · rw [if_pos rfl, if_neg (show ¬ isSt (stW0 M an2).i.f = true from (by decide : ¬ isSt 31 = true)), if_neg (show ¬ (stW0 M an2).i.f = 42 from (by decide : ¬ (31 : Int) = 42))]
theorem no_words : Words noG := fun _ => by unfold noG; omega
theorem good_bits {s : St} (h : Regs s) : Good (bitsS s) := ⟨h, b01_bd _, b01_bd _, b01_bd _, b01_bd _⟩
theorem zer_regs : Regs zerS := fun _ => by unfold zerS; dsimp only; omega
theorem an_regs : Regs anS := Regs.put (Regs.put zer_regs 14 _ (by omega)) 15 _ (by omega)
theorem an_may : May anA := ⟨good_bits an_regs, by rw [an_a.2.2]; omega, by show 0 ≤ (0 : Int) ∧ (0 : Int) ≤ 7; omega⟩
theorem anF_bd (i : Nat) (h : i < 4) : 0 ≤ anF i ∧ anF i < 256 := flaF_bd anI 2 i
theorem an_mayB : May anB := (went_of an_may anF_bd no_words (by rw [an_a.1]; exact an_at1) an_e1).may an_may (by rw [an_a.2.2]; omega)

def anM (m : Nat) (k : Nat) : Mc := if k = 0 then anA.on m else if k = 1 then anB.on m else anC.on m
theorem an_on {M : Mc} (h : May M) (m : Nat) : May (M.on m) := ⟨h.s, h.cy, h.wt⟩
theorem an_line (m : Nat) : Line 4 anF 9 2 (anM m) (fun _ => noG) where
  step := fun k hk => by
    rcases (show k = 0 ∨ k = 1 by omega) with rfl | rfl
    · refine ⟨an_a.2.1, ?_, an_on an_may m, no_words, an1, ?_, ?_, ?_, an_g _ _ (.inl rfl)⟩
      · show anA.cy < 9; rw [an_a.2.2]; omega
      · show AtI 4 anF (anA.s.R 15) an1 0; rw [an_a.1]; exact an_at1
      · show stE 4 anF noG (anA.on m) an1 0 = 0; rw [stE_on]; exact an_e1
      · show stM 4 anF noG (anA.on m) an1 0 = anB.on m; rw [stM_on]; rfl
    · refine ⟨an_b.2.1, ?_, an_on an_mayB m, no_words, an2, ?_, ?_, ?_, an_g _ _ (.inr rfl)⟩
      · show anB.cy < 9; rw [an_b.2.2]; omega
      · show AtI 4 anF (anB.s.R 15) an2 0; rw [an_b.1]; exact an_at2
      · show stE 4 anF noG (anB.on m) an2 0 = 0; rw [stE_on]; exact an_e2
      · show stM 4 anF noG (anB.on m) an2 0 = anC.on m; rw [stM_on]; rfl
  halt := .inl an_c.1
  m := fun k hk => by
    rcases (show k = 0 ∨ k = 1 ∨ k = 2 by omega) with rfl | rfl | rfl <;> rfl
end Go.Proofs.YtkkhofoaolgapaaGreatDoor.Core

/-! The document's example: the statements' own 'anchor' is true. -/
set_option linter.unusedVariables false
set_option linter.unusedSimpArgs false
namespace Go.Proofs.YtkkhofoaolgapaaGreatDoor.Core
open Go.RowKit Go.Proofs.YtkkhofoaolgapaaGreatDoor.Mem Go.Proofs.YtkkhofoaolgapaaGreatDoor.Alu

theorem field_R (a0 a1 a2 a3 a4 a5 a6 a7 a8 a9 a10 a11 a12 a13 a14 a15 a16 a17 a18 a19 : Int) (w : World) : Sem.run Tryz.prog (Instr.field 27 (.agg #[.int .u32 a0, .int .u32 a1, .int .u32 a2, .int .u32 a3, .int .u32 a4, .int .u32 a5, .int .u32 a6, .int .u32 a7, .int .u32 a8, .int .u32 a9, .int .u32 a10, .int .u32 a11, .int .u32 a12, .int .u32 a13, .int .u32 a14, .int .u32 a15, .int .u32 a16, .int .u32 a17, .int .u32 a18, .int .u32 a19]) 0) w = .ok (.agg #[.int .u32 a0, .int .u32 a1, .int .u32 a2, .int .u32 a3, .int .u32 a4, .int .u32 a5, .int .u32 a6, .int .u32 a7, .int .u32 a8, .int .u32 a9, .int .u32 a10, .int .u32 a11, .int .u32 a12, .int .u32 a13, .int .u32 a14, .int .u32 a15]) w := by
  kernel_rfl
theorem index_R (a0 a1 a2 a3 a4 a5 a6 a7 a8 a9 a10 a11 a12 a13 a14 a15 : Int) (w : World) : Sem.run Tryz.prog (Instr.index 25 (.agg #[.int .u32 a0, .int .u32 a1, .int .u32 a2, .int .u32 a3, .int .u32 a4, .int .u32 a5, .int .u32 a6, .int .u32 a7, .int .u32 a8, .int .u32 a9, .int .u32 a10, .int .u32 a11, .int .u32 a12, .int .u32 a13, .int .u32 a14, .int .u32 a15]) (.int .i64 0)) w = .ok (.int .u32 a0) w := by
  kernel_rfl
attribute [local go_sem] field_R index_R
/-- The slice that the example builds. -/
theorem an_its {w : World} {b : Nat} (h : w.heap[b]? = some (.cells ((inv an1).toList ++ (inv an2).toList).toArray 52 (0, 0))) : Its w (some ⟨b, 0, none⟩) 2 anI := by
  refine ⟨.inr ⟨b, 0, rfl, lt_of_heap h, fun i hi => ?_⟩, fun i hi => ?_⟩
  · intro j v hv
    have hj : j < 11 := by have := (List.getElem?_eq_some_iff.1 hv).1; simpa [inv] using this
    rw [cell_of_row w b _ _ _ _ h, List.getElem?_toArray]
    rcases (show i = 0 ∨ i = 1 by omega) with rfl | rfl
    · rw [show 0 + 0 * 11 + j = j by omega, List.getElem?_append_left (show j < (inv an1).toList.length from hj)]
      exact hv
    · rw [show 0 + 1 * 11 + j = 11 + j by omega, List.getElem?_append_right (show (inv an1).toList.length ≤ 11 + j from by show 11 ≤ 11 + j; omega)]
      rw [show 11 + j - (inv an1).toList.length = j from by show 11 + j - 11 = j; omega]
      exact hv
  · rcases (show i = 0 ∨ i = 1 by omega) with rfl | rfl <;> decide

set_option maxRecDepth 100000 in
set_option maxHeartbeats 4000000 in
theorem anchor7_any (w : World) (hL : Code.Laid w) :
    Calls Tryz.prog 7 #[] w fun e w' => e = .returned (.bool true) ∧ Below w.heap.size w w' := by
  go_enter Tryz.func7, Tryz.ntmps7
  go_wp2_with fail
  have hA := heap_alloc_new w (.cells #[.int .i64 8, .int .i64 0, .int .i64 0, .int .i64 0, .int .i64 0, .int .i64 5, .int .i64 0, .int .i64 0, .int .i64 0, .int .i64 0, .int .i64 0, .int .i64 31, .int .i64 0, .int .i64 0, .int .i64 14, .int .i64 0, .int .i64 0, .int .i64 0, .int .i64 0, .int .i64 0, .int .i64 0, .int .i64 0] 52)
  have hB := (Below.refl w.heap.size w).alloc (Nat.le_refl _) (.cells #[.int .i64 8, .int .i64 0, .int .i64 0, .int .i64 0, .int .i64 0, .int .i64 5, .int .i64 0, .int .i64 0, .int .i64 0, .int .i64 0, .int .i64 0, .int .i64 31, .int .i64 0, .int .i64 0, .int .i64 14, .int .i64 0, .int .i64 0, .int .i64 0, .int .i64 0, .int .i64 0, .int .i64 0, .int .i64 0] 52)
  refine (built_any (some ⟨w.heap.size, 0, none⟩) 2 2 anI 0 _ (an_its hA) (by decide) (hL.below hB)).mono ?_
  rintro e w1 ⟨hb1, hp⟩
  rcases hp with ⟨hbad, _⟩ | ⟨_, C, m, F, R, q, fc, rfl, hx1, hI1, hle, _⟩
  · exact absurd ⟨by omega, by omega⟩ hbad
  have hB1 : Below w.heap.size w w1 := hB.trans (hb1.mono hB.size)
  have hsz := hB.size
  rw [an_len] at hI1
  generalize (w.alloc (.cells #[.int .i64 8, .int .i64 0, .int .i64 0, .int .i64 0, .int .i64 0, .int .i64 5, .int .i64 0, .int .i64 0, .int .i64 0, .int .i64 0, .int .i64 0, .int .i64 31, .int .i64 0, .int .i64 0, .int .i64 14, .int .i64 0, .int .i64 0, .int .i64 0, .int .i64 0, .int .i64 0, .int .i64 0, .int .i64 0] 52)) = w0 at *
  clear hA hb1 hB
  go_upto_region 2 with (refine wpList_store_rowTo rfl 35 (.tmp 2) (.tmp 11) rfl rfl _ (refC (.slice q (prgB anI 2).length fc) 0 (-1)) rfl rfl 35 (refC (.slice none 0 0) 0 0) (heap_alloc_last _ _) info_ref rfl (one_ref _ _ _ _ _) ?_; rw [World.setRow_alloc_new])
  (try simp only [Act.put, List.getElem_toArray, List.getElem_cons_zero, List.getElem_cons_succ, List.setIfInBounds_toArray, List.set_cons_zero, List.set_cons_succ])
  have hb2 := (Below.refl w1.heap.size w1).alloc (Nat.le_refl _) (.cells (refC (.slice q (prgB anI 2).length fc) 0 (-1)) 35)
  have hB2 : Below w.heap.size w _ := hB1.trans (hb2.mono hB1.size)
  have hx2 := hx1.below hb2
  have hI2 := hI1.below hb2
  generalize w1.alloc (.cells (refC (.slice q (prgB anI 2).length fc) 0 (-1)) 35) = w2 at *
  clear hx1 hI1 hb2 hB1
  go_upto_region 5 with (refine wpList_store_rowTo rfl 27 (.tmp 3) (.tmp 14) rfl rfl _ (stv zerS) rfl rfl 27 (stv zerS) (heap_alloc_last _ _) info_st rfl (one_st _) ?_; rw [World.setRow_alloc_new])
  (try simp only [Act.put, List.getElem_toArray, List.getElem_cons_zero, List.getElem_cons_succ, List.setIfInBounds_toArray, List.set_cons_zero, List.set_cons_succ])
  have hb3 := (Below.refl w2.heap.size w2).alloc (Nat.le_refl _) (.cells (stv zerS) 27)
  have hB3 : Below w.heap.size w _ := hB2.trans (hb3.mono hB2.size)
  have hx3 := hx2.below hb3
  have hI3 := hI2.below hb3
  have X3 := Sx.new w2 zerS
  have hw2 := hB2.size
  have hCb : C < w2.heap.size := hx2.lt
  have hmb := hI2.ltB
  have hFb := hI2.ltF
  have hRb := hI2.ltR
  generalize w2.alloc (.cells (stv zerS) 27) = w3 at *
  generalize w2.heap.size = b at *
  clear hx2 hI2 hb3 hB2
  have c14 := X3.cell (k := 14) rfl
  have c15 := X3.cell (k := 15) rfl
  have f14 := X3.free 14
  have f15 := X3.free 15
  have X4 := hide (show Sx ((w3.setCell ⟨b, 14, none⟩ (.int .u32 4294967295)).setCell ⟨b, 15, none⟩ (.int .u32 134217728)) b anS from (X3.set (s' := zerS.reg 14 4294967295) rfl).set rfl)
  have O4 := hide (((Off.refl [b] w3).set (p := ⟨b, 14, none⟩) (by simp) (.int .u32 4294967295)).set (p := ⟨b, 15, none⟩) (by simp) (.int .u32 134217728))
  clear X3
  go_upto_region 6 with fail
  (try simp only [Act.put, List.getElem_toArray, List.getElem_cons_zero, List.getElem_cons_succ, List.setIfInBounds_toArray, List.set_cons_zero, List.set_cons_succ])
  generalize (w3.setCell ⟨b, 14, none⟩ (.int .u32 4294967295)).setCell ⟨b, 15, none⟩ (.int .u32 134217728) = w4 at *
  have hx4 := hx3.off O4.out (by simp; omega)
  have hI4 := isOff hI3 O4.out (by simp; omega) (by simp; omega) (by simp; omega)
  have hB4 : Below w.heap.size w w4 := hB3.trans (O4.out.below hB3.size (by intro k hk; simp at hk; omega))
  clear c14 c15 f14 f15 hx3 hI3 O4 hB3
  go_wp2_with (refine wpList_load_row rfl 27 (.tmp 3) rfl b rfl 27 _ (0, 0) _ (unhide X4) Tryz.underlying27 rfl info_st ?_)
  refine (SetC_any hx4 anS).mono ?_
  rintro e w5 ⟨rfl, hx5, ho5⟩
  have hmC : m ≠ C := fun e => by have x := hI4.box; rw [e, show w4.heap[C]? = _ from hx4] at x; simp at x
  have hFC : F ≠ C := fun e => by have x := hI4.fl; rw [e, show w4.heap[C]? = _ from hx4] at x; simp at x
  have hRC : R ≠ C := fun e => by have x := hI4.ram; rw [e, show w4.heap[C]? = _ from hx4] at x; simp at x
  have hI5 := isOff hI4 ho5 (by simpa using hmC) (by simpa using hFC) (by simpa using hRC)
  have hB5 : Below w.heap.size w w5 := hB4.trans (ho5.below hB4.size (by intro k hk; simp at hk; omega))
  clear hx4 hI4 ho5 X4
  have hL5 := hL.below hB5
  have ntR := not_of hL (B := R) (by omega)
  have ntC := not_of hL (B := C) (by omega)
  have HR := hide (RunA_any (w := w5) (C := C) (an_line m) (by decide) hx5 hI5 anF_bd (by decide) hL5 ntR ntC)
  clear hx5 hI5
  go_wp2_with fail
  refine (unhide HR).mono ?_
  rintro e w6 ⟨rfl, hx6, hI6, ho6⟩
  have hB6 : Below w.heap.size w w6 := hB5.trans (ho6.below hB5.size (by intro k hk; simp at hk; omega))
  have hc := an_c
  clear HR hB5 ho6
  go_wp2_with (first
    | (go_at_call 23; refine (HaltC_any hx6).mono ?_; rintro e w7 ⟨rfl, hb7⟩)
    | (go_at_call 22; refine (CyclesC_any (hx6.below hb7)).mono ?_; rintro e w8 ⟨rfl, rfl⟩))
  have hB8 : Below w.heap.size w w8 := hB6.trans (hb7.mono hB6.size)
  refine (StateC_any (hx6.below hb7)).mono ?_
  rintro e w9 ⟨rfl, hb9⟩
  have hB9 : Below w.heap.size w w9 := hB8.trans (hb9.mono hB8.size)
  have h0 : (anM m 2).s.R 0 = 5 := hc.2.2.2
  dsimp only [stv]
  go_wp2_with fail
  go_ret
  exact ⟨by simp [h0], hB9⟩
end Go.Proofs.YtkkhofoaolgapaaGreatDoor.Core

/-! A state as an argument, by value: opened into its registers and flags. -/
set_option linter.unusedVariables false
namespace Go.Proofs.YtkkhofoaolgapaaGreatDoor.Core
open Go.ChangeShapes Go.WideShapes Go.RowKit Go.Deep Go.Proofs.YtkkhofoaolgapaaGreatDoor.Mem

theorem cells_st : Tryz.prog.cellsOf 27 = 20 := by kernel_rfl
theorem cells_r16 : Tryz.prog.cellsOf 25 = 16 := by kernel_rfl
theorem cells_u32 : Tryz.prog.cellsOf 24 = 1 := by kernel_rfl
/-- One cell of a list. -/
def valAt (cs : Array Value) (q : Nat) : Int := match cs[q]? with | some v => intOf v | none => 0
def stOf (cs : Array Value) : St := ⟨fun k => if k < 16 then valAt cs k else 0, valAt cs 16, valAt cs 17, valAt cs 18, valAt cs 19⟩

/-- A state's numbers are words. -/
structure Word1 (s : St) : Prop where
  r : ∀ k, 0 ≤ s.R k ∧ s.R k < 4294967296
  n : 0 ≤ s.n ∧ s.n < 4294967296
  z : 0 ≤ s.z ∧ s.z < 4294967296
  c : 0 ≤ s.c ∧ s.c < 4294967296
  v : 0 ≤ s.v ∧ s.v < 4294967296

set_option maxRecDepth 100000 in
theorem open_state {H : Type} {enc : TypeId × Value → H} {w : World} {base : Nat} {spare : Nat → Bool} {held : Bool} {r : Reach} {b0 : Nat} {v : Value} {d : DataW H} {p : List MemPlace}
    (hv : Value.okWide Tryz.prog w r b0 27 v) (h : DataW.Trod enc Tryz.prog w base spare held 27 v d p) :
    ∃ s : St, v = .agg (stv s) ∧ p = [] ∧ Word1 s := by
  obtain ⟨cs, rfl, hsz⟩ := okWide_struct Tryz.underlying27 hv
  obtain ⟨fuel, hf⟩ := h
  obtain ⟨xs, n, _, hx, hl, hlen, hfld⟩ := DataW.trod_struct Tryz.underlying27 hf
  rw [cells_st] at hsz
  have hlen' : xs.length = 5 := hlen
  have hg : ∀ i, i < 5 → ∃ x, xs[i]? = some x := fun i hi => ⟨xs[i], List.getElem?_eq_getElem (by omega)⟩
  -- the array
  obtain ⟨x0, g0⟩ := hg 0 (by decide)
  have t0 : DataW.trod enc Tryz.prog w base spare held n 25 (((Value.agg cs).cells.toList.drop 0).take (Tryz.prog.cellsOf 25)) = xs[0]? := hfld 0 _ rfl
  rw [g0] at t0
  obtain ⟨ys, m, _, hy, _, hyl, hye⟩ := DataW.trod_array Tryz.underlying25 t0
  have k0 : ∀ q, q < 16 → ∃ z, cs[q]? = some (.int .u32 z) ∧ (Lit.int .u32 z).wf = true ∧ ys[q]? = some (.lit (.int .u32 z), []) := by
    intro q hq
    have t := hye q hq
    rw [List.getElem?_eq_getElem (by omega)] at t
    obtain ⟨z, e1, e2, e3⟩ := DataW.trod_int Tryz.underlying24 t
    refine ⟨z, ?_, e3, by rw [List.getElem?_eq_getElem (by omega), e2]⟩
    rw [cells_u32, cells_r16] at e1
    have := congrArg (·[0]?) e1
    simpa [Value.cells, List.getElem?_take, List.getElem?_drop, hq] using this
  have k1 : ∀ i, 1 ≤ i → i < 5 → ∃ z, cs[15 + i]? = some (.int .u32 z) ∧ (Lit.int .u32 z).wf = true ∧ xs[i]? = some (.lit (.int .u32 z), []) := by
    intro i h1 h5
    obtain ⟨x, g⟩ := hg i h5
    rcases (show i = 1 ∨ i = 2 ∨ i = 3 ∨ i = 4 by omega) with rfl | rfl | rfl | rfl
    · have t : DataW.trod enc Tryz.prog w base spare held n 24 (((Value.agg cs).cells.toList.drop 16).take (Tryz.prog.cellsOf 24)) = xs[1]? := hfld 1 _ rfl
      rw [g] at t
      obtain ⟨z, e1, e2, e3⟩ := DataW.trod_int Tryz.underlying24 t
      refine ⟨z, ?_, e3, by rw [g, e2]⟩
      rw [cells_u32] at e1
      have := congrArg (·[0]?) e1
      simpa [Value.cells, List.getElem?_take, List.getElem?_drop] using this
    · have t : DataW.trod enc Tryz.prog w base spare held n 24 (((Value.agg cs).cells.toList.drop 17).take (Tryz.prog.cellsOf 24)) = xs[2]? := hfld 2 _ rfl
      rw [g] at t
      obtain ⟨z, e1, e2, e3⟩ := DataW.trod_int Tryz.underlying24 t
      refine ⟨z, ?_, e3, by rw [g, e2]⟩
      rw [cells_u32] at e1
      have := congrArg (·[0]?) e1
      simpa [Value.cells, List.getElem?_take, List.getElem?_drop] using this
    · have t : DataW.trod enc Tryz.prog w base spare held n 24 (((Value.agg cs).cells.toList.drop 18).take (Tryz.prog.cellsOf 24)) = xs[3]? := hfld 3 _ rfl
      rw [g] at t
      obtain ⟨z, e1, e2, e3⟩ := DataW.trod_int Tryz.underlying24 t
      refine ⟨z, ?_, e3, by rw [g, e2]⟩
      rw [cells_u32] at e1
      have := congrArg (·[0]?) e1
      simpa [Value.cells, List.getElem?_take, List.getElem?_drop] using this
    · have t : DataW.trod enc Tryz.prog w base spare held n 24 (((Value.agg cs).cells.toList.drop 19).take (Tryz.prog.cellsOf 24)) = xs[4]? := hfld 4 _ rfl
      rw [g] at t
      obtain ⟨z, e1, e2, e3⟩ := DataW.trod_int Tryz.underlying24 t
      refine ⟨z, ?_, e3, by rw [g, e2]⟩
      rw [cells_u32] at e1
      have := congrArg (·[0]?) e1
      simpa [Value.cells, List.getElem?_take, List.getElem?_drop] using this
  have key : ∀ q, q < 20 → ∃ z, cs[q]? = some (.int .u32 z) ∧ (Lit.int .u32 z).wf = true := by
    intro q hq
    by_cases h16 : q < 16
    · obtain ⟨z, a, b, _⟩ := k0 q h16; exact ⟨z, a, b⟩
    · obtain ⟨z, a, b, _⟩ := k1 (q - 15) (by omega) (by omega)
      rw [show 15 + (q - 15) = q by omega] at a
      exact ⟨z, a, b⟩
  have kv : ∀ q, q < 20 → cs[q]? = some (.int .u32 (valAt cs q)) ∧ 0 ≤ valAt cs q ∧ valAt cs q < 4294967296 := by
    intro q hq
    obtain ⟨z, a, b⟩ := key q hq
    have e : valAt cs q = z := by unfold valAt; rw [a]; rfl
    rw [e]
    have := bounds_u32 b
    exact ⟨a, by omega, by omega⟩
  refine ⟨stOf cs, ?_, ?_, ⟨?_, (kv 16 (by decide)).2, (kv 17 (by decide)).2, (kv 18 (by decide)).2, (kv 19 (by decide)).2⟩⟩
  · congr 1
    apply Array.ext_getElem?
    intro q
    by_cases hq : q < 20
    · rw [(kv q hq).1]
      rcases (show q = 0 ∨ q = 1 ∨ q = 2 ∨ q = 3 ∨ q = 4 ∨ q = 5 ∨ q = 6 ∨ q = 7 ∨ q = 8 ∨ q = 9 ∨ q = 10 ∨ q = 11 ∨ q = 12 ∨ q = 13 ∨ q = 14 ∨ q = 15 ∨ q = 16 ∨ q = 17 ∨ q = 18 ∨ q = 19 by omega) with rfl | rfl | rfl | rfl | rfl | rfl | rfl | rfl | rfl | rfl | rfl | rfl | rfl | rfl | rfl | rfl | rfl | rfl | rfl | rfl <;> rfl
    · rw [Array.getElem?_eq_none (by omega), Array.getElem?_eq_none (show (stv (stOf cs)).size ≤ q from by show 20 ≤ q; omega)]
  · have hp := congrArg Prod.snd hx
    simp only at hp
    rw [hp, List.flatMap_eq_nil_iff]
    intro y hy'
    obtain ⟨i, hi, rfl⟩ := List.mem_iff_getElem.1 hy'
    by_cases h0 : i = 0
    · subst h0
      rw [List.getElem?_eq_getElem hi, Option.some.injEq] at g0
      rw [g0, hy]
      show ys.flatMap (·.2) = []
      rw [List.flatMap_eq_nil_iff]
      intro u hu
      obtain ⟨j, hj, rfl⟩ := List.mem_iff_getElem.1 hu
      obtain ⟨z, _, _, e⟩ := k0 j (by omega)
      rw [List.getElem?_eq_getElem hj, Option.some.injEq] at e
      rw [e]
    · obtain ⟨z, _, _, e⟩ := k1 i (by omega) (by omega)
      rw [List.getElem?_eq_getElem hi, Option.some.injEq] at e
      rw [e]
  · intro k
    show 0 ≤ (if k < 16 then valAt cs k else 0) ∧ (if k < 16 then valAt cs k else 0) < 4294967296
    split
    · exact (kv k (by omega)).2
    · omega
end Go.Proofs.YtkkhofoaolgapaaGreatDoor.Core

/-! The document's conditions: its Holds. -/
set_option linter.unusedVariables false
set_option linter.unusedSimpArgs false
namespace Go.Proofs.YtkkhofoaolgapaaGreatDoor.Core
open Go.RowKit Go.Proofs.YtkkhofoaolgapaaGreatDoor.Mem Go.Proofs.YtkkhofoaolgapaaGreatDoor.Alu

/-- The document's list of conditions. -/
def arrB (n z c v : Int) : Array Value := #[.bool (z == 1), .bool (z != 1), .bool (c == 1), .bool (c != 1), .bool (n == 1), .bool (n != 1), .bool (v == 1), .bool (v != 1), .bool (c == 1 && z == 0), .bool (c == 0 || z == 1), .bool (n == v), .bool (n != v), .bool (z == 0 && n == v), .bool (z == 1 || n != v)]
def zer14 : Array Value := Array.replicate 14 (.bool false)
def is01 (x : Int) : Prop := x = 0 ∨ x = 1
theorem arr_at (R : Nat → Int) (n z c v : Int) (hn : is01 n) (hz : is01 z) (hc : is01 c) (hv : is01 v) (k : Nat) (hk : k < 14) : (arrB n z c v)[k]? = some (.bool (holdsB ⟨R, n, z, c, v⟩ k)) := by
  rcases hn with rfl | rfl <;> rcases hz with rfl | rfl <;> rcases hc with rfl | rfl <;> rcases hv with rfl | rfl <;>
    (rcases (show k = 0 ∨ k = 1 ∨ k = 2 ∨ k = 3 ∨ k = 4 ∨ k = 5 ∨ k = 6 ∨ k = 7 ∨ k = 8 ∨ k = 9 ∨ k = 10 ∨ k = 11 ∨ k = 12 ∨ k = 13 by omega) with rfl | rfl | rfl | rfl | rfl | rfl | rfl | rfl | rfl | rfl | rfl | rfl | rfl | rfl <;> rfl)
theorem info_14 : (Tryz.prog.info? 107).map (·.size) = some 14 := by kernel_rfl
theorem one_14 (n z c v : Int) : (arrB n z c v).all (·.oneCell') = true := by simp [arrB, Value.oneCell']

set_option maxRecDepth 100000 in
set_option maxHeartbeats 4000000 in
theorem refH_00 (R : Nat → Int) (n v : Int) (hn : is01 n) (hv : is01 v) (k : Nat) (hk : k < 14) (w : World) :
    Calls Tryz.prog 19 #[.agg (stv ⟨R, n, 0, 0, v⟩), .int .i64 k] w fun e w' => e = .returned (.bool (holdsB ⟨R, n, 0, 0, v⟩ k)) ∧ Below w.heap.size w w' := by
  have hb := (Below.refl w.heap.size w).alloc (Nat.le_refl _) (.cells (stv ⟨R, n, 0, 0, v⟩) 33)
  have hx : (w.alloc (.cells (stv ⟨R, n, 0, 0, v⟩) 33)).heap[w.heap.size]? = some (.cells (stv ⟨R, n, 0, 0, v⟩) 33 (0, 0)) := heap_alloc_new _ _
  have c16 : (w.alloc (.cells (stv ⟨R, n, 0, 0, v⟩) 33)).cell? ⟨w.heap.size, 16, none⟩ = some (.int .u32 n) := by rw [cell_of_row _ _ _ _ _ _ hx]; rfl
  have c17 : (w.alloc (.cells (stv ⟨R, n, 0, 0, v⟩) 33)).cell? ⟨w.heap.size, 17, none⟩ = some (.int .u32 0) := by rw [cell_of_row _ _ _ _ _ _ hx]; rfl
  have c18 : (w.alloc (.cells (stv ⟨R, n, 0, 0, v⟩) 33)).cell? ⟨w.heap.size, 18, none⟩ = some (.int .u32 0) := by rw [cell_of_row _ _ _ _ _ _ hx]; rfl
  have c19 : (w.alloc (.cells (stv ⟨R, n, 0, 0, v⟩) 33)).cell? ⟨w.heap.size, 19, none⟩ = some (.int .u32 v) := by rw [cell_of_row _ _ _ _ _ _ hx]; rfl
  have hsz := hb.size
  replace hb := hide hb
  clear hx
  have hk' : (k : Int) < 14 := by omega
  have h0 : ¬ (k : Int) < 0 := by omega
  have h13 : ¬ (13 : Int) < k := by omega
  have hat := arr_at R n 0 0 v hn (by unfold is01; omega) (by unfold is01; omega) hv k hk
  generalize hH : holdsB ⟨R, n, 0, 0, v⟩ k = H at *
  clear hH hn hv
  replace hat := hide hat
  go_enter Tryz.func19, Tryz.ntmps19
  go_wp2_with (refine wpList_store_rowTo rfl 107 (.tmp 5) (.tmp 82) rfl rfl _ (arrB n 0 0 v) rfl rfl 107 zer14 (heap_alloc_last _ _) info_14 rfl (one_14 _ _ _ _) ?_; rw [World.setRow_alloc_new])
  refine bodyPost_ret (v := .bool H) ?_ rfl ⟨rfl, hb.out.alloc hb.out.size _⟩
  have hat := hat.out
  simp only [arrB] at hat
  simp [results, Tryz.results19]
  simpa [hk] using hat

set_option maxRecDepth 100000 in
set_option maxHeartbeats 4000000 in
theorem refH_01 (R : Nat → Int) (n v : Int) (hn : is01 n) (hv : is01 v) (k : Nat) (hk : k < 14) (w : World) :
    Calls Tryz.prog 19 #[.agg (stv ⟨R, n, 0, 1, v⟩), .int .i64 k] w fun e w' => e = .returned (.bool (holdsB ⟨R, n, 0, 1, v⟩ k)) ∧ Below w.heap.size w w' := by
  have hb := (Below.refl w.heap.size w).alloc (Nat.le_refl _) (.cells (stv ⟨R, n, 0, 1, v⟩) 33)
  have hx : (w.alloc (.cells (stv ⟨R, n, 0, 1, v⟩) 33)).heap[w.heap.size]? = some (.cells (stv ⟨R, n, 0, 1, v⟩) 33 (0, 0)) := heap_alloc_new _ _
  have c16 : (w.alloc (.cells (stv ⟨R, n, 0, 1, v⟩) 33)).cell? ⟨w.heap.size, 16, none⟩ = some (.int .u32 n) := by rw [cell_of_row _ _ _ _ _ _ hx]; rfl
  have c17 : (w.alloc (.cells (stv ⟨R, n, 0, 1, v⟩) 33)).cell? ⟨w.heap.size, 17, none⟩ = some (.int .u32 0) := by rw [cell_of_row _ _ _ _ _ _ hx]; rfl
  have c18 : (w.alloc (.cells (stv ⟨R, n, 0, 1, v⟩) 33)).cell? ⟨w.heap.size, 18, none⟩ = some (.int .u32 1) := by rw [cell_of_row _ _ _ _ _ _ hx]; rfl
  have c19 : (w.alloc (.cells (stv ⟨R, n, 0, 1, v⟩) 33)).cell? ⟨w.heap.size, 19, none⟩ = some (.int .u32 v) := by rw [cell_of_row _ _ _ _ _ _ hx]; rfl
  have hsz := hb.size
  replace hb := hide hb
  clear hx
  have hk' : (k : Int) < 14 := by omega
  have h0 : ¬ (k : Int) < 0 := by omega
  have h13 : ¬ (13 : Int) < k := by omega
  have hat := arr_at R n 0 1 v hn (by unfold is01; omega) (by unfold is01; omega) hv k hk
  generalize hH : holdsB ⟨R, n, 0, 1, v⟩ k = H at *
  clear hH hn hv
  replace hat := hide hat
  go_enter Tryz.func19, Tryz.ntmps19
  go_wp2_with (refine wpList_store_rowTo rfl 107 (.tmp 5) (.tmp 82) rfl rfl _ (arrB n 0 1 v) rfl rfl 107 zer14 (heap_alloc_last _ _) info_14 rfl (one_14 _ _ _ _) ?_; rw [World.setRow_alloc_new])
  refine bodyPost_ret (v := .bool H) ?_ rfl ⟨rfl, hb.out.alloc hb.out.size _⟩
  have hat := hat.out
  simp only [arrB] at hat
  simp [results, Tryz.results19]
  simpa [hk] using hat

set_option maxRecDepth 100000 in
set_option maxHeartbeats 4000000 in
theorem refH_10 (R : Nat → Int) (n v : Int) (hn : is01 n) (hv : is01 v) (k : Nat) (hk : k < 14) (w : World) :
    Calls Tryz.prog 19 #[.agg (stv ⟨R, n, 1, 0, v⟩), .int .i64 k] w fun e w' => e = .returned (.bool (holdsB ⟨R, n, 1, 0, v⟩ k)) ∧ Below w.heap.size w w' := by
  have hb := (Below.refl w.heap.size w).alloc (Nat.le_refl _) (.cells (stv ⟨R, n, 1, 0, v⟩) 33)
  have hx : (w.alloc (.cells (stv ⟨R, n, 1, 0, v⟩) 33)).heap[w.heap.size]? = some (.cells (stv ⟨R, n, 1, 0, v⟩) 33 (0, 0)) := heap_alloc_new _ _
  have c16 : (w.alloc (.cells (stv ⟨R, n, 1, 0, v⟩) 33)).cell? ⟨w.heap.size, 16, none⟩ = some (.int .u32 n) := by rw [cell_of_row _ _ _ _ _ _ hx]; rfl
  have c17 : (w.alloc (.cells (stv ⟨R, n, 1, 0, v⟩) 33)).cell? ⟨w.heap.size, 17, none⟩ = some (.int .u32 1) := by rw [cell_of_row _ _ _ _ _ _ hx]; rfl
  have c18 : (w.alloc (.cells (stv ⟨R, n, 1, 0, v⟩) 33)).cell? ⟨w.heap.size, 18, none⟩ = some (.int .u32 0) := by rw [cell_of_row _ _ _ _ _ _ hx]; rfl
  have c19 : (w.alloc (.cells (stv ⟨R, n, 1, 0, v⟩) 33)).cell? ⟨w.heap.size, 19, none⟩ = some (.int .u32 v) := by rw [cell_of_row _ _ _ _ _ _ hx]; rfl
  have hsz := hb.size
  replace hb := hide hb
  clear hx
  have hk' : (k : Int) < 14 := by omega
  have h0 : ¬ (k : Int) < 0 := by omega
  have h13 : ¬ (13 : Int) < k := by omega
  have hat := arr_at R n 1 0 v hn (by unfold is01; omega) (by unfold is01; omega) hv k hk
  generalize hH : holdsB ⟨R, n, 1, 0, v⟩ k = H at *
  clear hH hn hv
  replace hat := hide hat
  go_enter Tryz.func19, Tryz.ntmps19
  go_wp2_with (refine wpList_store_rowTo rfl 107 (.tmp 5) (.tmp 82) rfl rfl _ (arrB n 1 0 v) rfl rfl 107 zer14 (heap_alloc_last _ _) info_14 rfl (one_14 _ _ _ _) ?_; rw [World.setRow_alloc_new])
  refine bodyPost_ret (v := .bool H) ?_ rfl ⟨rfl, hb.out.alloc hb.out.size _⟩
  have hat := hat.out
  simp only [arrB] at hat
  simp [results, Tryz.results19]
  simpa [hk] using hat

set_option maxRecDepth 100000 in
set_option maxHeartbeats 4000000 in
theorem refH_11 (R : Nat → Int) (n v : Int) (hn : is01 n) (hv : is01 v) (k : Nat) (hk : k < 14) (w : World) :
    Calls Tryz.prog 19 #[.agg (stv ⟨R, n, 1, 1, v⟩), .int .i64 k] w fun e w' => e = .returned (.bool (holdsB ⟨R, n, 1, 1, v⟩ k)) ∧ Below w.heap.size w w' := by
  have hb := (Below.refl w.heap.size w).alloc (Nat.le_refl _) (.cells (stv ⟨R, n, 1, 1, v⟩) 33)
  have hx : (w.alloc (.cells (stv ⟨R, n, 1, 1, v⟩) 33)).heap[w.heap.size]? = some (.cells (stv ⟨R, n, 1, 1, v⟩) 33 (0, 0)) := heap_alloc_new _ _
  have c16 : (w.alloc (.cells (stv ⟨R, n, 1, 1, v⟩) 33)).cell? ⟨w.heap.size, 16, none⟩ = some (.int .u32 n) := by rw [cell_of_row _ _ _ _ _ _ hx]; rfl
  have c17 : (w.alloc (.cells (stv ⟨R, n, 1, 1, v⟩) 33)).cell? ⟨w.heap.size, 17, none⟩ = some (.int .u32 1) := by rw [cell_of_row _ _ _ _ _ _ hx]; rfl
  have c18 : (w.alloc (.cells (stv ⟨R, n, 1, 1, v⟩) 33)).cell? ⟨w.heap.size, 18, none⟩ = some (.int .u32 1) := by rw [cell_of_row _ _ _ _ _ _ hx]; rfl
  have c19 : (w.alloc (.cells (stv ⟨R, n, 1, 1, v⟩) 33)).cell? ⟨w.heap.size, 19, none⟩ = some (.int .u32 v) := by rw [cell_of_row _ _ _ _ _ _ hx]; rfl
  have hsz := hb.size
  replace hb := hide hb
  clear hx
  have hk' : (k : Int) < 14 := by omega
  have h0 : ¬ (k : Int) < 0 := by omega
  have h13 : ¬ (13 : Int) < k := by omega
  have hat := arr_at R n 1 1 v hn (by unfold is01; omega) (by unfold is01; omega) hv k hk
  generalize hH : holdsB ⟨R, n, 1, 1, v⟩ k = H at *
  clear hH hn hv
  replace hat := hide hat
  go_enter Tryz.func19, Tryz.ntmps19
  go_wp2_with (refine wpList_store_rowTo rfl 107 (.tmp 5) (.tmp 82) rfl rfl _ (arrB n 1 1 v) rfl rfl 107 zer14 (heap_alloc_last _ _) info_14 rfl (one_14 _ _ _ _) ?_; rw [World.setRow_alloc_new])
  refine bodyPost_ret (v := .bool H) ?_ rfl ⟨rfl, hb.out.alloc hb.out.size _⟩
  have hat := hat.out
  simp only [arrB] at hat
  simp [results, Tryz.results19]
  simpa [hk] using hat


theorem refHolds_any (R : Nat → Int) (n z c v : Int) (hn : is01 n) (hz : is01 z) (hc : is01 c) (hv : is01 v) (cd : Int) (w : World) :
    Calls Tryz.prog 19 #[.agg (stv ⟨R, n, z, c, v⟩), .int .i64 cd] w fun e w' => e = .returned (.bool (holdsB ⟨R, n, z, c, v⟩ cd)) ∧ Below w.heap.size w w' := by
  by_cases hcd : 0 ≤ cd ∧ cd ≤ 13
  · obtain ⟨k, rfl⟩ := Int.eq_ofNat_of_zero_le hcd.1
    have hk : k < 14 := by omega
    rcases hz with rfl | rfl <;> rcases hc with rfl | rfl
    · exact refH_00 R n v hn hv k hk w
    · exact refH_01 R n v hn hv k hk w
    · exact refH_10 R n v hn hv k hk w
    · exact refH_11 R n v hn hv k hk w
  · have hF : holdsB ⟨R, n, z, c, v⟩ cd = false := by unfold holdsB; rw [decide_eq_false hcd]; rfl
    rw [hF]
    have hb := (Below.refl w.heap.size w).alloc (Nat.le_refl _) (.cells (stv ⟨R, n, z, c, v⟩) 33)
    by_cases h0 : cd < 0
    · go_enter Tryz.func19, Tryz.ntmps19
      go_wp2_with fail
      go_ret
      exact ⟨rfl, hb⟩
    · have h13 : 13 < cd := by omega
      go_enter Tryz.func19, Tryz.ntmps19
      go_wp2_with fail
      go_ret
      exact ⟨rfl, hb⟩
end Go.Proofs.YtkkhofoaolgapaaGreatDoor.Core

namespace Go.Proofs.YtkkhofoaolgapaaGreatDoor.coreHolds
open Go.ChangeShapes Go.WideShapes Go.ChangeAt Go.RowKit
set_option linter.unusedVariables false

theorem own : ownKnob Tryz.prog.godebug = none := by kernel_rfl
theorem laidOut : laidOutB Tryz.prog = true := by kernel_rfl
open Go.Proofs.YtkkhofoaolgapaaGreatDoor.Core Go.Proofs.YtkkhofoaolgapaaGreatDoor.Mem Go.Proofs.YtkkhofoaolgapaaGreatDoor.Alu
theorem is01_b (x : Int) : is01 (b01 x) := by unfold is01 b01; split <;> omega
theorem flip (R : Nat → Int) (n z c v : Int) (hn : is01 n) (hz : is01 z) (hc : is01 c) (hv : is01 v) (cd : Int) (h0 : 0 ≤ cd) (h1 : cd ≤ 13) : (holdsB ⟨R, n, z, c, v⟩ cd != holdsB ⟨R, n, z, c, v⟩ (bits .xor .i64 cd 1)) = true := by
  obtain ⟨k, rfl⟩ := Int.eq_ofNat_of_zero_le h0
  rcases hn with rfl | rfl <;> rcases hz with rfl | rfl <;> rcases hc with rfl | rfl <;> rcases hv with rfl | rfl <;>
    (rcases (show k = 0 ∨ k = 1 ∨ k = 2 ∨ k = 3 ∨ k = 4 ∨ k = 5 ∨ k = 6 ∨ k = 7 ∨ k = 8 ∨ k = 9 ∨ k = 10 ∨ k = 11 ∨ k = 12 ∨ k = 13 by omega) with rfl | rfl | rfl | rfl | rfl | rfl | rfl | rfl | rfl | rfl | rfl | rfl | rfl | rfl <;> rfl)
theorem is01_min (x : Int) (h : 0 ≤ x) : is01 (if 1 < x then 1 else x) := by unfold is01; split <;> omega

set_option maxHeartbeats 4000000 in
theorem walk (s0 : Core.St) (a1 : Int) (w : World) (w0 : Core.Word1 s0) (w1 : (Lit.int .i64 a1).wf = true) (hL : Code.Laid w) :
    Calls Tryz.prog 5 #[.agg (Core.stv s0), .int .i64 a1] w fun e w' => e = .returned (.bool true) ∧ Below w.heap.size w w' := by
  have hb := (Below.refl w.heap.size w).alloc (Nat.le_refl _) (.cells (stv s0) 27)
  have hx := Sx.new w s0
  go_enter Tryz.func5, Tryz.ntmps5
  go_wp2_with fail
  refine (anchor7_any _ (hL.below hb)).mono ?_
  rintro e w1 ⟨rfl, hb1⟩
  have X1 : Sx w1 w.heap.size s0 := (hb1.block _ (by simp)).trans hx
  have B1 : Below w.heap.size w w1 := hb.trans (hb1.mono hb.size)
  have c16 : w1.cell? ⟨w.heap.size, 16, none⟩ = some (.int .u32 s0.n) := X1.cell rfl
  have c17 : w1.cell? ⟨w.heap.size, 17, none⟩ = some (.int .u32 s0.z) := X1.cell rfl
  have c18 : w1.cell? ⟨w.heap.size, 18, none⟩ = some (.int .u32 s0.c) := X1.cell rfl
  have c19 : w1.cell? ⟨w.heap.size, 19, none⟩ = some (.int .u32 s0.v) := X1.cell rfl
  have f16 := X1.free 16
  have f17 := X1.free 17
  have f18 := X1.free 18
  have f19 := X1.free 19
  replace X1 := hide X1
  clear hx hb hb1
  generalize hS : w.heap.size = S at *
  have X4 := hide (show Sx ((((w1.setCell ⟨S, 16, none⟩ (.int .u32 (if 1 < s0.n then 1 else s0.n))).setCell ⟨S, 17, none⟩ (.int .u32 (if 1 < s0.z then 1 else s0.z))).setCell ⟨S, 18, none⟩ (.int .u32 (if 1 < s0.c then 1 else s0.c))).setCell ⟨S, 19, none⟩ (.int .u32 (if 1 < s0.v then 1 else s0.v))) S ⟨s0.R, if 1 < s0.n then 1 else s0.n, if 1 < s0.z then 1 else s0.z, if 1 < s0.c then 1 else s0.c, if 1 < s0.v then 1 else s0.v⟩ from ((((show Sx w1 S s0 from X1.out).set (s' := ⟨s0.R, if 1 < s0.n then 1 else s0.n, s0.z, s0.c, s0.v⟩) rfl).set (s' := ⟨s0.R, if 1 < s0.n then 1 else s0.n, if 1 < s0.z then 1 else s0.z, s0.c, s0.v⟩) rfl).set (s' := ⟨s0.R, if 1 < s0.n then 1 else s0.n, if 1 < s0.z then 1 else s0.z, if 1 < s0.c then 1 else s0.c, s0.v⟩) rfl).set rfl)
  have O4 := hide (((((Core.Off.refl [S] w1).set (p := ⟨S, 16, none⟩) (by simp) (.int .u32 (if 1 < s0.n then 1 else s0.n))).set (p := ⟨S, 17, none⟩) (by simp) (.int .u32 (if 1 < s0.z then 1 else s0.z))).set (p := ⟨S, 18, none⟩) (by simp) (.int .u32 (if 1 < s0.c then 1 else s0.c))).set (p := ⟨S, 19, none⟩) (by simp) (.int .u32 (if 1 < s0.v then 1 else s0.v)))
  have hn := is01_min s0.n w0.n.1
  have hz := is01_min s0.z w0.z.1
  have hc := is01_min s0.c w0.c.1
  have hv := is01_min s0.v w0.v.1
  replace hn := hide hn
  replace hz := hide hz
  replace hc := hide hc
  replace hv := hide hv
  clear w0 X1
  go_upto_region 4 with fail
  clear c16 c17 c18 c19 f16 f17 f18 f19
  generalize hw4 : (((w1.setCell ⟨S, 16, none⟩ (.int .u32 (if 1 < s0.n then 1 else s0.n))).setCell ⟨S, 17, none⟩ (.int .u32 (if 1 < s0.z then 1 else s0.z))).setCell ⟨S, 18, none⟩ (.int .u32 (if 1 < s0.c then 1 else s0.c))).setCell ⟨S, 19, none⟩ (.int .u32 (if 1 < s0.v then 1 else s0.v)) = w4 at *
  clear hw4
  generalize (if 1 < s0.n then 1 else s0.n) = N at *
  generalize (if 1 < s0.z then 1 else s0.z) = Z at *
  generalize (if 1 < s0.c then 1 else s0.c) = C at *
  generalize (if 1 < s0.v then 1 else s0.v) = V at *
  have hl4 : S < w4.heap.size := lt_of_heap X4.out
  have B4 : Below S w w4 := B1.trans (O4.out.below (by have := B1.size; omega) (by intro k hk; simp at hk; omega))
  clear O4 B1
  go_wp2_with (refine wpList_load_row rfl 27 (.tmp 2) rfl S rfl 27 _ (0, 0) _ (unhide X4) Tryz.underlying27 rfl info_st ?_)
  refine (Holds_any ⟨s0.R, N, Z, C, V⟩ a1 _).mono ?_
  rintro e w5 ⟨rfl, hb5⟩
  have X5 := hide ((hb5.block S hl4).trans X4.out)
  have B5 : Below S w w5 := B4.trans (hb5.mono (by omega))
  clear hb5 B4 X4 hl4
  have hl5 : S < w5.heap.size := lt_of_heap X5.out
  go_wp2_with (refine wpList_load_row rfl 27 (.tmp 2) rfl S rfl 27 _ (0, 0) _ (unhide X5) Tryz.underlying27 rfl info_st ?_)
  refine (refHolds_any s0.R N Z C V hn.out hz.out hc.out hv.out a1 _).mono ?_
  rintro e w6 ⟨rfl, hb6⟩
  have X6 := hide ((hb6.block S hl5).trans X5.out)
  have B6 : Below S w w6 := B5.trans (hb6.mono (by omega))
  clear hb6 B5 X5 hl5
  have hl6 : S < w6.heap.size := lt_of_heap X6.out
  have HF := hide (flip s0.R N Z C V hn.out hz.out hc.out hv.out a1)
  by_cases h0 : a1 < 0
  · go_wp2_with fail
    go_ret
    exact ⟨rfl, by rw [hS]; exact B6⟩
  · by_cases h13 : 13 < a1
    · go_wp2_with fail
      go_ret
      exact ⟨rfl, by rw [hS]; exact B6⟩
    · have HG := hide (HF.out (by omega) (by omega))
      clear HF
      have e0 : decide (a1 < 0) = false := decide_eq_false h0
      have e13 : decide (13 < a1) = false := decide_eq_false h13
      clear h0 h13
      set_option maxRecDepth 100000 in
      go_wp2_with (first | rw [e0] | rw [e13] | (refine BigFrame.wpList_want rfl (fun K hK => ?_); refine wp_load_row 27 (.tmp 2) rfl S rfl 27 _ (0, 0) _ (unhide X6) Tryz.underlying27 rfl info_st ?_; refine hK _ _ ?_))
      refine (Holds_any ⟨s0.R, N, Z, C, V⟩ _ _).mono ?_
      rintro e w7 ⟨rfl, hb7⟩
      go_wp2_with fail
      go_ret
      exact ⟨Alu.ret_bool (by first | exact HG.out | simpa using HG.out | (rw [e0, e13]; simpa using HG.out)), by rw [hS]; exact B6.trans (hb7.mono (by omega))⟩

theorem laid_met (os : Os) : laidMet Tryz.prog Rows.coreHoldsRow.laid ((Code.laidWorld Tryz.prog os).forCall (fun _ _ => 0) ⟨#[], #[.agg #[.int .u32 0, .int .u32 0, .int .u32 0, .int .u32 0, .int .u32 0, .int .u32 0, .int .u32 0, .int .u32 0, .int .u32 0, .int .u32 0, .int .u32 0, .int .u32 0, .int .u32 0, .int .u32 0, .int .u32 0, .int .u32 0, .int .u32 0, .int .u32 0, .int .u32 0, .int .u32 0], .int .i64 0], []⟩).memory :=
  laidMet_of_run' 8 (by kernel_rfl) (by kernel_rfl)
theorem reads (os : Os) {H : Type} (enc : TypeId × Value → H) : ∃ places, DataW.whole enc Tryz.prog ((Code.laidWorld Tryz.prog os).forCall (fun _ _ => 0) ⟨#[], #[.agg #[.int .u32 0, .int .u32 0, .int .u32 0, .int .u32 0, .int .u32 0, .int .u32 0, .int .u32 0, .int .u32 0, .int .u32 0, .int .u32 0, .int .u32 0, .int .u32 0, .int .u32 0, .int .u32 0, .int .u32 0, .int .u32 0, .int .u32 0, .int .u32 0, .int .u32 0, .int .u32 0], .int .i64 0], []⟩).memory Tryz.f5.params.toList Rows.coreHoldsSpec.vars false (#[.agg #[.int .u32 0, .int .u32 0, .int .u32 0, .int .u32 0, .int .u32 0, .int .u32 0, .int .u32 0, .int .u32 0, .int .u32 0, .int .u32 0, .int .u32 0, .int .u32 0, .int .u32 0, .int .u32 0, .int .u32 0, .int .u32 0, .int .u32 0, .int .u32 0, .int .u32 0, .int .u32 0], .int .i64 0] : Array Value).toList 8 = some ([(.agg [.agg [.lit (.int .u32 0), .lit (.int .u32 0), .lit (.int .u32 0), .lit (.int .u32 0), .lit (.int .u32 0), .lit (.int .u32 0), .lit (.int .u32 0), .lit (.int .u32 0), .lit (.int .u32 0), .lit (.int .u32 0), .lit (.int .u32 0), .lit (.int .u32 0), .lit (.int .u32 0), .lit (.int .u32 0), .lit (.int .u32 0), .lit (.int .u32 0)], .lit (.int .u32 0), .lit (.int .u32 0), .lit (.int .u32 0), .lit (.int .u32 0)]), (.lit (.int .i64 0))], [], places) :=
  ⟨[], by kernel_rfl⟩

set_option maxRecDepth 100000 in
theorem lifted (os : Os) (started : os.Started) (H : Type) (enc : TypeId × Value → H) (F : Stop.Interp) :
    ReturnsInHanded {} Tryz.checked os 5 .any ((OpenSpec.ofChange Rows.coreHoldsSpec).preRow enc Tryz.prog Tryz.f5 Rows.coreHoldsRow.domain false Rows.coreHoldsRow.laid) (((OpenSpec.ofChange Rows.coreHoldsSpec).at F).post enc Tryz.prog Tryz.f5 false true false false) := by
  obtain ⟨places, hx⟩ := reads os enc
  refine returnsInHanded_of_row (C := Tryz.checked) (s := OpenSpec.ofChange Rows.coreHoldsSpec) own started (by kernel_rfl) Tryz.func5
    (witness_row_at (enc := enc) (C := Tryz.checked) false (Code.laidWorld Tryz.prog os) #[.agg #[.int .u32 0, .int .u32 0, .int .u32 0, .int .u32 0, .int .u32 0, .int .u32 0, .int .u32 0, .int .u32 0, .int .u32 0, .int .u32 0, .int .u32 0, .int .u32 0, .int .u32 0, .int .u32 0, .int .u32 0, .int .u32 0, .int .u32 0, .int .u32 0, .int .u32 0, .int .u32 0], .int .i64 0] rfl (by kernel_rfl) (by kernel_rfl) (by kernel_rfl)
      (OpenSpec.preRow_of_cond 8 hx (by kernel_rfl) (fun k hk => by cases hk) (by kernel_rfl) (laid_met os))) ?_
  intro W base args ds gs before hval0 hW _ _ _ hL _ _
  have hval : ∀ (j : Nat) t v, Tryz.f5.params[j]? = some t → args[j]? = some v → Value.okWide Tryz.prog W .any base t v := hval0
  have hW' := hW
  obtain ⟨p, q, hA0, hV, rfl, hfz, hnd⟩ := hW
  have hA : DataW.TrodAll enc Tryz.prog W 0 (fun _ => true) true Tryz.f5.params.toList args.toList ds p := hA0
  rw [Tryz.params5] at hA hval
  obtain ⟨v0, vs0, d0, ds0, p0, q0, hargs, rfl, rfl, h0, r0⟩ := trodAll_cons hA
  obtain ⟨v1, vs1, d1, ds1, p1, q1, rfl, rfl, rfl, h1, r1⟩ := trodAll_cons r0
  obtain ⟨rfl, rfl, rfl⟩ := trodAll_nil r1
  obtain rfl : args = #[v0, v1] := by cases args; simp_all
  obtain ⟨rfl, rfl⟩ := trodVars_none hV
  have k0 := h0
  obtain ⟨s0, rfl, rfl, w0⟩ := Core.open_state (hval 0 27 v0 rfl rfl) h0
  obtain ⟨a1, rfl, rfl, rfl, w1⟩ := open_int Tryz.underlying3 (hval 1 3 v1 rfl rfl) h1
  clear hA0 hval0
  simp only [List.append_nil] at hW'
  try simp only [List.nil_append] at hW'
  have hlt : ∀ x, x ∈ ([] : List MemPlace) → x.block < W.heap.size := fun x hx => by simpa using hW'.lt x hx
  refine (walk s0 a1 W w0 w1 (Code.laid_of hL)).mono fun e W' ⟨he, hg⟩ => ?_
  subst he
  exact ⟨_, rfl, Ends.post_of_below (pv := []) hW' (fun _ _ _ => (trodAll_cons_mk (shut_bool Tryz.underlying4 _) trodAll_mk0)) (trodAll_cons_mk (WideElems.Trod_stays laidOut (by kernel_rfl) (of_decide_eq_true (by kernel_rfl)) k0 (fun x hx => by cases hx) (fun x hx => by cases hx)) (trodAll_cons_mk (shut_int Tryz.underlying3 w1) trodAll_mk0)) (fun _ _ => rfl) (by simp)
    (hg.frame _)⟩

theorem said : Rows.CoreHoldsSaid :=
  OpenClaim.holds_of_cond 5 Tryz.f5 rfl rfl rfl rfl rfl rfl rfl ⟨rfl, rfl, rfl, rfl, rfl⟩ rfl rfl rfl rfl rfl (by kernel_rfl) Tryz.func5 (by kernel_rfl)
    (of_decide_eq_true (by kernel_rfl)) (by unfold Func.isWrapper; first | (rw [if_pos (by decide +kernel)]; kernel_rfl) | (rw [if_neg (by decide +kernel)]; exact ⟨rfl, rfl⟩))
    (fun os started H enc _ F => by rw [OpenClaim.pre_eq_preRow]; exact lifted os started H enc F)

/-- No parameter wants a stand-in; the program's own looks are off: what the card asks. -/
theorem plain (f : FuncId) (fn : Func) (hf : Tryz.pinned.checked.prog.funcNamed "remontoire/remontoirelaw07.CoreHolds" = some f) (hfn : Tryz.pinned.checked.prog.funcs[f]? = some fn) :
    false = Tryz.pinned.checked.prog.looks [] ∧ ∀ (j : Nat) t, fn.params[j]? = some t → Tryz.pinned.checked.prog.wantsStandIn t = false := by
  obtain rfl : f = 5 := Option.some.inj ((show Tryz.prog.funcNamed "remontoire/remontoirelaw07.CoreHolds" = some 5 by kernel_rfl).symm.trans hf) |>.symm
  obtain rfl : fn = Tryz.f5 := (Option.some.inj (Tryz.func5.symm.trans hfn)).symm
  refine ⟨by kernel_rfl, fun j t ht => ?_⟩
  rw [Tryz.params5] at ht
  have hm := Array.mem_of_getElem? ht
  simp only [List.mem_toArray, List.mem_cons, List.not_mem_nil, or_false] at hm
  rcases hm with rfl | rfl
  · exact (show Tryz.prog.wantsStandIn 27 = false by kernel_rfl)
  · exact (show Tryz.prog.wantsStandIn 3 = false by kernel_rfl)

/-- The card. -/
theorem proved : Rows.CoreHoldsCardSaid :=
  Claim7.holds_tied_plain_at .later [] _ _ _ _ said (fun _ h => by cases h) (by kernel_rfl) (fun _ h => by cases h) coreHolds_row_tie rfl ⟨rfl, rfl⟩ (by kernel_rfl) rfl plain (by kernel_rfl)
#print axioms proved
end Go.Proofs.YtkkhofoaolgapaaGreatDoor.coreHolds

