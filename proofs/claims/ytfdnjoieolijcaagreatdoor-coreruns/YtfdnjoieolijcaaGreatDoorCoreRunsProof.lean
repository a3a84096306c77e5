/- For all instructions, wait states, every state and every fuel the statement CoreRuns returns true: a run is its steps, one behind the other; the counter is what its events show; it stops with its fuel, and a halted one stays.
Conditions: none of the arguments; the package variables that the row lists hold what the program lays (the card ties them to its text). -/
import Derived.Test.YtfdnjoieolijcaaGreatDoorRows
import Derived.WalkKit
import Derived.ProofKit
import Derived.OpenShut
import Derived.Deep.DeepHandedRow
import Derived.Deep.RegionHeld3
import Derived.Test.YtfdnjoieolijcaaGreatDoorCards
import Derived.Test.YtfdnjoieolijcaaGreatDoorTie
import Derived.ChangeKeysEq
import Derived.LoopTactic
import Derived.Laws.OwnMore
import Derived.Deep.Fields
import Derived.Deep.Slices
import Derived.Below
import Derived.OpenShut
import Derived.ProofKit
import Derived.Test.YtfdnjoieolijcaaGreatDoorCoreStepO
import Derived.Test.YtfdnjoieolijcaaGreatDoorArgs
import Derived.Test.YtfdnjoieolijcaaGreatDoorCoreMemOp
import Derived.Test.YtfdnjoieolijcaaGreatDoorClockBase
import Derived.Test.YtfdnjoieolijcaaGreatDoorCoreMach
import Derived.Test.YtfdnjoieolijcaaGreatDoorCoreOwn
import Derived.Test.YtfdnjoieolijcaaGreatDoorCodeBytesA
import Derived.Test.YtfdnjoieolijcaaGreatDoorCoreSet
import Derived.Test.YtfdnjoieolijcaaGreatDoorCoreBits
/-! From what lies behind a call to the row's own end: where nothing is asked again of what is handed back. -/
set_option linter.unusedVariables false
namespace Go.Proofs.YtfdnjoieolijcaaGreatDoor.Ends
open Go.ChangeShapes Go.WideShapes Go.ChangeAt Go.RowKit

theorem post_of_frame {H : Type} {enc : TypeId × Value → H} {P : Program} {f : Func} {s : ChangeSpec} {apart fresh handsOn : Bool} {W W' : World} {args : Array Value} {v : Value} {ds gs : List (DataW H)} {before pa pv : List MemPlace}
    (hW : DataW.Whole enc P f.params.toList s.vars apart W args.toList ds gs before)
    (hres : ∀ (b : Nat) (sp : Nat → Bool) (hd : Bool), DataW.TrodAll enc P W' b sp hd f.resultTypes.toList (v.resultList f.resultTypes.size) (s.fn H (ds ++ gs)).results [])
    (hargs : ∀ sp : Nat → Bool, (∀ p ∈ before, sp p.block = true) → DataW.TrodAll enc P W' 0 sp true f.params.toList args.toList (s.fn H (ds ++ gs)).args pa)
    (hvars : ∀ sp : Nat → Bool, (∀ p ∈ before, sp p.block = true) → DataW.TrodVars enc P W' sp s.vars (s.fn H (ds ++ gs)).vars pv)
    (hps : before = pa ++ pv) (hk : W.keptBut W' (· ∈ before)) :
    s.post enc P f apart fresh handsOn false W args v W' := by
  have hold : ∀ p ∈ before, (fun b => decide (b < W.heap.size)) p.block = true := fun p hp => by simpa using hW.lt p hp
  refine ⟨ds, gs, before, [], pa, pv, hW, hres _ _ _, hargs _ hold, hvars _ hold, World.keptBut_mono (fun p hp => ⟨hp, ?_⟩) hk, fun h => by cases h⟩
  rw [hps, List.mem_append] at hp
  exact Or.inr hp

/-- The same, where the arguments read as they did in what lies below. -/
theorem post_of_below {H : Type} {enc : TypeId × Value → H} {P : Program} {f : Func} {s : ChangeSpec} {apart fresh handsOn : Bool} {W W' : World} {args : Array Value} {v : Value} {ds gs : List (DataW H)} {before pa pv : List MemPlace}
    (hW : DataW.Whole enc P f.params.toList s.vars apart W args.toList ds gs before)
    (hres : ∀ (b : Nat) (sp : Nat → Bool) (hd : Bool), DataW.TrodAll enc P W' b sp hd f.resultTypes.toList (v.resultList f.resultTypes.size) (s.fn H (ds ++ gs)).results [])
    (hargs : DataW.TrodAll enc P W' 0 (fun b => decide (b < W.heap.size)) true f.params.toList args.toList (s.fn H (ds ++ gs)).args pa)
    (hvars : ∀ sp : Nat → Bool, (∀ p ∈ before, sp p.block = true) → DataW.TrodVars enc P W' sp s.vars (s.fn H (ds ++ gs)).vars pv)
    (hps : before = pa ++ pv) (hk : W.keptBut W' (· ∈ before)) :
    s.post enc P f apart fresh handsOn false W args v W' := by
  have hold : ∀ p ∈ before, (fun b => decide (b < W.heap.size)) p.block = true := fun p hp => by simpa using hW.lt p hp
  refine ⟨ds, gs, before, [], pa, pv, hW, hres _ _ _, hargs, hvars _ hold, World.keptBut_mono (fun p hp => ⟨hp, ?_⟩) hk, fun h => by cases h⟩
  rw [hps, List.mem_append] at hp
  exact Or.inr hp

end Go.Proofs.YtfdnjoieolijcaaGreatDoor.Ends

/-! Slices of structs of integers as arguments: opened. -/
set_option linter.unusedVariables false
namespace Go.Proofs.YtfdnjoieolijcaaGreatDoor.Args
open Go.ChangeShapes Go.WideShapes Go.RowKit Go.Deep

/-- The fields are integers of these kinds. -/
def kindsOf (P : Program) (fs : Array Field) (ks : List IntKind) : Bool := (List.range fs.size).all fun i => match fs[i]?, ks[i]? with
  | some f, some k => (match P.underlying f.type with | some (.int k') => decide (k' = k) | _ => false)
  | _, _ => false
theorem kind_of {P : Program} {fs : Array Field} {ks : List IntKind} (h : kindsOf P fs ks = true) (i : Nat) (f : Field) (k : IntKind) (hf : fs[i]? = some f) (hk : ks[i]? = some k) : P.underlying f.type = some (.int k) := by
  have hi : i < fs.size := (Array.getElem?_eq_some_iff.1 hf).1
  have := List.all_eq_true.1 h i (List.mem_range.2 hi)
  simp only [hf, hk] at this
  split at this
  · rename_i k' e
    rw [e, of_decide_eq_true this]
  · cases this

/-- A slice of structs of integers: its numbers by index and field. -/
structure Recs (w : World) (ks : List IntKind) (p : Option Addr) (n cap : Nat) (F : Nat → Nat → Int) : Prop where
  le : n ≤ cap
  max : cap ≤ maxLen
  cells : n = 0 ∨ ∃ b off, p = some ⟨b, off, none⟩ ∧ b < w.heap.size ∧ ∀ i, i < n → ∀ j k, ks[j]? = some k → w.cell? ⟨b, off + (i * ks.length + j), none⟩ = some (.int k (F i j)) ∧ (Lit.int k (F i j)).wf = true

theorem open_recs {H : Type} {enc : TypeId × Value → H} {P : Program} {w : World} {base : Nat} {t e : TypeId} {fs : Array Field} {ks : List IntKind} {r : Reach} {b0 : Nat} {v : Value} {d : DataW H} {ps : List MemPlace}
    (ht : P.underlying t = some (.slice e)) (he : P.underlying e = some (.struct fs)) (hone : oneCellFields P fs = true) (hk : kindsOf P fs ks = true) (hC : P.cellsOf e = fs.size) (hl : ks.length = fs.size) (h0 : 0 < fs.size)
    (hv : Value.okWide P w r b0 t v) (h : DataW.Trod enc P w base (fun _ => true) true t v d ps) :
    ∃ p n cap F, v = .slice p n cap ∧ Recs w ks p n cap F := by
  obtain ⟨p, n, cap, rfl⟩ := okWide_slice ht hv
  obtain ⟨fuel, hf⟩ := h
  rcases open_slice ht hf with ⟨hcs, hx⟩ | ⟨a, len', cap', m, nn, D, Pl, hcs, _, hle, hm, hmm, hx, hel⟩
  · simp [Value.cells] at hcs
    obtain ⟨rfl, rfl, rfl⟩ := hcs
    exact ⟨_, _, _, fun _ _ => 0, rfl, ⟨by omega, by simp, .inl rfl⟩⟩
  · simp [Value.cells] at hcs
    obtain ⟨rfl, rfl, rfl⟩ := hcs
    simp only [if_true] at hmm
    subst hmm
    refine ⟨_, _, _, fun i j => match w.cell? (a.add (i * ks.length + j)) with | some v => intOf v | none => 0, rfl, ⟨hle, hm, ?_⟩⟩
    by_cases hn : n = 0
    · exact .inl hn
    right
    have key : ∀ i, i < n → ∀ j k, ks[j]? = some k → ∃ z, w.cell? (a.add (i * ks.length + j)) = some (.int k z) ∧ (Lit.int k z).wf = true := by
      intro i hi j k hj
      have hjl : j < ks.length := (List.getElem?_eq_some_iff.1 hj).1
      obtain ⟨cs', h1, h2⟩ := hel i (by omega)
      obtain ⟨_, hlen, hcell⟩ := World.cells?_some h1
      obtain ⟨xs, n', _, _, _, hxl, hfld⟩ := DataW.trod_struct he h2
      have hg : fs[j]? = some fs[j] := Array.getElem?_eq_getElem (by omega)
      obtain ⟨o, c⟩ := hone_of hone j _ hg
      have h3 := hfld j _ hg
      rw [List.getElem?_eq_getElem (by omega)] at h3
      obtain ⟨z, e1, e2, e3⟩ := DataW.trod_int (kind_of hk j _ k hg hj) h3
      refine ⟨z, ?_, e3⟩
      rw [o, c] at e1
      have e4 := congrArg (·[0]?) e1
      have e5 : cs'[j]? = some (.int k z) := by simpa [List.getElem?_take, List.getElem?_drop] using e4
      have := hcell j (by omega)
      rw [e5, add_add, hC, ← hl] at this
      exact this
    obtain ⟨b, off, spot⟩ := a
    have hspot : spot = none := by
      obtain ⟨k, hk0⟩ : ∃ k, ks[0]? = some k := ⟨ks[0], List.getElem?_eq_getElem (by omega)⟩
      obtain ⟨z, hz, _⟩ := key 0 (by omega) 0 k hk0
      simpa [Addr.add] using World.cell?_spot hz
    subst hspot
    have cell : ∀ i, i < n → ∀ j k, ks[j]? = some k → ∃ z, w.cell? ⟨b, off + (i * ks.length + j), none⟩ = some (.int k z) ∧ (Lit.int k z).wf = true := fun i hi j k hj => by
      obtain ⟨z, h1, h2⟩ := key i hi j k hj
      exact ⟨z, by rw [← add_plain]; exact h1, h2⟩
    refine ⟨b, off, rfl, ?_, fun i hi j k hj => ?_⟩
    · obtain ⟨k, hk0⟩ : ∃ k, ks[0]? = some k := ⟨ks[0], List.getElem?_eq_getElem (by omega)⟩
      obtain ⟨z, hz, _⟩ := cell 0 (by omega) 0 k hk0
      exact cell_lt hz
    · obtain ⟨z, hz, hw⟩ := cell i hi j k hj
      have e : (match w.cell? ((⟨b, off, none⟩ : Addr).add (i * ks.length + j)) with | some v => intOf v | none => 0) = z := by
        rw [add_plain, hz]; rfl
      rw [e]
      exact ⟨hz, hw⟩

end Go.Proofs.YtfdnjoieolijcaaGreatDoor.Args

/-! CoreList, CorePop, CorePush, CoreExec, CoreStepF, CoreGood, CoreStep, CoreTwin, CoreRunG, joined. -/

/-! Lists of registers: package core. -/
set_option linter.unusedVariables false
namespace Go.Proofs.YtfdnjoieolijcaaGreatDoor.Core
open Go.RowKit Go.Proofs.YtfdnjoieolijcaaGreatDoor.Mem Go.Proofs.YtfdnjoieolijcaaGreatDoor.Alu

/-- Is a register one of Regs? -/
def listB (W : Wo) (r : Int) : Bool := bit (W.i.rg % 4294967296) r == 1

theorem lists_any {w : World} {B : Nat} {W : Wo} (h : Wk w B W) (r : Int) :
    Calls Tryz.prog 156 #[.pointer (some ⟨B, 0, none⟩), .int .i64 r] w fun e w' => e = .returned (.bool (listB W r)) ∧ ∃ m, w' = w.drewN m := by
  have crg := h.crg
  go_enter Tryz.func156, Tryz.ntmps156
  go_wp2_with (go_at_call 189; refine (Bit_any _ _ (by omega) (by omega) _).mono ?_; rintro e w' ⟨rfl, rfl⟩)
  go_ret
  exact ⟨rfl, 0, rfl⟩

def lddW (W : Wo) (r x : Int) : Wo := if r = 15 then backW W x else W.reg r.toNat x

theorem loaded_any {w : World} {B : Nat} {W : Wo} (h : Wk w B W) (r x : Int) (h0 : 0 ≤ r) (h1 : r < 16) :
    Calls Tryz.prog 157 #[.pointer (some ⟨B, 0, none⟩), .int .i64 r, .int .u32 x] w fun e w' => e = .returned (.tuple #[]) ∧ Wk w' B (lddW W r x) ∧ Off [B] w w' := by
  obtain ⟨k, hk⟩ := Int.eq_ofNat_of_zero_le h0
  subst hk
  have ck := h.reg k (by omega)
  have fk := h.free k
  by_cases h15 : (k : Int) = 15
  · have HQ : Hid (lddW W k x = backW W x) := by unfold Hid lddW; rw [if_pos h15]
    go_enter Tryz.func157, Tryz.ntmps157
    go_wp2_with fail
    refine (goBack_any h x).mono ?_
    rintro e w1 ⟨rfl, h1, o1⟩
    go_wp2_with fail
    refine bodyPost_ret (v := .tuple #[]) (by simp [results, Tryz.results157, go_sem]) rfl ⟨rfl, by rw [HQ.out]; exact h1, o1⟩
  · have HQ : Hid (lddW W k x = W.reg k x) := by unfold Hid lddW; rw [if_neg h15]; rfl
    go_enter Tryz.func157, Tryz.ntmps157
    go_wp2_with fail
    all_goals (try (go_region; go_wp2_with fail))
    go_end0
    exact ⟨rfl, by rw [HQ.out]; first | exact h.putR k (by omega) _ | exact (h.putR k (by omega) _).drew, by first | exact (Off.refl _ _).set (by simp) _ | exact ((Off.refl _ _).set (by simp) _).drew⟩
end Go.Proofs.YtfdnjoieolijcaaGreatDoor.Core

/-! Registers that are loaded: package core. -/
set_option linter.unusedVariables false
namespace Go.Proofs.YtfdnjoieolijcaaGreatDoor.Core
open Go.RowKit Go.Proofs.YtfdnjoieolijcaaGreatDoor.Mem Go.Proofs.YtfdnjoieolijcaaGreatDoor.Alu

/-- The registers from r on that are listed are loaded. -/
def popR (n : Nat) (f g : Nat → Int) : Nat → Nat → Wo → Wo × Int
  | 0, _, W => (W, 0)
  | k + 1, r, W => if listB W r then (if ldE n (W.s.R 13) = 0 then popR n f g k (r + 1) (lddW (W.reg 13 ((W.s.R 13 + 4) % 4294967296)) r (ldV n f g (W.s.R 13))) else (W, ldE n (W.s.R 13))) else popR n f g k (r + 1) W
def popS (W : Wo) : Wo := W.dat (W.s.R 13) (Clock.ones 16 W.i.rg.toNat)
def popW (n : Nat) (f g : Nat → Int) (W : Wo) : Wo := (popR n f g 16 0 (popS W)).1
def popE (n : Nat) (f g : Nat → Int) (W : Wo) : Int := (popR n f g 16 0 (popS W)).2
/-- Registers are words. -/
def Regs (s : St) : Prop := ∀ k, 0 ≤ s.R k ∧ s.R k < 4294967296
theorem Regs.put {s : St} (h : Regs s) (k : Nat) (x : Int) (hx : 0 ≤ x ∧ x < 4294967296) : Regs (s.reg k x) := fun i => by
  show 0 ≤ Mem.put s.R k x i ∧ Mem.put s.R k x i < 4294967296
  unfold Mem.put; split; exact hx; exact h i
theorem ldV_bd (n : Nat) (f g : Nat → Int) (hf : ∀ i, i < n → 0 ≤ f i ∧ f i < 256) (hg : ∀ i, 0 ≤ g i ∧ g i < 4294967296) (a : Int) : 0 ≤ ldV n f g a ∧ ldV n f g a < 4294967296 := by
  unfold ldV
  split
  · split
    · exact hg _
    · split
      · rename_i h
        have := fp_range a
        exact lsum_range f (fp a).toNat 4 (fun j hj => hf _ (by omega))
      · omega
  · omega
theorem Regs.ldd {W : Wo} (h : Regs W.s) (r x : Int) (hx : 0 ≤ x ∧ x < 4294967296) : Regs (lddW W r x).s := by
  unfold lddW
  split
  · unfold backW
    split
    · exact h
    · exact h.put 15 _ (bits_u32_bd _ _ _)
  · exact h.put _ _ hx
theorem ldd_i (W : Wo) (r x : Int) : (lddW W r x).i = W.i ∧ (lddW W r x).m = W.m := by
  unfold lddW backW
  repeat' split
  all_goals exact ⟨rfl, rfl⟩

set_option maxRecDepth 100000 in
set_option maxHeartbeats 4000000 in
theorem pop_any {w : World} {B F R n : Nat} {W : Wo} {f g : Nat → Int} (h : Wk w B W) (ok : Ok W) (hm : Is w W.m F R n f g) (hf : ∀ i, i < n → 0 ≤ f i ∧ f i < 256) (hn : n ≤ 65536) (hgb : ∀ i, 0 ≤ g i ∧ g i < 4294967296) :
    Calls Tryz.prog 121 #[.pointer (some ⟨B, 0, none⟩)] w fun e w' => e = .returned (.int .i64 (popE n f g W)) ∧ Wk w' B (popW n f g W) ∧ Off [B] w w' := by
  have hA := wkApart h hm
  have crg := h.crg
  have brg := ok.f.rg
  go_enter Tryz.func121, Tryz.ntmps121
  go_wp2_with fail
  refine (Clock.OnesCount32_any _ (by omega) (by omega) _).mono ?_
  rintro e w1 ⟨rfl, hb1⟩
  have h1 : Wk w1 B W := h.below hb1
  have o1 : Off [B] w w1 := Off.of_below hb1
  have c36 := h1.cwo
  have f36 := h1.free 36
  have c35 := h1.cda
  have f35 := h1.free 35
  have c13 := h1.c13
  have H2 := hide ((h1.putWo (Clock.ones 16 W.i.rg.toNat : Int)).putDa (W.s.R 13))
  have O2 := hide ((o1.set (p := ⟨B, 36, none⟩) (by simp) (.int .i64 (Clock.ones 16 W.i.rg.toNat : Int))).set (p := ⟨B, 35, none⟩) (by simp) (.int .u32 (W.s.R 13)))
  clear hb1
  go_wp2_with fail
  generalize (w1.setCell ⟨B, 36, none⟩ (.int .i64 (Clock.ones 16 W.i.rg.toNat : Int))).setCell ⟨B, 35, none⟩ (.int .u32 (W.s.R 13)) = w2 at *
  clear c36 f36 c35 f35 c13 h1 o1 crg
  go_loopw [25] (fun i wr => ∃ (k : Nat) (U : Wo), k ≤ 16 ∧ i = .int .i64 k ∧ Wk wr B U ∧ Off [B] w wr ∧ Hid (popR n f g (16 - k) k U = popR n f g 16 0 (popS W)) ∧ Regs U.s ∧ U.i = W.i ∧ U.m = W.m) (fun i _ => 16 - (intOf i).toNat)
  case atStart => exact ⟨0, popS W, by omega, rfl, H2.out, O2.out, rfl, ok.g.r, rfl, rfl⟩
  case round =>
    obtain ⟨k, U, hk, rfl, hU, oU, hP, hR, hI, hM⟩ := hrel
    have mU : Is wr U.m F R n f g := by rw [hM]; exact isOff hm oU (by simpa using hA.1) (by simpa using hA.2.1) (by simpa using hA.2.2)
    have b13 := hR 13
    replace hI := hide hI
    replace hM := hide hM
    by_cases hlt : k < 16
    · have hlt' : (k : Int) < 16 := by omega
      have eK : 16 - k = (16 - (k + 1)) + 1 := by omega
      cases hl : listB U k
      · have HP : Hid (popR n f g (16 - (k + 1)) (k + 1) U = popR n f g 16 0 (popS W)) := by have x := hP.out; rw [eK, popR, hl] at x; exact x
        clear hP eK
        go_wp2_with fail
        refine (lists_any hU _).mono ?_
        rintro e w3 ⟨rfl, hw3⟩
        rw [hl]
        have h3 : Wk w3 B U := by obtain ⟨m, rfl⟩ := hw3; exact hU
        have o3 : Off [B] w w3 := by obtain ⟨m, rfl⟩ := hw3; exact oU.drewN _
        clear hw3
        go_wp2_with fail
        go_roundw
        case rel => exact ⟨k + 1, U, by omega, by go_num, h3, o3, HP, hR, hI.out, hM.out⟩
        case measure => simp [intOf]; omega
      · by_cases he : ldE n (U.s.R 13) = 0
        · have bL := ldV_bd n f g hf hgb (U.s.R 13)
          have HP : Hid (popR n f g (16 - (k + 1)) (k + 1) (lddW (U.reg 13 ((U.s.R 13 + 4) % 4294967296)) k (ldV n f g (U.s.R 13))) = popR n f g 16 0 (popS W)) := by have x := hP.out; rw [eK, popR, hl] at x; simp only [if_true, he] at x; exact x
          clear hP eK
          go_wp2_with fail
          refine (lists_any hU _).mono ?_
          rintro e w3 ⟨rfl, hw3⟩
          rw [hl]
          have h3 : Wk w3 B U := by obtain ⟨m, rfl⟩ := hw3; exact hU
          have o3 : Off [B] w w3 := by obtain ⟨m, rfl⟩ := hw3; exact oU.drewN _
          have m3 : Is w3 U.m F R n f g := by obtain ⟨m, rfl⟩ := hw3; exact isDrewN mU _
          clear hw3
          have cm := h3.cm
          have c13 := h3.c13
          go_wp2_with fail
          go_quiet (first | (go_at_call 153; exact quiet0 (Load_any (isDrewN m3 _) hf hn _ b13.1 b13.2)))
          rw [he]
          generalize hw4 : World.drewN _ _ = w4
          have h4 : Wk w4 B U := by rw [← hw4]; exact h3
          have o4 : Off [B] w w4 := by rw [← hw4]; exact o3.drewN _
          clear hw4 cm c13
          have c13 := h4.c13
          have f13 := h4.free 13
          go_wp2_with fail
          go_region
          have H5 := hide (h4.putR 13 (by decide) ((U.s.R 13 + 4) % 4294967296)).drew
          have O5 := hide (o4.set (p := ⟨B, 13, none⟩) (by simp) (.int .u32 ((U.s.R 13 + 4) % 4294967296))).drew
          go_wp2_with fail
          refine (loaded_any H5.out k _ (by omega) (by omega)).mono ?_
          rintro e w6 ⟨rfl, h6, o6⟩
          go_wp2_with fail
          go_roundw
          case rel => exact ⟨k + 1, _, by omega, by go_num, h6, O5.out.trans o6, HP, (Regs.put hR 13 _ (by omega)).ldd _ _ bL, (ldd_i _ _ _).1.trans hI.out, (ldd_i _ _ _).2.trans hM.out⟩
          case measure => simp [intOf]; omega
        · have HP : Hid (popR n f g 16 0 (popS W) = (U, ldE n (U.s.R 13))) := by have x := hP.out; rw [eK, popR, hl] at x; simp only [if_true, he, if_false] at x; exact x.symm
          have he' : (ldE n (U.s.R 13) == 0) = false := by simpa using he
          clear hP eK he
          go_wp2_with fail
          refine (lists_any hU _).mono ?_
          rintro e w3 ⟨rfl, hw3⟩
          rw [hl]
          have h3 : Wk w3 B U := by obtain ⟨m, rfl⟩ := hw3; exact hU
          have o3 : Off [B] w w3 := by obtain ⟨m, rfl⟩ := hw3; exact oU.drewN _
          have m3 : Is w3 U.m F R n f g := by obtain ⟨m, rfl⟩ := hw3; exact isDrewN mU _
          clear hw3
          have cm := h3.cm
          have c13 := h3.c13
          go_wp2_with fail
          go_quiet (first | (go_at_call 153; exact quiet0 (Load_any (isDrewN m3 _) hf hn _ b13.1 b13.2)))
          go_wp2_with fail
          go_ret
          exact ⟨ret_int (by unfold popE; rw [HP.out]), by unfold popW; rw [HP.out]; exact h3.drewN _, o3.drewN _⟩
    · have e16 : k = 16 := by omega
      subst e16
      have HP : Hid (popR n f g 16 0 (popS W) = (U, 0)) := hP.out.symm
      go_wp2_with fail
      go_ret
      exact ⟨ret_int (by unfold popE; rw [HP.out]), by unfold popW; rw [HP.out]; exact hU, oU⟩
end Go.Proofs.YtfdnjoieolijcaaGreatDoor.Core

/-! Registers that are stored: package core. -/
set_option linter.unusedVariables false
namespace Go.Proofs.YtfdnjoieolijcaaGreatDoor.Core
open Go.RowKit Go.Proofs.YtfdnjoieolijcaaGreatDoor.Mem Go.Proofs.YtfdnjoieolijcaaGreatDoor.Alu

/-- The registers from r on that are listed are stored. -/
def pshR : Nat → Nat → Wo → Int → (Nat → Int) → (Nat → Int) × Int
  | 0, _, _, _, g => (g, 0)
  | k + 1, r, W, p, g => if listB W r then (if stE p = 0 then pshR k (r + 1) W ((p + 4) % 4294967296) (Mem.put g (rp p).toNat (W.s.R r)) else (g, stE p)) else pshR k (r + 1) W p g
def pshC (W : Wo) : Int := (Clock.ones 16 W.i.rg.toNat : Int)
def pshP (W : Wo) : Int := (W.s.R 13 - 4 * pshC W) % 4294967296
def pshS (W : Wo) : Wo := (W.reg 13 (pshP W)).dat (pshP W) (pshC W)
def pshG (g : Nat → Int) (W : Wo) : Nat → Int := (pshR 16 0 (pshS W) (pshP W) g).1
def pshE (g : Nat → Int) (W : Wo) : Int := (pshR 16 0 (pshS W) (pshP W) g).2

set_option maxRecDepth 100000 in
set_option maxHeartbeats 4000000 in
theorem push_any {w : World} {B F R n : Nat} {W : Wo} {f g : Nat → Int} (h : Wk w B W) (ok : Ok W) (hm : Is w W.m F R n f g) :
    Calls Tryz.prog 120 #[.pointer (some ⟨B, 0, none⟩)] w fun e w' => e = .returned (.int .i64 (pshE g W)) ∧ Wk w' B (pshS W) ∧ Is w' W.m F R n f (pshG g W) ∧ Off [B, R] w w' := by
  have hA := wkApart h hm
  have crg := h.crg
  have brg := ok.f.rg
  have b13 := ok.g.r 13
  have bC : 0 ≤ pshC W ∧ pshC W ≤ 16 := by have := Clock.ones_le 16 W.i.rg.toNat; unfold pshC; omega
  go_enter Tryz.func120, Tryz.ntmps120
  go_wp2_with fail
  refine (Clock.OnesCount32_any _ (by omega) (by omega) _).mono ?_
  rintro e w1 ⟨rfl, hb1⟩
  rw [show (Clock.ones 16 W.i.rg.toNat : Int) = pshC W from rfl]
  have h1 : Wk w1 B W := h.below hb1
  have o1 : Off [B] w w1 := Off.of_below hb1
  have c36 := h1.cwo
  have f36 := h1.free 36
  have H2 := hide (h1.putWo (pshC W))
  have O2 := hide (o1.set (p := ⟨B, 36, none⟩) (by simp) (.int .i64 (pshC W)))
  clear hb1
  go_wp2_with fail
  generalize w1.setCell ⟨B, 36, none⟩ (.int .i64 (pshC W)) = w2 at *
  clear c36 f36 h1 o1 crg
  have c13 := H2.out.c13
  have f13 := H2.out.free 13
  have c36 := H2.out.cwo
  dsimp only at c13 c36
  go_region
  have H3 := hide (H2.out.putR 13 (by decide) (pshP W)).drew
  have O3 := hide (O2.out.set (p := ⟨B, 13, none⟩) (by simp) (.int .u32 (pshP W))).drew
  have e3 : (W.s.R 13 - 4 * pshC W) % 4294967296 = pshP W := rfl
  have bp : 0 ≤ pshP W ∧ pshP W < 4294967296 := by unfold pshP; omega
  rw [e3]
  clear e3 c13 f13 c36
  generalize (w2.setCell ⟨B, 13, none⟩ (.int .u32 (pshP W))).drew = w4 at *
  have c13 : w4.cell? ⟨B, 13, none⟩ = some (.int .u32 (pshP W)) := H3.out.c13
  have c35 := H3.out.cda
  have f35 := H3.out.free 35
  have H5 := hide (H3.out.putDa (pshP W))
  have O5 := hide (O3.out.set (p := ⟨B, 35, none⟩) (by simp) (.int .u32 (pshP W)))
  go_wp2_with fail
  generalize w4.setCell ⟨B, 35, none⟩ (.int .u32 (pshP W)) = w5 at *
  clear c13 c35 f35
  have M5 : Is w5 W.m F R n f g := isOff hm O5.out (by simpa using hA.1) (by simpa using hA.2.1) (by simpa using hA.2.2)
  go_loopw [3, 46] (fun p i wr => ∃ (k : Nat) (q : Int) (G : Nat → Int), k ≤ 16 ∧ p = .int .u32 q ∧ (0 ≤ q ∧ q < 4294967296) ∧ i = .int .i64 k ∧ Wk wr B (pshS W) ∧ Off [B, R] w wr ∧ Is wr W.m F R n f G ∧ Hid (pshR (16 - k) k (pshS W) q G = pshR 16 0 (pshS W) (pshP W) g)) (fun _ i _ => 16 - (intOf i).toNat)
  case atStart => exact ⟨0, _, g, by omega, rfl, bp, rfl, H5.out, O5.out.mono (by simp), M5, rfl⟩
  case round =>
    obtain ⟨k, q, G, hk, rfl, bq, rfl, hU, oU, mU, hP⟩ := hrel
    by_cases hlt : k < 16
    · have hlt' : (k : Int) < 16 := by omega
      have eK : 16 - k = (16 - (k + 1)) + 1 := by omega
      cases hl : listB (pshS W) k
      · have HP : Hid (pshR (16 - (k + 1)) (k + 1) (pshS W) q G = pshR 16 0 (pshS W) (pshP W) g) := by have x := hP.out; rw [eK, pshR, hl] at x; exact x
        clear hP eK
        go_wp2_with fail
        refine (lists_any hU _).mono ?_
        rintro e w3 ⟨rfl, hw3⟩
        rw [hl]
        have h3 : Wk w3 B (pshS W) := by obtain ⟨m, rfl⟩ := hw3; exact hU
        have o3 : Off [B, R] w w3 := by obtain ⟨m, rfl⟩ := hw3; exact oU.drewN _
        have m3 : Is w3 W.m F R n f G := by obtain ⟨m, rfl⟩ := hw3; exact isDrewN mU _
        clear hw3
        go_wp2_with fail
        go_roundw
        case rel => exact ⟨k + 1, q, G, by omega, rfl, bq, by go_num, h3, o3, m3, HP⟩
        case measure => simp [intOf]; omega
      · by_cases he : stE q = 0
        · have HP : Hid (pshR (16 - (k + 1)) (k + 1) (pshS W) ((q + 4) % 4294967296) (Mem.put G (rp q).toNat ((pshS W).s.R k)) = pshR 16 0 (pshS W) (pshP W) g) := by have x := hP.out; rw [eK, pshR, hl] at x; simp only [if_true, he] at x; exact x
          clear hP eK
          go_wp2_with fail
          refine (lists_any hU _).mono ?_
          rintro e w3 ⟨rfl, hw3⟩
          rw [hl]
          have h3 : Wk w3 B (pshS W) := by obtain ⟨m, rfl⟩ := hw3; exact hU
          have o3 : Off [B, R] w w3 := by obtain ⟨m, rfl⟩ := hw3; exact oU.drewN _
          have m3 : Is w3 W.m F R n f G := by obtain ⟨m, rfl⟩ := hw3; exact isDrewN mU _
          clear hw3
          have cm := h3.cm
          have ck := h3.reg k hlt
          dsimp only [pshS, Wo.dat, Wo.reg] at cm
          go_wp2_with fail
          have S1 : w3.drew.cell? ⟨B, 20, none⟩ = some (.pointer (some ⟨W.m, 0, none⟩)) := cm
          have S2 : w3.drew.cell? ⟨B, k, none⟩ = some (.int .u32 ((pshS W).s.R k)) := ck
          clear cm ck
          refine wp_region_held_drew (S := fun w' => w'.cell? ⟨B, 20, none⟩ = some (.pointer (some ⟨W.m, 0, none⟩)) ∧ w'.cell? ⟨B, k, none⟩ = some (.int .u32 ((pshS W).s.R k))) (by kernel_rfl) ⟨S1, S2⟩ (fun hHeld => ?_)
          refine wpAnyH_take (i := 0) (v := ?_) rfl (by kernel_rfl) (by kernel_rfl) (by kernel_rfl) (fun _ _ _ h => h) (Or.inl ⟨by rfl, ?_⟩) (by assumption) ?_
          rotate_left
          · intro w hSw; (try dsimp only at hSw); go_simp; (try with_reducible rfl)
          (try simp only [Act.put, List.getElem_toArray, List.getElem_cons_zero, List.setIfInBounds_toArray, List.set_cons_zero, List.set_cons_succ])
          refine wpAnyH_take (i := 1) (v := ?_) rfl (by kernel_rfl) (by kernel_rfl) (by kernel_rfl) (fun _ _ _ h => h) (Or.inl ⟨by rfl, ?_⟩) (by assumption) ?_
          rotate_left
          · intro w hSw; (try dsimp only at hSw); go_simp; (try with_reducible rfl)
          (try simp only [Act.put, List.getElem_toArray, List.getElem_cons_zero, List.getElem_cons_succ, List.setIfInBounds_toArray, List.set_cons_zero, List.set_cons_succ])
          refine wpAnyH_take (i := 2) (v := ?_) rfl (by kernel_rfl) (by kernel_rfl) (by kernel_rfl) (fun _ _ _ h => h) (Or.inl ⟨by rfl, ?_⟩) (by assumption) ?_
          rotate_left
          · intro w hSw; (try dsimp only at hSw); go_simp; (try with_reducible rfl)
          (try simp only [Act.put, List.getElem_toArray, List.getElem_cons_zero, List.getElem_cons_succ, List.setIfInBounds_toArray, List.set_cons_zero, List.set_cons_succ])
          refine wpAnyH_take (i := 3) (v := ?_) rfl (by kernel_rfl) (by kernel_rfl) (by kernel_rfl) (fun _ _ _ h => h) (Or.inl ⟨by rfl, ?_⟩) (by assumption) ?_
          rotate_left
          · intro w hSw; (try dsimp only at hSw); go_simp; (try with_reducible rfl)
          (try simp only [Act.put, List.getElem_toArray, List.getElem_cons_zero, List.getElem_cons_succ, List.setIfInBounds_toArray, List.set_cons_zero, List.set_cons_succ])
          refine wpAnyH_take (i := 4) (v := ?_) rfl (by kernel_rfl) (by kernel_rfl) (by kernel_rfl) (fun _ _ _ h => h) (Or.inl ⟨by rfl, ?_⟩) (by assumption) ?_
          rotate_left
          · intro w hSw; (try dsimp only at hSw); go_simp; (try with_reducible rfl)
          (try simp only [Act.put, List.getElem_toArray, List.getElem_cons_zero, List.getElem_cons_succ, List.setIfInBounds_toArray, List.set_cons_zero, List.set_cons_succ])
          refine wpAnyH_take (i := 5) (v := ?_) rfl (by kernel_rfl) (by kernel_rfl) (by kernel_rfl) (fun _ _ _ h => h) (Or.inl ⟨by rfl, ?_⟩) (by assumption) ?_
          rotate_left
          · intro w hSw; (try dsimp only at hSw); go_simp; (try with_reducible rfl)
          (try simp only [Act.put, List.getElem_toArray, List.getElem_cons_zero, List.getElem_cons_succ, List.setIfInBounds_toArray, List.set_cons_zero, List.set_cons_succ])
          refine wpAnyH_take (i := 6) (v := ?_) rfl (by kernel_rfl) (by kernel_rfl) (by kernel_rfl) (fun _ _ _ h => h) (Or.inl ⟨by rfl, ?_⟩) (by assumption) ?_
          rotate_left
          · intro w hSw; (try dsimp only at hSw); go_simp; (try with_reducible rfl)
          (try simp only [Act.put, List.getElem_toArray, List.getElem_cons_zero, List.getElem_cons_succ, List.setIfInBounds_toArray, List.set_cons_zero, List.set_cons_succ])
          refine wpAnyH_take (i := 7) (v := ?_) rfl (by kernel_rfl) (by kernel_rfl) (by kernel_rfl) (fun _ _ _ h => h) (Or.inl ⟨by rfl, ?_⟩) (by assumption) ?_
          rotate_left
          · intro w hSw; (try dsimp only at hSw); go_simp; (try with_reducible rfl)
          (try simp only [Act.put, List.getElem_toArray, List.getElem_cons_zero, List.getElem_cons_succ, List.setIfInBounds_toArray, List.set_cons_zero, List.set_cons_succ])
          refine wpAnyH_take (i := 8) (v := ?_) rfl (by kernel_rfl) (by kernel_rfl) (by kernel_rfl) (fun _ _ _ h => h) (Or.inl ⟨by rfl, ?_⟩) (by assumption) ?_
          rotate_left
          · intro w hSw; (try dsimp only at hSw); go_simp; (try with_reducible rfl)
          (try simp only [Act.put, List.getElem_toArray, List.getElem_cons_zero, List.getElem_cons_succ, List.setIfInBounds_toArray, List.set_cons_zero, List.set_cons_succ])
          refine wpAnyH_take (i := 9) (v := ?_) rfl (by kernel_rfl) (by kernel_rfl) (by kernel_rfl) (fun _ _ _ h => h) (Or.inl ⟨by rfl, ?_⟩) (by assumption) ?_
          rotate_left
          · intro w hSw; (try dsimp only at hSw); go_simp; (try with_reducible rfl)
          (try simp only [Act.put, List.getElem_toArray, List.getElem_cons_zero, List.getElem_cons_succ, List.setIfInBounds_toArray, List.set_cons_zero, List.set_cons_succ])
          refine wpAnyH_take (i := 10) (v := ?_) rfl (by kernel_rfl) (by kernel_rfl) (by kernel_rfl) (fun _ _ _ h => h) (Or.inl ⟨by rfl, ?_⟩) (by assumption) ?_
          rotate_left
          · intro w hSw; (try dsimp only at hSw); go_simp; (try with_reducible rfl)
          (try simp only [Act.put, List.getElem_toArray, List.getElem_cons_zero, List.getElem_cons_succ, List.setIfInBounds_toArray, List.set_cons_zero, List.set_cons_succ])
          refine wpAnyH_take (i := 11) (v := ?_) rfl (by kernel_rfl) (by kernel_rfl) (by kernel_rfl) (fun _ _ _ h => h) (Or.inl ⟨by rfl, ?_⟩) (by assumption) ?_
          rotate_left
          · intro w hSw; (try dsimp only at hSw); go_simp; (try with_reducible rfl)
          (try simp only [Act.put, List.getElem_toArray, List.getElem_cons_zero, List.getElem_cons_succ, List.setIfInBounds_toArray, List.set_cons_zero, List.set_cons_succ])
          refine wpAnyH_ready (rs := [12]) (by kernel_rfl) (by simp) ?_
          refine AllReadyH.cons rfl (fun K hK => ?_) AllReadyH.nil
          go_simp
          with_reducible refine (StoreG m3.drew q ((pshS W).s.R k) bq.1 bq.2).mono ?_
          rintro e w4 ⟨rfl, m4, o4⟩
          have h4 : Wk w4 B (pshS W) := Wk.off (show Wk w3.drew B _ from h3) o4 (by simpa using fun e => hA.2.2 e.symm)
          have cm4 := h4.cm
          dsimp only [pshS, Wo.dat, Wo.reg] at cm4
          refine hK.out _ _ ⟨cm4, h4.reg k hlt⟩ (fun hHeld4 => ?_)
          clear hK K
          (try simp only [Act.put, List.getElem_toArray, List.getElem_cons_zero, List.getElem_cons_succ, List.setIfInBounds_toArray, List.set_cons_zero, List.set_cons_succ])
          refine wpAnyH_take (i := 13) (v := ?_) rfl (by kernel_rfl) (by kernel_rfl) (by kernel_rfl) (fun _ _ _ h => h) (Or.inl ⟨by rfl, ?_⟩) (by assumption) ?_
          rotate_left
          · intro w hSw; (try dsimp only at hSw); go_simp; (try with_reducible rfl)
          (try simp only [Act.put, List.getElem_toArray, List.getElem_cons_zero, List.getElem_cons_succ, List.setIfInBounds_toArray, List.set_cons_zero, List.set_cons_succ])
          refine wpAnyH_done (by kernel_rfl) ?_ _
          clear S1 S2 hHeld hHeld4 cm4
          have O4 : Off [B, R] w w4 := o3.drew.trans (o4.mono (by simp))
          rw [if_pos he] at m4
          rw [he]
          go_wp2_with fail
          go_roundw
          case rel => exact ⟨k + 1, _, _, by omega, rfl, by omega, by go_num, h4, O4, m4, HP⟩
          case measure => simp [intOf]; omega
        · have HP : Hid (pshR 16 0 (pshS W) (pshP W) g = (G, stE q)) := by have x := hP.out; rw [eK, pshR, hl] at x; simp only [if_true, he, if_false] at x; exact x.symm
          have he' : (stE q == 0) = false := by simpa using he
          have HE := hide he
          clear hP eK he
          go_wp2_with fail
          refine (lists_any hU _).mono ?_
          rintro e w3 ⟨rfl, hw3⟩
          rw [hl]
          have h3 : Wk w3 B (pshS W) := by obtain ⟨m, rfl⟩ := hw3; exact hU
          have o3 : Off [B, R] w w3 := by obtain ⟨m, rfl⟩ := hw3; exact oU.drewN _
          have m3 : Is w3 W.m F R n f G := by obtain ⟨m, rfl⟩ := hw3; exact isDrewN mU _
          clear hw3
          have cm := h3.cm
          have ck := h3.reg k hlt
          dsimp only [pshS, Wo.dat, Wo.reg] at cm
          go_wp2_with fail
          have S1 : w3.drew.cell? ⟨B, 20, none⟩ = some (.pointer (some ⟨W.m, 0, none⟩)) := cm
          have S2 : w3.drew.cell? ⟨B, k, none⟩ = some (.int .u32 ((pshS W).s.R k)) := ck
          clear cm ck
          refine wp_region_held_drew (S := fun w' => w'.cell? ⟨B, 20, none⟩ = some (.pointer (some ⟨W.m, 0, none⟩)) ∧ w'.cell? ⟨B, k, none⟩ = some (.int .u32 ((pshS W).s.R k))) (by kernel_rfl) ⟨S1, S2⟩ (fun hHeld => ?_)
          refine wpAnyH_take (i := 0) (v := ?_) rfl (by kernel_rfl) (by kernel_rfl) (by kernel_rfl) (fun _ _ _ h => h) (Or.inl ⟨by rfl, ?_⟩) (by assumption) ?_
          rotate_left
          · intro w hSw; (try dsimp only at hSw); go_simp; (try with_reducible rfl)
          (try simp only [Act.put, List.getElem_toArray, List.getElem_cons_zero, List.setIfInBounds_toArray, List.set_cons_zero, List.set_cons_succ])
          refine wpAnyH_take (i := 1) (v := ?_) rfl (by kernel_rfl) (by kernel_rfl) (by kernel_rfl) (fun _ _ _ h => h) (Or.inl ⟨by rfl, ?_⟩) (by assumption) ?_
          rotate_left
          · intro w hSw; (try dsimp only at hSw); go_simp; (try with_reducible rfl)
          (try simp only [Act.put, List.getElem_toArray, List.getElem_cons_zero, List.getElem_cons_succ, List.setIfInBounds_toArray, List.set_cons_zero, List.set_cons_succ])
          refine wpAnyH_take (i := 2) (v := ?_) rfl (by kernel_rfl) (by kernel_rfl) (by kernel_rfl) (fun _ _ _ h => h) (Or.inl ⟨by rfl, ?_⟩) (by assumption) ?_
          rotate_left
          · intro w hSw; (try dsimp only at hSw); go_simp; (try with_reducible rfl)
          (try simp only [Act.put, List.getElem_toArray, List.getElem_cons_zero, List.getElem_cons_succ, List.setIfInBounds_toArray, List.set_cons_zero, List.set_cons_succ])
          refine wpAnyH_take (i := 3) (v := ?_) rfl (by kernel_rfl) (by kernel_rfl) (by kernel_rfl) (fun _ _ _ h => h) (Or.inl ⟨by rfl, ?_⟩) (by assumption) ?_
          rotate_left
          · intro w hSw; (try dsimp only at hSw); go_simp; (try with_reducible rfl)
          (try simp only [Act.put, List.getElem_toArray, List.getElem_cons_zero, List.getElem_cons_succ, List.setIfInBounds_toArray, List.set_cons_zero, List.set_cons_succ])
          refine wpAnyH_take (i := 4) (v := ?_) rfl (by kernel_rfl) (by kernel_rfl) (by kernel_rfl) (fun _ _ _ h => h) (Or.inl ⟨by rfl, ?_⟩) (by assumption) ?_
          rotate_left
          · intro w hSw; (try dsimp only at hSw); go_simp; (try with_reducible rfl)
          (try simp only [Act.put, List.getElem_toArray, List.getElem_cons_zero, List.getElem_cons_succ, List.setIfInBounds_toArray, List.set_cons_zero, List.set_cons_succ])
          refine wpAnyH_take (i := 5) (v := ?_) rfl (by kernel_rfl) (by kernel_rfl) (by kernel_rfl) (fun _ _ _ h => h) (Or.inl ⟨by rfl, ?_⟩) (by assumption) ?_
          rotate_left
          · intro w hSw; (try dsimp only at hSw); go_simp; (try with_reducible rfl)
          (try simp only [Act.put, List.getElem_toArray, List.getElem_cons_zero, List.getElem_cons_succ, List.setIfInBounds_toArray, List.set_cons_zero, List.set_cons_succ])
          refine wpAnyH_take (i := 6) (v := ?_) rfl (by kernel_rfl) (by kernel_rfl) (by kernel_rfl) (fun _ _ _ h => h) (Or.inl ⟨by rfl, ?_⟩) (by assumption) ?_
          rotate_left
          · intro w hSw; (try dsimp only at hSw); go_simp; (try with_reducible rfl)
          (try simp only [Act.put, List.getElem_toArray, List.getElem_cons_zero, List.getElem_cons_succ, List.setIfInBounds_toArray, List.set_cons_zero, List.set_cons_succ])
          refine wpAnyH_take (i := 7) (v := ?_) rfl (by kernel_rfl) (by kernel_rfl) (by kernel_rfl) (fun _ _ _ h => h) (Or.inl ⟨by rfl, ?_⟩) (by assumption) ?_
          rotate_left
          · intro w hSw; (try dsimp only at hSw); go_simp; (try with_reducible rfl)
          (try simp only [Act.put, List.getElem_toArray, List.getElem_cons_zero, List.getElem_cons_succ, List.setIfInBounds_toArray, List.set_cons_zero, List.set_cons_succ])
          refine wpAnyH_take (i := 8) (v := ?_) rfl (by kernel_rfl) (by kernel_rfl) (by kernel_rfl) (fun _ _ _ h => h) (Or.inl ⟨by rfl, ?_⟩) (by assumption) ?_
          rotate_left
          · intro w hSw; (try dsimp only at hSw); go_simp; (try with_reducible rfl)
          (try simp only [Act.put, List.getElem_toArray, List.getElem_cons_zero, List.getElem_cons_succ, List.setIfInBounds_toArray, List.set_cons_zero, List.set_cons_succ])
          refine wpAnyH_take (i := 9) (v := ?_) rfl (by kernel_rfl) (by kernel_rfl) (by kernel_rfl) (fun _ _ _ h => h) (Or.inl ⟨by rfl, ?_⟩) (by assumption) ?_
          rotate_left
          · intro w hSw; (try dsimp only at hSw); go_simp; (try with_reducible rfl)
          (try simp only [Act.put, List.getElem_toArray, List.getElem_cons_zero, List.getElem_cons_succ, List.setIfInBounds_toArray, List.set_cons_zero, List.set_cons_succ])
          refine wpAnyH_take (i := 10) (v := ?_) rfl (by kernel_rfl) (by kernel_rfl) (by kernel_rfl) (fun _ _ _ h => h) (Or.inl ⟨by rfl, ?_⟩) (by assumption) ?_
          rotate_left
          · intro w hSw; (try dsimp only at hSw); go_simp; (try with_reducible rfl)
          (try simp only [Act.put, List.getElem_toArray, List.getElem_cons_zero, List.getElem_cons_succ, List.setIfInBounds_toArray, List.set_cons_zero, List.set_cons_succ])
          refine wpAnyH_take (i := 11) (v := ?_) rfl (by kernel_rfl) (by kernel_rfl) (by kernel_rfl) (fun _ _ _ h => h) (Or.inl ⟨by rfl, ?_⟩) (by assumption) ?_
          rotate_left
          · intro w hSw; (try dsimp only at hSw); go_simp; (try with_reducible rfl)
          (try simp only [Act.put, List.getElem_toArray, List.getElem_cons_zero, List.getElem_cons_succ, List.setIfInBounds_toArray, List.set_cons_zero, List.set_cons_succ])
          refine wpAnyH_ready (rs := [12]) (by kernel_rfl) (by simp) ?_
          refine AllReadyH.cons rfl (fun K hK => ?_) AllReadyH.nil
          go_simp
          with_reducible refine (StoreG m3.drew q ((pshS W).s.R k) bq.1 bq.2).mono ?_
          rintro e w4 ⟨rfl, m4, o4⟩
          have h4 : Wk w4 B (pshS W) := Wk.off (show Wk w3.drew B _ from h3) o4 (by simpa using fun e => hA.2.2 e.symm)
          have cm4 := h4.cm
          dsimp only [pshS, Wo.dat, Wo.reg] at cm4
          refine hK.out _ _ ⟨cm4, h4.reg k hlt⟩ (fun hHeld4 => ?_)
          clear hK K
          (try simp only [Act.put, List.getElem_toArray, List.getElem_cons_zero, List.getElem_cons_succ, List.setIfInBounds_toArray, List.set_cons_zero, List.set_cons_succ])
          refine wpAnyH_take (i := 13) (v := ?_) rfl (by kernel_rfl) (by kernel_rfl) (by kernel_rfl) (fun _ _ _ h => h) (Or.inl ⟨by rfl, ?_⟩) (by assumption) ?_
          rotate_left
          · intro w hSw; (try dsimp only at hSw); go_simp; (try with_reducible rfl)
          (try simp only [Act.put, List.getElem_toArray, List.getElem_cons_zero, List.getElem_cons_succ, List.setIfInBounds_toArray, List.set_cons_zero, List.set_cons_succ])
          refine wpAnyH_done (by kernel_rfl) ?_ _
          clear S1 S2 hHeld hHeld4 cm4
          have O4 : Off [B, R] w w4 := o3.drew.trans (o4.mono (by simp))
          rw [if_neg (unhide HE)] at m4
          go_wp2_with fail
          go_ret
          exact ⟨ret_int (by unfold pshE; rw [HP.out]), h4, by unfold pshG; rw [HP.out]; exact m4, O4⟩
    · have e16 : k = 16 := by omega
      subst e16
      have HP : Hid (pshR 16 0 (pshS W) (pshP W) g = (G, 0)) := hP.out.symm
      go_wp2_with fail
      go_ret
      exact ⟨ret_int (by unfold pshE; rw [HP.out]), hU, by unfold pshG; rw [HP.out]; exact mU, oU⟩
end Go.Proofs.YtfdnjoieolijcaaGreatDoor.Core

/-! What any instruction does: package core. -/
set_option linter.unusedVariables false
namespace Go.Proofs.YtfdnjoieolijcaaGreatDoor.Core
open Go.RowKit Go.Proofs.YtfdnjoieolijcaaGreatDoor.Mem Go.Proofs.YtfdnjoieolijcaaGreatDoor.Alu

def isLd (f : Int) : Bool := f == 32 || f == 34 || f == 36 || f == 38 || f == 85 || f == 87
def isSt (f : Int) : Bool := f == 33 || f == 35 || f == 37 || f == 84 || f == 86
/-- What is told, what the step's box is, and what RAM is behind an instruction. -/
def exeE (n : Nat) (f g : Nat → Int) (W : Wo) : Int :=
  if isLd W.i.f then ldE n (adrV W) else if isSt W.i.f then storE W else if W.i.f = 42 then pshE g W else if W.i.f = 43 then popE n f g W else 0
def exeW (n : Nat) (f g : Nat → Int) (W : Wo) : Wo :=
  if isLd W.i.f then loadW n f g W else if isSt W.i.f then W.dat (adrV W) 1 else if W.i.f = 42 then pshS W else if W.i.f = 43 then popW n f g W else compW W
def exeG (g : Nat → Int) (W : Wo) : Nat → Int := if isSt W.i.f then storG g W else if W.i.f = 42 then pshG g W else g

theorem isCast {w : World} {M F R n : Nat} {f g g' : Nat → Int} (h : Is w M F R n f g) (e : g' = g) : Is w M F R n f g' := e ▸ h

set_option maxRecDepth 100000 in
set_option maxHeartbeats 4000000 in
theorem execute_any {w : World} {B F R n : Nat} {W : Wo} {f g : Nat → Int} (h : Wk w B W) (hL : Inst.Laid w) (hB : NoTab B) (ok : Ok W) (hne : W.i.f = 95 ∨ W.i.f = 96 → W.i.rd ≠ W.i.ra) (hm : Is w W.m F R n f g) (hf : ∀ i, i < n → 0 ≤ f i ∧ f i < 256) (hn : n ≤ 65536) (hgb : ∀ i, 0 ≤ g i ∧ g i < 4294967296) :
    Calls Tryz.prog 74 #[.pointer (some ⟨B, 0, none⟩)] w fun e w' => e = .returned (.int .i64 (exeE n f g W)) ∧ Wk w' B (exeW n f g W) ∧ Is w' W.m F R n f (exeG g W) ∧ Off [B, R] w w' := by
  have cf := h.cf
  have HN := hide hne
  have hA := hide (wkApart h hm)
  have HB : Hid (∀ w', Off [B] w w' → Is w' W.m F R n f g) := fun w' o => isOff hm o (by simpa using hA.out.1) (by simpa using hA.out.2.1) (by simpa using hA.out.2.2)
  clear hne
  go_enter Tryz.func74, Tryz.ntmps74
  go_wp2_with (first
    | (go_at_call 118; refine (load_any h ok hm hf hn).mono ?_; rintro e w1 ⟨rfl, h1, o1⟩; have m1 := HB.out _ o1; replace o1 : Off [B, R] w w1 := o1.mono (by simp))
    | (go_at_call 119; refine (store_any h ok hm).mono ?_; rintro e w1 ⟨rfl, h1, m1, o1⟩)
    | (go_at_call 120; refine (push_any h ok hm).mono ?_; rintro e w1 ⟨rfl, h1, m1, o1⟩)
    | (go_at_call 121; refine (pop_any h ok hm hf hn hgb).mono ?_; rintro e w1 ⟨rfl, h1, o1⟩; have m1 := HB.out _ o1; replace o1 : Off [B, R] w w1 := o1.mono (by simp))
    | (go_at_call 122; refine (compute_any h hL hB ok (unhide HN)).mono ?_; rintro e w1 ⟨rfl, h1, o1⟩; have m1 := HB.out _ o1; replace o1 : Off [B, R] w w1 := o1.mono (by simp)))
  all_goals
    go_ret
    exact ⟨ret_int (by unfold exeE; go_light; simp_all [isLd, isSt]), h1.cast (by unfold exeW; go_light; simp_all [isLd, isSt]), isCast m1 (by unfold exeG; go_light; simp_all [isSt]), o1⟩
end Go.Proofs.YtfdnjoieolijcaaGreatDoor.Core

/-! A step: package core. -/
set_option linter.unusedVariables false
namespace Go.Proofs.YtfdnjoieolijcaaGreatDoor.Core
open Go.RowKit Go.Proofs.YtfdnjoieolijcaaGreatDoor.Mem Go.Proofs.YtfdnjoieolijcaaGreatDoor.Alu

def zE : Array Value := #[.int .u32 0, .int .u32 0, .int .i64 0, .int .i64 0, .int .i64 0]

set_option maxRecDepth 100000 in
set_option maxHeartbeats 4000000 in
theorem step_fault {w : World} {C F R n : Nat} {M : Mc} {f g : Nat → Int} (h : Mx w C M) (hm : Is w M.m F R n f g) (hf : ∀ i, i < n → 0 ≤ f i ∧ f i < 256) (hn : n ≤ 65536) (hg : Good M.s) (hL : Code.Laid w)
    (hA : ∀ j e, AtI n f (M.s.R 15) j e → e ≠ 0) :
    Calls Tryz.prog 38 #[.pointer (some ⟨C, 0, none⟩)] w fun e w' => ∃ en, (∃ j, AtI n f (M.s.R 15) j en) ∧ e = .returned (.tuple #[.agg #[.int .u32 0, .int .u32 0, .int .i64 0, .int .i64 0, .int .i64 0], .int .i64 en]) ∧ Below w.heap.size w w' := by
  have c0 : w.cell? ⟨C, 0, none⟩ = some (.pointer (some ⟨M.m, 0, none⟩)) := h.cell rfl
  have c17 : w.cell? ⟨C, 17, none⟩ = some (.int .u32 (M.s.R 15)) := h.cell rfl
  have hl := h.lt
  have b15 := hg.r 15
  have hB := (Below.refl w.heap.size w).alloc (Nat.le_refl _) (.cells #[.int .u32 0, .int .u32 0, .int .i64 0, .int .i64 0, .int .i64 0] 41)
  go_enter Tryz.func38, Tryz.ntmps38
  go_wp2_with fail
  refine (instAt_any (hm.below hB) hf hn _ b15.1 b15.2 (hL.below hB)).mono ?_
  rintro e w1 ⟨hb1, j, en, hj, rfl⟩
  have hne := hA j en hj
  obtain ⟨hc, hfz⟩ := Inst.bcell hb1
  have hz : w.heap.size < w1.heap.size := by have := hb1.size; simp at this; omega
  have hb2 : Below w.heap.size w w1 := hB.trans (hb1.mono hB.size)
  have hne' : (en == 0) = false := by simpa using hne
  clear hne
  dsimp only [inv]
  go_wp2_with fail
  refine bodyPost_ret (v := .tuple #[.agg #[.int .u32 0, .int .u32 0, .int .i64 0, .int .i64 0, .int .i64 0], .int .i64 en]) (by simp [results, Tryz.results38, go_sem, hc, hz]) rfl ⟨en, ⟨j, hj⟩, rfl, ?_⟩
  have hs1 : w.heap.size ≤ w1.heap.size := Nat.le_of_lt hz
  repeat (first | exact hb2 | refine Below.setCell ?_ (by first | exact Nat.le_refl _ | exact hs1) _ | refine Below.alloc ?_ (by first | exact hs1 | (simp; omega)) _)
end Go.Proofs.YtfdnjoieolijcaaGreatDoor.Core

/-! What any instruction leaves is a state again: registers are words, flags are 0 or 1. No function of the program is walked here. -/
set_option linter.unusedVariables false
namespace Go.Proofs.YtfdnjoieolijcaaGreatDoor.Core
open Go.RowKit Go.Proofs.YtfdnjoieolijcaaGreatDoor.Mem Go.Proofs.YtfdnjoieolijcaaGreatDoor.Alu

theorem Good.reg {s : St} (h : Good s) (k : Nat) (x : Int) (hx : 0 ≤ x ∧ x < 4294967296) : Good (s.reg k x) := ⟨Regs.put h.r k x hx, h.n, h.z, h.c, h.v⟩
theorem Good.wreg {W : Wo} (h : Good W.s) (k : Nat) (x : Int) (hx : 0 ≤ x ∧ x < 4294967296) : Good (W.reg k x).s := Good.reg h k x hx
theorem putV_bd (rd : Int) {x : Int} (hx : 0 ≤ x ∧ x < 4294967296) : 0 ≤ putV rd x ∧ putV rd x < 4294967296 := by
  unfold putV; split
  · exact bits_u32_bd _ _ _
  · exact hx
theorem Good.put {W : Wo} (h : Good W.s) {x : Int} (hx : 0 ≤ x ∧ x < 4294967296) : Good (W.put x).s := Good.reg h _ _ (putV_bd _ hx)
theorem Good.sgn {W : Wo} (h : Good W.s) (x : Int) : Good (W.sgn x).s := ⟨h.r, show 0 ≤ bit x 31 ∧ bit x 31 ≤ 1 from bit_bd _ _, by have := b01_bd x; show 0 ≤ 1 - b01 x ∧ 1 - b01 x ≤ 1; omega, h.c, h.v⟩
theorem Good.setC {W : Wo} (h : Good W.s) {c : Int} (hc : 0 ≤ c ∧ c ≤ 1) : Good (W.setC c).s := ⟨h.r, h.n, h.z, hc, h.v⟩
theorem Good.setV {W : Wo} (h : Good W.s) {v : Int} (hv : 0 ≤ v ∧ v ≤ 1) : Good (W.setV v).s := ⟨h.r, h.n, h.z, h.c, hv⟩
theorem Good.fin {W : Wo} (h : Good W.s) {x : Int} (hx : 0 ≤ x ∧ x < 4294967296) {F : Wo → Wo} (hF : ∀ U : Wo, Good U.s → Good (F U).s) : Good (W.fin x F).s := by
  unfold Wo.fin
  have h1 : Good (if keepB W then W.put x else W).s := by split; exact h.put hx; exact h
  dsimp only
  split
  · exact hF _ (h1.sgn x)
  · exact h1
theorem cyA_bd (n : Int) {c : Int} : 0 ≤ Imm.cyA n c ∧ Imm.cyA n c ≤ 1 := by
  unfold Imm.cyA
  split
  · split
    · have := Imm.wdA_bd n
      unfold Imm.wdA at this
      rw [if_pos (by assumption)] at this
      omega
    · exact b01_bd _
  · omega
theorem sndC_bd {W : Wo} (ok : Ok W) : 0 ≤ sndC W ∧ sndC W ≤ 1 := by
  unfold sndC
  split
  · exact shC_bd _ _ _ (ok.g.r _).1 (ok.g.r _).2 _
  · split
    · exact cyA_bd _
    · exact ok.g.c
theorem lngP_bd {W : Wo} (ok : Ok W) : 0 ≤ lngP W ∧ lngP W < 18446744073709551616 := by
  have h1 := fstV_bd ok
  have h2 := ok.g.r W.i.rm.toNat
  unfold lngP
  split
  · generalize fstV W * W.s.R W.i.rm.toNat / 4294967296 * 4294967296 + fstV W * W.s.R W.i.rm.toNat % 4294967296 + (W.s.R W.i.ra.toNat * 4294967296 + W.s.R W.i.rd.toNat) = y
    have e : IntKind.u64.wrap y = y % 18446744073709551616 := by simp [IntKind.wrap, IntKind.bits, IntKind.signed]
    rw [e]; omega
  · generalize fstV W = x at *
    generalize W.s.R W.i.rm.toNat = y at *
    have h3 : 0 ≤ x * y := Int.mul_nonneg h1.1 h2.1
    have h4 : x * y ≤ 4294967295 * 4294967295 := Int.mul_le_mul (by omega) (by omega) h2.1 (by omega)
    generalize x * y = p at *
    omega

/-- What is asked of a step's box behind an instruction. -/
structure Fine (W0 W : Wo) : Prop where
  g : Good W.s
  i : W.i = W0.i
  m : W.m = W0.m
  k : (W.hk = W0.hk ∧ W.hc = W0.hc) ∨ (W.hk = 1 ∧ W.hc = 0) ∨ (W.hk = 2 ∧ W.hc = W0.i.im)

theorem Wo.put_i (W : Wo) (x : Int) : (W.put x).i = W.i ∧ (W.put x).m = W.m ∧ (W.put x).hk = W.hk ∧ (W.put x).hc = W.hc := ⟨rfl, rfl, rfl, rfl⟩
theorem Wo.fin_i (W : Wo) (x : Int) (F : Wo → Wo) (hF : ∀ U : Wo, (F U).i = U.i ∧ (F U).m = U.m ∧ (F U).hk = U.hk ∧ (F U).hc = U.hc) : (W.fin x F).i = W.i ∧ (W.fin x F).m = W.m ∧ (W.fin x F).hk = W.hk ∧ (W.fin x F).hc = W.hc := by
  have h1 : (if keepB W then W.put x else W).i = W.i ∧ (if keepB W then W.put x else W).m = W.m ∧ (if keepB W then W.put x else W).hk = W.hk ∧ (if keepB W then W.put x else W).hc = W.hc := by split <;> exact ⟨rfl, rfl, rfl, rfl⟩
  unfold Wo.fin
  dsimp only
  split
  · obtain ⟨a, b, c, d⟩ := hF ((if keepB W then W.put x else W).sgn x)
    exact ⟨a.trans h1.1, b.trans h1.2.1, c.trans h1.2.2.1, d.trans h1.2.2.2⟩
  · exact h1
theorem Fine.of {W0 W : Wo} (g : Good W.s) (h : W.i = W0.i ∧ W.m = W0.m ∧ W.hk = W0.hk ∧ W.hc = W0.hc) : Fine W0 W := ⟨g, h.1, h.2.1, .inl h.2.2⟩

theorem back_fine {W : Wo} (h : Good W.s) (a : Int) : Fine W (backW W a) := by
  unfold backW
  split
  · exact ⟨h, rfl, rfl, .inr (.inl ⟨rfl, rfl⟩)⟩
  · exact .of (h.wreg 15 _ (bits_u32_bd _ _ _)) ⟨rfl, rfl, rfl, rfl⟩
theorem shift_fine {W : Wo} (ok : Ok W) : Fine W (shiftW W) := by
  have hX := shX_bd ok
  have hY : 0 ≤ shY W ∧ shY W < 4294967296 := shW_bd _ _ hX.1 hX.2 _
  have hK : 0 ≤ shK W ∧ shK W ≤ 1 := shC_bd _ _ _ hX.1 hX.2 _
  unfold shiftW
  split
  · exact .of (((ok.g.put hY).sgn _).setC hK) ⟨rfl, rfl, rfl, rfl⟩
  · exact .of (ok.g.put hY) ⟨rfl, rfl, rfl, rfl⟩
theorem comb_fine {W : Wo} (ok : Ok W) : Fine W (combW W) :=
  .of (ok.g.fin (cmbV_bd _ (sndY_bd ok)) (fun _ hU => hU.setC (sndC_bd ok))) (Wo.fin_i _ _ _ (fun _ => ⟨rfl, rfl, rfl, rfl⟩))
theorem sum_fine {W : Wo} (ok : Ok W) : Fine W (sumW W) := by
  have hX := adX_bd W.i.f (fstV_bd ok) (sndY_bd ok)
  have hY := adY_bd W.i.f (fstV_bd ok) (sndY_bd ok)
  have hC : 0 ≤ adC W.i.f W.s.c ∧ adC W.i.f W.s.c ≤ 1 := by have := ok.g.c; unfold adC; repeat' split
                                                            all_goals omega
  have h2 : 0 ≤ sumC W ∧ sumC W ≤ 1 := addC_bd _ _ _ hX.1 hX.2 hY.1 hY.2
  exact .of (ok.g.fin (addS_bd _ _ _) (fun _ hU => (hU.setC h2).setV (addV_bd _ _ _))) (Wo.fin_i _ _ _ (fun _ => ⟨rfl, rfl, rfl, rfl⟩))
theorem mult_fine {W : Wo} (ok : Ok W) : Fine W (multW W) := by
  have hP : 0 ≤ mulP W ∧ mulP W < 4294967296 := by unfold mulP; omega
  unfold multW
  split
  · exact .of ((ok.g.sgn _).put hP) ⟨rfl, rfl, rfl, rfl⟩
  · split
    · exact .of (ok.g.put (by omega)) ⟨rfl, rfl, rfl, rfl⟩
    · split
      · exact .of (ok.g.put (by omega)) ⟨rfl, rfl, rfl, rfl⟩
      · exact .of (ok.g.put hP) ⟨rfl, rfl, rfl, rfl⟩
theorem long_fine {W : Wo} (ok : Ok W) : Fine W (longW W) := by
  have hP := lngP_bd ok
  exact .of ((ok.g.wreg _ _ (by omega)).wreg _ _ (by omega)) ⟨rfl, rfl, rfl, rfl⟩
theorem quo_bd {W : Wo} (ok : Ok W) : 0 ≤ quoV W ∧ quoV W < 4294967296 := by
  have h1 := fstV_bd ok
  have h2 := ok.g.r W.i.rm.toNat
  unfold quoV
  split
  · omega
  · exact ⟨Int.ediv_nonneg h1.1 h2.1, Int.lt_of_le_of_lt (Int.ediv_le_self _ h1.1) h1.2⟩
theorem clz_bd {W : Wo} (ok : Ok W) : 0 ≤ clzV W ∧ clzV W < 4294967296 := by
  have h2 := ok.g.r W.i.rm.toNat
  have h3 := bitLen_bd _ h2.1 h2.2
  unfold clzV; omega
theorem half_bd (W : Wo) : 0 ≤ halfV W ∧ halfV W < 4294967296 := by
  unfold halfV; split
  · exact bits_u32_bd _ _ _
  · omega
theorem stk_fine {W : Wo} (ok : Ok W) : Fine W (stkW W) := by
  unfold stkW
  repeat' split
  · exact .of (ok.g.wreg _ _ (by omega)) ⟨rfl, rfl, rfl, rfl⟩
  · exact .of (ok.g.wreg _ _ (by omega)) ⟨rfl, rfl, rfl, rfl⟩
  · exact .of (ok.g.wreg _ _ (by omega)) ⟨rfl, rfl, rfl, rfl⟩
  · exact .of ok.g ⟨rfl, rfl, rfl, rfl⟩
theorem jmp_fine {W : Wo} (ok : Ok W) : Fine W (jmpW W) := by
  unfold jmpW
  split
  · exact .of ok.g ⟨rfl, rfl, rfl, rfl⟩
  · exact .of (ok.g.wreg _ _ (by omega)) ⟨rfl, rfl, rfl, rfl⟩
theorem comp_fine {W : Wo} (ok : Ok W) : Fine W (compW W) := by
  unfold compW
  by_cases c1 : isShift W.i.f = true
  · rw [if_pos c1]; exact shift_fine ok
  rw [if_neg c1]
  by_cases c2 : isComb W.i.f = true
  · rw [if_pos c2]; exact comb_fine ok
  rw [if_neg c2]
  by_cases c3 : isSum W.i.f = true
  · rw [if_pos c3]; exact sum_fine ok
  rw [if_neg c3]
  split
  · exact mult_fine ok
  split
  · exact long_fine ok
  split
  · exact .of (ok.g.put (quo_bd ok)) ⟨rfl, rfl, rfl, rfl⟩
  split
  · exact .of (ok.g.put (clz_bd ok)) ⟨rfl, rfl, rfl, rfl⟩
  split
  · exact .of (ok.g.put (half_bd W)) ⟨rfl, rfl, rfl, rfl⟩
  split
  · exact stk_fine ok
  split
  · exact jmp_fine ok
  split
  · exact back_fine ok.g _
  split
  · exact ⟨ok.g, rfl, rfl, .inr (.inr ⟨rfl, rfl⟩)⟩
  · exact .of ok.g ⟨rfl, rfl, rfl, rfl⟩

/-- Words of RAM are words. -/
def Words (g : Nat → Int) : Prop := ∀ i, 0 ≤ g i ∧ g i < 4294967296
theorem Words.put {g : Nat → Int} (h : Words g) (k : Nat) (x : Int) (hx : 0 ≤ x ∧ x < 4294967296) : Words (Mem.put g k x) := fun i => by
  unfold Mem.put; split; exact hx; exact h i
theorem Fine.trans {A B C : Wo} (h : Fine A B) (k : Fine B C) : Fine A C := by
  refine ⟨k.g, k.i.trans h.i, k.m.trans h.m, ?_⟩
  rcases k.k with ⟨a, b⟩ | k' | ⟨a, b⟩
  · rcases h.k with ⟨c, d⟩ | ⟨c, d⟩ | ⟨c, d⟩
    · exact .inl ⟨a.trans c, b.trans d⟩
    · exact .inr (.inl ⟨a.trans c, b.trans d⟩)
    · exact .inr (.inr ⟨a.trans c, b.trans d⟩)
  · exact .inr (.inl k')
  · exact .inr (.inr ⟨a, by rw [b, h.i]⟩)
theorem Fine.dat {W0 W : Wo} (h : Fine W0 W) (a k : Int) : Fine W0 (W.dat a k) := ⟨h.g, h.i, h.m, h.k⟩
theorem Fine.refl {W : Wo} (h : Good W.s) : Fine W W := .of h ⟨rfl, rfl, rfl, rfl⟩
theorem ldd_fine {W : Wo} (h : Good W.s) (r x : Int) (hx : 0 ≤ x ∧ x < 4294967296) : Fine W (lddW W r x) := by
  unfold lddW
  split
  · exact back_fine h _
  · exact .of (h.wreg _ _ hx) ⟨rfl, rfl, rfl, rfl⟩
theorem popR_fine (n : Nat) (f g : Nat → Int) (hf : ∀ i, i < n → 0 ≤ f i ∧ f i < 256) (hg : Words g) : ∀ (k r : Nat) (W : Wo), Good W.s → Fine W (popR n f g k r W).1
  | 0, r, W, h => .refl h
  | k + 1, r, W, h => by
    unfold popR
    split
    · split
      · have h1 := h.wreg 13 ((W.s.R 13 + 4) % 4294967296) (by omega)
        have h2 := ldd_fine h1 r (ldV n f g (W.s.R 13)) (ldV_bd n f g hf hg _)
        have h3 := popR_fine n f g hf hg k (r + 1) _ h2.g
        exact (Fine.trans (Fine.of (W0 := W) h1 ⟨rfl, rfl, rfl, rfl⟩) h2).trans h3
      · exact .refl h
    · exact popR_fine n f g hf hg k (r + 1) W h
theorem pop_fine {n : Nat} {f g : Nat → Int} (hf : ∀ i, i < n → 0 ≤ f i ∧ f i < 256) (hg : Words g) {W : Wo} (h : Good W.s) : Fine W (popW n f g W) :=
  Fine.trans (B := popS W) (.of h ⟨rfl, rfl, rfl, rfl⟩) (popR_fine n f g hf hg 16 0 _ h)
theorem exe_fine {n : Nat} {f g : Nat → Int} (hf : ∀ i, i < n → 0 ≤ f i ∧ f i < 256) (hg : Words g) {W : Wo} (ok : Ok W) : Fine W (exeW n f g W) := by
  unfold exeW
  by_cases c1 : isLd W.i.f = true
  · rw [if_pos c1]
    unfold loadW
    split
    · exact .of (Good.put (W := W.dat (adrV W) 1) ok.g (ldV_bd n f g hf hg _)) ⟨rfl, rfl, rfl, rfl⟩
    · exact .of ok.g ⟨rfl, rfl, rfl, rfl⟩
  rw [if_neg c1]
  by_cases c2 : isSt W.i.f = true
  · rw [if_pos c2]; exact .of ok.g ⟨rfl, rfl, rfl, rfl⟩
  rw [if_neg c2]
  split
  · exact .of (ok.g.wreg 13 _ (by unfold pshP; omega)) ⟨rfl, rfl, rfl, rfl⟩
  split
  · exact pop_fine hf hg ok.g
  · exact comp_fine ok
theorem pshR_words : ∀ (k r : Nat) (W : Wo) (p : Int) (g : Nat → Int), Good W.s → Words g → Words (pshR k r W p g).1
  | 0, r, W, p, g, h, hg => hg
  | k + 1, r, W, p, g, h, hg => by
    unfold pshR
    split
    · split
      · exact pshR_words k (r + 1) W _ _ h (hg.put _ _ (h.r _))
      · exact hg
    · exact pshR_words k (r + 1) W p g h hg
theorem exe_words {g : Nat → Int} (hg : Words g) {W : Wo} (ok : Ok W) : Words (exeG g W) := by
  unfold exeG
  split
  · unfold storG
    split
    · exact hg.put _ _ (ok.g.r _)
    · exact hg
  · split
    · exact pshR_words 16 0 _ _ g (ok.g.wreg 13 _ (by unfold pshP; omega)) hg
    · exact hg

theorem shp_95 : Inst.shp 95 = 31 ∧ Inst.shp 96 = 31 := by decide +kernel
set_option maxHeartbeats 4000000 in
/-- A right instruction's fields lie within their bounds. -/
theorem fit_of_right {i : Ins} (h : i.right = true) (g0 : -9223372036854775808 ≤ i.rg) (g1 : i.rg ≤ 9223372036854775807) : Fit i ∧ (i.f = 95 ∨ i.f = 96 → i.rd ≠ i.ra) := by
  have hp : i.f = 95 ∨ i.f = 96 → i.rd ≠ i.ra := fun hf => by
    have h' := h
    unfold Ins.right Inst.right at h'
    simp only [Bool.and_eq_true] at h'
    have h3 := h'.2.2.1
    unfold Inst.pairR at h3
    have e : Inst.shp i.f = 31 := by rcases hf with e | e <;> rw [e]; exact shp_95.1; exact shp_95.2
    rw [if_neg (by omega), if_pos e] at h3
    exact of_decide_eq_true h3
  refine ⟨?_, hp⟩
  obtain ⟨⟨i0, i1⟩, h2⟩ := Code.at_own (show Inst.right i.f i.rd i.rn i.rm i.ra i.im i.kd i.bs i.st i.cd i.rg = true from h) g0 g1
  have hs : 1 ≤ Inst.shp i.f ∧ Inst.shp i.f ≤ 34 := by
    have := Inst.shp_yes (f := i.f) (by unfold Inst.isF; simp; omega)
    omega
  obtain ⟨f, rd, rn, rm, ra, im, kd, bs, st, cd, rg⟩ := i
  dsimp only at *
  have HI : ∀ s, s = Inst.shp f → 1 ≤ s → s ≤ 34 → (if s < 17 then Inst.narrowB f s rd rn rm ra im kd bs st cd rg else Inst.wideB s rd rn rm ra im kd bs st cd rg) = true → (0 ≤ rd ∧ rd ≤ 14) ∧ (0 ≤ rn ∧ rn ≤ 14) ∧ (0 ≤ rm ∧ rm ≤ 14) ∧ (0 ≤ ra ∧ ra ≤ 14) ∧ (0 ≤ kd ∧ kd ≤ 3) ∧ (0 ≤ bs ∧ bs ≤ 32) ∧ (s = 1 → 0 ≤ im ∧ im ≤ 32) ∧ (0 ≤ cd ∧ cd ≤ 13) ∧ (0 ≤ rg ∧ rg < 65536) := by
    clear h h2 hp hs g0 g1
    intro s _ h1 h34 h
    rcases (show s = 1 ∨ s = 2 ∨ s = 3 ∨ s = 4 ∨ s = 5 ∨ s = 6 ∨ s = 7 ∨ s = 8 ∨ s = 9 ∨ s = 10 ∨ s = 11 ∨ s = 12 ∨ s = 13 ∨ s = 14 ∨ s = 15 ∨ s = 16 ∨ s = 17 ∨ s = 18 ∨ s = 19 ∨ s = 20 ∨ s = 21 ∨ s = 22 ∨ s = 23 ∨ s = 24 ∨ s = 25 ∨ s = 26 ∨ s = 27 ∨ s = 28 ∨ s = 29 ∨ s = 30 ∨ s = 31 ∨ s = 32 ∨ s = 33 ∨ s = 34 by omega) with rfl | rfl | rfl | rfl | rfl | rfl | rfl | rfl | rfl | rfl | rfl | rfl | rfl | rfl | rfl | rfl | rfl | rfl | rfl | rfl | rfl | rfl | rfl | rfl | rfl | rfl | rfl | rfl | rfl | rfl | rfl | rfl | rfl | rfl
    · have := Code.lin_1 h; omega
    · have := Code.lin_2 h; omega
    · have := Code.lin_3 h; omega
    · have := Code.lin_4 h; omega
    · have := Code.lin_5 h; omega
    · have := Code.lin_6 h; omega
    · have := Code.lin_7 h; omega
    · have := Code.lin_8 h; omega
    · have := Code.lin_9 h; omega
    · have := Code.lin_10 h; omega
    · have := Code.lin_11 h; omega
    · have := Code.lin_12 h; omega
    · have := Code.lin_13 h; omega
    · have := Code.lin_14 h; omega
    · have := Code.lin_15 h; omega
    · have := Code.lin_16 h; omega
    · have := Code.lin_17 h; omega
    · have := Code.lin_18 h; omega
    · have := Code.lin_19 h; omega
    · have := Code.lin_20 h; omega
    · have := Code.lin_21 h; omega
    · have := Code.lin_22 h; omega
    · have := Code.lin_23 h; omega
    · have := Code.lin_24 h; omega
    · have := Code.lin_25 h; omega
    · have := Code.lin_26 h; omega
    · have := Code.lin_27 h; omega
    · have := Code.lin_28 h; omega
    · have := Code.lin_29 h; omega
    · have := Code.lin_30 h; omega
    · have := Code.lin_31 h; omega
    · have := Code.lin_32 h; omega
    · have := Code.lin_33 h; omega
    · have := Code.lin_34 h; omega
  obtain ⟨a1, a2, a3, a4, a5, a6, a7, a8, a9⟩ := HI _ rfl hs.1 hs.2 h2
  exact ⟨a1, a2, a3, a4, a5, a6, a7, a8, a9⟩
end Go.Proofs.YtfdnjoieolijcaaGreatDoor.Core

/-! A step of a machine: package core. -/
set_option linter.unusedVariables false
set_option linter.unusedSimpArgs false
namespace Go.Proofs.YtfdnjoieolijcaaGreatDoor.Core
open Go.RowKit Go.Proofs.YtfdnjoieolijcaaGreatDoor.Mem Go.Proofs.YtfdnjoieolijcaaGreatDoor.Alu

theorem ofI_one {W : Int} {wide : Bool} {i i' : Ins} {en en' : Int} (h : OfI W wide i en) (h' : OfI W wide i' en') : i = i' ∧ en = en' := by
  obtain ⟨⟨a1, a2, a3, a4, a5, a6, a7, a8, a9, a10, a11⟩, e⟩ := Code.ofR_one h h'
  obtain ⟨f, rd, rn, rm, ra, im, kd, bs, st, cd, rg⟩ := i
  obtain ⟨f', rd', rn', rm', ra', im', kd', bs', st', cd', rg'⟩ := i'
  dsimp only at *
  subst a1 a2 a3 a4 a5 a6 a7 a8 a9 a10 a11
  exact ⟨rfl, e⟩
/-- One address has one instruction. -/
theorem at_one {n : Nat} {f : Nat → Int} {a : Int} {i i' : Ins} {en en' : Int} (h : AtI n f a i en) (h' : AtI n f a i' en') : i = i' ∧ en = en' := by
  rcases h with ⟨a1, rfl, rfl⟩ | ⟨a1, a2, a3⟩ | ⟨a1, a2, a3, rfl, rfl⟩ | ⟨a1, a2, a3, a4⟩ <;> rcases h' with ⟨b1, rfl, rfl⟩ | ⟨b1, b2, b3⟩ | ⟨b1, b2, b3, rfl, rfl⟩ | ⟨b1, b2, b3, b4⟩
  · exact ⟨rfl, rfl⟩
  · exact absurd b1 a1
  · exact absurd b1 a1
  · exact absurd b1 a1
  · exact absurd a1 b1
  · exact ofI_one a3 b3
  · rw [a2] at b2; exact absurd b2 (by decide)
  · rw [a2] at b2; exact absurd b2 (by decide)
  · exact absurd a1 b1
  · rw [a2] at b2; exact absurd b2 (by decide)
  · exact ⟨rfl, rfl⟩
  · exact absurd b3 a3
  · exact absurd a1 b1
  · rw [a2] at b2; exact absurd b2 (by decide)
  · exact absurd a3 b3
  · exact ofI_one a4 b4
theorem ofI_right {W : Int} {wide : Bool} {i : Ins} (h : OfI W wide i 0) : i.right = true ∧ -9223372036854775808 ≤ i.rg ∧ i.rg ≤ 9223372036854775807 := by
  rcases h with ⟨h, _⟩ | ⟨_, _, h⟩
  · exact ⟨h.right, h.lo, h.hi⟩
  · exact absurd h (by decide)
theorem at_right {n : Nat} {f : Nat → Int} {a : Int} {i : Ins} (h : AtI n f a i 0) : i.right = true ∧ -9223372036854775808 ≤ i.rg ∧ i.rg ≤ 9223372036854775807 := by
  rcases h with ⟨a1, rfl, e⟩ | ⟨a1, a2, a3⟩ | ⟨a1, a2, a3, rfl, e⟩ | ⟨a1, a2, a3, a4⟩
  · exact absurd e.symm a1
  · exact ofI_right a3
  · exact absurd e.symm a3
  · exact ofI_right a4

/-- What a step begins with. -/
def stW0 (M : Mc) (j : Ins) : Wo := (wk0 M j).reg 15 ((M.s.R 15 + Inst.siz j.f) % 4294967296)
/-- Why a step went wrong; the machine, RAM, the event and the error behind it. -/
def stE (n : Nat) (f g : Nat → Int) (M : Mc) (j : Ins) (e0 : Int) : Int := if e0 = 0 then exeE n f g (stW0 M j) else e0
def stG (n : Nat) (f g : Nat → Int) (M : Mc) (j : Ins) (e0 : Int) : Nat → Int := if e0 = 0 then exeG g (stW0 M j) else g
def stQ (n : Nat) (f g : Nat → Int) (M : Mc) (j : Ins) (e0 : Int) : Mc := if stE n f g M j e0 = 0 then aft M j (exeW n f g (stW0 M j)) else M
def stM (n : Nat) (f g : Nat → Int) (M : Mc) (j : Ins) (e0 : Int) : Mc := if stE n f g M j e0 = 0 then aft M j (exeW n f g (stW0 M j)) else { M with hk := 3, hc := stE n f g M j e0 }
def stV (n : Nat) (f g : Nat → Int) (M : Mc) (j : Ins) (e0 : Int) : Array Value := if stE n f g M j e0 = 0 then evA M j (exeW n f g (stW0 M j)) else evv 0 0 0 0 0
def stR (n : Nat) (f g : Nat → Int) (M : Mc) (j : Ins) (e0 : Int) : Int := if stE n f g M j e0 = 0 then 0 else 10

/-- A machine that may be: its state is one, its counter is no great number. -/
structure May (M : Mc) : Prop where
  s : Good M.s
  cy : 0 ≤ M.cy ∧ M.cy ≤ 1000000000
  wt : 0 ≤ M.wait ∧ M.wait ≤ 7
/-- A machine and its memory in the heap. -/
structure Has (w : World) (C F R n : Nat) (f g : Nat → Int) (M : Mc) : Prop where
  x : Mx w C M
  m : Is w M.m F R n f g
theorem ok_0 {M : Mc} (hg : Good M.s) {j : Ins} (hf : Fit j) : Ok (stW0 M j) := ⟨Good.reg hg 15 _ (by omega), hf⟩

theorem step_any {w : World} {C F R n : Nat} {M : Mc} {f g : Nat → Int} (h : Mx w C M) (hm : Is w M.m F R n f g) (hf : ∀ i, i < n → 0 ≤ f i ∧ f i < 256) (hn : n ≤ 65536) (hg : May M) (hgb : Words g) (hL : Code.Laid w) (ntR : NoTab R) :
    Calls Tryz.prog 38 #[.pointer (some ⟨C, 0, none⟩)] w fun e w' => ∃ j e0, AtI n f (M.s.R 15) j e0 ∧ e = .returned (.tuple #[.agg (stV n f g M j e0), .int .i64 (stE n f g M j e0)]) ∧ Mx w' C (stQ n f g M j e0) ∧ Is w' M.m F R n f (stG n f g M j e0) ∧ Off [C, R] w w' := by
  by_cases hx : ∃ j, AtI n f (M.s.R 15) j 0
  · obtain ⟨j, hj⟩ := hx
    obtain ⟨hr, g0, g1⟩ := at_right hj
    obtain ⟨hfit, hne⟩ := fit_of_right hr g0 g1
    refine (step_ok h hm hf hn hg.s hL j (fun j' e h' => at_one h' hj) hfit hr hg.cy hg.wt ntR (exeW n f g (stW0 M j)) (exeG g (stW0 M j)) (exeE n f g (stW0 M j)) ?_).mono ?_
    · intro w' D hW hI hL' hD
      exact execute_any hW hL'.two hD (ok_0 hg.s hfit) hne hI hf hn hgb
    · rintro e w' ⟨hp, hI, hO⟩
      have eE : stE n f g M j 0 = exeE n f g (stW0 M j) := if_pos rfl
      have eG : stG n f g M j 0 = exeG g (stW0 M j) := if_pos rfl
      refine ⟨j, 0, hj, ?_, ?_, by rw [eG]; exact hI, hO⟩
      · rcases hp with ⟨h1, rfl, h3⟩ | ⟨h1, rfl, h3⟩
        · unfold stV; rw [eE, if_neg h1]
        · unfold stV; rw [eE, if_pos h1, h1]
      · rcases hp with ⟨h1, rfl, h3⟩ | ⟨h1, rfl, h3⟩
        · unfold stQ; rw [eE, if_neg h1]; exact h3
        · unfold stQ; rw [eE, if_pos h1]; exact h3
  · refine (step_fault h hm hf hn hg.s hL (fun j e hj he => hx ⟨j, he ▸ hj⟩)).mono ?_
    rintro e w' ⟨en, ⟨j, hj⟩, rfl, hb⟩
    have hne : en ≠ 0 := fun e => hx ⟨j, e ▸ hj⟩
    have eE : stE n f g M j en = en := if_neg hne
    refine ⟨j, en, hj, ?_, ?_, ?_, Off.of_below hb⟩
    · unfold stV; rw [eE, if_neg hne]; rfl
    · unfold stQ; rw [eE, if_neg hne]; exact h.below hb
    · unfold stG; rw [if_neg hne]; exact hm.below hb

/-- A machine that has halted does nothing. -/
theorem Step_halted {w : World} {C : Nat} {M : Mc} (h : Mx w C M) (hk : M.hk ≠ 0) :
    Calls Tryz.prog 12 #[.pointer (some ⟨C, 0, none⟩)] w fun e w' => e = .returned (.tuple #[.agg (evv 0 0 0 0 0), .int .i64 71]) ∧ Below w.heap.size w w' := by
  have c25 : w.cell? ⟨C, 25, none⟩ = some (.int .i64 M.hk) := h.cell rfl
  have hl := h.lt
  go_enter Tryz.func12, Tryz.ntmps12
  go_wp2_with fail
  refine bodyPost_ret (v := .tuple #[.agg (evv 0 0 0 0 0), .int .i64 71]) (by simp [results, Tryz.results12, go_sem, evv]) rfl ⟨rfl, ?_⟩
  repeat (first | exact Below.refl _ _ | refine Below.setCell ?_ (Nat.le_refl _) _ | refine Below.alloc ?_ (Nat.le_refl _) _)

set_option maxRecDepth 100000 in
set_option maxHeartbeats 4000000 in
theorem Step_run {w : World} {C F R n : Nat} {M : Mc} {f g : Nat → Int} (h : Mx w C M) (hm : Is w M.m F R n f g) (hf : ∀ i, i < n → 0 ≤ f i ∧ f i < 256) (hn : n ≤ 65536) (hg : May M) (hgb : Words g) (hL : Code.Laid w) (ntR : NoTab R) (hk : M.hk = 0) :
    Calls Tryz.prog 12 #[.pointer (some ⟨C, 0, none⟩)] w fun e w' => ∃ j e0, AtI n f (M.s.R 15) j e0 ∧ e = .returned (.tuple #[.agg (stV n f g M j e0), .int .i64 (stR n f g M j e0)]) ∧ Mx w' C (stM n f g M j e0) ∧ Is w' M.m F R n f (stG n f g M j e0) ∧ Off [C, R] w w' := by
  have c25 : w.cell? ⟨C, 25, none⟩ = some (.int .i64 M.hk) := h.cell rfl
  rw [hk] at c25
  have hl := h.lt
  have hmC : M.m ≠ C := fun e => by have x := hm.box; rw [e, show w.heap[C]? = _ from h] at x; simp at x
  have hFC : F ≠ C := fun e => by have x := hm.fl; rw [e, show w.heap[C]? = _ from h] at x; simp at x
  have hRC : R ≠ C := fun e => by have x := hm.ram; rw [e, show w.heap[C]? = _ from h] at x; simp at x
  have tM := hm.ltB
  have tF := hm.ltF
  have tR := hm.ltR
  have hB := (Below.refl w.heap.size w).alloc (Nat.le_refl _) (.cells #[.int .u32 0, .int .u32 0, .int .i64 0, .int .i64 0, .int .i64 0] 41)
  have hE := heap_alloc_last w (.cells #[.int .u32 0, .int .u32 0, .int .i64 0, .int .i64 0, .int .i64 0] 41)
  have HS := hide (step_any (h.below hB) (hm.below hB) hf hn hg hgb (hL.below hB) ntR)
  have HB := hide hB
  have HE := hide hE
  clear hB hE
  go_enter Tryz.func12, Tryz.ntmps12
  go_wp2_with fail
  refine (unhide HS).mono ?_
  rintro e w1 ⟨j, e0, hat, rfl, hQ, hI, hO⟩
  clear HS c25
  have O1 := hide ((Off.of_below (S := [C, R]) HB.out).trans hO)
  generalize hS : w.heap.size = S at *
  have E1 := (hO.block S (by rw [← hS]; simp) (by simp; omega)).trans HE.out
  have HAT := hide hat
  have hz1 : S < w1.heap.size := lt_of_heap E1
  clear HE HB hO hat
  by_cases hs : stE n f g M j e0 = 0
  · have eV : stV n f g M j e0 = evA M j (exeW n f g (stW0 M j)) := if_pos hs
    have eQ : stQ n f g M j e0 = aft M j (exeW n f g (stW0 M j)) := if_pos hs
    have eM : stM n f g M j e0 = aft M j (exeW n f g (stW0 M j)) := if_pos hs
    have eR : stR n f g M j e0 = 0 := if_pos hs
    rw [eQ] at hQ
    have hfin : Hid (∀ (x1 : Ending) (x2 : World), x1 = .returned (.tuple #[.agg (evA M j (exeW n f g (stW0 M j))), .int .i64 0]) → Mx x2 C (aft M j (exeW n f g (stW0 M j))) → Is x2 M.m F R n f (stG n f g M j e0) → Off [C, R] w x2 → ∃ j e0, AtI n f (M.s.R 15) j e0 ∧ x1 = .returned (.tuple #[.agg (stV n f g M j e0), .int .i64 (stR n f g M j e0)]) ∧ Mx x2 C (stM n f g M j e0) ∧ Is x2 M.m F R n f (stG n f g M j e0) ∧ Off [C, R] w x2) :=
      fun x1 x2 h1 h2 h3 h4 => ⟨j, e0, HAT.out, by rw [eV, eR]; exact h1, by rw [eM]; exact h2, h3, h4⟩
    clear eM eR
    rw [eV, hs]
    clear eV eQ
    unfold evA at *
    generalize exeW n f g (stW0 M j) = W1 at *
    generalize basI M.s j = bb at *
    generalize Clock.mss M.fl M.l (M.s.R 15) (Inst.siz j.f) = mm at *
    unfold evv at *
    replace hQ := hide hQ
    replace hI := hide hI
    have e0' : w1.cell? ⟨S, 0, none⟩ = some (.int .u32 0) := by rw [cell_of_row w1 S 0 _ _ _ E1]; rfl
    have e1' : w1.cell? ⟨S, 1, none⟩ = some (.int .u32 0) := by rw [cell_of_row w1 S 1 _ _ _ E1]; rfl
    have e2' : w1.cell? ⟨S, 2, none⟩ = some (.int .i64 0) := by rw [cell_of_row w1 S 2 _ _ _ E1]; rfl
    have e3' : w1.cell? ⟨S, 3, none⟩ = some (.int .i64 0) := by rw [cell_of_row w1 S 3 _ _ _ E1]; rfl
    have e4' : w1.cell? ⟨S, 4, none⟩ = some (.int .i64 0) := by rw [cell_of_row w1 S 4 _ _ _ E1]; rfl
    have f0 := free_row E1 0
    have f1 := free_row E1 1
    have f2 := free_row E1 2
    have f3 := free_row E1 3
    have f4 := free_row E1 4
    have hOS := ((((((Off.refl [S] w1).set (p := ⟨S, 0, none⟩) (by simp) (.int .u32 (M.s.R 15))).set (p := ⟨S, 1, none⟩) (by simp) (.int .u32 W1.da)).set (p := ⟨S, 2, none⟩) (by simp) (.int .i64 W1.wo)).set (p := ⟨S, 3, none⟩) (by simp) (.int .i64 bb)).set (p := ⟨S, 4, none⟩) (by simp) (.int .i64 mm)).alloc (.cells #[.int .u32 (M.s.R 15), .int .u32 W1.da, .int .i64 W1.wo, .int .i64 bb, .int .i64 mm] 41)
    replace hOS := hide hOS
    replace E1 := hide E1
    go_wp2_with fail
    refine bodyPost_ret (v := .tuple #[.agg #[.int .u32 (M.s.R 15), .int .u32 W1.da, .int .i64 W1.wo, .int .i64 bb, .int .i64 mm], .int .i64 0]) (by simp [results, Tryz.results12, go_sem, e0', e1', e2', e3', e4', hz1]) rfl ?_
    refine hfin.out _ _ rfl ?_ ?_ ?_
    · exact hQ.out.off hOS.out (by simp; omega)
    · exact isOff hI.out hOS.out (by simp; omega) (by simp; omega) (by simp; omega)
    · exact Off.sub ((O1.out.mono (T := [C, R, S]) (by intro k hk; simp at hk ⊢; omega)).trans (hOS.out.mono (by intro k hk; simp at hk ⊢; omega))) (by intro k hk; simp at hk ⊢; omega)
  · have eV : stV n f g M j e0 = evv 0 0 0 0 0 := if_neg hs
    have eQ : stQ n f g M j e0 = M := if_neg hs
    have eM : stM n f g M j e0 = { M with hk := 3, hc := stE n f g M j e0 } := if_neg hs
    have eR : stR n f g M j e0 = 10 := if_neg hs
    rw [eQ] at hQ
    have hfin : Hid (∀ (x1 : Ending) (x2 : World), x1 = .returned (.tuple #[.agg (evv 0 0 0 0 0), .int .i64 10]) → Mx x2 C { M with hk := 3, hc := stE n f g M j e0 } → Is x2 M.m F R n f (stG n f g M j e0) → Off [C, R] w x2 → ∃ j e0, AtI n f (M.s.R 15) j e0 ∧ x1 = .returned (.tuple #[.agg (stV n f g M j e0), .int .i64 (stR n f g M j e0)]) ∧ Mx x2 C (stM n f g M j e0) ∧ Is x2 M.m F R n f (stG n f g M j e0) ∧ Off [C, R] w x2) :=
      fun x1 x2 h1 h2 h3 h4 => ⟨j, e0, HAT.out, by rw [eV, eR]; exact h1, by rw [eM]; exact h2, h3, h4⟩
    clear eM eR
    rw [eV]
    clear eV eQ
    generalize stE n f g M j e0 = en at *
    have hs' : (en == 0) = false := by simpa using hs
    clear hs
    unfold evv at *
    have k25 : w1.cell? ⟨C, 25, none⟩ = some (.int .i64 M.hk) := hQ.cell rfl
    have k26 : w1.cell? ⟨C, 26, none⟩ = some (.int .i64 M.hc) := hQ.cell rfl
    have g25 := hQ.free 25
    have g26 := hQ.free 26
    have hM2 := hide (show Mx ((w1.setCell ⟨C, 25, none⟩ (.int .i64 3)).setCell ⟨C, 26, none⟩ (.int .i64 en)) C { M with hk := 3, hc := en } from (hQ.set (k := 25) (v := .int .i64 3) (M' := { M with hk := 3 }) rfl).set (k := 26) (v := .int .i64 en) rfl)
    replace hQ := hide hQ
    replace hI := hide hI
    have hCS : C ≠ S := by omega
    have hC1 : C < w1.heap.size := lt_of_heap (show w1.heap[C]? = _ from hQ.out)
    have P2 := hide ((((Off.refl [C] w1).set (p := ⟨C, 25, none⟩) (by simp) (.int .i64 3)).set (p := ⟨C, 26, none⟩) (by simp) (.int .i64 en)).alloc (.cells #[.int .u32 0, .int .u32 0, .int .i64 0, .int .i64 0, .int .i64 0] 41))
    have hM3 := hide ((show Mx _ C { M with hk := 3, hc := en } from hM2.out).below ((Below.refl _ _).alloc (Nat.le_refl _) (.cells #[.int .u32 0, .int .u32 0, .int .i64 0, .int .i64 0, .int .i64 0] 41)))
    clear hM2
    replace E1 := hide E1
    go_upto_region 6 with fail
    (try simp only [Act.put, List.getElem_toArray, List.getElem_cons_zero, List.getElem_cons_succ, List.setIfInBounds_toArray, List.set_cons_zero, List.set_cons_succ])
    clear k25 k26 g25 g26
    generalize hw2 : ((w1.setCell ⟨C, 25, none⟩ (.int .i64 3)).setCell ⟨C, 26, none⟩ (.int .i64 en)).alloc (.cells #[.int .u32 0, .int .u32 0, .int .i64 0, .int .i64 0, .int .i64 0] 41) = w2 at *
    have E2 := (P2.out.block S hz1 (by simp; omega)).trans E1.out
    have I2 := hide (isOff hI.out P2.out (by simpa using hmC) (by simpa using hFC) (by simpa using hRC))
    have O2 := hide ((O1.out.mono (T := [C, R]) (by intro k hk; exact hk)).trans (P2.out.mono (T := [C, R]) (by intro k hk; simp at hk ⊢; omega)))
    clear hw2 hI hQ O1 E1 P2 hC1 hz1
    have hz2 : S < w2.heap.size := lt_of_heap E2
    have e0' : w2.cell? ⟨S, 0, none⟩ = some (.int .u32 0) := by rw [cell_of_row w2 S 0 _ _ _ E2]; rfl
    have e1' : w2.cell? ⟨S, 1, none⟩ = some (.int .u32 0) := by rw [cell_of_row w2 S 1 _ _ _ E2]; rfl
    have e2' : w2.cell? ⟨S, 2, none⟩ = some (.int .i64 0) := by rw [cell_of_row w2 S 2 _ _ _ E2]; rfl
    have e3' : w2.cell? ⟨S, 3, none⟩ = some (.int .i64 0) := by rw [cell_of_row w2 S 3 _ _ _ E2]; rfl
    have e4' : w2.cell? ⟨S, 4, none⟩ = some (.int .i64 0) := by rw [cell_of_row w2 S 4 _ _ _ E2]; rfl
    have f0 := free_row E2 0
    have f1 := free_row E2 1
    have f2 := free_row E2 2
    have f3 := free_row E2 3
    have f4 := free_row E2 4
    have P3 := hide (((((Off.refl [S] w2).set (p := ⟨S, 0, none⟩) (by simp) (.int .u32 0)).set (p := ⟨S, 1, none⟩) (by simp) (.int .u32 0)).set (p := ⟨S, 2, none⟩) (by simp) (.int .i64 0)).set (p := ⟨S, 3, none⟩) (by simp) (.int .i64 0) |>.set (p := ⟨S, 4, none⟩) (by simp) (.int .i64 0))
    replace E2 := hide E2
    go_wp2_with fail
    refine bodyPost_ret (v := .tuple #[.agg #[.int .u32 0, .int .u32 0, .int .i64 0, .int .i64 0, .int .i64 0], .int .i64 10]) (by simp [results, Tryz.results12, go_sem, e0', e1', e2', e3', e4', hz2]) rfl ?_
    with_reducible refine hfin.out _ _ rfl ?_ ?_ ?_
    · exact hM3.out.off P3.out (by simp; omega)
    · exact isOff I2.out P3.out (by simp; omega) (by simp; omega) (by simp; omega)
    · exact Off.sub ((O2.out.mono (T := [C, R, S]) (by intro k hk; simp at hk ⊢; omega)).trans (P3.out.mono (by intro k hk; simp at hk ⊢; omega))) (by intro k hk; simp at hk ⊢; omega)
end Go.Proofs.YtfdnjoieolijcaaGreatDoor.Core

/-! What an instruction does hangs on nothing of where its memory lies. No function of the program is walked here. -/
set_option linter.unusedVariables false
namespace Go.Proofs.YtfdnjoieolijcaaGreatDoor.Core
open Go.RowKit Go.Proofs.YtfdnjoieolijcaaGreatDoor.Mem Go.Proofs.YtfdnjoieolijcaaGreatDoor.Alu

/-- The same, with its memory elsewhere. -/
def Wo.on (W : Wo) (x : Nat) : Wo := { W with m := x }
theorem fin_on (W : Wo) (x : Nat) (v : Int) (F : Wo → Wo) (hF : ∀ U : Wo, F (U.on x) = (F U).on x) : (W.on x).fin v F = (W.fin v F).on x := by
  have h1 : (if keepB (W.on x) then (W.on x).put v else W.on x) = (if keepB W then W.put v else W).on x := by
    show (if keepB W then (W.on x).put v else W.on x) = _
    split <;> rfl
  unfold Wo.fin
  dsimp only
  rw [h1]
  show (if setsB W then _ else _) = _
  by_cases hs : setsB W = true
  · rw [if_pos hs, if_pos hs]; exact hF ((if keepB W then W.put v else W).sgn v)
  · rw [if_neg hs, if_neg hs]
theorem shift_on (W : Wo) (x : Nat) : shiftW (W.on x) = (shiftW W).on x := by
  show (if setsB W then _ else _) = (if setsB W then _ else _ : Wo).on x
  split <;> rfl
theorem comb_on (W : Wo) (x : Nat) : combW (W.on x) = (combW W).on x := fin_on W x _ _ (fun _ => rfl)
theorem sum_on (W : Wo) (x : Nat) : sumW (W.on x) = (sumW W).on x := fin_on W x _ _ (fun _ => rfl)
theorem mult_on (W : Wo) (x : Nat) : multW (W.on x) = (multW W).on x := by
  show (if W.i.f = 25 then _ else if W.i.f = 93 then _ else if W.i.f = 94 then _ else _) = (if W.i.f = 25 then _ else if W.i.f = 93 then _ else if W.i.f = 94 then _ else _ : Wo).on x
  repeat' split
  all_goals rfl
theorem stk_on (W : Wo) (x : Nat) : stkW (W.on x) = (stkW W).on x := by
  show (if W.i.f = 39 then _ else if W.i.f = 40 then _ else if W.i.f = 41 then _ else _) = (if W.i.f = 39 then _ else if W.i.f = 40 then _ else if W.i.f = 41 then _ else _ : Wo).on x
  repeat' split
  all_goals rfl
theorem jmp_on (W : Wo) (x : Nat) : jmpW (W.on x) = (jmpW W).on x := by
  show (if (W.i.f = 46 ∨ W.i.f = 99) ∧ holdsB W.s W.i.cd = false then _ else _) = (if (W.i.f = 46 ∨ W.i.f = 99) ∧ holdsB W.s W.i.cd = false then _ else _ : Wo).on x
  split <;> rfl
theorem back_on (W : Wo) (x : Nat) (a : Int) : backW (W.on x) a = (backW W a).on x := by
  show (if bits .andNot .u32 a 1 = 4294967294 then _ else _) = (if bits .andNot .u32 a 1 = 4294967294 then _ else _ : Wo).on x
  split <;> rfl
theorem on_if (c : Prop) [Decidable c] (A B : Wo) (x : Nat) : (if c then A else B).on x = if c then A.on x else B.on x := by split <;> rfl
theorem comp_on (W : Wo) (x : Nat) : compW (W.on x) = (compW W).on x := by
  have e : (W.on x).i = W.i := rfl
  unfold compW
  have e2 : (W.on x).s = W.s := rfl
  simp only [on_if, e, e2, shift_on, comb_on, sum_on, mult_on, stk_on, jmp_on, back_on]
  rfl
theorem ldd_on (W : Wo) (x : Nat) (r v : Int) : lddW (W.on x) r v = (lddW W r v).on x := by
  unfold lddW
  split
  · exact back_on _ _ _
  · rfl
theorem popR_on (n : Nat) (f g : Nat → Int) (x : Nat) : ∀ (k r : Nat) (W : Wo), popR n f g k r (W.on x) = ((popR n f g k r W).1.on x, (popR n f g k r W).2)
  | 0, r, W => rfl
  | k + 1, r, W => by
    have e1 : listB (W.on x) r = listB W r := rfl
    have e2 : (W.on x).s = W.s := rfl
    unfold popR
    rw [e1, e2]
    split
    · split
      · rw [show lddW ((W.on x).reg 13 ((W.s.R 13 + 4) % 4294967296)) r (ldV n f g (W.s.R 13)) = (lddW (W.reg 13 ((W.s.R 13 + 4) % 4294967296)) r (ldV n f g (W.s.R 13))).on x from ldd_on (W.reg 13 ((W.s.R 13 + 4) % 4294967296)) x r (ldV n f g (W.s.R 13))]
        exact popR_on n f g x k (r + 1) _
      · rfl
    · exact popR_on n f g x k (r + 1) W
theorem popW_on (n : Nat) (f g : Nat → Int) (W : Wo) (x : Nat) : popW n f g (W.on x) = (popW n f g W).on x := by
  show (popR n f g 16 0 ((popS W).on x)).1 = _
  rw [popR_on]; rfl
theorem popE_on (n : Nat) (f g : Nat → Int) (W : Wo) (x : Nat) : popE n f g (W.on x) = popE n f g W := by
  show (popR n f g 16 0 ((popS W).on x)).2 = _
  rw [popR_on]; rfl
theorem pshR_on (x : Nat) : ∀ (k r : Nat) (W : Wo) (p : Int) (g : Nat → Int), pshR k r (W.on x) p g = pshR k r W p g
  | 0, r, W, p, g => rfl
  | k + 1, r, W, p, g => by
    have e1 : listB (W.on x) r = listB W r := rfl
    have e2 : (W.on x).s = W.s := rfl
    unfold pshR
    rw [e1, e2]
    split
    · split
      · exact pshR_on x k (r + 1) W _ _
      · rfl
    · exact pshR_on x k (r + 1) W p g
theorem pshE_on (g : Nat → Int) (W : Wo) (x : Nat) : pshE g (W.on x) = pshE g W := by
  show (pshR 16 0 ((pshS W).on x) (pshP W) g).2 = _
  rw [pshR_on]; rfl
theorem pshG_on (g : Nat → Int) (W : Wo) (x : Nat) : pshG g (W.on x) = pshG g W := by
  show (pshR 16 0 ((pshS W).on x) (pshP W) g).1 = _
  rw [pshR_on]; rfl
theorem load_on (n : Nat) (f g : Nat → Int) (W : Wo) (x : Nat) : loadW n f g (W.on x) = (loadW n f g W).on x := by
  show (if ldE n (adrV W) = 0 then _ else _) = (if ldE n (adrV W) = 0 then _ else _ : Wo).on x
  split <;> rfl
theorem exeW_on (n : Nat) (f g : Nat → Int) (W : Wo) (x : Nat) : exeW n f g (W.on x) = (exeW n f g W).on x := by
  have e : (W.on x).i = W.i := rfl
  have e2 : adrV (W.on x) = adrV W := rfl
  have e3 : pshS (W.on x) = (pshS W).on x := rfl
  unfold exeW
  simp only [on_if, e, e2, e3, load_on, popW_on, comp_on]
  rfl
theorem exeE_on (n : Nat) (f g : Nat → Int) (W : Wo) (x : Nat) : exeE n f g (W.on x) = exeE n f g W := by
  have e : (W.on x).i = W.i := rfl
  have e2 : adrV (W.on x) = adrV W := rfl
  have e3 : storE (W.on x) = storE W := rfl
  unfold exeE
  simp only [e, e2, e3, pshE_on, popE_on]
theorem exeG_on (g : Nat → Int) (W : Wo) (x : Nat) : exeG g (W.on x) = exeG g W := by
  have e : (W.on x).i = W.i := rfl
  have e3 : storG g (W.on x) = storG g W := rfl
  unfold exeG
  simp only [e, e3, pshG_on]
end Go.Proofs.YtfdnjoieolijcaaGreatDoor.Core

/-! A machine that runs: what its steps leave is a machine that may be. No function of the program is walked here. -/
set_option linter.unusedVariables false
namespace Go.Proofs.YtfdnjoieolijcaaGreatDoor.Core
open Go.RowKit Go.Proofs.YtfdnjoieolijcaaGreatDoor.Mem Go.Proofs.YtfdnjoieolijcaaGreatDoor.Alu

def Mc.on (M : Mc) (x : Nat) : Mc := { M with m := x }
theorem stW0_on (M : Mc) (j : Ins) (x : Nat) : stW0 (M.on x) j = (stW0 M j).on x := rfl
theorem stE_on (n : Nat) (f g : Nat → Int) (M : Mc) (j : Ins) (e0 : Int) (x : Nat) : stE n f g (M.on x) j e0 = stE n f g M j e0 := by
  unfold stE; rw [stW0_on, exeE_on]
theorem stG_on (n : Nat) (f g : Nat → Int) (M : Mc) (j : Ins) (e0 : Int) (x : Nat) : stG n f g (M.on x) j e0 = stG n f g M j e0 := by
  unfold stG; rw [stW0_on, exeG_on]
theorem stM_on (n : Nat) (f g : Nat → Int) (M : Mc) (j : Ins) (e0 : Int) (x : Nat) : stM n f g (M.on x) j e0 = (stM n f g M j e0).on x := by
  unfold stM
  rw [stE_on, stW0_on, exeW_on]
  split <;> rfl
theorem stV_on (n : Nat) (f g : Nat → Int) (M : Mc) (j : Ins) (e0 : Int) (x : Nat) : stV n f g (M.on x) j e0 = stV n f g M j e0 := by
  unfold stV
  rw [stE_on, stW0_on, exeW_on]
  split <;> rfl
theorem stR_on (n : Nat) (f g : Nat → Int) (M : Mc) (j : Ins) (e0 : Int) (x : Nat) : stR n f g (M.on x) j e0 = stR n f g M j e0 := by
  unfold stR; rw [stE_on]

/-- What is so behind a step that went well. -/
structure Went (M M' : Mc) (j : Ins) : Prop where
  s : Good M'.s
  cy : M'.cy = M.cy + (basI M.s j + Clock.mss M.fl M.l (M.s.R 15) (Inst.siz j.f) * M.wait)
  lo : M.cy + 1 ≤ M'.cy
  hi : M'.cy ≤ M.cy + 33
  wt : M'.wait = M.wait
  m : M'.m = M.m
  hk : M'.hk = 0 ∨ M'.hk = 1 ∨ M'.hk = 2
theorem at_fit {n : Nat} {f : Nat → Int} {a : Int} {i : Ins} (h : AtI n f a i 0) : i.right = true ∧ Fit i := by
  obtain ⟨hr, g0, g1⟩ := at_right h
  exact ⟨hr, (fit_of_right hr g0 g1).1⟩
theorem stE_ok {n : Nat} {f g : Nat → Int} {M : Mc} {j : Ins} {e0 : Int} (h : stE n f g M j e0 = 0) : e0 = 0 := by
  by_cases h0 : e0 = 0
  · exact h0
  · unfold stE at h; rw [if_neg h0] at h; exact h
theorem went_of {n : Nat} {f g : Nat → Int} {M : Mc} {j : Ins} {e0 : Int} (hM : May M) (hf : ∀ i, i < n → 0 ≤ f i ∧ f i < 256) (hg : Words g) (hat : AtI n f (M.s.R 15) j e0) (hs : stE n f g M j e0 = 0) : Went M (stM n f g M j e0) j := by
  have e := stE_ok hs
  subst e
  obtain ⟨hr, hfit⟩ := at_fit hat
  have hF := exe_fine hf hg (ok_0 hM.s hfit)
  have hB := basI_bd hM.s j
  have hP := mul_bd (Clock.mss_bd M.fl M.l (M.s.R 15) (Inst.siz j.f)) hM.wt
  have eM : stM n f g M j 0 = aft M j (exeW n f g (stW0 M j)) := if_pos hs
  rw [eM]
  refine ⟨hF.g, rfl, ?_, ?_, rfl, rfl, ?_⟩
  · show M.cy + 1 ≤ M.cy + (basI M.s j + Clock.mss M.fl M.l (M.s.R 15) (Inst.siz j.f) * M.wait); omega
  · show M.cy + (basI M.s j + Clock.mss M.fl M.l (M.s.R 15) (Inst.siz j.f) * M.wait) ≤ M.cy + 33; omega
  · rcases hF.k with ⟨a, _⟩ | ⟨a, _⟩ | ⟨a, _⟩
    · exact .inl a
    · exact .inr (.inl a)
    · exact .inr (.inr a)
theorem words_of {n : Nat} {f g : Nat → Int} {M : Mc} {j : Ins} {e0 : Int} (hM : May M) (hg : Words g) (hat : AtI n f (M.s.R 15) j e0) : Words (stG n f g M j e0) := by
  unfold stG
  split
  · rename_i h; subst h; exact exe_words hg (ok_0 hM.s (at_fit hat).2)
  · exact hg
theorem Went.may {M M' : Mc} {j : Ins} (h : Went M M' j) (hM : May M) (hc : M.cy ≤ 1000000) : May M' := ⟨h.s, by have := h.lo; have := h.hi; have := hM.cy; omega, by rw [h.wt]; exact hM.wt⟩
end Go.Proofs.YtfdnjoieolijcaaGreatDoor.Core

/-! A run whose events nobody looks at: package core's Run with an empty function. -/
set_option linter.unusedVariables false
set_option linter.unusedSimpArgs false
namespace Go.Proofs.YtfdnjoieolijcaaGreatDoor.Core
open Go.RowKit Go.Proofs.YtfdnjoieolijcaaGreatDoor.Mem Go.Proofs.YtfdnjoieolijcaaGreatDoor.Alu

theorem eq_func (d : Nat) (fn : Fn) (a c : Array Value) (w : World) : Sem.run Tryz.prog (Op.equalIn (d + 1) 63 (.func fn a c) .nilFunc) w = .ok false w := by
  simp only [Op.equalIn, Sem.run_bind, run_underlying Tryz.underlying63, Result.andThen_ok]
  rfl
theorem neq_func (fn : Fn) (a c : Array Value) (w : World) : Sem.run Tryz.prog (binOp .neq 63 (.func fn a c) .nilFunc) w = .ok (.bool true) w := by
  have h := eq_func 9999 fn a c w
  have hm : Op.maxDepth = 9999 + 1 := rfl
  simp only [binOp, Op.equal, Sem.run_bind]
  rw [hm, h]
  rfl
attribute [local go_sem] neq_func

/-- A counter, as it is read in the heap. -/
def cyAt (C : Nat) (w : World) : Int := match w.cell? ⟨C, 24, none⟩ with | some v => intOf v | none => 0
theorem cyAt_of {w : World} {C : Nat} {M : Mc} (h : Mx w C M) : cyAt C w = M.cy := by
  have c : w.cell? ⟨C, 24, none⟩ = some (.int .i64 M.cy) := h.cell rfl
  unfold cyAt; rw [c]; rfl

/-- A block that is no table of the three. -/
def NoT (B : Nat) : Prop := NoTab B ∧ 0 ≠ B
theorem not_of {w : World} (hL : Code.Laid w) {B : Nat} (h : w.heap.size ≤ B) : NoT B := by
  have t1 := block_lt_of_cell (a := ⟨2, 0, none⟩) hL.two.fac.c0
  have t2 := block_lt_of_cell (a := ⟨1, 0, none⟩) (hL.two.shs 0 (by decide))
  have t3 := block_lt_of_cell (a := ⟨0, 0, none⟩) (hL.bits 0 (by decide))
  exact ⟨⟨by simp only at t1; omega, by simp only at t2; omega⟩, by simp only at t3; omega⟩
theorem Off.code {S : List Nat} {w w' : World} (h : Off S w w') (hL : Code.Laid w) (hs : ∀ k, k ∈ S → NoT k) : Code.Laid w' := by
  refine ⟨h.laid hL.two (fun k hk => (hs k hk).1), fun i hi => ?_⟩
  rw [h.cell (p := ⟨0, i, none⟩) (show 0 < _ from block_lt_of_cell (a := ⟨0, 0, none⟩) (hL.bits 0 (by decide))) (fun e => (hs _ e).2 rfl)]
  exact hL.bits i hi
/-- Steps that go well, one behind the other, up to a halt. -/
structure Line (n : Nat) (f : Nat → Int) (fuel : Int) (K : Nat) (Ms : Nat → Mc) (gs : Nat → Nat → Int) : Prop where
  step : ∀ k, k < K → (Ms k).hk = 0 ∧ (Ms k).cy < fuel ∧ May (Ms k) ∧ Words (gs k) ∧ ∃ j, AtI n f ((Ms k).s.R 15) j 0 ∧ stE n f (gs k) (Ms k) j 0 = 0 ∧ stM n f (gs k) (Ms k) j 0 = Ms (k + 1) ∧ stG n f (gs k) (Ms k) j 0 = gs (k + 1)
  halt : (Ms K).hk = 1 ∨ (Ms K).hk = 2
  m : ∀ k, k ≤ K → (Ms k).m = (Ms 0).m

theorem a1_any (a b c d x : Int) (w : World) : Calls Tryz.prog 32 #[.agg #[.int .u32 a, .int .u32 b, .int .i64 c, .int .i64 d, .int .i64 x]] w fun e w' => e = .returned (.tuple #[]) ∧ Below w.heap.size w w' := by
  go_enter Tryz.func32, Tryz.ntmps32
  go_wp2_with fail
  go_end0
  exact ⟨rfl, by repeat (first | with_reducible exact Below.refl _ _ | with_reducible refine Below.alloc ?_ (Nat.le_refl _) _)⟩

set_option maxRecDepth 100000 in
set_option maxHeartbeats 2000000 in
theorem RunA_any {w : World} {C F R n K : Nat} {f : Nat → Int} {Ms : Nat → Mc} {gs : Nat → Nat → Int} {fuel : Int} (hT : Line n f fuel K Ms gs) (hfu : fuel ≤ 1000000) (h : Mx w C (Ms 0)) (hm : Is w (Ms 0).m F R n f (gs 0)) (hf : ∀ i, i < n → 0 ≤ f i ∧ f i < 256) (hn : n ≤ 65536) (hL : Code.Laid w) (ntR : NoT R) (ntC : NoT C) :
    Calls Tryz.prog 21 #[.pointer (some ⟨C, 0, none⟩), .int .i64 fuel, .func (.func 32) #[] #[]] w fun e w' => e = .returned (.int .i64 0) ∧ Mx w' C (Ms K) ∧ Is w' (Ms K).m F R n f (gs K) ∧ Off [C, R] w w' := by
  go_enter Tryz.func21, Tryz.ntmps21
  go_wp2_with fail
  go_loopw [] (fun wr => ∃ k : Nat, k ≤ K ∧ Mx wr C (Ms k) ∧ Is wr (Ms k).m F R n f (gs k) ∧ Off [C, R] w wr) (fun wr => (fuel - cyAt C wr).toNat)
  case atStart => exact ⟨0, Nat.zero_le _, h, hm, Off.refl _ _⟩
  case round =>
    obtain ⟨k, hk, hx, hI, hO⟩ := hrel
    have c25 : wr.cell? ⟨C, 25, none⟩ = some (.int .i64 (Ms k).hk) := hx.cell rfl
    have c24 : wr.cell? ⟨C, 24, none⟩ = some (.int .i64 (Ms k).cy) := hx.cell rfl
    by_cases hlt : k < K
    · obtain ⟨hh, hc, hM, hg, j, hat, hE, hMs, hgs⟩ := hT.step k hlt
      rw [hh] at c25
      have hLr : Code.Laid wr := hO.code hL (by intro k hk; simp at hk; rcases hk with rfl | rfl; exact ntC; exact ntR)
      have HS := hide (Step_run hx hI hf hn hM hg hLr ntR.1 hh)
      have hcy := cyAt_of hx
      go_wp2_with fail
      refine (unhide HS).mono ?_
      rintro e w1 ⟨j', e0, hat', rfl, hx1, hI1, hO1⟩
      obtain ⟨rfl, rfl⟩ := at_one hat' hat
      have eV : stV n f (gs k) (Ms k) j' 0 = evA (Ms k) j' (exeW n f (gs k) (stW0 (Ms k) j')) := if_pos hE
      have eR : stR n f (gs k) (Ms k) j' 0 = 0 := if_pos hE
      have hW := went_of hM hf hg hat hE
      rw [hMs] at hx1 hW
      rw [hgs] at hI1
      rw [eV, eR]
      unfold evA evv
      have hmm := hT.m k hk
      have hmm1 := hT.m (k + 1) hlt
      have hcy1 := cyAt_of hx1
      have hlo := hW.lo
      rw [show (Ms k).m = (Ms (k + 1)).m by rw [hmm, hmm1]] at hI1
      clear hat hat' hE eV eR hM hg HS c24 c25
      generalize exeW n f (gs k) (stW0 (Ms k) j') = W1 at *
      generalize basI (Ms k).s j' = bb at *
      generalize Clock.mss (Ms k).fl (Ms k).l ((Ms k).s.R 15) (Inst.siz j'.f) = mm at *
      have hend : Hid (Mx w1 C (Ms (k + 1)) ∧ Is w1 (Ms (k + 1)).m F R n f (gs (k + 1)) ∧ Off [C, R] w w1) := ⟨hx1, hI1, hO.trans hO1⟩
      clear hx1 hI1 hO1 hW hx hI hO
      go_wp2_with fail
      refine (a1_any _ _ _ _ _ _).mono ?_
      rintro e w2 ⟨rfl, hb2⟩
      have hb3 : Below w1.heap.size w1 w2 := ((Below.refl w1.heap.size w1).alloc (Nat.le_refl _) _).trans (hb2.mono (by simp))
      go_wp2_with fail
      go_roundw
      case rel => exact ⟨k + 1, hlt, hend.out.1.below hb3, hend.out.2.1.below hb3, hend.out.2.2.trans (Off.of_below hb3)⟩
      case measure =>
        rw [hcy, cyAt_of (hend.out.1.below hb3)]
        omega
    · obtain rfl : k = K := by omega
      have hh := hT.halt
      rcases hh with hh | hh
      · rw [hh] at c25
        go_wp2_with fail
        go_ret
        exact ⟨rfl, hx, hI, hO⟩
      · rw [hh] at c25
        go_wp2_with fail
        go_ret
        exact ⟨rfl, hx, hI, hO⟩
end Go.Proofs.YtfdnjoieolijcaaGreatDoor.Core

/-! A machine that is built of instructions: the statements' own 'built'. -/
set_option linter.unusedVariables false
namespace Go.Proofs.YtfdnjoieolijcaaGreatDoor.Core
open Go.RowKit Go.Proofs.YtfdnjoieolijcaaGreatDoor.Mem Go.Proofs.YtfdnjoieolijcaaGreatDoor.Alu

theorem byt_le (W : Int) (b : Bool) : (Code.byt W b).length ≤ 4 := by unfold Code.byt; split <;> simp
/-- An instruction's bytes, as far as it may be. -/
def insB (i : Ins) : List Int := if i.right then Code.byt (Code.wd i.f i.rd i.rn i.rm i.ra i.im i.kd i.bs i.st i.cd i.rg) (Inst.wdF i.f) else []
def prgB (I : Nat → Ins) : Nat → List Int
  | 0 => []
  | k + 1 => prgB I k ++ insB (I k)
theorem insB_len (i : Ins) : (insB i).length ≤ 4 := by
  unfold insB; split
  · exact byt_le _ _
  · exact Nat.zero_le _
theorem prgB_len (I : Nat → Ins) : ∀ k, (prgB I k).length ≤ 4 * k
  | 0 => Nat.zero_le _
  | k + 1 => by
    have h1 := prgB_len I k
    have h2 := insB_len (I k)
    show (prgB I k ++ insB (I k)).length ≤ _
    rw [List.length_append]; omega
theorem byt_range (W : Int) (b : Bool) : ∀ x ∈ Code.byt W b, 0 ≤ x ∧ x < 256 := by
  intro x hx
  unfold Code.byt at hx
  split at hx <;> simp at hx <;> omega
theorem prgB_range (I : Nat → Ins) : ∀ k, ∀ x ∈ prgB I k, 0 ≤ x ∧ x < 256
  | 0, x, h => by simp [prgB] at h
  | k + 1, x, h => by
    rcases List.mem_append.1 (show x ∈ prgB I k ++ insB (I k) from h) with h | h
    · exact prgB_range I k x h
    · unfold insB at h
      split at h
      · exact byt_range _ _ x h
      · simp at h
/-- Flash: bytes by their places. -/
def flaF (I : Nat → Ins) (nl : Nat) : Nat → Int := fun k => (prgB I nl).getD k 0
theorem flaF_bd (I : Nat → Ins) (nl : Nat) (k : Nat) : 0 ≤ flaF I nl k ∧ flaF I nl k < 256 := by
  unfold flaF
  by_cases h : k < (prgB I nl).length
  · rw [List.getD_eq_getElem?_getD, List.getElem?_eq_getElem h]; exact prgB_range I nl _ (List.getElem_mem h)
  · rw [List.getD_eq_getElem?_getD, List.getElem?_eq_none (by omega)]; decide

/-- A slice of instructions. -/
structure Its (w : World) (p : Option Addr) (nl : Nat) (I : Nat → Ins) : Prop where
  cells : nl = 0 ∨ ∃ b off, p = some ⟨b, off, none⟩ ∧ b < w.heap.size ∧ ∀ i, i < nl → w.rangeAt b (off + i * 11) (inv (I i)).toList
  rg : ∀ i, i < nl → -9223372036854775808 ≤ (I i).rg ∧ (I i).rg ≤ 9223372036854775807
theorem Its.below {w w' : World} {p : Option Addr} {nl : Nat} {I : Nat → Ins} (h : Its w p nl I) (hb : Below w.heap.size w w') : Its w' p nl I := by
  refine ⟨?_, h.rg⟩
  rcases h.cells with h | ⟨b, off, rfl, hlt, hc⟩
  · exact .inl h
  · exact .inr ⟨b, off, rfl, Nat.lt_of_lt_of_le hlt hb.size, fun i hi => range_below (hc i hi) hb⟩

/-- The document's machine, new. -/
def refC (fl : Value) (wait line : Int) : Array Value := #[fl, .slice none 0 0, .int .i64 wait, .int .u32 0, .int .u32 0, .int .u32 0, .int .u32 0, .int .u32 0, .int .u32 0, .int .u32 0, .int .u32 0, .int .u32 0, .int .u32 0, .int .u32 0, .int .u32 0, .int .u32 0, .int .u32 0, .int .u32 0, .int .u32 0, .int .u32 0, .int .u32 0, .int .u32 0, .int .u32 0, .int .i64 line, .int .i64 0, .int .i64 0, .int .i64 0]
theorem one_ref (p : Option Addr) (n c : Nat) (wait line : Int) : (refC (.slice p n c) wait line).all (·.oneCell') = true := by simp [refC, Value.oneCell']
theorem info_ref : (Tryz.prog.info? 35).map (·.size) = some 27 := by kernel_rfl

set_option maxRecDepth 100000 in
theorem refNew_any (p : Option Addr) (n c : Nat) (wait : Int) (w : World) :
    Calls Tryz.prog 36 #[.slice p n c, .int .i64 wait] w fun e w' => e = .returned (.agg (refC (.slice p n c) wait (-1))) ∧ Below w.heap.size w w' := by
  have HN := hide (show (w.alloc (.cells #[.slice none 0 0, .slice none 0 0, .int .i64 0, .int .u32 0, .int .u32 0, .int .u32 0, .int .u32 0, .int .u32 0, .int .u32 0, .int .u32 0, .int .u32 0, .int .u32 0, .int .u32 0, .int .u32 0, .int .u32 0, .int .u32 0, .int .u32 0, .int .u32 0, .int .u32 0, .int .u32 0, .int .u32 0, .int .u32 0, .int .u32 0, .int .i64 0, .int .i64 0, .int .i64 0, .int .i64 0] 35)).heap[w.heap.size]? = some (.cells (refC (.slice none 0 0) 0 0) 35 (0, 0)) from heap_alloc_new _ _)
  have HB := hide (setRow_below (b := w.heap.size) ((Below.refl w.heap.size w).alloc (Nat.le_refl _) (.cells #[.slice none 0 0, .slice none 0 0, .int .i64 0, .int .u32 0, .int .u32 0, .int .u32 0, .int .u32 0, .int .u32 0, .int .u32 0, .int .u32 0, .int .u32 0, .int .u32 0, .int .u32 0, .int .u32 0, .int .u32 0, .int .u32 0, .int .u32 0, .int .u32 0, .int .u32 0, .int .u32 0, .int .u32 0, .int .u32 0, .int .u32 0, .int .i64 0, .int .i64 0, .int .i64 0, .int .i64 0] 35)) (Nat.le_refl _) (refC (.slice p n c) wait (-1)))
  have HL := hide (setRow_heap _ _ _ (refC (.slice p n c) wait (-1)) _ _ HN.out)
  go_enter Tryz.func36, Tryz.ntmps36
  go_wp2_with (refine wpList_store_rowTo rfl 35 (.tmp 4) (.tmp 8) rfl rfl _ (refC (.slice p n c) wait (-1)) rfl rfl 35 (refC (.slice none 0 0) 0 0) (unhide HN) info_ref rfl (one_ref _ _ _ _ _) ?_)
  refine bodyPost_ret (v := .agg (refC (.slice p n c) wait (-1))) ?_ rfl ⟨rfl, HB.out⟩
  exact results_cell_row (fn := Tryz.f36) rfl _ _ w.heap.size 35 _ (0, 0) _ rfl HL.out Tryz.underlying35 rfl info_ref

theorem BytesY (i : Ins) (hr : i.right = true) (g : -9223372036854775808 ≤ i.rg ∧ i.rg ≤ 9223372036854775807) (w : World) (hL : Code.Laid w) :
    Calls Tryz.prog 33 #[.agg (inv i)] w fun e w' => ∃ v, e = .returned (.tuple #[v, .int .i64 0]) ∧ w'.ownsRow w.heap.size 5 1 v (insB i).length (Code.u8s (insB i)) ∧ Below w.heap.size w w' := by
  have e : insB i = Code.byt (Code.wd i.f i.rd i.rn i.rm i.ra i.im i.kd i.bs i.st i.cd i.rg) (Inst.wdF i.f) := by unfold insB; rw [if_pos hr]
  rw [e]
  exact Code.Bytes_yes i.f i.rd i.rn i.rm i.ra i.im i.kd i.bs i.st i.cd i.rg hr g.1 g.2 w hL
theorem BytesN (i : Ins) (hr : i.right = false) (w : World) (hL : Code.Laid w) :
    Calls Tryz.prog 33 #[.agg (inv i)] w fun e w' => e = .returned (.tuple #[.slice none 0 0, .int .i64 10]) ∧ Below w.heap.size w w' :=
  Code.Bytes_no i.f i.rd i.rn i.rm i.ra i.im i.kd i.bs i.st i.cd i.rg hr w hL
theorem owns_below {w w' : World} {base : Nat} {e : TypeId} {size : Nat} {v : Value} {n : Nat} {xs : List Value} (h : w.ownsRow base e size v n xs) (hb : Below w.heap.size w w') : w'.ownsRow base e size v n xs :=
  h.kept (row := none) ⟨hb.os, hb.tape, hb.output, hb.size, fun i hi _ => hb.block i hi⟩ (by cases v.ownBlock <;> simp)
theorem u8s_one' (l : List Int) : ∀ u ∈ Code.u8s l, u.oneCell' = true := by
  intro u hu
  simp only [Code.u8s, List.mem_map] at hu
  obtain ⟨_, _, rfl⟩ := hu
  rfl
theorem add_off' (g j : Nat) : (⟨g, 0, none⟩ : Addr).add j = ⟨g, j, none⟩ := by unfold Addr.add; split <;> simp_all
theorem insB_pos {i : Ins} (hr : i.right = true) : 0 < (insB i).length := by
  unfold insB; rw [if_pos hr]; unfold Code.byt; split <;> simp

/-- What built answers. -/
def BuiltPost (I : Nat → Ins) (nl : Nat) (wait : Int) (w : World) (e : Ending) (w' : World) : Prop :=
  (¬ (0 ≤ wait ∧ wait ≤ 7) ∧ e = .returned (.tuple #[.pointer none, .agg (refC (.slice none 0 0) 0 0)]))
  ∨ ((0 ≤ wait ∧ wait ≤ 7) ∧ ∃ C m F R q fc, e = .returned (.tuple #[.pointer (some ⟨C, 0, none⟩), .agg (refC (.slice q (prgB I nl).length fc) wait (-1))]) ∧ Mx w' C (newM m wait) ∧ Is w' m F R (prgB I nl).length (flaF I nl) (fun _ => 0)
    ∧ (w.heap.size ≤ C ∧ w.heap.size ≤ m ∧ w.heap.size ≤ F ∧ w.heap.size ≤ R) ∧ Sl w' .u8 q (prgB I nl).length (flaF I nl))

theorem own_sl {w : World} {base : Nat} {v : Value} {l : List Int} (h : w.ownsRow base 5 1 v l.length (Code.u8s l)) : ∃ q c, v = .slice q l.length c ∧ Sl w .u8 q l.length (fun k => l.getD k 0) := by
  by_cases h0 : l = []
  · subst h0
    rcases h.2 with ⟨rfl, _⟩ | ⟨g, cap, cur, rfl, _⟩
    · exact ⟨none, 0, rfl, .inl rfl⟩
    · exact ⟨_, cap, rfl, .inl rfl⟩
  · obtain ⟨g, cap, rfl, hb, hg, _, _, hc⟩ := Code.own_slice h (by cases l; exact absurd rfl h0; simp)
    refine ⟨_, cap, rfl, .inr ⟨g, 0, rfl, hg, fun i hi => ?_⟩⟩
    rw [Nat.zero_add]
    refine hc i _ ?_
    simp [Code.u8s, List.getD, hi]

theorem own_sl' {w : World} {base : Nat} {q : Option Addr} {c : Nat} {l : List Int} (h : w.ownsRow base 5 1 (.slice q l.length c) l.length (Code.u8s l)) : Sl w .u8 q l.length (fun k => l.getD k 0) := by
  obtain ⟨q', c', e, h'⟩ := own_sl h
  injection e with e1
  rw [e1]; exact h'
theorem setRow_off (w : World) (b : Nat) (cs : Array Value) : Off [b] w (w.setRow b cs) := ⟨rfl, rfl, rfl, by simp, fun k hk hn => setRow_other w b k cs (by simpa using hn)⟩
theorem owns_off {w w' : World} {base S : Nat} {e : TypeId} {size : Nat} {v : Value} {n : Nat} {xs : List Value} (h : w.ownsRow base e size v n xs) (ho : Off [S] w w') (hS : S < base) : w'.ownsRow base e size v n xs :=
  h.kept (row := some S) ⟨ho.os, ho.tape, ho.output, ho.size, fun i hi hn => ho.block i hi (by simp; intro e; exact hn (by rw [e]))⟩ (by
    cases hv : v.ownBlock with
    | none => exact .inl rfl
    | some g => right; intro e; have := (h.lt g hv).1; injection e with e; omega)

set_option maxRecDepth 100000 in
set_option maxHeartbeats 4000000 in
theorem built_any (p : Option Addr) (nl cap : Nat) (I : Nat → Ins) (wait : Int) (w : World) (hI : Its w p nl I) (hnl : nl ≤ 40) (hL : Code.Laid w) :
    Calls Tryz.prog 9 #[.slice p nl cap, .slice none 0 0, .int .i64 wait] w fun e w' => Below w.heap.size w w' ∧ BuiltPost I nl wait w e w' := by
  have hnl' : (nl : Int) ≤ 40 := by omega
  obtain ⟨i0, hi, hz0, hz1, hz2⟩ := info_parts infoU8
  have HN := heap_alloc_new w (.cells #[.slice none 0 0, .slice none 0 0, .int .i64 0, .int .u32 0, .int .u32 0, .int .u32 0, .int .u32 0, .int .u32 0, .int .u32 0, .int .u32 0, .int .u32 0, .int .u32 0, .int .u32 0, .int .u32 0, .int .u32 0, .int .u32 0, .int .u32 0, .int .u32 0, .int .u32 0, .int .u32 0, .int .u32 0, .int .u32 0, .int .u32 0, .int .i64 0, .int .i64 0, .int .i64 0, .int .i64 0] 35)
  have HB := (Below.refl w.heap.size w).alloc (Nat.le_refl _) (.cells #[.slice none 0 0, .slice none 0 0, .int .i64 0, .int .u32 0, .int .u32 0, .int .u32 0, .int .u32 0, .int .u32 0, .int .u32 0, .int .u32 0, .int .u32 0, .int .u32 0, .int .u32 0, .int .u32 0, .int .u32 0, .int .u32 0, .int .u32 0, .int .u32 0, .int .u32 0, .int .u32 0, .int .u32 0, .int .u32 0, .int .u32 0, .int .i64 0, .int .i64 0, .int .i64 0, .int .i64 0] 35)
  have HS : (w.alloc (.cells #[.slice none 0 0, .slice none 0 0, .int .i64 0, .int .u32 0, .int .u32 0, .int .u32 0, .int .u32 0, .int .u32 0, .int .u32 0, .int .u32 0, .int .u32 0, .int .u32 0, .int .u32 0, .int .u32 0, .int .u32 0, .int .u32 0, .int .u32 0, .int .u32 0, .int .u32 0, .int .u32 0, .int .u32 0, .int .u32 0, .int .u32 0, .int .i64 0, .int .i64 0, .int .i64 0, .int .i64 0] 35)).heap.size = w.heap.size + 1 := by simp
  replace HN := hide HN
  replace HB := hide HB
  go_enter Tryz.func9, Tryz.ntmps9
  go_wp2_with fail
  generalize hS : w.heap.size = S at *
  generalize w.alloc (.cells #[.slice none 0 0, .slice none 0 0, .int .i64 0, .int .u32 0, .int .u32 0, .int .u32 0, .int .u32 0, .int .u32 0, .int .u32 0, .int .u32 0, .int .u32 0, .int .u32 0, .int .u32 0, .int .u32 0, .int .u32 0, .int .u32 0, .int .u32 0, .int .u32 0, .int .u32 0, .int .u32 0, .int .u32 0, .int .u32 0, .int .u32 0, .int .i64 0, .int .i64 0, .int .i64 0, .int .i64 0] 35) = w1 at *
  go_loopw [8, 19] (fun s8 s19 wr => ∃ k : Nat, k ≤ nl ∧ s19 = .int .i64 k ∧ wr.ownsRow w1.heap.size 5 1 s8 (prgB I k).length (Code.u8s (prgB I k)) ∧ Below w1.heap.size w1 wr) (fun _ s19 _ => nl - (intOf s19).toNat)
  case atStart => exact ⟨0, Nat.zero_le _, rfl, World.ownsRow_nil _ _ _ _, Below.refl _ _⟩
  case round =>
    obtain ⟨k, hk, rfl, ho, hb⟩ := hrel
    have hbw : Below S w wr := HB.out.trans (hb.mono (by omega))
    by_cases hlt : k < nl
    · have hlt' : (k : Int) < nl := by omega
      rcases hI.cells with h0 | ⟨b, off, rfl, hbl, hcl⟩
      · omega
      have hrow := hide (range_below (hcl k hlt) (by rw [hS]; exact hbw))
      have hrg := hI.rg k hlt
      have hB2 := (Below.refl wr.heap.size wr).alloc (Nat.le_refl _) (.cells (inv (I k)) 52)
      have hL2 : Code.Laid (wr.alloc (.cells (inv (I k)) 52)) := hL.below (by rw [hS]; exact hbw.alloc (by have := hb.size; omega) _)
      have ho2 := ho.alloc (.cells (inv (I k)) 52)
      have hb2 := hb.alloc hb.size (.cells (inv (I k)) 52)
      replace hB2 := hide hB2
      cases hr : (I k).right
      · have e2 : prgB I (k + 1) = prgB I k := by show prgB I k ++ insB (I k) = _; unfold insB; rw [hr]; simp
        go_wp2_with (first
          | (refine wpList_load_mid rfl 52 (.tmp 21) rfl b (off + k * 11) rfl (inv (I k)).toList _ (unhide hrow) Tryz.underlying52 rfl info_in ?_)
          | (refine wpList_store_rowTo rfl 52 (.tmp 10) (.tmp 22) rfl rfl _ (inv (I k)) rfl rfl 52 (inv zerI) (heap_alloc_last _ _) info_in rfl (one_in _) ?_; rw [World.setRow_alloc_new])
          | (refine wpList_load_row rfl 52 (.tmp 10) rfl _ rfl 52 _ (0, 0) _ (heap_alloc_last _ _) Tryz.underlying52 rfl info_in ?_))
        refine (BytesN (I k) hr _ hL2).mono ?_
        rintro e w3 ⟨rfl, hb3⟩
        have ho3 := owns_below ho2 hb3
        have hb4 := hb2.trans (hb3.mono hb2.size)
        clear hb3
        go_wp2_with fail
        go_roundw
        case rel => exact ⟨k + 1, by omega, by go_num, by rw [e2]; exact ho3, hb4⟩
        case measure => simp [intOf]; omega
      · have e2 : prgB I (k + 1) = prgB I k ++ insB (I k) := rfl
        have hpl := prgB_len I k
        have hil := insB_len (I k)
        go_wp2_with (first
          | (refine wpList_load_mid rfl 52 (.tmp 21) rfl b (off + k * 11) rfl (inv (I k)).toList _ (unhide hrow) Tryz.underlying52 rfl info_in ?_)
          | (refine wpList_store_rowTo rfl 52 (.tmp 10) (.tmp 22) rfl rfl _ (inv (I k)) rfl rfl 52 (inv zerI) (heap_alloc_last _ _) info_in rfl (one_in _) ?_; rw [World.setRow_alloc_new])
          | (refine wpList_load_row rfl 52 (.tmp 10) rfl _ rfl 52 _ (0, 0) _ (heap_alloc_last _ _) Tryz.underlying52 rfl info_in ?_))
        refine (BytesY (I k) hr hrg _ hL2).mono ?_
        rintro e w3 ⟨v3, rfl, hov, hb3⟩
        obtain ⟨g, gc, rfl, hg0, hg1, hgc, hgm, hgcell⟩ := Code.own_slice hov (insB_pos hr)
        have ho3 := owns_below ho2 hb3
        have hb4 := hb2.trans (hb3.mono hb2.size)
        clear hb3
        go_wp2_with (at_builtin; refine wpList_append_own _ rfl (.tmp 30) (.tmp 31) 23 rfl w1.heap.size 5 i0 (.int .u8 0) 1 1 Tryz.underlying23 hi hz0 hz1 hz2 rfl (by decide) _ _ _ rfl ho3 ⟨g, 0, none⟩ (insB (I k)).length _ (Code.u8s (insB (I k))) rfl ?k1 ?k2 ?k3 ?k4 ?k5 hb4.size ?_)
        case k1 => simp [Code.u8s]
        case k2 => intro j u hj; rw [add_off']; exact hgcell j u hj
        case k3 => exact u8s_one' _
        case k4 => unfold maxLen; omega
        case k5 => omega
        intro v5 w5 ho5 hg5 _
        have hb5 : Below w1.heap.size w1 w5 := hb4.grown hg5 hb4.size (fun j hj => (ho3.lt j hj).1)
        go_wp2_with fail
        go_roundw
        case rel => exact ⟨k + 1, by omega, by go_num, by rw [e2, List.length_append, HS]; simpa [Code.u8s] using ho5, hb5⟩
        case measure => simp [intOf]; omega
    · obtain rfl : k = nl := by omega
      have hpl := prgB_len I k
      obtain ⟨q, c, rfl, hsl⟩ := own_sl ho
      go_wp2_with (at_builtin; refine wpList_append_own_none rfl (.tmp 34) (.tmp 35) 23 rfl w1.heap.size 5 i0 1 Tryz.underlying23 hi _ _ _ rfl ho rfl ?_)
      refine (New_ok q (prgB I k).length c (flaF I k) _ hsl (by omega)).mono ?_
      rintro e w2 ⟨m, F, R, rfl, hIs, hle, hb2⟩
      have hb3 := hb.trans (hb2.mono hb.size)
      by_cases hw : 0 ≤ wait ∧ wait ≤ 7
      · go_wp2_with fail
        refine (NewC_yes m wait hw.1 hw.2 _).mono ?_
        rintro e w3 ⟨rfl, rfl⟩
        have hMx := heap_alloc_new w2 (.cells (mcc (newM m wait)) 95)
        have hIs3 := hIs.alloc (.cells (mcc (newM m wait)) 95)
        have hb4 := hb3.alloc hb3.size (.cells (mcc (newM m wait)) 95)
        have hsz := hb3.size
        have hball : Below wr.heap.size wr (w2.alloc (.cells (mcc (newM m wait)) 95)) := hb2.alloc hb2.size _
        have hwz := hb.size
        generalize w2.alloc (.cells (mcc (newM m wait)) 95) = w3 at *
        have hz := hb4.size
        go_wp2_with fail
        refine (refNew_any q (prgB I k).length c wait _).mono ?_
        rintro e w4 ⟨rfl, hb5⟩
        have hb6 := hb4.trans (hb5.mono hb4.size)
        have N4 : w4.heap[S]? = some (.cells (refC (.slice none 0 0) 0 0) 35 (0, 0)) := (hb6.block S (by omega)).trans HN.out
        have O4 := setRow_off w4 S (refC (.slice q (prgB I k).length c) wait (-1))
        have HL := setRow_heap _ _ _ (refC (.slice q (prgB I k).length c) wait (-1)) _ _ N4
        have M4 : Mx w4 w2.heap.size (newM m wait) := Mx.below (show Mx w3 w2.heap.size (newM m wait) from hMx) hb5
        have I4 := hIs3.below hb5
        have W4 := owns_below ho (hb2.trans ((Below.refl w2.heap.size w2).mono hb2.size))
        have hfin : w4.ownsRow w1.heap.size 5 1 (.slice q (prgB I k).length c) (prgB I k).length (Code.u8s (prgB I k)) := owns_below ho (hball.trans (hb5.mono hball.size))
        replace N4 := hide N4
        replace hMx := hide hMx
        clear hIs hIs3 hb2 hb3 ho W4
        go_wp2_with (refine wpList_store_rowTo rfl 35 (.tmp 7) (.tmp 65) rfl rfl _ (refC (.slice q (prgB I k).length c) wait (-1)) rfl rfl 35 (refC (.slice none 0 0) 0 0) (unhide N4) info_ref rfl (one_ref _ _ _ _ _) ?_)
        refine bodyPost_ret (v := .tuple #[.pointer (some ⟨w2.heap.size, 0, none⟩), .agg (refC (.slice q (prgB I k).length c) wait (-1))]) (by have HR := run_loadVar_row (P := Tryz.prog) _ S 35 35 (refC (.slice q (prgB I k).length c) wait (-1)) (0, 0) _ HL Tryz.underlying35 rfl info_ref; simp [results, Tryz.results9, asAddr, HR]) rfl ⟨by rw [hS]; exact setRow_below (HB.out.trans (hb6.mono (by omega))) (Nat.le_refl _) _, .inr ⟨hw, _, m, F, R, q, c, rfl, M4.off O4 (by simp; omega), isOff I4 O4 (by simp; omega) (by simp; omega) (by simp; omega), ⟨by omega, by omega, by omega, by omega⟩, own_sl' (owns_off hfin O4 (by omega))⟩⟩
      · go_wp2_with fail
        refine (NewC_no m wait (by omega) _).mono ?_
        rintro e w3 ⟨rfl, rfl⟩
        have hz := hb3.size
        have N4 : w3.heap[S]? = some (.cells (refC (.slice none 0 0) 0 0) 35 (0, 0)) := (hb3.block S (by omega)).trans HN.out
        have HL := setRow_heap _ _ _ (refC (.slice none 0 0) 0 0) _ _ N4
        replace N4 := hide N4
        go_wp2_with (refine wpList_store_rowTo rfl 35 (.tmp 7) (.tmp 61) rfl rfl _ (refC (.slice none 0 0) 0 0) rfl rfl 35 (refC (.slice none 0 0) 0 0) (unhide N4) info_ref rfl (one_ref _ _ _ _ _) ?_)
        refine bodyPost_ret (v := .tuple #[.pointer none, .agg (refC (.slice none 0 0) 0 0)]) (by have HR := run_loadVar_row (P := Tryz.prog) _ S 35 35 (refC (.slice none 0 0) 0 0) (0, 0) _ HL Tryz.underlying35 rfl info_ref; simp [results, Tryz.results9, asAddr, HR]) rfl ⟨by rw [hS]; exact setRow_below (HB.out.trans (hb3.mono (by omega))) (Nat.le_refl _) _, .inl ⟨hw, rfl⟩⟩
end Go.Proofs.YtfdnjoieolijcaaGreatDoor.Core

/-! The document's example, by numbers: two instructions, and what they leave. No function of the program is walked here. -/
set_option linter.unusedVariables false
namespace Go.Proofs.YtfdnjoieolijcaaGreatDoor.Core
open Go.RowKit Go.Proofs.YtfdnjoieolijcaaGreatDoor.Mem Go.Proofs.YtfdnjoieolijcaaGreatDoor.Alu

def an1 : Ins := ⟨8, 0, 0, 0, 0, 5, 0, 0, 0, 0, 0⟩
def an2 : Ins := ⟨31, 0, 0, 14, 0, 0, 0, 0, 0, 0, 0⟩
def anI (k : Nat) : Ins := if k = 0 then an1 else an2
def anF : Nat → Int := flaF anI 2
def noG : Nat → Int := fun _ => 0
theorem an_len : (prgB anI 2).length = 4 := by decide +kernel
def anS : St := (zerS.reg 14 4294967295).reg 15 134217728
def anA : Mc := { newM 0 0 with s := bitsS anS }
def anB : Mc := stM 4 anF noG anA an1 0
def anC : Mc := stM 4 anF noG anB an2 0
theorem an_v1 : hfV 4 anF 134217728 = 8197 ∧ hfE 4 134217728 = 0 ∧ Code.beg 8197 = false := by decide +kernel
theorem an_v2 : hfV 4 anF 134217730 = 18288 ∧ hfE 4 134217730 = 0 ∧ Code.beg 18288 = false := by decide +kernel
theorem an_r1 : Inst.right 8 0 0 0 0 5 0 0 0 0 0 = true ∧ Code.wd 8 0 0 0 0 5 0 0 0 0 0 = 8197 ∧ Inst.wdF 8 = false := by decide +kernel
theorem an_r2 : Inst.right 31 0 0 14 0 0 0 0 0 0 0 = true ∧ Code.wd 31 0 0 14 0 0 0 0 0 0 0 = 18288 ∧ Inst.wdF 31 = false := by decide +kernel
theorem an_at1 : AtI 4 anF 134217728 an1 0 := .inr (.inl ⟨an_v1.2.1, by rw [an_v1.1]; exact an_v1.2.2, by rw [an_v1.1]; exact .inl ⟨⟨an_r1.1, by decide, by decide, an_r1.2.1, an_r1.2.2⟩, rfl⟩⟩)
theorem an_at2 : AtI 4 anF 134217730 an2 0 := .inr (.inl ⟨an_v2.2.1, by rw [an_v2.1]; exact an_v2.2.2, by rw [an_v2.1]; exact .inl ⟨⟨an_r2.1, by decide, by decide, an_r2.2.1, an_r2.2.2⟩, rfl⟩⟩)
theorem an_e1 : stE 4 anF noG anA an1 0 = 0 := by decide +kernel
theorem an_e2 : stE 4 anF noG anB an2 0 = 0 := by decide +kernel
theorem an_b : anB.s.R 15 = 134217730 ∧ anB.hk = 0 ∧ anB.cy = 1 := by decide +kernel
theorem an_c : anC.hk = 1 ∧ anC.hc = 0 ∧ anC.cy = 4 ∧ anC.s.R 0 = 5 := by decide +kernel
theorem an_a : anA.s.R 15 = 134217728 ∧ anA.hk = 0 ∧ anA.cy = 0 := by decide +kernel
theorem an_g (M : Mc) (j : Ins) (h : j = an1 ∨ j = an2) : stG 4 anF noG M j 0 = noG := by
  unfold stG exeG
  rcases h with rfl | rfl
  · rw [if_pos rfl, if_neg (show ¬ isSt (stW0 M an1).i.f = true from (by decide : ¬ isSt 8 = true)), if_neg (show ¬ (stW0 M an1).i.f = 42 from (by decide : ¬ (8 : Int) = 42))]
  · rw [if_pos rfl, if_neg (show ¬ isSt (stW0 M an2).i.f = true from (by decide : ¬ isSt 31 = true)), if_neg (show ¬ (stW0 M an2).i.f = 42 from (by decide : ¬ (31 : Int) = 42))]
theorem no_words : Words noG := fun _ => by unfold noG; omega
theorem good_bits {s : St} (h : Regs s) : Good (bitsS s) := ⟨h, b01_bd _, b01_bd _, b01_bd _, b01_bd _⟩
theorem zer_regs : Regs zerS := fun _ => by unfold zerS; dsimp only; omega
theorem an_regs : Regs anS := Regs.put (Regs.put zer_regs 14 _ (by omega)) 15 _ (by omega)
theorem an_may : May anA := ⟨good_bits an_regs, by rw [an_a.2.2]; omega, by show 0 ≤ (0 : Int) ∧ (0 : Int) ≤ 7; omega⟩
theorem anF_bd (i : Nat) (h : i < 4) : 0 ≤ anF i ∧ anF i < 256 := flaF_bd anI 2 i
theorem an_mayB : May anB := (went_of an_may anF_bd no_words (by rw [an_a.1]; exact an_at1) an_e1).may an_may (by rw [an_a.2.2]; omega)

def anM (m : Nat) (k : Nat) : Mc := if k = 0 then anA.on m else if k = 1 then anB.on m else anC.on m
theorem an_on {M : Mc} (h : May M) (m : Nat) : May (M.on m) := ⟨h.s, h.cy, h.wt⟩
theorem an_line (m : Nat) : Line 4 anF 9 2 (anM m) (fun _ => noG) where
  step := fun k hk => by
    rcases (show k = 0 ∨ k = 1 by omega) with rfl | rfl
    · refine ⟨an_a.2.1, ?_, an_on an_may m, no_words, an1, ?_, ?_, ?_, an_g _ _ (.inl rfl)⟩
      · show anA.cy < 9; rw [an_a.2.2]; omega
      · show AtI 4 anF (anA.s.R 15) an1 0; rw [an_a.1]; exact an_at1
      · show stE 4 anF noG (anA.on m) an1 0 = 0; rw [stE_on]; exact an_e1
      · show stM 4 anF noG (anA.on m) an1 0 = anB.on m; rw [stM_on]; rfl
    · refine ⟨an_b.2.1, ?_, an_on an_mayB m, no_words, an2, ?_, ?_, ?_, an_g _ _ (.inr rfl)⟩
      · show anB.cy < 9; rw [an_b.2.2]; omega
      · show AtI 4 anF (anB.s.R 15) an2 0; rw [an_b.1]; exact an_at2
      · show stE 4 anF noG (anB.on m) an2 0 = 0; rw [stE_on]; exact an_e2
      · show stM 4 anF noG (anB.on m) an2 0 = anC.on m; rw [stM_on]; rfl
  halt := .inl an_c.1
  m := fun k hk => by
    rcases (show k = 0 ∨ k = 1 ∨ k = 2 by omega) with rfl | rfl | rfl <;> rfl
end Go.Proofs.YtfdnjoieolijcaaGreatDoor.Core

/-! The document's example: the statements' own 'anchor' is true. -/
set_option linter.unusedVariables false
set_option linter.unusedSimpArgs false
namespace Go.Proofs.YtfdnjoieolijcaaGreatDoor.Core
open Go.RowKit Go.Proofs.YtfdnjoieolijcaaGreatDoor.Mem Go.Proofs.YtfdnjoieolijcaaGreatDoor.Alu

theorem field_R (a0 a1 a2 a3 a4 a5 a6 a7 a8 a9 a10 a11 a12 a13 a14 a15 a16 a17 a18 a19 : Int) (w : World) : Sem.run Tryz.prog (Instr.field 27 (.agg #[.int .u32 a0, .int .u32 a1, .int .u32 a2, .int .u32 a3, .int .u32 a4, .int .u32 a5, .int .u32 a6, .int .u32 a7, .int .u32 a8, .int .u32 a9, .int .u32 a10, .int .u32 a11, .int .u32 a12, .int .u32 a13, .int .u32 a14, .int .u32 a15, .int .u32 a16, .int .u32 a17, .int .u32 a18, .int .u32 a19]) 0) w = .ok (.agg #[.int .u32 a0, .int .u32 a1, .int .u32 a2, .int .u32 a3, .int .u32 a4, .int .u32 a5, .int .u32 a6, .int .u32 a7, .int .u32 a8, .int .u32 a9, .int .u32 a10, .int .u32 a11, .int .u32 a12, .int .u32 a13, .int .u32 a14, .int .u32 a15]) w := by
  kernel_rfl
theorem index_R (a0 a1 a2 a3 a4 a5 a6 a7 a8 a9 a10 a11 a12 a13 a14 a15 : Int) (w : World) : Sem.run Tryz.prog (Instr.index 25 (.agg #[.int .u32 a0, .int .u32 a1, .int .u32 a2, .int .u32 a3, .int .u32 a4, .int .u32 a5, .int .u32 a6, .int .u32 a7, .int .u32 a8, .int .u32 a9, .int .u32 a10, .int .u32 a11, .int .u32 a12, .int .u32 a13, .int .u32 a14, .int .u32 a15]) (.int .i64 0)) w = .ok (.int .u32 a0) w := by
  kernel_rfl
attribute [local go_sem] field_R index_R
/-- The slice that the example builds. -/
theorem an_its {w : World} {b : Nat} (h : w.heap[b]? = some (.cells ((inv an1).toList ++ (inv an2).toList).toArray 52 (0, 0))) : Its w (some ⟨b, 0, none⟩) 2 anI := by
  refine ⟨.inr ⟨b, 0, rfl, lt_of_heap h, fun i hi => ?_⟩, fun i hi => ?_⟩
  · intro j v hv
    have hj : j < 11 := by have := (List.getElem?_eq_some_iff.1 hv).1; simpa [inv] using this
    rw [cell_of_row w b _ _ _ _ h, List.getElem?_toArray]
    rcases (show i = 0 ∨ i = 1 by omega) with rfl | rfl
    · rw [show 0 + 0 * 11 + j = j by omega, List.getElem?_append_left (show j < (inv an1).toList.length from hj)]
      exact hv
    · rw [show 0 + 1 * 11 + j = 11 + j by omega, List.getElem?_append_right (show (inv an1).toList.length ≤ 11 + j from by show 11 ≤ 11 + j; omega)]
      rw [show 11 + j - (inv an1).toList.length = j from by show 11 + j - 11 = j; omega]
      exact hv
  · rcases (show i = 0 ∨ i = 1 by omega) with rfl | rfl <;> decide

set_option maxRecDepth 100000 in
set_option maxHeartbeats 4000000 in
theorem anchor7_any (w : World) (hL : Code.Laid w) :
    Calls Tryz.prog 8 #[] w fun e w' => e = .returned (.bool true) ∧ Below w.heap.size w w' := by
  go_enter Tryz.func8, Tryz.ntmps8
  go_wp2_with fail
  have hA := heap_alloc_new w (.cells #[.int .i64 8, .int .i64 0, .int .i64 0, .int .i64 0, .int .i64 0, .int .i64 5, .int .i64 0, .int .i64 0, .int .i64 0, .int .i64 0, .int .i64 0, .int .i64 31, .int .i64 0, .int .i64 0, .int .i64 14, .int .i64 0, .int .i64 0, .int .i64 0, .int .i64 0, .int .i64 0, .int .i64 0, .int .i64 0] 52)
  have hB := (Below.refl w.heap.size w).alloc (Nat.le_refl _) (.cells #[.int .i64 8, .int .i64 0, .int .i64 0, .int .i64 0, .int .i64 0, .int .i64 5, .int .i64 0, .int .i64 0, .int .i64 0, .int .i64 0, .int .i64 0, .int .i64 31, .int .i64 0, .int .i64 0, .int .i64 14, .int .i64 0, .int .i64 0, .int .i64 0, .int .i64 0, .int .i64 0, .int .i64 0, .int .i64 0] 52)
  refine (built_any (some ⟨w.heap.size, 0, none⟩) 2 2 anI 0 _ (an_its hA) (by decide) (hL.below hB)).mono ?_
  rintro e w1 ⟨hb1, hp⟩
  rcases hp with ⟨hbad, _⟩ | ⟨_, C, m, F, R, q, fc, rfl, hx1, hI1, hle, _⟩
  · exact absurd ⟨by omega, by omega⟩ hbad
  have hB1 : Below w.heap.size w w1 := hB.trans (hb1.mono hB.size)
  have hsz := hB.size
  rw [an_len] at hI1
  generalize (w.alloc (.cells #[.int .i64 8, .int .i64 0, .int .i64 0, .int .i64 0, .int .i64 0, .int .i64 5, .int .i64 0, .int .i64 0, .int .i64 0, .int .i64 0, .int .i64 0, .int .i64 31, .int .i64 0, .int .i64 0, .int .i64 14, .int .i64 0, .int .i64 0, .int .i64 0, .int .i64 0, .int .i64 0, .int .i64 0, .int .i64 0] 52)) = w0 at *
  clear hA hb1 hB
  go_upto_region 2 with (refine wpList_store_rowTo rfl 35 (.tmp 2) (.tmp 11) rfl rfl _ (refC (.slice q (prgB anI 2).length fc) 0 (-1)) rfl rfl 35 (refC (.slice none 0 0) 0 0) (heap_alloc_last _ _) info_ref rfl (one_ref _ _ _ _ _) ?_; rw [World.setRow_alloc_new])
  (try simp only [Act.put, List.getElem_toArray, List.getElem_cons_zero, List.getElem_cons_succ, List.setIfInBounds_toArray, List.set_cons_zero, List.set_cons_succ])
  have hb2 := (Below.refl w1.heap.size w1).alloc (Nat.le_refl _) (.cells (refC (.slice q (prgB anI 2).length fc) 0 (-1)) 35)
  have hB2 : Below w.heap.size w _ := hB1.trans (hb2.mono hB1.size)
  have hx2 := hx1.below hb2
  have hI2 := hI1.below hb2
  generalize w1.alloc (.cells (refC (.slice q (prgB anI 2).length fc) 0 (-1)) 35) = w2 at *
  clear hx1 hI1 hb2 hB1
  go_upto_region 5 with (refine wpList_store_rowTo rfl 27 (.tmp 3) (.tmp 14) rfl rfl _ (stv zerS) rfl rfl 27 (stv zerS) (heap_alloc_last _ _) info_st rfl (one_st _) ?_; rw [World.setRow_alloc_new])
  (try simp only [Act.put, List.getElem_toArray, List.getElem_cons_zero, List.getElem_cons_succ, List.setIfInBounds_toArray, List.set_cons_zero, List.set_cons_succ])
  have hb3 := (Below.refl w2.heap.size w2).alloc (Nat.le_refl _) (.cells (stv zerS) 27)
  have hB3 : Below w.heap.size w _ := hB2.trans (hb3.mono hB2.size)
  have hx3 := hx2.below hb3
  have hI3 := hI2.below hb3
  have X3 := Sx.new w2 zerS
  have hw2 := hB2.size
  have hCb : C < w2.heap.size := hx2.lt
  have hmb := hI2.ltB
  have hFb := hI2.ltF
  have hRb := hI2.ltR
  generalize w2.alloc (.cells (stv zerS) 27) = w3 at *
  generalize w2.heap.size = b at *
  clear hx2 hI2 hb3 hB2
  have c14 := X3.cell (k := 14) rfl
  have c15 := X3.cell (k := 15) rfl
  have f14 := X3.free 14
  have f15 := X3.free 15
  have X4 := hide (show Sx ((w3.setCell ⟨b, 14, none⟩ (.int .u32 4294967295)).setCell ⟨b, 15, none⟩ (.int .u32 134217728)) b anS from (X3.set (s' := zerS.reg 14 4294967295) rfl).set rfl)
  have O4 := hide (((Off.refl [b] w3).set (p := ⟨b, 14, none⟩) (by simp) (.int .u32 4294967295)).set (p := ⟨b, 15, none⟩) (by simp) (.int .u32 134217728))
  clear X3
  go_upto_region 6 with fail
  (try simp only [Act.put, List.getElem_toArray, List.getElem_cons_zero, List.getElem_cons_succ, List.setIfInBounds_toArray, List.set_cons_zero, List.set_cons_succ])
  generalize (w3.setCell ⟨b, 14, none⟩ (.int .u32 4294967295)).setCell ⟨b, 15, none⟩ (.int .u32 134217728) = w4 at *
  have hx4 := hx3.off O4.out (by simp; omega)
  have hI4 := isOff hI3 O4.out (by simp; omega) (by simp; omega) (by simp; omega)
  have hB4 : Below w.heap.size w w4 := hB3.trans (O4.out.below hB3.size (by intro k hk; simp at hk; omega))
  clear c14 c15 f14 f15 hx3 hI3 O4 hB3
  go_wp2_with (refine wpList_load_row rfl 27 (.tmp 3) rfl b rfl 27 _ (0, 0) _ (unhide X4) Tryz.underlying27 rfl info_st ?_)
  refine (SetC_any hx4 anS).mono ?_
  rintro e w5 ⟨rfl, hx5, ho5⟩
  have hmC : m ≠ C := fun e => by have x := hI4.box; rw [e, show w4.heap[C]? = _ from hx4] at x; simp at x
  have hFC : F ≠ C := fun e => by have x := hI4.fl; rw [e, show w4.heap[C]? = _ from hx4] at x; simp at x
  have hRC : R ≠ C := fun e => by have x := hI4.ram; rw [e, show w4.heap[C]? = _ from hx4] at x; simp at x
  have hI5 := isOff hI4 ho5 (by simpa using hmC) (by simpa using hFC) (by simpa using hRC)
  have hB5 : Below w.heap.size w w5 := hB4.trans (ho5.below hB4.size (by intro k hk; simp at hk; omega))
  clear hx4 hI4 ho5 X4
  have hL5 := hL.below hB5
  have ntR := not_of hL (B := R) (by omega)
  have ntC := not_of hL (B := C) (by omega)
  have HR := hide (RunA_any (w := w5) (C := C) (an_line m) (by decide) hx5 hI5 anF_bd (by decide) hL5 ntR ntC)
  clear hx5 hI5
  go_wp2_with fail
  refine (unhide HR).mono ?_
  rintro e w6 ⟨rfl, hx6, hI6, ho6⟩
  have hB6 : Below w.heap.size w w6 := hB5.trans (ho6.below hB5.size (by intro k hk; simp at hk; omega))
  have hc := an_c
  clear HR hB5 ho6
  go_wp2_with (first
    | (go_at_call 24; refine (HaltC_any hx6).mono ?_; rintro e w7 ⟨rfl, hb7⟩)
    | (go_at_call 23; refine (CyclesC_any (hx6.below hb7)).mono ?_; rintro e w8 ⟨rfl, rfl⟩))
  have hB8 : Below w.heap.size w w8 := hB6.trans (hb7.mono hB6.size)
  refine (StateC_any (hx6.below hb7)).mono ?_
  rintro e w9 ⟨rfl, hb9⟩
  have hB9 : Below w.heap.size w w9 := hB8.trans (hb9.mono hB8.size)
  have h0 : (anM m 2).s.R 0 = 5 := hc.2.2.2
  dsimp only [stv]
  go_wp2_with fail
  go_ret
  exact ⟨by simp [h0], hB9⟩
end Go.Proofs.YtfdnjoieolijcaaGreatDoor.Core

/-! A state as an argument, by value: opened into its registers and flags. -/
set_option linter.unusedVariables false
namespace Go.Proofs.YtfdnjoieolijcaaGreatDoor.Core
open Go.ChangeShapes Go.WideShapes Go.RowKit Go.Deep Go.Proofs.YtfdnjoieolijcaaGreatDoor.Mem

theorem cells_st : Tryz.prog.cellsOf 27 = 20 := by kernel_rfl
theorem cells_r16 : Tryz.prog.cellsOf 25 = 16 := by kernel_rfl
theorem cells_u32 : Tryz.prog.cellsOf 24 = 1 := by kernel_rfl
/-- One cell of a list. -/
def valAt (cs : Array Value) (q : Nat) : Int := match cs[q]? with | some v => intOf v | none => 0
def stOf (cs : Array Value) : St := ⟨fun k => if k < 16 then valAt cs k else 0, valAt cs 16, valAt cs 17, valAt cs 18, valAt cs 19⟩

/-- A state's numbers are words. -/
structure Word1 (s : St) : Prop where
  r : ∀ k, 0 ≤ s.R k ∧ s.R k < 4294967296
  n : 0 ≤ s.n ∧ s.n < 4294967296
  z : 0 ≤ s.z ∧ s.z < 4294967296
  c : 0 ≤ s.c ∧ s.c < 4294967296
  v : 0 ≤ s.v ∧ s.v < 4294967296

set_option maxRecDepth 100000 in
theorem open_state {H : Type} {enc : TypeId × Value → H} {w : World} {base : Nat} {spare : Nat → Bool} {held : Bool} {r : Reach} {b0 : Nat} {v : Value} {d : DataW H} {p : List MemPlace}
    (hv : Value.okWide Tryz.prog w r b0 27 v) (h : DataW.Trod enc Tryz.prog w base spare held 27 v d p) :
    ∃ s : St, v = .agg (stv s) ∧ p = [] ∧ Word1 s := by
  obtain ⟨cs, rfl, hsz⟩ := okWide_struct Tryz.underlying27 hv
  obtain ⟨fuel, hf⟩ := h
  obtain ⟨xs, n, _, hx, hl, hlen, hfld⟩ := DataW.trod_struct Tryz.underlying27 hf
  rw [cells_st] at hsz
  have hlen' : xs.length = 5 := hlen
  have hg : ∀ i, i < 5 → ∃ x, xs[i]? = some x := fun i hi => ⟨xs[i], List.getElem?_eq_getElem (by omega)⟩
  -- the array
  obtain ⟨x0, g0⟩ := hg 0 (by decide)
  have t0 : DataW.trod enc Tryz.prog w base spare held n 25 (((Value.agg cs).cells.toList.drop 0).take (Tryz.prog.cellsOf 25)) = xs[0]? := hfld 0 _ rfl
  rw [g0] at t0
  obtain ⟨ys, m, _, hy, _, hyl, hye⟩ := DataW.trod_array Tryz.underlying25 t0
  have k0 : ∀ q, q < 16 → ∃ z, cs[q]? = some (.int .u32 z) ∧ (Lit.int .u32 z).wf = true ∧ ys[q]? = some (.lit (.int .u32 z), []) := by
    intro q hq
    have t := hye q hq
    rw [List.getElem?_eq_getElem (by omega)] at t
    obtain ⟨z, e1, e2, e3⟩ := DataW.trod_int Tryz.underlying24 t
    refine ⟨z, ?_, e3, by rw [List.getElem?_eq_getElem (by omega), e2]⟩
    rw [cells_u32, cells_r16] at e1
    have := congrArg (·[0]?) e1
    simpa [Value.cells, List.getElem?_take, List.getElem?_drop, hq] using this
  have k1 : ∀ i, 1 ≤ i → i < 5 → ∃ z, cs[15 + i]? = some (.int .u32 z) ∧ (Lit.int .u32 z).wf = true ∧ xs[i]? = some (.lit (.int .u32 z), []) := by
    intro i h1 h5
    obtain ⟨x, g⟩ := hg i h5
    rcases (show i = 1 ∨ i = 2 ∨ i = 3 ∨ i = 4 by omega) with rfl | rfl | rfl | rfl
    · have t : DataW.trod enc Tryz.prog w base spare held n 24 (((Value.agg cs).cells.toList.drop 16).take (Tryz.prog.cellsOf 24)) = xs[1]? := hfld 1 _ rfl
      rw [g] at t
      obtain ⟨z, e1, e2, e3⟩ := DataW.trod_int Tryz.underlying24 t
      refine ⟨z, ?_, e3, by rw [g, e2]⟩
      rw [cells_u32] at e1
      have := congrArg (·[0]?) e1
      simpa [Value.cells, List.getElem?_take, List.getElem?_drop] using this
    · have t : DataW.trod enc Tryz.prog w base spare held n 24 (((Value.agg cs).cells.toList.drop 17).take (Tryz.prog.cellsOf 24)) = xs[2]? := hfld 2 _ rfl
      rw [g] at t
      obtain ⟨z, e1, e2, e3⟩ := DataW.trod_int Tryz.underlying24 t
      refine ⟨z, ?_, e3, by rw [g, e2]⟩
      rw [cells_u32] at e1
      have := congrArg (·[0]?) e1
      simpa [Value.cells, List.getElem?_take, List.getElem?_drop] using this
    · have t : DataW.trod enc Tryz.prog w base spare held n 24 (((Value.agg cs).cells.toList.drop 18).take (Tryz.prog.cellsOf 24)) = xs[3]? := hfld 3 _ rfl
      rw [g] at t
      obtain ⟨z, e1, e2, e3⟩ := DataW.trod_int Tryz.underlying24 t
      refine ⟨z, ?_, e3, by rw [g, e2]⟩
      rw [cells_u32] at e1
      have := congrArg (·[0]?) e1
      simpa [Value.cells, List.getElem?_take, List.getElem?_drop] using this
    · have t : DataW.trod enc Tryz.prog w base spare held n 24 (((Value.agg cs).cells.toList.drop 19).take (Tryz.prog.cellsOf 24)) = xs[4]? := hfld 4 _ rfl
      rw [g] at t
      obtain ⟨z, e1, e2, e3⟩ := DataW.trod_int Tryz.underlying24 t
      refine ⟨z, ?_, e3, by rw [g, e2]⟩
      rw [cells_u32] at e1
      have := congrArg (·[0]?) e1
      simpa [Value.cells, List.getElem?_take, List.getElem?_drop] using this
  have key : ∀ q, q < 20 → ∃ z, cs[q]? = some (.int .u32 z) ∧ (Lit.int .u32 z).wf = true := by
    intro q hq
    by_cases h16 : q < 16
    · obtain ⟨z, a, b, _⟩ := k0 q h16; exact ⟨z, a, b⟩
    · obtain ⟨z, a, b, _⟩ := k1 (q - 15) (by omega) (by omega)
      rw [show 15 + (q - 15) = q by omega] at a
      exact ⟨z, a, b⟩
  have kv : ∀ q, q < 20 → cs[q]? = some (.int .u32 (valAt cs q)) ∧ 0 ≤ valAt cs q ∧ valAt cs q < 4294967296 := by
    intro q hq
    obtain ⟨z, a, b⟩ := key q hq
    have e : valAt cs q = z := by unfold valAt; rw [a]; rfl
    rw [e]
    have := bounds_u32 b
    exact ⟨a, by omega, by omega⟩
  refine ⟨stOf cs, ?_, ?_, ⟨?_, (kv 16 (by decide)).2, (kv 17 (by decide)).2, (kv 18 (by decide)).2, (kv 19 (by decide)).2⟩⟩
  · congr 1
    apply Array.ext_getElem?
    intro q
    by_cases hq : q < 20
    · rw [(kv q hq).1]
      rcases (show q = 0 ∨ q = 1 ∨ q = 2 ∨ q = 3 ∨ q = 4 ∨ q = 5 ∨ q = 6 ∨ q = 7 ∨ q = 8 ∨ q = 9 ∨ q = 10 ∨ q = 11 ∨ q = 12 ∨ q = 13 ∨ q = 14 ∨ q = 15 ∨ q = 16 ∨ q = 17 ∨ q = 18 ∨ q = 19 by omega) with rfl | rfl | rfl | rfl | rfl | rfl | rfl | rfl | rfl | rfl | rfl | rfl | rfl | rfl | rfl | rfl | rfl | rfl | rfl | rfl <;> rfl
    · rw [Array.getElem?_eq_none (by omega), Array.getElem?_eq_none (show (stv (stOf cs)).size ≤ q from by show 20 ≤ q; omega)]
  · have hp := congrArg Prod.snd hx
    simp only at hp
    rw [hp, List.flatMap_eq_nil_iff]
    intro y hy'
    obtain ⟨i, hi, rfl⟩ := List.mem_iff_getElem.1 hy'
    by_cases h0 : i = 0
    · subst h0
      rw [List.getElem?_eq_getElem hi, Option.some.injEq] at g0
      rw [g0, hy]
      show ys.flatMap (·.2) = []
      rw [List.flatMap_eq_nil_iff]
      intro u hu
      obtain ⟨j, hj, rfl⟩ := List.mem_iff_getElem.1 hu
      obtain ⟨z, _, _, e⟩ := k0 j (by omega)
      rw [List.getElem?_eq_getElem hj, Option.some.injEq] at e
      rw [e]
    · obtain ⟨z, _, _, e⟩ := k1 i (by omega) (by omega)
      rw [List.getElem?_eq_getElem hi, Option.some.injEq] at e
      rw [e]
  · intro k
    show 0 ≤ (if k < 16 then valAt cs k else 0) ∧ (if k < 16 then valAt cs k else 0) < 4294967296
    split
    · exact (kv k (by omega)).2
    · omega
end Go.Proofs.YtfdnjoieolijcaaGreatDoor.Core

/-! The statement CoreRuns' own function that looks at events: another machine does the same step. -/
set_option linter.unusedVariables false
set_option linter.unusedSimpArgs false
namespace Go.Proofs.YtfdnjoieolijcaaGreatDoor.Core
open Go.RowKit Go.Proofs.YtfdnjoieolijcaaGreatDoor.Mem Go.Proofs.YtfdnjoieolijcaaGreatDoor.Alu

/-- A box of one value. -/
def Bx (w : World) (b : Nat) (t : TypeId) (v : Value) : Prop := w.heap[b]? = some (.cells #[v] t (0, 0))
theorem Bx.cell {w : World} {b : Nat} {t : TypeId} {v : Value} (h : Bx w b t v) : w.cell? ⟨b, 0, none⟩ = some v := by simp [World.cell?, show w.heap[b]? = _ from h]
theorem Bx.free {w : World} {b : Nat} {t : TypeId} {v : Value} (h : Bx w b t v) : w.frozen? ⟨b, 0, none⟩ = false := free_row h 0
theorem Bx.lt {w : World} {b : Nat} {t : TypeId} {v : Value} (h : Bx w b t v) : b < w.heap.size := lt_of_heap h
theorem Bx.off {w w' : World} {b : Nat} {t : TypeId} {v : Value} (h : Bx w b t v) {S : List Nat} (o : Off S w w') (hb : b ∉ S) : Bx w' b t v := (o.block b h.lt hb).trans h
theorem Bx.set {w : World} {b : Nat} {t : TypeId} {v : Value} (h : Bx w b t v) (x : Value) : Bx (w.setCell ⟨b, 0, none⟩ x) b t x := setRam_heap w 0 x h

set_option maxRecDepth 100000 in
set_option maxHeartbeats 1500000 in
theorem clo_any {w : World} {D F R n : Nat} {M : Mc} {f g : Nat → Int} {j : Ins} {bd bo bs bw bn : Nat} {sum nn a b c d x : Int}
    (h : Mx w D M) (hm : Is w M.m F R n f g) (hf : ∀ i, i < n → 0 ≤ f i ∧ f i < 256) (hn : n ≤ 65536) (hg : May M) (hgb : Words g) (hL : Code.Laid w) (ntR : NoTab R) (hk : M.hk = 0)
    (hat : AtI n f (M.s.R 15) j 0) (hE : stE n f g M j 0 = 0) (hev : evA M j (exeW n f g (stW0 M j)) = evv a b c d x)
    (xd : Bx w bd 29 (.pointer (some ⟨D, 0, none⟩))) (xo : Bx w bo 4 (.bool true)) (xs : Bx w bs 3 (.int .i64 sum)) (xw : Bx w bw 3 (.int .i64 M.wait)) (xn : Bx w bn 3 (.int .i64 nn))
    (hsn : bs ≠ bn) (hwn : bw ≠ bn) (hws : bw ≠ bs) (hsum : 0 ≤ sum ∧ sum ≤ 1000000000) (hnn : 0 ≤ nn ∧ nn ≤ 1000000000) (hd : 0 ≤ d ∧ d ≤ 19) (hx : 0 ≤ x ∧ x ≤ 2) :
    Calls Tryz.prog 22 #[.agg (evv a b c d x), .pointer (some ⟨bd, 0, none⟩), .pointer (some ⟨bo, 0, none⟩), .pointer (some ⟨bs, 0, none⟩), .pointer (some ⟨bw, 0, none⟩), .pointer (some ⟨bn, 0, none⟩)] w fun e w' => e = .returned (.tuple #[]) ∧ Mx w' D (stM n f g M j 0) ∧ Is w' M.m F R n f (stG n f g M j 0)
      ∧ Bx w' bo 4 (.bool true) ∧ Bx w' bs 3 (.int .i64 (sum + (d + x * M.wait))) ∧ Bx w' bn 3 (.int .i64 (nn + 1)) ∧ Off [D, R, bo, bs, bn] w w' := by
  have hb := (Below.refl w.heap.size w).alloc (Nat.le_refl _) (.cells (evv a b c d x) 41)
  have ob : Off [D, R] w _ := Off.of_below hb
  have HS := hide (Step_run (h.below hb) (hm.below hb) hf hn hg hgb (hL.below hb) ntR hk)
  have hne : ∀ {q : Nat} {t : TypeId} {v : Value}, Bx w q t v → q ≠ D ∧ q ≠ R := fun {q t v} hq => ⟨fun e => by have y : w.heap[q]? = _ := hq; rw [e, show w.heap[D]? = _ from h] at y; simp [mcc] at y, fun e => by have y : w.heap[q]? = _ := hq; rw [e, hm.ram] at y; simp at y; have z := congrArg Array.size y.1; simp [row_size] at z⟩
  have nd := hne xd
  have no := hne xo
  have ns := hne xs
  have nw := hne xw
  have n_n := hne xn
  have cd : (w.alloc (.cells (evv a b c d x) 41)).cell? ⟨bd, 0, none⟩ = some (.pointer (some ⟨D, 0, none⟩)) := (xd.off ob (by simp; exact nd)).cell
  have HEV := hide (heap_alloc_new w (.cells (evv a b c d x) 41))
  have OB := hide ob
  have zo := xo.lt
  have zs := xs.lt
  have zw := xw.lt
  have zn := xn.lt
  have zD := h.lt
  have zR := hm.ltR
  clear hb ob
  go_enter Tryz.func22, Tryz.ntmps22
  go_wp2_with fail
  refine (unhide HS).mono ?_
  rintro e w1 ⟨j', e0, hat', rfl, hx1, hI1, hO1⟩
  obtain ⟨rfl, rfl⟩ := at_one hat' hat
  have eV : stV n f g M j' 0 = evA M j' (exeW n f g (stW0 M j')) := if_pos hE
  have eR : stR n f g M j' 0 = 0 := if_pos hE
  rw [eV, eR, hev]
  have O1 := hide (OB.out.trans hO1)
  have E1 := hide ((hO1.block w.heap.size (by simp) (by simp; omega)).trans HEV.out)
  clear HS HEV cd eV eR hat hat' hO1
  have sz := O1.out.size
  have o1 := (xo.off O1.out (by simp; exact no)).cell
  have s1 := (xs.off O1.out (by simp; exact ns)).cell
  have v1 := (xw.off O1.out (by simp; exact nw)).cell
  have m1 := (xn.off O1.out (by simp; exact n_n)).cell
  have fo := (xo.off O1.out (by simp; exact no)).free
  have fs := (xs.off O1.out (by simp; exact ns)).free
  have fn_ := (xn.off O1.out (by simp; exact n_n)).free
  have hS1 : w.heap.size < w1.heap.size := lt_of_heap E1.out
  have e0 : w1.cell? ⟨w.heap.size, 0, none⟩ = some (.int .u32 a) := by rw [cell_of_row w1 w.heap.size 0 _ _ _ E1.out]; rfl
  have e1 : w1.cell? ⟨w.heap.size, 1, none⟩ = some (.int .u32 b) := by rw [cell_of_row w1 w.heap.size 1 _ _ _ E1.out]; rfl
  have e2 : w1.cell? ⟨w.heap.size, 2, none⟩ = some (.int .i64 c) := by rw [cell_of_row w1 w.heap.size 2 _ _ _ E1.out]; rfl
  have e3 : w1.cell? ⟨w.heap.size, 3, none⟩ = some (.int .i64 d) := by rw [cell_of_row w1 w.heap.size 3 _ _ _ E1.out]; rfl
  have e4 : w1.cell? ⟨w.heap.size, 4, none⟩ = some (.int .i64 x) := by rw [cell_of_row w1 w.heap.size 4 _ _ _ E1.out]; rfl
  have bP := mul_bd hx hg.wt
  generalize hSS : w.heap.size = S at *
  have z1 : bo < w1.heap.size := by omega
  have z2 : bs < w1.heap.size := by omega
  have z3 : bw < w1.heap.size := by omega
  have z4 : bn < w1.heap.size := by omega
  have y1 : bo ≠ S := by omega
  have y2 : bs ≠ S := by omega
  have y3 : bw ≠ S := by omega
  have y4 : bn ≠ S := by omega
  unfold evv
  go_upto_region 3 with fail
  (try simp only [Act.put, List.getElem_toArray, List.getElem_cons_zero, List.getElem_cons_succ, List.setIfInBounds_toArray, List.set_cons_zero, List.set_cons_succ])
  have hos : bs ≠ bo := fun e => by have y : w.heap[bs]? = _ := xs; rw [e, show w.heap[bo]? = _ from xo] at y; simp at y
  have how : bw ≠ bo := fun e => by have y : w.heap[bw]? = _ := xw; rw [e, show w.heap[bo]? = _ from xo] at y; simp at y
  have hon : bn ≠ bo := fun e => by have y : w.heap[bn]? = _ := xn; rw [e, show w.heap[bo]? = _ from xo] at y; simp at y
  have P2 := hide (((Off.refl [bo] w1).set (p := ⟨bo, 0, none⟩) (by simp) (.bool true)).alloc (.cells #[.int .u32 a, .int .u32 b, .int .i64 c, .int .i64 d, .int .i64 x] 41))
  have Xo2 := hide (((xo.off O1.out (by simp; exact no)).set (.bool true)).off ((Off.refl [] _).alloc (.cells #[.int .u32 a, .int .u32 b, .int .i64 c, .int .i64 d, .int .i64 x] 41)) (by simp))
  generalize hw2 : (w1.setCell ⟨bo, 0, none⟩ (.bool true)).alloc (.cells #[.int .u32 a, .int .u32 b, .int .i64 c, .int .i64 d, .int .i64 x] 41) = w2 at *
  have Xs2 := (xs.off O1.out (by simp; exact ns)).off P2.out (by simpa using hos)
  have Xw2 := (xw.off O1.out (by simp; exact nw)).off P2.out (by simpa using how)
  have Xn2 := (xn.off O1.out (by simp; exact n_n)).off P2.out (by simpa using hon)
  have E2 := (P2.out.block S hS1 (by simpa using fun e => y1 e.symm)).trans E1.out
  have M2 := hide (hx1.off P2.out (by simpa using fun e => no.1 e.symm))
  have hmo : M.m ≠ bo := fun e => by have y := hm.box; rw [e, show w.heap[bo]? = _ from xo] at y; simp at y
  have hFo : F ≠ bo := fun e => by have y := hm.fl; rw [e, show w.heap[bo]? = _ from xo] at y; simp at y
  have I2 := hide (isOff hI1 P2.out (by simpa using hmo) (by simpa using hFo) (by simpa using fun e => no.2 e.symm))
  have O2 := hide ((O1.out.mono (T := [D, R, bo, bs, bn]) (by intro k hk; simp at hk ⊢; omega)).trans (P2.out.mono (T := [D, R, bo, bs, bn]) (by intro k hk; simp at hk ⊢; omega)))
  clear hw2 o1 s1 v1 m1 fo fs fn_ e0 e1 e2 e3 e4 hx1 hI1 P2 O1 E1 OB
  have d3 : w2.cell? ⟨S, 3, none⟩ = some (.int .i64 d) := by rw [cell_of_row w2 S 3 _ _ _ E2]; rfl
  have d4 : w2.cell? ⟨S, 4, none⟩ = some (.int .i64 x) := by rw [cell_of_row w2 S 4 _ _ _ E2]; rfl
  have s2 := Xs2.cell
  have v2 := Xw2.cell
  have m2 := Xn2.cell
  have fs := Xs2.free
  have fn_ := Xn2.free
  have hns : bn ≠ bs := fun e => hsn e.symm
  have Xf := hide (Xs2.set (.int .i64 (sum + (d + x * M.wait))))
  have Xg := hide ((Bx.off Xn2 ((Off.refl [bs] w2).set (p := ⟨bs, 0, none⟩) (by simp) (.int .i64 (sum + (d + x * M.wait)))) (by simpa using hns)).set (.int .i64 (nn + 1)))
  have P3 := hide ((Off.refl [bs] w2).set (p := ⟨bs, 0, none⟩) (by simp) (.int .i64 (sum + (d + x * M.wait))))
  have P4 := hide ((Off.refl [bn] (w2.setCell ⟨bs, 0, none⟩ (.int .i64 (sum + (d + x * M.wait))))).set (p := ⟨bn, 0, none⟩) (by simp) (.int .i64 (nn + 1)))
  replace Xo2 := hide (Bx.off (Bx.off Xo2.out P3.out (by simpa using fun e => hos e.symm)) P4.out (by simpa using fun e => hon e.symm))
  have Xs4 := hide (Bx.off Xf.out P4.out (by simpa using hsn))
  have P5 := hide ((P3.out.mono (T := [bs, bn]) (by intro k hk; simp at hk ⊢; omega)).trans (P4.out.mono (T := [bs, bn]) (by intro k hk; simp at hk ⊢; omega)))
  have hm1 : M.m ≠ bs ∧ M.m ≠ bn := ⟨fun e => by have y := hm.box; rw [e, show w.heap[bs]? = _ from xs] at y; simp at y, fun e => by have y := hm.box; rw [e, show w.heap[bn]? = _ from xn] at y; simp at y⟩
  have hF1 : F ≠ bs ∧ F ≠ bn := ⟨fun e => by have y := hm.fl; rw [e, show w.heap[bs]? = _ from xs] at y; simp at y, fun e => by have y := hm.fl; rw [e, show w.heap[bn]? = _ from xn] at y; simp at y⟩
  clear Xs2 Xw2 Xn2 E2
  go_wp2_with fail
  go_end0
  have q : Off [bs, bn] w2 _ := P5.out
  exact ⟨rfl, M2.out.off P5.out (by simp; exact ⟨fun e => ns.1 e.symm, fun e => n_n.1 e.symm⟩), isOff I2.out P5.out (by simp; exact hm1) (by simp; exact hF1) (by simp; exact ⟨fun e => ns.2 e.symm, fun e => n_n.2 e.symm⟩), Xo2.out, Xs4.out, Xg.out, O2.out.trans (P5.out.mono (by intro k hk; simp at hk ⊢; omega))⟩
end Go.Proofs.YtfdnjoieolijcaaGreatDoor.Core

/-! A run whose events another machine follows: package core's Run with the statement CoreRuns' own function. -/
set_option linter.unusedVariables false
set_option linter.unusedSimpArgs false
namespace Go.Proofs.YtfdnjoieolijcaaGreatDoor.Core
open Go.RowKit Go.Proofs.YtfdnjoieolijcaaGreatDoor.Mem Go.Proofs.YtfdnjoieolijcaaGreatDoor.Alu
attribute [local go_sem] neq_func

def hkAt (C : Nat) (w : World) : Int := match w.cell? ⟨C, 25, none⟩ with | some v => intOf v | none => 0
theorem hkAt_of {w : World} {C : Nat} {M : Mc} (h : Mx w C M) : hkAt C w = M.hk := by
  have c : w.cell? ⟨C, 25, none⟩ = some (.int .i64 M.hk) := h.cell rfl
  unfold hkAt; rw [c]; rfl

/-- Where two machines and the function's boxes lie. -/
structure Spot where
  C : Nat
  mc : Nat
  Fc : Nat
  Rc : Nat
  D : Nat
  md : Nat
  Fd : Nat
  Rd : Nat
  bd : Nat
  bo : Nat
  bs : Nat
  bw : Nat
  bn : Nat
def Spot.all (p : Spot) : List Nat := [p.C, p.Rc, p.D, p.Rd, p.bo, p.bs, p.bn]

/-- The first machine and the second one, in step; or the first one has faulted, and the second one stands ahead of it. -/
structure Twin (w0 w : World) (p : Spot) (n : Nat) (f : Nat → Int) (wait : Int) (M : Mc) (g : Nat → Int) (nn : Int) : Prop where
  xc : Mx w p.C (M.on p.mc)
  xi : Is w p.mc p.Fc p.Rc n f g
  xg : Words g
  xo : Bx w p.bo 4 (.bool true)
  xs : Bx w p.bs 3 (.int .i64 M.cy)
  xn : Bx w p.bn 3 (.int .i64 nn)
  off : Off p.all w0 w
  nb : 0 ≤ nn ∧ nn ≤ M.cy
  wt : M.wait = wait
  may : May M
  two : ((M.hk = 0 ∨ M.hk = 1 ∨ M.hk = 2) ∧ Mx w p.D (M.on p.md) ∧ Is w p.md p.Fd p.Rd n f g)
    ∨ (M.hk = 3 ∧ ∃ M0 g0 j e0, M0.hk = 0 ∧ May M0 ∧ Words g0 ∧ AtI n f (M0.s.R 15) j e0 ∧ stE n f g0 M0 j e0 ≠ 0 ∧ M = stM n f g0 M0 j e0 ∧ Mx w p.D (M0.on p.md) ∧ Is w p.md p.Fd p.Rd n f g0)
/-- How a run ends. -/
def RunEnd (fuel : Int) (M : Mc) (r : Int) : Prop := (r = 70 ∧ M.hk = 0 ∧ fuel ≤ M.cy) ∨ (r = 0 ∧ (M.hk = 1 ∨ M.hk = 2)) ∨ (r = 10 ∧ M.hk = 3)

/-- What stays as it was while a run goes on. -/
structure Fix (w0 : World) (p : Spot) (n : Nat) (f : Nat → Int) (wait : Int) : Prop where
  xd : Bx w0 p.bd 29 (.pointer (some ⟨p.D, 0, none⟩))
  xw : Bx w0 p.bw 3 (.int .i64 wait)
  nd : p.bd ∉ p.all
  nw : p.bw ∉ p.all
  sn : p.bs ≠ p.bn
  wn : p.bw ≠ p.bn
  ws : p.bw ≠ p.bs
  cd : p.C ≠ p.D
  dc : p.C ∉ [p.D, p.Rd, p.bo, p.bs, p.bn]
  rc : p.Rc ∉ [p.D, p.Rd, p.bo, p.bs, p.bn]
  mc : p.mc ∉ p.all ∧ p.Fc ∉ p.all
  md : p.md ∉ p.all ∧ p.Fd ∉ p.all
  d : p.D ∉ [p.C, p.Rc]
  rd : p.Rd ∉ [p.C, p.Rc]
  bo : p.bo ∉ [p.C, p.Rc]
  bs : p.bs ∉ [p.C, p.Rc]
  bn : p.bn ∉ [p.C, p.Rc]
  hf : ∀ i, i < n → 0 ≤ f i ∧ f i < 256
  hn : n ≤ 65536
  hL : Code.Laid w0
  no : ∀ k, k ∈ p.all → NoT k

set_option maxRecDepth 100000 in
set_option maxHeartbeats 1500000 in
theorem RunB_any {w0 : World} {p : Spot} {n : Nat} {f : Nat → Int} {wait fuel : Int} {M : Mc} {g : Nat → Int} (hfu : fuel ≤ 3000) (hX : Fix w0 p n f wait) (h0 : Twin w0 w0 p n f wait M g 0) :
    Calls Tryz.prog 21 #[.pointer (some ⟨p.C, 0, none⟩), .int .i64 fuel, .func (.func 22) #[] #[.pointer (some ⟨p.bd, 0, none⟩), .pointer (some ⟨p.bo, 0, none⟩), .pointer (some ⟨p.bs, 0, none⟩), .pointer (some ⟨p.bw, 0, none⟩), .pointer (some ⟨p.bn, 0, none⟩)]] w0 fun e w' => ∃ M' g' nn r, e = .returned (.int .i64 r) ∧ Twin w0 w' p n f wait M' g' nn ∧ RunEnd fuel M' r := by
  go_enter Tryz.func21, Tryz.ntmps21
  go_wp2_with fail
  go_loopw [] (fun wr => ∃ M' g' nn, Twin w0 wr p n f wait M' g' nn) (fun wr => 2 * (fuel - cyAt p.C wr).toNat + (if hkAt p.C wr = 0 then 1 else 0))
  case atStart => exact ⟨M, g, 0, h0⟩
  case round =>
    obtain ⟨M', g', nn, hT⟩ := hrel
    clear h0
    have c25 : wr.cell? ⟨p.C, 25, none⟩ = some (.int .i64 M'.hk) := hT.xc.cell rfl
    have c24 : wr.cell? ⟨p.C, 24, none⟩ = some (.int .i64 M'.cy) := hT.xc.cell rfl
    have hcy := cyAt_of hT.xc
    have hhk := hkAt_of hT.xc
    rcases hT.two with ⟨hk, hxd, hid⟩ | ⟨hk, hF⟩
    · by_cases h0 : M'.hk = 0
      · rw [h0] at c25
        by_cases hc : fuel ≤ M'.cy
        · go_wp2_with fail
          go_ret
          exact ⟨M', g', nn, 70, rfl, hT, .inl ⟨rfl, h0, hc⟩⟩
        · have hLr : Code.Laid wr := hT.off.code hX.hL hX.no
          have ntR : NoTab p.Rc := (hX.no p.Rc (by simp [Spot.all])).1
          have HS := hide (Step_run hT.xc hT.xi hX.hf hX.hn (an_on hT.may p.mc) hT.xg hLr ntR h0)
          go_wp2_with fail
          refine (unhide HS).mono ?_
          rintro e w1 ⟨j, e0, hat, rfl, hx1, hI1, hO1⟩
          have hat2 : AtI n f (M'.s.R 15) j e0 := hat
          rw [stM_on] at hx1
          rw [show (M'.on p.mc).m = p.mc from rfl, stG_on] at hI1
          have hgw := words_of hT.may hT.xg hat2
          have hOm : Off p.all w0 w1 := hT.off.trans (hO1.mono (by intro k hk; simp at hk; simp [Spot.all]; rcases hk with h | h <;> simp [h]))
          have xo1 := hT.xo.off hO1 hX.bo
          have xs1 := hT.xs.off hO1 hX.bs
          have xn1 := hT.xn.off hO1 hX.bn
          have xd1 := hxd.off hO1 hX.d
          have hmd : p.md ∉ [p.C, p.Rc] := fun h => hX.md.1 (by simp at h; simp [Spot.all]; rcases h with h | h <;> simp [h])
          have hFd : p.Fd ∉ [p.C, p.Rc] := fun h => hX.md.2 (by simp at h; simp [Spot.all]; rcases h with h | h <;> simp [h])
          have xi1 := isOff hid hO1 hmd hFd hX.rd
          have hb1 := (Below.refl w1.heap.size w1).alloc (Nat.le_refl _)
          by_cases hs : stE n f g' M' j e0 = 0
          · have he0 := stE_ok hs
            subst he0
            have hW := went_of hT.may hX.hf hT.xg hat2 hs
            have eV : stV n f g' (M'.on p.mc) j 0 = evA M' j (exeW n f g' (stW0 M' j)) := by rw [stV_on]; exact if_pos hs
            have eR : stR n f g' (M'.on p.mc) j 0 = 0 := by rw [stR_on]; exact if_pos hs
            have hevD : evA (M'.on p.md) j (exeW n f g' (stW0 (M'.on p.md) j)) = evA M' j (exeW n f g' (stW0 M' j)) := by rw [stW0_on, exeW_on]; rfl
            have hbB := basI_bd hT.may.s j
            have hbM := Clock.mss_bd M'.fl M'.l (M'.s.R 15) (Inst.siz j.f)
            have hWcy := hW.cy
            have hWlo := hW.lo
            rw [eV, eR]
            unfold evA at hevD ⊢
            generalize (exeW n f g' (stW0 M' j)).da = b at *
            generalize (exeW n f g' (stW0 M' j)).wo = c at *
            generalize basI M'.s j = d at *
            generalize Clock.mss M'.fl M'.l (M'.s.R 15) (Inst.siz j.f) = x at *
            have hmay := hW.may hT.may (by omega)
            have hb2 := hb1 (.cells #[.int .u32 (M'.s.R 15), .int .u32 b, .int .i64 c, .int .i64 d, .int .i64 x] 41)
            have HC := hide (clo_any (w := w1.alloc (.cells #[.int .u32 (M'.s.R 15), .int .u32 b, .int .i64 c, .int .i64 d, .int .i64 x] 41)) (D := p.D) (F := p.Fd) (R := p.Rd) (M := M'.on p.md) (j := j) (bd := p.bd) (bo := p.bo) (bs := p.bs) (bw := p.bw) (bn := p.bn) (sum := M'.cy) (nn := nn) (a := M'.s.R 15) (b := b) (c := c) (d := d) (x := x)
              (xd1.below hb2) (xi1.below hb2) hX.hf hX.hn (an_on hT.may p.md) hT.xg ((hOm.trans (Off.of_below hb2)).code hX.hL hX.no) (hX.no p.Rd (by simp [Spot.all])).1 h0 hat2 (by rw [stE_on]; exact hs) hevD
              ((hX.xd.off hOm hX.nd).off (Off.of_below (S := []) hb2) (by simp)) (xo1.off (Off.of_below (S := []) hb2) (by simp)) (xs1.off (Off.of_below (S := []) hb2) (by simp))
              (by have y := (hX.xw.off hOm hX.nw).off (Off.of_below (S := []) hb2) (by simp); rw [← hT.wt] at y; exact y) (xn1.off (Off.of_below (S := []) hb2) (by simp))
              hX.sn hX.wn hX.ws (by have := hT.nb; omega) (by have := hT.nb; omega) (by omega) hbM)
            have hend : Hid (∀ w2 w3, Off [p.D, p.Rd, p.bo, p.bs, p.bn] w2 w3 → Below w1.heap.size w1 w2 → Mx w3 p.D (stM n f g' (M'.on p.md) j 0) → Is w3 (M'.on p.md).m p.Fd p.Rd n f (stG n f g' (M'.on p.md) j 0) → Bx w3 p.bo 4 (.bool true) → Bx w3 p.bs 3 (.int .i64 (M'.cy + (d + x * (M'.on p.md).wait))) → Bx w3 p.bn 3 (.int .i64 (nn + 1)) → Twin w0 w3 p n f wait (stM n f g' M' j 0) (stG n f g' M' j 0) (nn + 1)) := fun w2 w3 o hb y1 y2 y3 y4 y5 => by
              rw [stM_on] at y1
              rw [stG_on] at y2
              refine ⟨(hx1.below hb).off o hX.dc, isOff (hI1.below hb) o ?_ ?_ hX.rc, hgw, y3, ?_, y5, ?_, ?_, hW.wt.trans hT.wt, hmay, .inl ⟨hW.hk, y1, y2⟩⟩
              · exact fun h => hX.mc.1 (by simp at h; simp [Spot.all]; rcases h with h | h | h | h | h <;> simp [h])
              · exact fun h => hX.mc.2 (by simp at h; simp [Spot.all]; rcases h with h | h | h | h | h <;> simp [h])
              · rw [hWcy]; exact y4
              · exact (hOm.trans (Off.of_below hb)).trans (o.mono (by intro k hk; simp at hk; simp [Spot.all]; rcases hk with h | h | h | h | h <;> simp [h]))
              · have := hT.nb; omega
            clear HS hx1 hI1 xo1 xs1 xn1 xd1 xi1 hat hat2 eV eR hid hxd hevD
            unfold evv at HC ⊢
            go_wp2_with fail
            refine (unhide HC).mono ?_
            rintro e w3 ⟨rfl, y1, y2, y3, y4, y5, y6⟩
            have hE := hend.out _ w3 y6 hb2 y1 y2 y3 y4 y5
            clear HC hend y1 y2 y3 y4 y5 y6
            go_wp2_with fail
            go_roundw
            case rel => exact ⟨_, _, _, hE⟩
            case measure =>
              have q1 := cyAt_of hE.xc
              have q2 := hkAt_of hE.xc
              rw [show ((stM n f g' M' j 0).on p.mc).cy = (stM n f g' M' j 0).cy from rfl] at q1
              rw [show (M'.on p.mc).cy = M'.cy from rfl] at hcy
              rw [show (M'.on p.mc).hk = 0 from h0] at hhk
              rw [q1, hcy, hhk]
              split <;> simp <;> omega
          · have eV : stV n f g' (M'.on p.mc) j e0 = evv 0 0 0 0 0 := by rw [stV_on]; exact if_neg hs
            have eR : stR n f g' (M'.on p.mc) j e0 = 10 := by rw [stR_on]; exact if_neg hs
            have eM : stM n f g' M' j e0 = { M' with hk := 3, hc := stE n f g' M' j e0 } := if_neg hs
            rw [eV, eR]
            unfold evv
            have hend : Hid (∀ w2, Below w1.heap.size w1 w2 → Twin w0 w2 p n f wait (stM n f g' M' j e0) (stG n f g' M' j e0) nn) := fun w2 hb =>
              ⟨hx1.below hb, hI1.below hb, hgw, xo1.off (Off.of_below (S := []) hb) (by simp), by rw [eM]; exact xs1.off (Off.of_below (S := []) hb) (by simp), xn1.off (Off.of_below (S := []) hb) (by simp), hOm.trans (Off.of_below hb), by rw [eM]; exact hT.nb, by rw [eM]; exact hT.wt, by rw [eM]; exact ⟨hT.may.s, hT.may.cy, hT.may.wt⟩,
                .inr ⟨by rw [eM], M', g', j, e0, h0, hT.may, hT.xg, hat2, hs, rfl, xd1.below hb, xi1.below hb⟩⟩
            have hcy2 : (stM n f g' M' j e0).cy = M'.cy := by rw [eM]
            have hhk2 : (stM n f g' M' j e0).hk = 3 := by rw [eM]
            clear HS hx1 hI1 xo1 xs1 xn1 xd1 xi1 hat hat2 eV eR eM hid hxd
            go_wp2_with fail
            go_roundw
            case rel => exact ⟨_, _, nn, hend.out _ (hb1 _)⟩
            case measure =>
              have hE := hend.out _ (hb1 (.cells #[.int .u32 0, .int .u32 0, .int .i64 0, .int .i64 0, .int .i64 0] 41))
              have q1 := cyAt_of hE.xc
              have q2 := hkAt_of hE.xc
              rw [show ((stM n f g' M' j e0).on p.mc).cy = M'.cy from hcy2] at q1
              rw [show ((stM n f g' M' j e0).on p.mc).hk = 3 from hhk2] at q2
              rw [show (M'.on p.mc).cy = M'.cy from rfl] at hcy
              rw [show (M'.on p.mc).hk = 0 from h0] at hhk
              rw [q1, q2, hcy, hhk]
              simp
      · rcases hk with hk | hk | hk
        · exact absurd hk h0
        · rw [hk] at c25
          go_wp2_with fail
          go_ret
          exact ⟨M', g', nn, 0, rfl, hT, .inr (.inl ⟨rfl, .inl hk⟩)⟩
        · rw [hk] at c25
          go_wp2_with fail
          go_ret
          exact ⟨M', g', nn, 0, rfl, hT, .inr (.inl ⟨rfl, .inr hk⟩)⟩
    · rw [hk] at c25
      go_wp2_with fail
      go_ret
      exact ⟨M', g', nn, 10, rfl, hT, .inr (.inr ⟨rfl, hk⟩)⟩
end Go.Proofs.YtfdnjoieolijcaaGreatDoor.Core

/-! Two states, and two halts, held against each other; a run of a machine that has halted. -/
set_option linter.unusedVariables false
set_option linter.unusedSimpArgs false
namespace Go.Proofs.YtfdnjoieolijcaaGreatDoor.Core
open Go.RowKit Go.Proofs.YtfdnjoieolijcaaGreatDoor.Mem Go.Proofs.YtfdnjoieolijcaaGreatDoor.Alu

theorem eq_stepK {P : Program} {w : World} {d : Nat} {xs ys : Array Value} {f : Field} {fs : List Field} {k : IntKind} {a b : Int} {r : Bool} (hn : f.name ≠ "_") (hu : P.underlying f.type = some (.int k))
    (hx : ∀ w, (part f.type xs f.offset).run P w = .ok (.int k a) w) (hy : ∀ w, (part f.type ys f.offset).run P w = .ok (.int k b) w) (hr : (Op.eqFields (d + 1) xs ys fs).run P w = .ok r w) :
    (Op.eqFields (d + 1) xs ys (f :: fs)).run P w = .ok (a == b && r) w := by
  unfold Op.eqFields
  rw [if_pos hn]
  simp only [Sem.run_bind, hx, hy, Result.andThen_ok, run_equalIn_int w d f.type k k a b hu]
  cases a == b
  · simp
  · simpa using hr
theorem eq_stepA {P : Program} {w : World} {d : Nat} {xs ys : Array Value} {f : Field} {fs : List Field} {xa ya : Array Value} {q r : Bool} (hn : f.name ≠ "_")
    (hx : ∀ w, (part f.type xs f.offset).run P w = .ok (.agg xa) w) (hy : ∀ w, (part f.type ys f.offset).run P w = .ok (.agg ya) w) (hq : (Op.equalIn (d + 1) f.type (.agg xa) (.agg ya)).run P w = .ok q w) (hr : (Op.eqFields (d + 1) xs ys fs).run P w = .ok r w) :
    (Op.eqFields (d + 1) xs ys (f :: fs)).run P w = .ok (q && r) w := by
  unfold Op.eqFields
  rw [if_pos hn]
  simp only [Sem.run_bind, hx, hy, Result.andThen_ok, hq]
  cases q
  · simp
  · simpa using hr
theorem items_same {P : Program} {w : World} {d n : Nat} {e : TypeId} {k : IntKind} {xs : Array Value} (hu : P.underlying e = some (.int k)) :
    ∀ is : List Nat, (∀ i ∈ is, ∃ a, ∀ w, (part e xs (i * n)).run P w = .ok (.int k a) w) → (Op.eqItems (d + 1) e n xs xs is).run P w = .ok true w
  | [], _ => by simp [Op.eqItems]
  | i :: is, h => by
    obtain ⟨a, ha⟩ := h i (by simp)
    have ih := items_same (w := w) (d := d) (n := n) (xs := xs) hu is (fun j hj => h j (by simp [hj]))
    simp only [Op.eqItems, Sem.run_bind, ha, Result.andThen_ok, run_equalIn_int w d e k k a a hu]
    simpa using ih
def r16 (s : St) : Array Value := #[.int .u32 (s.R 0), .int .u32 (s.R 1), .int .u32 (s.R 2), .int .u32 (s.R 3), .int .u32 (s.R 4), .int .u32 (s.R 5), .int .u32 (s.R 6), .int .u32 (s.R 7), .int .u32 (s.R 8), .int .u32 (s.R 9), .int .u32 (s.R 10), .int .u32 (s.R 11), .int .u32 (s.R 12), .int .u32 (s.R 13), .int .u32 (s.R 14), .int .u32 (s.R 15)]
set_option maxRecDepth 100000 in
theorem part_16 (s : St) (i : Nat) (hi : i < 16) : ∃ a, ∀ w, (part 24 (r16 s) (i * 1)).run Tryz.prog w = .ok (.int .u32 a) w := by
  rcases (show i = 0 ∨ i = 1 ∨ i = 2 ∨ i = 3 ∨ i = 4 ∨ i = 5 ∨ i = 6 ∨ i = 7 ∨ i = 8 ∨ i = 9 ∨ i = 10 ∨ i = 11 ∨ i = 12 ∨ i = 13 ∨ i = 14 ∨ i = 15 by omega) with rfl | rfl | rfl | rfl | rfl | rfl | rfl | rfl | rfl | rfl | rfl | rfl | rfl | rfl | rfl | rfl
  · exact ⟨s.R 0, fun _ => by kernel_rfl⟩
  · exact ⟨s.R 1, fun _ => by kernel_rfl⟩
  · exact ⟨s.R 2, fun _ => by kernel_rfl⟩
  · exact ⟨s.R 3, fun _ => by kernel_rfl⟩
  · exact ⟨s.R 4, fun _ => by kernel_rfl⟩
  · exact ⟨s.R 5, fun _ => by kernel_rfl⟩
  · exact ⟨s.R 6, fun _ => by kernel_rfl⟩
  · exact ⟨s.R 7, fun _ => by kernel_rfl⟩
  · exact ⟨s.R 8, fun _ => by kernel_rfl⟩
  · exact ⟨s.R 9, fun _ => by kernel_rfl⟩
  · exact ⟨s.R 10, fun _ => by kernel_rfl⟩
  · exact ⟨s.R 11, fun _ => by kernel_rfl⟩
  · exact ⟨s.R 12, fun _ => by kernel_rfl⟩
  · exact ⟨s.R 13, fun _ => by kernel_rfl⟩
  · exact ⟨s.R 14, fun _ => by kernel_rfl⟩
  · exact ⟨s.R 15, fun _ => by kernel_rfl⟩
theorem size_u32 : Tryz.prog.cellsOf 24 = 1 := by kernel_rfl
theorem arr_same (s : St) (w : World) : (Op.equalIn 9999 25 (.agg (r16 s)) (.agg (r16 s))).run Tryz.prog w = .ok true w := by
  obtain ⟨i, hi⟩ : ∃ i, Tryz.prog.info? 24 = some i := Option.isSome_iff_exists.1 (by kernel_rfl)
  rw [run_equalIn_array w 9998 _ _ Tryz.underlying25 hi, size_u32]
  exact items_same Tryz.underlying24 _ (fun j hj => part_16 s j (List.mem_range.1 hj))
set_option maxRecDepth 100000 in
theorem eql_st (w : World) (s : St) : (binOp .eql 27 (.agg (stv s)) (.agg (stv s))).run Tryz.prog w = .ok (.bool true) w := by
  have h : (binOp .eql 27 (.agg (stv s)) (.agg (stv s))).run Tryz.prog w = .ok (.bool (true && (s.n == s.n && (s.z == s.z && (s.c == s.c && (s.v == s.v && true)))))) w := by
    rw [run_eql_struct, run_equalIn_agg w 9999 27 _ _ (by kernel_rfl) (by kernel_rfl)]
    unfold Program.fieldsOf
    rw [Tryz.underlying27]
    exact congrArg (fun r => Result.andThen r (fun b w' => Result.ok (Value.bool b) w')) (eq_stepA (xa := r16 s) (ya := r16 s) (by decide) (fun _ => by kernel_rfl) (fun _ => by kernel_rfl) (arr_same s w)
      (eq_stepK (a := s.n) (b := s.n) (by decide) Tryz.underlying24 (fun _ => by kernel_rfl) (fun _ => by kernel_rfl) (eq_stepK (a := s.z) (b := s.z) (by decide) Tryz.underlying24 (fun _ => by kernel_rfl) (fun _ => by kernel_rfl)
      (eq_stepK (a := s.c) (b := s.c) (by decide) Tryz.underlying24 (fun _ => by kernel_rfl) (fun _ => by kernel_rfl) (eq_stepK (a := s.v) (b := s.v) (by decide) Tryz.underlying24 (fun _ => by kernel_rfl) (fun _ => by kernel_rfl) Inst.eq_nil)))))
  rw [h]; simp
set_option maxRecDepth 100000 in
theorem eql_halt (w : World) (a b : Int) : (binOp .eql 66 (.agg #[.int .i64 a, .int .i64 b]) (.agg #[.int .i64 a, .int .i64 b])).run Tryz.prog w = .ok (.bool true) w := by
  have h : (binOp .eql 66 (.agg #[.int .i64 a, .int .i64 b]) (.agg #[.int .i64 a, .int .i64 b])).run Tryz.prog w = .ok (.bool (a == a && (b == b && true))) w := by
    rw [run_eql_struct, run_equalIn_agg w 9999 66 _ _ (by kernel_rfl) (by kernel_rfl)]
    unfold Program.fieldsOf
    rw [Tryz.underlying66]
    exact congrArg (fun r => Result.andThen r (fun b w' => Result.ok (Value.bool b) w')) (eq_stepK (a := a) (b := a) (by decide) Tryz.underlying3 (fun _ => by kernel_rfl) (fun _ => by kernel_rfl) (eq_stepK (a := b) (b := b) (by decide) Tryz.underlying3 (fun _ => by kernel_rfl) (fun _ => by kernel_rfl) Inst.eq_nil))
  rw [h]; simp

set_option maxRecDepth 100000 in
theorem RunH_any {w : World} {C : Nat} {M : Mc} {fuel : Int} (h : Mx w C M) (hk : M.hk = 1 ∨ M.hk = 2) :
    Calls Tryz.prog 21 #[.pointer (some ⟨C, 0, none⟩), .int .i64 fuel, .func (.func 26) #[] #[]] w fun e w' => e = .returned (.int .i64 0) ∧ w' = w := by
  go_enter Tryz.func21, Tryz.ntmps21
  go_wp2_with fail
  go_loopw [] (fun wr => wr = w) (fun wr => 0)
  case atStart => rfl
  case round =>
    subst hrel
    have c25 : wr.cell? ⟨C, 25, none⟩ = some (.int .i64 M.hk) := h.cell rfl
    rcases hk with hk | hk
    · rw [hk] at c25
      go_wp2_with fail
      go_ret
      exact ⟨rfl, rfl⟩
    · rw [hk] at c25
      go_wp2_with fail
      go_ret
      exact ⟨rfl, rfl⟩
end Go.Proofs.YtfdnjoieolijcaaGreatDoor.Core

namespace Go.Proofs.YtfdnjoieolijcaaGreatDoor.coreRuns
open Go.ChangeShapes Go.WideShapes Go.ChangeAt Go.RowKit
set_option linter.unusedVariables false

theorem own : ownKnob Tryz.prog.godebug = none := by kernel_rfl
theorem laidOut : laidOutB Tryz.prog = true := by kernel_rfl
open Go.Proofs.YtfdnjoieolijcaaGreatDoor.Core Go.Proofs.YtfdnjoieolijcaaGreatDoor.Mem Go.Proofs.YtfdnjoieolijcaaGreatDoor.Alu
def insOf (z : Nat → Int) : Ins := ⟨z 0, z 1, z 2, z 3, z 4, z 5, z 6, z 7, z 8, z 9, z 10⟩
theorem its_of {w : World} {p : Option Addr} {n cap : Nat} {F : Nat → Nat → Int} (h : Args.Recs w [.i64, .i64, .i64, .i64, .i64, .i64, .i64, .i64, .i64, .i64, .i64] p n cap F) : Its w p n (fun i => insOf (F i)) := by
  have hk : ∀ j, j < 11 → ([.i64, .i64, .i64, .i64, .i64, .i64, .i64, .i64, .i64, .i64, .i64] : List IntKind)[j]? = some .i64 := fun j hj => by
    rcases (show j = 0 ∨ j = 1 ∨ j = 2 ∨ j = 3 ∨ j = 4 ∨ j = 5 ∨ j = 6 ∨ j = 7 ∨ j = 8 ∨ j = 9 ∨ j = 10 by omega) with rfl | rfl | rfl | rfl | rfl | rfl | rfl | rfl | rfl | rfl | rfl <;> rfl
  rcases h.cells with h0 | ⟨b, off, rfl, hlt, hc⟩
  · exact ⟨.inl h0, fun i hi => by omega⟩
  · refine ⟨.inr ⟨b, off, rfl, hlt, fun i hi j v hv => ?_⟩, fun i hi => ?_⟩
    · have hj : j < 11 := by have := (List.getElem?_eq_some_iff.1 hv).1; simpa [inv] using this
      have c := (hc i hi j .i64 (hk j hj)).1
      rw [show ([.i64, .i64, .i64, .i64, .i64, .i64, .i64, .i64, .i64, .i64, .i64] : List IntKind).length = 11 from rfl, ← Nat.add_assoc] at c
      rw [c, ← hv]
      rcases (show j = 0 ∨ j = 1 ∨ j = 2 ∨ j = 3 ∨ j = 4 ∨ j = 5 ∨ j = 6 ∨ j = 7 ∨ j = 8 ∨ j = 9 ∨ j = 10 by omega) with rfl | rfl | rfl | rfl | rfl | rfl | rfl | rfl | rfl | rfl | rfl <;> rfl
    · have := bounds_i64 (hc i hi 10 .i64 (hk 10 (by decide))).2
      exact ⟨by show _ ≤ F i 10; omega, by show F i 10 ≤ _; omega⟩
theorem hN2 (w : World) (o : Obj) (c : Array Value) (t : TypeId) : ((w.alloc o).alloc (.cells c t)).heap[w.heap.size + 1]? = some (.cells c t (0, 0)) := by
  have := heap_alloc_new (w.alloc o) (.cells c t)
  simpa using this
theorem sR2 (w : World) (o : Obj) (c c' : Array Value) (t : TypeId) : ((w.alloc o).alloc (.cells c t)).setRow (w.heap.size + 1) c' = (w.alloc o).alloc (.cells c' t) := by
  have := World.setRow_alloc_new (w.alloc o) c c' t
  simpa using this
theorem mxApart {w : World} {C m F R n : Nat} {M : Mc} {f g : Nat → Int} (h : Mx w C M) (k : Is w m F R n f g) : m ≠ C ∧ F ≠ C ∧ R ≠ C :=
  ⟨fun e => by have x := k.box; rw [e, show w.heap[C]? = _ from h] at x; simp at x, fun e => by have x := k.fl; rw [e, show w.heap[C]? = _ from h] at x; simp at x, fun e => by have x := k.ram; rw [e, show w.heap[C]? = _ from h] at x; simp at x⟩
theorem HaltX {w : World} {C x : Nat} {M : Mc} {k : Int} (hk : M.hk = k) (h : Mx w C (M.on x)) : Calls Tryz.prog 24 #[.pointer (some ⟨C, 0, none⟩)] w fun e w' => e = .returned (.agg #[.int .i64 k, .int .i64 M.hc]) ∧ Below w.heap.size w w' := by
  rw [← hk]; exact HaltC_any (M := M.on x) h
theorem CyclesX {w : World} {C x : Nat} {M : Mc} (h : Mx w C (M.on x)) : Calls Tryz.prog 23 #[.pointer (some ⟨C, 0, none⟩)] w fun e w' => e = .returned (.int .i64 M.cy) ∧ w' = w := CyclesC_any (M := M.on x) h
theorem StateX {w : World} {C x : Nat} {M : Mc} (h : Mx w C (M.on x)) : Calls Tryz.prog 25 #[.pointer (some ⟨C, 0, none⟩)] w fun e w' => e = .returned (.agg (stv M.s)) ∧ Below w.heap.size w w' := StateC_any (M := M.on x) h
theorem keepc {w w' : World} {b : Nat} {v : Value} (h : w.cell? ⟨b, 0, none⟩ = some v) (hb : Below w.heap.size w w') : w'.cell? ⟨b, 0, none⟩ = some v := (hb.cell (p := ⟨b, 0, none⟩) (block_lt_of_cell (a := ⟨b, 0, none⟩) h)).trans h
theorem field_H (a b : Int) (w : World) : Sem.run Tryz.prog (Instr.field 66 (.agg #[.int .i64 a, .int .i64 b]) 0) w = .ok (.int .i64 a) w := by kernel_rfl
attribute [local go_sem] field_H
theorem below_dn {B : Nat} {a b : World} (h : Below B a b) (k : Nat) : Below B a (b.drewN k) := ⟨h.os, h.tape, h.output, h.size, h.block⟩

set_option maxRecDepth 100000 in
set_option maxHeartbeats 4000000 in
theorem walk (q0 : Option Addr) (n0 c0 : Nat) (z0 : Nat → Nat → Int) (a1 : Int) (s2 : Core.St) (a3 : Int) (w : World) (w0 : Args.Recs w [.i64, .i64, .i64, .i64, .i64, .i64, .i64, .i64, .i64, .i64, .i64] q0 n0 c0 z0) (w1 : (Lit.int .i64 a1).wf = true) (w2 : Core.Word1 s2) (w3 : (Lit.int .i64 a3).wf = true) (hL : Code.Laid w) :
    Calls Tryz.prog 6 #[.slice q0 n0 c0, .int .i64 a1, .agg (Core.stv s2), .int .i64 a3] w fun e w' => e = .returned (.bool true) ∧ Below w.heap.size w w' := by
  have hWd : Core.Word1 s2 := w2
  have hI0 := its_of w0
  generalize hIf : (fun i => insOf (z0 i)) = I at hI0
  clear w0 hIf
  have hb0 := ((Below.refl w.heap.size w).alloc (Nat.le_refl _) (.cells #[.int .i64 a1] 3)).alloc (by simp) (.cells (stv s2) 27)
  have hw5 : Bx ((w.alloc (.cells #[.int .i64 a1] 3)).alloc (.cells (stv s2) 27)) w.heap.size 3 (.int .i64 a1) := ((Below.refl _ _).alloc (Nat.le_refl _) _).block _ (by simp) |>.trans (heap_alloc_new _ _)
  have hw6 : Sx ((w.alloc (.cells #[.int .i64 a1] 3)).alloc (.cells (stv s2) 27)) (w.heap.size + 1) s2 := by
    have := Sx.new (w.alloc (.cells #[.int .i64 a1] 3)) s2
    simpa using this
  have hsz : ((w.alloc (.cells #[.int .i64 a1] 3)).alloc (.cells (stv s2) 27)).heap.size = w.heap.size + 2 := by simp
  replace hb0 := hide hb0
  replace hw5 := hide hw5
  replace hw6 := hide hw6
  by_cases h40 : (40 : Int) < n0
  · go_enter Tryz.func6, Tryz.ntmps6
    go_wp2_with fail
    refine (anchor7_any _ (hL.below hb0.out)).mono ?_
    rintro e w1 ⟨rfl, hb1⟩
    go_wp2_with fail
    go_ret
    exact ⟨rfl, hb0.out.trans (hb1.mono hb0.out.size)⟩
  by_cases h3k : 3000 < a3
  · go_enter Tryz.func6, Tryz.ntmps6
    go_wp2_with fail
    refine (anchor7_any _ (hL.below hb0.out)).mono ?_
    rintro e w1 ⟨rfl, hb1⟩
    go_wp2_with fail
    go_ret
    exact ⟨rfl, hb0.out.trans (hb1.mono hb0.out.size)⟩
  have hn40 : n0 ≤ 40 := by omega
  have e40 : decide ((40 : Int) < n0) = false := decide_eq_false h40
  go_enter Tryz.func6, Tryz.ntmps6
  go_wp2_with fail
  refine (anchor7_any _ (hL.below hb0.out)).mono ?_
  rintro e w1 ⟨rfl, hb1⟩
  have B1 : Hid (Below w.heap.size w w1) := hb0.out.trans (hb1.mono hb0.out.size)
  have X5 : Hid (Bx w1 w.heap.size 3 (.int .i64 a1)) := (hb1.block _ (by omega)).trans hw5.out
  have X6 : Hid (Sx w1 (w.heap.size + 1) s2) := (hb1.block _ (by omega)).trans hw6.out
  have hs1 : w.heap.size + 2 ≤ w1.heap.size := by have := hb1.size; omega
  clear hb1 hb0 hw5 hw6 hsz
  have c5 : w1.cell? ⟨w.heap.size, 0, none⟩ = some (.int .i64 a1) := X5.out.cell
  have hI1 := hI0.below B1.out
  go_upto_region 5 with fail
  go_wp2_with fail
  refine (built_any q0 n0 c0 I a1 _ hI1 hn40 (hL.below B1.out)).mono ?_
  rintro e w2 ⟨hb2, hp⟩
  generalize hS : w.heap.size = S at *
  have hs2 := hb2.size
  rcases hp with ⟨hbad, rfl⟩ | ⟨hok, C, m, F, R, q, fc, rfl, hxC, hIC, hle, _⟩
  · go_upto_region 6 with (refine wpList_store_rowTo rfl 35 (.tmp 10) (.tmp 35) rfl rfl _ (refC (.slice none 0 0) 0 0) rfl rfl 35 (refC (.slice none 0 0) 0 0) (heap_alloc_last _ _) info_ref rfl (one_ref _ _ _ _ _) ?_; rw [World.setRow_alloc_new])
    (try simp only [Act.put, List.getElem_toArray, List.getElem_cons_zero, List.getElem_cons_succ, List.setIfInBounds_toArray, List.set_cons_zero, List.set_cons_succ])
    have hb3 := (Below.refl w2.heap.size w2).alloc (Nat.le_refl _) (.cells (refC (.slice none 0 0) 0 0) 35)
    have B3 : Hid (Below S w _) := B1.out.trans ((hb2.trans (hb3.mono hs2)).mono (by omega))
    have X3 : Hid (Bx _ S 3 (.int .i64 a1)) := ((hb2.trans (hb3.mono hs2)).block S (by omega)).trans X5.out
    have hI3 := hI1.below (hb2.trans (hb3.mono hs2))
    have hs3 := hb3.size
    generalize w2.alloc (.cells (refC (.slice none 0 0) 0 0) 35) = w3 at *
    have c5' : w3.cell? ⟨S, 0, none⟩ = some (.int .i64 a1) := X3.out.cell
    clear c5 hb2 hb3
    go_wp2_with fail
    refine (built_any q0 n0 c0 I a1 _ hI3 hn40 (hL.below (by rw [hS]; exact B3.out))).mono ?_
    rintro e w4 ⟨hb4, hp4⟩
    rcases hp4 with ⟨_, rfl⟩ | ⟨hok, _⟩
    · have hs4 := hb4.size
      have B4 : Hid (Below S w w4) := B3.out.trans (hb4.mono (by omega))
      have X4 : Hid (Bx w4 S 3 (.int .i64 a1)) := (hb4.block S (by omega)).trans X3.out
      have c6 : w4.cell? ⟨S, 0, none⟩ = some (.int .i64 a1) := X4.out.cell
      have hz4 : S < w4.heap.size := by omega
      clear hb4 c5' hI3 X3 B3 hI1 X5
      by_cases hneg : a1 < 0
      · go_wp2_with (refine wpList_store_rowTo rfl 35 (.tmp 12) (.tmp 41) rfl rfl _ (refC (.slice none 0 0) 0 0) rfl rfl 35 (refC (.slice none 0 0) 0 0) (hN2 _ _ _ _) info_ref rfl (one_ref _ _ _ _ _) ?_; rw [sR2])
        go_ret
        exact ⟨rfl, by rw [hS]; exact (B4.out.alloc (by omega) _).alloc (by simp; omega) _⟩
      · have h7 : 7 < a1 := by omega
        go_wp2_with (refine wpList_store_rowTo rfl 35 (.tmp 12) (.tmp 41) rfl rfl _ (refC (.slice none 0 0) 0 0) rfl rfl 35 (refC (.slice none 0 0) 0 0) (hN2 _ _ _ _) info_ref rfl (one_ref _ _ _ _ _) ?_; rw [sR2])
        go_ret
        exact ⟨rfl, by rw [hS]; exact (B4.out.alloc (by omega) _).alloc (by simp; omega) _⟩
    · exact absurd hok hbad
  · go_upto_region 6 with (refine wpList_store_rowTo rfl 35 (.tmp 10) (.tmp 35) rfl rfl _ (refC (.slice q (prgB I n0).length fc) a1 (-1)) rfl rfl 35 (refC (.slice none 0 0) 0 0) (heap_alloc_last _ _) info_ref rfl (one_ref _ _ _ _ _) ?_; rw [World.setRow_alloc_new])
    (try simp only [Act.put, List.getElem_toArray, List.getElem_cons_zero, List.getElem_cons_succ, List.setIfInBounds_toArray, List.set_cons_zero, List.set_cons_succ])
    have hb3 := (Below.refl w2.heap.size w2).alloc (Nat.le_refl _) (.cells (refC (.slice q (prgB I n0).length fc) a1 (-1)) 35)
    have B3 : Hid (Below S w _) := B1.out.trans ((hb2.trans (hb3.mono hs2)).mono (by omega))
    have X53 : Hid (Bx _ S 3 (.int .i64 a1)) := ((hb2.trans (hb3.mono hs2)).block S (by omega)).trans X5.out
    have X63 : Hid (Sx _ (S + 1) s2) := ((hb2.trans (hb3.mono hs2)).block (S + 1) (by omega)).trans X6.out
    have hI3 := hI1.below (hb2.trans (hb3.mono hs2))
    have C3 := hide (hxC.below hb3)
    have I3 := hide (hIC.below hb3)
    have lt1 := hxC.lt
    have lt2 := hIC.ltB
    have lt3 := hIC.ltF
    have lt4 := hIC.ltR
    have hs3 : w2.heap.size + 1 = (w2.alloc (.cells (refC (.slice q (prgB I n0).length fc) a1 (-1)) 35)).heap.size := by simp
    generalize w2.alloc (.cells (refC (.slice q (prgB I n0).length fc) a1 (-1)) 35) = w3 at *
    have c5' : w3.cell? ⟨S, 0, none⟩ = some (.int .i64 a1) := X53.out.cell
    clear c5 hb2 hb3 hxC hIC X5 X6 B1 hI1 hI0
    go_wp2_with fail
    refine (built_any q0 n0 c0 I a1 _ hI3 hn40 (hL.below (by rw [hS]; exact B3.out))).mono ?_
    rintro e w4 ⟨hb4, hp4⟩
    rcases hp4 with ⟨hbad, _⟩ | ⟨_, D, md, Fd, Rd, q2, fc2, rfl, hxD, hID, hleD, _⟩
    · exact absurd hok hbad
    have hs4 := hb4.size
    have B4 : Hid (Below S w w4) := B3.out.trans (hb4.mono (by omega))
    have X54 : Hid (Bx w4 S 3 (.int .i64 a1)) := (hb4.block S (by omega)).trans X53.out
    have X64 : Hid (Sx w4 (S + 1) s2) := (hb4.block (S + 1) (by omega)).trans X63.out
    have C4 := hide (C3.out.below hb4)
    have I4 := hide (I3.out.below hb4)
    have lt5 := hxD.lt
    have lt6 := hID.ltB
    have lt7 := hID.ltF
    have lt8 := hID.ltR
    replace hxD := hide hxD
    replace hID := hide hID
    clear hb4 C3 I3 X53 X63 B3 hI3 c5'
    have c6 : w4.cell? ⟨S, 0, none⟩ = some (.int .i64 a1) := X54.out.cell
    have hz4 : S < w4.heap.size := by omega
    have n0' : ¬ a1 < 0 := by omega
    have n7' : ¬ 7 < a1 := by omega
    go_upto_region 9 with (refine wpList_store_rowTo rfl 35 (.tmp 12) (.tmp 41) rfl rfl _ (refC (.slice q2 (prgB I n0).length fc2) a1 (-1)) rfl rfl 35 (refC (.slice none 0 0) 0 0) (hN2 _ _ _ _) info_ref rfl (one_ref _ _ _ _ _) ?_; rw [sR2])
    (try simp only [Act.put, List.getElem_toArray, List.getElem_cons_zero, List.getElem_cons_succ, List.setIfInBounds_toArray, List.set_cons_zero, List.set_cons_succ])
    have hb5 := ((Below.refl w4.heap.size w4).alloc (Nat.le_refl _) (.cells #[.pointer (some ⟨D, 0, none⟩)] 29)).alloc (by simp) (.cells (refC (.slice q2 (prgB I n0).length fc2) a1 (-1)) 35)
    have B5 : Hid (Below S w _) := B4.out.trans (hb5.mono (by omega))
    have X55 : Hid (Bx _ S 3 (.int .i64 a1)) := (hb5.block S (by omega)).trans X54.out
    have X65 : Hid (Sx _ (S + 1) s2) := (hb5.block (S + 1) (by omega)).trans X64.out
    have C5 := hide (C4.out.below hb5)
    have I5 := hide (I4.out.below hb5)
    have D5 := hide (hxD.out.below hb5)
    have J5 := hide (hID.out.below hb5)
    have P5 : Hid (Bx ((w4.alloc (.cells #[.pointer (some ⟨D, 0, none⟩)] 29)).alloc (.cells (refC (.slice q2 (prgB I n0).length fc2) a1 (-1)) 35)) w4.heap.size 29 (.pointer (some ⟨D, 0, none⟩))) := (((Below.refl _ _).alloc (Nat.le_refl _) _).block w4.heap.size (by simp)).trans (heap_alloc_new _ _)
    have hs5 : w4.heap.size + 2 = ((w4.alloc (.cells #[.pointer (some ⟨D, 0, none⟩)] 29)).alloc (.cells (refC (.slice q2 (prgB I n0).length fc2) a1 (-1)) 35)).heap.size := by simp
    generalize hbd : w4.heap.size = bd at *
    generalize (w4.alloc (.cells #[.pointer (some ⟨D, 0, none⟩)] 29)).alloc (.cells (refC (.slice q2 (prgB I n0).length fc2) a1 (-1)) 35) = w5 at *
    clear c6 hb5 C4 I4 hxD hID X54 X64 B4 hz4
    go_wp2_with (refine wpList_load_row rfl 27 (.tmp 6) rfl _ rfl 27 _ (0, 0) _ (unhide X65) Tryz.underlying27 rfl info_st ?_)
    have ap := mxApart C5.out I5.out
    have ai := I5.out.apart
    have bp := mxApart D5.out J5.out
    have bi := J5.out.apart
    have cP5 : w5.cell? ⟨bd, 0, none⟩ = some (.pointer (some ⟨D, 0, none⟩)) := P5.out.cell
    refine (SetC_any C5.out s2).mono ?_
    rintro e w6 ⟨rfl, hx6, ho6⟩
    have C6 := hide hx6
    have I6 := hide (isOff I5.out ho6 (by simp; omega) (by simp; omega) (by simp; omega))
    have D6 := hide (D5.out.off ho6 (by simp; omega))
    have J6 := hide (isOff J5.out ho6 (by simp; omega) (by simp; omega) (by simp; omega))
    have P6 := hide (P5.out.off ho6 (by simp; omega))
    have X56 := hide (X55.out.off ho6 (by simp; omega))
    have X66 : Hid (Sx w6 (S + 1) s2) := (ho6.block (S + 1) (lt_of_heap X65.out) (by simp; omega)).trans X65.out
    have hs6 := ho6.size
    have B6 : Hid (Below S w w6) := B5.out.trans (ho6.below (by omega) (by intro k hk; simp at hk; omega))
    have cP6 : w6.cell? ⟨bd, 0, none⟩ = some (.pointer (some ⟨D, 0, none⟩)) := P6.out.cell
    clear hx6 ho6 C5 I5 D5 J5 P5 X55 X65 B5 cP5
    go_wp2_with (refine wpList_load_row rfl 27 (.tmp 6) rfl _ rfl 27 _ (0, 0) _ (unhide X66) Tryz.underlying27 rfl info_st ?_)
    refine (SetC_any D6.out s2).mono ?_
    rintro e w7 ⟨rfl, hx7, ho7⟩
    have C7 := hide (C6.out.off ho7 (by simp; omega))
    have I7 := hide (isOff I6.out ho7 (by simp; omega) (by simp; omega) (by simp; omega))
    have D7 := hide hx7
    have J7 := hide (isOff J6.out ho7 (by simp; omega) (by simp; omega) (by simp; omega))
    have P7 := hide (P6.out.off ho7 (by simp; omega))
    have X57 := hide (X56.out.off ho7 (by simp; omega))
    have hs7 := ho7.size
    have B7 : Hid (Below S w w7) := B6.out.trans (ho7.below (by omega) (by intro k hk; simp at hk; omega))
    clear hx7 ho7 C6 I6 D6 J6 P6 X56 X66 B6 cP6
    go_upto_region 12 with fail
    (try simp only [Act.put, List.getElem_toArray, List.getElem_cons_zero, List.getElem_cons_succ, List.setIfInBounds_toArray, List.set_cons_zero, List.set_cons_succ])
    have hb8 := (((Below.refl w7.heap.size w7).alloc (Nat.le_refl _) (.cells #[.int .i64 0] 3)).alloc (by simp) (.cells #[.int .i64 0] 3)).alloc (by simp; omega) (.cells #[.bool true] 4)
    have C8 := hide (C7.out.below hb8)
    have I8 := hide (I7.out.below hb8)
    have D8 := hide (D7.out.below hb8)
    have J8 := hide (J7.out.below hb8)
    have P8 := hide (P7.out.off (Off.of_below (S := []) hb8) (by simp))
    have X58 := hide (X57.out.off (Off.of_below (S := []) hb8) (by simp))
    have B8 : Hid (Below S w _) := B7.out.trans (hb8.mono (by omega))
    have Xn8 : Hid (Bx (((w7.alloc (.cells #[.int .i64 0] 3)).alloc (.cells #[.int .i64 0] 3)).alloc (.cells #[.bool true] 4)) w7.heap.size 3 (.int .i64 0)) := ((((Below.refl _ (w7.alloc (.cells #[.int .i64 0] 3))).alloc (Nat.le_refl _) (.cells #[.int .i64 0] 3)).alloc (by simp) (.cells #[.bool true] 4)).block w7.heap.size (by simp)).trans (heap_alloc_new _ _)
    have Xs8 : Hid (Bx (((w7.alloc (.cells #[.int .i64 0] 3)).alloc (.cells #[.int .i64 0] 3)).alloc (.cells #[.bool true] 4)) (w7.heap.size + 1) 3 (.int .i64 0)) := (((Below.refl _ ((w7.alloc (.cells #[.int .i64 0] 3)).alloc (.cells #[.int .i64 0] 3))).alloc (Nat.le_refl _) (.cells #[.bool true] 4)).block (w7.heap.size + 1) (by simp)).trans (by have := heap_alloc_new (w7.alloc (.cells #[.int .i64 0] 3)) (.cells #[.int .i64 0] 3); simpa using this)
    have Xo8 : Hid (Bx (((w7.alloc (.cells #[.int .i64 0] 3)).alloc (.cells #[.int .i64 0] 3)).alloc (.cells #[.bool true] 4)) (w7.heap.size + 2) 4 (.bool true)) := by
      have := heap_alloc_new ((w7.alloc (.cells #[.int .i64 0] 3)).alloc (.cells #[.int .i64 0] 3)) (.cells #[.bool true] 4)
      show _ = _
      simpa using this
    have hs8 : w7.heap.size + 3 = (((w7.alloc (.cells #[.int .i64 0] 3)).alloc (.cells #[.int .i64 0] 3)).alloc (.cells #[.bool true] 4)).heap.size := by simp
    generalize hN : w7.heap.size = N at *
    generalize ((w7.alloc (.cells #[.int .i64 0] 3)).alloc (.cells #[.int .i64 0] 3)).alloc (.cells #[.bool true] 4) = w8 at *
    clear hb8 C7 I7 D7 J7 P7 X57 B7
    have hL8 : Code.Laid w8 := hL.below (by rw [hS]; exact B8.out)
    have hno : ∀ k, S ≤ k → NoT k := fun k hk => not_of hL (by rw [hS]; exact hk)
    have hpl := prgB_len I n0
    have hX : Hid (Core.Fix w8 ⟨C, m, F, R, D, md, Fd, Rd, bd, N + 2, N + 1, S, N⟩ (prgB I n0).length (flaF I n0) a1) :=
      { xd := P8.out, xw := X58.out, nd := by simp [Spot.all]; omega, nw := by simp [Spot.all]; omega, sn := by simp, wn := by simp; omega, ws := by simp; omega, cd := by simp; omega, dc := by simp; omega, rc := by simp; omega,
        mc := by simp [Spot.all]; omega, md := by simp [Spot.all]; omega, d := by simp; omega, rd := by simp; omega, bo := by simp; omega, bs := by simp; omega, bn := by simp; omega,
        hf := fun i _ => flaF_bd I n0 i, hn := by omega, hL := hL8, no := fun k hk => hno k (by simp [Spot.all] at hk; omega) }
    have hMay : Hid (May { newM 0 a1 with s := bitsS s2 }) := ⟨good_bits hWd.r, by show (0 : Int) ≤ 0 ∧ (0 : Int) ≤ 1000000000; omega, hok⟩
    have h0 : Hid (Core.Twin w8 w8 ⟨C, m, F, R, D, md, Fd, Rd, bd, N + 2, N + 1, S, N⟩ (prgB I n0).length (flaF I n0) a1 { newM 0 a1 with s := bitsS s2 } (fun _ => 0) 0) :=
      { xc := C8.out, xi := I8.out, xg := no_words, xo := Xo8.out, xs := Xs8.out, xn := Xn8.out, off := Off.refl _ _, nb := by show (0 : Int) ≤ 0 ∧ (0 : Int) ≤ 0; omega, wt := rfl, may := hMay.out, two := .inl ⟨.inl rfl, D8.out, J8.out⟩ }
    clear C8 I8 D8 J8 P8 X58 Xn8 Xs8 Xo8 hMay hL8
    go_wp2_with fail
    refine (RunB_any h3k hX.out h0.out).mono ?_
    rintro e w9 ⟨M', g', nn, r, rfl, hT, hE⟩
    have hs9 := hT.off.size
    have B9 : Hid (Below S w w9) := B8.out.trans (hT.off.below (by omega) (by intro k hk; simp [Spot.all] at hk; omega))
    have cO : w9.cell? ⟨N + 2, 0, none⟩ = some (.bool true) := hT.xo.cell
    have cS9 : w9.cell? ⟨N + 1, 0, none⟩ = some (.int .i64 M'.cy) := hT.xs.cell
    have PD := hide (Bx.off hX.out.xd hT.off hX.out.nd)
    have HC := hide hT.xc
    have H2 := hide hT.two
    have hX9 := hide (hT.off.code hX.out.hL hX.out.no)
    have hnR := (hX.out.no Rd (by simp [Spot.all])).1
    have lD : bd < w9.heap.size := by omega
    clear hT h0
    rcases hE with ⟨rfl, hk0, hfu⟩ | ⟨rfl, hk12⟩ | ⟨rfl, hk3⟩
    · rcases H2.out with ⟨_, hxd, _⟩ | ⟨hk3, _⟩
      · have HD := hide hxd
        clear hxd H2 hX
        go_wp2_with fail
        go_quiet ((go_at_call 23; exact Calls.quiet_of_same (CyclesX (show Mx _ C (M'.on m) from HC.out))))
        replace HC : Hid (Mx (w9.drewN nq) C (M'.on m)) := HC.out
        replace HD : Hid (Mx (w9.drewN nq) D (M'.on md)) := HD.out
        replace PD : Hid (Bx (w9.drewN nq) bd 29 (.pointer (some ⟨D, 0, none⟩))) := PD.out
        have BA : Hid (Below S w (w9.drewN nq)) := below_dn B9.out nq
        have sA : S ≤ (w9.drewN nq).heap.size := by show S ≤ w9.heap.size; omega
        clear cO cS9 B9 hX9
        generalize w9.drewN nq = wA at *
        go_wp2_with fail
        refine (HaltX hk0 HC.out).mono ?_
        rintro e w10 ⟨rfl, hb10⟩
        have HC10 := hide (HC.out.below hb10)
        go_wp2_with fail
        refine (CyclesX HC10.out).mono ?_
        rintro e w11 ⟨rfl, rfl⟩
        have cD : w11.cell? ⟨bd, 0, none⟩ = some (.pointer (some ⟨D, 0, none⟩)) := (PD.out.off (Off.of_below (S := []) hb10) (by simp)).cell
        have HD10 := hide (HD.out.below hb10)
        go_wp2_with fail
        refine (StateX HD10.out).mono ?_
        rintro e w12 ⟨rfl, hb12⟩
        have HC12 := hide (HC10.out.below hb12)
        go_wp2_with fail
        refine (StateX HC12.out).mono ?_
        rintro e w13 ⟨rfl, hb13⟩
        have hq := fun w => eql_st w M'.s
        go_wp2_with fail
        go_ret
        exact ⟨rfl, by rw [hS]; exact BA.out.trans (((hb10.trans (hb12.mono hb10.size)).trans (hb13.mono (Nat.le_trans hb10.size hb12.size))).mono sA)⟩
      · omega
    · clear H2 hX
      have hne : (M'.on m).hk ≠ 0 := by show M'.hk ≠ 0; omega
      go_wp2_with fail
      go_quiet ((go_at_call 23; exact Calls.quiet_of_same (CyclesX (show Mx _ C (M'.on m) from HC.out))))
      replace HC : Hid (Mx (w9.drewN nq) C (M'.on m)) := HC.out
      have BA : Hid (Below S w (w9.drewN nq)) := below_dn B9.out nq
      have sA : S ≤ (w9.drewN nq).heap.size := by show S ≤ w9.heap.size; omega
      clear cO cS9 B9 hX9 PD
      generalize w9.drewN nq = wA at *
      go_wp2_with fail
      refine (Step_halted HC.out hne).mono ?_
      rintro e w10 ⟨rfl, hb10⟩
      unfold evv
      have hbE := hb10.alloc hb10.size (.cells #[.int .u32 0, .int .u32 0, .int .i64 0, .int .i64 0, .int .i64 0] 41)
      have HC10 := hide (HC.out.below hbE)
      have sE := hbE.size
      rcases hk12 with hk1 | hk2
      · go_wp2_with fail
        refine (HaltX hk1 HC10.out).mono ?_
        rintro e w11 ⟨rfl, hb11⟩
        have HC11 := hide (HC10.out.below hb11)
        go_wp2_with fail
        refine (RunH_any HC11.out (.inl hk1)).mono ?_
        rintro e w12 ⟨rfl, rfl⟩
        go_wp2_with fail
        go_ret
        exact ⟨rfl, by rw [hS]; exact BA.out.trans ((hbE.trans (hb11.mono sE)).mono sA)⟩
      · go_wp2_with fail
        refine (HaltX hk2 HC10.out).mono ?_
        rintro e w11 ⟨rfl, hb11⟩
        have HC11 := hide (HC10.out.below hb11)
        go_wp2_with fail
        refine (HaltX hk2 HC11.out).mono ?_
        rintro e w12 ⟨rfl, hb12⟩
        have HC12 := hide (HC11.out.below hb12)
        go_wp2_with fail
        refine (RunH_any HC12.out (.inr hk2)).mono ?_
        rintro e w13 ⟨rfl, rfl⟩
        go_wp2_with fail
        go_ret
        exact ⟨rfl, by rw [hS]; exact BA.out.trans (((hbE.trans (hb11.mono sE)).trans (hb12.mono (Nat.le_trans sE hb11.size))).mono sA)⟩
    · rcases H2.out with ⟨hk, _⟩ | ⟨_, M0, g0, j, e0, hk00, hM0, hg0, hat, hstE, hMeq, hxd, hid⟩
      · omega
      have HD := hide hxd
      have HI := hide hid
      have HAT := hide hat
      have HE := hide hstE
      have HM := hide hMeq
      have HFX := hide (And.intro hX.out.hf hX.out.hn)
      clear hxd hid hat hstE hMeq H2 hX
      go_wp2_with fail
      go_quiet ((go_at_call 23; exact Calls.quiet_of_same (CyclesX (show Mx _ C (M'.on m) from HC.out))))
      replace HC : Hid (Mx (w9.drewN nq) C (M'.on m)) := HC.out
      replace HD : Hid (Mx (w9.drewN nq) D (M0.on md)) := HD.out
      replace HI : Hid (Is (w9.drewN nq) md Fd Rd (prgB I n0).length (flaF I n0) g0) := ⟨HI.out.box, HI.out.fl, HI.out.ram⟩
      replace PD : Hid (Bx (w9.drewN nq) bd 29 (.pointer (some ⟨D, 0, none⟩))) := PD.out
      have BA : Hid (Below S w (w9.drewN nq)) := below_dn B9.out nq
      have sA : N ≤ (w9.drewN nq).heap.size := by show N ≤ w9.heap.size; omega
      have HLA : Hid (Code.Laid (w9.drewN nq)) := hL.below (by rw [hS]; exact BA.out)
      clear cO cS9 B9 hX9
      generalize w9.drewN nq = wA at *
      have cD : wA.cell? ⟨bd, 0, none⟩ = some (.pointer (some ⟨D, 0, none⟩)) := PD.out.cell
      go_wp2_with fail
      refine (Step_run (M := M0.on md) HD.out (show Is wA (M0.on md).m Fd Rd _ _ _ from HI.out) HFX.out.1 HFX.out.2 (an_on hM0 md) hg0 HLA.out hnR hk00).mono ?_
      rintro e w10 ⟨j', e0', hat', rfl, hx1, hI1, hO1⟩
      obtain ⟨rfl, rfl⟩ := at_one hat' HAT.out
      rw [stV_on, stR_on]
      have eV : stV (prgB I n0).length (flaF I n0) g0 M0 j' e0' = evv 0 0 0 0 0 := if_neg HE.out
      have eR : stR (prgB I n0).length (flaF I n0) g0 M0 j' e0' = 10 := if_neg HE.out
      rw [eV, eR]
      rw [stM_on, ← HM.out] at hx1
      unfold evv
      have hCD : C ∉ [D, Rd] := by simp; omega
      have HC10 := hide (HC.out.off hO1 hCD)
      have HD10 := hide hx1
      have PD10 := hide (PD.out.off hO1 (by simp; omega))
      have BB : Hid (Below S w w10) := BA.out.trans (hO1.below (by omega) (by intro k hk; simp at hk; omega))
      have s10 := hO1.size
      clear eV eR hx1 hI1 hO1 HC HD HI PD hat' HAT HE HM HFX HLA hM0 hg0 cD BA
      go_wp2_with fail
      have hb11 := (Below.refl w10.heap.size w10).alloc (Nat.le_refl _) (.cells #[.int .u32 0, .int .u32 0, .int .i64 0, .int .i64 0, .int .i64 0] 41)
      have HC11 := hide (HC10.out.below hb11)
      have HD11 := hide (HD10.out.below hb11)
      have PD11 := hide (PD10.out.off (Off.of_below (S := []) hb11) (by simp))
      have sF : S ≤ (w10.alloc (.cells #[.int .u32 0, .int .u32 0, .int .i64 0, .int .i64 0, .int .i64 0] 41)).drew.heap.size := by show S ≤ (w10.alloc (.cells #[.int .u32 0, .int .u32 0, .int .i64 0, .int .i64 0, .int .i64 0] 41)).heap.size; have := hb11.size; omega
      clear HC10 HD10 PD10
      refine wp_region_held_drew (S := fun w' => w'.cell? ⟨bd, 0, none⟩ = some (.pointer (some ⟨D, 0, none⟩)) ∧ Mx w' C (M'.on m) ∧ Mx w' D (M'.on md)) (by kernel_rfl) ⟨PD11.out.cell, HC11.out, HD11.out⟩ (fun hHeld => ?_)
      refine wpAnyH_take (i := 0) (v := ?_) rfl (by kernel_rfl) (by kernel_rfl) (by kernel_rfl) (fun _ _ _ h => h) (Or.inl ⟨by rfl, ?_⟩) (by assumption) ?_
      rotate_left
      · intro w hSw; (try dsimp only at hSw); go_simp; (try with_reducible rfl)
      (try simp only [Act.put, List.getElem_toArray, List.getElem_cons_zero, List.setIfInBounds_toArray, List.set_cons_zero, List.set_cons_succ])
      refine wpAnyH_take (i := 1) (v := ?_) rfl (by kernel_rfl) (by kernel_rfl) (by kernel_rfl) (fun _ _ _ h => h) (Or.inl ⟨by rfl, ?_⟩) (by assumption) ?_
      rotate_left
      · intro w hSw; (try dsimp only at hSw); go_simp; (try with_reducible rfl)
      (try simp only [Act.put, List.getElem_toArray, List.getElem_cons_zero, List.getElem_cons_succ, List.setIfInBounds_toArray, List.set_cons_zero, List.set_cons_succ])
      refine wpAnyH_take (i := 2) (v := ?_) rfl (by kernel_rfl) (by kernel_rfl) (by kernel_rfl) (fun _ _ _ h => h) (Or.inl ⟨by rfl, ?_⟩) (by assumption) ?_
      rotate_left
      · intro w hSw; (try dsimp only at hSw); go_simp; (try with_reducible rfl)
      (try simp only [Act.put, List.getElem_toArray, List.getElem_cons_zero, List.getElem_cons_succ, List.setIfInBounds_toArray, List.set_cons_zero, List.set_cons_succ])
      refine wpAnyH_take (i := 3) (v := ?_) rfl (by kernel_rfl) (by kernel_rfl) (by kernel_rfl) (fun _ _ _ h => h) (Or.inl ⟨by rfl, ?_⟩) (by assumption) ?_
      rotate_left
      · intro w hSw; (try dsimp only at hSw); go_simp; (try with_reducible rfl)
      (try simp only [Act.put, List.getElem_toArray, List.getElem_cons_zero, List.getElem_cons_succ, List.setIfInBounds_toArray, List.set_cons_zero, List.set_cons_succ])
      refine wpAnyH_take (i := 4) (v := ?_) rfl (by kernel_rfl) (by kernel_rfl) (by kernel_rfl) (fun _ _ _ h => h) (Or.inl ⟨by rfl, ?_⟩) (by assumption) ?_
      rotate_left
      · intro w hSw; (try dsimp only at hSw); go_simp; (try with_reducible rfl)
      (try simp only [Act.put, List.getElem_toArray, List.getElem_cons_zero, List.getElem_cons_succ, List.setIfInBounds_toArray, List.set_cons_zero, List.set_cons_succ])
      refine wpAnyH_take (i := 5) (v := ?_) rfl (by kernel_rfl) (by kernel_rfl) (by kernel_rfl) (fun _ _ _ h => h) (Or.inl ⟨by rfl, ?_⟩) (by assumption) ?_
      rotate_left
      · intro w hSw; (try dsimp only at hSw); go_simp; (try with_reducible rfl)
      (try simp only [Act.put, List.getElem_toArray, List.getElem_cons_zero, List.getElem_cons_succ, List.setIfInBounds_toArray, List.set_cons_zero, List.set_cons_succ])
      refine wpAnyH_take (i := 6) (v := ?_) rfl (by kernel_rfl) (by kernel_rfl) (by kernel_rfl) (fun _ _ _ h => h) (Or.inl ⟨by rfl, ?_⟩) (by assumption) ?_
      rotate_left
      · intro w hSw; (try dsimp only at hSw); go_simp; (try with_reducible rfl)
      (try simp only [Act.put, List.getElem_toArray, List.getElem_cons_zero, List.getElem_cons_succ, List.setIfInBounds_toArray, List.set_cons_zero, List.set_cons_succ])
      refine wpAnyH_take (i := 7) (v := ?_) rfl (by kernel_rfl) (by kernel_rfl) (by kernel_rfl) (fun _ _ _ h => h) (Or.inl ⟨by rfl, ?_⟩) (by assumption) ?_
      rotate_left
      · intro w hSw; (try dsimp only at hSw); go_simp; (try with_reducible rfl)
      (try simp only [Act.put, List.getElem_toArray, List.getElem_cons_zero, List.getElem_cons_succ, List.setIfInBounds_toArray, List.set_cons_zero, List.set_cons_succ])
      refine wpAnyH_take (i := 9) (v := ?_) rfl (by kernel_rfl) (by kernel_rfl) (by kernel_rfl) (fun _ _ _ h => h) (Or.inl ⟨by rfl, ?_⟩) (by assumption) ?_
      rotate_left
      · intro w hSw; (try dsimp only at hSw); go_simp; (try with_reducible rfl)
      (try simp only [Act.put, List.getElem_toArray, List.getElem_cons_zero, List.getElem_cons_succ, List.setIfInBounds_toArray, List.set_cons_zero, List.set_cons_succ])
      refine wpAnyH_ready (rs := [8]) (by kernel_rfl) (by simp) ?_
      refine AllReadyH.cons rfl (fun K hK => ?_) AllReadyH.nil
      go_simp
      with_reducible refine (HaltX hk3 hHeld.2.1).mono ?_
      rintro e w12 ⟨rfl, hb12⟩
      refine hK.out _ _ ⟨keepc hHeld.1 hb12, hHeld.2.1.below hb12, hHeld.2.2.below hb12⟩ (fun hHeld2 => ?_)
      clear hK K
      (try simp only [Act.put, List.getElem_toArray, List.getElem_cons_zero, List.getElem_cons_succ, List.setIfInBounds_toArray, List.set_cons_zero, List.set_cons_succ])
      refine wpAnyH_ready (rs := [10]) (by kernel_rfl) (by simp) ?_
      refine AllReadyH.cons rfl (fun K hK => ?_) AllReadyH.nil
      go_simp
      with_reducible refine (HaltX hk3 hHeld2.2.2).mono ?_
      rintro e w13 ⟨rfl, hb13⟩
      refine hK.out _ _ ⟨keepc hHeld2.1 hb13, hHeld2.2.1.below hb13, hHeld2.2.2.below hb13⟩ (fun hHeld3 => ?_)
      clear hK K
      (try simp only [Act.put, List.getElem_toArray, List.getElem_cons_zero, List.getElem_cons_succ, List.setIfInBounds_toArray, List.set_cons_zero, List.set_cons_succ])
      have hq := fun w => eql_halt w 3 M'.hc
      refine wpAnyH_take (i := 11) (v := ?_) rfl (by kernel_rfl) (by kernel_rfl) (by kernel_rfl) (fun _ _ _ h => h) (Or.inl ⟨by rfl, ?_⟩) (by assumption) ?_
      rotate_left
      · intro w hSw; (try dsimp only at hSw); go_simp; (try with_reducible rfl)
      (try simp only [Act.put, List.getElem_toArray, List.getElem_cons_zero, List.getElem_cons_succ, List.setIfInBounds_toArray, List.set_cons_zero, List.set_cons_succ])
      refine wpAnyH_take (i := 12) (v := ?_) rfl (by kernel_rfl) (by kernel_rfl) (by kernel_rfl) (fun _ _ _ h => h) (Or.inl ⟨by rfl, ?_⟩) (by assumption) ?_
      rotate_left
      · intro w hSw; (try dsimp only at hSw); go_simp; (try with_reducible rfl)
      (try simp only [Act.put, List.getElem_toArray, List.getElem_cons_zero, List.getElem_cons_succ, List.setIfInBounds_toArray, List.set_cons_zero, List.set_cons_succ])
      refine wpAnyH_take (i := 13) (v := ?_) rfl (by kernel_rfl) (by kernel_rfl) (by kernel_rfl) (fun _ _ _ h => h) (Or.inl ⟨by rfl, ?_⟩) (by assumption) ?_
      rotate_left
      · intro w hSw; (try dsimp only at hSw); go_simp; (try with_reducible rfl)
      (try simp only [Act.put, List.getElem_toArray, List.getElem_cons_zero, List.getElem_cons_succ, List.setIfInBounds_toArray, List.set_cons_zero, List.set_cons_succ])
      refine wpAnyH_take (i := 14) (v := ?_) rfl (by kernel_rfl) (by kernel_rfl) (by kernel_rfl) (fun _ _ _ h => h) (Or.inl ⟨by rfl, ?_⟩) (by assumption) ?_
      rotate_left
      · intro w hSw; (try dsimp only at hSw); go_simp; (try with_reducible rfl)
      (try simp only [Act.put, List.getElem_toArray, List.getElem_cons_zero, List.getElem_cons_succ, List.setIfInBounds_toArray, List.set_cons_zero, List.set_cons_succ])
      refine wpAnyH_ready (rs := [15]) (by kernel_rfl) (by simp) ?_
      refine AllReadyH.cons rfl (fun K hK => ?_) AllReadyH.nil
      go_simp
      with_reducible refine (HaltX hk3 hHeld3.2.1).mono ?_
      rintro e w14 ⟨rfl, hb14⟩
      refine hK.out _ _ ⟨keepc hHeld3.1 hb14, hHeld3.2.1.below hb14, hHeld3.2.2.below hb14⟩ (fun hHeldZ => ?_)
      clear hK K
      (try simp only [Act.put, List.getElem_toArray, List.getElem_cons_zero, List.getElem_cons_succ, List.setIfInBounds_toArray, List.set_cons_zero, List.set_cons_succ])
      refine wpAnyH_take (i := 16) (v := ?_) rfl (by kernel_rfl) (by kernel_rfl) (by kernel_rfl) (fun _ _ _ h => h) (Or.inl ⟨by rfl, ?_⟩) (by assumption) ?_
      rotate_left
      · intro w hSw; (try dsimp only at hSw); go_simp; (try with_reducible rfl)
      (try simp only [Act.put, List.getElem_toArray, List.getElem_cons_zero, List.getElem_cons_succ, List.setIfInBounds_toArray, List.set_cons_zero, List.set_cons_succ])
      refine wpAnyH_take (i := 17) (v := ?_) rfl (by kernel_rfl) (by kernel_rfl) (by kernel_rfl) (fun _ _ _ h => h) (Or.inl ⟨by rfl, ?_⟩) (by assumption) ?_
      rotate_left
      · intro w hSw; (try dsimp only at hSw); go_simp; (try with_reducible rfl)
      (try simp only [Act.put, List.getElem_toArray, List.getElem_cons_zero, List.getElem_cons_succ, List.setIfInBounds_toArray, List.set_cons_zero, List.set_cons_succ])
      refine wpAnyH_take (i := 18) (v := ?_) rfl (by kernel_rfl) (by kernel_rfl) (by kernel_rfl) (fun _ _ _ h => h) (Or.inl ⟨by rfl, ?_⟩) (by assumption) ?_
      rotate_left
      · intro w hSw; (try dsimp only at hSw); go_simp; (try with_reducible rfl)
      (try simp only [Act.put, List.getElem_toArray, List.getElem_cons_zero, List.getElem_cons_succ, List.setIfInBounds_toArray, List.set_cons_zero, List.set_cons_succ])
      refine wpAnyH_take (i := 19) (v := ?_) rfl (by kernel_rfl) (by kernel_rfl) (by kernel_rfl) (fun _ _ _ h => h) (Or.inl ⟨by rfl, ?_⟩) (by assumption) ?_
      rotate_left
      · intro w hSw; (try dsimp only at hSw); go_simp; (try with_reducible rfl)
      (try simp only [Act.put, List.getElem_toArray, List.getElem_cons_zero, List.getElem_cons_succ, List.setIfInBounds_toArray, List.set_cons_zero, List.set_cons_succ])
      refine wpAnyH_done (by kernel_rfl) ?_ _
      go_wp2_with fail
      go_ret
      exact ⟨rfl, by rw [hS]; exact (((BB.out.alloc (by omega) (.cells #[.int .u32 0, .int .u32 0, .int .i64 0, .int .i64 0, .int .i64 0] 41)).drew.trans (hb12.mono sF)).trans (hb13.mono (Nat.le_trans sF hb12.size))).trans (hb14.mono (Nat.le_trans (Nat.le_trans sF hb12.size) hb13.size))⟩

theorem laid_met (os : Os) : laidMet Tryz.prog Rows.coreRunsRow.laid ((Code.laidWorld Tryz.prog os).forCall (fun _ _ => 0) ⟨#[], #[.slice none 0 0, .int .i64 0, .agg #[.int .u32 0, .int .u32 0, .int .u32 0, .int .u32 0, .int .u32 0, .int .u32 0, .int .u32 0, .int .u32 0, .int .u32 0, .int .u32 0, .int .u32 0, .int .u32 0, .int .u32 0, .int .u32 0, .int .u32 0, .int .u32 0, .int .u32 0, .int .u32 0, .int .u32 0, .int .u32 0], .int .i64 0], []⟩).memory :=
  laidMet_of_run' 8 (by kernel_rfl) (by kernel_rfl)
theorem reads (os : Os) {H : Type} (enc : TypeId × Value → H) : ∃ places, DataW.whole enc Tryz.prog ((Code.laidWorld Tryz.prog os).forCall (fun _ _ => 0) ⟨#[], #[.slice none 0 0, .int .i64 0, .agg #[.int .u32 0, .int .u32 0, .int .u32 0, .int .u32 0, .int .u32 0, .int .u32 0, .int .u32 0, .int .u32 0, .int .u32 0, .int .u32 0, .int .u32 0, .int .u32 0, .int .u32 0, .int .u32 0, .int .u32 0, .int .u32 0, .int .u32 0, .int .u32 0, .int .u32 0, .int .u32 0], .int .i64 0], []⟩).memory Tryz.f6.params.toList Rows.coreRunsSpec.vars false (#[.slice none 0 0, .int .i64 0, .agg #[.int .u32 0, .int .u32 0, .int .u32 0, .int .u32 0, .int .u32 0, .int .u32 0, .int .u32 0, .int .u32 0, .int .u32 0, .int .u32 0, .int .u32 0, .int .u32 0, .int .u32 0, .int .u32 0, .int .u32 0, .int .u32 0, .int .u32 0, .int .u32 0, .int .u32 0, .int .u32 0], .int .i64 0] : Array Value).toList 8 = some ([.nil, (.lit (.int .i64 0)), (.agg [.agg [.lit (.int .u32 0), .lit (.int .u32 0), .lit (.int .u32 0), .lit (.int .u32 0), .lit (.int .u32 0), .lit (.int .u32 0), .lit (.int .u32 0), .lit (.int .u32 0), .lit (.int .u32 0), .lit (.int .u32 0), .lit (.int .u32 0), .lit (.int .u32 0), .lit (.int .u32 0), .lit (.int .u32 0), .lit (.int .u32 0), .lit (.int .u32 0)], .lit (.int .u32 0), .lit (.int .u32 0), .lit (.int .u32 0), .lit (.int .u32 0)]), (.lit (.int .i64 0))], [], places) :=
  ⟨[], by kernel_rfl⟩

set_option maxRecDepth 100000 in
theorem lifted (os : Os) (started : os.Started) (H : Type) (enc : TypeId × Value → H) (F : Stop.Interp) :
    ReturnsInHanded {} Tryz.checked os 6 .any ((OpenSpec.ofChange Rows.coreRunsSpec).preRow enc Tryz.prog Tryz.f6 Rows.coreRunsRow.domain false Rows.coreRunsRow.laid) (((OpenSpec.ofChange Rows.coreRunsSpec).at F).post enc Tryz.prog Tryz.f6 false true false false) := by
  obtain ⟨places, hx⟩ := reads os enc
  refine returnsInHanded_of_row (C := Tryz.checked) (s := OpenSpec.ofChange Rows.coreRunsSpec) own started (by kernel_rfl) Tryz.func6
    (witness_row_at (enc := enc) (C := Tryz.checked) false (Code.laidWorld Tryz.prog os) #[.slice none 0 0, .int .i64 0, .agg #[.int .u32 0, .int .u32 0, .int .u32 0, .int .u32 0, .int .u32 0, .int .u32 0, .int .u32 0, .int .u32 0, .int .u32 0, .int .u32 0, .int .u32 0, .int .u32 0, .int .u32 0, .int .u32 0, .int .u32 0, .int .u32 0, .int .u32 0, .int .u32 0, .int .u32 0, .int .u32 0], .int .i64 0] rfl (by kernel_rfl) (by kernel_rfl) (by kernel_rfl)
      (OpenSpec.preRow_of_cond 8 hx (by kernel_rfl) (fun k hk => by cases hk) (by kernel_rfl) (laid_met os))) ?_
  intro W base args ds gs before hval0 hW _ _ _ hL _ _
  have hval : ∀ (j : Nat) t v, Tryz.f6.params[j]? = some t → args[j]? = some v → Value.okWide Tryz.prog W .any base t v := hval0
  have hW' := hW
  obtain ⟨p, q, hA0, hV, rfl, hfz, hnd⟩ := hW
  have hA : DataW.TrodAll enc Tryz.prog W 0 (fun _ => true) true Tryz.f6.params.toList args.toList ds p := hA0
  rw [Tryz.params6] at hA hval
  obtain ⟨v0, vs0, d0, ds0, p0, q0, hargs, rfl, rfl, h0, r0⟩ := trodAll_cons hA
  obtain ⟨v1, vs1, d1, ds1, p1, q1, rfl, rfl, rfl, h1, r1⟩ := trodAll_cons r0
  obtain ⟨v2, vs2, d2, ds2, p2, q2, rfl, rfl, rfl, h2, r2⟩ := trodAll_cons r1
  obtain ⟨v3, vs3, d3, ds3, p3, q3, rfl, rfl, rfl, h3, r3⟩ := trodAll_cons r2
  obtain ⟨rfl, rfl, rfl⟩ := trodAll_nil r3
  obtain rfl : args = #[v0, v1, v2, v3] := by cases args; simp_all
  obtain ⟨rfl, rfl⟩ := trodVars_none hV
  have k0 := h0
  obtain ⟨q0, n0, c0, z0, rfl, w0⟩ := Args.open_recs (ks := [.i64, .i64, .i64, .i64, .i64, .i64, .i64, .i64, .i64, .i64, .i64]) Tryz.underlying22 Tryz.underlying52 (by kernel_rfl) (by kernel_rfl) (by kernel_rfl) (by kernel_rfl) (by decide) (hval 0 22 v0 rfl rfl) h0
  obtain ⟨a1, rfl, rfl, rfl, w1⟩ := open_int Tryz.underlying3 (hval 1 3 v1 rfl rfl) h1
  have k2 := h2
  obtain ⟨s2, rfl, rfl, w2⟩ := Core.open_state (hval 2 27 v2 rfl rfl) h2
  obtain ⟨a3, rfl, rfl, rfl, w3⟩ := open_int Tryz.underlying3 (hval 3 3 v3 rfl rfl) h3
  clear hA0 hval0
  simp only [List.append_nil] at hW'
  try simp only [List.nil_append] at hW'
  have hlt : ∀ x, x ∈ (p0 : List MemPlace) → x.block < W.heap.size := fun x hx => by simpa using hW'.lt x hx
  refine (walk q0 n0 c0 z0 a1 s2 a3 W w0 w1 w2 w3 (Code.laid_of hL)).mono fun e W' ⟨he, hg⟩ => ?_
  subst he
  exact ⟨_, rfl, Ends.post_of_below (pv := []) hW' (fun _ _ _ => (trodAll_cons_mk (shut_bool Tryz.underlying4 _) trodAll_mk0)) (trodAll_cons_mk (Below.trod laidOut (by kernel_rfl) (of_decide_eq_true (by kernel_rfl)) k0 hg (fun x hx => hlt x (by simp [hx]))) (trodAll_cons_mk (shut_int Tryz.underlying3 w1) (trodAll_cons_mk (WideElems.Trod_stays laidOut (by kernel_rfl) (of_decide_eq_true (by kernel_rfl)) k2 (fun x hx => by cases hx) (fun x hx => by cases hx)) (trodAll_cons_mk (shut_int Tryz.underlying3 w3) trodAll_mk0)))) (fun _ _ => rfl) (by simp)
    (hg.frame _)⟩

theorem said : Rows.CoreRunsSaid :=
  OpenClaim.holds_of_cond 6 Tryz.f6 rfl rfl rfl rfl rfl rfl rfl ⟨rfl, rfl, rfl, rfl, rfl⟩ rfl rfl rfl rfl rfl (by kernel_rfl) Tryz.func6 (by kernel_rfl)
    (of_decide_eq_true (by kernel_rfl)) (by unfold Func.isWrapper; first | (rw [if_pos (by decide +kernel)]; kernel_rfl) | (rw [if_neg (by decide +kernel)]; exact ⟨rfl, rfl⟩))
    (fun os started H enc _ F => by rw [OpenClaim.pre_eq_preRow]; exact lifted os started H enc F)

/-- No parameter wants a stand-in; the program's own looks are off: what the card asks. -/
theorem plain (f : FuncId) (fn : Func) (hf : Tryz.pinned.checked.prog.funcNamed "remontoire/remontoirelaw07.CoreRuns" = some f) (hfn : Tryz.pinned.checked.prog.funcs[f]? = some fn) :
    false = Tryz.pinned.checked.prog.looks [] ∧ ∀ (j : Nat) t, fn.params[j]? = some t → Tryz.pinned.checked.prog.wantsStandIn t = false := by
  obtain rfl : f = 6 := Option.some.inj ((show Tryz.prog.funcNamed "remontoire/remontoirelaw07.CoreRuns" = some 6 by kernel_rfl).symm.trans hf) |>.symm
  obtain rfl : fn = Tryz.f6 := (Option.some.inj (Tryz.func6.symm.trans hfn)).symm
  refine ⟨by kernel_rfl, fun j t ht => ?_⟩
  rw [Tryz.params6] at ht
  have hm := Array.mem_of_getElem? ht
  simp only [List.mem_toArray, List.mem_cons, List.not_mem_nil, or_false] at hm
  rcases hm with rfl | rfl | rfl | rfl
  · exact (show Tryz.prog.wantsStandIn 22 = false by kernel_rfl)
  · exact (show Tryz.prog.wantsStandIn 3 = false by kernel_rfl)
  · exact (show Tryz.prog.wantsStandIn 27 = false by kernel_rfl)
  · exact (show Tryz.prog.wantsStandIn 3 = false by kernel_rfl)

/-- The card. -/
theorem proved : Rows.CoreRunsCardSaid :=
  Claim7.holds_tied_plain_at .later [] _ _ _ _ said (fun _ h => by cases h) (by kernel_rfl) (fun _ h => by cases h) coreRuns_row_tie rfl ⟨rfl, rfl⟩ (by kernel_rfl) rfl plain (by kernel_rfl)
#print axioms proved
end Go.Proofs.YtfdnjoieolijcaaGreatDoor.coreRuns

