/- For every program and every number the statement AsmWide returns true: a jump is wide just if it can't go narrow as all is laid, or if it couldn't when fewer ones were wide; a program of a few bytes has none wide.
Conditions: none of the arguments; the package variables that the row lists hold what the program lays (the card ties them to its text). -/
import Derived.Test.YtegefbndpkbooaaDoorRows
import Derived.WalkKit
import Derived.ProofKit
import Derived.OpenShut
import Derived.Deep.DeepHandedRow
import Derived.Deep.RegionHeld3
import Derived.Test.YtegefbndpkbooaaDoorCards
import Derived.Test.YtegefbndpkbooaaDoorTie
import Derived.Deep.DeepCutAuto
import Derived.Deep.CutRange
import Derived.Laws.OwnMore
import Derived.Below
import Derived.OpenShut
import Derived.ProofKit
import Derived.Test.YtegefbndpkbooaaDoorAsmWideWalk
import Derived.Test.YtegefbndpkbooaaDoorAsmWiden
import Derived.Test.YtegefbndpkbooaaDoorAsmNear
import Derived.Test.YtegefbndpkbooaaDoorCodeBytesA
/-! From what lies behind a call to the row's own end: where nothing is asked again of what is handed back. -/
set_option linter.unusedVariables false
namespace Go.Proofs.YtegefbndpkbooaaDoor.Ends
open Go.ChangeShapes Go.WideShapes Go.ChangeAt Go.RowKit

theorem post_of_frame {H : Type} {enc : TypeId × Value → H} {P : Program} {f : Func} {s : ChangeSpec} {apart fresh handsOn : Bool} {W W' : World} {args : Array Value} {v : Value} {ds gs : List (DataW H)} {before pa pv : List MemPlace}
    (hW : DataW.Whole enc P f.params.toList s.vars apart W args.toList ds gs before)
    (hres : ∀ (b : Nat) (sp : Nat → Bool) (hd : Bool), DataW.TrodAll enc P W' b sp hd f.resultTypes.toList (v.resultList f.resultTypes.size) (s.fn H (ds ++ gs)).results [])
    (hargs : ∀ sp : Nat → Bool, (∀ p ∈ before, sp p.block = true) → DataW.TrodAll enc P W' 0 sp true f.params.toList args.toList (s.fn H (ds ++ gs)).args pa)
    (hvars : ∀ sp : Nat → Bool, (∀ p ∈ before, sp p.block = true) → DataW.TrodVars enc P W' sp s.vars (s.fn H (ds ++ gs)).vars pv)
    (hps : before = pa ++ pv) (hk : W.keptBut W' (· ∈ before)) :
    s.post enc P f apart fresh handsOn false W args v W' := by
  have hold : ∀ p ∈ before, (fun b => decide (b < W.heap.size)) p.block = true := fun p hp => by simpa using hW.lt p hp
  refine ⟨ds, gs, before, [], pa, pv, hW, hres _ _ _, hargs _ hold, hvars _ hold, World.keptBut_mono (fun p hp => ⟨hp, ?_⟩) hk, fun h => by cases h⟩
  rw [hps, List.mem_append] at hp
  exact Or.inr hp

/-- The same, where the arguments read as they did in what lies below. -/
theorem post_of_below {H : Type} {enc : TypeId × Value → H} {P : Program} {f : Func} {s : ChangeSpec} {apart fresh handsOn : Bool} {W W' : World} {args : Array Value} {v : Value} {ds gs : List (DataW H)} {before pa pv : List MemPlace}
    (hW : DataW.Whole enc P f.params.toList s.vars apart W args.toList ds gs before)
    (hres : ∀ (b : Nat) (sp : Nat → Bool) (hd : Bool), DataW.TrodAll enc P W' b sp hd f.resultTypes.toList (v.resultList f.resultTypes.size) (s.fn H (ds ++ gs)).results [])
    (hargs : DataW.TrodAll enc P W' 0 (fun b => decide (b < W.heap.size)) true f.params.toList args.toList (s.fn H (ds ++ gs)).args pa)
    (hvars : ∀ sp : Nat → Bool, (∀ p ∈ before, sp p.block = true) → DataW.TrodVars enc P W' sp s.vars (s.fn H (ds ++ gs)).vars pv)
    (hps : before = pa ++ pv) (hk : W.keptBut W' (· ∈ before)) :
    s.post enc P f apart fresh handsOn false W args v W' := by
  have hold : ∀ p ∈ before, (fun b => decide (b < W.heap.size)) p.block = true := fun p hp => by simpa using hW.lt p hp
  refine ⟨ds, gs, before, [], pa, pv, hW, hres _ _ _, hargs, hvars _ hold, World.keptBut_mono (fun p hp => ⟨hp, ?_⟩) hk, fun h => by cases h⟩
  rw [hps, List.mem_append] at hp
  exact Or.inr hp

end Go.Proofs.YtegefbndpkbooaaDoor.Ends

/-! A laid program's bytes: with, bytes of package asm. -/
set_option linter.unusedVariables false
set_option linter.unusedSimpArgs false
namespace Go.Proofs.YtegefbndpkbooaaDoor.Asm
open Go.RowKit Go.Proofs.YtegefbndpkbooaaDoor.Core Go.Proofs.YtegefbndpkbooaaDoor.Alu

/-- An instruction's bytes. -/
def insB (i : Ins) : List Int := Code.byt (Code.wd i.f i.rd i.rn i.rm i.ra i.im i.kd i.bs i.st i.cd i.rg) (Inst.wdF i.f)
theorem insB_len (i : Ins) : (insB i).length = if Inst.wdF i.f then 4 else 2 := by unfold insB Code.byt; split <;> simp
theorem BytesY (i : Ins) (hr : i.right = true) (g : -9223372036854775808 ≤ i.rg ∧ i.rg ≤ 9223372036854775807) (w : World) (hL : Code.Laid w) :
    Calls Tryd.prog 51 #[.agg (inv i)] w fun e w' => ∃ v, e = .returned (.tuple #[v, .int .i64 0]) ∧ w'.ownsRow w.heap.size 5 1 v (insB i).length (Code.u8s (insB i)) ∧ Below w.heap.size w w' :=
  Code.Bytes_yes i.f i.rd i.rn i.rm i.ra i.im i.kd i.bs i.st i.cd i.rg hr g.1 g.2 w hL
theorem owns_below {w w' : World} {base : Nat} {e : TypeId} {size : Nat} {v : Value} {n : Nat} {xs : List Value} (h : w.ownsRow base e size v n xs) (hb : Below w.heap.size w w') : w'.ownsRow base e size v n xs :=
  h.kept (row := none) ⟨hb.os, hb.tape, hb.output, hb.size, fun i hi _ => hb.block i hi⟩ (by cases v.ownBlock <;> simp)
theorem u8s_one' (l : List Int) : ∀ u ∈ Code.u8s l, u.oneCell' = true := by
  intro u hu
  simp only [Code.u8s, List.mem_map] at hu
  obtain ⟨_, _, rfl⟩ := hu
  rfl
theorem add_off' (g j : Nat) : (⟨g, 0, none⟩ : Addr).add j = ⟨g, j, none⟩ := by unfold Addr.add; split <;> simp_all
theorem u8s_app (a b : List Int) : Code.u8s (a ++ b) = Code.u8s a ++ Code.u8s b := by simp [Code.u8s]

set_option maxRecDepth 100000 in
set_option maxHeartbeats 1000000 in
theorem with_any (B : Nat) (v : Value) (xs : List Int) (i : Ins) (hr : i.right = true) (g : -9223372036854775808 ≤ i.rg ∧ i.rg ≤ 9223372036854775807) (hn : xs.length ≤ 1000000) (w : World) (hown : w.ownsRow B 5 1 v xs.length (Code.u8s xs)) (hB : B ≤ w.heap.size) (hL : Code.Laid w) :
    Calls Tryd.prog 34 #[v, .agg (inv i)] w fun e w' => ∃ v', e = .returned v' ∧ w'.ownsRow B 5 1 v' (xs ++ insB i).length (Code.u8s (xs ++ insB i)) ∧ Below B w w' ∧ ∀ j, j < w.heap.size → v.ownBlock ≠ some j → w'.heap[j]? = w.heap[j]? := by
  obtain ⟨i0, hi, hz0, hz1, hz2⟩ := info_parts Code.infoU8
  have hil := insB_len i
  have hip : 0 < (insB i).length := by rw [hil]; split <;> omega
  have hil4 : (insB i).length ≤ 4 := by rw [hil]; split <;> omega
  have hb1 := (Below.refl B w).alloc hB (.cells (inv i) 36)
  have ho1 := hown.alloc (.cells (inv i) 36)
  have hX := heap_alloc_new w (.cells (inv i) 36)
  have hL1 := hL.alloc (.cells (inv i) 36)
  replace hX := hide hX
  clear hil
  go_enter Tryd.func34, Tryd.ntmps34
  go_wp2_with (refine wpList_load_row rfl 36 (.tmp 3) rfl _ rfl 36 _ (0, 0) _ (unhide hX) Tryd.underlying36 rfl info_in ?_)
  refine (BytesY i hr g _ hL1).mono ?_
  rintro e w3 ⟨v3, rfl, hov, hb3⟩
  obtain ⟨q, gc, rfl, hg0, hg1, hgc, hgm, hgcell⟩ := Code.own_slice hov hip
  have ho3 := owns_below ho1 hb3
  have hb4 := hb1.trans (hb3.mono (Nat.le_trans hB hb1.size))
  have HO3 : Hid (w.heap.size ≤ w3.heap.size ∧ ∀ j, j < w.heap.size → w3.heap[j]? = w.heap[j]?) := ⟨by have := hb3.size; simp at this; omega, fun j hj => (hb3.block j (by simp; omega)).trans (((Below.refl w.heap.size w).alloc (Nat.le_refl _) (.cells (inv i) 36)).block j hj)⟩
  clear hb3
  go_wp2_with (at_builtin; refine wpList_append_own _ rfl (.tmp 12) (.tmp 13) 27 rfl B 5 i0 (.int .u8 0) 1 1 Tryd.underlying27 hi hz0 hz1 hz2 rfl (by decide) _ _ _ rfl ho3 ⟨q, 0, none⟩ (insB i).length _ (Code.u8s (insB i)) rfl ?k1 ?k2 ?k3 ?k4 ?k5 (Nat.le_trans hB hb4.size) ?_)
  case k1 => simp [Code.u8s]
  case k2 => intro j u hj; rw [add_off']; exact hgcell j u hj
  case k3 => exact u8s_one' _
  case k4 => unfold maxLen; omega
  case k5 => omega
  intro v5 w5 ho5 hg5 _
  have hb5 : Below B w w5 := hb4.grown hg5 (Nat.le_trans hB hb4.size) (fun j hj => (ho3.lt j hj).1)
  go_wp2_with fail
  go_ret
  exact ⟨v5, rfl, by rw [List.length_append, u8s_app]; exact ho5, hb5, fun j hj hne => (hg5.block j (by have := HO3.out.1; omega) (fun e => hne e.symm)).trans (HO3.out.2 j hj)⟩

theorem brI_rg (c n : Int) (b : Bool) : -9223372036854775808 ≤ (brI c n b).rg ∧ (brI c n b).rg ≤ 9223372036854775807 := by
  unfold brI; split <;> cases b <;> simp
theorem own_low2 {w : World} {a b : Nat} {e : TypeId} {v : Value} {n : Nat} {xs : List Value} (h : w.ownsRow a e 1 v n xs) (hb : b ≤ a) : w.ownsRow b e 1 v n xs :=
  ⟨h.1, h.2.imp id (fun ⟨g, cap, cur, e, hg, r⟩ => ⟨g, cap, cur, e, Nat.le_trans hb hg, r⟩)⟩
theorem range_belowN {w w' : World} {b o m : Nat} {vs : List Value} (h : w.rangeAt b o vs) (hb : Below m w w') (hm : b < m) : w'.rangeAt b o vs := fun j v hv => (hb.cell (p := ⟨b, o + j, none⟩) hm).trans (h j v hv)
/-- The same again and again. -/
def repB (l : List Int) : Nat → List Int
  | 0 => []
  | m + 1 => repB l m ++ l
theorem repB_len (l : List Int) : ∀ m, (repB l m).length = m * l.length
  | 0 => by simp [repB]
  | m + 1 => by unfold repB; rw [List.length_append, repB_len l m, Nat.succ_mul]
def nopI : Ins := ⟨44, 0, 0, 0, 0, 0, 0, 0, 0, 0, 0⟩
theorem nop_right : nopI.right = true := by decide +kernel
/-- An item's bytes, and those of the first k. -/
def bytT (P : Prg) (X : Nat → It) (W : Nat → Bool) (i : Nat) : List Int :=
  if (X i).k = 1 then insB (X i).i else if (X i).k = 2 then insB (brI (X i).c (P.far W i) (W i)) else if (X i).k = 4 then repB (insB nopI) (misN (P.at_ W i) (X i).t / 2).toNat else []
def bytK (P : Prg) (X : Nat → It) (W : Nat → Bool) : Nat → List Int
  | 0 => []
  | k + 1 => bytK P X W k ++ bytT P X W k
theorem insB_siz {i : Ins} (h : i.right = true) : ((insB i).length : Int) = Inst.siz i.f := by
  have hf : Inst.isF i.f = true := by unfold Ins.right Inst.right at h; simp only [Bool.and_eq_true] at h; exact h.1
  rw [insB_len]
  unfold Inst.siz
  rw [if_pos hf]
  split <;> rfl
theorem nop_len : (insB nopI).length = 2 := by decide +kernel
theorem bytT_len {n : Nat} {X : Nat → It} {W : Nat → Bool} (hr : ∀ i, i < n → rightT (X i) = true) (hj : ∀ i, i < n → (X i).k = 2 → (brI (X i).c ((prg n X).far W i) (W i)).right = true) {i : Nat} (hi : i < n) :
    ((bytT (prg n X) X W i).length : Int) = (prg n X).sz i (W i) ((prg n X).at_ W i) := by
  rw [prg_sz hi]
  unfold bytT szT
  by_cases h1 : (X i).k = 1
  · rw [if_pos h1, if_pos h1]; exact insB_siz (right_code (hr i hi) h1).2
  rw [if_neg h1, if_neg h1]
  by_cases h2 : (X i).k = 2
  · rw [if_pos h2, if_pos h2, insB_siz (hj i hi h2), siz_br]
  rw [if_neg h2, if_neg h2]
  by_cases h4 : (X i).k = 4
  · rw [if_pos h4, if_pos h4, repB_len, nop_len]
    have ht := right_to (hr i hi) h4
    have hb := mis_bd ((prg n X).at_ W i) _ ht
    have he := mis_even ((prg n X).at_ W i) _ ht (Prg.at_even (prg_ok hr) W i)
    omega
  · rw [if_neg h4, if_neg h4]; rfl
theorem bytK_len {n : Nat} {X : Nat → It} {W : Nat → Bool} (hr : ∀ i, i < n → rightT (X i) = true) (hj : ∀ i, i < n → (X i).k = 2 → (brI (X i).c ((prg n X).far W i) (W i)).right = true) : ∀ k, k ≤ n → ((bytK (prg n X) X W k).length : Int) = (prg n X).at_ W k
  | 0, _ => rfl
  | k + 1, hk => by
    have a := bytK_len hr hj k (by omega)
    have b := bytT_len hr hj (show k < n by omega)
    unfold bytK
    rw [List.length_append, Prg.at_succ]
    omega

theorem Size_nop (w : World) : Calls Tryd.prog 26 #[.int .i64 44] w fun e w' => e = .returned (.int .i64 2) ∧ w' = w := Inst.Size_any 44 w
/-- What holds ahead of each round; and of each round of those inside. -/
inductive BRel (P : Prg) (X : Nat → It) (W : Nat → Bool) (n : Nat) (w1 : World) (s7 s12 : Value) (wr : World) : Prop
  | mk (k : Nat) (hk : k ≤ n) (h12 : s12 = .int .i64 k) (ho : wr.ownsRow w1.heap.size 5 1 s7 (bytK P X W k).length (Code.u8s (bytK P X W k))) (hb : Below w1.heap.size w1 wr) : BRel P X W n w1 s7 s12 wr
inductive NRel (L : List Int) (m : Nat) (w1 : World) (s7 s47 : Value) (wr : World) : Prop
  | mk (j : Nat) (hj : j ≤ m) (h47 : s47 = .int .i64 j) (ho : wr.ownsRow w1.heap.size 5 1 s7 (L ++ repB (insB nopI) j).length (Code.u8s (L ++ repB (insB nopI) j))) (hb : Below w1.heap.size w1 wr) : NRel L m w1 s7 s47 wr

set_option maxRecDepth 100000 in
set_option maxHeartbeats 4000000 in
theorem bytes_any {w : World} {vb : Value} {ga gs gg n cap : Nat} {r : Int} {p : Option Addr} {X : Nat → It} {W : Nat → Bool} (hI : Items w p n X) (hr : ∀ i, i < n → rightT (X i) = true) (hA : Rw w ga n ((prg n X).at_ W)) (hS : Rw w gs n (fun i => (prg n X).sz i (W i) ((prg n X).at_ W i))) (hG : Rw w gg n (goalR X n n))
    (hn : n ≤ 10000) (hle : (prg n X).at_ W n ≤ 65536) (hgo : ∀ i, i < n → (X i).k = 2 → goalF X n (X i).l < n) (hbad : ∀ i, i < n → (prg n X).bad W i = false) (hL : Code.Laid w) :
    Calls Tryd.prog 22 #[.agg (ldv vb ga gs n r), .slice p n cap, .slice (some ⟨gg, 0, none⟩) n n] w fun e w' => ∃ v, e = .returned v ∧ w'.ownsRow w.heap.size 5 1 v (bytK (prg n X) X W n).length (Code.u8s (bytK (prg n X) X W n)) ∧ Below w.heap.size w w' := by
  have hn' : (n : Int) ≤ 10000 := by omega
  have hOk := prg_ok (n := n) (X := X) hr
  have hat : ∀ i, i < n → 0 ≤ (prg n X).at_ W i ∧ (prg n X).at_ W i ≤ 70000 := fun i hi => by
    have a := Prg.at_ge hOk W i
    have b := Prg.at_mono hOk W (show i ≤ n by omega)
    omega
  have hj : ∀ i, i < n → (X i).k = 2 → (brI (X i).c ((prg n X).far W i) (W i)).right = true := fun i hi h2 => jump_right hr hbad hle hi h2 (hgo i hi h2)
  have hlen : ∀ k, k ≤ n → (bytK (prg n X) X W k).length ≤ 65536 := fun k hk => by
    have a := bytK_len hr hj k hk
    have b := Prg.at_mono hOk W hk
    omega
  have hw2 : ∀ i, i < n → (X i).k = 2 → ((prg n X).sz i (W i) ((prg n X).at_ W i) != 2) = W i := fun i hi h2 => by
    rw [prg_sz hi]; unfold szT; rw [if_neg (by omega), if_pos h2]; cases W i <;> rfl
  have hpad : ∀ i, i < n → (X i).k = 4 → (prg n X).sz i (W i) ((prg n X).at_ W i) = misN ((prg n X).at_ W i) (X i).t := fun i hi h4 => by
    rw [prg_sz hi]; unfold szT; rw [if_neg (by omega), if_neg (by omega), if_pos h4]
  have hfar : ∀ i, (prg n X).at_ W (goalF X n (X i).l) - (prg n X).at_ W i - 4 = (prg n X).far W i := fun i => rfl
  have hK : ∀ k, bytK (prg n X) X W (k + 1) = bytK (prg n X) X W k ++ bytT (prg n X) X W k := fun k => rfl
  have hT : ∀ k, bytT (prg n X) X W k = if (X k).k = 1 then insB (X k).i else if (X k).k = 2 then insB (brI (X k).c ((prg n X).far W k) (W k)) else if (X k).k = 4 then repB (insB nopI) (misN ((prg n X).at_ W k) (X k).t / 2).toNat else [] := fun k => rfl
  generalize prg n X = P at *
  have hX := heap_alloc_new w (.cells (ldv vb ga gs n r) 30)
  have hB := (Below.refl w.heap.size w).alloc (Nat.le_refl _) (.cells (ldv vb ga gs n r) 30)
  have hz : w.heap.size < (w.alloc (.cells (ldv vb ga gs n r) 30)).heap.size := by simp
  have HX := hide hX
  have HI := hide (hI.below hB)
  have HA := hide (hA.below hB)
  have HS := hide (hS.below hB)
  have HG := hide (hG.below hB)
  have HL := hide (hL.below hB)
  have la := hA.lt
  have ls := hS.lt
  have lg := hG.lt
  have HB := hide hB
  have HAT := hide hat
  have HJ := hide hj
  have HW := hide hw2
  have HPD := hide hpad
  have HFR := hide hfar
  have HK := hide hK
  have HT := hide hT
  have HLN := hide hlen
  have HR := hide hr
  have HGO := hide hgo
  clear hX hB hI hA hS hG hat hj hw2 hpad hfar hK hT hlen hr hgo hOk hle hbad hL
  go_enter Tryd.func22, Tryd.ntmps22
  go_wp2_with fail
  generalize hBz : w.heap.size = B at *
  generalize w.alloc (.cells (ldv vb ga gs n r) 30) = w1 at *
  go_loopw [7, 12] (fun s7 s12 wr => BRel P X W n w1 s7 s12 wr) (fun _ s12 _ => n - (intOf s12).toNat)
  case atStart => exact ⟨0, Nat.zero_le _, rfl, World.ownsRow_nil _ _ _ _, Below.refl _ _⟩
  case round =>
    obtain ⟨k, hk, rfl, ho, hb⟩ := hrel
    have hlK := HLN.out k hk
    by_cases hlt : k < n
    · have hlt' : (k : Int) < n := by omega
      have hI2 := HI.out.below hb
      rcases hI2.cells with h0 | ⟨b, off, rfl, hbl, hcl⟩
      · omega
      have hrow := hide (hcl k hlt)
      have hb2 := hb.alloc hb.size (.cells (itv (X k)) 38)
      have hX := heap_alloc_new wr (.cells (itv (X k)) 38)
      have c0 : (wr.alloc (.cells (itv (X k)) 38)).cell? ⟨wr.heap.size, 0, none⟩ = some (.int .i64 (X k).k) := by rw [cell_of_row _ _ _ _ _ _ hX]; rfl
      have c12 : (wr.alloc (.cells (itv (X k)) 38)).cell? ⟨wr.heap.size, 12, none⟩ = some (.int .i64 (X k).c) := by rw [cell_of_row _ _ _ _ _ _ hX]; rfl
      have hin := hide (range_row (show (wr.alloc (.cells (itv (X k)) 38)).heap[wr.heap.size]? = _ from hX) 1 _ (itv_inst (X k)))
      have hz2 : wr.heap.size < (wr.alloc (.cells (itv (X k)) 38)).heap.size := by simp
      have ho2 := hide (ho.alloc (.cells (itv (X k)) 38))
      have hLx := hide (HL.out.below hb2)
      have hs1 := hb.size
      have hoJ : Hid (∀ q, _ = some q → q < wr.heap.size) := fun q hq => (ho.lt q hq).2
      clear hcl hX hI2 ho
      by_cases hk1 : (X k).k = 1
      · rw [hk1] at c0
        have hTT : bytT P X W k = insB (X k).i := by rw [HT.out, if_pos hk1]
        have HTT := hide hTT
        clear hTT
        go_wp2_with (first
          | (refine wpList_load_mid rfl 38 (.tmp 15) rfl b (off + k * 15) rfl (itv (X k)).toList _ (unhide hrow) Tryd.underlying38 rfl info_it ?_)
          | (refine wpList_store_rowTo rfl 38 (.tmp 9) (.tmp 16) rfl rfl _ (itv (X k)) rfl rfl 38 (itv zerT) (heap_alloc_last _ _) info_it rfl (one_it _) ?_; rw [World.setRow_alloc_new])
          | (refine wpList_load_mid rfl 36 (.tmp 22) rfl wr.heap.size 1 rfl (inv (X k).i).toList _ (unhide hin) Tryd.underlying36 rfl info_in ?_))
        refine (with_any w1.heap.size _ (bytK P X W k) (X k).i (right_code (HR.out k hlt) hk1).2 (HI.out.wf k hlt) (by omega) _ ho2.out (by omega) hLx.out).mono ?_
        rintro e w3 ⟨v3, rfl, hov, hb3, _⟩
        have HB3 := hide (hb2.trans hb3)
        rw [← HTT.out, ← HK.out] at hov
        replace hov := hide hov
        clear hb3 hb2 ho2
        go_wp2_with fail
        go_roundw
        case rel => exact ⟨k + 1, by omega, by go_num, hov.out, HB3.out⟩
        case measure => simp [intOf]; omega
      by_cases hk2 : (X k).k = 2
      · rw [hk2] at c0
        have HTT : Hid (bytT P X W k = insB (brI (X k).c (P.far W k) (W k))) := by unfold Hid; rw [HT.out, if_neg hk1, if_pos hk2]
        have HA3 := hide (HA.out.below (hb2.mono (Nat.le_refl _)))
        have HS3 := hide (HS.out.below (hb2.mono (Nat.le_refl _)))
        have HG3 := hide (HG.out.below (hb2.mono (Nat.le_refl _)))
        have hgl : Hid (goalR X n n k = (goalF X n (X k).l : Int)) := if_pos ⟨hlt, hk2⟩
        have kG : (wr.alloc (.cells (itv (X k)) 38)).cell? ⟨gg, k, none⟩ = some (.int .i64 (goalF X n (X k).l : Int)) := by rw [← hgl.out]; exact HG3.out.cell k hlt
        have hXB := hide ((hb2.block B (by omega)).trans HX.out)
        go_wp2_with (first
          | (refine wpList_load_mid rfl 38 (.tmp 15) rfl b (off + k * 15) rfl (itv (X k)).toList _ (unhide hrow) Tryd.underlying38 rfl info_it ?_)
          | (refine wpList_store_rowTo rfl 38 (.tmp 9) (.tmp 16) rfl rfl _ (itv (X k)) rfl rfl 38 (itv zerT) (heap_alloc_last _ _) info_it rfl (one_it _) ?_; rw [World.setRow_alloc_new]))
        have lwr := hz2
        have hJo0 := fun (e : _ = some wr.heap.size) => Nat.lt_irrefl _ (hoJ.out _ e)
        have hJo := hJo0
        clear hJo0 hoJ
        generalize hJ : wr.heap.size = J at *
        generalize wr.alloc (.cells (itv (X k)) 38) = w2 at *
        refine wp_region_held_drew (S := fun w' => w'.rangeAt B 0 (ldv vb ga gs n r).toList ∧ w'.cell? ⟨J, 12, none⟩ = some (.int .i64 (X k).c) ∧ w'.cell? ⟨gg, k, none⟩ = some (.int .i64 (goalF X n (X k).l : Int))) (by kernel_rfl)
          ⟨range_row (show w2.drew.heap[B]? = _ from hXB.out) 0 _ (by intro j v h; rw [Nat.zero_add, ← Array.getElem?_toList]; exact h), c12, kG⟩ (fun hHeld => ?_)
        refine wpAnyH_take (i := 0) (v := ?_) rfl (by kernel_rfl) (by kernel_rfl) (by kernel_rfl) (fun _ _ _ h => h) (Or.inl ⟨by rfl, ?_⟩) (by assumption) ?_
        rotate_left
        · intro w hSw; (try dsimp only at hSw); go_simp; (try with_reducible rfl)
        (try simp only [Act.put, List.getElem_toArray, List.getElem_cons_zero, List.setIfInBounds_toArray, List.set_cons_zero, List.set_cons_succ])
        refine wpAnyH_take (i := 1) (v := .agg (ldv vb ga gs n r)) rfl (by kernel_rfl) (by kernel_rfl) (by kernel_rfl) (fun _ _ _ h => h) (yieldsIf_load_mid (by rfl) 30 (.tmp 3) rfl B 0 rfl (ldv vb ga gs n r).toList _ (fun w hw => hw.1) Tryd.underlying30 rfl info_ld) (by assumption) ?_
        (try simp only [Act.put, List.getElem_toArray, List.getElem_cons_zero, List.getElem_cons_succ, List.setIfInBounds_toArray, List.set_cons_zero, List.set_cons_succ])
        refine wpAnyH_take (i := 2) (v := ?_) rfl (by kernel_rfl) (by kernel_rfl) (by kernel_rfl) (fun _ _ _ h => h) (Or.inl ⟨by rfl, ?_⟩) (by assumption) ?_
        rotate_left
        · intro w hSw; (try dsimp only at hSw); go_simp; (try with_reducible rfl)
        (try simp only [Act.put, List.getElem_toArray, List.getElem_cons_zero, List.getElem_cons_succ, List.setIfInBounds_toArray, List.set_cons_zero, List.set_cons_succ])
        refine wpAnyH_take (i := 3) (v := ?_) rfl (by kernel_rfl) (by kernel_rfl) (by kernel_rfl) (fun _ _ _ h => h) (Or.inl ⟨by rfl, ?_⟩) (by assumption) ?_
        rotate_left
        · intro w hSw; (try dsimp only at hSw); go_simp; (try with_reducible rfl)
        (try simp only [Act.put, List.getElem_toArray, List.getElem_cons_zero, List.getElem_cons_succ, List.setIfInBounds_toArray, List.set_cons_zero, List.set_cons_succ])
        refine wpAnyH_take (i := 4) (v := ?_) rfl (by kernel_rfl) (by kernel_rfl) (by kernel_rfl) (fun _ _ _ h => h) (Or.inl ⟨by rfl, ?_⟩) (by assumption) ?_
        rotate_left
        · intro w hSw; (try dsimp only at hSw); go_simp; (try with_reducible rfl)
        (try simp only [Act.put, List.getElem_toArray, List.getElem_cons_zero, List.getElem_cons_succ, List.setIfInBounds_toArray, List.set_cons_zero, List.set_cons_succ])
        refine wpAnyH_take (i := 5) (v := ?_) rfl (by kernel_rfl) (by kernel_rfl) (by kernel_rfl) (fun _ _ _ h => h) (Or.inl ⟨by rfl, ?_⟩) (by assumption) ?_
        rotate_left
        · intro w hSw; (try dsimp only at hSw); go_simp; (try with_reducible rfl)
        (try simp only [Act.put, List.getElem_toArray, List.getElem_cons_zero, List.getElem_cons_succ, List.setIfInBounds_toArray, List.set_cons_zero, List.set_cons_succ])
        refine wpAnyH_take (i := 6) (v := ?_) rfl (by kernel_rfl) (by kernel_rfl) (by kernel_rfl) (fun _ _ _ h => h) (Or.inl ⟨by rfl, ?_⟩) (by assumption) ?_
        rotate_left
        · intro w hSw; (try dsimp only at hSw); go_simp; (try with_reducible rfl)
        (try simp only [Act.put, List.getElem_toArray, List.getElem_cons_zero, List.getElem_cons_succ, List.setIfInBounds_toArray, List.set_cons_zero, List.set_cons_succ])
        refine wpAnyH_take (i := 7) (v := ?_) rfl (by kernel_rfl) (by kernel_rfl) (by kernel_rfl) (fun _ _ _ h => h) (Or.inl ⟨by rfl, ?_⟩) (by assumption) ?_
        rotate_left
        · intro w hSw; (try dsimp only at hSw); go_simp; (try with_reducible rfl)
        (try simp only [Act.put, List.getElem_toArray, List.getElem_cons_zero, List.getElem_cons_succ, List.setIfInBounds_toArray, List.set_cons_zero, List.set_cons_succ])
        refine wpAnyH_take (i := 8) (v := ?_) rfl (by kernel_rfl) (by kernel_rfl) (by kernel_rfl) (fun _ _ _ h => h) (Or.inl ⟨by rfl, ?_⟩) (by assumption) ?_
        rotate_left
        · intro w hSw; (try dsimp only at hSw); go_simp; (try with_reducible rfl)
        (try simp only [Act.put, List.getElem_toArray, List.getElem_cons_zero, List.getElem_cons_succ, List.setIfInBounds_toArray, List.set_cons_zero, List.set_cons_succ])
        refine wpAnyH_ready (rs := [9]) (by kernel_rfl) (by simp) ?_
        refine AllReadyH.cons rfl (fun K hK => ?_) AllReadyH.nil
        go_simp
        have hAj : Rw w2.drew ga n (P.at_ W) := HA3.out
        have hSj : Rw w2.drew gs n (fun i => P.sz i (W i) (P.at_ W i)) := HS3.out
        with_reducible refine (jump_any hAj hSj HAT.out _ k (goalF X n (X k).l) hlt (HGO.out k hlt hk2) hn).mono ?_
        rintro e w3 ⟨rfl, hb3⟩
        simp only [HW.out k hlt hk2, HFR.out k]
        refine hK.out _ _ ⟨range_below hHeld.1 hb3, keep_cell hb3 hHeld.2.1, keep_cell hb3 hHeld.2.2⟩ (fun hHeld2 => ?_)
        clear hK K
        (try simp only [Act.put, List.getElem_toArray, List.getElem_cons_zero, List.getElem_cons_succ, List.setIfInBounds_toArray, List.set_cons_zero, List.set_cons_succ])
        have ho3 := hide (owns_below (show w2.drew.ownsRow w1.heap.size 5 1 _ _ _ from ho2.out) hb3)
        have hLy := hide (show Code.Laid w3 from (show Code.Laid w2.drew from hLx.out.below ⟨rfl, rfl, rfl, Nat.le_refl _, fun _ _ => rfl⟩).below hb3)
        have hs3 : w1.heap.size ≤ w3.heap.size := Nat.le_trans (show w1.heap.size ≤ w2.drew.heap.size from hb2.size) hb3.size
        refine wpAnyH_ready (rs := [10]) (by kernel_rfl) (by simp) ?_
        refine AllReadyH.cons rfl (fun K hK => ?_) AllReadyH.nil
        go_simp
        with_reducible refine (with_any w1.heap.size _ (bytK P X W k) (brI (X k).c (P.far W k) (W k)) (HJ.out k hlt hk2) (brI_rg _ _ _) (by omega) _ ho3.out hs3 hLy.out).mono ?_
        rintro e w4 ⟨v4, rfl, hov, hb4, hk4⟩
        have hJ4 : w4.heap[J]? = w3.heap[J]? := hk4 J (by have := hb3.size; have : w2.drew.heap.size = w2.heap.size := rfl; omega) hJo
        refine hK.out _ _ ⟨range_belowN hHeld2.1 hb4 (by omega), (World.cell?_of_block (w := w3) (a := ⟨J, 12, none⟩) hJ4).trans hHeld2.2.1, (hb4.cell (p := ⟨gg, k, none⟩) (show gg < w1.heap.size by omega)).trans hHeld2.2.2⟩ (fun hHeld3 => ?_)
        clear hK K
        (try simp only [Act.put, List.getElem_toArray, List.getElem_cons_zero, List.getElem_cons_succ, List.setIfInBounds_toArray, List.set_cons_zero, List.set_cons_succ])
        refine wpAnyH_take (i := 11) (v := ?_) rfl (by kernel_rfl) (by kernel_rfl) (by kernel_rfl) (fun _ _ _ h => h) (Or.inl ⟨by rfl, ?_⟩) (by assumption) ?_
        rotate_left
        · intro w hSw; (try dsimp only at hSw); go_simp; (try with_reducible rfl)
        (try simp only [Act.put, List.getElem_toArray, List.getElem_cons_zero, List.getElem_cons_succ, List.setIfInBounds_toArray, List.set_cons_zero, List.set_cons_succ])
        refine wpAnyH_done (by kernel_rfl) ?_ _
        have HB4 := hide (((hb2.drew.trans (hb3.mono (show w1.heap.size ≤ w2.drew.heap.size from hb2.size))).trans hb4))
        rw [← HTT.out, ← HK.out] at hov
        replace hov := hide hov
        clear hb2 hb3 hb4 hk4 hJ4 ho3 hHeld hHeld2 hHeld3
        go_wp2_with fail
        go_roundw
        case rel => exact ⟨k + 1, by omega, by go_num, hov.out, HB4.out⟩
        case measure => simp [intOf]; omega
      · have hk0 : ¬ (X k).k = 1 := hk1
        by_cases hk4 : (X k).k = 4
        · rw [hk4] at c0
          have ht := right_to (HR.out k hlt) hk4
          have hms := mis_bd (P.at_ W k) (X k).t ht
          have HTT : Hid (bytT P X W k = repB (insB nopI) (misN (P.at_ W k) (X k).t / 2).toNat) := by unfold Hid; rw [HT.out, if_neg hk1, if_neg hk2, if_pos hk4]
          have HS3 := hide (HS.out.below (hb2.mono (Nat.le_refl _)))
          have hpd := HPD.out k hlt hk4
          have kS : (wr.alloc (.cells (itv (X k)) 38)).cell? ⟨gs, k, none⟩ = some (.int .i64 (misN (P.at_ W k) (X k).t)) := by rw [← hpd]; exact HS3.out.cell k hlt
          have hXB := hide ((hb2.block B (by omega)).trans HX.out)
          have kB2 : (wr.alloc (.cells (itv (X k)) 38)).cell? ⟨B, 2, none⟩ = some (.slice (some ⟨gs, 0, none⟩) n n) := by rw [cell_of_row _ _ _ _ _ _ hXB.out]; rfl
          have lB2 : B < (wr.alloc (.cells (itv (X k)) 38)).heap.size := lt_of_block hXB.out
          clear hpd
          go_wp2_with (first
            | (refine wpList_load_mid rfl 38 (.tmp 15) rfl b (off + k * 15) rfl (itv (X k)).toList _ (unhide hrow) Tryd.underlying38 rfl info_it ?_)
            | (refine wpList_store_rowTo rfl 38 (.tmp 9) (.tmp 16) rfl rfl _ (itv (X k)) rfl rfl 38 (itv zerT) (heap_alloc_last _ _) info_it rfl (one_it _) ?_; rw [World.setRow_alloc_new]))
          generalize wr.alloc (.cells (itv (X k)) 38) = w2 at *
          go_quiet ((go_at_call 26; exact Calls.quiet_of_same (Size_nop _)))
          have hmm : misN (P.at_ W k) (X k).t / 2 = (((misN (P.at_ W k) (X k).t / 2).toNat : Nat) : Int) := by omega
          have hm8 : (misN (P.at_ W k) (X k).t / 2).toNat ≤ 8 := by omega
          rw [hmm]
          have ho3 := hide (show (w2.drewN nq).ownsRow w1.heap.size 5 1 _ _ _ from ho2.out)
          have hb3 := hide (below_dn hb2 nq)
          clear hmm hms kS kB2 c0 c12 hz2 lB2 hrow hin hb2 ho2 hXB HS3 hoJ
          generalize (misN (P.at_ W k) (X k).t / 2).toNat = m at *
          generalize w2.drewN nq = w3 at *
          have hm' : (m : Int) ≤ 8 := by omega
          go_wp2_with fail
          go_loopw [7, 47] (fun s7 s47 wx => NRel (bytK P X W k) m w1 s7 s47 wx) (fun _ s47 _ => m - (intOf s47).toNat)
          case atStart => exact ⟨0, Nat.zero_le _, rfl, by simpa [repB] using ho3.out, hb3.out⟩
          case round =>
            obtain ⟨j, hj, rfl, hoj, hbj⟩ := hrel
            have hlj : (bytK P X W k ++ repB (insB nopI) j).length ≤ 1000000 := by rw [List.length_append, repB_len, nop_len]; omega
            by_cases hjm : j < m
            · have hjm' : (j : Int) < m := by omega
              have hLj := HL.out.below hbj
              have hsj := hbj.size
              go_wp2_with fail
              refine (with_any w1.heap.size _ (bytK P X W k ++ repB (insB nopI) j) nopI nop_right (by decide) hlj _ hoj hsj hLj).mono ?_
              rintro e w4 ⟨v4, rfl, hov, hb4, _⟩
              have HB4 := hide (hbj.trans hb4)
              rw [List.append_assoc] at hov
              replace hov := hide hov
              clear hb4 hbj hoj
              go_wp2_with fail
              go_roundw
              case rel => exact ⟨j + 1, by omega, by go_num, hov.out, HB4.out⟩
              case measure => simp [intOf]; omega
            · obtain rfl : j = m := by omega
              rw [← HTT.out, ← HK.out] at hoj
              replace hoj := hide hoj
              go_wp2_with fail
              go_roundw
              case rel => exact ⟨k + 1, by omega, by go_num, hoj.out, hbj⟩
              case measure => simp [intOf]; omega
        · have HTT : Hid (bytT P X W k = []) := by unfold Hid; rw [HT.out, if_neg hk1, if_neg hk2, if_neg hk4]
          go_wp2_with (first
            | (refine wpList_load_mid rfl 38 (.tmp 15) rfl b (off + k * 15) rfl (itv (X k)).toList _ (unhide hrow) Tryd.underlying38 rfl info_it ?_)
            | (refine wpList_store_rowTo rfl 38 (.tmp 9) (.tmp 16) rfl rfl _ (itv (X k)) rfl rfl 38 (itv zerT) (heap_alloc_last _ _) info_it rfl (one_it _) ?_; rw [World.setRow_alloc_new]))
          go_roundw
          case rel => exact ⟨k + 1, by omega, by go_num, by rw [HK.out, HTT.out, List.append_nil]; exact ho2.out, hb2⟩
          case measure => simp [intOf]; omega
    · obtain rfl : k = n := by omega
      go_wp2_with fail
      go_ret
      exact ⟨_, rfl, by rw [hBz]; exact own_low2 ho (by omega), by rw [hBz]; exact HB.out.trans (hb.mono (by omega))⟩
end Go.Proofs.YtegefbndpkbooaaDoor.Asm

/-! A program is laid: Lay of package asm. -/
set_option linter.unusedVariables false
set_option linter.unusedSimpArgs false
namespace Go.Proofs.YtegefbndpkbooaaDoor.Asm
open Go.RowKit Go.Proofs.YtegefbndpkbooaaDoor.Core Go.Proofs.YtegefbndpkbooaaDoor.Alu

theorem one_ld (q : Option Addr) (l c ga gs n : Nat) (r : Int) : (ldv (.slice q l c) ga gs n r).all (·.oneCell') = true := by simp [ldv, Value.oneCell']
theorem one_z : (#[.slice none 0 0, .slice none 0 0, .slice none 0 0, .int .i64 0] : Array Value).all (·.oneCell') = true := by simp [Value.oneCell']
theorem own_slc {w : World} {base : Nat} {e : TypeId} {v : Value} {n : Nat} {xs : List Value} (h : w.ownsRow base e 1 v n xs) : ∃ q l c, v = .slice q l c := by
  rcases h.2 with ⟨rfl, _⟩ | ⟨g, cap, cur, rfl, _⟩
  · exact ⟨_, _, _, rfl⟩
  · exact ⟨_, _, _, rfl⟩
theorem first_ok {n : Nat} {X : Nat → It} : SzOk n X ((prg n X).it 0) (firstR X n) := fun i hi h4 => by
  show firstR X n i = szT (X i) false 0
  unfold firstR firstN szT
  rw [if_pos hi]
  split
  · rfl
  · split
    · simp
    · first | rfl | rw [if_neg h4]
def rndAt (J : Nat) (w : World) : Int := match w.cell? ⟨J, 3, none⟩ with | some v => intOf v | none => 0
def msr (n J : Nat) (s7 : Value) (w : World) : Nat := match s7 with | .bool true => n + 2 - (rndAt J w).toNat | _ => 0
theorem rnd_is {w : World} {J ga gs n : Nat} {vb : Value} {r : Nat} (h : w.heap[J]? = some (.cells (ldv vb ga gs n (r : Int)) 30 (0, 0))) : (rndAt J w).toNat = r := by
  unfold rndAt
  rw [cell_of_row _ _ _ _ _ _ h]
  show ((r : Int)).toNat = r
  omega
theorem own_low {w : World} {a b : Nat} {e : TypeId} {v : Value} {n : Nat} {xs : List Value} (h : w.ownsRow a e 1 v n xs) (hb : b ≤ a) : w.ownsRow b e 1 v n xs :=
  ⟨h.1, h.2.imp id (fun ⟨g, cap, cur, e, hg, r⟩ => ⟨g, cap, cur, e, Nat.le_trans hb hg, r⟩)⟩
theorem owns_off {w w' : World} {base S : Nat} {e : TypeId} {size : Nat} {v : Value} {n : Nat} {xs : List Value} (h : w.ownsRow base e size v n xs) (ho : Off [S] w w') (hS : S < base) : w'.ownsRow base e size v n xs :=
  h.kept (row := some S) ⟨ho.os, ho.tape, ho.output, ho.size, fun i hi hn => ho.block i hi (by simp; intro e; exact hn (by rw [e]))⟩ (by
    cases hv : v.ownBlock with
    | none => exact .inl rfl
    | some g => right; intro e; have := (h.lt g hv).1; injection e with e; omega)
theorem szok_placed {n : Nat} {X : Nat → It} {W : Nat → Bool} : SzOk n X W (fun i => (prg n X).sz i (W i) ((prg n X).at_ W i)) := fun i hi h4 => by
  show (prg n X).sz i (W i) ((prg n X).at_ W i) = _
  rw [prg_sz hi]; exact szT_a h4 _ _ _
/-- What Lay begins with: rows of its own, and the box of what is laid. -/
structure Start (w0 w : World) (n : Nat) (X : Nat → It) (J ga gs : Nat) : Prop where
  box : w.heap[J]? = some (.cells (ldv (.slice none 0 0) ga gs n 0) 30 (0, 0))
  A : Rw w ga n (fun _ => 0)
  S : Rw w gs n (firstR X n)
  ne : ga ≠ gs
  lo : w0.heap.size ≤ ga ∧ w0.heap.size ≤ gs ∧ w0.heap.size ≤ J
  below : Below w0.heap.size w0 w

/-- What holds ahead of each round. -/
inductive LRel (n : Nat) (X : Nat → It) (w0 : World) (J ga gs : Nat) (s7 : Value) (wr : World) : Prop
  | on (r : Nat) (s : Nat → Int) (a : Nat → Int) (h7 : s7 = .bool true) (box : wr.heap[J]? = some (.cells (ldv (.slice none 0 0) ga gs n r) 30 (0, 0))) (hA : Rw wr ga n a) (hS : Rw wr gs n s) (ho : Off [J, ga, gs] w0 wr)
      (hs : SzOk n X ((prg n X).it r) s) (hb : ∀ t, t < r → (prg n X).at_ ((prg n X).it t) n ≤ 65536 ∧ ∃ i, i < n ∧ (prg n X).bad ((prg n X).it t) i = true) : LRel n X w0 J ga gs s7 wr
  | off (R : Nat) (h7 : s7 = .bool false) (box : wr.heap[J]? = some (.cells (ldv (.slice none 0 0) ga gs n ((R : Int) + 1)) 30 (0, 0))) (hA : Rw wr ga n ((prg n X).at_ ((prg n X).it R))) (hS : Rw wr gs n (fun i => (prg n X).sz i ((prg n X).it R i) ((prg n X).at_ ((prg n X).it R) i))) (ho : Off [J, ga, gs] w0 wr)
      (he : (prg n X).Ends R false) : LRel n X w0 J ga gs s7 wr

/-- What Lay answers. -/
inductive LayPost (n : Nat) (X : Nat → It) (w : World) (e : Ending) (w' : World) : Prop
  | form (h : allB n X = false) (he : e = .returned (.tuple #[.agg #[.slice none 0 0, .slice none 0 0, .slice none 0 0, .int .i64 0], .int .i64 10]))
  | label (h : allB n X = true) (h2 : ¬ (OnceM X n ∧ Found X n)) (he : e = .returned (.tuple #[.agg #[.slice none 0 0, .slice none 0 0, .slice none 0 0, .int .i64 0], .int .i64 80]))
  | big (h : allB n X = true) (h2 : OnceM X n ∧ Found X n) (R : Nat) (hE : (prg n X).Ends R true) (he : e = .returned (.tuple #[.agg #[.slice none 0 0, .slice none 0 0, .slice none 0 0, .int .i64 0], .int .i64 82]))
  | ok (h : allB n X = true) (h2 : OnceM X n ∧ Found X n) (R ga gs : Nat) (vb : Value) (hE : (prg n X).Ends R false) (he : e = .returned (.tuple #[.agg (ldv vb ga gs n ((R : Int) + 1)), .int .i64 0]))
      (hA : Rw w' ga n ((prg n X).at_ ((prg n X).it R))) (hS : Rw w' gs n (fun i => (prg n X).sz i ((prg n X).it R i) ((prg n X).at_ ((prg n X).it R) i))) (lo : w.heap.size ≤ ga ∧ w.heap.size ≤ gs)
      (hB : w'.ownsRow w.heap.size 5 1 vb (bytK (prg n X) X ((prg n X).it R) n).length (Code.u8s (bytK (prg n X) X ((prg n X).it R) n)))

set_option maxRecDepth 100000 in
set_option maxHeartbeats 4000000 in
theorem Lay_any (p : Option Addr) (n cap : Nat) (X : Nat → It) (w : World) (hI : Items w p n X) (hp : ∀ b off, p = some ⟨b, off, none⟩ → b < w.heap.size) (hn : n ≤ 10000) (hL : Code.Laid w) :
    Calls Tryd.prog 8 #[.slice p n cap] w fun e w' => Below w.heap.size w w' ∧ LayPost n X w e w' := by
  have hn' : (n : Int) ≤ 10000 := by omega
  have hb0 := (Below.refl w.heap.size w).alloc (Nat.le_refl _) (.cells #[.slice none 0 0, .slice none 0 0, .slice none 0 0, .int .i64 0] 30)
  have hX0 := heap_alloc_new w (.cells #[.slice none 0 0, .slice none 0 0, .slice none 0 0, .int .i64 0] 30)
  have hz0 : w.heap.size + 1 = (w.alloc (.cells #[.slice none 0 0, .slice none 0 0, .slice none 0 0, .int .i64 0] 30)).heap.size := by simp
  have hmk := make_int n (by omega)
  have hI0 := hI.below hb0
  have hL0 := hL.below hb0
  go_enter Tryd.func8, Tryd.ntmps8
  go_wp2_with fail
  generalize hB0 : w.heap.size = B0 at *
  generalize w.alloc (.cells #[.slice none 0 0, .slice none 0 0, .slice none 0 0, .int .i64 0] 30) = w0 at *
  refine (allRight_any p n cap X w0 hI0 hn hL0.two).mono ?_
  rintro e w1 ⟨rfl, hb1⟩
  have hX1 := (hb1.block B0 (by omega)).trans hX0
  have hB1 := hb0.trans (hb1.mono (by omega))
  have hI1 := hI0.below hb1
  have hL1 := hL0.below hb1
  have hs1 := hb1.size
  clear hb1 hX0 hI0 hL0
  cases hall : allB n X
  · replace hX1 := hide hX1
    have R1 := setRow_heap _ _ _ (#[.slice none 0 0, .slice none 0 0, .slice none 0 0, .int .i64 0] : Array Value) _ _ hX1.out
    replace R1 := hide R1
    have hfin := hide (below_setRow (B := B0) hB1 (Nat.le_refl B0) (#[.slice none 0 0, .slice none 0 0, .slice none 0 0, .int .i64 0] : Array Value))
    go_wp2_with (refine wpList_store_rowTo rfl 30 (.tmp 2) (.tmp 11) rfl rfl _ (#[.slice none 0 0, .slice none 0 0, .slice none 0 0, .int .i64 0]) rfl rfl 30 (#[.slice none 0 0, .slice none 0 0, .slice none 0 0, .int .i64 0]) (unhide hX1) info_ld rfl one_z ?_)
    refine bodyPost_ret (v := .tuple #[.agg #[.slice none 0 0, .slice none 0 0, .slice none 0 0, .int .i64 0], .int .i64 10]) (by have HR := run_loadVar_row (P := Tryd.prog) _ B0 30 30 (#[.slice none 0 0, .slice none 0 0, .slice none 0 0, .int .i64 0]) (0, 0) _ R1.out Tryd.underlying30 rfl info_ld; simp [results, Tryd.results8, asAddr, HR]) rfl ⟨by rw [hB0]; exact hfin.out, .form hall rfl⟩
  have hr : ∀ i, i < n → rightT (X i) = true := allB_iff.1 hall
  have hwl : ∀ i, i < n → (X i).k = 3 ∨ (X i).k = 2 → (Lit.int .i64 (X i).l).wf = true := fun i hi h => by
    rcases h with h | h
    · have := right_mark (hr i hi) h; exact WalkArith.wf_i64 (by omega)
    · have := right_jump (hr i hi) h; exact WalkArith.wf_i64 (by omega)
  go_wp2_with fail
  refine (goalsOf_any p n cap X w1 hI1 hn hwl).mono ?_
  rintro e w2 ⟨hb2, ⟨hO, hF, gg, rfl, hG, hgg⟩ | ⟨hno, rfl⟩⟩
  case inr =>
    have hX2 := hide ((hb2.block B0 (by omega)).trans hX1)
    have hB2 := hB1.trans (hb2.mono (by omega))
    have R1 := hide (setRow_heap _ _ _ (#[.slice none 0 0, .slice none 0 0, .slice none 0 0, .int .i64 0] : Array Value) _ _ hX2.out)
    have hfin := hide (below_setRow (B := B0) hB2 (Nat.le_refl B0) (#[.slice none 0 0, .slice none 0 0, .slice none 0 0, .int .i64 0] : Array Value))
    go_wp2_with (refine wpList_store_rowTo rfl 30 (.tmp 2) (.tmp 19) rfl rfl _ (#[.slice none 0 0, .slice none 0 0, .slice none 0 0, .int .i64 0]) rfl rfl 30 (#[.slice none 0 0, .slice none 0 0, .slice none 0 0, .int .i64 0]) (unhide hX2) info_ld rfl one_z ?_)
    refine bodyPost_ret (v := .tuple #[.agg #[.slice none 0 0, .slice none 0 0, .slice none 0 0, .int .i64 0], .int .i64 80]) (by have HR := run_loadVar_row (P := Tryd.prog) _ B0 30 30 (#[.slice none 0 0, .slice none 0 0, .slice none 0 0, .int .i64 0]) (0, 0) _ R1.out Tryd.underlying30 rfl info_ld; simp [results, Tryd.results8, asAddr, HR]) rfl ⟨by rw [hB0]; exact hfin.out, .label hall hno rfl⟩
  have hX2 := hide ((hb2.block B0 (by omega)).trans hX1)
  have hB2 := hide (hB1.trans (hb2.mono (by omega)))
  have hI2 := hide (hI1.below hb2)
  have hL2 := hide (hL1.below hb2)
  have hs2 := hb2.size
  have hG2 := hide hG
  have HR := hide hr
  have HOF := hide (And.intro hO hF)
  have HGO : Hid (∀ i, i < n → (X i).k = 2 → goalF X n (X i).l < n) := fun i hi h2 => by
    obtain ⟨j, hj, hm⟩ := hF i hi h2
    rw [goalF_is hO hj hm]; exact hj
  have lgg := hG.lt
  clear hb2 hX1 hB1 hI1 hL1 hG hr hwl hO hF
  go_upto_region 6 with fail
  go_cut [6] from 21 to 40 (fun s6 wx => ∃ J ga gs, s6 = .pointer (some ⟨J, 0, none⟩) ∧ Start w2 wx n X J ga gs)
  case first =>
    go_wp2_with fail
    refine wp_region_held_drew (S := fun _ => True) (by kernel_rfl) trivial (fun hHeld => ?_)
    have hbW : Below w2.heap.size w2 w2.drew := (Below.refl w2.heap.size w2).drew
    generalize w2.drew = wd at *
    refine wpAnyH_take (i := 0) (v := ?_) rfl (by kernel_rfl) (by kernel_rfl) (by kernel_rfl) (fun _ _ _ h => h) (Or.inl ⟨by rfl, ?_⟩) (by assumption) ?_
    rotate_left
    · intro w hSw; (try dsimp only at hSw); go_simp; (try with_reducible rfl)
    (try simp only [Act.put, List.getElem_toArray, List.getElem_cons_zero, List.setIfInBounds_toArray, List.set_cons_zero, List.set_cons_succ])
    refine wpAnyH_take (i := 1) (v := ?_) rfl (by kernel_rfl) (by kernel_rfl) (by kernel_rfl) (fun _ _ _ h => h) (Or.inl ⟨by rfl, ?_⟩) (by assumption) ?_
    rotate_left
    · intro w hSw; (try dsimp only at hSw); go_simp; (try with_reducible rfl)
    (try simp only [Act.put, List.getElem_toArray, List.getElem_cons_zero, List.getElem_cons_succ, List.setIfInBounds_toArray, List.set_cons_zero, List.set_cons_succ])
    refine wpAnyH_take (i := 3) (v := ?_) rfl (by kernel_rfl) (by kernel_rfl) (by kernel_rfl) (fun _ _ _ h => h) (Or.inl ⟨by rfl, ?_⟩) (by assumption) ?_
    rotate_left
    · intro w hSw; (try dsimp only at hSw); go_simp; (try with_reducible rfl)
    (try simp only [Act.put, List.getElem_toArray, List.getElem_cons_zero, List.getElem_cons_succ, List.setIfInBounds_toArray, List.set_cons_zero, List.set_cons_succ])
    refine wpAnyH_ready (rs := [2, 4, 6]) (by kernel_rfl) (by simp) ?_
    refine AllReadyH.cons rfl (fun K hK => ?k1) (AllReadyH.cons rfl (fun K hK => ?k2) (AllReadyH.cons rfl (fun K hK => ?k3) AllReadyH.nil))
    case' k1 =>
      go_simp
      have hq4 := (Below.refl wd.heap.size wd).alloc (Nat.le_refl _) (.cells (row n (fun _ => 0)) 3)
      have hM : Rw (wd.alloc (.cells (row n (fun _ => 0)) 3)) wd.heap.size n (fun _ => 0) := heap_alloc_new wd (.cells (row n (fun _ => 0)) 3)
      have lga : wd.heap.size < (wd.alloc (.cells (row n (fun _ => 0)) 3)).heap.size := by simp
      have loga := hbW.size
      replace hbW := hbW.trans (hq4.mono hbW.size)
      refine hK.out _ _ trivial (fun _ => ?_)
      clear hK K hq4
      generalize wd.alloc (.cells (row n (fun _ => 0)) 3) = wk4 at *
      generalize wd.heap.size = ga at *
      (try simp only [Act.put, List.getElem_toArray, List.getElem_cons_zero, List.getElem_cons_succ, List.setIfInBounds_toArray, List.set_cons_zero, List.set_cons_succ])
      refine wpAnyH_ready (rs := [4, 6]) (by kernel_rfl) (by simp) ?_
      refine AllReadyH.cons rfl (fun K hK => ?k5) (AllReadyH.cons rfl (fun K hK => ?k6) AllReadyH.nil)
      case' k5 =>
        go_simp
        with_reducible refine (firstSizes_any p n cap X wk4 (hI2.out.below hbW) hn).mono ?_
        rintro e wk7 ⟨rfl, hC, hq7⟩
        have lgs : wk4.heap.size < wk7.heap.size := hC.lt
        replace hM := hM.below hq7
        have logs := hbW.size
        replace hbW := hbW.trans (hq7.mono hbW.size)
        refine hK.out _ _ trivial (fun _ => ?_)
        clear hK K hq7
        generalize wk4.heap.size = gs at *
        (try simp only [Act.put, List.getElem_toArray, List.getElem_cons_zero, List.getElem_cons_succ, List.setIfInBounds_toArray, List.set_cons_zero, List.set_cons_succ])
        refine wpAnyH_take (i := 5) (v := .agg (ldv (.slice none 0 0) ga gs n 0)) rfl (by kernel_rfl) (by kernel_rfl) (by kernel_rfl) (fun _ _ _ h => h) (Or.inl ⟨by rfl, ?_⟩) (by assumption) ?_
        · intro w hSw; go_simp; (try simp [ldv])
        (try simp only [Act.put, List.getElem_toArray, List.getElem_cons_zero, List.getElem_cons_succ, List.setIfInBounds_toArray, List.set_cons_zero, List.set_cons_succ])
        refine wpAnyH_ready (rs := [6]) (by kernel_rfl) (by simp) ?_
        refine AllReadyH.cons rfl (fun K hK => ?k8) AllReadyH.nil
        case' k8 =>
          go_simp
          have hq9 := (Below.refl wk7.heap.size wk7).alloc (Nat.le_refl _) (.cells #[.slice none 0 0, .slice none 0 0, .slice none 0 0, .int .i64 0] 30)
          have hA := heap_alloc_new wk7 (.cells #[.slice none 0 0, .slice none 0 0, .slice none 0 0, .int .i64 0] 30)
          have lJ : wk7.heap.size < (wk7.alloc (.cells #[.slice none 0 0, .slice none 0 0, .slice none 0 0, .int .i64 0] 30)).heap.size := by simp
          replace hM := hM.below hq9
          replace hC := hC.below hq9
          have loJ := hbW.size
          replace hbW := hbW.trans (hq9.mono hbW.size)
          refine hK.out _ _ trivial (fun _ => ?_)
          clear hK K hq9
          generalize wk7.alloc (.cells #[.slice none 0 0, .slice none 0 0, .slice none 0 0, .int .i64 0] 30) = wk9 at *
          generalize wk7.heap.size = J at *
          (try simp only [Act.put, List.getElem_toArray, List.getElem_cons_zero, List.getElem_cons_succ, List.setIfInBounds_toArray, List.set_cons_zero, List.set_cons_succ])
          refine wpAnyH_ready (rs := [7]) (by kernel_rfl) (by simp) ?_
          refine AllReadyH.cons rfl (fun K hK => ?_) AllReadyH.nil
          refine wp_store_row 30 (.tmp 6) (.tmp 26) rfl J (ldv (.slice none 0 0) ga gs n 0) rfl rfl 30 _ hA info_ld rfl (one_ld _ _ _ _ _ _ _) ?_
          refine hK.out _ _ trivial (fun _ => ?_)
          clear hK K
          refine wpAnyH_done (by kernel_rfl) ?_ _
          have hfin : Start w2 (wk9.setRow J (ldv (.slice none 0 0) ga gs n 0)) n X J ga gs := ⟨setRow_heap _ _ _ _ _ _ hA, hM.off (setRow_offA _ _ _) (by simp; omega), hC.off (setRow_offA _ _ _) (by simp; omega), by omega, by omega, below_setRow hbW (by omega) _⟩
          go_wp2_with fail
          go_meet
          case rel => exact ⟨J, ga, gs, rfl, hfin⟩
      case' k6 =>
        go_simp
        have hq10 := (Below.refl wk4.heap.size wk4).alloc (Nat.le_refl _) (.cells #[.slice none 0 0, .slice none 0 0, .slice none 0 0, .int .i64 0] 30)
        have hA := heap_alloc_new wk4 (.cells #[.slice none 0 0, .slice none 0 0, .slice none 0 0, .int .i64 0] 30)
        have lJ : wk4.heap.size < (wk4.alloc (.cells #[.slice none 0 0, .slice none 0 0, .slice none 0 0, .int .i64 0] 30)).heap.size := by simp
        replace hM := hM.below hq10
        have loJ := hbW.size
        replace hbW := hbW.trans (hq10.mono hbW.size)
        refine hK.out _ _ trivial (fun _ => ?_)
        clear hK K hq10
        generalize wk4.alloc (.cells #[.slice none 0 0, .slice none 0 0, .slice none 0 0, .int .i64 0] 30) = wk10 at *
        generalize wk4.heap.size = J at *
        (try simp only [Act.put, List.getElem_toArray, List.getElem_cons_zero, List.getElem_cons_succ, List.setIfInBounds_toArray, List.set_cons_zero, List.set_cons_succ])
        refine wpAnyH_ready (rs := [4]) (by kernel_rfl) (by simp) ?_
        refine AllReadyH.cons rfl (fun K hK => ?k11) AllReadyH.nil
        case' k11 =>
          go_simp
          with_reducible refine (firstSizes_any p n cap X wk10 (hI2.out.below hbW) hn).mono ?_
          rintro e wk12 ⟨rfl, hC, hq12⟩
          have lgs : wk10.heap.size < wk12.heap.size := hC.lt
          replace hM := hM.below hq12
          replace hA := (hq12.block _ (lt_of_block hA)).trans hA
          have logs := hbW.size
          replace hbW := hbW.trans (hq12.mono hbW.size)
          refine hK.out _ _ trivial (fun _ => ?_)
          clear hK K hq12
          generalize wk10.heap.size = gs at *
          (try simp only [Act.put, List.getElem_toArray, List.getElem_cons_zero, List.getElem_cons_succ, List.setIfInBounds_toArray, List.set_cons_zero, List.set_cons_succ])
          refine wpAnyH_take (i := 5) (v := .agg (ldv (.slice none 0 0) ga gs n 0)) rfl (by kernel_rfl) (by kernel_rfl) (by kernel_rfl) (fun _ _ _ h => h) (Or.inl ⟨by rfl, ?_⟩) (by assumption) ?_
          · intro w hSw; go_simp; (try simp [ldv])
          (try simp only [Act.put, List.getElem_toArray, List.getElem_cons_zero, List.getElem_cons_succ, List.setIfInBounds_toArray, List.set_cons_zero, List.set_cons_succ])
          refine wpAnyH_ready (rs := [7]) (by kernel_rfl) (by simp) ?_
          refine AllReadyH.cons rfl (fun K hK => ?_) AllReadyH.nil
          refine wp_store_row 30 (.tmp 6) (.tmp 26) rfl J (ldv (.slice none 0 0) ga gs n 0) rfl rfl 30 _ hA info_ld rfl (one_ld _ _ _ _ _ _ _) ?_
          refine hK.out _ _ trivial (fun _ => ?_)
          clear hK K
          refine wpAnyH_done (by kernel_rfl) ?_ _
          have hfin : Start w2 (wk12.setRow J (ldv (.slice none 0 0) ga gs n 0)) n X J ga gs := ⟨setRow_heap _ _ _ _ _ _ hA, hM.off (setRow_offA _ _ _) (by simp; omega), hC.off (setRow_offA _ _ _) (by simp; omega), by omega, by omega, below_setRow hbW (by omega) _⟩
          go_wp2_with fail
          go_meet
          case rel => exact ⟨J, ga, gs, rfl, hfin⟩
    case' k2 =>
      go_simp
      with_reducible refine (firstSizes_any p n cap X wd (hI2.out.below hbW) hn).mono ?_
      rintro e wk13 ⟨rfl, hC, hq13⟩
      have lgs : wd.heap.size < wk13.heap.size := hC.lt
      have logs := hbW.size
      replace hbW := hbW.trans (hq13.mono hbW.size)
      refine hK.out _ _ trivial (fun _ => ?_)
      clear hK K hq13
      generalize wd.heap.size = gs at *
      (try simp only [Act.put, List.getElem_toArray, List.getElem_cons_zero, List.getElem_cons_succ, List.setIfInBounds_toArray, List.set_cons_zero, List.set_cons_succ])
      refine wpAnyH_ready (rs := [2, 6]) (by kernel_rfl) (by simp) ?_
      refine AllReadyH.cons rfl (fun K hK => ?k14) (AllReadyH.cons rfl (fun K hK => ?k15) AllReadyH.nil)
      case' k14 =>
        go_simp
        have hq16 := (Below.refl wk13.heap.size wk13).alloc (Nat.le_refl _) (.cells (row n (fun _ => 0)) 3)
        have hM : Rw (wk13.alloc (.cells (row n (fun _ => 0)) 3)) wk13.heap.size n (fun _ => 0) := heap_alloc_new wk13 (.cells (row n (fun _ => 0)) 3)
        have lga : wk13.heap.size < (wk13.alloc (.cells (row n (fun _ => 0)) 3)).heap.size := by simp
        replace hC := hC.below hq16
        have loga := hbW.size
        replace hbW := hbW.trans (hq16.mono hbW.size)
        refine hK.out _ _ trivial (fun _ => ?_)
        clear hK K hq16
        generalize wk13.alloc (.cells (row n (fun _ => 0)) 3) = wk16 at *
        generalize wk13.heap.size = ga at *
        (try simp only [Act.put, List.getElem_toArray, List.getElem_cons_zero, List.getElem_cons_succ, List.setIfInBounds_toArray, List.set_cons_zero, List.set_cons_succ])
        refine wpAnyH_take (i := 5) (v := .agg (ldv (.slice none 0 0) ga gs n 0)) rfl (by kernel_rfl) (by kernel_rfl) (by kernel_rfl) (fun _ _ _ h => h) (Or.inl ⟨by rfl, ?_⟩) (by assumption) ?_
        · intro w hSw; go_simp; (try simp [ldv])
        (try simp only [Act.put, List.getElem_toArray, List.getElem_cons_zero, List.getElem_cons_succ, List.setIfInBounds_toArray, List.set_cons_zero, List.set_cons_succ])
        refine wpAnyH_ready (rs := [6]) (by kernel_rfl) (by simp) ?_
        refine AllReadyH.cons rfl (fun K hK => ?k17) AllReadyH.nil
        case' k17 =>
          go_simp
          have hq18 := (Below.refl wk16.heap.size wk16).alloc (Nat.le_refl _) (.cells #[.slice none 0 0, .slice none 0 0, .slice none 0 0, .int .i64 0] 30)
          have hA := heap_alloc_new wk16 (.cells #[.slice none 0 0, .slice none 0 0, .slice none 0 0, .int .i64 0] 30)
          have lJ : wk16.heap.size < (wk16.alloc (.cells #[.slice none 0 0, .slice none 0 0, .slice none 0 0, .int .i64 0] 30)).heap.size := by simp
          replace hC := hC.below hq18
          replace hM := hM.below hq18
          have loJ := hbW.size
          replace hbW := hbW.trans (hq18.mono hbW.size)
          refine hK.out _ _ trivial (fun _ => ?_)
          clear hK K hq18
          generalize wk16.alloc (.cells #[.slice none 0 0, .slice none 0 0, .slice none 0 0, .int .i64 0] 30) = wk18 at *
          generalize wk16.heap.size = J at *
          (try simp only [Act.put, List.getElem_toArray, List.getElem_cons_zero, List.getElem_cons_succ, List.setIfInBounds_toArray, List.set_cons_zero, List.set_cons_succ])
          refine wpAnyH_ready (rs := [7]) (by kernel_rfl) (by simp) ?_
          refine AllReadyH.cons rfl (fun K hK => ?_) AllReadyH.nil
          refine wp_store_row 30 (.tmp 6) (.tmp 26) rfl J (ldv (.slice none 0 0) ga gs n 0) rfl rfl 30 _ hA info_ld rfl (one_ld _ _ _ _ _ _ _) ?_
          refine hK.out _ _ trivial (fun _ => ?_)
          clear hK K
          refine wpAnyH_done (by kernel_rfl) ?_ _
          have hfin : Start w2 (wk18.setRow J (ldv (.slice none 0 0) ga gs n 0)) n X J ga gs := ⟨setRow_heap _ _ _ _ _ _ hA, hM.off (setRow_offA _ _ _) (by simp; omega), hC.off (setRow_offA _ _ _) (by simp; omega), by omega, by omega, below_setRow hbW (by omega) _⟩
          go_wp2_with fail
          go_meet
          case rel => exact ⟨J, ga, gs, rfl, hfin⟩
      case' k15 =>
        go_simp
        have hq19 := (Below.refl wk13.heap.size wk13).alloc (Nat.le_refl _) (.cells #[.slice none 0 0, .slice none 0 0, .slice none 0 0, .int .i64 0] 30)
        have hA := heap_alloc_new wk13 (.cells #[.slice none 0 0, .slice none 0 0, .slice none 0 0, .int .i64 0] 30)
        have lJ : wk13.heap.size < (wk13.alloc (.cells #[.slice none 0 0, .slice none 0 0, .slice none 0 0, .int .i64 0] 30)).heap.size := by simp
        replace hC := hC.below hq19
        have loJ := hbW.size
        replace hbW := hbW.trans (hq19.mono hbW.size)
        refine hK.out _ _ trivial (fun _ => ?_)
        clear hK K hq19
        generalize wk13.alloc (.cells #[.slice none 0 0, .slice none 0 0, .slice none 0 0, .int .i64 0] 30) = wk19 at *
        generalize wk13.heap.size = J at *
        (try simp only [Act.put, List.getElem_toArray, List.getElem_cons_zero, List.getElem_cons_succ, List.setIfInBounds_toArray, List.set_cons_zero, List.set_cons_succ])
        refine wpAnyH_ready (rs := [2]) (by kernel_rfl) (by simp) ?_
        refine AllReadyH.cons rfl (fun K hK => ?k20) AllReadyH.nil
        case' k20 =>
          go_simp
          have hq21 := (Below.refl wk19.heap.size wk19).alloc (Nat.le_refl _) (.cells (row n (fun _ => 0)) 3)
          have hM : Rw (wk19.alloc (.cells (row n (fun _ => 0)) 3)) wk19.heap.size n (fun _ => 0) := heap_alloc_new wk19 (.cells (row n (fun _ => 0)) 3)
          have lga : wk19.heap.size < (wk19.alloc (.cells (row n (fun _ => 0)) 3)).heap.size := by simp
          replace hC := hC.below hq21
          replace hA := (hq21.block _ (lt_of_block hA)).trans hA
          have loga := hbW.size
          replace hbW := hbW.trans (hq21.mono hbW.size)
          refine hK.out _ _ trivial (fun _ => ?_)
          clear hK K hq21
          generalize wk19.alloc (.cells (row n (fun _ => 0)) 3) = wk21 at *
          generalize wk19.heap.size = ga at *
          (try simp only [Act.put, List.getElem_toArray, List.getElem_cons_zero, List.getElem_cons_succ, List.setIfInBounds_toArray, List.set_cons_zero, List.set_cons_succ])
          refine wpAnyH_take (i := 5) (v := .agg (ldv (.slice none 0 0) ga gs n 0)) rfl (by kernel_rfl) (by kernel_rfl) (by kernel_rfl) (fun _ _ _ h => h) (Or.inl ⟨by rfl, ?_⟩) (by assumption) ?_
          · intro w hSw; go_simp; (try simp [ldv])
          (try simp only [Act.put, List.getElem_toArray, List.getElem_cons_zero, List.getElem_cons_succ, List.setIfInBounds_toArray, List.set_cons_zero, List.set_cons_succ])
          refine wpAnyH_ready (rs := [7]) (by kernel_rfl) (by simp) ?_
          refine AllReadyH.cons rfl (fun K hK => ?_) AllReadyH.nil
          refine wp_store_row 30 (.tmp 6) (.tmp 26) rfl J (ldv (.slice none 0 0) ga gs n 0) rfl rfl 30 _ hA info_ld rfl (one_ld _ _ _ _ _ _ _) ?_
          refine hK.out _ _ trivial (fun _ => ?_)
          clear hK K
          refine wpAnyH_done (by kernel_rfl) ?_ _
          have hfin : Start w2 (wk21.setRow J (ldv (.slice none 0 0) ga gs n 0)) n X J ga gs := ⟨setRow_heap _ _ _ _ _ _ hA, hM.off (setRow_offA _ _ _) (by simp; omega), hC.off (setRow_offA _ _ _) (by simp; omega), by omega, by omega, below_setRow hbW (by omega) _⟩
          go_wp2_with fail
          go_meet
          case rel => exact ⟨J, ga, gs, rfl, hfin⟩
    case' k3 =>
      go_simp
      have hq22 := (Below.refl wd.heap.size wd).alloc (Nat.le_refl _) (.cells #[.slice none 0 0, .slice none 0 0, .slice none 0 0, .int .i64 0] 30)
      have hA := heap_alloc_new wd (.cells #[.slice none 0 0, .slice none 0 0, .slice none 0 0, .int .i64 0] 30)
      have lJ : wd.heap.size < (wd.alloc (.cells #[.slice none 0 0, .slice none 0 0, .slice none 0 0, .int .i64 0] 30)).heap.size := by simp
      have loJ := hbW.size
      replace hbW := hbW.trans (hq22.mono hbW.size)
      refine hK.out _ _ trivial (fun _ => ?_)
      clear hK K hq22
      generalize wd.alloc (.cells #[.slice none 0 0, .slice none 0 0, .slice none 0 0, .int .i64 0] 30) = wk22 at *
      generalize wd.heap.size = J at *
      (try simp only [Act.put, List.getElem_toArray, List.getElem_cons_zero, List.getElem_cons_succ, List.setIfInBounds_toArray, List.set_cons_zero, List.set_cons_succ])
      refine wpAnyH_ready (rs := [2, 4]) (by kernel_rfl) (by simp) ?_
      refine AllReadyH.cons rfl (fun K hK => ?k23) (AllReadyH.cons rfl (fun K hK => ?k24) AllReadyH.nil)
      case' k23 =>
        go_simp
        have hq25 := (Below.refl wk22.heap.size wk22).alloc (Nat.le_refl _) (.cells (row n (fun _ => 0)) 3)
        have hM : Rw (wk22.alloc (.cells (row n (fun _ => 0)) 3)) wk22.heap.size n (fun _ => 0) := heap_alloc_new wk22 (.cells (row n (fun _ => 0)) 3)
        have lga : wk22.heap.size < (wk22.alloc (.cells (row n (fun _ => 0)) 3)).heap.size := by simp
        replace hA := (hq25.block _ (lt_of_block hA)).trans hA
        have loga := hbW.size
        replace hbW := hbW.trans (hq25.mono hbW.size)
        refine hK.out _ _ trivial (fun _ => ?_)
        clear hK K hq25
        generalize wk22.alloc (.cells (row n (fun _ => 0)) 3) = wk25 at *
        generalize wk22.heap.size = ga at *
        (try simp only [Act.put, List.getElem_toArray, List.getElem_cons_zero, List.getElem_cons_succ, List.setIfInBounds_toArray, List.set_cons_zero, List.set_cons_succ])
        refine wpAnyH_ready (rs := [4]) (by kernel_rfl) (by simp) ?_
        refine AllReadyH.cons rfl (fun K hK => ?k26) AllReadyH.nil
        case' k26 =>
          go_simp
          with_reducible refine (firstSizes_any p n cap X wk25 (hI2.out.below hbW) hn).mono ?_
          rintro e wk27 ⟨rfl, hC, hq27⟩
          have lgs : wk25.heap.size < wk27.heap.size := hC.lt
          replace hA := (hq27.block _ (lt_of_block hA)).trans hA
          replace hM := hM.below hq27
          have logs := hbW.size
          replace hbW := hbW.trans (hq27.mono hbW.size)
          refine hK.out _ _ trivial (fun _ => ?_)
          clear hK K hq27
          generalize wk25.heap.size = gs at *
          (try simp only [Act.put, List.getElem_toArray, List.getElem_cons_zero, List.getElem_cons_succ, List.setIfInBounds_toArray, List.set_cons_zero, List.set_cons_succ])
          refine wpAnyH_take (i := 5) (v := .agg (ldv (.slice none 0 0) ga gs n 0)) rfl (by kernel_rfl) (by kernel_rfl) (by kernel_rfl) (fun _ _ _ h => h) (Or.inl ⟨by rfl, ?_⟩) (by assumption) ?_
          · intro w hSw; go_simp; (try simp [ldv])
          (try simp only [Act.put, List.getElem_toArray, List.getElem_cons_zero, List.getElem_cons_succ, List.setIfInBounds_toArray, List.set_cons_zero, List.set_cons_succ])
          refine wpAnyH_ready (rs := [7]) (by kernel_rfl) (by simp) ?_
          refine AllReadyH.cons rfl (fun K hK => ?_) AllReadyH.nil
          refine wp_store_row 30 (.tmp 6) (.tmp 26) rfl J (ldv (.slice none 0 0) ga gs n 0) rfl rfl 30 _ hA info_ld rfl (one_ld _ _ _ _ _ _ _) ?_
          refine hK.out _ _ trivial (fun _ => ?_)
          clear hK K
          refine wpAnyH_done (by kernel_rfl) ?_ _
          have hfin : Start w2 (wk27.setRow J (ldv (.slice none 0 0) ga gs n 0)) n X J ga gs := ⟨setRow_heap _ _ _ _ _ _ hA, hM.off (setRow_offA _ _ _) (by simp; omega), hC.off (setRow_offA _ _ _) (by simp; omega), by omega, by omega, below_setRow hbW (by omega) _⟩
          go_wp2_with fail
          go_meet
          case rel => exact ⟨J, ga, gs, rfl, hfin⟩
      case' k24 =>
        go_simp
        with_reducible refine (firstSizes_any p n cap X wk22 (hI2.out.below hbW) hn).mono ?_
        rintro e wk28 ⟨rfl, hC, hq28⟩
        have lgs : wk22.heap.size < wk28.heap.size := hC.lt
        replace hA := (hq28.block _ (lt_of_block hA)).trans hA
        have logs := hbW.size
        replace hbW := hbW.trans (hq28.mono hbW.size)
        refine hK.out _ _ trivial (fun _ => ?_)
        clear hK K hq28
        generalize wk22.heap.size = gs at *
        (try simp only [Act.put, List.getElem_toArray, List.getElem_cons_zero, List.getElem_cons_succ, List.setIfInBounds_toArray, List.set_cons_zero, List.set_cons_succ])
        refine wpAnyH_ready (rs := [2]) (by kernel_rfl) (by simp) ?_
        refine AllReadyH.cons rfl (fun K hK => ?k29) AllReadyH.nil
        case' k29 =>
          go_simp
          have hq30 := (Below.refl wk28.heap.size wk28).alloc (Nat.le_refl _) (.cells (row n (fun _ => 0)) 3)
          have hM : Rw (wk28.alloc (.cells (row n (fun _ => 0)) 3)) wk28.heap.size n (fun _ => 0) := heap_alloc_new wk28 (.cells (row n (fun _ => 0)) 3)
          have lga : wk28.heap.size < (wk28.alloc (.cells (row n (fun _ => 0)) 3)).heap.size := by simp
          replace hA := (hq30.block _ (lt_of_block hA)).trans hA
          replace hC := hC.below hq30
          have loga := hbW.size
          replace hbW := hbW.trans (hq30.mono hbW.size)
          refine hK.out _ _ trivial (fun _ => ?_)
          clear hK K hq30
          generalize wk28.alloc (.cells (row n (fun _ => 0)) 3) = wk30 at *
          generalize wk28.heap.size = ga at *
          (try simp only [Act.put, List.getElem_toArray, List.getElem_cons_zero, List.getElem_cons_succ, List.setIfInBounds_toArray, List.set_cons_zero, List.set_cons_succ])
          refine wpAnyH_take (i := 5) (v := .agg (ldv (.slice none 0 0) ga gs n 0)) rfl (by kernel_rfl) (by kernel_rfl) (by kernel_rfl) (fun _ _ _ h => h) (Or.inl ⟨by rfl, ?_⟩) (by assumption) ?_
          · intro w hSw; go_simp; (try simp [ldv])
          (try simp only [Act.put, List.getElem_toArray, List.getElem_cons_zero, List.getElem_cons_succ, List.setIfInBounds_toArray, List.set_cons_zero, List.set_cons_succ])
          refine wpAnyH_ready (rs := [7]) (by kernel_rfl) (by simp) ?_
          refine AllReadyH.cons rfl (fun K hK => ?_) AllReadyH.nil
          refine wp_store_row 30 (.tmp 6) (.tmp 26) rfl J (ldv (.slice none 0 0) ga gs n 0) rfl rfl 30 _ hA info_ld rfl (one_ld _ _ _ _ _ _ _) ?_
          refine hK.out _ _ trivial (fun _ => ?_)
          clear hK K
          refine wpAnyH_done (by kernel_rfl) ?_ _
          have hfin : Start w2 (wk30.setRow J (ldv (.slice none 0 0) ga gs n 0)) n X J ga gs := ⟨setRow_heap _ _ _ _ _ _ hA, hM.off (setRow_offA _ _ _) (by simp; omega), hC.off (setRow_offA _ _ _) (by simp; omega), by omega, by omega, below_setRow hbW (by omega) _⟩
          go_wp2_with fail
          go_meet
          case rel => exact ⟨J, ga, gs, rfl, hfin⟩
  case rest =>
    obtain ⟨J, ga, gs, rfl, hst⟩ := hcut
    have hlo := hst.lo
    have hne := hst.ne
    have hbx := hst.below.size
    have HX3 := hide ((hst.below.block B0 (by omega)).trans hX2.out)
    have HI3 := hide (hI2.out.below hst.below)
    have HG3 := hide (hG2.out.below hst.below)
    have HB3 := hide (hB2.out.trans (hst.below.mono (by omega)))
    have hJA : J ≠ ga ∧ J ≠ gs := ⟨fun e => by have y := hst.A; unfold Rw at y; rw [← e, hst.box] at y; simp at y, fun e => by have y := hst.S; unfold Rw at y; rw [← e, hst.box] at y; simp at y⟩
    have hcl : Clear p [J, ga, gs] := fun b off hq => by
      have := hp b off hq
      simp; omega
    have HST := hide hst
    have HCL := hide hcl
    clear hst hI2 hG2 hcl hX2
    go_wp2_with fail
    go_loopw [7] (fun s7 wr => LRel n X wc J ga gs s7 wr) (fun s7 wr => msr n J s7 wr)
    case atStart => exact .on 0 _ _ rfl HST.out.box HST.out.A HST.out.S (Off.refl _ _) first_ok (fun t ht => by omega)
    case round =>
      rcases hrel with ⟨r, s, a, rfl, box, hA, hS, ho, hs, hb⟩ | ⟨R, rfl, box, hA, hS, ho, he⟩
      · have hrn : r ≤ n := Nat.le_trans (Prg.rounds_cnt (P := prg n X) fun t ht => (hb t ht).2) (Prg.cnt_le _ (prg n X).n)
        have hm0 : Hid (msr n J (.bool true) wr = n + 2 - r) := by show n + 2 - (rndAt J wr).toNat = _; rw [rnd_is box]
        have hrb : (r : Int) ≤ 10000 := by omega
        have hI4 := HI3.out.off ho HCL.out
        have hG4 := hide (HG3.out.off ho (by simp; omega))
        have HBX := hide box
        have HHB := hide hb
        have HHS := hide hs
        have hX4 := hide ((ho.block B0 (lt_of_block HX3.out) (by simp; omega)).trans HX3.out)
        have HO4 := hide ho
        have jl := lt_of_block box
        clear hb hs box ho
        go_wp2_with (refine wpList_load_row rfl 30 (.tmp 6) rfl J rfl 30 _ (0, 0) _ (unhide HBX) Tryd.underlying30 rfl info_ld ?_)
        refine (place_any (W := (prg n X).it r) hI4 HR.out hA hS hne (fun b off hq => by have := HCL.out b off hq; simp at this ⊢; omega) HHS.out hn).mono ?_
        rintro e w5 ⟨ho5, ⟨rfl, hle, hA5, hS5⟩ | ⟨rfl, hbig⟩⟩
        · have hBX5 := (ho5.block J jl (by simp; omega)).trans HBX.out
          have hX5 := hide ((ho5.block B0 (lt_of_block hX4.out) (by simp; omega)).trans hX4.out)
          have hI5 := hI4.off ho5 (fun b off hq => by have := HCL.out b off hq; simp at this ⊢; omega)
          have hG5 := hide (hG4.out.off ho5 (by simp; omega))
          have HO5 := hide (HO4.out.trans (ho5.mono (T := [J, ga, gs]) (by intro k hk; simp at hk ⊢; omega)))
          have c3 : w5.cell? ⟨J, 3, none⟩ = some (.int .i64 (r : Int)) := by rw [cell_of_row _ _ _ _ _ _ hBX5]; rfl
          have f3 : w5.frozen? ⟨J, 3, none⟩ = false := free_block hBX5 3
          have HBX6 : Hid ((w5.setCell ⟨J, 3, none⟩ (.int .i64 ((r : Int) + 1))).heap[J]? = some (.cells (ldv (.slice none 0 0) ga gs n ((r : Int) + 1)) 30 (0, 0))) := set_block 3 _ hBX5
          have hO6 : Off [J, ga, gs] w5 (w5.setCell ⟨J, 3, none⟩ (.int .i64 ((r : Int) + 1))) := (Off.refl _ _).set (by simp) _
          have HO6 := hide (HO5.out.trans hO6)
          have HX6 := hide ((hO6.block B0 (lt_of_block hX5.out) (by simp; omega)).trans hX5.out)
          have HI6 := hide (hI5.off hO6 HCL.out)
          have HG6 := hide (hG5.out.off hO6 (by simp; omega))
          have HA6 := hide (Rw.other hA5 (p := ⟨J, 3, none⟩) (.int .i64 ((r : Int) + 1)) hJA.1)
          have HS6 := hide (Rw.other hS5 (p := ⟨J, 3, none⟩) (.int .i64 ((r : Int) + 1)) hJA.2)
          have HLE := hide hle
          clear hA hS hA5 hS5 hI4 hI5 ho5 hBX5 hO6 hle hX4 hG4 HBX HO4 HO5 hX5 hG5
          go_upto_region 9 with fail
          (try simp only [Act.put, List.getElem_toArray, List.getElem_cons_zero, List.getElem_cons_succ, List.setIfInBounds_toArray, List.set_cons_zero, List.set_cons_succ])
          have hz6 : (w5.setCell ⟨J, 3, none⟩ (.int .i64 ((r : Int) + 1))).heap.size = w5.heap.size := by simp [World.setCell]
          generalize w5.setCell ⟨J, 3, none⟩ (.int .i64 ((r : Int) + 1)) = w6 at *
          clear c3 f3
          have jl6 := lt_of_block HBX6.out
          have HTB : Hid (∀ w', Off [gs] w6 w' → Inst.Laid w') := fun w' ho' => (hL2.out.below (HST.out.below.trans (((HO6.out.trans (ho'.mono (T := [J, ga, gs]) (by intro k hk; simp at hk ⊢; omega))).below (n := w2.heap.size) (by omega) (by intro k hk; simp at hk; omega))))).two
          go_wp2_with (refine wpList_load_row rfl 30 (.tmp 6) rfl J rfl 30 _ (0, 0) _ (unhide HBX6) Tryd.underlying30 rfl info_ld ?_)
          refine (widen_any (W := (prg n X).it r) HI6.out HR.out HA6.out HS6.out HG6.out hne (by omega) (fun b off hq => by have := HCL.out b off hq; simp at this ⊢; omega) szok_placed hn HLE.out HGO.out (HTB.out w6 (Off.refl _ _)) HTB.out).mono ?_
          rintro e w7 ⟨ho7, rfl, hS7⟩
          have HBX7 := hide ((ho7.block J jl6 (by simp; omega)).trans HBX6.out)
          have HO7 := hide (HO6.out.trans (ho7.mono (T := [J, ga, gs]) (by intro k hk; simp at hk ⊢; omega)))
          have HA7 := hide (HA6.out.off ho7 (by simpa using hne))
          have HS7 := hide hS7
          clear ho7 hS7 HBX6 HO6 HA6 HS6 HI6 HG6 HX6
          cases hbn : badN (prg n X) ((prg n X).it r) n
          · have hnb : ∀ i, i < n → (prg n X).bad ((prg n X).it r) i = false := fun i hi => by
              cases e : (prg n X).bad ((prg n X).it r) i
              · rfl
              · rw [badN_iff.2 ⟨i, hi, e⟩] at hbn; cases hbn
            have HNB := hide hnb
            go_wp2_with fail
            go_roundw
            case rel => exact .off r rfl HBX7.out HA7.out (HS7.out.same fun i hi => if_neg (fun q => by rw [HNB.out i hi] at q; exact absurd q.2 (by simp))) HO7.out ⟨HHB.out, by simp only [Bool.false_eq_true, if_false]; exact ⟨HLE.out, HNB.out⟩⟩
            case measure =>
              show (0 : Nat) < msr n J (.bool true) wr
              rw [hm0.out]; omega
          · go_wp2_with fail
            go_roundw
            case rel => exact .on (r + 1) _ _ rfl (by rw [HBX7.out]; push_cast; rfl) HA7.out HS7.out HO7.out (wdR_ok szok_placed) (fun t ht => by
              by_cases e : t = r
              · subst e; exact ⟨HLE.out, badN_iff.1 hbn⟩
              · exact HHB.out t (by omega))
            case measure =>
              have hr1 : r + 1 ≤ n := Nat.le_trans (Prg.rounds_cnt (P := prg n X) (R := r + 1) fun t ht => by
                by_cases e : t = r
                · subst e; exact badN_iff.1 hbn
                · exact (HHB.out t (by omega)).2) (Prg.cnt_le _ (prg n X).n)
              have hm1 : (rndAt J w7).toNat = r + 1 := rnd_is (r := r + 1) (by rw [HBX7.out]; push_cast; rfl)
              show n + 2 - (rndAt J w7).toNat < msr n J (.bool true) wr
              rw [hm0.out, hm1]; omega
        · have hBX5 := hide ((ho5.block B0 (lt_of_block hX4.out) (by simp; omega)).trans hX4.out)
          have R1 := hide (setRow_heap _ _ _ (#[.slice none 0 0, .slice none 0 0, .slice none 0 0, .int .i64 0] : Array Value) _ _ hBX5.out)
          have HB5 := HB3.out.trans ((HO4.out.trans (ho5.mono (T := [J, ga, gs]) (by intro k hk; simp at hk ⊢; omega))).below (n := B0) (by omega) (by intro k hk; simp at hk; omega))
          have hfin := hide (below_setRow (B := B0) HB5 (Nat.le_refl B0) (#[.slice none 0 0, .slice none 0 0, .slice none 0 0, .int .i64 0] : Array Value))
          have hEnd : Hid ((prg n X).Ends r true) := ⟨HHB.out, by simp only [if_true]; exact hbig⟩
          clear hA hS hI4 ho5 hG4 HBX HB5
          go_wp2_with (refine wpList_store_rowTo rfl 30 (.tmp 2) (.tmp 36) rfl rfl _ (#[.slice none 0 0, .slice none 0 0, .slice none 0 0, .int .i64 0]) rfl rfl 30 (#[.slice none 0 0, .slice none 0 0, .slice none 0 0, .int .i64 0]) (unhide hBX5) info_ld rfl one_z ?_)
          refine bodyPost_ret (v := .tuple #[.agg #[.slice none 0 0, .slice none 0 0, .slice none 0 0, .int .i64 0], .int .i64 82]) (by have HR := run_loadVar_row (P := Tryd.prog) _ B0 30 30 (#[.slice none 0 0, .slice none 0 0, .slice none 0 0, .int .i64 0]) (0, 0) _ R1.out Tryd.underlying30 rfl info_ld; simp [results, Tryd.results8, asAddr, HR]) rfl ⟨by rw [hB0]; exact hfin.out, .big hall HOF.out r hEnd.out rfl⟩
      · have hI4 := HI3.out.off ho HCL.out
        have hG4 := HG3.out.off ho (by simp; omega)
        have HBX := hide box
        have hL4 := hL2.out.below (HST.out.below.trans (ho.below (n := w2.heap.size) (by omega) (by intro k hk; simp at hk; omega)))
        have HX4 := hide ((ho.block B0 (lt_of_block HX3.out) (by simp; omega)).trans HX3.out)
        have HB4 := hide (HB3.out.trans (ho.below (n := B0) (by omega) (by intro k hk; simp at hk; omega)))
        have hle : (prg n X).at_ ((prg n X).it R) n ≤ 65536 ∧ ∀ i, i < n → (prg n X).bad ((prg n X).it R) i = false := by have l := he.last; simp only [Bool.false_eq_true, if_false] at l; exact l
        have jl := lt_of_block box
        have wl := ho.size
        clear box ho
        go_wp2_with (refine wpList_load_row rfl 30 (.tmp 6) rfl J rfl 30 _ (0, 0) _ (unhide HBX) Tryd.underlying30 rfl info_ld ?_)
        refine (bytes_any (W := (prg n X).it R) hI4 HR.out hA hS hG4 hn hle.1 HGO.out hle.2 hL4).mono ?_
        rintro e w8 ⟨v, rfl, hB8, hb8⟩
        obtain ⟨q8, l8, c8, rfl⟩ := own_slc hB8
        have hBX8 := (hb8.block J jl).trans HBX.out
        have hX8 := (hb8.block B0 (by omega)).trans HX4.out
        have c0 : w8.cell? ⟨J, 0, none⟩ = some (.slice none 0 0) := by rw [cell_of_row _ _ _ _ _ _ hBX8]; rfl
        have f0 : w8.frozen? ⟨J, 0, none⟩ = false := free_block hBX8 0
        have HBX9 : Hid ((w8.setCell ⟨J, 0, none⟩ (.slice q8 l8 c8)).heap[J]? = some (.cells (ldv (.slice q8 l8 c8) ga gs n ((R : Int) + 1)) 30 (0, 0))) := set_block 0 _ hBX8
        have hO9 : Off [J] w8 (w8.setCell ⟨J, 0, none⟩ (.slice q8 l8 c8)) := (Off.refl _ _).set (by simp) _
        have HX9 := hide ((hO9.block B0 (lt_of_block hX8) (by simp; omega)).trans hX8)
        have HA9 := hide ((hA.below hb8).off hO9 (by simpa using fun e => hJA.1 e.symm))
        have HS9 := hide ((hS.below hb8).off hO9 (by simpa using fun e => hJA.2 e.symm))
        have HB9 := hide (owns_off hB8 hO9 jl)
        have HW9 := hide ((HB4.out.trans (hb8.mono (by omega))).trans (hO9.below (n := B0) (by have := hb8.size; omega) (by intro k hk; simp at hk; omega)))
        have hs8 := hb8.size
        clear hA hS hI4 hG4 hB8 hb8 hBX8 hX8 HBX HX4 HB4 hL4
        go_upto_region 14 with fail
        (try simp only [Act.put, List.getElem_toArray, List.getElem_cons_zero, List.getElem_cons_succ, List.setIfInBounds_toArray, List.set_cons_zero, List.set_cons_succ])
        have hz9 : (w8.setCell ⟨J, 0, none⟩ (.slice q8 l8 c8)).heap.size = w8.heap.size := by simp [World.setCell]
        generalize w8.setCell ⟨J, 0, none⟩ (.slice q8 l8 c8) = w9 at *
        clear c0 f0 hO9
        have R9 := hide (setRow_heap _ _ _ (ldv (.slice q8 l8 c8) ga gs n ((R : Int) + 1)) _ _ HX9.out)
        have O9 := setRow_offA w9 B0 (ldv (.slice q8 l8 c8) ga gs n ((R : Int) + 1))
        have HA10 := hide (HA9.out.off O9 (by simp; omega))
        have HS10 := hide (HS9.out.off O9 (by simp; omega))
        have HB10 := hide (own_low (owns_off HB9.out O9 (by omega)) (show B0 ≤ wr.heap.size by omega))
        have HW10 := hide (below_setRow (B := B0) HW9.out (Nat.le_refl B0) (ldv (.slice q8 l8 c8) ga gs n ((R : Int) + 1)))
        clear O9
        go_wp2_with (first
          | (refine wpList_load_row rfl 30 (.tmp 6) rfl J rfl 30 _ (0, 0) _ (unhide HBX9) Tryd.underlying30 rfl info_ld ?_)
          | (refine wpList_store_rowTo rfl 30 (.tmp 2) (.tmp 46) rfl rfl _ (ldv (.slice q8 l8 c8) ga gs n ((R : Int) + 1)) rfl rfl 30 (#[.slice none 0 0, .slice none 0 0, .slice none 0 0, .int .i64 0]) (unhide HX9) info_ld rfl (one_ld _ _ _ _ _ _ _) ?_))
        refine bodyPost_ret (v := .tuple #[.agg (ldv (.slice q8 l8 c8) ga gs n ((R : Int) + 1)), .int .i64 0]) (by have HR := run_loadVar_row (P := Tryd.prog) _ B0 30 30 (ldv (.slice q8 l8 c8) ga gs n ((R : Int) + 1)) (0, 0) _ R9.out Tryd.underlying30 rfl info_ld; simp [results, Tryd.results8, asAddr, HR]) rfl ⟨by rw [hB0]; exact HW10.out, .ok hall HOF.out R ga gs (.slice q8 l8 c8) he rfl HA10.out HS10.out (by omega) (by rw [hB0]; exact HB10.out)⟩
end Go.Proofs.YtegefbndpkbooaaDoor.Asm

/-! The document's example of layer 8 is true. -/
set_option linter.unusedVariables false
set_option linter.unusedSimpArgs false
namespace Go.Proofs.YtegefbndpkbooaaDoor.Asm
open Go.RowKit Go.Proofs.YtegefbndpkbooaaDoor.Core Go.Proofs.YtegefbndpkbooaaDoor.Alu

def anX (k : Nat) : It := if k = 0 then hereI 1 else if k = 1 then doI nopI else goI (-1) 1
theorem an_all : allB 3 anX = true := by decide +kernel
theorem an_kind {k : Nat} (h : (anX k).k = 3) : k = 0 := by
  unfold anX at h
  by_cases h0 : k = 0
  · exact h0
  · rw [if_neg h0] at h
    split at h <;> exact absurd h (by decide)
theorem an_once : OnceM anX 3 := fun i j hij hj l hi hm => by
  have := an_kind hm.1
  omega
theorem an_found : Found anX 3 := fun i hi h2 => by
  rcases (show i = 0 ∨ i = 1 ∨ i = 2 by omega) with rfl | rfl | rfl
  · exact absurd h2 (by decide)
  · exact absurd h2 (by decide)
  · exact ⟨0, by omega, rfl, rfl⟩
theorem an_ends : (prg 3 anX).Ends 0 false where
  on := fun r h => by omega
  last := by
    simp only [Bool.false_eq_true, if_false]
    refine ⟨by decide +kernel, fun i hi => ?_⟩
    have hi' : i < 3 := hi
    rcases (show i = 0 ∨ i = 1 ∨ i = 2 by omega) with rfl | rfl | rfl <;> decide +kernel
def anJ : Ins := brI (-1) (-6) false
theorem an_bytes : bytK (prg 3 anX) anX ((prg 3 anX).it 0) 3 = insB nopI ++ insB anJ := by decide +kernel
theorem an_len : (insB nopI ++ insB anJ).length = 4 := by decide +kernel
theorem an_len2 : (insB nopI).length = 2 ∧ (insB anJ).length = 2 := by decide +kernel
theorem anJ_right : anJ.right = true := by decide +kernel
theorem an_items {w : World} {b : Nat} (h : w.heap[b]? = some (.cells ((itv (hereI 1)).toList ++ (itv (doI nopI)).toList ++ (itv (goI (-1) 1)).toList).toArray 38 (0, 0))) : Items w (some ⟨b, 0, none⟩) 3 anX := by
  refine ⟨.inr ⟨b, 0, rfl, lt_of_block h, fun i hi j v hv => ?_⟩, fun i hi => ?_⟩
  · have hj : j < 15 := by have := (List.getElem?_eq_some_iff.1 hv).1; simpa [itv] using this
    rw [cell_of_row w b _ _ _ _ h, List.getElem?_toArray]
    rcases (show i = 0 ∨ i = 1 ∨ i = 2 by omega) with rfl | rfl | rfl
    · rw [show 0 + 0 * 15 + j = j by omega, List.append_assoc, List.getElem?_append_left (show j < (itv (hereI 1)).toList.length from hj)]
      exact hv
    · rw [show 0 + 1 * 15 + j = 15 + j by omega, List.append_assoc, List.getElem?_append_right (show (itv (hereI 1)).toList.length ≤ 15 + j from by show 15 ≤ 15 + j; omega), show 15 + j - (itv (hereI 1)).toList.length = j from by show 15 + j - 15 = j; omega, List.getElem?_append_left (show j < (itv (doI nopI)).toList.length from hj)]
      exact hv
    · rw [show 0 + 2 * 15 + j = 30 + j by omega, List.getElem?_append_right (show ((itv (hereI 1)).toList ++ (itv (doI nopI)).toList).length ≤ 30 + j from by show 30 ≤ 30 + j; omega), show 30 + j - ((itv (hereI 1)).toList ++ (itv (doI nopI)).toList).length = j from by show 30 + j - 30 = j; omega]
      exact hv
  · rcases (show i = 0 ∨ i = 1 ∨ i = 2 by omega) with rfl | rfl | rfl <;> exact ⟨by decide, by decide⟩

theorem anAt (base g cap : Nat) (w : World) (ho : w.ownsRow base 5 1 (.slice (some ⟨g, 0, none⟩) 4 cap) 4 (Code.u8s (insB nopI ++ insB anJ))) (hL : Code.Laid w) :
    Calls Tryd.prog 9 #[.slice (some ⟨g, 0, none⟩) 4 cap, .int .i64 2] w fun e w' => e = .returned (.tuple #[.agg (inv anJ), .int .i64 0]) ∧ Below w.heap.size w w' := by
  have h4 : 2 + (insB anJ).length = 4 := by rw [an_len2.2]
  rw [u8s_app] at ho
  exact Code.At_own anJ.f anJ.rd anJ.rn anJ.rm anJ.ra anJ.im anJ.kd anJ.bs anJ.st anJ.cd anJ.rg anJ_right (by decide) (by decide) base (.slice (some ⟨g, 0, none⟩) 4 cap) 2 (Code.u8s (insB nopI)) (by simp [Code.u8s, an_len2.1]) w hL (by rw [show 2 + (Code.byt (Code.wd anJ.f anJ.rd anJ.rn anJ.rm anJ.ra anJ.im anJ.kd anJ.bs anJ.st anJ.cd anJ.rg) (Inst.wdF anJ.f)).length = 4 from h4]; exact ho)
theorem anEq (w : World) : (binOp .eql 36 (.agg (inv anJ)) (.agg #[.int .i64 47, .int .i64 0, .int .i64 0, .int .i64 0, .int .i64 0, .int .i64 (-6), .int .i64 0, .int .i64 0, .int .i64 0, .int .i64 0, .int .i64 0])).run Tryd.prog w = .ok (.bool true) w :=
  (Inst.eql_inst w anJ.f anJ.rd anJ.rn anJ.rm anJ.ra anJ.im anJ.kd anJ.bs anJ.st anJ.cd anJ.rg 47 0 0 0 0 (-6) 0 0 0 0 0).trans (by rw [show Inst.same anJ.f anJ.rd anJ.rn anJ.rm anJ.ra anJ.im anJ.kd anJ.bs anJ.st anJ.cd anJ.rg 47 0 0 0 0 (-6) 0 0 0 0 0 = true by decide +kernel])
set_option maxRecDepth 100000 in
set_option maxHeartbeats 4000000 in
theorem anchor8_any (w : World) (hL : Code.Laid w) :
    Calls Tryd.prog 6 #[] w fun e w' => e = .returned (.bool true) ∧ Below w.heap.size w w' := by
  go_enter Tryd.func6, Tryd.ntmps6
  go_wp2_with fail
  refine (Here_any 1 _).mono ?_
  rintro e w1 ⟨rfl, hb1⟩
  dsimp only [itv, hereI, zerI]
  go_wp2_with fail
  refine (Do_any nopI _).mono ?_
  rintro e w2 ⟨rfl, hb2⟩
  dsimp only [itv, doI, nopI]
  have hb2' := hb1.trans (hb2.mono hb1.size)
  go_wp2_with fail
  refine (Go_any (-1) 1 _).mono ?_
  rintro e w3 ⟨rfl, hb3⟩
  dsimp only [itv, goI, zerI]
  have hb3' := hb2'.trans (hb3.mono hb2'.size)
  clear hb1 hb2 hb3 hb2'
  go_wp2_with fail
  have hA := heap_alloc_new w3 (.cells ((itv (hereI 1)).toList ++ (itv (doI nopI)).toList ++ (itv (goI (-1) 1)).toList).toArray 38)
  have hI := an_items hA
  have hz3 : w3.heap.size < (w3.alloc (.cells ((itv (hereI 1)).toList ++ (itv (doI nopI)).toList ++ (itv (goI (-1) 1)).toList).toArray 38)).heap.size := by simp
  have hB4 := hb3'.alloc hb3'.size (.cells ((itv (hereI 1)).toList ++ (itv (doI nopI)).toList ++ (itv (goI (-1) 1)).toList).toArray 38)
  refine (Lay_any (some ⟨w3.heap.size, 0, none⟩) 3 3 anX _ hI (fun b off hq => by injection hq with hq; injection hq with hq; rw [← hq]; exact hz3) (by decide) (hL.below hB4)).mono ?_
  rintro e w4 ⟨hb4, hp⟩
  have hB5 := hB4.trans (hb4.mono hB4.size)
  clear hA hI hB4 hb3' hz3 hb4
  rcases hp with ⟨h, _⟩ | ⟨_, h2, _⟩ | ⟨_, _, R, hE, _⟩ | ⟨_, _, R, ga, gs, vb, hE, rfl, hA4, hS4, hlo, hown⟩
  · rw [an_all] at h; cases h
  · exact absurd ⟨an_once, an_found⟩ h2
  · exact absurd (Prg.Ends.one hE an_ends).2 (by decide)
  obtain ⟨rfl, _⟩ := Prg.Ends.one hE an_ends
  rw [an_bytes, an_len] at hown
  obtain ⟨g, cap, rfl, hg0, hg1, hgc, hgm, _⟩ := Code.own_slice hown (by decide)
  rw [show (((0 : Nat) : Int) + 1) = 1 from rfl]
  have hX5 := heap_alloc_new w4 (.cells (ldv (.slice (some ⟨g, 0, none⟩) 4 cap) ga gs 3 1) 30)
  have c0 : (w4.alloc (.cells (ldv (.slice (some ⟨g, 0, none⟩) 4 cap) ga gs 3 1) 30)).cell? ⟨w4.heap.size, 0, none⟩ = some (.slice (some ⟨g, 0, none⟩) 4 cap) := by rw [cell_of_row _ _ _ _ _ _ hX5]; rfl
  have hz5 : w4.heap.size < (w4.alloc (.cells (ldv (.slice (some ⟨g, 0, none⟩) 4 cap) ga gs 3 1) 30)).heap.size := by simp
  have hown5 := hide (hown.alloc (.cells (ldv (.slice (some ⟨g, 0, none⟩) 4 cap) ga gs 3 1) 30))
  have hB6 := hide (hB5.alloc hB5.size (.cells (ldv (.slice (some ⟨g, 0, none⟩) 4 cap) ga gs 3 1) 30))
  clear hX5 hown hA4 hS4 hE
  go_wp2_with (refine wpList_store_rowTo rfl 30 (.tmp 1) (.tmp 12) rfl rfl _ (ldv (.slice (some ⟨g, 0, none⟩) 4 cap) ga gs 3 1) rfl rfl 30 (#[.slice none 0 0, .slice none 0 0, .slice none 0 0, .int .i64 0]) (heap_alloc_last _ _) info_ld rfl (one_ld _ _ _ _ _ _ _) ?_; rw [World.setRow_alloc_new])
  refine (anAt _ g cap _ hown5.out (hL.below hB6.out)).mono ?_
  rintro e w6 ⟨rfl, hb6⟩
  have hB7 := hide (hB6.out.trans (hb6.mono hB6.out.size))
  have hX7 := hide (heap_alloc_last w6 (.cells (inv anJ) 36))
  have hq := anEq
  clear hb6 hB6 c0 hz5
  go_wp2_with (first
    | (refine wpList_store_rowTo rfl 36 (.tmp 3) (.tmp 26) rfl rfl _ (inv anJ) rfl rfl 36 (inv zerI) (heap_alloc_last _ _) info_in rfl (one_in _) ?_; rw [World.setRow_alloc_new])
    | (refine BigFrame.wpList_want rfl (fun K hK => ?_); refine wp_load_row 36 (.tmp 3) rfl w6.heap.size rfl 36 _ (0, 0) _ (unhide hX7) Tryd.underlying36 rfl info_in ?_; refine hK _ _ ?_))
  go_ret
  exact ⟨rfl, hB7.out.alloc hB7.out.size _⟩
end Go.Proofs.YtegefbndpkbooaaDoor.Asm

/-! The statement AsmWide is true: what Lay tells, as this statement needs it. -/
set_option linter.unusedVariables false
set_option linter.unusedSimpArgs false
namespace Go.Proofs.YtegefbndpkbooaaDoor.Asm
open Go.RowKit Go.Proofs.YtegefbndpkbooaaDoor.Core Go.Proofs.YtegefbndpkbooaaDoor.Alu

theorem layW_of {n : Nat} {X : Nat → It} {w w' : World} {e : Ending} (h : LayPost n X w e w') : LayW n X e w' := by
  rcases h with ⟨_, he⟩ | ⟨_, _, he⟩ | ⟨_, _, _, _, he⟩ | ⟨h, h2, R, ga, gs, vb, hE, he, hA, hS, _, hB⟩
  · exact .bad 10 rfl he
  · exact .bad 80 rfl he
  · exact .bad 82 rfl he
  · have hr := allB_iff.1 h
    have hl := hE.last
    simp only [Bool.false_eq_true, if_false] at hl
    have hj : ∀ i, i < n → (X i).k = 2 → (brI (X i).c ((prg n X).far ((prg n X).it R) i) ((prg n X).it R i)).right = true := fun i hi h2i => by
      obtain ⟨j, hj, hm⟩ := h2.2 i hi h2i
      exact jump_right hr hl.2 hl.1 hi h2i (by rw [goalF_is h2.1 hj hm]; exact hj)
    have hlen := bytK_len (W := (prg n X).it R) hr hj n (Nat.le_refl _)
    rcases hB.2 with ⟨rfl, h0⟩ | ⟨g, cap, cur, rfl, _⟩
    · exact .ok R ga gs none 0 0 hr h2.1 h2.2 hE he hA hS (by rw [← hlen, h0])
    · exact .ok R ga gs _ cap _ hr h2.1 h2.2 hE he hA hS hlen
theorem asmWide_any (X : Nat → It) (p : Option Addr) (n cap : Nat) (t : Int) (w : World) (hI : Items w p n X) (hL : Code.Laid w) :
    Calls Tryd.prog 4 #[.slice p n cap, .int .i64 t] w fun e w' => e = .returned (.bool true) ∧ Below w.heap.size w w' :=
  asmWide_of (I := Code.Laid) (fun h hb => h.below hb) (fun w h => anchor8_any w h)
    (fun p n cap X w hI hp hn hL => (Lay_any p n cap X w hI hp hn hL).mono fun e w' h => ⟨h.1, layW_of h.2⟩) X p n cap t w hI hL

end Go.Proofs.YtegefbndpkbooaaDoor.Asm

namespace Go.Proofs.YtegefbndpkbooaaDoor.asmWide
open Go.ChangeShapes Go.WideShapes Go.ChangeAt Go.RowKit
open Asm
set_option linter.unusedVariables false

theorem own : ownKnob Tryd.prog.godebug = none := by kernel_rfl
theorem laidOut : laidOutB Tryd.prog = true := by kernel_rfl

theorem walk (q0 : Option Addr) (n0 c0 : Nat) (z0 : Nat → Nat → Int) (a1 : Int) (w : World) (w0 : Args.Recs w (List.replicate 15 .i64) q0 n0 c0 z0) (w1 : (Lit.int .i64 a1).wf = true) (hL : Code.Laid w) :
    Calls Tryd.prog 4 #[.slice q0 n0 c0, .int .i64 a1] w fun e w' => e = .returned (.bool true) ∧ Below w.heap.size w w' := by
  exact asmWide_any _ _ _ _ _ w (Items.of_recs w0) hL

theorem laid_met (os : Os) : laidMet Tryd.prog Rows.asmWideRow.laid ((Code.laidWorld Tryd.prog os).forCall (fun _ _ => 0) ⟨#[], #[.slice none 0 0, .int .i64 0], []⟩).memory :=
  laidMet_of_run' 8 (by kernel_rfl) (by kernel_rfl)
theorem reads (os : Os) {H : Type} (enc : TypeId × Value → H) : ∃ places, DataW.whole enc Tryd.prog ((Code.laidWorld Tryd.prog os).forCall (fun _ _ => 0) ⟨#[], #[.slice none 0 0, .int .i64 0], []⟩).memory Tryd.f4.params.toList Rows.asmWideSpec.vars false (#[.slice none 0 0, .int .i64 0] : Array Value).toList 8 = some ([.nil, (.lit (.int .i64 0))], [], places) :=
  ⟨[], by kernel_rfl⟩

set_option maxRecDepth 100000 in
theorem lifted (os : Os) (started : os.Started) (H : Type) (enc : TypeId × Value → H) (F : Stop.Interp) :
    ReturnsInHanded {} Tryd.checked os 4 .any ((OpenSpec.ofChange Rows.asmWideSpec).preRow enc Tryd.prog Tryd.f4 Rows.asmWideRow.domain false Rows.asmWideRow.laid) (((OpenSpec.ofChange Rows.asmWideSpec).at F).post enc Tryd.prog Tryd.f4 false true false false) := by
  obtain ⟨places, hx⟩ := reads os enc
  refine returnsInHanded_of_row (C := Tryd.checked) (s := OpenSpec.ofChange Rows.asmWideSpec) own started (by kernel_rfl) Tryd.func4
    (witness_row_at (enc := enc) (C := Tryd.checked) false (Code.laidWorld Tryd.prog os) #[.slice none 0 0, .int .i64 0] rfl (by kernel_rfl) (by kernel_rfl) (by kernel_rfl)
      (OpenSpec.preRow_of_cond 8 hx (by kernel_rfl) (fun k hk => by cases hk) (by kernel_rfl) (laid_met os))) ?_
  intro W base args ds gs before hval0 hW _ _ _ hL _ _
  have hval : ∀ (j : Nat) t v, Tryd.f4.params[j]? = some t → args[j]? = some v → Value.okWide Tryd.prog W .any base t v := hval0
  have hW' := hW
  obtain ⟨p, q, hA0, hV, rfl, hfz, hnd⟩ := hW
  have hA : DataW.TrodAll enc Tryd.prog W 0 (fun _ => true) true Tryd.f4.params.toList args.toList ds p := hA0
  rw [Tryd.params4] at hA hval
  obtain ⟨v0, vs0, d0, ds0, p0, q0, hargs, rfl, rfl, h0, r0⟩ := trodAll_cons hA
  obtain ⟨v1, vs1, d1, ds1, p1, q1, rfl, rfl, rfl, h1, r1⟩ := trodAll_cons r0
  obtain ⟨rfl, rfl, rfl⟩ := trodAll_nil r1
  obtain rfl : args = #[v0, v1] := by cases args; simp_all
  obtain ⟨rfl, rfl⟩ := trodVars_none hV
  have k0 := h0
  obtain ⟨q0, n0, c0, z0, rfl, w0⟩ := Args.open_flats (ks := List.replicate 15 .i64) Tryd.underlying22 Asm.flat_item rfl (by decide) (hval 0 22 v0 rfl rfl) h0
  obtain ⟨a1, rfl, rfl, rfl, w1⟩ := open_int Tryd.underlying3 (hval 1 3 v1 rfl rfl) h1
  clear hA0 hval0
  simp only [List.append_nil] at hW'
  try simp only [List.nil_append] at hW'
  have hlt : ∀ x, x ∈ (p0 : List MemPlace) → x.block < W.heap.size := fun x hx => by simpa using hW'.lt x hx
  refine (walk q0 n0 c0 z0 a1 W w0 w1 (Code.laid_of hL)).mono fun e W' ⟨he, hg⟩ => ?_
  subst he
  exact ⟨_, rfl, Ends.post_of_below (pv := []) hW' (fun _ _ _ => (trodAll_cons_mk (shut_bool Tryd.underlying4 _) trodAll_mk0)) (trodAll_cons_mk (Below.trod laidOut (by kernel_rfl) (of_decide_eq_true (by kernel_rfl)) k0 hg (fun x hx => hlt x (by simp [hx]))) (trodAll_cons_mk (shut_int Tryd.underlying3 w1) trodAll_mk0)) (fun _ _ => rfl) (by simp)
    (hg.frame _)⟩

theorem said : Rows.AsmWideSaid :=
  OpenClaim.holds_of_cond 4 Tryd.f4 rfl rfl rfl rfl rfl rfl rfl ⟨rfl, rfl, rfl, rfl, rfl⟩ rfl rfl rfl rfl rfl (by kernel_rfl) Tryd.func4 (by kernel_rfl)
    (of_decide_eq_true (by kernel_rfl)) (by unfold Func.isWrapper; first | (rw [if_pos (by decide +kernel)]; kernel_rfl) | (rw [if_neg (by decide +kernel)]; exact ⟨rfl, rfl⟩))
    (fun os started H enc _ F => by rw [OpenClaim.pre_eq_preRow]; exact lifted os started H enc F)

/-- No parameter wants a stand-in; the program's own looks are off: what the card asks. -/
theorem plain (f : FuncId) (fn : Func) (hf : Tryd.pinned.checked.prog.funcNamed "remontoire/remontoirelaw08.AsmWide" = some f) (hfn : Tryd.pinned.checked.prog.funcs[f]? = some fn) :
    false = Tryd.pinned.checked.prog.looks [] ∧ ∀ (j : Nat) t, fn.params[j]? = some t → Tryd.pinned.checked.prog.wantsStandIn t = false := by
  obtain rfl : f = 4 := Option.some.inj ((show Tryd.prog.funcNamed "remontoire/remontoirelaw08.AsmWide" = some 4 by kernel_rfl).symm.trans hf) |>.symm
  obtain rfl : fn = Tryd.f4 := (Option.some.inj (Tryd.func4.symm.trans hfn)).symm
  refine ⟨by kernel_rfl, fun j t ht => ?_⟩
  rw [Tryd.params4] at ht
  have hm := Array.mem_of_getElem? ht
  simp only [List.mem_toArray, List.mem_cons, List.not_mem_nil, or_false] at hm
  rcases hm with rfl | rfl
  · exact (show Tryd.prog.wantsStandIn 22 = false by kernel_rfl)
  · exact (show Tryd.prog.wantsStandIn 3 = false by kernel_rfl)

/-- The card. -/
theorem proved : Rows.AsmWideCardSaid :=
  Claim7.holds_tied_plain_at .later [] _ _ _ _ said (fun _ h => by cases h) (by kernel_rfl) (fun _ h => by cases h) asmWide_row_tie rfl ⟨rfl, rfl⟩ (by kernel_rfl) rfl plain (by kernel_rfl)
#print axioms proved
end Go.Proofs.YtegefbndpkbooaaDoor.asmWide

