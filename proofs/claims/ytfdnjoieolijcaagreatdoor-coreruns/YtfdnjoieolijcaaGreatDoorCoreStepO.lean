/- A step that finds an instruction: package core. -/
import Derived.Test.YtfdnjoieolijcaaGreatDoorCoreMach
import Derived.Test.YtfdnjoieolijcaaGreatDoorCoreSet
import Derived.Deep.CutRange
import Derived.Deep.DeepCutAuto
set_option linter.unusedVariables false
set_option linter.unusedSimpArgs false
namespace Go.Proofs.YtfdnjoieolijcaaGreatDoor.Core
open Go.RowKit Go.Proofs.YtfdnjoieolijcaaGreatDoor.Mem Go.Proofs.YtfdnjoieolijcaaGreatDoor.Alu

def wk0 (M : Mc) (i : Ins) : Wo := ⟨M.s, M.m, i, M.s.R 15, 0, 0, 0, 0⟩
theorem info_wk : (Tryz.prog.info? 152).map (·.size) = some 37 := by kernel_rfl
theorem one_wk (W : Wo) : (wkc W).all (·.oneCell') = true := by simp [wkc, Value.oneCell']

theorem range_set {w : World} {b o D k : Nat} {cs : List Value} {v : Value} (h : w.rangeAt b o cs) (hne : b ≠ D) : (w.setCell ⟨D, k, none⟩ v).rangeAt b o cs := fun q u hu => by
  have e : (w.setCell ⟨D, k, none⟩ v).cell? ⟨b, o + q, none⟩ = w.cell? ⟨b, o + q, none⟩ := World.cell?_of_block (w := w) (Below.heap_setCell _ _ _ _ hne)
  rw [e]; exact h q u hu
def evv (a b c d e : Int) : Array Value := #[.int .u32 a, .int .u32 b, .int .i64 c, .int .i64 d, .int .i64 e]
theorem info_ev : (Tryz.prog.info? 41).map (·.size) = some 5 := by kernel_rfl
theorem one_ev (a b c d e : Int) : (evv a b c d e).all (·.oneCell') = true := by simp [evv, Value.oneCell']
theorem BytesI (i : Ins) (w : World) : Calls Tryz.prog 73 #[.agg (inv i)] w fun e w' => e = .returned (.int .i64 (Inst.siz i.f)) ∧ Below w.heap.size w w' := Inst.Bytes_any i.f i.rd i.rn i.rm i.ra i.im i.kd i.bs i.st i.cd i.rg w
theorem siz_bd (f : Int) : 0 ≤ Inst.siz f ∧ Inst.siz f ≤ 4 := by
  unfold Inst.siz
  repeat' split
  all_goals omega

/-- Blocks that weren't there may turn. -/
theorem Off.sub {S T : List Nat} {a b : World} (h : Off S a b) (hs : ∀ k, k ∈ S → k < a.heap.size → k ∈ T) : Off T a b := ⟨h.os, h.tape, h.output, h.size, fun k hk hn => h.block k hk (fun e => hn (hs k e hk))⟩
theorem siz_24 {i : Ins} (hr : i.right = true) : Inst.siz i.f = 2 ∨ Inst.siz i.f = 4 := by
  have h : Inst.isF i.f = true := by unfold Ins.right Inst.right at hr; simp only [Bool.and_eq_true] at hr; exact hr.1
  unfold Inst.siz
  rw [if_pos h]
  split
  · exact .inr rfl
  · exact .inl rfl
theorem wrap_siz (x f : Int) : IntKind.u32.wrap (x + IntKind.u32.wrap (Inst.siz f)) = (x + Inst.siz f) % 4294967296 := by
  simp [IntKind.wrap, IntKind.bits, IntKind.signed]
theorem bas_bd (f : Int) (t : Bool) (a b rg : Int) (ha : 0 ≤ a ∧ a < 4294967296) : 1 ≤ Clock.bas f t a b rg ∧ Clock.bas f t a b rg ≤ 19 := by
  have h1 : 1 ≤ Clock.lc rg ∧ Clock.lc rg ≤ 19 := by
    have := bit_bd rg 15
    have := Clock.ones_le 16 rg.toNat
    unfold Clock.lc; omega
  have h2 : 1 ≤ Clock.dv a b ∧ Clock.dv a b ≤ 19 := by
    have := bitLen_le32 a.toNat (by omega)
    unfold Clock.dv
    split <;> omega
  unfold Clock.bas Clock.cnd
  repeat' split
  all_goals omega
theorem basI_bd {s : St} (hg : Good s) (i : Ins) : 1 ≤ basI s i ∧ basI s i ≤ 19 := bas_bd _ _ _ _ _ (hg.r _)
theorem mul_bd {x y : Int} (hx : 0 ≤ x ∧ x ≤ 2) (hy : 0 ≤ y ∧ y ≤ 7) : 0 ≤ x * y ∧ x * y ≤ 14 :=
  ⟨Int.mul_nonneg hx.1 hy.1, Int.le_trans (Int.mul_le_mul hx.2 hy.2 hy.1 (by omega)) (by omega)⟩
theorem Mx.buf {w : World} {C : Nat} {M : Mc} (h : Mx w C M) : w.rangeAt C 22 [.bool M.fl, .int .u32 M.l] := fun j v hv => by
  rcases j with _ | _ | j
  · exact hv ▸ h.cell (k := 22) rfl
  · exact hv ▸ h.cell (k := 23) rfl
  · simp at hv
/-- A machine behind an instruction. -/
def aft (M : Mc) (i : Ins) (W : Wo) : Mc := ⟨M.m, M.wait, W.s, true, Clock.lst (M.s.R 15) (Inst.siz i.f), M.cy + (basI M.s i + Clock.mss M.fl M.l (M.s.R 15) (Inst.siz i.f) * M.wait), W.hk, W.hc⟩
def evA (M : Mc) (i : Ins) (W : Wo) : Array Value := evv (M.s.R 15) W.da W.wo (basI M.s i) (Clock.mss M.fl M.l (M.s.R 15) (Inst.siz i.f))
/-- What a step that finds an instruction leaves. -/
def StepPost (M : Mc) (i : Ins) (W : Wo) (en : Int) (C : Nat) (e : Ending) (w' : World) : Prop :=
  (en ≠ 0 ∧ e = .returned (.tuple #[.agg (evv 0 0 0 0 0), .int .i64 en]) ∧ Mx w' C M) ∨ (en = 0 ∧ e = .returned (.tuple #[.agg (evA M i W), .int .i64 0]) ∧ Mx w' C (aft M i W))

set_option maxRecDepth 100000 in
set_option maxHeartbeats 4000000 in
theorem step_ok {w : World} {C F R n : Nat} {M : Mc} {f g : Nat → Int} (h : Mx w C M) (hm : Is w M.m F R n f g) (hf : ∀ i, i < n → 0 ≤ f i ∧ f i < 256) (hn : n ≤ 65536) (hg : Good M.s) (hL : Code.Laid w)
    (i : Ins) (hA : ∀ j e, AtI n f (M.s.R 15) j e → j = i ∧ e = 0) (hfit : Fit i) (hr : i.right = true) (hcy : 0 ≤ M.cy ∧ M.cy ≤ 1000000000) (hwt : 0 ≤ M.wait ∧ M.wait ≤ 7) (ntR : NoTab R) (W1 : Wo) (g' : Nat → Int) (en : Int)
    (hX : ∀ (w' : World) (D : Nat), Wk w' D ((wk0 M i).reg 15 ((M.s.R 15 + Inst.siz i.f) % 4294967296)) → Is w' M.m F R n f g → Code.Laid w' → NoTab D →
      Calls Tryz.prog 74 #[.pointer (some ⟨D, 0, none⟩)] w' fun e w'' => e = .returned (.int .i64 en) ∧ Wk w'' D W1 ∧ Is w'' M.m F R n f g' ∧ Off [D, R] w' w'') :
    Calls Tryz.prog 38 #[.pointer (some ⟨C, 0, none⟩)] w fun e w' => StepPost M i W1 en C e w' ∧ Is w' M.m F R n f g' ∧ Off [C, R] w w' := by
  have c0 : w.cell? ⟨C, 0, none⟩ = some (.pointer (some ⟨M.m, 0, none⟩)) := h.cell rfl
  have c17 : w.cell? ⟨C, 17, none⟩ = some (.int .u32 (M.s.R 15)) := h.cell rfl
  have hl := h.lt
  have hCR : C ≠ R := fun e => by have x := hm.ram; rw [← e, show w.heap[C]? = _ from h] at x; simp at x
  have b15 := hg.r 15
  have hB := (Below.refl w.heap.size w).alloc (Nat.le_refl _) (.cells #[.int .u32 0, .int .u32 0, .int .i64 0, .int .i64 0, .int .i64 0] 41)
  go_enter Tryz.func38, Tryz.ntmps38
  go_wp2_with fail
  refine (instAt_any (hm.below hB) hf hn _ b15.1 b15.2 (hL.below hB)).mono ?_
  rintro e w1 ⟨hb1, j, en, hj, rfl⟩
  obtain ⟨rfl, rfl⟩ := hA j en hj
  have hz : w.heap.size < w1.heap.size := by have := hb1.size; simp at this; omega
  have hb2 : Below w.heap.size w w1 := hB.trans (hb1.mono hB.size)
  have hE : w1.heap[w.heap.size]? = some (.cells #[.int .u32 0, .int .u32 0, .int .i64 0, .int .i64 0, .int .i64 0] 41 (0, 0)) := (hb1.block _ (by simp)).trans (heap_alloc_new _ _)
  have HM := hide (show Mx (w1.alloc (.cells (inv j) 52)) C M from (h.below hb2).below ((Below.refl _ _).alloc (Nat.le_refl _) _))
  have HI := hide ((hm.below hb2).alloc (.cells (inv j) 52))
  have HE := hide (show (w1.alloc (.cells (inv j) 52)).heap[w.heap.size]? = _ from (((Below.refl w1.heap.size w1).alloc (Nat.le_refl _) (.cells (inv j) 52)).block _ hz).trans hE)
  have HJ := hide (show (w1.alloc (.cells (inv j) 52)).heap[w1.heap.size]? = _ from heap_alloc_new _ _)
  have HB := hide (hb2.alloc (Nat.le_of_lt hz) (.cells (inv j) 52))
  clear hE c0 c17 hB hb1
  go_wp2_with (refine wpList_store_rowTo rfl 52 (.tmp 5) (.tmp 23) rfl rfl _ (inv j) rfl rfl 52 (inv zerI) (heap_alloc_last _ _) info_in rfl (one_in _) ?_; rw [World.setRow_alloc_new])
  generalize hw2 : w1.alloc (.cells (inv j) 52) = w2 at *
  generalize hJ : w1.heap.size = J at *
  generalize hS : w.heap.size = S at *
  have r1 : w2.drew.rangeAt C 2 (stv M.s).toList := Mx.range (show Mx w2.drew C M from HM.out)
  have r2 : w2.drew.cell? ⟨C, 0, none⟩ = some (.pointer (some ⟨M.m, 0, none⟩)) := Mx.cell (show Mx w2.drew C M from HM.out) rfl
  have r3 : w2.drew.rangeAt J 0 (inv j).toList := range_all (show w2.drew.heap[J]? = _ from HJ.out)
  refine wp_region_held_drew (S := fun w' => w'.rangeAt C 2 (stv M.s).toList ∧ w'.cell? ⟨C, 0, none⟩ = some (.pointer (some ⟨M.m, 0, none⟩)) ∧ w'.rangeAt J 0 (inv j).toList) (by kernel_rfl) ⟨r1, r2, r3⟩ (fun hHeld => ?_)
  refine wpAnyH_take (i := 0) (v := ?_) rfl (by kernel_rfl) (by kernel_rfl) (by kernel_rfl) (fun _ _ _ h => h) (Or.inl ⟨by rfl, ?_⟩) (by assumption) ?_
  rotate_left
  · intro w hSw; (try dsimp only at hSw); go_simp; (try with_reducible rfl)
  (try simp only [Act.put, List.getElem_toArray, List.getElem_cons_zero, List.setIfInBounds_toArray, List.set_cons_zero, List.set_cons_succ])
  refine wpAnyH_take (i := 1) (v := ?_) rfl (by kernel_rfl) (by kernel_rfl) (by kernel_rfl) (fun _ _ _ h => h) (Or.inl ⟨by rfl, ?_⟩) (by assumption) ?_
  rotate_left
  · intro w hSw; (try dsimp only at hSw); go_simp; (try with_reducible rfl)
  (try simp only [Act.put, List.getElem_toArray, List.getElem_cons_zero, List.getElem_cons_succ, List.setIfInBounds_toArray, List.set_cons_zero, List.set_cons_succ])
  refine wpAnyH_take (i := 2) (v := ?_) rfl (by kernel_rfl) (by kernel_rfl) (by kernel_rfl) (fun _ _ _ h => h) (Or.inl ⟨by rfl, ?_⟩) (by assumption) ?_
  rotate_left
  · intro w hSw; (try dsimp only at hSw); go_simp; (try with_reducible rfl)
  (try simp only [Act.put, List.getElem_toArray, List.getElem_cons_zero, List.getElem_cons_succ, List.setIfInBounds_toArray, List.set_cons_zero, List.set_cons_succ])
  refine wpAnyH_take (i := 3) (v := .agg (stv M.s)) rfl (by kernel_rfl) (by kernel_rfl) (by kernel_rfl) (fun _ _ _ h => h) (yieldsIf_load_mid (by rfl) 27 (.tmp 31) rfl C 2 rfl (stv M.s).toList _ (fun w hw => hw.1) Tryz.underlying27 rfl info_st) (by assumption) ?_
  (try simp only [Act.put, List.getElem_toArray, List.getElem_cons_zero, List.getElem_cons_succ, List.setIfInBounds_toArray, List.set_cons_zero, List.set_cons_succ])
  refine wpAnyH_take (i := 4) (v := ?_) rfl (by kernel_rfl) (by kernel_rfl) (by kernel_rfl) (fun _ _ _ h => h) (Or.inl ⟨by rfl, ?_⟩) (by assumption) ?_
  rotate_left
  · intro w hSw; (try dsimp only at hSw); go_simp; (try with_reducible rfl)
  (try simp only [Act.put, List.getElem_toArray, List.getElem_cons_zero, List.getElem_cons_succ, List.setIfInBounds_toArray, List.set_cons_zero, List.set_cons_succ])
  refine wpAnyH_take (i := 5) (v := ?_) rfl (by kernel_rfl) (by kernel_rfl) (by kernel_rfl) (fun _ _ _ h => h) (Or.inl ⟨by rfl, ?_⟩) (by assumption) ?_
  rotate_left
  · intro w hSw; (try dsimp only at hSw); go_simp; (try with_reducible rfl)
  (try simp only [Act.put, List.getElem_toArray, List.getElem_cons_zero, List.getElem_cons_succ, List.setIfInBounds_toArray, List.set_cons_zero, List.set_cons_succ])
  refine wpAnyH_take (i := 6) (v := ?_) rfl (by kernel_rfl) (by kernel_rfl) (by kernel_rfl) (fun _ _ _ h => h) (Or.inl ⟨by rfl, ?_⟩) (by assumption) ?_
  rotate_left
  · intro w hSw; (try dsimp only at hSw); go_simp; (try with_reducible rfl)
  (try simp only [Act.put, List.getElem_toArray, List.getElem_cons_zero, List.getElem_cons_succ, List.setIfInBounds_toArray, List.set_cons_zero, List.set_cons_succ])
  refine wpAnyH_take (i := 7) (v := ?_) rfl (by kernel_rfl) (by kernel_rfl) (by kernel_rfl) (fun _ _ _ h => h) (Or.inl ⟨by rfl, ?_⟩) (by assumption) ?_
  rotate_left
  · intro w hSw; (try dsimp only at hSw); go_simp; (try with_reducible rfl)
  (try simp only [Act.put, List.getElem_toArray, List.getElem_cons_zero, List.getElem_cons_succ, List.setIfInBounds_toArray, List.set_cons_zero, List.set_cons_succ])
  refine wpAnyH_take (i := 8) (v := .agg (inv j)) rfl (by kernel_rfl) (by kernel_rfl) (by kernel_rfl) (fun _ _ _ h => h) (yieldsIf_load_mid (by rfl) 52 (.tmp 5) rfl J 0 rfl (inv j).toList _ (fun w hw => hw.2.2) Tryz.underlying52 rfl info_in) (by assumption) ?_
  (try simp only [Act.put, List.getElem_toArray, List.getElem_cons_zero, List.getElem_cons_succ, List.setIfInBounds_toArray, List.set_cons_zero, List.set_cons_succ])
  refine wpAnyH_take (i := 9) (v := ?_) rfl (by kernel_rfl) (by kernel_rfl) (by kernel_rfl) (fun _ _ _ h => h) (Or.inl ⟨by rfl, ?_⟩) (by assumption) ?_
  rotate_left
  · intro w hSw; (try dsimp only at hSw); go_simp; (try with_reducible rfl)
  (try simp only [Act.put, List.getElem_toArray, List.getElem_cons_zero, List.getElem_cons_succ, List.setIfInBounds_toArray, List.set_cons_zero, List.set_cons_succ])
  refine wpAnyH_take (i := 10) (v := .agg (wkc (wk0 M j))) rfl (by kernel_rfl) (by kernel_rfl) (by kernel_rfl) (fun _ _ _ h => h) (Or.inl ⟨by rfl, ?bld⟩) (by assumption) ?_
  case bld =>
    intro w hSw
    go_simp
    simp [stv, inv, wkc, wk0]
  (try simp only [Act.put, List.getElem_toArray, List.getElem_cons_zero, List.getElem_cons_succ, List.setIfInBounds_toArray, List.set_cons_zero, List.set_cons_succ])
  have hst : ∀ o : Obj, o = .cells (wkc ⟨zerS, 0, zerI, 0, 0, 0, 0, 0⟩) 152 → True := fun _ _ => trivial
  refine wpAnyH_ready (rs := [11]) (by kernel_rfl) (by simp) ?_
  refine AllReadyH.cons rfl (fun K hK => ?_) AllReadyH.nil
  go_simp
  have hA1 := (Below.refl w2.drew.heap.size w2.drew).alloc (Nat.le_refl _) (.cells #[.int .u32 0, .int .u32 0, .int .u32 0, .int .u32 0, .int .u32 0, .int .u32 0, .int .u32 0, .int .u32 0, .int .u32 0, .int .u32 0, .int .u32 0, .int .u32 0, .int .u32 0, .int .u32 0, .int .u32 0, .int .u32 0, .int .u32 0, .int .u32 0, .int .u32 0, .int .u32 0, .pointer none, .int .i64 0, .int .i64 0, .int .i64 0, .int .i64 0, .int .i64 0, .int .i64 0, .int .i64 0, .int .i64 0, .int .i64 0, .int .i64 0, .int .i64 0, .int .u32 0, .int .i64 0, .int .i64 0, .int .u32 0, .int .i64 0] 152)
  refine hK.out _ _ ⟨range_below r1 hA1, (hA1.cell (p := ⟨C, 0, none⟩) (block_lt_of_cell (a := ⟨C, 0, none⟩) r2)).trans r2, range_below r3 hA1⟩ (fun hHeld2 => ?_)
  clear hK K
  (try simp only [Act.put, List.getElem_toArray, List.getElem_cons_zero, List.getElem_cons_succ, List.setIfInBounds_toArray, List.set_cons_zero, List.set_cons_succ])
  refine wpAnyH_ready (rs := [12]) (by kernel_rfl) (by simp) ?_
  refine AllReadyH.cons rfl (fun K hK => ?_) AllReadyH.nil
  refine wp_store_row 152 (.tmp 7) (.tmp 39) rfl w2.drew.heap.size (wkc (wk0 M j)) rfl rfl 152 _ (heap_alloc_last _ _) info_wk rfl (one_wk _) ?_
  have hW2 : ((w2.alloc (.cells #[.int .u32 0, .int .u32 0, .int .u32 0, .int .u32 0, .int .u32 0, .int .u32 0, .int .u32 0, .int .u32 0, .int .u32 0, .int .u32 0, .int .u32 0, .int .u32 0, .int .u32 0, .int .u32 0, .int .u32 0, .int .u32 0, .int .u32 0, .int .u32 0, .int .u32 0, .int .u32 0, .pointer none, .int .i64 0, .int .i64 0, .int .i64 0, .int .i64 0, .int .i64 0, .int .i64 0, .int .i64 0, .int .i64 0, .int .i64 0, .int .i64 0, .int .i64 0, .int .u32 0, .int .i64 0, .int .i64 0, .int .u32 0, .int .i64 0] 152)).drew.setRow w2.drew.heap.size (wkc (wk0 M j))).heap[w2.heap.size]? = some (.cells (wkc (wk0 M j)) 152 (0, 0)) := setRow_heap _ _ _ _ _ _ (heap_alloc_last w2 _)
  have hA0 := ((Below.refl w2.heap.size w2).alloc (Nat.le_refl _) (.cells #[.int .u32 0, .int .u32 0, .int .u32 0, .int .u32 0, .int .u32 0, .int .u32 0, .int .u32 0, .int .u32 0, .int .u32 0, .int .u32 0, .int .u32 0, .int .u32 0, .int .u32 0, .int .u32 0, .int .u32 0, .int .u32 0, .int .u32 0, .int .u32 0, .int .u32 0, .int .u32 0, .pointer none, .int .i64 0, .int .i64 0, .int .i64 0, .int .i64 0, .int .i64 0, .int .i64 0, .int .i64 0, .int .i64 0, .int .i64 0, .int .i64 0, .int .i64 0, .int .u32 0, .int .i64 0, .int .i64 0, .int .u32 0, .int .i64 0] 152)).drew
  have hA2 : Below w2.drew.heap.size w2.drew ((w2.alloc (.cells #[.int .u32 0, .int .u32 0, .int .u32 0, .int .u32 0, .int .u32 0, .int .u32 0, .int .u32 0, .int .u32 0, .int .u32 0, .int .u32 0, .int .u32 0, .int .u32 0, .int .u32 0, .int .u32 0, .int .u32 0, .int .u32 0, .int .u32 0, .int .u32 0, .int .u32 0, .int .u32 0, .pointer none, .int .i64 0, .int .i64 0, .int .i64 0, .int .i64 0, .int .i64 0, .int .i64 0, .int .i64 0, .int .i64 0, .int .i64 0, .int .i64 0, .int .i64 0, .int .u32 0, .int .i64 0, .int .i64 0, .int .u32 0, .int .i64 0] 152)).drew.setRow w2.drew.heap.size (wkc (wk0 M j))) := setRow_below (a := w2.drew) (b := w2.heap.size) ⟨hA0.os, hA0.tape, hA0.output, hA0.size, hA0.block⟩ (Nat.le_refl _) _
  clear hA0
  generalize (w2.alloc (.cells #[.int .u32 0, .int .u32 0, .int .u32 0, .int .u32 0, .int .u32 0, .int .u32 0, .int .u32 0, .int .u32 0, .int .u32 0, .int .u32 0, .int .u32 0, .int .u32 0, .int .u32 0, .int .u32 0, .int .u32 0, .int .u32 0, .int .u32 0, .int .u32 0, .int .u32 0, .int .u32 0, .pointer none, .int .i64 0, .int .i64 0, .int .i64 0, .int .i64 0, .int .i64 0, .int .i64 0, .int .i64 0, .int .i64 0, .int .i64 0, .int .i64 0, .int .i64 0, .int .u32 0, .int .i64 0, .int .i64 0, .int .u32 0, .int .i64 0] 152)).drew.setRow w2.drew.heap.size (wkc (wk0 M j)) = w3 at *
  refine hK.out _ _ ⟨range_below r1 hA2, (hA2.cell (p := ⟨C, 0, none⟩) (block_lt_of_cell (a := ⟨C, 0, none⟩) r2)).trans r2, range_below r3 hA2⟩ (fun hHeld3 => ?_)
  clear hK K hst hHeld hHeld2 hHeld3
  refine wpAnyH_done (by kernel_rfl) ?_ _
  have HM3 := hide (show Mx w3 C M from (show Mx w2.drew C M from HM.out).below hA2)
  have HI3 := hide (HI.out.drew.below hA2)
  have HE3 := hide ((hA2.block _ (lt_of_heap HE.out)).trans HE.out)
  have HJ3 := hide ((hA2.block _ (lt_of_heap HJ.out)).trans HJ.out)
  have HB3 := hide (HB.out.drew.trans (hA2.mono (by have := HB.out.size; rw [hS] at this; exact this)))
  have HW3 := hide (show Wk w3 w2.heap.size (wk0 M j) from hW2)
  have hJB : J < w2.heap.size := lt_of_heap HJ.out
  clear hA2 hW2 r1 r2 r3 HM HI HE HJ HB hw2
  go_upto_region 6 with fail
  generalize w2.heap.size = D at *
  have hDS : S ≤ D := by omega
  (try simp only [Act.put, List.getElem_toArray, List.getElem_cons_zero, List.getElem_cons_succ, List.setIfInBounds_toArray, List.set_cons_zero, List.set_cons_succ])
  go_cut [] from 10 (fun wx => Wk wx D ((wk0 M j).reg 15 ((M.s.R 15 + Inst.siz j.f) % 4294967296)) ∧ Off [D] w3 wx)
  case first =>
    go_wp2_with fail
    have sb := siz_bd j.f
    have c15 : w3.drew.cell? ⟨D, 15, none⟩ = some (.int .u32 (M.s.R 15)) := HW3.out.c15
    have f15 : w3.drew.frozen? ⟨D, 15, none⟩ = false := HW3.out.free 15
    have rj : w3.drew.rangeAt J 0 (inv j).toList := range_all (show w3.drew.heap[J]? = _ from HJ3.out)
    refine wp_region_held_drew (S := fun w' => w'.rangeAt J 0 (inv j).toList) (by kernel_rfl) rj (fun hHeld => ?_)
    refine wpAnyH_take (i := 0) (v := ?_) rfl (by kernel_rfl) (by kernel_rfl) (by kernel_rfl) (fun _ _ _ h => h) (Or.inl ⟨by rfl, ?_⟩) (by assumption) ?_
    rotate_left
    · intro w hSw; (try dsimp only at hSw); go_simp; (try with_reducible rfl)
    (try simp only [Act.put, List.getElem_toArray, List.getElem_cons_zero, List.setIfInBounds_toArray, List.set_cons_zero, List.set_cons_succ])
    refine wpAnyH_take (i := 1) (v := ?_) rfl (by kernel_rfl) (by kernel_rfl) (by kernel_rfl) (fun _ _ _ h => h) (Or.inl ⟨by rfl, ?_⟩) (by assumption) ?_
    rotate_left
    · intro w hSw; (try dsimp only at hSw); go_simp; (try with_reducible rfl)
    (try simp only [Act.put, List.getElem_toArray, List.getElem_cons_zero, List.getElem_cons_succ, List.setIfInBounds_toArray, List.set_cons_zero, List.set_cons_succ])
    refine wpAnyH_take (i := 2) (v := ?_) rfl (by kernel_rfl) (by kernel_rfl) (by kernel_rfl) (fun _ _ _ h => h) (Or.inl ⟨by rfl, ?_⟩) (by assumption) ?_
    rotate_left
    · intro w hSw; (try dsimp only at hSw); go_simp; (try with_reducible rfl)
    (try simp only [Act.put, List.getElem_toArray, List.getElem_cons_zero, List.getElem_cons_succ, List.setIfInBounds_toArray, List.set_cons_zero, List.set_cons_succ])
    refine wpAnyH_take (i := 4) (v := .agg (inv j)) rfl (by kernel_rfl) (by kernel_rfl) (by kernel_rfl) (fun _ _ _ h => h) (yieldsIf_load_mid (by rfl) 52 (.tmp 5) rfl J 0 rfl (inv j).toList _ (fun w hw => hw) Tryz.underlying52 rfl info_in) (by assumption) ?_
    (try simp only [Act.put, List.getElem_toArray, List.getElem_cons_zero, List.getElem_cons_succ, List.setIfInBounds_toArray, List.set_cons_zero, List.set_cons_succ])
    refine wpAnyH_take (i := 8) (v := ?_) rfl (by kernel_rfl) (by kernel_rfl) (by kernel_rfl) (fun _ _ _ h => h) (Or.inl ⟨by rfl, ?_⟩) (by assumption) ?_
    rotate_left
    · intro w hSw; (try dsimp only at hSw); go_simp; (try with_reducible rfl)
    (try simp only [Act.put, List.getElem_toArray, List.getElem_cons_zero, List.getElem_cons_succ, List.setIfInBounds_toArray, List.set_cons_zero, List.set_cons_succ])
    refine wpAnyH_take (i := 9) (v := ?_) rfl (by kernel_rfl) (by kernel_rfl) (by kernel_rfl) (fun _ _ _ h => h) (Or.inl ⟨by rfl, ?_⟩) (by assumption) ?_
    rotate_left
    · intro w hSw; (try dsimp only at hSw); go_simp; (try with_reducible rfl)
    (try simp only [Act.put, List.getElem_toArray, List.getElem_cons_zero, List.getElem_cons_succ, List.setIfInBounds_toArray, List.set_cons_zero, List.set_cons_succ])
    refine wpAnyH_ready (rs := [3, 5]) (by kernel_rfl) (by simp) ?_
    refine AllReadyH.cons rfl (fun K hK => ?ra) (AllReadyH.cons rfl (fun K hK => ?rb) AllReadyH.nil)
    case' ra =>
      go_simp
      refine hK.out _ _ (by assumption) (fun hHeld4 => ?_)
      clear hK K
      (try simp only [Act.put, List.getElem_toArray, List.getElem_cons_zero, List.getElem_cons_succ, List.setIfInBounds_toArray, List.set_cons_zero, List.set_cons_succ])
      refine wpAnyH_ready (rs := [5]) (by kernel_rfl) (by simp) ?_
      refine AllReadyH.cons rfl (fun K hK => ?_) AllReadyH.nil
      go_simp
      with_reducible refine (BytesI j _).mono ?_
      rintro e w4 ⟨rfl, hb4⟩
      have hd4 : D < w3.drew.heap.size := HW3.out.lt
      have c15' : w4.cell? ⟨D, 15, none⟩ = some (.int .u32 (M.s.R 15)) := (hb4.cell (p := ⟨D, 15, none⟩) hd4).trans c15
      have f15' : w4.frozen? ⟨D, 15, none⟩ = false := (hb4.frozen (p := ⟨D, 15, none⟩) hd4).trans f15
      refine hK.out _ _ (range_below rj hb4) (fun hHeld4 => ?_)
      clear hK K
      (try simp only [Act.put, List.getElem_toArray, List.getElem_cons_zero, List.getElem_cons_succ, List.setIfInBounds_toArray, List.set_cons_zero, List.set_cons_succ])
      refine wpAnyH_take (i := 6) (v := ?_) rfl (by kernel_rfl) (by kernel_rfl) (by kernel_rfl) (fun _ _ _ h => h) (Or.inl ⟨by rfl, ?_⟩) (by assumption) ?_
      rotate_left
      · intro w hSw; (try dsimp only at hSw); go_simp; (try with_reducible rfl)
      (try simp only [Act.put, List.getElem_toArray, List.getElem_cons_zero, List.getElem_cons_succ, List.setIfInBounds_toArray, List.set_cons_zero, List.set_cons_succ])
      refine wpAnyH_take (i := 7) (v := ?_) rfl (by kernel_rfl) (by kernel_rfl) (by kernel_rfl) (fun _ _ _ h => h) (Or.inl ⟨by rfl, ?_⟩) (by assumption) ?_
      rotate_left
      · intro w hSw; (try dsimp only at hSw); go_simp; (try with_reducible rfl)
      (try simp only [Act.put, List.getElem_toArray, List.getElem_cons_zero, List.getElem_cons_succ, List.setIfInBounds_toArray, List.set_cons_zero, List.set_cons_succ])
      refine wpAnyH_take (i := 10) (v := ?_) rfl (by kernel_rfl) (by kernel_rfl) (by kernel_rfl) (fun _ _ _ h => h) (Or.inl ⟨by rfl, ?_⟩) (by assumption) ?_
      rotate_left
      · intro w hSw; (try dsimp only at hSw); go_simp; (try with_reducible rfl)
      (try simp only [Act.put, List.getElem_toArray, List.getElem_cons_zero, List.getElem_cons_succ, List.setIfInBounds_toArray, List.set_cons_zero, List.set_cons_succ])
      refine wpAnyH_ready (rs := [11]) (by kernel_rfl) (by simp) ?_
      refine AllReadyH.cons rfl (fun K hK => ?_) AllReadyH.nil
      go_simp
      refine hK.out _ _ (range_set (range_below rj hb4) (by omega)) (fun hHeld5 => ?_)
      clear hK K
      refine wpAnyH_done (by kernel_rfl) ?_ _
    case' rb =>
      go_simp
      with_reducible refine (BytesI j _).mono ?_
      rintro e w4 ⟨rfl, hb4⟩
      have hd4 : D < w3.drew.heap.size := HW3.out.lt
      have c15' : w4.cell? ⟨D, 15, none⟩ = some (.int .u32 (M.s.R 15)) := (hb4.cell (p := ⟨D, 15, none⟩) hd4).trans c15
      have f15' : w4.frozen? ⟨D, 15, none⟩ = false := (hb4.frozen (p := ⟨D, 15, none⟩) hd4).trans f15
      refine hK.out _ _ (range_below rj hb4) (fun hHeld4 => ?_)
      clear hK K
      (try simp only [Act.put, List.getElem_toArray, List.getElem_cons_zero, List.getElem_cons_succ, List.setIfInBounds_toArray, List.set_cons_zero, List.set_cons_succ])
      refine wpAnyH_take (i := 6) (v := ?_) rfl (by kernel_rfl) (by kernel_rfl) (by kernel_rfl) (fun _ _ _ h => h) (Or.inl ⟨by rfl, ?_⟩) (by assumption) ?_
      rotate_left
      · intro w hSw; (try dsimp only at hSw); go_simp; (try with_reducible rfl)
      (try simp only [Act.put, List.getElem_toArray, List.getElem_cons_zero, List.getElem_cons_succ, List.setIfInBounds_toArray, List.set_cons_zero, List.set_cons_succ])
      refine wpAnyH_ready (rs := [3]) (by kernel_rfl) (by simp) ?_
      refine AllReadyH.cons rfl (fun K hK => ?_) AllReadyH.nil
      go_simp
      refine hK.out _ _ (by assumption) (fun hHeld4 => ?_)
      clear hK K
      (try simp only [Act.put, List.getElem_toArray, List.getElem_cons_zero, List.getElem_cons_succ, List.setIfInBounds_toArray, List.set_cons_zero, List.set_cons_succ])
      refine wpAnyH_take (i := 7) (v := ?_) rfl (by kernel_rfl) (by kernel_rfl) (by kernel_rfl) (fun _ _ _ h => h) (Or.inl ⟨by rfl, ?_⟩) (by assumption) ?_
      rotate_left
      · intro w hSw; (try dsimp only at hSw); go_simp; (try with_reducible rfl)
      (try simp only [Act.put, List.getElem_toArray, List.getElem_cons_zero, List.getElem_cons_succ, List.setIfInBounds_toArray, List.set_cons_zero, List.set_cons_succ])
      refine wpAnyH_take (i := 10) (v := ?_) rfl (by kernel_rfl) (by kernel_rfl) (by kernel_rfl) (fun _ _ _ h => h) (Or.inl ⟨by rfl, ?_⟩) (by assumption) ?_
      rotate_left
      · intro w hSw; (try dsimp only at hSw); go_simp; (try with_reducible rfl)
      (try simp only [Act.put, List.getElem_toArray, List.getElem_cons_zero, List.getElem_cons_succ, List.setIfInBounds_toArray, List.set_cons_zero, List.set_cons_succ])
      refine wpAnyH_ready (rs := [11]) (by kernel_rfl) (by simp) ?_
      refine AllReadyH.cons rfl (fun K hK => ?_) AllReadyH.nil
      go_simp
      refine hK.out _ _ (range_set (range_below rj hb4) (by omega)) (fun hHeld5 => ?_)
      clear hK K
      refine wpAnyH_done (by kernel_rfl) ?_ _
    all_goals
      have HW5 := Wk.putR (show Wk w4 D (wk0 M j) from (show Wk w3.drew D (wk0 M j) from HW3.out).below hb4) 15 (by decide) ((M.s.R 15 + Inst.siz j.f) % 4294967296)
      have HO5 := ((Off.refl [D] w3).drew.trans (Off.of_below hb4)).set (p := ⟨D, 15, none⟩) (by simp) (.int .u32 ((M.s.R 15 + Inst.siz j.f) % 4294967296))
      go_wp2_with fail
      go_meet
      case rel => rw [wrap_siz]; exact ⟨HW5, HO5⟩
  case rest =>
    obtain ⟨W5, O5⟩ := hcut
    have hAp := wkApart HW3.out HI3.out
    have hRS : R < S := by rw [← hS]; exact hm.ltR
    have B5 : Below w.heap.size w wc := by rw [hS]; exact HB3.out.trans (O5.below (by have := HB3.out.size; rw [hS] at this; exact this) (by intro k hk; rw [List.mem_singleton] at hk; omega))
    have I5 : Is wc M.m F R n f g := isOff HI3.out O5 (by simpa using hAp.1) (by simpa using hAp.2.1) (by simpa using hAp.2.2)
    have L5 : Code.Laid wc := hL.below B5
    have M5 : Mx wc C M := h.below B5
    have E5 := (O5.block S (lt_of_heap HE3.out) (by rw [List.mem_singleton]; omega)).trans HE3.out
    have J5 := (O5.block J (lt_of_heap HJ3.out) (by rw [List.mem_singleton]; omega)).trans HJ3.out
    have nt : NoTab D := by
      have t1 := block_lt_of_cell (a := ⟨2, 0, none⟩) hL.two.fac.c0
      have t2 := block_lt_of_cell (a := ⟨1, 0, none⟩) (hL.two.shs 0 (by decide))
      exact ⟨by simp only at t1; omega, by simp only at t2; omega⟩
    clear HB3 HM3 HI3 HE3 HJ3 HW3 O5
    have HX := hide hX
    clear hX
    go_wp2_with fail
    refine (HX.out _ _ W5 I5 L5 nt).mono ?_
    rintro e w6 ⟨rfl, h6, m6, o6⟩
    have nS : S ∉ [D, R] := by simp; omega
    have nJ : J ∉ [D, R] := by simp; omega
    have nC : C ∉ [D, R] := by simp; exact ⟨by omega, hCR⟩
    have M6 : Mx w6 C M := M5.off o6 nC
    have E6 := hide ((o6.block S (lt_of_heap E5) nS).trans E5)
    have J6 := hide ((o6.block J (lt_of_heap J5) nJ).trans J5)
    have L6 : Inst.Laid w6 := o6.laid L5.two (by intro k hk; simp at hk; rcases hk with rfl | rfl; exact nt; exact ntR)
    have O6 := hide ((Off.of_below B5).trans (o6.mono (T := [D, R]) (by simp)))
    clear E5 J5 M5 W5 I5 L5 B5 HX
    by_cases he : en = 0
    · subst he
      clear hj hA
      have hD6 : D < w6.heap.size := h6.lt
      have HIM := hide m6
      clear m6
      go_upto_region 10 with fail
      (try simp only [Act.put, List.getElem_toArray, List.getElem_cons_zero, List.getElem_cons_succ, List.setIfInBounds_toArray, List.set_cons_zero, List.set_cons_succ])
      go_cut [9] from 10 (fun s9 wx => ∃ V, s9 = .pointer (some ⟨V, 0, none⟩) ∧ wx.heap[V]? = some (.cells (evv (M.s.R 15) W1.da W1.wo (basI M.s j) 0) 41 (0, 0)) ∧ w6.heap.size ≤ V ∧ Below w6.heap.size w6 wx)
      case first =>
        go_wp2_with fail
        have q1 : w6.drew.cell? ⟨D, 35, none⟩ = some (.int .u32 W1.da) := Wk.cda (show Wk w6.drew D W1 from h6)
        have q2 : w6.drew.cell? ⟨D, 36, none⟩ = some (.int .i64 W1.wo) := Wk.cwo (show Wk w6.drew D W1 from h6)
        have q3 : w6.drew.rangeAt C 2 (stv M.s).toList := Mx.range (show Mx w6.drew C M from M6)
        have q4 : w6.drew.rangeAt J 0 (inv j).toList := range_all (show w6.drew.heap[J]? = _ from J6.out)
        have HT : Hid (∀ w', Below w6.drew.heap.size w6.drew w' → w'.cell? ⟨D, 35, none⟩ = some (.int .u32 W1.da) ∧ w'.cell? ⟨D, 36, none⟩ = some (.int .i64 W1.wo) ∧ w'.rangeAt C 2 (stv M.s).toList ∧ w'.rangeAt J 0 (inv j).toList) := fun w' hb => ⟨(hb.cell (p := ⟨D, 35, none⟩) hD6).trans q1, (hb.cell (p := ⟨D, 36, none⟩) hD6).trans q2, range_below q3 hb, range_below q4 hb⟩
        have L6' : Inst.Laid w6.drew := laid_drewN L6 1
        refine wp_region_held_drew (S := fun w' => w'.cell? ⟨D, 35, none⟩ = some (.int .u32 W1.da) ∧ w'.cell? ⟨D, 36, none⟩ = some (.int .i64 W1.wo) ∧ w'.rangeAt C 2 (stv M.s).toList ∧ w'.rangeAt J 0 (inv j).toList) (by kernel_rfl) ⟨q1, q2, q3, q4⟩ (fun hHeld => ?_)
        refine wpAnyH_take (i := 0) (v := ?_) rfl (by kernel_rfl) (by kernel_rfl) (by kernel_rfl) (fun _ _ _ h => h) (Or.inl ⟨by rfl, ?_⟩) (by assumption) ?_
        rotate_left
        · intro w hSw; (try dsimp only at hSw); go_simp; (try with_reducible rfl)
        (try simp only [Act.put, List.getElem_toArray, List.getElem_cons_zero, List.setIfInBounds_toArray, List.set_cons_zero, List.set_cons_succ])
        refine wpAnyH_take (i := 1) (v := ?_) rfl (by kernel_rfl) (by kernel_rfl) (by kernel_rfl) (fun _ _ _ h => h) (Or.inl ⟨by rfl, ?_⟩) (by assumption) ?_
        rotate_left
        · intro w hSw; (try dsimp only at hSw); go_simp; (try with_reducible rfl)
        (try simp only [Act.put, List.getElem_toArray, List.getElem_cons_zero, List.getElem_cons_succ, List.setIfInBounds_toArray, List.set_cons_zero, List.set_cons_succ])
        refine wpAnyH_take (i := 2) (v := ?_) rfl (by kernel_rfl) (by kernel_rfl) (by kernel_rfl) (fun _ _ _ h => h) (Or.inl ⟨by rfl, ?_⟩) (by assumption) ?_
        rotate_left
        · intro w hSw; (try dsimp only at hSw); go_simp; (try with_reducible rfl)
        (try simp only [Act.put, List.getElem_toArray, List.getElem_cons_zero, List.getElem_cons_succ, List.setIfInBounds_toArray, List.set_cons_zero, List.set_cons_succ])
        refine wpAnyH_take (i := 3) (v := ?_) rfl (by kernel_rfl) (by kernel_rfl) (by kernel_rfl) (fun _ _ _ h => h) (Or.inl ⟨by rfl, ?_⟩) (by assumption) ?_
        rotate_left
        · intro w hSw; (try dsimp only at hSw); go_simp; (try with_reducible rfl)
        (try simp only [Act.put, List.getElem_toArray, List.getElem_cons_zero, List.getElem_cons_succ, List.setIfInBounds_toArray, List.set_cons_zero, List.set_cons_succ])
        refine wpAnyH_take (i := 4) (v := ?_) rfl (by kernel_rfl) (by kernel_rfl) (by kernel_rfl) (fun _ _ _ h => h) (Or.inl ⟨by rfl, ?_⟩) (by assumption) ?_
        rotate_left
        · intro w hSw; (try dsimp only at hSw); go_simp; (try with_reducible rfl)
        (try simp only [Act.put, List.getElem_toArray, List.getElem_cons_zero, List.getElem_cons_succ, List.setIfInBounds_toArray, List.set_cons_zero, List.set_cons_succ])
        refine wpAnyH_take (i := 5) (v := ?_) rfl (by kernel_rfl) (by kernel_rfl) (by kernel_rfl) (fun _ _ _ h => h) (Or.inl ⟨by rfl, ?_⟩) (by assumption) ?_
        rotate_left
        · intro w hSw; (try dsimp only at hSw); go_simp; (try with_reducible rfl)
        (try simp only [Act.put, List.getElem_toArray, List.getElem_cons_zero, List.getElem_cons_succ, List.setIfInBounds_toArray, List.set_cons_zero, List.set_cons_succ])
        refine wpAnyH_take (i := 6) (v := ?_) rfl (by kernel_rfl) (by kernel_rfl) (by kernel_rfl) (fun _ _ _ h => h) (Or.inl ⟨by rfl, ?_⟩) (by assumption) ?_
        rotate_left
        · intro w hSw; (try dsimp only at hSw); go_simp; (try with_reducible rfl)
        (try simp only [Act.put, List.getElem_toArray, List.getElem_cons_zero, List.getElem_cons_succ, List.setIfInBounds_toArray, List.set_cons_zero, List.set_cons_succ])
        refine wpAnyH_take (i := 7) (v := ?_) rfl (by kernel_rfl) (by kernel_rfl) (by kernel_rfl) (fun _ _ _ h => h) (Or.inl ⟨by rfl, ?_⟩) (by assumption) ?_
        rotate_left
        · intro w hSw; (try dsimp only at hSw); go_simp; (try with_reducible rfl)
        (try simp only [Act.put, List.getElem_toArray, List.getElem_cons_zero, List.getElem_cons_succ, List.setIfInBounds_toArray, List.set_cons_zero, List.set_cons_succ])
        refine wpAnyH_take (i := 8) (v := .agg (stv M.s)) rfl (by kernel_rfl) (by kernel_rfl) (by kernel_rfl) (fun _ _ _ h => h) (yieldsIf_load_mid (by rfl) 27 (.tmp 63) rfl C 2 rfl (stv M.s).toList _ (fun w hw => hw.2.2.1) Tryz.underlying27 rfl info_st) (by assumption) ?_
        (try simp only [Act.put, List.getElem_toArray, List.getElem_cons_zero, List.getElem_cons_succ, List.setIfInBounds_toArray, List.set_cons_zero, List.set_cons_succ])
        refine wpAnyH_take (i := 9) (v := .agg (inv j)) rfl (by kernel_rfl) (by kernel_rfl) (by kernel_rfl) (fun _ _ _ h => h) (yieldsIf_load_mid (by rfl) 52 (.tmp 5) rfl J 0 rfl (inv j).toList _ (fun w hw => hw.2.2.2) Tryz.underlying52 rfl info_in) (by assumption) ?_
        (try simp only [Act.put, List.getElem_toArray, List.getElem_cons_zero, List.getElem_cons_succ, List.setIfInBounds_toArray, List.set_cons_zero, List.set_cons_succ])
        refine wpAnyH_ready (rs := [10, 12]) (by kernel_rfl) (by simp) ?_
        refine AllReadyH.cons rfl (fun K hK => ?rc) (AllReadyH.cons rfl (fun K hK => ?rd) AllReadyH.nil)
        case' rc =>
          go_simp
          with_reducible refine (base_any M.s j hg hfit hr _ L6').mono ?_
          rintro e w7 ⟨rfl, hb7⟩
          refine hK.out _ _ (HT.out _ hb7) (fun hHeld7 => ?_)
          clear hK K
          (try simp only [Act.put, List.getElem_toArray, List.getElem_cons_zero, List.getElem_cons_succ, List.setIfInBounds_toArray, List.set_cons_zero, List.set_cons_succ])
          refine wpAnyH_take (i := 11) (v := .agg (evv (M.s.R 15) W1.da W1.wo (basI M.s j) 0)) rfl (by kernel_rfl) (by kernel_rfl) (by kernel_rfl) (fun _ _ _ h => h) (Or.inl ⟨by rfl, fun w hw => by go_simp; (try simp [evv])⟩) (by assumption) ?_
          (try simp only [Act.put, List.getElem_toArray, List.getElem_cons_zero, List.getElem_cons_succ, List.setIfInBounds_toArray, List.set_cons_zero, List.set_cons_succ])
          refine wpAnyH_ready (rs := [12]) (by kernel_rfl) (by simp) ?_
          refine AllReadyH.cons rfl (fun K hK => ?_) AllReadyH.nil
          go_simp
          have hb8 : Below w6.drew.heap.size w6.drew (w7.alloc (.cells #[.int .u32 0, .int .u32 0, .int .i64 0, .int .i64 0, .int .i64 0] 41)) := hb7.alloc hb7.size _
          have E8 := heap_alloc_last w7 (.cells #[.int .u32 0, .int .u32 0, .int .i64 0, .int .i64 0, .int .i64 0] 41)
          refine hK.out _ _ (HT.out _ hb8) (fun hHeld8 => ?_)
          clear hK K
          have hv : w6.heap.size ≤ w7.heap.size := hb7.size
        case' rd =>
          go_simp
          have hb7 : Below w6.drew.heap.size w6.drew (w6.alloc (.cells #[.int .u32 0, .int .u32 0, .int .i64 0, .int .i64 0, .int .i64 0] 41)).drew := (((Below.refl w6.heap.size w6).alloc (Nat.le_refl _) (.cells #[.int .u32 0, .int .u32 0, .int .i64 0, .int .i64 0, .int .i64 0] 41)) |> fun q => ⟨q.os, by have := q.tape; first | exact this | rfl, q.output, q.size, q.block⟩)
          have E7 : (w6.alloc (.cells #[.int .u32 0, .int .u32 0, .int .i64 0, .int .i64 0, .int .i64 0] 41)).drew.heap[w6.heap.size]? = _ := heap_alloc_last w6 (.cells #[.int .u32 0, .int .u32 0, .int .i64 0, .int .i64 0, .int .i64 0] 41)
          have L7 : Inst.Laid (w6.alloc (.cells #[.int .u32 0, .int .u32 0, .int .i64 0, .int .i64 0, .int .i64 0] 41)).drew := L6'.below hb7
          refine hK.out _ _ (HT.out _ hb7) (fun hHeld7 => ?_)
          clear hK K
          (try simp only [Act.put, List.getElem_toArray, List.getElem_cons_zero, List.getElem_cons_succ, List.setIfInBounds_toArray, List.set_cons_zero, List.set_cons_succ])
          refine wpAnyH_ready (rs := [10]) (by kernel_rfl) (by simp) ?_
          refine AllReadyH.cons rfl (fun K hK => ?_) AllReadyH.nil
          go_simp
          with_reducible refine (base_any M.s j hg hfit hr _ L7).mono ?_
          rintro e w8 ⟨rfl, hb0⟩
          have hb8 : Below w6.drew.heap.size w6.drew w8 := hb7.trans (hb0.mono hb7.size)
          have E8 := (hb0.block _ (lt_of_heap E7)).trans E7
          refine hK.out _ _ (HT.out _ hb8) (fun hHeld8 => ?_)
          clear hK K
          (try simp only [Act.put, List.getElem_toArray, List.getElem_cons_zero, List.getElem_cons_succ, List.setIfInBounds_toArray, List.set_cons_zero, List.set_cons_succ])
          refine wpAnyH_take (i := 11) (v := .agg (evv (M.s.R 15) W1.da W1.wo (basI M.s j) 0)) rfl (by kernel_rfl) (by kernel_rfl) (by kernel_rfl) (fun _ _ _ h => h) (Or.inl ⟨by rfl, fun w hw => by go_simp; (try simp [evv])⟩) (by assumption) ?_
          have hv : w6.heap.size ≤ w6.drew.heap.size := Nat.le_refl _
        all_goals
          (try simp only [Act.put, List.getElem_toArray, List.getElem_cons_zero, List.getElem_cons_succ, List.setIfInBounds_toArray, List.set_cons_zero, List.set_cons_succ])
          refine wpAnyH_ready (rs := [13]) (by kernel_rfl) (by simp) ?_
          refine AllReadyH.cons rfl (fun K hK => ?_) AllReadyH.nil
          refine wp_store_row 41 (.tmp 9) (.tmp 67) rfl _ (evv (M.s.R 15) W1.da W1.wo (basI M.s j) 0) rfl rfl 41 _ E8 info_ev rfl (one_ev _ _ _ _ _) ?_
          have hb9 := setRow_below hb8 hv (evv (M.s.R 15) W1.da W1.wo (basI M.s j) 0)
          have E9 := setRow_heap _ _ _ (evv (M.s.R 15) W1.da W1.wo (basI M.s j) 0) _ _ E8
          refine hK.out _ _ (HT.out _ hb9) (fun hHeld9 => ?_)
          clear hK K
          refine wpAnyH_done (by kernel_rfl) ?_ _
          go_wp2_with fail
          go_meet
          case rel => exact ⟨_, rfl, E9, hv, (Below.refl _ w6).drew.trans hb9⟩
      case rest =>
        obtain ⟨V, rfl, EV, hV, B7⟩ := hcut
        have hS6 : S < w6.heap.size := lt_of_heap E6.out
        have hJ6 : J < w6.heap.size := lt_of_heap J6.out
        have hC6 : C < w6.heap.size := M6.lt
        have M7 : Mx wc C M := M6.below B7
        have W7 : Wk wc D W1 := h6.below B7
        have J7 := hide ((B7.block _ hJ6).trans J6.out)
        have E7 := hide ((B7.block _ hS6).trans E6.out)
        have I7 := hide (HIM.out.below B7)
        have O7 := hide (O6.out.trans (Off.of_below B7))
        have hV7 : V < wc.heap.size := lt_of_heap EV
        have hs24 := siz_24 hr
        clear HIM O6 B7 J6 E6 M6 h6 L6
        go_upto_region 11 with fail
        (try simp only [Act.put, List.getElem_toArray, List.getElem_cons_zero, List.getElem_cons_succ, List.setIfInBounds_toArray, List.set_cons_zero, List.set_cons_succ])
        go_cut [] from 10 (fun wx => Mx wx C { M with fl := true, l := Clock.lst (M.s.R 15) (Inst.siz j.f) } ∧ wx.heap[V]? = some (.cells (evA M j W1) 41 (0, 0)) ∧ Off [C, V] wc wx)
        case first =>
          go_wp2_with fail
          have q2 : wc.drew.rangeAt J 0 (inv j).toList := range_all (show wc.drew.heap[J]? = _ from J7.out)
          have hC7 : C < wc.drew.heap.size := M7.lt
          have x22 : wc.drew.cell? ⟨C, 22, none⟩ = some (.bool M.fl) := Mx.cell (show Mx wc.drew C M from M7) rfl
          have x23 : wc.drew.cell? ⟨C, 23, none⟩ = some (.int .u32 M.l) := Mx.cell (show Mx wc.drew C M from M7) rfl
          refine wp_region_held_drew (S := fun w' => w'.rangeAt J 0 (inv j).toList) (by kernel_rfl) q2 (fun hHeld => ?_)
          refine wpAnyH_take (i := 0) (v := ?_) rfl (by kernel_rfl) (by kernel_rfl) (by kernel_rfl) (fun _ _ _ h => h) (Or.inl ⟨by rfl, ?_⟩) (by assumption) ?_
          rotate_left
          · intro w hSw; (try dsimp only at hSw); go_simp; (try with_reducible rfl)
          (try simp only [Act.put, List.getElem_toArray, List.getElem_cons_zero, List.setIfInBounds_toArray, List.set_cons_zero, List.set_cons_succ])
          refine wpAnyH_take (i := 1) (v := ?_) rfl (by kernel_rfl) (by kernel_rfl) (by kernel_rfl) (fun _ _ _ h => h) (Or.inl ⟨by rfl, ?_⟩) (by assumption) ?_
          rotate_left
          · intro w hSw; (try dsimp only at hSw); go_simp; (try with_reducible rfl)
          (try simp only [Act.put, List.getElem_toArray, List.getElem_cons_zero, List.getElem_cons_succ, List.setIfInBounds_toArray, List.set_cons_zero, List.set_cons_succ])
          refine wpAnyH_take (i := 2) (v := ?_) rfl (by kernel_rfl) (by kernel_rfl) (by kernel_rfl) (fun _ _ _ h => h) (Or.inl ⟨by rfl, ?_⟩) (by assumption) ?_
          rotate_left
          · intro w hSw; (try dsimp only at hSw); go_simp; (try with_reducible rfl)
          (try simp only [Act.put, List.getElem_toArray, List.getElem_cons_zero, List.getElem_cons_succ, List.setIfInBounds_toArray, List.set_cons_zero, List.set_cons_succ])
          refine wpAnyH_take (i := 3) (v := ?_) rfl (by kernel_rfl) (by kernel_rfl) (by kernel_rfl) (fun _ _ _ h => h) (Or.inl ⟨by rfl, ?_⟩) (by assumption) ?_
          rotate_left
          · intro w hSw; (try dsimp only at hSw); go_simp; (try with_reducible rfl)
          (try simp only [Act.put, List.getElem_toArray, List.getElem_cons_zero, List.getElem_cons_succ, List.setIfInBounds_toArray, List.set_cons_zero, List.set_cons_succ])
          refine wpAnyH_take (i := 5) (v := ?_) rfl (by kernel_rfl) (by kernel_rfl) (by kernel_rfl) (fun _ _ _ h => h) (Or.inl ⟨by rfl, ?_⟩) (by assumption) ?_
          rotate_left
          · intro w hSw; (try dsimp only at hSw); go_simp; (try with_reducible rfl)
          (try simp only [Act.put, List.getElem_toArray, List.getElem_cons_zero, List.getElem_cons_succ, List.setIfInBounds_toArray, List.set_cons_zero, List.set_cons_succ])
          refine wpAnyH_take (i := 6) (v := .agg (inv j)) rfl (by kernel_rfl) (by kernel_rfl) (by kernel_rfl) (fun _ _ _ h => h) (yieldsIf_load_mid (by rfl) 52 (.tmp 5) rfl J 0 rfl (inv j).toList _ (fun w hw => hw) Tryz.underlying52 rfl info_in) (by assumption) ?_
          (try simp only [Act.put, List.getElem_toArray, List.getElem_cons_zero, List.getElem_cons_succ, List.setIfInBounds_toArray, List.set_cons_zero, List.set_cons_succ])
          refine wpAnyH_ready (rs := [4, 7]) (by kernel_rfl) (by simp) ?_
          refine AllReadyH.cons rfl (fun K hK => ?rf) (AllReadyH.cons rfl (fun K hK => ?rg) AllReadyH.nil)
          case' rf =>
            go_simp
            refine hK.out _ _ q2 (fun hHeld6 => ?_)
            clear hK K
            (try simp only [Act.put, List.getElem_toArray, List.getElem_cons_zero, List.getElem_cons_succ, List.setIfInBounds_toArray, List.set_cons_zero, List.set_cons_succ])
            refine wpAnyH_ready (rs := [7]) (by kernel_rfl) (by simp) ?_
            refine AllReadyH.cons rfl (fun K hK => ?_) AllReadyH.nil
            go_simp
            with_reducible refine (BytesI j _).mono ?_
            rintro e w7 ⟨rfl, hb7⟩
            refine hK.out _ _ (range_below q2 hb7) (fun hHeld7 => ?_)
            clear hK K
          case' rg =>
            go_simp
            with_reducible refine (BytesI j _).mono ?_
            rintro e w7 ⟨rfl, hb7⟩
            refine hK.out _ _ (range_below q2 hb7) (fun hHeld7 => ?_)
            clear hK K
            have z22 : w7.cell? ⟨C, 22, none⟩ = some (.bool M.fl) := (hb7.cell (p := ⟨C, 22, none⟩) hC7).trans x22
            have z23 : w7.cell? ⟨C, 23, none⟩ = some (.int .u32 M.l) := (hb7.cell (p := ⟨C, 23, none⟩) hC7).trans x23
            (try simp only [Act.put, List.getElem_toArray, List.getElem_cons_zero, List.getElem_cons_succ, List.setIfInBounds_toArray, List.set_cons_zero, List.set_cons_succ])
            refine wpAnyH_ready (rs := [4]) (by kernel_rfl) (by simp) ?_
            refine AllReadyH.cons rfl (fun K hK => ?_) AllReadyH.nil
            go_simp
            refine hK.out _ _ (range_below q2 hb7) (fun hHeld6 => ?_)
            clear hK K
          all_goals
            (try simp only [Act.put, List.getElem_toArray, List.getElem_cons_zero, List.getElem_cons_succ, List.setIfInBounds_toArray, List.set_cons_zero, List.set_cons_succ])
            refine wpAnyH_ready (rs := [8]) (by kernel_rfl) (by simp) ?_
            refine AllReadyH.cons rfl (fun K hK => ?_) AllReadyH.nil
            go_simp
            with_reducible refine (Clock.Fetch_any M.fl M.l (M.s.R 15) (Inst.siz j.f) hs24 b15.1 b15.2 _).mono ?_
            rintro e w8 ⟨rfl, hb8⟩
            have hb9 : Below wc.drew.heap.size wc.drew w8 := hb7.trans (hb8.mono hb7.size)
            refine hK.out _ _ (range_below q2 hb9) (fun hHeld8 => ?_)
            clear hK K
            (try simp only [Act.put, List.getElem_toArray, List.getElem_cons_zero, List.getElem_cons_succ, List.setIfInBounds_toArray, List.set_cons_zero, List.set_cons_succ])
            refine wpAnyH_take (i := 9) (v := ?_) rfl (by kernel_rfl) (by kernel_rfl) (by kernel_rfl) (fun _ _ _ h => h) (Or.inl ⟨by rfl, ?_⟩) (by assumption) ?_
            rotate_left
            · intro w hSw; (try dsimp only at hSw); go_simp; (try with_reducible rfl)
            (try simp only [Act.put, List.getElem_toArray, List.getElem_cons_zero, List.getElem_cons_succ, List.setIfInBounds_toArray, List.set_cons_zero, List.set_cons_succ])
            refine wpAnyH_take (i := 10) (v := ?_) rfl (by kernel_rfl) (by kernel_rfl) (by kernel_rfl) (fun _ _ _ h => h) (Or.inl ⟨by rfl, ?_⟩) (by assumption) ?_
            rotate_left
            · intro w hSw; (try dsimp only at hSw); go_simp; (try with_reducible rfl)
            (try simp only [Act.put, List.getElem_toArray, List.getElem_cons_zero, List.getElem_cons_succ, List.setIfInBounds_toArray, List.set_cons_zero, List.set_cons_succ])
            refine wpAnyH_take (i := 11) (v := ?_) rfl (by kernel_rfl) (by kernel_rfl) (by kernel_rfl) (fun _ _ _ h => h) (Or.inl ⟨by rfl, ?_⟩) (by assumption) ?_
            rotate_left
            · intro w hSw; (try dsimp only at hSw); go_simp; (try with_reducible rfl)
            (try simp only [Act.put, List.getElem_toArray, List.getElem_cons_zero, List.getElem_cons_succ, List.setIfInBounds_toArray, List.set_cons_zero, List.set_cons_succ])
            refine wpAnyH_take (i := 12) (v := ?_) rfl (by kernel_rfl) (by kernel_rfl) (by kernel_rfl) (fun _ _ _ h => h) (Or.inl ⟨by rfl, ?_⟩) (by assumption) ?_
            rotate_left
            · intro w hSw; (try dsimp only at hSw); go_simp; (try with_reducible rfl)
            (try simp only [Act.put, List.getElem_toArray, List.getElem_cons_zero, List.getElem_cons_succ, List.setIfInBounds_toArray, List.set_cons_zero, List.set_cons_succ])
            refine wpAnyH_take (i := 13) (v := ?_) rfl (by kernel_rfl) (by kernel_rfl) (by kernel_rfl) (fun _ _ _ h => h) (Or.inl ⟨by rfl, ?_⟩) (by assumption) ?_
            rotate_left
            · intro w hSw; (try dsimp only at hSw); go_simp; (try with_reducible rfl)
            (try simp only [Act.put, List.getElem_toArray, List.getElem_cons_zero, List.getElem_cons_succ, List.setIfInBounds_toArray, List.set_cons_zero, List.set_cons_succ])
            have M9 : Mx w8 C M := (show Mx wc.drew C M from M7).below hb9
            have V9 : w8.heap[V]? = some (.cells (evv (M.s.R 15) W1.da W1.wo (basI M.s j) 0) 41 (0, 0)) := (hb9.block _ hV7).trans EV
            have t22 : w8.cell? ⟨C, 22, none⟩ = some (.bool M.fl) := M9.cell rfl
            have t23 : w8.cell? ⟨C, 23, none⟩ = some (.int .u32 M.l) := M9.cell rfl
            have y22 := M9.free 22
            have y23 := M9.free 23
            have hCV : C ≠ V := by omega
            have hJV : J ≠ V := by omega
            have hJC : J ≠ C := by omega
            refine wpAnyH_ready (rs := [14]) (by kernel_rfl) (by simp) ?_
            refine AllReadyH.cons rfl (fun K hK => ?_) AllReadyH.nil
            go_simp
            have M10 : Mx ((w8.setCell ⟨C, 22, none⟩ (.bool true)).setCell ⟨C, 23, none⟩ (.int .u32 (Clock.lst (M.s.R 15) (Inst.siz j.f)))) C { M with fl := true, l := Clock.lst (M.s.R 15) (Inst.siz j.f) } := (M9.set (k := 22) (v := .bool true) (M' := { M with fl := true }) rfl).set rfl
            have O10 : Off [C, V] w8 ((w8.setCell ⟨C, 22, none⟩ (.bool true)).setCell ⟨C, 23, none⟩ (.int .u32 (Clock.lst (M.s.R 15) (Inst.siz j.f)))) := ((Off.refl _ _).set (p := ⟨C, 22, none⟩) (by simp) _).set (p := ⟨C, 23, none⟩) (by simp) _
            have R10 := range_set (D := C) (k := 23) (v := .int .u32 (Clock.lst (M.s.R 15) (Inst.siz j.f))) (range_set (D := C) (k := 22) (v := .bool true) (range_below q2 hb9) hJC) hJC
            have V10 : ((w8.setCell ⟨C, 22, none⟩ (.bool true)).setCell ⟨C, 23, none⟩ (.int .u32 (Clock.lst (M.s.R 15) (Inst.siz j.f)))).heap[V]? = some (.cells (evv (M.s.R 15) W1.da W1.wo (basI M.s j) 0) 41 (0, 0)) := (Below.heap_setCell _ _ _ _ (fun e => hCV e.symm)).trans ((Below.heap_setCell _ _ _ _ (fun e => hCV e.symm)).trans V9)
            refine hK.out _ _ R10 (fun hHeld9 => ?_)
            clear hK K t22 t23 y22 y23
            generalize (w8.setCell ⟨C, 22, none⟩ (.bool true)).setCell ⟨C, 23, none⟩ (.int .u32 (Clock.lst (M.s.R 15) (Inst.siz j.f))) = w9 at *
            have x4 : w9.cell? ⟨V, 4, none⟩ = some (.int .i64 0) := by rw [cell_of_row w9 V 4 _ _ _ V10]; rfl
            have y4 := free_row V10 4
            (try simp only [Act.put, List.getElem_toArray, List.getElem_cons_zero, List.getElem_cons_succ, List.setIfInBounds_toArray, List.set_cons_zero, List.set_cons_succ])
            refine wpAnyH_take (i := 15) (v := ?_) rfl (by kernel_rfl) (by kernel_rfl) (by kernel_rfl) (fun _ _ _ h => h) (Or.inl ⟨by rfl, ?_⟩) (by assumption) ?_
            rotate_left
            · intro w hSw; (try dsimp only at hSw); go_simp; (try with_reducible rfl)
            (try simp only [Act.put, List.getElem_toArray, List.getElem_cons_zero, List.getElem_cons_succ, List.setIfInBounds_toArray, List.set_cons_zero, List.set_cons_succ])
            refine wpAnyH_ready (rs := [16]) (by kernel_rfl) (by simp) ?_
            refine AllReadyH.cons rfl (fun K hK => ?_) AllReadyH.nil
            go_simp
            have M11 : Mx (w9.setCell ⟨V, 4, none⟩ (.int .i64 (Clock.mss M.fl M.l (M.s.R 15) (Inst.siz j.f)))) C { M with fl := true, l := Clock.lst (M.s.R 15) (Inst.siz j.f) } := (Below.heap_setCell _ _ _ _ hCV).trans M10
            have O11 := O10.set (p := ⟨V, 4, none⟩) (by simp) (.int .i64 (Clock.mss M.fl M.l (M.s.R 15) (Inst.siz j.f)))
            have V11 : (w9.setCell ⟨V, 4, none⟩ (.int .i64 (Clock.mss M.fl M.l (M.s.R 15) (Inst.siz j.f)))).heap[V]? = some (.cells (evA M j W1) 41 (0, 0)) := setRam_heap w9 4 _ V10
            refine hK.out _ _ (range_set R10 hJV) (fun hHeld10 => ?_)
            clear hK K
            refine wpAnyH_done (by kernel_rfl) ?_ _
            go_wp2_with fail
            go_meet
            case rel => exact ⟨M11, V11, (Off.refl _ wc).drew.trans ((Off.of_below hb9).trans O11)⟩
        case rest =>
          obtain ⟨M8, V8, O8⟩ := hcut
          have W8 : Wk wc D W1 := W7.off O8 (by simp; omega)
          have E8 := hide ((O8.block _ (lt_of_heap E7.out) (by simp; omega)).trans E7.out)
          have hMC : M.m ≠ C := fun e => by have x := hm.box; rw [e, show w.heap[C]? = _ from h] at x; simp at x
          have hFC : F ≠ C := fun e => by have x := hm.fl; rw [e, show w.heap[C]? = _ from h] at x; simp at x
          have tM := hm.ltB
          have tF := hm.ltF
          have I8 := hide (isOff I7.out O8 (by simp; exact ⟨hMC, by omega⟩) (by simp; exact ⟨hFC, by omega⟩) (by simp; exact ⟨fun e => hCR e.symm, by omega⟩))
          have P8 := hide ((O7.out.mono (T := [D, R, C, V]) (by intro k hk; simp at hk ⊢; omega)).trans (O8.mono (T := [D, R, C, V]) (by intro k hk; simp at hk ⊢; omega)))
          clear O7 I7 E7 W7 M7 EV J7
          have c24 : wc.cell? ⟨C, 24, none⟩ = some (.int .i64 M.cy) := M8.cell rfl
          have c1 : wc.cell? ⟨C, 1, none⟩ = some (.int .i64 M.wait) := M8.cell rfl
          have f24 := M8.free 24
          have v3 : wc.cell? ⟨V, 3, none⟩ = some (.int .i64 (basI M.s j)) := by rw [cell_of_row wc V 3 _ _ _ V8]; rfl
          have v4 : wc.cell? ⟨V, 4, none⟩ = some (.int .i64 (Clock.mss M.fl M.l (M.s.R 15) (Inst.siz j.f))) := by rw [cell_of_row wc V 4 _ _ _ V8]; rfl
          have bB := basI_bd hg j
          have bM := Clock.mss_bd M.fl M.l (M.s.R 15) (Inst.siz j.f)
          have bP := mul_bd bM hwt
          replace M8 := hide M8
          replace V8 := hide V8
          replace W8 := hide W8
          clear O8
          go_wp2_with fail
          go_region
          clear c24 c1 f24 v3 v4
          have M12 : Mx (wc.setCell ⟨C, 24, none⟩ (.int .i64 (M.cy + (basI M.s j + Clock.mss M.fl M.l (M.s.R 15) (Inst.siz j.f) * M.wait)))).drew C ⟨M.m, M.wait, M.s, true, Clock.lst (M.s.R 15) (Inst.siz j.f), M.cy + (basI M.s j + Clock.mss M.fl M.l (M.s.R 15) (Inst.siz j.f) * M.wait), M.hk, M.hc⟩ := M8.out.set (k := 24) rfl
          have O12 : Off [C] wc (wc.setCell ⟨C, 24, none⟩ (.int .i64 (M.cy + (basI M.s j + Clock.mss M.fl M.l (M.s.R 15) (Inst.siz j.f) * M.wait)))).drew := ((Off.refl _ _).set (p := ⟨C, 24, none⟩) (by simp) _).drew
          generalize (wc.setCell ⟨C, 24, none⟩ (.int .i64 (M.cy + (basI M.s j + Clock.mss M.fl M.l (M.s.R 15) (Inst.siz j.f) * M.wait)))).drew = w12 at *
          have nDC : D ∉ [C] := by simp; omega
          have W12 : Wk w12 D W1 := W8.out.off O12 nDC
          have hR12 := hide W12.range
          have k33 := W12.chk
          have k34 := W12.chc
          have hT12 := hide M12.there
          have M13 := M12.setS W1.s
          have P13 := setCells_off C (stv W1.s).toList 2 w12
          have z25 := M13.cell (k := 25) rfl
          have z26 := M13.cell (k := 26) rfl
          have y25 := M13.free 25
          have y26 := M13.free 26
          have M14 := hide (show Mx _ C (aft M j W1) from (M13.set (k := 25) (v := .int .i64 W1.hk) (M' := ⟨M.m, M.wait, W1.s, true, Clock.lst (M.s.R 15) (Inst.siz j.f), M.cy + (basI M.s j + Clock.mss M.fl M.l (M.s.R 15) (Inst.siz j.f) * M.wait), W1.hk, M.hc⟩) rfl).set (k := 26) (v := .int .i64 W1.hc) rfl)
          have O14 := hide ((O12.trans P13).set (p := ⟨C, 25, none⟩) (by simp) (.int .i64 W1.hk) |>.set (p := ⟨C, 26, none⟩) (by simp) (.int .i64 W1.hc))
          clear W12 M12 O12 M13 P13 M8 W8
          go_upto_region 14 with (first | (refine wpList_load_mid rfl 27 (.tmp 102) rfl D 0 rfl (stv W1.s).toList _ (unhide hR12) Tryz.underlying27 rfl info_st ?_) | (refine wpList_store_mid rfl 27 (.tmp 107) (.tmp 103) rfl C 2 (stv W1.s) rfl rfl (unhide hT12) info_st (one_st _) ?_; generalize w12.setCells C 2 (stv W1.s).toList = w13 at *))
          (try simp only [Act.put, List.getElem_toArray, List.getElem_cons_zero, List.getElem_cons_succ, List.setIfInBounds_toArray, List.set_cons_zero, List.set_cons_succ])
          generalize hw14 : (w13.setCell ⟨C, 25, none⟩ (.int .i64 W1.hk)).setCell ⟨C, 26, none⟩ (.int .i64 W1.hc) = w14 at *
          clear k33 k34 z25 z26 y25 y26 hw14
          have V14 : w14.heap[V]? = some (.cells (evA M j W1) 41 (0, 0)) := (O14.out.block V (lt_of_heap V8.out) (by simp; omega)).trans V8.out
          have E14 := (O14.out.block S (lt_of_heap E8.out) (by simp; omega)).trans E8.out
          have I14 := hide (isOff I8.out O14.out (by simpa using hMC) (by simpa using hFC) (by simpa using fun e => hCR e.symm))
          have hz : S < w14.heap.size := lt_of_heap E14
          have a0 : w14.cell? ⟨V, 0, none⟩ = some (.int .u32 (M.s.R 15)) := by rw [cell_of_row w14 V 0 _ _ _ V14]; rfl
          have a1 : w14.cell? ⟨V, 1, none⟩ = some (.int .u32 W1.da) := by rw [cell_of_row w14 V 1 _ _ _ V14]; rfl
          have a2 : w14.cell? ⟨V, 2, none⟩ = some (.int .i64 W1.wo) := by rw [cell_of_row w14 V 2 _ _ _ V14]; rfl
          have a3 : w14.cell? ⟨V, 3, none⟩ = some (.int .i64 (basI M.s j)) := by rw [cell_of_row w14 V 3 _ _ _ V14]; rfl
          have a4 : w14.cell? ⟨V, 4, none⟩ = some (.int .i64 (Clock.mss M.fl M.l (M.s.R 15) (Inst.siz j.f))) := by rw [cell_of_row w14 V 4 _ _ _ V14]; rfl
          have e0 : w14.cell? ⟨S, 0, none⟩ = some (.int .u32 0) := by rw [cell_of_row w14 S 0 _ _ _ E14]; rfl
          have e1 : w14.cell? ⟨S, 1, none⟩ = some (.int .u32 0) := by rw [cell_of_row w14 S 1 _ _ _ E14]; rfl
          have e2 : w14.cell? ⟨S, 2, none⟩ = some (.int .i64 0) := by rw [cell_of_row w14 S 2 _ _ _ E14]; rfl
          have e3 : w14.cell? ⟨S, 3, none⟩ = some (.int .i64 0) := by rw [cell_of_row w14 S 3 _ _ _ E14]; rfl
          have e4 : w14.cell? ⟨S, 4, none⟩ = some (.int .i64 0) := by rw [cell_of_row w14 S 4 _ _ _ E14]; rfl
          have f0 := free_row E14 0
          have f1 := free_row E14 1
          have f2 := free_row E14 2
          have f3 := free_row E14 3
          have f4 := free_row E14 4
          have P15 := hide ((((((Off.refl [S] w14).set (p := ⟨S, 0, none⟩) (by simp) (.int .u32 (M.s.R 15))).set (p := ⟨S, 1, none⟩) (by simp) (.int .u32 W1.da)).set (p := ⟨S, 2, none⟩) (by simp) (.int .i64 W1.wo)).set (p := ⟨S, 3, none⟩) (by simp) (.int .i64 (basI M.s j))).set (p := ⟨S, 4, none⟩) (by simp) (.int .i64 (Clock.mss M.fl M.l (M.s.R 15) (Inst.siz j.f))))
          go_wp2_with fail
          refine bodyPost_ret (v := .tuple #[.agg (evA M j W1), .int .i64 0]) (by simp [results, Tryz.results38, go_sem, e0, e1, e2, e3, e4, hz, evv, evA]) rfl ⟨.inr ⟨rfl, rfl, ?_⟩, ?_, ?_⟩
          · exact M14.out.off P15.out (by simp; omega)
          · exact isOff I14.out P15.out (by simp; omega) (by simp; omega) (by simp; omega)
          · refine Off.sub (((P8.out.mono (T := [D, R, C, V, S]) (by intro k hk; simp at hk ⊢; omega)).trans (O14.out.mono (by intro k hk; simp at hk ⊢; omega))).trans (P15.out.mono (by intro k hk; simp at hk ⊢; omega))) (by intro k hk; simp at hk ⊢; omega)
    · have he' : (en == 0) = false := by simpa using he
      have HE := hide he
      clear he
      have hz : S < w6.heap.size := lt_of_heap E6.out
      have e0 : w6.cell? ⟨S, 0, none⟩ = some (.int .u32 0) := by rw [cell_of_row w6 S 0 _ _ _ E6.out]; rfl
      have e1 : w6.cell? ⟨S, 1, none⟩ = some (.int .u32 0) := by rw [cell_of_row w6 S 1 _ _ _ E6.out]; rfl
      have e2 : w6.cell? ⟨S, 2, none⟩ = some (.int .i64 0) := by rw [cell_of_row w6 S 2 _ _ _ E6.out]; rfl
      have e3 : w6.cell? ⟨S, 3, none⟩ = some (.int .i64 0) := by rw [cell_of_row w6 S 3 _ _ _ E6.out]; rfl
      have e4 : w6.cell? ⟨S, 4, none⟩ = some (.int .i64 0) := by rw [cell_of_row w6 S 4 _ _ _ E6.out]; rfl
      have f0 := free_row E6.out 0
      have f1 := free_row E6.out 1
      have f2 := free_row E6.out 2
      have f3 := free_row E6.out 3
      have f4 := free_row E6.out 4
      have hSM := M6.lt
      have O7 := ((((O6.out.mono (T := [D, R, S]) (by intro k hk; simp at hk ⊢; omega)).set (p := ⟨S, 0, none⟩) (by simp) (.int .u32 0)).set (p := ⟨S, 1, none⟩) (by simp) (.int .u32 0)).set (p := ⟨S, 2, none⟩) (by simp) (.int .i64 0)).set (p := ⟨S, 3, none⟩) (by simp) (.int .i64 0) |>.set (p := ⟨S, 4, none⟩) (by simp) (.int .i64 0)
      have P7 := ((((Off.refl [S] w6).set (p := ⟨S, 0, none⟩) (by simp) (.int .u32 0)).set (p := ⟨S, 1, none⟩) (by simp) (.int .u32 0)).set (p := ⟨S, 2, none⟩) (by simp) (.int .i64 0)).set (p := ⟨S, 3, none⟩) (by simp) (.int .i64 0) |>.set (p := ⟨S, 4, none⟩) (by simp) (.int .i64 0)
      have hBm := hm.ltB
      have hBf := hm.ltF
      replace O7 := hide O7
      replace P7 := hide P7
      go_wp2_with fail
      refine bodyPost_ret (v := .tuple #[.agg (evv 0 0 0 0 0), .int .i64 en]) (by simp [results, Tryz.results38, go_sem, e0, e1, e2, e3, e4, hz, evv]) rfl ⟨.inl ⟨HE.out, rfl, ?_⟩, ?_, ?_⟩
      · exact h.off O7.out (by first | (simp; done) | (simp; omega))
      · exact isOff m6 P7.out (by first | (simp; done) | (simp; omega)) (by first | (simp; done) | (simp; omega)) (by first | (simp; done) | (simp; omega))
      · exact O7.out.sub (by intro k hk; simp at hk ⊢; omega)
end Go.Proofs.YtfdnjoieolijcaaGreatDoor.Core

