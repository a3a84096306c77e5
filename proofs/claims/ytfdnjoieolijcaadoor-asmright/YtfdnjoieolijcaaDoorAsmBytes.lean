/- A laid program's bytes: with, bytes of package asm. -/
import Derived.Test.YtfdnjoieolijcaaDoorAsmWiden
import Derived.Test.YtfdnjoieolijcaaDoorAsmNear
import Derived.Test.YtfdnjoieolijcaaDoorCodeBytesA
import Derived.Laws.OwnMore
set_option linter.unusedVariables false
set_option linter.unusedSimpArgs false
namespace Go.Proofs.YtfdnjoieolijcaaDoor.Asm
open Go.RowKit Go.Proofs.YtfdnjoieolijcaaDoor.Core Go.Proofs.YtfdnjoieolijcaaDoor.Alu

/-- An instruction's bytes. -/
def insB (i : Ins) : List Int := Code.byt (Code.wd i.f i.rd i.rn i.rm i.ra i.im i.kd i.bs i.st i.cd i.rg) (Inst.wdF i.f)
theorem insB_len (i : Ins) : (insB i).length = if Inst.wdF i.f then 4 else 2 := by unfold insB Code.byt; split <;> simp
theorem BytesY (i : Ins) (hr : i.right = true) (g : -9223372036854775808 ≤ i.rg ∧ i.rg ≤ 9223372036854775807) (w : World) (hL : Code.Laid w) :
    Calls Tryd.prog 72 #[.agg (inv i)] w fun e w' => ∃ v, e = .returned (.tuple #[v, .int .i64 0]) ∧ w'.ownsRow w.heap.size 5 1 v (insB i).length (Code.u8s (insB i)) ∧ Below w.heap.size w w' :=
  Code.Bytes_yes i.f i.rd i.rn i.rm i.ra i.im i.kd i.bs i.st i.cd i.rg hr g.1 g.2 w hL
theorem owns_below {w w' : World} {base : Nat} {e : TypeId} {size : Nat} {v : Value} {n : Nat} {xs : List Value} (h : w.ownsRow base e size v n xs) (hb : Below w.heap.size w w') : w'.ownsRow base e size v n xs :=
  h.kept (row := none) ⟨hb.os, hb.tape, hb.output, hb.size, fun i hi _ => hb.block i hi⟩ (by cases v.ownBlock <;> simp)
theorem u8s_one' (l : List Int) : ∀ u ∈ Code.u8s l, u.oneCell' = true := by
  intro u hu
  simp only [Code.u8s, List.mem_map] at hu
  obtain ⟨_, _, rfl⟩ := hu
  rfl
theorem add_off' (g j : Nat) : (⟨g, 0, none⟩ : Addr).add j = ⟨g, j, none⟩ := by unfold Addr.add; split <;> simp_all
theorem u8s_app (a b : List Int) : Code.u8s (a ++ b) = Code.u8s a ++ Code.u8s b := by simp [Code.u8s]

set_option maxRecDepth 100000 in
set_option maxHeartbeats 1000000 in
theorem with_any (B : Nat) (v : Value) (xs : List Int) (i : Ins) (hr : i.right = true) (g : -9223372036854775808 ≤ i.rg ∧ i.rg ≤ 9223372036854775807) (hn : xs.length ≤ 1000000) (w : World) (hown : w.ownsRow B 5 1 v xs.length (Code.u8s xs)) (hB : B ≤ w.heap.size) (hL : Code.Laid w) :
    Calls Tryd.prog 52 #[v, .agg (inv i)] w fun e w' => ∃ v', e = .returned v' ∧ w'.ownsRow B 5 1 v' (xs ++ insB i).length (Code.u8s (xs ++ insB i)) ∧ Below B w w' ∧ ∀ j, j < w.heap.size → v.ownBlock ≠ some j → w'.heap[j]? = w.heap[j]? := by
  obtain ⟨i0, hi, hz0, hz1, hz2⟩ := info_parts Code.infoU8
  have hil := insB_len i
  have hip : 0 < (insB i).length := by rw [hil]; split <;> omega
  have hil4 : (insB i).length ≤ 4 := by rw [hil]; split <;> omega
  have hb1 := (Below.refl B w).alloc hB (.cells (inv i) 24)
  have ho1 := hown.alloc (.cells (inv i) 24)
  have hX := heap_alloc_new w (.cells (inv i) 24)
  have hL1 := hL.alloc (.cells (inv i) 24)
  replace hX := hide hX
  clear hil
  go_enter Tryd.func52, Tryd.ntmps52
  go_wp2_with (refine wpList_load_row rfl 24 (.tmp 3) rfl _ rfl 24 _ (0, 0) _ (unhide hX) Tryd.underlying24 rfl info_in ?_)
  refine (BytesY i hr g _ hL1).mono ?_
  rintro e w3 ⟨v3, rfl, hov, hb3⟩
  obtain ⟨q, gc, rfl, hg0, hg1, hgc, hgm, hgcell⟩ := Code.own_slice hov hip
  have ho3 := owns_below ho1 hb3
  have hb4 := hb1.trans (hb3.mono (Nat.le_trans hB hb1.size))
  have HO3 : Hid (w.heap.size ≤ w3.heap.size ∧ ∀ j, j < w.heap.size → w3.heap[j]? = w.heap[j]?) := ⟨by have := hb3.size; simp at this; omega, fun j hj => (hb3.block j (by simp; omega)).trans (((Below.refl w.heap.size w).alloc (Nat.le_refl _) (.cells (inv i) 24)).block j hj)⟩
  clear hb3
  go_wp2_with (at_builtin; refine wpList_append_own _ rfl (.tmp 12) (.tmp 13) 41 rfl B 5 i0 (.int .u8 0) 1 1 Tryd.underlying41 hi hz0 hz1 hz2 rfl (by decide) _ _ _ rfl ho3 ⟨q, 0, none⟩ (insB i).length _ (Code.u8s (insB i)) rfl ?k1 ?k2 ?k3 ?k4 ?k5 (Nat.le_trans hB hb4.size) ?_)
  case k1 => simp [Code.u8s]
  case k2 => intro j u hj; rw [add_off']; exact hgcell j u hj
  case k3 => exact u8s_one' _
  case k4 => unfold maxLen; omega
  case k5 => omega
  intro v5 w5 ho5 hg5 _
  have hb5 : Below B w w5 := hb4.grown hg5 (Nat.le_trans hB hb4.size) (fun j hj => (ho3.lt j hj).1)
  go_wp2_with fail
  go_ret
  exact ⟨v5, rfl, by rw [List.length_append, u8s_app]; exact ho5, hb5, fun j hj hne => (hg5.block j (by have := HO3.out.1; omega) (fun e => hne e.symm)).trans (HO3.out.2 j hj)⟩

theorem brI_rg (c n : Int) (b : Bool) : -9223372036854775808 ≤ (brI c n b).rg ∧ (brI c n b).rg ≤ 9223372036854775807 := by
  unfold brI; split <;> cases b <;> simp
theorem own_low2 {w : World} {a b : Nat} {e : TypeId} {v : Value} {n : Nat} {xs : List Value} (h : w.ownsRow a e 1 v n xs) (hb : b ≤ a) : w.ownsRow b e 1 v n xs :=
  ⟨h.1, h.2.imp id (fun ⟨g, cap, cur, e, hg, r⟩ => ⟨g, cap, cur, e, Nat.le_trans hb hg, r⟩)⟩
theorem range_belowN {w w' : World} {b o m : Nat} {vs : List Value} (h : w.rangeAt b o vs) (hb : Below m w w') (hm : b < m) : w'.rangeAt b o vs := fun j v hv => (hb.cell (p := ⟨b, o + j, none⟩) hm).trans (h j v hv)
/-- The same again and again. -/
def repB (l : List Int) : Nat → List Int
  | 0 => []
  | m + 1 => repB l m ++ l
theorem repB_len (l : List Int) : ∀ m, (repB l m).length = m * l.length
  | 0 => by simp [repB]
  | m + 1 => by unfold repB; rw [List.length_append, repB_len l m, Nat.succ_mul]
def nopI : Ins := ⟨44, 0, 0, 0, 0, 0, 0, 0, 0, 0, 0⟩
theorem nop_right : nopI.right = true := by decide +kernel
/-- An item's bytes, and those of the first k. -/
def bytT (P : Prg) (X : Nat → It) (W : Nat → Bool) (i : Nat) : List Int :=
  if (X i).k = 1 then insB (X i).i else if (X i).k = 2 then insB (brI (X i).c (P.far W i) (W i)) else if (X i).k = 4 then repB (insB nopI) (misN (P.at_ W i) (X i).t / 2).toNat else []
def bytK (P : Prg) (X : Nat → It) (W : Nat → Bool) : Nat → List Int
  | 0 => []
  | k + 1 => bytK P X W k ++ bytT P X W k
theorem insB_siz {i : Ins} (h : i.right = true) : ((insB i).length : Int) = Inst.siz i.f := by
  have hf : Inst.isF i.f = true := by unfold Ins.right Inst.right at h; simp only [Bool.and_eq_true] at h; exact h.1
  rw [insB_len]
  unfold Inst.siz
  rw [if_pos hf]
  split <;> rfl
theorem nop_len : (insB nopI).length = 2 := by decide +kernel
theorem bytT_len {n : Nat} {X : Nat → It} {W : Nat → Bool} (hr : ∀ i, i < n → rightT (X i) = true) (hj : ∀ i, i < n → (X i).k = 2 → (brI (X i).c ((prg n X).far W i) (W i)).right = true) {i : Nat} (hi : i < n) :
    ((bytT (prg n X) X W i).length : Int) = (prg n X).sz i (W i) ((prg n X).at_ W i) := by
  rw [prg_sz hi]
  unfold bytT szT
  by_cases h1 : (X i).k = 1
  · rw [if_pos h1, if_pos h1]; exact insB_siz (right_code (hr i hi) h1).2
  rw [if_neg h1, if_neg h1]
  by_cases h2 : (X i).k = 2
  · rw [if_pos h2, if_pos h2, insB_siz (hj i hi h2), siz_br]
  rw [if_neg h2, if_neg h2]
  by_cases h4 : (X i).k = 4
  · rw [if_pos h4, if_pos h4, repB_len, nop_len]
    have ht := right_to (hr i hi) h4
    have hb := mis_bd ((prg n X).at_ W i) _ ht
    have he := mis_even ((prg n X).at_ W i) _ ht (Prg.at_even (prg_ok hr) W i)
    omega
  · rw [if_neg h4, if_neg h4]; rfl
theorem bytK_len {n : Nat} {X : Nat → It} {W : Nat → Bool} (hr : ∀ i, i < n → rightT (X i) = true) (hj : ∀ i, i < n → (X i).k = 2 → (brI (X i).c ((prg n X).far W i) (W i)).right = true) : ∀ k, k ≤ n → ((bytK (prg n X) X W k).length : Int) = (prg n X).at_ W k
  | 0, _ => rfl
  | k + 1, hk => by
    have a := bytK_len hr hj k (by omega)
    have b := bytT_len hr hj (show k < n by omega)
    unfold bytK
    rw [List.length_append, Prg.at_succ]
    omega

theorem Size_nop (w : World) : Calls Tryd.prog 35 #[.int .i64 44] w fun e w' => e = .returned (.int .i64 2) ∧ w' = w := Inst.Size_any 44 w
/-- What holds ahead of each round; and of each round of those inside. -/
inductive BRel (P : Prg) (X : Nat → It) (W : Nat → Bool) (n : Nat) (w1 : World) (s7 s12 : Value) (wr : World) : Prop
  | mk (k : Nat) (hk : k ≤ n) (h12 : s12 = .int .i64 k) (ho : wr.ownsRow w1.heap.size 5 1 s7 (bytK P X W k).length (Code.u8s (bytK P X W k))) (hb : Below w1.heap.size w1 wr) : BRel P X W n w1 s7 s12 wr
inductive NRel (L : List Int) (m : Nat) (w1 : World) (s7 s47 : Value) (wr : World) : Prop
  | mk (j : Nat) (hj : j ≤ m) (h47 : s47 = .int .i64 j) (ho : wr.ownsRow w1.heap.size 5 1 s7 (L ++ repB (insB nopI) j).length (Code.u8s (L ++ repB (insB nopI) j))) (hb : Below w1.heap.size w1 wr) : NRel L m w1 s7 s47 wr

set_option maxRecDepth 100000 in
set_option maxHeartbeats 4000000 in
theorem bytes_any {w : World} {vb : Value} {ga gs gg n cap : Nat} {r : Int} {p : Option Addr} {X : Nat → It} {W : Nat → Bool} (hI : Items w p n X) (hr : ∀ i, i < n → rightT (X i) = true) (hA : Rw w ga n ((prg n X).at_ W)) (hS : Rw w gs n (fun i => (prg n X).sz i (W i) ((prg n X).at_ W i))) (hG : Rw w gg n (goalR X n n))
    (hn : n ≤ 10000) (hle : (prg n X).at_ W n ≤ 65536) (hgo : ∀ i, i < n → (X i).k = 2 → goalF X n (X i).l < n) (hbad : ∀ i, i < n → (prg n X).bad W i = false) (hL : Code.Laid w) :
    Calls Tryd.prog 31 #[.agg (ldv vb ga gs n r), .slice p n cap, .slice (some ⟨gg, 0, none⟩) n n] w fun e w' => ∃ v, e = .returned v ∧ w'.ownsRow w.heap.size 5 1 v (bytK (prg n X) X W n).length (Code.u8s (bytK (prg n X) X W n)) ∧ Below w.heap.size w w' := by
  have hn' : (n : Int) ≤ 10000 := by omega
  have hOk := prg_ok (n := n) (X := X) hr
  have hat : ∀ i, i < n → 0 ≤ (prg n X).at_ W i ∧ (prg n X).at_ W i ≤ 70000 := fun i hi => by
    have a := Prg.at_ge hOk W i
    have b := Prg.at_mono hOk W (show i ≤ n by omega)
    omega
  have hj : ∀ i, i < n → (X i).k = 2 → (brI (X i).c ((prg n X).far W i) (W i)).right = true := fun i hi h2 => jump_right hr hbad hle hi h2 (hgo i hi h2)
  have hlen : ∀ k, k ≤ n → (bytK (prg n X) X W k).length ≤ 65536 := fun k hk => by
    have a := bytK_len hr hj k hk
    have b := Prg.at_mono hOk W hk
    omega
  have hw2 : ∀ i, i < n → (X i).k = 2 → ((prg n X).sz i (W i) ((prg n X).at_ W i) != 2) = W i := fun i hi h2 => by
    rw [prg_sz hi]; unfold szT; rw [if_neg (by omega), if_pos h2]; cases W i <;> rfl
  have hpad : ∀ i, i < n → (X i).k = 4 → (prg n X).sz i (W i) ((prg n X).at_ W i) = misN ((prg n X).at_ W i) (X i).t := fun i hi h4 => by
    rw [prg_sz hi]; unfold szT; rw [if_neg (by omega), if_neg (by omega), if_pos h4]
  have hfar : ∀ i, (prg n X).at_ W (goalF X n (X i).l) - (prg n X).at_ W i - 4 = (prg n X).far W i := fun i => rfl
  have hK : ∀ k, bytK (prg n X) X W (k + 1) = bytK (prg n X) X W k ++ bytT (prg n X) X W k := fun k => rfl
  have hT : ∀ k, bytT (prg n X) X W k = if (X k).k = 1 then insB (X k).i else if (X k).k = 2 then insB (brI (X k).c ((prg n X).far W k) (W k)) else if (X k).k = 4 then repB (insB nopI) (misN ((prg n X).at_ W k) (X k).t / 2).toNat else [] := fun k => rfl
  generalize prg n X = P at *
  have hX := heap_alloc_new w (.cells (ldv vb ga gs n r) 44)
  have hB := (Below.refl w.heap.size w).alloc (Nat.le_refl _) (.cells (ldv vb ga gs n r) 44)
  have hz : w.heap.size < (w.alloc (.cells (ldv vb ga gs n r) 44)).heap.size := by simp
  have HX := hide hX
  have HI := hide (hI.below hB)
  have HA := hide (hA.below hB)
  have HS := hide (hS.below hB)
  have HG := hide (hG.below hB)
  have HL := hide (hL.below hB)
  have la := hA.lt
  have ls := hS.lt
  have lg := hG.lt
  have HB := hide hB
  have HAT := hide hat
  have HJ := hide hj
  have HW := hide hw2
  have HPD := hide hpad
  have HFR := hide hfar
  have HK := hide hK
  have HT := hide hT
  have HLN := hide hlen
  have HR := hide hr
  have HGO := hide hgo
  clear hX hB hI hA hS hG hat hj hw2 hpad hfar hK hT hlen hr hgo hOk hle hbad hL
  go_enter Tryd.func31, Tryd.ntmps31
  go_wp2_with fail
  generalize hBz : w.heap.size = B at *
  generalize w.alloc (.cells (ldv vb ga gs n r) 44) = w1 at *
  go_loopw [7, 12] (fun s7 s12 wr => BRel P X W n w1 s7 s12 wr) (fun _ s12 _ => n - (intOf s12).toNat)
  case atStart => exact ⟨0, Nat.zero_le _, rfl, World.ownsRow_nil _ _ _ _, Below.refl _ _⟩
  case round =>
    obtain ⟨k, hk, rfl, ho, hb⟩ := hrel
    have hlK := HLN.out k hk
    by_cases hlt : k < n
    · have hlt' : (k : Int) < n := by omega
      have hI2 := HI.out.below hb
      rcases hI2.cells with h0 | ⟨b, off, rfl, hbl, hcl⟩
      · omega
      have hrow := hide (hcl k hlt)
      have hb2 := hb.alloc hb.size (.cells (itv (X k)) 26)
      have hX := heap_alloc_new wr (.cells (itv (X k)) 26)
      have c0 : (wr.alloc (.cells (itv (X k)) 26)).cell? ⟨wr.heap.size, 0, none⟩ = some (.int .i64 (X k).k) := by rw [cell_of_row _ _ _ _ _ _ hX]; rfl
      have c12 : (wr.alloc (.cells (itv (X k)) 26)).cell? ⟨wr.heap.size, 12, none⟩ = some (.int .i64 (X k).c) := by rw [cell_of_row _ _ _ _ _ _ hX]; rfl
      have hin := hide (range_row (show (wr.alloc (.cells (itv (X k)) 26)).heap[wr.heap.size]? = _ from hX) 1 _ (itv_inst (X k)))
      have hz2 : wr.heap.size < (wr.alloc (.cells (itv (X k)) 26)).heap.size := by simp
      have ho2 := hide (ho.alloc (.cells (itv (X k)) 26))
      have hLx := hide (HL.out.below hb2)
      have hs1 := hb.size
      have hoJ : Hid (∀ q, _ = some q → q < wr.heap.size) := fun q hq => (ho.lt q hq).2
      clear hcl hX hI2 ho
      by_cases hk1 : (X k).k = 1
      · rw [hk1] at c0
        have hTT : bytT P X W k = insB (X k).i := by rw [HT.out, if_pos hk1]
        have HTT := hide hTT
        clear hTT
        go_wp2_with (first
          | (refine wpList_load_mid rfl 26 (.tmp 15) rfl b (off + k * 15) rfl (itv (X k)).toList _ (unhide hrow) Tryd.underlying26 rfl info_it ?_)
          | (refine wpList_store_rowTo rfl 26 (.tmp 9) (.tmp 16) rfl rfl _ (itv (X k)) rfl rfl 26 (itv zerT) (heap_alloc_last _ _) info_it rfl (one_it _) ?_; rw [World.setRow_alloc_new])
          | (refine wpList_load_mid rfl 24 (.tmp 22) rfl wr.heap.size 1 rfl (inv (X k).i).toList _ (unhide hin) Tryd.underlying24 rfl info_in ?_))
        refine (with_any w1.heap.size _ (bytK P X W k) (X k).i (right_code (HR.out k hlt) hk1).2 (HI.out.wf k hlt) (by omega) _ ho2.out (by omega) hLx.out).mono ?_
        rintro e w3 ⟨v3, rfl, hov, hb3, _⟩
        have HB3 := hide (hb2.trans hb3)
        rw [← HTT.out, ← HK.out] at hov
        replace hov := hide hov
        clear hb3 hb2 ho2
        go_wp2_with fail
        go_roundw
        case rel => exact ⟨k + 1, by omega, by go_num, hov.out, HB3.out⟩
        case measure => simp [intOf]; omega
      by_cases hk2 : (X k).k = 2
      · rw [hk2] at c0
        have HTT : Hid (bytT P X W k = insB (brI (X k).c (P.far W k) (W k))) := by unfold Hid; rw [HT.out, if_neg hk1, if_pos hk2]
        have HA3 := hide (HA.out.below (hb2.mono (Nat.le_refl _)))
        have HS3 := hide (HS.out.below (hb2.mono (Nat.le_refl _)))
        have HG3 := hide (HG.out.below (hb2.mono (Nat.le_refl _)))
        have hgl : Hid (goalR X n n k = (goalF X n (X k).l : Int)) := if_pos ⟨hlt, hk2⟩
        have kG : (wr.alloc (.cells (itv (X k)) 26)).cell? ⟨gg, k, none⟩ = some (.int .i64 (goalF X n (X k).l : Int)) := by rw [← hgl.out]; exact HG3.out.cell k hlt
        have hXB := hide ((hb2.block B (by omega)).trans HX.out)
        go_wp2_with (first
          | (refine wpList_load_mid rfl 26 (.tmp 15) rfl b (off + k * 15) rfl (itv (X k)).toList _ (unhide hrow) Tryd.underlying26 rfl info_it ?_)
          | (refine wpList_store_rowTo rfl 26 (.tmp 9) (.tmp 16) rfl rfl _ (itv (X k)) rfl rfl 26 (itv zerT) (heap_alloc_last _ _) info_it rfl (one_it _) ?_; rw [World.setRow_alloc_new]))
        have lwr := hz2
        have hJo0 := fun (e : _ = some wr.heap.size) => Nat.lt_irrefl _ (hoJ.out _ e)
        have hJo := hJo0
        clear hJo0 hoJ
        generalize hJ : wr.heap.size = J at *
        generalize wr.alloc (.cells (itv (X k)) 26) = w2 at *
        refine wp_region_held_drew (S := fun w' => w'.rangeAt B 0 (ldv vb ga gs n r).toList ∧ w'.cell? ⟨J, 12, none⟩ = some (.int .i64 (X k).c) ∧ w'.cell? ⟨gg, k, none⟩ = some (.int .i64 (goalF X n (X k).l : Int))) (by kernel_rfl)
          ⟨range_row (show w2.drew.heap[B]? = _ from hXB.out) 0 _ (by intro j v h; rw [Nat.zero_add, ← Array.getElem?_toList]; exact h), c12, kG⟩ (fun hHeld => ?_)
        refine wpAnyH_take (i := 0) (v := ?_) rfl (by kernel_rfl) (by kernel_rfl) (by kernel_rfl) (fun _ _ _ h => h) (Or.inl ⟨by rfl, ?_⟩) (by assumption) ?_
        rotate_left
        · intro w hSw; (try dsimp only at hSw); go_simp; (try with_reducible rfl)
        (try simp only [Act.put, List.getElem_toArray, List.getElem_cons_zero, List.setIfInBounds_toArray, List.set_cons_zero, List.set_cons_succ])
        refine wpAnyH_take (i := 1) (v := .agg (ldv vb ga gs n r)) rfl (by kernel_rfl) (by kernel_rfl) (by kernel_rfl) (fun _ _ _ h => h) (yieldsIf_load_mid (by rfl) 44 (.tmp 3) rfl B 0 rfl (ldv vb ga gs n r).toList _ (fun w hw => hw.1) Tryd.underlying44 rfl info_ld) (by assumption) ?_
        (try simp only [Act.put, List.getElem_toArray, List.getElem_cons_zero, List.getElem_cons_succ, List.setIfInBounds_toArray, List.set_cons_zero, List.set_cons_succ])
        refine wpAnyH_take (i := 2) (v := ?_) rfl (by kernel_rfl) (by kernel_rfl) (by kernel_rfl) (fun _ _ _ h => h) (Or.inl ⟨by rfl, ?_⟩) (by assumption) ?_
        rotate_left
        · intro w hSw; (try dsimp only at hSw); go_simp; (try with_reducible rfl)
        (try simp only [Act.put, List.getElem_toArray, List.getElem_cons_zero, List.getElem_cons_succ, List.setIfInBounds_toArray, List.set_cons_zero, List.set_cons_succ])
        refine wpAnyH_take (i := 3) (v := ?_) rfl (by kernel_rfl) (by kernel_rfl) (by kernel_rfl) (fun _ _ _ h => h) (Or.inl ⟨by rfl, ?_⟩) (by assumption) ?_
        rotate_left
        · intro w hSw; (try dsimp only at hSw); go_simp; (try with_reducible rfl)
        (try simp only [Act.put, List.getElem_toArray, List.getElem_cons_zero, List.getElem_cons_succ, List.setIfInBounds_toArray, List.set_cons_zero, List.set_cons_succ])
        refine wpAnyH_take (i := 4) (v := ?_) rfl (by kernel_rfl) (by kernel_rfl) (by kernel_rfl) (fun _ _ _ h => h) (Or.inl ⟨by rfl, ?_⟩) (by assumption) ?_
        rotate_left
        · intro w hSw; (try dsimp only at hSw); go_simp; (try with_reducible rfl)
        (try simp only [Act.put, List.getElem_toArray, List.getElem_cons_zero, List.getElem_cons_succ, List.setIfInBounds_toArray, List.set_cons_zero, List.set_cons_succ])
        refine wpAnyH_take (i := 5) (v := ?_) rfl (by kernel_rfl) (by kernel_rfl) (by kernel_rfl) (fun _ _ _ h => h) (Or.inl ⟨by rfl, ?_⟩) (by assumption) ?_
        rotate_left
        · intro w hSw; (try dsimp only at hSw); go_simp; (try with_reducible rfl)
        (try simp only [Act.put, List.getElem_toArray, List.getElem_cons_zero, List.getElem_cons_succ, List.setIfInBounds_toArray, List.set_cons_zero, List.set_cons_succ])
        refine wpAnyH_take (i := 6) (v := ?_) rfl (by kernel_rfl) (by kernel_rfl) (by kernel_rfl) (fun _ _ _ h => h) (Or.inl ⟨by rfl, ?_⟩) (by assumption) ?_
        rotate_left
        · intro w hSw; (try dsimp only at hSw); go_simp; (try with_reducible rfl)
        (try simp only [Act.put, List.getElem_toArray, List.getElem_cons_zero, List.getElem_cons_succ, List.setIfInBounds_toArray, List.set_cons_zero, List.set_cons_succ])
        refine wpAnyH_take (i := 7) (v := ?_) rfl (by kernel_rfl) (by kernel_rfl) (by kernel_rfl) (fun _ _ _ h => h) (Or.inl ⟨by rfl, ?_⟩) (by assumption) ?_
        rotate_left
        · intro w hSw; (try dsimp only at hSw); go_simp; (try with_reducible rfl)
        (try simp only [Act.put, List.getElem_toArray, List.getElem_cons_zero, List.getElem_cons_succ, List.setIfInBounds_toArray, List.set_cons_zero, List.set_cons_succ])
        refine wpAnyH_take (i := 8) (v := ?_) rfl (by kernel_rfl) (by kernel_rfl) (by kernel_rfl) (fun _ _ _ h => h) (Or.inl ⟨by rfl, ?_⟩) (by assumption) ?_
        rotate_left
        · intro w hSw; (try dsimp only at hSw); go_simp; (try with_reducible rfl)
        (try simp only [Act.put, List.getElem_toArray, List.getElem_cons_zero, List.getElem_cons_succ, List.setIfInBounds_toArray, List.set_cons_zero, List.set_cons_succ])
        refine wpAnyH_ready (rs := [9]) (by kernel_rfl) (by simp) ?_
        refine AllReadyH.cons rfl (fun K hK => ?_) AllReadyH.nil
        go_simp
        have hAj : Rw w2.drew ga n (P.at_ W) := HA3.out
        have hSj : Rw w2.drew gs n (fun i => P.sz i (W i) (P.at_ W i)) := HS3.out
        with_reducible refine (jump_any hAj hSj HAT.out _ k (goalF X n (X k).l) hlt (HGO.out k hlt hk2) hn).mono ?_
        rintro e w3 ⟨rfl, hb3⟩
        simp only [HW.out k hlt hk2, HFR.out k]
        refine hK.out _ _ ⟨range_below hHeld.1 hb3, keep_cell hb3 hHeld.2.1, keep_cell hb3 hHeld.2.2⟩ (fun hHeld2 => ?_)
        clear hK K
        (try simp only [Act.put, List.getElem_toArray, List.getElem_cons_zero, List.getElem_cons_succ, List.setIfInBounds_toArray, List.set_cons_zero, List.set_cons_succ])
        have ho3 := hide (owns_below (show w2.drew.ownsRow w1.heap.size 5 1 _ _ _ from ho2.out) hb3)
        have hLy := hide (show Code.Laid w3 from (show Code.Laid w2.drew from hLx.out.below ⟨rfl, rfl, rfl, Nat.le_refl _, fun _ _ => rfl⟩).below hb3)
        have hs3 : w1.heap.size ≤ w3.heap.size := Nat.le_trans (show w1.heap.size ≤ w2.drew.heap.size from hb2.size) hb3.size
        refine wpAnyH_ready (rs := [10]) (by kernel_rfl) (by simp) ?_
        refine AllReadyH.cons rfl (fun K hK => ?_) AllReadyH.nil
        go_simp
        with_reducible refine (with_any w1.heap.size _ (bytK P X W k) (brI (X k).c (P.far W k) (W k)) (HJ.out k hlt hk2) (brI_rg _ _ _) (by omega) _ ho3.out hs3 hLy.out).mono ?_
        rintro e w4 ⟨v4, rfl, hov, hb4, hk4⟩
        have hJ4 : w4.heap[J]? = w3.heap[J]? := hk4 J (by have := hb3.size; have : w2.drew.heap.size = w2.heap.size := rfl; omega) hJo
        refine hK.out _ _ ⟨range_belowN hHeld2.1 hb4 (by omega), (World.cell?_of_block (w := w3) (a := ⟨J, 12, none⟩) hJ4).trans hHeld2.2.1, (hb4.cell (p := ⟨gg, k, none⟩) (show gg < w1.heap.size by omega)).trans hHeld2.2.2⟩ (fun hHeld3 => ?_)
        clear hK K
        (try simp only [Act.put, List.getElem_toArray, List.getElem_cons_zero, List.getElem_cons_succ, List.setIfInBounds_toArray, List.set_cons_zero, List.set_cons_succ])
        refine wpAnyH_take (i := 11) (v := ?_) rfl (by kernel_rfl) (by kernel_rfl) (by kernel_rfl) (fun _ _ _ h => h) (Or.inl ⟨by rfl, ?_⟩) (by assumption) ?_
        rotate_left
        · intro w hSw; (try dsimp only at hSw); go_simp; (try with_reducible rfl)
        (try simp only [Act.put, List.getElem_toArray, List.getElem_cons_zero, List.getElem_cons_succ, List.setIfInBounds_toArray, List.set_cons_zero, List.set_cons_succ])
        refine wpAnyH_done (by kernel_rfl) ?_ _
        have HB4 := hide (((hb2.drew.trans (hb3.mono (show w1.heap.size ≤ w2.drew.heap.size from hb2.size))).trans hb4))
        rw [← HTT.out, ← HK.out] at hov
        replace hov := hide hov
        clear hb2 hb3 hb4 hk4 hJ4 ho3 hHeld hHeld2 hHeld3
        go_wp2_with fail
        go_roundw
        case rel => exact ⟨k + 1, by omega, by go_num, hov.out, HB4.out⟩
        case measure => simp [intOf]; omega
      · have hk0 : ¬ (X k).k = 1 := hk1
        by_cases hk4 : (X k).k = 4
        · rw [hk4] at c0
          have ht := right_to (HR.out k hlt) hk4
          have hms := mis_bd (P.at_ W k) (X k).t ht
          have HTT : Hid (bytT P X W k = repB (insB nopI) (misN (P.at_ W k) (X k).t / 2).toNat) := by unfold Hid; rw [HT.out, if_neg hk1, if_neg hk2, if_pos hk4]
          have HS3 := hide (HS.out.below (hb2.mono (Nat.le_refl _)))
          have hpd := HPD.out k hlt hk4
          have kS : (wr.alloc (.cells (itv (X k)) 26)).cell? ⟨gs, k, none⟩ = some (.int .i64 (misN (P.at_ W k) (X k).t)) := by rw [← hpd]; exact HS3.out.cell k hlt
          have hXB := hide ((hb2.block B (by omega)).trans HX.out)
          have kB2 : (wr.alloc (.cells (itv (X k)) 26)).cell? ⟨B, 2, none⟩ = some (.slice (some ⟨gs, 0, none⟩) n n) := by rw [cell_of_row _ _ _ _ _ _ hXB.out]; rfl
          have lB2 : B < (wr.alloc (.cells (itv (X k)) 26)).heap.size := lt_of_block hXB.out
          clear hpd
          go_wp2_with (first
            | (refine wpList_load_mid rfl 26 (.tmp 15) rfl b (off + k * 15) rfl (itv (X k)).toList _ (unhide hrow) Tryd.underlying26 rfl info_it ?_)
            | (refine wpList_store_rowTo rfl 26 (.tmp 9) (.tmp 16) rfl rfl _ (itv (X k)) rfl rfl 26 (itv zerT) (heap_alloc_last _ _) info_it rfl (one_it _) ?_; rw [World.setRow_alloc_new]))
          generalize wr.alloc (.cells (itv (X k)) 26) = w2 at *
          go_quiet ((go_at_call 35; exact Calls.quiet_of_same (Size_nop _)))
          have hmm : misN (P.at_ W k) (X k).t / 2 = (((misN (P.at_ W k) (X k).t / 2).toNat : Nat) : Int) := by omega
          have hm8 : (misN (P.at_ W k) (X k).t / 2).toNat ≤ 8 := by omega
          rw [hmm]
          have ho3 := hide (show (w2.drewN nq).ownsRow w1.heap.size 5 1 _ _ _ from ho2.out)
          have hb3 := hide (below_dn hb2 nq)
          clear hmm hms kS kB2 c0 c12 hz2 lB2 hrow hin hb2 ho2 hXB HS3 hoJ
          generalize (misN (P.at_ W k) (X k).t / 2).toNat = m at *
          generalize w2.drewN nq = w3 at *
          have hm' : (m : Int) ≤ 8 := by omega
          go_wp2_with fail
          go_loopw [7, 47] (fun s7 s47 wx => NRel (bytK P X W k) m w1 s7 s47 wx) (fun _ s47 _ => m - (intOf s47).toNat)
          case atStart => exact ⟨0, Nat.zero_le _, rfl, by simpa [repB] using ho3.out, hb3.out⟩
          case round =>
            obtain ⟨j, hj, rfl, hoj, hbj⟩ := hrel
            have hlj : (bytK P X W k ++ repB (insB nopI) j).length ≤ 1000000 := by rw [List.length_append, repB_len, nop_len]; omega
            by_cases hjm : j < m
            · have hjm' : (j : Int) < m := by omega
              have hLj := HL.out.below hbj
              have hsj := hbj.size
              go_wp2_with fail
              refine (with_any w1.heap.size _ (bytK P X W k ++ repB (insB nopI) j) nopI nop_right (by decide) hlj _ hoj hsj hLj).mono ?_
              rintro e w4 ⟨v4, rfl, hov, hb4, _⟩
              have HB4 := hide (hbj.trans hb4)
              rw [List.append_assoc] at hov
              replace hov := hide hov
              clear hb4 hbj hoj
              go_wp2_with fail
              go_roundw
              case rel => exact ⟨j + 1, by omega, by go_num, hov.out, HB4.out⟩
              case measure => simp [intOf]; omega
            · obtain rfl : j = m := by omega
              rw [← HTT.out, ← HK.out] at hoj
              replace hoj := hide hoj
              go_wp2_with fail
              go_roundw
              case rel => exact ⟨k + 1, by omega, by go_num, hoj.out, hbj⟩
              case measure => simp [intOf]; omega
        · have HTT : Hid (bytT P X W k = []) := by unfold Hid; rw [HT.out, if_neg hk1, if_neg hk2, if_neg hk4]
          go_wp2_with (first
            | (refine wpList_load_mid rfl 26 (.tmp 15) rfl b (off + k * 15) rfl (itv (X k)).toList _ (unhide hrow) Tryd.underlying26 rfl info_it ?_)
            | (refine wpList_store_rowTo rfl 26 (.tmp 9) (.tmp 16) rfl rfl _ (itv (X k)) rfl rfl 26 (itv zerT) (heap_alloc_last _ _) info_it rfl (one_it _) ?_; rw [World.setRow_alloc_new]))
          go_roundw
          case rel => exact ⟨k + 1, by omega, by go_num, by rw [HK.out, HTT.out, List.append_nil]; exact ho2.out, hb2⟩
          case measure => simp [intOf]; omega
    · obtain rfl : k = n := by omega
      go_wp2_with fail
      go_ret
      exact ⟨_, rfl, by rw [hBz]; exact own_low2 ho (by omega), by rw [hBz]; exact HB.out.trans (hb.mono (by omega))⟩
end Go.Proofs.YtfdnjoieolijcaaDoor.Asm

