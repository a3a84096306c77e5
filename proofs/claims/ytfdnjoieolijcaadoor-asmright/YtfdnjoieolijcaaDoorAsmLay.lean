/- A program is laid: Lay of package asm. -/
import Derived.Test.YtfdnjoieolijcaaDoorAsmBytes
import Derived.Deep.CutRange
import Derived.Deep.DeepCutAuto
set_option linter.unusedVariables false
set_option linter.unusedSimpArgs false
namespace Go.Proofs.YtfdnjoieolijcaaDoor.Asm
open Go.RowKit Go.Proofs.YtfdnjoieolijcaaDoor.Core Go.Proofs.YtfdnjoieolijcaaDoor.Alu

theorem one_ld (q : Option Addr) (l c ga gs n : Nat) (r : Int) : (ldv (.slice q l c) ga gs n r).all (·.oneCell') = true := by simp [ldv, Value.oneCell']
theorem one_z : (#[.slice none 0 0, .slice none 0 0, .slice none 0 0, .int .i64 0] : Array Value).all (·.oneCell') = true := by simp [Value.oneCell']
theorem own_slc {w : World} {base : Nat} {e : TypeId} {v : Value} {n : Nat} {xs : List Value} (h : w.ownsRow base e 1 v n xs) : ∃ q l c, v = .slice q l c := by
  rcases h.2 with ⟨rfl, _⟩ | ⟨g, cap, cur, rfl, _⟩
  · exact ⟨_, _, _, rfl⟩
  · exact ⟨_, _, _, rfl⟩
theorem first_ok {n : Nat} {X : Nat → It} : SzOk n X ((prg n X).it 0) (firstR X n) := fun i hi h4 => by
  show firstR X n i = szT (X i) false 0
  unfold firstR firstN szT
  rw [if_pos hi]
  split
  · rfl
  · split
    · simp
    · first | rfl | rw [if_neg h4]
def rndAt (J : Nat) (w : World) : Int := match w.cell? ⟨J, 3, none⟩ with | some v => intOf v | none => 0
def msr (n J : Nat) (s7 : Value) (w : World) : Nat := match s7 with | .bool true => n + 2 - (rndAt J w).toNat | _ => 0
theorem rnd_is {w : World} {J ga gs n : Nat} {vb : Value} {r : Nat} (h : w.heap[J]? = some (.cells (ldv vb ga gs n (r : Int)) 44 (0, 0))) : (rndAt J w).toNat = r := by
  unfold rndAt
  rw [cell_of_row _ _ _ _ _ _ h]
  show ((r : Int)).toNat = r
  omega
theorem own_low {w : World} {a b : Nat} {e : TypeId} {v : Value} {n : Nat} {xs : List Value} (h : w.ownsRow a e 1 v n xs) (hb : b ≤ a) : w.ownsRow b e 1 v n xs :=
  ⟨h.1, h.2.imp id (fun ⟨g, cap, cur, e, hg, r⟩ => ⟨g, cap, cur, e, Nat.le_trans hb hg, r⟩)⟩
theorem owns_off {w w' : World} {base S : Nat} {e : TypeId} {size : Nat} {v : Value} {n : Nat} {xs : List Value} (h : w.ownsRow base e size v n xs) (ho : Off [S] w w') (hS : S < base) : w'.ownsRow base e size v n xs :=
  h.kept (row := some S) ⟨ho.os, ho.tape, ho.output, ho.size, fun i hi hn => ho.block i hi (by simp; intro e; exact hn (by rw [e]))⟩ (by
    cases hv : v.ownBlock with
    | none => exact .inl rfl
    | some g => right; intro e; have := (h.lt g hv).1; injection e with e; omega)
theorem szok_placed {n : Nat} {X : Nat → It} {W : Nat → Bool} : SzOk n X W (fun i => (prg n X).sz i (W i) ((prg n X).at_ W i)) := fun i hi h4 => by
  show (prg n X).sz i (W i) ((prg n X).at_ W i) = _
  rw [prg_sz hi]; exact szT_a h4 _ _ _
/-- What Lay begins with: rows of its own, and the box of what is laid. -/
structure Start (w0 w : World) (n : Nat) (X : Nat → It) (J ga gs : Nat) : Prop where
  box : w.heap[J]? = some (.cells (ldv (.slice none 0 0) ga gs n 0) 44 (0, 0))
  A : Rw w ga n (fun _ => 0)
  S : Rw w gs n (firstR X n)
  ne : ga ≠ gs
  lo : w0.heap.size ≤ ga ∧ w0.heap.size ≤ gs ∧ w0.heap.size ≤ J
  below : Below w0.heap.size w0 w

/-- What holds ahead of each round. -/
inductive LRel (n : Nat) (X : Nat → It) (w0 : World) (J ga gs : Nat) (s7 : Value) (wr : World) : Prop
  | on (r : Nat) (s : Nat → Int) (a : Nat → Int) (h7 : s7 = .bool true) (box : wr.heap[J]? = some (.cells (ldv (.slice none 0 0) ga gs n r) 44 (0, 0))) (hA : Rw wr ga n a) (hS : Rw wr gs n s) (ho : Off [J, ga, gs] w0 wr)
      (hs : SzOk n X ((prg n X).it r) s) (hb : ∀ t, t < r → (prg n X).at_ ((prg n X).it t) n ≤ 65536 ∧ ∃ i, i < n ∧ (prg n X).bad ((prg n X).it t) i = true) : LRel n X w0 J ga gs s7 wr
  | off (R : Nat) (h7 : s7 = .bool false) (box : wr.heap[J]? = some (.cells (ldv (.slice none 0 0) ga gs n ((R : Int) + 1)) 44 (0, 0))) (hA : Rw wr ga n ((prg n X).at_ ((prg n X).it R))) (hS : Rw wr gs n (fun i => (prg n X).sz i ((prg n X).it R i) ((prg n X).at_ ((prg n X).it R) i))) (ho : Off [J, ga, gs] w0 wr)
      (he : (prg n X).Ends R false) : LRel n X w0 J ga gs s7 wr

/-- What Lay answers. -/
inductive LayPost (n : Nat) (X : Nat → It) (w : World) (e : Ending) (w' : World) : Prop
  | form (h : allB n X = false) (he : e = .returned (.tuple #[.agg #[.slice none 0 0, .slice none 0 0, .slice none 0 0, .int .i64 0], .int .i64 10]))
  | label (h : allB n X = true) (h2 : ¬ (OnceM X n ∧ Found X n)) (he : e = .returned (.tuple #[.agg #[.slice none 0 0, .slice none 0 0, .slice none 0 0, .int .i64 0], .int .i64 80]))
  | big (h : allB n X = true) (h2 : OnceM X n ∧ Found X n) (R : Nat) (hE : (prg n X).Ends R true) (he : e = .returned (.tuple #[.agg #[.slice none 0 0, .slice none 0 0, .slice none 0 0, .int .i64 0], .int .i64 82]))
  | ok (h : allB n X = true) (h2 : OnceM X n ∧ Found X n) (R ga gs : Nat) (vb : Value) (hE : (prg n X).Ends R false) (he : e = .returned (.tuple #[.agg (ldv vb ga gs n ((R : Int) + 1)), .int .i64 0]))
      (hA : Rw w' ga n ((prg n X).at_ ((prg n X).it R))) (hS : Rw w' gs n (fun i => (prg n X).sz i ((prg n X).it R i) ((prg n X).at_ ((prg n X).it R) i))) (lo : w.heap.size ≤ ga ∧ w.heap.size ≤ gs)
      (hB : w'.ownsRow w.heap.size 5 1 vb (bytK (prg n X) X ((prg n X).it R) n).length (Code.u8s (bytK (prg n X) X ((prg n X).it R) n)))

set_option maxRecDepth 100000 in
set_option maxHeartbeats 4000000 in
theorem Lay_any (p : Option Addr) (n cap : Nat) (X : Nat → It) (w : World) (hI : Items w p n X) (hp : ∀ b off, p = some ⟨b, off, none⟩ → b < w.heap.size) (hn : n ≤ 10000) (hL : Code.Laid w) :
    Calls Tryd.prog 16 #[.slice p n cap] w fun e w' => Below w.heap.size w w' ∧ LayPost n X w e w' := by
  have hn' : (n : Int) ≤ 10000 := by omega
  have hb0 := (Below.refl w.heap.size w).alloc (Nat.le_refl _) (.cells #[.slice none 0 0, .slice none 0 0, .slice none 0 0, .int .i64 0] 44)
  have hX0 := heap_alloc_new w (.cells #[.slice none 0 0, .slice none 0 0, .slice none 0 0, .int .i64 0] 44)
  have hz0 : w.heap.size + 1 = (w.alloc (.cells #[.slice none 0 0, .slice none 0 0, .slice none 0 0, .int .i64 0] 44)).heap.size := by simp
  have hmk := make_int n (by omega)
  have hI0 := hI.below hb0
  have hL0 := hL.below hb0
  go_enter Tryd.func16, Tryd.ntmps16
  go_wp2_with fail
  generalize hB0 : w.heap.size = B0 at *
  generalize w.alloc (.cells #[.slice none 0 0, .slice none 0 0, .slice none 0 0, .int .i64 0] 44) = w0 at *
  refine (allRight_any p n cap X w0 hI0 hn hL0.two).mono ?_
  rintro e w1 ⟨rfl, hb1⟩
  have hX1 := (hb1.block B0 (by omega)).trans hX0
  have hB1 := hb0.trans (hb1.mono (by omega))
  have hI1 := hI0.below hb1
  have hL1 := hL0.below hb1
  have hs1 := hb1.size
  clear hb1 hX0 hI0 hL0
  cases hall : allB n X
  · replace hX1 := hide hX1
    have R1 := setRow_heap _ _ _ (#[.slice none 0 0, .slice none 0 0, .slice none 0 0, .int .i64 0] : Array Value) _ _ hX1.out
    replace R1 := hide R1
    have hfin := hide (below_setRow (B := B0) hB1 (Nat.le_refl B0) (#[.slice none 0 0, .slice none 0 0, .slice none 0 0, .int .i64 0] : Array Value))
    go_wp2_with (refine wpList_store_rowTo rfl 44 (.tmp 2) (.tmp 11) rfl rfl _ (#[.slice none 0 0, .slice none 0 0, .slice none 0 0, .int .i64 0]) rfl rfl 44 (#[.slice none 0 0, .slice none 0 0, .slice none 0 0, .int .i64 0]) (unhide hX1) info_ld rfl one_z ?_)
    refine bodyPost_ret (v := .tuple #[.agg #[.slice none 0 0, .slice none 0 0, .slice none 0 0, .int .i64 0], .int .i64 10]) (by have HR := run_loadVar_row (P := Tryd.prog) _ B0 44 44 (#[.slice none 0 0, .slice none 0 0, .slice none 0 0, .int .i64 0]) (0, 0) _ R1.out Tryd.underlying44 rfl info_ld; simp [results, Tryd.results16, asAddr, HR]) rfl ⟨by rw [hB0]; exact hfin.out, .form hall rfl⟩
  have hr : ∀ i, i < n → rightT (X i) = true := allB_iff.1 hall
  have hwl : ∀ i, i < n → (X i).k = 3 ∨ (X i).k = 2 → (Lit.int .i64 (X i).l).wf = true := fun i hi h => by
    rcases h with h | h
    · have := right_mark (hr i hi) h; exact WalkArith.wf_i64 (by omega)
    · have := right_jump (hr i hi) h; exact WalkArith.wf_i64 (by omega)
  go_wp2_with fail
  refine (goalsOf_any p n cap X w1 hI1 hn hwl).mono ?_
  rintro e w2 ⟨hb2, ⟨hO, hF, gg, rfl, hG, hgg⟩ | ⟨hno, rfl⟩⟩
  case inr =>
    have hX2 := hide ((hb2.block B0 (by omega)).trans hX1)
    have hB2 := hB1.trans (hb2.mono (by omega))
    have R1 := hide (setRow_heap _ _ _ (#[.slice none 0 0, .slice none 0 0, .slice none 0 0, .int .i64 0] : Array Value) _ _ hX2.out)
    have hfin := hide (below_setRow (B := B0) hB2 (Nat.le_refl B0) (#[.slice none 0 0, .slice none 0 0, .slice none 0 0, .int .i64 0] : Array Value))
    go_wp2_with (refine wpList_store_rowTo rfl 44 (.tmp 2) (.tmp 19) rfl rfl _ (#[.slice none 0 0, .slice none 0 0, .slice none 0 0, .int .i64 0]) rfl rfl 44 (#[.slice none 0 0, .slice none 0 0, .slice none 0 0, .int .i64 0]) (unhide hX2) info_ld rfl one_z ?_)
    refine bodyPost_ret (v := .tuple #[.agg #[.slice none 0 0, .slice none 0 0, .slice none 0 0, .int .i64 0], .int .i64 80]) (by have HR := run_loadVar_row (P := Tryd.prog) _ B0 44 44 (#[.slice none 0 0, .slice none 0 0, .slice none 0 0, .int .i64 0]) (0, 0) _ R1.out Tryd.underlying44 rfl info_ld; simp [results, Tryd.results16, asAddr, HR]) rfl ⟨by rw [hB0]; exact hfin.out, .label hall hno rfl⟩
  have hX2 := hide ((hb2.block B0 (by omega)).trans hX1)
  have hB2 := hide (hB1.trans (hb2.mono (by omega)))
  have hI2 := hide (hI1.below hb2)
  have hL2 := hide (hL1.below hb2)
  have hs2 := hb2.size
  have hG2 := hide hG
  have HR := hide hr
  have HOF := hide (And.intro hO hF)
  have HGO : Hid (∀ i, i < n → (X i).k = 2 → goalF X n (X i).l < n) := fun i hi h2 => by
    obtain ⟨j, hj, hm⟩ := hF i hi h2
    rw [goalF_is hO hj hm]; exact hj
  have lgg := hG.lt
  clear hb2 hX1 hB1 hI1 hL1 hG hr hwl hO hF
  go_upto_region 6 with fail
  go_cut [6] from 21 to 40 (fun s6 wx => ∃ J ga gs, s6 = .pointer (some ⟨J, 0, none⟩) ∧ Start w2 wx n X J ga gs)
  case first =>
    go_wp2_with fail
    refine wp_region_held_drew (S := fun _ => True) (by kernel_rfl) trivial (fun hHeld => ?_)
    have hbW : Below w2.heap.size w2 w2.drew := (Below.refl w2.heap.size w2).drew
    generalize w2.drew = wd at *
    refine wpAnyH_take (i := 0) (v := ?_) rfl (by kernel_rfl) (by kernel_rfl) (by kernel_rfl) (fun _ _ _ h => h) (Or.inl ⟨by rfl, ?_⟩) (by assumption) ?_
    rotate_left
    · intro w hSw; (try dsimp only at hSw); go_simp; (try with_reducible rfl)
    (try simp only [Act.put, List.getElem_toArray, List.getElem_cons_zero, List.setIfInBounds_toArray, List.set_cons_zero, List.set_cons_succ])
    refine wpAnyH_take (i := 1) (v := ?_) rfl (by kernel_rfl) (by kernel_rfl) (by kernel_rfl) (fun _ _ _ h => h) (Or.inl ⟨by rfl, ?_⟩) (by assumption) ?_
    rotate_left
    · intro w hSw; (try dsimp only at hSw); go_simp; (try with_reducible rfl)
    (try simp only [Act.put, List.getElem_toArray, List.getElem_cons_zero, List.getElem_cons_succ, List.setIfInBounds_toArray, List.set_cons_zero, List.set_cons_succ])
    refine wpAnyH_take (i := 3) (v := ?_) rfl (by kernel_rfl) (by kernel_rfl) (by kernel_rfl) (fun _ _ _ h => h) (Or.inl ⟨by rfl, ?_⟩) (by assumption) ?_
    rotate_left
    · intro w hSw; (try dsimp only at hSw); go_simp; (try with_reducible rfl)
    (try simp only [Act.put, List.getElem_toArray, List.getElem_cons_zero, List.getElem_cons_succ, List.setIfInBounds_toArray, List.set_cons_zero, List.set_cons_succ])
    refine wpAnyH_ready (rs := [2, 4, 6]) (by kernel_rfl) (by simp) ?_
    refine AllReadyH.cons rfl (fun K hK => ?k1) (AllReadyH.cons rfl (fun K hK => ?k2) (AllReadyH.cons rfl (fun K hK => ?k3) AllReadyH.nil))
    case' k1 =>
      go_simp
      have hq4 := (Below.refl wd.heap.size wd).alloc (Nat.le_refl _) (.cells (row n (fun _ => 0)) 3)
      have hM : Rw (wd.alloc (.cells (row n (fun _ => 0)) 3)) wd.heap.size n (fun _ => 0) := heap_alloc_new wd (.cells (row n (fun _ => 0)) 3)
      have lga : wd.heap.size < (wd.alloc (.cells (row n (fun _ => 0)) 3)).heap.size := by simp
      have loga := hbW.size
      replace hbW := hbW.trans (hq4.mono hbW.size)
      refine hK.out _ _ trivial (fun _ => ?_)
      clear hK K hq4
      generalize wd.alloc (.cells (row n (fun _ => 0)) 3) = wk4 at *
      generalize wd.heap.size = ga at *
      (try simp only [Act.put, List.getElem_toArray, List.getElem_cons_zero, List.getElem_cons_succ, List.setIfInBounds_toArray, List.set_cons_zero, List.set_cons_succ])
      refine wpAnyH_ready (rs := [4, 6]) (by kernel_rfl) (by simp) ?_
      refine AllReadyH.cons rfl (fun K hK => ?k5) (AllReadyH.cons rfl (fun K hK => ?k6) AllReadyH.nil)
      case' k5 =>
        go_simp
        with_reducible refine (firstSizes_any p n cap X wk4 (hI2.out.below hbW) hn).mono ?_
        rintro e wk7 ⟨rfl, hC, hq7⟩
        have lgs : wk4.heap.size < wk7.heap.size := hC.lt
        replace hM := hM.below hq7
        have logs := hbW.size
        replace hbW := hbW.trans (hq7.mono hbW.size)
        refine hK.out _ _ trivial (fun _ => ?_)
        clear hK K hq7
        generalize wk4.heap.size = gs at *
        (try simp only [Act.put, List.getElem_toArray, List.getElem_cons_zero, List.getElem_cons_succ, List.setIfInBounds_toArray, List.set_cons_zero, List.set_cons_succ])
        refine wpAnyH_take (i := 5) (v := .agg (ldv (.slice none 0 0) ga gs n 0)) rfl (by kernel_rfl) (by kernel_rfl) (by kernel_rfl) (fun _ _ _ h => h) (Or.inl ⟨by rfl, ?_⟩) (by assumption) ?_
        · intro w hSw; go_simp; (try simp [ldv])
        (try simp only [Act.put, List.getElem_toArray, List.getElem_cons_zero, List.getElem_cons_succ, List.setIfInBounds_toArray, List.set_cons_zero, List.set_cons_succ])
        refine wpAnyH_ready (rs := [6]) (by kernel_rfl) (by simp) ?_
        refine AllReadyH.cons rfl (fun K hK => ?k8) AllReadyH.nil
        case' k8 =>
          go_simp
          have hq9 := (Below.refl wk7.heap.size wk7).alloc (Nat.le_refl _) (.cells #[.slice none 0 0, .slice none 0 0, .slice none 0 0, .int .i64 0] 44)
          have hA := heap_alloc_new wk7 (.cells #[.slice none 0 0, .slice none 0 0, .slice none 0 0, .int .i64 0] 44)
          have lJ : wk7.heap.size < (wk7.alloc (.cells #[.slice none 0 0, .slice none 0 0, .slice none 0 0, .int .i64 0] 44)).heap.size := by simp
          replace hM := hM.below hq9
          replace hC := hC.below hq9
          have loJ := hbW.size
          replace hbW := hbW.trans (hq9.mono hbW.size)
          refine hK.out _ _ trivial (fun _ => ?_)
          clear hK K hq9
          generalize wk7.alloc (.cells #[.slice none 0 0, .slice none 0 0, .slice none 0 0, .int .i64 0] 44) = wk9 at *
          generalize wk7.heap.size = J at *
          (try simp only [Act.put, List.getElem_toArray, List.getElem_cons_zero, List.getElem_cons_succ, List.setIfInBounds_toArray, List.set_cons_zero, List.set_cons_succ])
          refine wpAnyH_ready (rs := [7]) (by kernel_rfl) (by simp) ?_
          refine AllReadyH.cons rfl (fun K hK => ?_) AllReadyH.nil
          refine wp_store_row 44 (.tmp 6) (.tmp 26) rfl J (ldv (.slice none 0 0) ga gs n 0) rfl rfl 44 _ hA info_ld rfl (one_ld _ _ _ _ _ _ _) ?_
          refine hK.out _ _ trivial (fun _ => ?_)
          clear hK K
          refine wpAnyH_done (by kernel_rfl) ?_ _
          have hfin : Start w2 (wk9.setRow J (ldv (.slice none 0 0) ga gs n 0)) n X J ga gs := ⟨setRow_heap _ _ _ _ _ _ hA, hM.off (setRow_offA _ _ _) (by simp; omega), hC.off (setRow_offA _ _ _) (by simp; omega), by omega, by omega, below_setRow hbW (by omega) _⟩
          go_wp2_with fail
          go_meet
          case rel => exact ⟨J, ga, gs, rfl, hfin⟩
      case' k6 =>
        go_simp
        have hq10 := (Below.refl wk4.heap.size wk4).alloc (Nat.le_refl _) (.cells #[.slice none 0 0, .slice none 0 0, .slice none 0 0, .int .i64 0] 44)
        have hA := heap_alloc_new wk4 (.cells #[.slice none 0 0, .slice none 0 0, .slice none 0 0, .int .i64 0] 44)
        have lJ : wk4.heap.size < (wk4.alloc (.cells #[.slice none 0 0, .slice none 0 0, .slice none 0 0, .int .i64 0] 44)).heap.size := by simp
        replace hM := hM.below hq10
        have loJ := hbW.size
        replace hbW := hbW.trans (hq10.mono hbW.size)
        refine hK.out _ _ trivial (fun _ => ?_)
        clear hK K hq10
        generalize wk4.alloc (.cells #[.slice none 0 0, .slice none 0 0, .slice none 0 0, .int .i64 0] 44) = wk10 at *
        generalize wk4.heap.size = J at *
        (try simp only [Act.put, List.getElem_toArray, List.getElem_cons_zero, List.getElem_cons_succ, List.setIfInBounds_toArray, List.set_cons_zero, List.set_cons_succ])
        refine wpAnyH_ready (rs := [4]) (by kernel_rfl) (by simp) ?_
        refine AllReadyH.cons rfl (fun K hK => ?k11) AllReadyH.nil
        case' k11 =>
          go_simp
          with_reducible refine (firstSizes_any p n cap X wk10 (hI2.out.below hbW) hn).mono ?_
          rintro e wk12 ⟨rfl, hC, hq12⟩
          have lgs : wk10.heap.size < wk12.heap.size := hC.lt
          replace hM := hM.below hq12
          replace hA := (hq12.block _ (lt_of_block hA)).trans hA
          have logs := hbW.size
          replace hbW := hbW.trans (hq12.mono hbW.size)
          refine hK.out _ _ trivial (fun _ => ?_)
          clear hK K hq12
          generalize wk10.heap.size = gs at *
          (try simp only [Act.put, List.getElem_toArray, List.getElem_cons_zero, List.getElem_cons_succ, List.setIfInBounds_toArray, List.set_cons_zero, List.set_cons_succ])
          refine wpAnyH_take (i := 5) (v := .agg (ldv (.slice none 0 0) ga gs n 0)) rfl (by kernel_rfl) (by kernel_rfl) (by kernel_rfl) (fun _ _ _ h => h) (Or.inl ⟨by rfl, ?_⟩) (by assumption) ?_
          · intro w hSw; go_simp; (try simp [ldv])
          (try simp only [Act.put, List.getElem_toArray, List.getElem_cons_zero, List.getElem_cons_succ, List.setIfInBounds_toArray, List.set_cons_zero, List.set_cons_succ])
          refine wpAnyH_ready (rs := [7]) (by kernel_rfl) (by simp) ?_
          refine AllReadyH.cons rfl (fun K hK => ?_) AllReadyH.nil
          refine wp_store_row 44 (.tmp 6) (.tmp 26) rfl J (ldv (.slice none 0 0) ga gs n 0) rfl rfl 44 _ hA info_ld rfl (one_ld _ _ _ _ _ _ _) ?_
          refine hK.out _ _ trivial (fun _ => ?_)
          clear hK K
          refine wpAnyH_done (by kernel_rfl) ?_ _
          have hfin : Start w2 (wk12.setRow J (ldv (.slice none 0 0) ga gs n 0)) n X J ga gs := ⟨setRow_heap _ _ _ _ _ _ hA, hM.off (setRow_offA _ _ _) (by simp; omega), hC.off (setRow_offA _ _ _) (by simp; omega), by omega, by omega, below_setRow hbW (by omega) _⟩
          go_wp2_with fail
          go_meet
          case rel => exact ⟨J, ga, gs, rfl, hfin⟩
    case' k2 =>
      go_simp
      with_reducible refine (firstSizes_any p n cap X wd (hI2.out.below hbW) hn).mono ?_
      rintro e wk13 ⟨rfl, hC, hq13⟩
      have lgs : wd.heap.size < wk13.heap.size := hC.lt
      have logs := hbW.size
      replace hbW := hbW.trans (hq13.mono hbW.size)
      refine hK.out _ _ trivial (fun _ => ?_)
      clear hK K hq13
      generalize wd.heap.size = gs at *
      (try simp only [Act.put, List.getElem_toArray, List.getElem_cons_zero, List.getElem_cons_succ, List.setIfInBounds_toArray, List.set_cons_zero, List.set_cons_succ])
      refine wpAnyH_ready (rs := [2, 6]) (by kernel_rfl) (by simp) ?_
      refine AllReadyH.cons rfl (fun K hK => ?k14) (AllReadyH.cons rfl (fun K hK => ?k15) AllReadyH.nil)
      case' k14 =>
        go_simp
        have hq16 := (Below.refl wk13.heap.size wk13).alloc (Nat.le_refl _) (.cells (row n (fun _ => 0)) 3)
        have hM : Rw (wk13.alloc (.cells (row n (fun _ => 0)) 3)) wk13.heap.size n (fun _ => 0) := heap_alloc_new wk13 (.cells (row n (fun _ => 0)) 3)
        have lga : wk13.heap.size < (wk13.alloc (.cells (row n (fun _ => 0)) 3)).heap.size := by simp
        replace hC := hC.below hq16
        have loga := hbW.size
        replace hbW := hbW.trans (hq16.mono hbW.size)
        refine hK.out _ _ trivial (fun _ => ?_)
        clear hK K hq16
        generalize wk13.alloc (.cells (row n (fun _ => 0)) 3) = wk16 at *
        generalize wk13.heap.size = ga at *
        (try simp only [Act.put, List.getElem_toArray, List.getElem_cons_zero, List.getElem_cons_succ, List.setIfInBounds_toArray, List.set_cons_zero, List.set_cons_succ])
        refine wpAnyH_take (i := 5) (v := .agg (ldv (.slice none 0 0) ga gs n 0)) rfl (by kernel_rfl) (by kernel_rfl) (by kernel_rfl) (fun _ _ _ h => h) (Or.inl ⟨by rfl, ?_⟩) (by assumption) ?_
        · intro w hSw; go_simp; (try simp [ldv])
        (try simp only [Act.put, List.getElem_toArray, List.getElem_cons_zero, List.getElem_cons_succ, List.setIfInBounds_toArray, List.set_cons_zero, List.set_cons_succ])
        refine wpAnyH_ready (rs := [6]) (by kernel_rfl) (by simp) ?_
        refine AllReadyH.cons rfl (fun K hK => ?k17) AllReadyH.nil
        case' k17 =>
          go_simp
          have hq18 := (Below.refl wk16.heap.size wk16).alloc (Nat.le_refl _) (.cells #[.slice none 0 0, .slice none 0 0, .slice none 0 0, .int .i64 0] 44)
          have hA := heap_alloc_new wk16 (.cells #[.slice none 0 0, .slice none 0 0, .slice none 0 0, .int .i64 0] 44)
          have lJ : wk16.heap.size < (wk16.alloc (.cells #[.slice none 0 0, .slice none 0 0, .slice none 0 0, .int .i64 0] 44)).heap.size := by simp
          replace hC := hC.below hq18
          replace hM := hM.below hq18
          have loJ := hbW.size
          replace hbW := hbW.trans (hq18.mono hbW.size)
          refine hK.out _ _ trivial (fun _ => ?_)
          clear hK K hq18
          generalize wk16.alloc (.cells #[.slice none 0 0, .slice none 0 0, .slice none 0 0, .int .i64 0] 44) = wk18 at *
          generalize wk16.heap.size = J at *
          (try simp only [Act.put, List.getElem_toArray, List.getElem_cons_zero, List.getElem_cons_succ, List.setIfInBounds_toArray, List.set_cons_zero, List.set_cons_succ])
          refine wpAnyH_ready (rs := [7]) (by kernel_rfl) (by simp) ?_
          refine AllReadyH.cons rfl (fun K hK => ?_) AllReadyH.nil
          refine wp_store_row 44 (.tmp 6) (.tmp 26) rfl J (ldv (.slice none 0 0) ga gs n 0) rfl rfl 44 _ hA info_ld rfl (one_ld _ _ _ _ _ _ _) ?_
          refine hK.out _ _ trivial (fun _ => ?_)
          clear hK K
          refine wpAnyH_done (by kernel_rfl) ?_ _
          have hfin : Start w2 (wk18.setRow J (ldv (.slice none 0 0) ga gs n 0)) n X J ga gs := ⟨setRow_heap _ _ _ _ _ _ hA, hM.off (setRow_offA _ _ _) (by simp; omega), hC.off (setRow_offA _ _ _) (by simp; omega), by omega, by omega, below_setRow hbW (by omega) _⟩
          go_wp2_with fail
          go_meet
          case rel => exact ⟨J, ga, gs, rfl, hfin⟩
      case' k15 =>
        go_simp
        have hq19 := (Below.refl wk13.heap.size wk13).alloc (Nat.le_refl _) (.cells #[.slice none 0 0, .slice none 0 0, .slice none 0 0, .int .i64 0] 44)
        have hA := heap_alloc_new wk13 (.cells #[.slice none 0 0, .slice none 0 0, .slice none 0 0, .int .i64 0] 44)
        have lJ : wk13.heap.size < (wk13.alloc (.cells #[.slice none 0 0, .slice none 0 0, .slice none 0 0, .int .i64 0] 44)).heap.size := by simp
        replace hC := hC.below hq19
        have loJ := hbW.size
        replace hbW := hbW.trans (hq19.mono hbW.size)
        refine hK.out _ _ trivial (fun _ => ?_)
        clear hK K hq19
        generalize wk13.alloc (.cells #[.slice none 0 0, .slice none 0 0, .slice none 0 0, .int .i64 0] 44) = wk19 at *
        generalize wk13.heap.size = J at *
        (try simp only [Act.put, List.getElem_toArray, List.getElem_cons_zero, List.getElem_cons_succ, List.setIfInBounds_toArray, List.set_cons_zero, List.set_cons_succ])
        refine wpAnyH_ready (rs := [2]) (by kernel_rfl) (by simp) ?_
        refine AllReadyH.cons rfl (fun K hK => ?k20) AllReadyH.nil
        case' k20 =>
          go_simp
          have hq21 := (Below.refl wk19.heap.size wk19).alloc (Nat.le_refl _) (.cells (row n (fun _ => 0)) 3)
          have hM : Rw (wk19.alloc (.cells (row n (fun _ => 0)) 3)) wk19.heap.size n (fun _ => 0) := heap_alloc_new wk19 (.cells (row n (fun _ => 0)) 3)
          have lga : wk19.heap.size < (wk19.alloc (.cells (row n (fun _ => 0)) 3)).heap.size := by simp
          replace hC := hC.below hq21
          replace hA := (hq21.block _ (lt_of_block hA)).trans hA
          have loga := hbW.size
          replace hbW := hbW.trans (hq21.mono hbW.size)
          refine hK.out _ _ trivial (fun _ => ?_)
          clear hK K hq21
          generalize wk19.alloc (.cells (row n (fun _ => 0)) 3) = wk21 at *
          generalize wk19.heap.size = ga at *
          (try simp only [Act.put, List.getElem_toArray, List.getElem_cons_zero, List.getElem_cons_succ, List.setIfInBounds_toArray, List.set_cons_zero, List.set_cons_succ])
          refine wpAnyH_take (i := 5) (v := .agg (ldv (.slice none 0 0) ga gs n 0)) rfl (by kernel_rfl) (by kernel_rfl) (by kernel_rfl) (fun _ _ _ h => h) (Or.inl ⟨by rfl, ?_⟩) (by assumption) ?_
          · intro w hSw; go_simp; (try simp [ldv])
          (try simp only [Act.put, List.getElem_toArray, List.getElem_cons_zero, List.getElem_cons_succ, List.setIfInBounds_toArray, List.set_cons_zero, List.set_cons_succ])
          refine wpAnyH_ready (rs := [7]) (by kernel_rfl) (by simp) ?_
          refine AllReadyH.cons rfl (fun K hK => ?_) AllReadyH.nil
          refine wp_store_row 44 (.tmp 6) (.tmp 26) rfl J (ldv (.slice none 0 0) ga gs n 0) rfl rfl 44 _ hA info_ld rfl (one_ld _ _ _ _ _ _ _) ?_
          refine hK.out _ _ trivial (fun _ => ?_)
          clear hK K
          refine wpAnyH_done (by kernel_rfl) ?_ _
          have hfin : Start w2 (wk21.setRow J (ldv (.slice none 0 0) ga gs n 0)) n X J ga gs := ⟨setRow_heap _ _ _ _ _ _ hA, hM.off (setRow_offA _ _ _) (by simp; omega), hC.off (setRow_offA _ _ _) (by simp; omega), by omega, by omega, below_setRow hbW (by omega) _⟩
          go_wp2_with fail
          go_meet
          case rel => exact ⟨J, ga, gs, rfl, hfin⟩
    case' k3 =>
      go_simp
      have hq22 := (Below.refl wd.heap.size wd).alloc (Nat.le_refl _) (.cells #[.slice none 0 0, .slice none 0 0, .slice none 0 0, .int .i64 0] 44)
      have hA := heap_alloc_new wd (.cells #[.slice none 0 0, .slice none 0 0, .slice none 0 0, .int .i64 0] 44)
      have lJ : wd.heap.size < (wd.alloc (.cells #[.slice none 0 0, .slice none 0 0, .slice none 0 0, .int .i64 0] 44)).heap.size := by simp
      have loJ := hbW.size
      replace hbW := hbW.trans (hq22.mono hbW.size)
      refine hK.out _ _ trivial (fun _ => ?_)
      clear hK K hq22
      generalize wd.alloc (.cells #[.slice none 0 0, .slice none 0 0, .slice none 0 0, .int .i64 0] 44) = wk22 at *
      generalize wd.heap.size = J at *
      (try simp only [Act.put, List.getElem_toArray, List.getElem_cons_zero, List.getElem_cons_succ, List.setIfInBounds_toArray, List.set_cons_zero, List.set_cons_succ])
      refine wpAnyH_ready (rs := [2, 4]) (by kernel_rfl) (by simp) ?_
      refine AllReadyH.cons rfl (fun K hK => ?k23) (AllReadyH.cons rfl (fun K hK => ?k24) AllReadyH.nil)
      case' k23 =>
        go_simp
        have hq25 := (Below.refl wk22.heap.size wk22).alloc (Nat.le_refl _) (.cells (row n (fun _ => 0)) 3)
        have hM : Rw (wk22.alloc (.cells (row n (fun _ => 0)) 3)) wk22.heap.size n (fun _ => 0) := heap_alloc_new wk22 (.cells (row n (fun _ => 0)) 3)
        have lga : wk22.heap.size < (wk22.alloc (.cells (row n (fun _ => 0)) 3)).heap.size := by simp
        replace hA := (hq25.block _ (lt_of_block hA)).trans hA
        have loga := hbW.size
        replace hbW := hbW.trans (hq25.mono hbW.size)
        refine hK.out _ _ trivial (fun _ => ?_)
        clear hK K hq25
        generalize wk22.alloc (.cells (row n (fun _ => 0)) 3) = wk25 at *
        generalize wk22.heap.size = ga at *
        (try simp only [Act.put, List.getElem_toArray, List.getElem_cons_zero, List.getElem_cons_succ, List.setIfInBounds_toArray, List.set_cons_zero, List.set_cons_succ])
        refine wpAnyH_ready (rs := [4]) (by kernel_rfl) (by simp) ?_
        refine AllReadyH.cons rfl (fun K hK => ?k26) AllReadyH.nil
        case' k26 =>
          go_simp
          with_reducible refine (firstSizes_any p n cap X wk25 (hI2.out.below hbW) hn).mono ?_
          rintro e wk27 ⟨rfl, hC, hq27⟩
          have lgs : wk25.heap.size < wk27.heap.size := hC.lt
          replace hA := (hq27.block _ (lt_of_block hA)).trans hA
          replace hM := hM.below hq27
          have logs := hbW.size
          replace hbW := hbW.trans (hq27.mono hbW.size)
          refine hK.out _ _ trivial (fun _ => ?_)
          clear hK K hq27
          generalize wk25.heap.size = gs at *
          (try simp only [Act.put, List.getElem_toArray, List.getElem_cons_zero, List.getElem_cons_succ, List.setIfInBounds_toArray, List.set_cons_zero, List.set_cons_succ])
          refine wpAnyH_take (i := 5) (v := .agg (ldv (.slice none 0 0) ga gs n 0)) rfl (by kernel_rfl) (by kernel_rfl) (by kernel_rfl) (fun _ _ _ h => h) (Or.inl ⟨by rfl, ?_⟩) (by assumption) ?_
          · intro w hSw; go_simp; (try simp [ldv])
          (try simp only [Act.put, List.getElem_toArray, List.getElem_cons_zero, List.getElem_cons_succ, List.setIfInBounds_toArray, List.set_cons_zero, List.set_cons_succ])
          refine wpAnyH_ready (rs := [7]) (by kernel_rfl) (by simp) ?_
          refine AllReadyH.cons rfl (fun K hK => ?_) AllReadyH.nil
          refine wp_store_row 44 (.tmp 6) (.tmp 26) rfl J (ldv (.slice none 0 0) ga gs n 0) rfl rfl 44 _ hA info_ld rfl (one_ld _ _ _ _ _ _ _) ?_
          refine hK.out _ _ trivial (fun _ => ?_)
          clear hK K
          refine wpAnyH_done (by kernel_rfl) ?_ _
          have hfin : Start w2 (wk27.setRow J (ldv (.slice none 0 0) ga gs n 0)) n X J ga gs := ⟨setRow_heap _ _ _ _ _ _ hA, hM.off (setRow_offA _ _ _) (by simp; omega), hC.off (setRow_offA _ _ _) (by simp; omega), by omega, by omega, below_setRow hbW (by omega) _⟩
          go_wp2_with fail
          go_meet
          case rel => exact ⟨J, ga, gs, rfl, hfin⟩
      case' k24 =>
        go_simp
        with_reducible refine (firstSizes_any p n cap X wk22 (hI2.out.below hbW) hn).mono ?_
        rintro e wk28 ⟨rfl, hC, hq28⟩
        have lgs : wk22.heap.size < wk28.heap.size := hC.lt
        replace hA := (hq28.block _ (lt_of_block hA)).trans hA
        have logs := hbW.size
        replace hbW := hbW.trans (hq28.mono hbW.size)
        refine hK.out _ _ trivial (fun _ => ?_)
        clear hK K hq28
        generalize wk22.heap.size = gs at *
        (try simp only [Act.put, List.getElem_toArray, List.getElem_cons_zero, List.getElem_cons_succ, List.setIfInBounds_toArray, List.set_cons_zero, List.set_cons_succ])
        refine wpAnyH_ready (rs := [2]) (by kernel_rfl) (by simp) ?_
        refine AllReadyH.cons rfl (fun K hK => ?k29) AllReadyH.nil
        case' k29 =>
          go_simp
          have hq30 := (Below.refl wk28.heap.size wk28).alloc (Nat.le_refl _) (.cells (row n (fun _ => 0)) 3)
          have hM : Rw (wk28.alloc (.cells (row n (fun _ => 0)) 3)) wk28.heap.size n (fun _ => 0) := heap_alloc_new wk28 (.cells (row n (fun _ => 0)) 3)
          have lga : wk28.heap.size < (wk28.alloc (.cells (row n (fun _ => 0)) 3)).heap.size := by simp
          replace hA := (hq30.block _ (lt_of_block hA)).trans hA
          replace hC := hC.below hq30
          have loga := hbW.size
          replace hbW := hbW.trans (hq30.mono hbW.size)
          refine hK.out _ _ trivial (fun _ => ?_)
          clear hK K hq30
          generalize wk28.alloc (.cells (row n (fun _ => 0)) 3) = wk30 at *
          generalize wk28.heap.size = ga at *
          (try simp only [Act.put, List.getElem_toArray, List.getElem_cons_zero, List.getElem_cons_succ, List.setIfInBounds_toArray, List.set_cons_zero, List.set_cons_succ])
          refine wpAnyH_take (i := 5) (v := .agg (ldv (.slice none 0 0) ga gs n 0)) rfl (by kernel_rfl) (by kernel_rfl) (by kernel_rfl) (fun _ _ _ h => h) (Or.inl ⟨by rfl, ?_⟩) (by assumption) ?_
          · intro w hSw; go_simp; (try simp [ldv])
          (try simp only [Act.put, List.getElem_toArray, List.getElem_cons_zero, List.getElem_cons_succ, List.setIfInBounds_toArray, List.set_cons_zero, List.set_cons_succ])
          refine wpAnyH_ready (rs := [7]) (by kernel_rfl) (by simp) ?_
          refine AllReadyH.cons rfl (fun K hK => ?_) AllReadyH.nil
          refine wp_store_row 44 (.tmp 6) (.tmp 26) rfl J (ldv (.slice none 0 0) ga gs n 0) rfl rfl 44 _ hA info_ld rfl (one_ld _ _ _ _ _ _ _) ?_
          refine hK.out _ _ trivial (fun _ => ?_)
          clear hK K
          refine wpAnyH_done (by kernel_rfl) ?_ _
          have hfin : Start w2 (wk30.setRow J (ldv (.slice none 0 0) ga gs n 0)) n X J ga gs := ⟨setRow_heap _ _ _ _ _ _ hA, hM.off (setRow_offA _ _ _) (by simp; omega), hC.off (setRow_offA _ _ _) (by simp; omega), by omega, by omega, below_setRow hbW (by omega) _⟩
          go_wp2_with fail
          go_meet
          case rel => exact ⟨J, ga, gs, rfl, hfin⟩
  case rest =>
    obtain ⟨J, ga, gs, rfl, hst⟩ := hcut
    have hlo := hst.lo
    have hne := hst.ne
    have hbx := hst.below.size
    have HX3 := hide ((hst.below.block B0 (by omega)).trans hX2.out)
    have HI3 := hide (hI2.out.below hst.below)
    have HG3 := hide (hG2.out.below hst.below)
    have HB3 := hide (hB2.out.trans (hst.below.mono (by omega)))
    have hJA : J ≠ ga ∧ J ≠ gs := ⟨fun e => by have y := hst.A; unfold Rw at y; rw [← e, hst.box] at y; simp at y, fun e => by have y := hst.S; unfold Rw at y; rw [← e, hst.box] at y; simp at y⟩
    have hcl : Clear p [J, ga, gs] := fun b off hq => by
      have := hp b off hq
      simp; omega
    have HST := hide hst
    have HCL := hide hcl
    clear hst hI2 hG2 hcl hX2
    go_wp2_with fail
    go_loopw [7] (fun s7 wr => LRel n X wc J ga gs s7 wr) (fun s7 wr => msr n J s7 wr)
    case atStart => exact .on 0 _ _ rfl HST.out.box HST.out.A HST.out.S (Off.refl _ _) first_ok (fun t ht => by omega)
    case round =>
      rcases hrel with ⟨r, s, a, rfl, box, hA, hS, ho, hs, hb⟩ | ⟨R, rfl, box, hA, hS, ho, he⟩
      · have hrn : r ≤ n := Nat.le_trans (Prg.rounds_cnt (P := prg n X) fun t ht => (hb t ht).2) (Prg.cnt_le _ (prg n X).n)
        have hm0 : Hid (msr n J (.bool true) wr = n + 2 - r) := by show n + 2 - (rndAt J wr).toNat = _; rw [rnd_is box]
        have hrb : (r : Int) ≤ 10000 := by omega
        have hI4 := HI3.out.off ho HCL.out
        have hG4 := hide (HG3.out.off ho (by simp; omega))
        have HBX := hide box
        have HHB := hide hb
        have HHS := hide hs
        have hX4 := hide ((ho.block B0 (lt_of_block HX3.out) (by simp; omega)).trans HX3.out)
        have HO4 := hide ho
        have jl := lt_of_block box
        clear hb hs box ho
        go_wp2_with (refine wpList_load_row rfl 44 (.tmp 6) rfl J rfl 44 _ (0, 0) _ (unhide HBX) Tryd.underlying44 rfl info_ld ?_)
        refine (place_any (W := (prg n X).it r) hI4 HR.out hA hS hne (fun b off hq => by have := HCL.out b off hq; simp at this ⊢; omega) HHS.out hn).mono ?_
        rintro e w5 ⟨ho5, ⟨rfl, hle, hA5, hS5⟩ | ⟨rfl, hbig⟩⟩
        · have hBX5 := (ho5.block J jl (by simp; omega)).trans HBX.out
          have hX5 := hide ((ho5.block B0 (lt_of_block hX4.out) (by simp; omega)).trans hX4.out)
          have hI5 := hI4.off ho5 (fun b off hq => by have := HCL.out b off hq; simp at this ⊢; omega)
          have hG5 := hide (hG4.out.off ho5 (by simp; omega))
          have HO5 := hide (HO4.out.trans (ho5.mono (T := [J, ga, gs]) (by intro k hk; simp at hk ⊢; omega)))
          have c3 : w5.cell? ⟨J, 3, none⟩ = some (.int .i64 (r : Int)) := by rw [cell_of_row _ _ _ _ _ _ hBX5]; rfl
          have f3 : w5.frozen? ⟨J, 3, none⟩ = false := free_block hBX5 3
          have HBX6 : Hid ((w5.setCell ⟨J, 3, none⟩ (.int .i64 ((r : Int) + 1))).heap[J]? = some (.cells (ldv (.slice none 0 0) ga gs n ((r : Int) + 1)) 44 (0, 0))) := set_block 3 _ hBX5
          have hO6 : Off [J, ga, gs] w5 (w5.setCell ⟨J, 3, none⟩ (.int .i64 ((r : Int) + 1))) := (Off.refl _ _).set (by simp) _
          have HO6 := hide (HO5.out.trans hO6)
          have HX6 := hide ((hO6.block B0 (lt_of_block hX5.out) (by simp; omega)).trans hX5.out)
          have HI6 := hide (hI5.off hO6 HCL.out)
          have HG6 := hide (hG5.out.off hO6 (by simp; omega))
          have HA6 := hide (Rw.other hA5 (p := ⟨J, 3, none⟩) (.int .i64 ((r : Int) + 1)) hJA.1)
          have HS6 := hide (Rw.other hS5 (p := ⟨J, 3, none⟩) (.int .i64 ((r : Int) + 1)) hJA.2)
          have HLE := hide hle
          clear hA hS hA5 hS5 hI4 hI5 ho5 hBX5 hO6 hle hX4 hG4 HBX HO4 HO5 hX5 hG5
          go_upto_region 9 with fail
          (try simp only [Act.put, List.getElem_toArray, List.getElem_cons_zero, List.getElem_cons_succ, List.setIfInBounds_toArray, List.set_cons_zero, List.set_cons_succ])
          have hz6 : (w5.setCell ⟨J, 3, none⟩ (.int .i64 ((r : Int) + 1))).heap.size = w5.heap.size := by simp [World.setCell]
          generalize w5.setCell ⟨J, 3, none⟩ (.int .i64 ((r : Int) + 1)) = w6 at *
          clear c3 f3
          have jl6 := lt_of_block HBX6.out
          have HTB : Hid (∀ w', Off [gs] w6 w' → Inst.Laid w') := fun w' ho' => (hL2.out.below (HST.out.below.trans (((HO6.out.trans (ho'.mono (T := [J, ga, gs]) (by intro k hk; simp at hk ⊢; omega))).below (n := w2.heap.size) (by omega) (by intro k hk; simp at hk; omega))))).two
          go_wp2_with (refine wpList_load_row rfl 44 (.tmp 6) rfl J rfl 44 _ (0, 0) _ (unhide HBX6) Tryd.underlying44 rfl info_ld ?_)
          refine (widen_any (W := (prg n X).it r) HI6.out HR.out HA6.out HS6.out HG6.out hne (by omega) (fun b off hq => by have := HCL.out b off hq; simp at this ⊢; omega) szok_placed hn HLE.out HGO.out (HTB.out w6 (Off.refl _ _)) HTB.out).mono ?_
          rintro e w7 ⟨ho7, rfl, hS7⟩
          have HBX7 := hide ((ho7.block J jl6 (by simp; omega)).trans HBX6.out)
          have HO7 := hide (HO6.out.trans (ho7.mono (T := [J, ga, gs]) (by intro k hk; simp at hk ⊢; omega)))
          have HA7 := hide (HA6.out.off ho7 (by simpa using hne))
          have HS7 := hide hS7
          clear ho7 hS7 HBX6 HO6 HA6 HS6 HI6 HG6 HX6
          cases hbn : badN (prg n X) ((prg n X).it r) n
          · have hnb : ∀ i, i < n → (prg n X).bad ((prg n X).it r) i = false := fun i hi => by
              cases e : (prg n X).bad ((prg n X).it r) i
              · rfl
              · rw [badN_iff.2 ⟨i, hi, e⟩] at hbn; cases hbn
            have HNB := hide hnb
            go_wp2_with fail
            go_roundw
            case rel => exact .off r rfl HBX7.out HA7.out (HS7.out.same fun i hi => if_neg (fun q => by rw [HNB.out i hi] at q; exact absurd q.2 (by simp))) HO7.out ⟨HHB.out, by simp only [Bool.false_eq_true, if_false]; exact ⟨HLE.out, HNB.out⟩⟩
            case measure =>
              show (0 : Nat) < msr n J (.bool true) wr
              rw [hm0.out]; omega
          · go_wp2_with fail
            go_roundw
            case rel => exact .on (r + 1) _ _ rfl (by rw [HBX7.out]; push_cast; rfl) HA7.out HS7.out HO7.out (wdR_ok szok_placed) (fun t ht => by
              by_cases e : t = r
              · subst e; exact ⟨HLE.out, badN_iff.1 hbn⟩
              · exact HHB.out t (by omega))
            case measure =>
              have hr1 : r + 1 ≤ n := Nat.le_trans (Prg.rounds_cnt (P := prg n X) (R := r + 1) fun t ht => by
                by_cases e : t = r
                · subst e; exact badN_iff.1 hbn
                · exact (HHB.out t (by omega)).2) (Prg.cnt_le _ (prg n X).n)
              have hm1 : (rndAt J w7).toNat = r + 1 := rnd_is (r := r + 1) (by rw [HBX7.out]; push_cast; rfl)
              show n + 2 - (rndAt J w7).toNat < msr n J (.bool true) wr
              rw [hm0.out, hm1]; omega
        · have hBX5 := hide ((ho5.block B0 (lt_of_block hX4.out) (by simp; omega)).trans hX4.out)
          have R1 := hide (setRow_heap _ _ _ (#[.slice none 0 0, .slice none 0 0, .slice none 0 0, .int .i64 0] : Array Value) _ _ hBX5.out)
          have HB5 := HB3.out.trans ((HO4.out.trans (ho5.mono (T := [J, ga, gs]) (by intro k hk; simp at hk ⊢; omega))).below (n := B0) (by omega) (by intro k hk; simp at hk; omega))
          have hfin := hide (below_setRow (B := B0) HB5 (Nat.le_refl B0) (#[.slice none 0 0, .slice none 0 0, .slice none 0 0, .int .i64 0] : Array Value))
          have hEnd : Hid ((prg n X).Ends r true) := ⟨HHB.out, by simp only [if_true]; exact hbig⟩
          clear hA hS hI4 ho5 hG4 HBX HB5
          go_wp2_with (refine wpList_store_rowTo rfl 44 (.tmp 2) (.tmp 36) rfl rfl _ (#[.slice none 0 0, .slice none 0 0, .slice none 0 0, .int .i64 0]) rfl rfl 44 (#[.slice none 0 0, .slice none 0 0, .slice none 0 0, .int .i64 0]) (unhide hBX5) info_ld rfl one_z ?_)
          refine bodyPost_ret (v := .tuple #[.agg #[.slice none 0 0, .slice none 0 0, .slice none 0 0, .int .i64 0], .int .i64 82]) (by have HR := run_loadVar_row (P := Tryd.prog) _ B0 44 44 (#[.slice none 0 0, .slice none 0 0, .slice none 0 0, .int .i64 0]) (0, 0) _ R1.out Tryd.underlying44 rfl info_ld; simp [results, Tryd.results16, asAddr, HR]) rfl ⟨by rw [hB0]; exact hfin.out, .big hall HOF.out r hEnd.out rfl⟩
      · have hI4 := HI3.out.off ho HCL.out
        have hG4 := HG3.out.off ho (by simp; omega)
        have HBX := hide box
        have hL4 := hL2.out.below (HST.out.below.trans (ho.below (n := w2.heap.size) (by omega) (by intro k hk; simp at hk; omega)))
        have HX4 := hide ((ho.block B0 (lt_of_block HX3.out) (by simp; omega)).trans HX3.out)
        have HB4 := hide (HB3.out.trans (ho.below (n := B0) (by omega) (by intro k hk; simp at hk; omega)))
        have hle : (prg n X).at_ ((prg n X).it R) n ≤ 65536 ∧ ∀ i, i < n → (prg n X).bad ((prg n X).it R) i = false := by have l := he.last; simp only [Bool.false_eq_true, if_false] at l; exact l
        have jl := lt_of_block box
        have wl := ho.size
        clear box ho
        go_wp2_with (refine wpList_load_row rfl 44 (.tmp 6) rfl J rfl 44 _ (0, 0) _ (unhide HBX) Tryd.underlying44 rfl info_ld ?_)
        refine (bytes_any (W := (prg n X).it R) hI4 HR.out hA hS hG4 hn hle.1 HGO.out hle.2 hL4).mono ?_
        rintro e w8 ⟨v, rfl, hB8, hb8⟩
        obtain ⟨q8, l8, c8, rfl⟩ := own_slc hB8
        have hBX8 := (hb8.block J jl).trans HBX.out
        have hX8 := (hb8.block B0 (by omega)).trans HX4.out
        have c0 : w8.cell? ⟨J, 0, none⟩ = some (.slice none 0 0) := by rw [cell_of_row _ _ _ _ _ _ hBX8]; rfl
        have f0 : w8.frozen? ⟨J, 0, none⟩ = false := free_block hBX8 0
        have HBX9 : Hid ((w8.setCell ⟨J, 0, none⟩ (.slice q8 l8 c8)).heap[J]? = some (.cells (ldv (.slice q8 l8 c8) ga gs n ((R : Int) + 1)) 44 (0, 0))) := set_block 0 _ hBX8
        have hO9 : Off [J] w8 (w8.setCell ⟨J, 0, none⟩ (.slice q8 l8 c8)) := (Off.refl _ _).set (by simp) _
        have HX9 := hide ((hO9.block B0 (lt_of_block hX8) (by simp; omega)).trans hX8)
        have HA9 := hide ((hA.below hb8).off hO9 (by simpa using fun e => hJA.1 e.symm))
        have HS9 := hide ((hS.below hb8).off hO9 (by simpa using fun e => hJA.2 e.symm))
        have HB9 := hide (owns_off hB8 hO9 jl)
        have HW9 := hide ((HB4.out.trans (hb8.mono (by omega))).trans (hO9.below (n := B0) (by have := hb8.size; omega) (by intro k hk; simp at hk; omega)))
        have hs8 := hb8.size
        clear hA hS hI4 hG4 hB8 hb8 hBX8 hX8 HBX HX4 HB4 hL4
        go_upto_region 14 with fail
        (try simp only [Act.put, List.getElem_toArray, List.getElem_cons_zero, List.getElem_cons_succ, List.setIfInBounds_toArray, List.set_cons_zero, List.set_cons_succ])
        have hz9 : (w8.setCell ⟨J, 0, none⟩ (.slice q8 l8 c8)).heap.size = w8.heap.size := by simp [World.setCell]
        generalize w8.setCell ⟨J, 0, none⟩ (.slice q8 l8 c8) = w9 at *
        clear c0 f0 hO9
        have R9 := hide (setRow_heap _ _ _ (ldv (.slice q8 l8 c8) ga gs n ((R : Int) + 1)) _ _ HX9.out)
        have O9 := setRow_offA w9 B0 (ldv (.slice q8 l8 c8) ga gs n ((R : Int) + 1))
        have HA10 := hide (HA9.out.off O9 (by simp; omega))
        have HS10 := hide (HS9.out.off O9 (by simp; omega))
        have HB10 := hide (own_low (owns_off HB9.out O9 (by omega)) (show B0 ≤ wr.heap.size by omega))
        have HW10 := hide (below_setRow (B := B0) HW9.out (Nat.le_refl B0) (ldv (.slice q8 l8 c8) ga gs n ((R : Int) + 1)))
        clear O9
        go_wp2_with (first
          | (refine wpList_load_row rfl 44 (.tmp 6) rfl J rfl 44 _ (0, 0) _ (unhide HBX9) Tryd.underlying44 rfl info_ld ?_)
          | (refine wpList_store_rowTo rfl 44 (.tmp 2) (.tmp 46) rfl rfl _ (ldv (.slice q8 l8 c8) ga gs n ((R : Int) + 1)) rfl rfl 44 (#[.slice none 0 0, .slice none 0 0, .slice none 0 0, .int .i64 0]) (unhide HX9) info_ld rfl (one_ld _ _ _ _ _ _ _) ?_))
        refine bodyPost_ret (v := .tuple #[.agg (ldv (.slice q8 l8 c8) ga gs n ((R : Int) + 1)), .int .i64 0]) (by have HR := run_loadVar_row (P := Tryd.prog) _ B0 44 44 (ldv (.slice q8 l8 c8) ga gs n ((R : Int) + 1)) (0, 0) _ R9.out Tryd.underlying44 rfl info_ld; simp [results, Tryd.results16, asAddr, HR]) rfl ⟨by rw [hB0]; exact HW10.out, .ok hall HOF.out R ga gs (.slice q8 l8 c8) he rfl HA10.out HS10.out (by omega) (by rw [hB0]; exact HB10.out)⟩
end Go.Proofs.YtfdnjoieolijcaaDoor.Asm

