/- A sign ahead of an operand: package parse's operand. -/
import Derived.Test.YtimiglepogeeiaaDoorParseOperand
import Derived.Deep.RegionHeld3
set_option linter.unusedVariables false
set_option linter.unusedSimpArgs false
set_option maxRecDepth 100000
namespace Go.Proofs.YtimiglepogeeiaaDoor.Parse
open Go.RowKit Go.Proofs.YtimiglepogeeiaaDoor.Lex

section
variable {b g c : Nat} {L : List T} {w : World} {r : R}

set_option maxHeartbeats 16000000 in
theorem op_un1 (d : Int) (h1 : 0 ≤ d) (h7 : d ≤ 1000) (op : R → R × Tr) (hop : NC b g c L 109 (d + 1) op) (h : Rd w b g c L r) (hf : fol L [40] (deep d r) = false) (hk : (tk L (deep d r)).k ≠ 2) (hm1 : fol L [126] (nod (deep d r)) = true) :
    Calls Tryd.prog 109 #[.pointer (some ⟨b, 0, none⟩), .int .i64 d] w (NR b g c L w ((op (adv (nod (deep d r)))).1, .mk 18 (tk L (deep d r)).a (tk L (deep d r)).t 0 [(op (adv (nod (deep d r)))).2])) := by
  have hbz := h.ltb
  have hgz := h.row.lt
  have HB := hide (But.refl b w)
  have HX0 : Hid (Bx (w.alloc (.cells #[.int .i64 0, .int .i64 0, .string ⟨#[]⟩, .int .u32 0, .slice none 0 0] 27)) w.heap.size 27 #[.int .i64 0, .int .i64 0, .string ⟨#[]⟩, .int .u32 0, .slice none 0 0]) := hide (heap_new w _ _)
  have hu : w.heap.size < (w.alloc (.cells #[.int .i64 0, .int .i64 0, .string ⟨#[]⟩, .int .u32 0, .slice none 0 0] 27)).heap.size := by simp
  have ho := within_any (h.alloc (.cells #[.int .i64 0, .int .i64 0, .string ⟨#[]⟩, .int .u32 0, .slice none 0 0] 27)) d
  generalize deep d r = r0 at *
  go_enter Tryd.func109, Tryd.ntmps109
  go_wp2_with fail
  refine ho.mono ?_
  rintro e w1 ⟨rfl, hR1, hB1⟩
  have ht := take_any hR1 [40] (by decide)
  unfold take at ht
  rw [hf, if_neg (by simp)] at ht
  have HB1 : Hid (But b w w1) := hide (But.trans (by repeat (first | with_reducible exact HB.out | with_reducible refine But.alloc ?_ _ | with_reducible refine But.fresh ?_ (by first | omega | (dsimp only; omega)) _)) hB1)
  have HX1 : Hid (Bx w1 w.heap.size 27 #[.int .i64 0, .int .i64 0, .string ⟨#[]⟩, .int .u32 0, .slice none 0 0]) := hide (Bx.but (by repeat (first | with_reducible exact HX0.out | with_reducible exact Bx.newAt (by first | rfl | (simp [World.setCell]; done)) | with_reducible refine Bx.alloc ?_ _ | with_reducible refine Bx.other ?_ _ (by first | omega | (dsimp only; omega)))) hB1 (by omega))
  have hz1 := hB1.size
  clear ho h hR1 hB1
  go_wp2_with fail
  refine ht.mono ?_
  rintro e w2 ⟨rfl, hR2, hB2⟩
  have hz2 := hB2.size
  have HB2 := hide (HB1.out.trans hB2)
  have HX2 := hide (Bx.but HX1.out hB2 (by omega))
  have hno := node_any hR2 0
  unfold nC at hno
  have HTN : Hid (tk L (nod r0) = tk L r0) := tk_nod L r0
  generalize htk : tk L r0 = tok at *
  obtain ⟨qk, qa, qt, qv⟩ := tok
  dsimp only at *
  have HTK := hide htk
  clear ht hR2 hB2 htk
  go_wp2_with fail
  refine hno.mono ?_
  rintro e w3 ⟨rfl, hR3, hB3⟩
  have HR3 := hide (hR3.alloc (.cells #[.int .i64 0, .int .i64 qa, .string (S []), .int .u32 0, .slice none 0 0] 27))
  have HB3 := hide ((HB2.out.trans hB3).alloc (.cells #[.int .i64 0, .int .i64 qa, .string (S []), .int .u32 0, .slice none 0 0] 27))
  have HX3 := hide ((Bx.but HX2.out hB3 (by omega)).alloc (.cells #[.int .i64 0, .int .i64 qa, .string (S []), .int .u32 0, .slice none 0 0] 27))
  have hz3 := hB3.size
  have hnx := next_any HR3.out
  rw [HTN.out] at hnx
  simp only [tA] at hnx
  clear hno hR3 hB3
  go_wp2_with fail
  refine hnx.mono ?_
  rintro e w4 ⟨rfl, hb4⟩
  have hz4 := hb4.size
  simp at hz4
  have HR4 := hide ((HR3.out.kept hb4).alloc (.cells #[.int .i64 qk, .int .i64 qa, .string (S qt), .int .u32 qv] 53))
  have HB4 := hide ((HB3.out.trans (But.of_below hb4)).alloc (.cells #[.int .i64 qk, .int .i64 qa, .string (S qt), .int .u32 qv] 53))
  have HX4 := hide ((HX3.out.below hb4).alloc (.cells #[.int .i64 qk, .int .i64 qa, .string (S qt), .int .u32 qv] 53))
  have hn3 : Bx (w3.alloc (.cells #[.int .i64 0, .int .i64 qa, .string (S []), .int .u32 0, .slice none 0 0] 27)) w3.heap.size 27 _ := heap_new w3 _ _
  have HN4 := hide ((hn3.below hb4).alloc (.cells #[.int .i64 qk, .int .i64 qa, .string (S qt), .int .u32 qv] 53))
  have hk4 : Bx (w4.alloc (.cells #[.int .i64 qk, .int .i64 qa, .string (S qt), .int .u32 qv] 53)) w4.heap.size 53 _ := heap_new w4 _ _
  have HK4 := hide hk4
  clear hnx hb4 hn3 hk4
  have hkf : (qk == 2) = false := by simpa using hk
  have hw : IntKind.i64.wrap (d + 1) = d + 1 := IntWalk.i64_in _ (by omega)
  have hm1' := take_any HR4.out [126] (by decide)
  unfold take at hm1'
  rw [hm1, if_pos rfl] at hm1'
  have k0 := HK4.out.cell (k := 0) rfl
  have k1 := HK4.out.cell (k := 1) rfl
  have k2 := HK4.out.cell (k := 2) rfl
  have k3 := HK4.out.cell (k := 3) rfl
  have kl := HK4.out.lt
  have kf := HK4.out.free
  go_wp2_with fail
  refine hm1'.mono ?_
  rintro e w5 ⟨rfl, hR5, hB5⟩
  have hz5 := hB5.size
  simp at hz5
  have HR5 := hide hR5
  have HB5 := hide (HB4.out.trans hB5)
  have HX5 := hide (Bx.but HX4.out hB5 (by omega))
  have HN5 := hide (Bx.but HN4.out hB5 (by omega))
  have hk5 := Bx.but HK4.out hB5 (by omega)
  clear hm1' hR5 hB5 k0 k1 k2 k3 kl kf
  go_wp2_with fail
  have HC := hide (hop w5.drew (adv (nod r0)) HR5.out.drew)
  refine wp_region_held_drew (S := fun w' => Bx w' w4.heap.size 53 #[.int .i64 qk, .int .i64 qa, .string (S qt), .int .u32 qv] ∧ ∃ u0 u2 u4, Bx w' w3.heap.size 27 #[.int .i64 u0, .int .i64 qa, .string u2, .int .u32 0, u4]) (by kernel_rfl) ⟨hk5, _, _, _, HN5.out⟩ (fun hH1 => ?_)
  refine wpAnyH_take (i := 0) (v := ?_) rfl (by kernel_rfl) (by kernel_rfl) (by kernel_rfl) (fun _ _ _ h => h) (Or.inl ⟨by rfl, ?_⟩) (by assumption) ?_
  rotate_left
  · intro w hSw; (try dsimp only at hSw); go_simp; (try with_reducible rfl)
  (try simp only [Act.put, List.getElem_toArray, List.getElem_cons_zero, List.setIfInBounds_toArray, List.set_cons_zero, List.set_cons_succ])
  refine wpAnyH_take (i := 1) (v := .string (S qt)) rfl (by kernel_rfl) (by kernel_rfl) (by kernel_rfl) (fun _ _ _ h => h) (Or.inl ⟨by rfl, ?_⟩) (by assumption) ?_
  · intro w' hSw
    have c2 := hSw.1.cell (k := 2) rfl
    go_simp
  (try simp only [Act.put, List.getElem_toArray, List.getElem_cons_zero, List.getElem_cons_succ, List.setIfInBounds_toArray, List.set_cons_zero, List.set_cons_succ])
  refine wpAnyH_take (i := 2) (v := ?_) rfl (by kernel_rfl) (by kernel_rfl) (by kernel_rfl) (fun _ _ _ h => h) (Or.inl ⟨by rfl, ?_⟩) (by assumption) ?_
  rotate_left
  · intro w hSw; (try dsimp only at hSw); go_simp; (try with_reducible rfl)
  (try simp only [Act.put, List.getElem_toArray, List.getElem_cons_zero, List.getElem_cons_succ, List.setIfInBounds_toArray, List.set_cons_zero, List.set_cons_succ])
  refine wpAnyH_take (i := 3) (v := ?_) rfl (by kernel_rfl) (by kernel_rfl) (by kernel_rfl) (fun _ _ _ h => h) (Or.inl ⟨by rfl, ?_⟩) (by assumption) ?_
  rotate_left
  · intro w hSw; (try dsimp only at hSw); go_simp; (try with_reducible rfl)
  (try simp only [Act.put, List.getElem_toArray, List.getElem_cons_zero, List.getElem_cons_succ, List.setIfInBounds_toArray, List.set_cons_zero, List.set_cons_succ])
  refine wpAnyH_take (i := 4) (v := ?_) rfl (by kernel_rfl) (by kernel_rfl) (by kernel_rfl) (fun _ _ _ h => h) (Or.inl ⟨by rfl, ?_⟩) (by assumption) ?_
  rotate_left
  · intro w hSw; (try dsimp only at hSw); go_simp; (try with_reducible rfl)
  (try simp only [Act.put, List.getElem_toArray, List.getElem_cons_zero, List.getElem_cons_succ, List.setIfInBounds_toArray, List.set_cons_zero, List.set_cons_succ])
  refine wpAnyH_take (i := 7) (v := ?_) rfl (by kernel_rfl) (by kernel_rfl) (by kernel_rfl) (fun _ _ _ h => h) (Or.inl ⟨by rfl, ?_⟩) (by assumption) ?_
  rotate_left
  · intro w hSw; (try dsimp only at hSw); go_simp; (try with_reducible rfl)
  (try simp only [Act.put, List.getElem_toArray, List.getElem_cons_zero, List.getElem_cons_succ, List.setIfInBounds_toArray, List.set_cons_zero, List.set_cons_succ])
  refine wpAnyH_ready (rs := [5]) (by kernel_rfl) (by simp) ?_
  refine AllReadyH.cons rfl (fun K hK => ?_) AllReadyH.nil
  go_simp
  try rw [hw]
  with_reducible refine HC.out.mono ?_
  intro e w6 hN
  obtain ⟨k, a, t, v, l, sp, sn, sc, hq, rfl, hR6, hB6, hT6⟩ := hN.parts
  have hB56 : But b w5 w6 := ⟨hB6.os, hB6.tape, hB6.output, hB6.size, hB6.block⟩
  have hz6 := hB56.size
  have HQ := hide hq
  have HR6 := hide hR6
  have HB6 := hide (HB5.out.trans hB56)
  have HX6 := hide (Bx.but HX5.out hB56 (by omega))
  have HN6 := hide (Bx.but HN5.out hB56 (by omega))
  have hk6 := Bx.but hk5 hB56 (by omega)
  have HT6 : Hid (Rep w6 (Fr w5 w6) (.mk k a t v l) #[.int .i64 k, .int .i64 a, .string (S t), .int .u32 v, .slice sp sn sc]) := hide hT6
  refine hK.out _ _ ⟨hk6, _, _, _, HN6.out⟩ (fun hH2 => ?_)
  clear hK K hN hq hR6 hB6 hB56 hT6 hk6 hk5 hH1
  (try simp only [Act.put, List.getElem_toArray, List.getElem_cons_zero, List.getElem_cons_succ, List.setIfInBounds_toArray, List.set_cons_zero, List.set_cons_succ])
  refine wpAnyH_ready (rs := [6, 8]) (by kernel_rfl) (by simp) ?_
  refine AllReadyH.cons rfl (fun K hK => ?_) ?_
  · go_simp
    obtain ⟨hTB, z0, z2, z4, hNB⟩ := hH2
    refine hK.out _ _ ⟨hTB.alloc _, _, _, _, hNB.alloc _⟩ (fun hH2' => ?_)
    clear hK K hTB hNB
    (try simp only [Act.put, List.getElem_toArray, List.getElem_cons_zero, List.getElem_cons_succ, List.setIfInBounds_toArray, List.set_cons_zero, List.set_cons_succ])
    refine wpAnyH_ready (rs := [8]) (by kernel_rfl) (by simp) ?_
    refine AllReadyH.cons rfl (fun K hK => ?_) AllReadyH.nil
    · obtain ⟨hTB, z0, z2, z4, hNB⟩ := hH2'
      have mc := hNB.cell (k := 0) rfl
      have mf := hNB.free
      go_simp
      refine hK.out _ _ ⟨hTB.other (p := ⟨w3.heap.size, 0, none⟩) _ (by dsimp only; omega), ⟨_, _, _, hNB.set 0 (.int .i64 18)⟩⟩ (fun hH2'' => ?_)
      clear hK K mc mf hTB hNB
      (try simp only [Act.put, List.getElem_toArray, List.getElem_cons_zero, List.getElem_cons_succ, List.setIfInBounds_toArray, List.set_cons_zero, List.set_cons_succ])
      refine wpAnyH_take (i := 9) (v := ?_) rfl (by kernel_rfl) (by kernel_rfl) (by kernel_rfl) (fun _ _ _ h => h) (Or.inl ⟨by rfl, ?_⟩) (by assumption) ?_
      rotate_left
      · intro w hSw; (try dsimp only at hSw); go_simp; (try with_reducible rfl)
      (try simp only [Act.put, List.getElem_toArray, List.getElem_cons_zero, List.getElem_cons_succ, List.setIfInBounds_toArray, List.set_cons_zero, List.set_cons_succ])
      refine wpAnyH_ready (rs := [10]) (by kernel_rfl) (by simp) ?_
      refine AllReadyH.cons rfl (fun K hK => ?_) AllReadyH.nil
      · obtain ⟨hTB, z0, z2, z4, hNB⟩ := hH2''
        have mc := hNB.cell (k := 2) rfl
        have mf := hNB.free
        go_simp
        refine hK.out _ _ ⟨hTB.other (p := ⟨w3.heap.size, 2, none⟩) _ (by dsimp only; omega), ⟨_, _, _, hNB.set 2 (.string (S qt))⟩⟩ (fun hH2''' => ?_)
        clear hK K mc mf hTB hNB
        (try simp only [Act.put, List.getElem_toArray, List.getElem_cons_zero, List.getElem_cons_succ, List.setIfInBounds_toArray, List.set_cons_zero, List.set_cons_succ])
        refine wpAnyH_take (i := 11) (v := ?_) rfl (by kernel_rfl) (by kernel_rfl) (by kernel_rfl) (fun _ _ _ h => h) (Or.inl ⟨by rfl, ?_⟩) (by assumption) ?_
        rotate_left
        · intro w hSw; (try dsimp only at hSw); go_simp; (try with_reducible rfl)
        (try simp only [Act.put, List.getElem_toArray, List.getElem_cons_zero, List.getElem_cons_succ, List.setIfInBounds_toArray, List.set_cons_zero, List.set_cons_succ])
        refine wpAnyH_ready (rs := [12]) (by kernel_rfl) (by simp) ?_
        refine AllReadyH.cons rfl (fun K hK => ?_) AllReadyH.nil
        obtain ⟨hTB, z0, z2, z4, hNB⟩ := hH2'''
        have mc := hNB.cell (k := 4) rfl
        have mf := hNB.free
        go_simp
        refine hK.out _ _ ⟨hTB.other (p := ⟨w3.heap.size, 4, none⟩) _ (by dsimp only; omega), ⟨_, _, _, hNB.set 4 (.slice (some ⟨w6.heap.size, 0, none⟩) 1 1)⟩⟩ (fun hH2'''' => ?_)
        clear hK K mc mf hTB hNB
        (try simp only [Act.put, List.getElem_toArray, List.getElem_cons_zero, List.getElem_cons_succ, List.setIfInBounds_toArray, List.set_cons_zero, List.set_cons_succ])
        refine wpAnyH_done (by kernel_rfl) ?_ _
        have HN7 : Hid (Bx ((((w6.alloc (.cells #[.int .i64 k, .int .i64 a, .string (S t), .int .u32 v, .slice sp sn sc] 27)).setCell ⟨w3.heap.size, 0, none⟩ (.int .i64 18)).setCell ⟨w3.heap.size, 2, none⟩ (.string (S qt))).setCell ⟨w3.heap.size, 4, none⟩ (.slice (some ⟨w6.heap.size, 0, none⟩) 1 1)) w3.heap.size 27 #[.int .i64 18, .int .i64 qa, .string (S qt), .int .u32 0, .slice (some ⟨w6.heap.size, 0, none⟩) 1 1]) := hide (((((HN6.out).alloc _).set 0 (.int .i64 18)).set 2 (.string (S qt))).set 4 (.slice (some ⟨w6.heap.size, 0, none⟩) 1 1))
        have HR7 : Hid (Rd ((((w6.alloc (.cells #[.int .i64 k, .int .i64 a, .string (S t), .int .u32 v, .slice sp sn sc] 27)).setCell ⟨w3.heap.size, 0, none⟩ (.int .i64 18)).setCell ⟨w3.heap.size, 2, none⟩ (.string (S qt))).setCell ⟨w3.heap.size, 4, none⟩ (.slice (some ⟨w6.heap.size, 0, none⟩) 1 1)) b g c L (op (adv (nod r0))).1) := hide (by repeat (first | with_reducible exact HR6.out | with_reducible refine Rd.alloc ?_ _ | with_reducible refine Rd.other ?_ _ (by first | omega | (dsimp only; omega)) (by first | omega | (dsimp only; omega))))
        have HB7 : Hid (But b w ((((w6.alloc (.cells #[.int .i64 k, .int .i64 a, .string (S t), .int .u32 v, .slice sp sn sc] 27)).setCell ⟨w3.heap.size, 0, none⟩ (.int .i64 18)).setCell ⟨w3.heap.size, 2, none⟩ (.string (S qt))).setCell ⟨w3.heap.size, 4, none⟩ (.slice (some ⟨w6.heap.size, 0, none⟩) 1 1))) := hide (by repeat (first | with_reducible exact HB6.out | with_reducible refine But.alloc ?_ _ | with_reducible refine But.fresh ?_ (by first | omega | (dsimp only; omega)) _))
        have HX7 : Hid (Bx ((((w6.alloc (.cells #[.int .i64 k, .int .i64 a, .string (S t), .int .u32 v, .slice sp sn sc] 27)).setCell ⟨w3.heap.size, 0, none⟩ (.int .i64 18)).setCell ⟨w3.heap.size, 2, none⟩ (.string (S qt))).setCell ⟨w3.heap.size, 4, none⟩ (.slice (some ⟨w6.heap.size, 0, none⟩) 1 1)) w.heap.size 27 #[.int .i64 0, .int .i64 0, .string ⟨#[]⟩, .int .u32 0, .slice none 0 0]) := hide (by repeat (first | with_reducible exact HX6.out | with_reducible exact Bx.newAt (by first | rfl | (simp [World.setCell]; done)) | with_reducible refine Bx.alloc ?_ _ | with_reducible refine Bx.other ?_ _ (by first | omega | (dsimp only; omega))))
        have HT7 : Hid (Rep ((((w6.alloc (.cells #[.int .i64 k, .int .i64 a, .string (S t), .int .u32 v, .slice sp sn sc] 27)).setCell ⟨w3.heap.size, 0, none⟩ (.int .i64 18)).setCell ⟨w3.heap.size, 2, none⟩ (.string (S qt))).setCell ⟨w3.heap.size, 4, none⟩ (.slice (some ⟨w6.heap.size, 0, none⟩) 1 1)) (Fr w5 w6) (.mk k a t v l) #[.int .i64 k, .int .i64 a, .string (S t), .int .u32 v, .slice sp sn sc]) := hide (by repeat (first | with_reducible exact HT6.out | with_reducible refine Rep.alloc ?_ (by first | omega | (dsimp only; omega) | (simp [World.setCell])) _ | with_reducible refine Rep.set ?_ (by first | omega | (dsimp only; omega)) _))
        have HA7 : Hid (Bx ((((w6.alloc (.cells #[.int .i64 k, .int .i64 a, .string (S t), .int .u32 v, .slice sp sn sc] 27)).setCell ⟨w3.heap.size, 0, none⟩ (.int .i64 18)).setCell ⟨w3.heap.size, 2, none⟩ (.string (S qt))).setCell ⟨w3.heap.size, 4, none⟩ (.slice (some ⟨w6.heap.size, 0, none⟩) 1 1)) w6.heap.size 27 #[.int .i64 k, .int .i64 a, .string (S t), .int .u32 v, .slice sp sn sc]) := hide (by repeat (first | with_reducible exact HN6.out | with_reducible exact Bx.newAt (by first | rfl | (simp [World.setCell]; done)) | with_reducible refine Bx.alloc ?_ _ | with_reducible refine Bx.other ?_ _ (by first | omega | (dsimp only; omega))))
        have hz7 : ((((w6.alloc (.cells #[.int .i64 k, .int .i64 a, .string (S t), .int .u32 v, .slice sp sn sc] 27)).setCell ⟨w3.heap.size, 0, none⟩ (.int .i64 18)).setCell ⟨w3.heap.size, 2, none⟩ (.string (S qt))).setCell ⟨w3.heap.size, 4, none⟩ (.slice (some ⟨w6.heap.size, 0, none⟩) 1 1)).heap.size = w6.heap.size + 1 := by simp [World.setCell]
        generalize ((((w6.alloc (.cells #[.int .i64 k, .int .i64 a, .string (S t), .int .u32 v, .slice sp sn sc] 27)).setCell ⟨w3.heap.size, 0, none⟩ (.int .i64 18)).setCell ⟨w3.heap.size, 2, none⟩ (.string (S qt))).setCell ⟨w3.heap.size, 4, none⟩ (.slice (some ⟨w6.heap.size, 0, none⟩) 1 1)) = w7 at *
        clear hH2''''
        have x0 := HX7.out.cell (k := 0) rfl
        have x1 := HX7.out.cell (k := 1) rfl
        have x2 := HX7.out.cell (k := 2) rfl
        have x3 := HX7.out.cell (k := 3) rfl
        have x4 := HX7.out.cell (k := 4) rfl
        have xl := HX7.out.lt
        have xf := HX7.out.free
        have n0 := HN7.out.cell (k := 0) rfl
        have n1 := HN7.out.cell (k := 1) rfl
        have n2 := HN7.out.cell (k := 2) rfl
        have n3 := HN7.out.cell (k := 3) rfl
        have n4 := HN7.out.cell (k := 4) rfl
        have nl := HN7.out.lt
        have nf := HN7.out.free
        go_wp2_with fail
        have hrep : Rep w7 (Fr (w.alloc (.cells #[.int .i64 0, .int .i64 0, .string ⟨#[]⟩, .int .u32 0, .slice none 0 0] 27)) w7) (.mk 18 qa qt 0 [.mk k a t v l]) (nC 18 qa qt 0 (.slice (some ⟨w6.heap.size, 0, none⟩) 1 1)) := by
          refine rep_arr 18 qa qt 0 [.mk k a t v l] [#[.int .i64 k, .int .i64 a, .string (S t), .int .u32 v, .slice sp sn sc]] 1 rfl _ rfl rfl (by simp [maxLen]) HA7.out ⟨by omega, by omega⟩ (fun i y x hy hx => ?_)
          match i, hy, hx with
          | 0, hy, hx =>
            simp at hy hx
            subst hy hx
            exact HT7.out.wide (by show _ ≤ w5.heap.size; omega) (by omega)
        have hf := fin_put (b := b) (g := g) (c := c) (L := L) (w := w) (w1 := w7) HR7.out HB7.out HX7.out hu hrep hbz hgz
        exact bodyPost_ret (v := .agg #[.int .i64 18, .int .i64 qa, .string (S qt), .int .u32 0, .slice (some ⟨w6.heap.size, 0, none⟩) 1 1]) (results_cell_row (fn := Tryd.f109) rfl _ _ w.heap.size 27 _ (0, 0) _ rfl hf.1 Tryd.underlying27 rfl info_nd) rfl (hf.2 _ rfl (by rw [HQ.out]))
  refine AllReadyH.cons rfl (fun K hK => ?_) AllReadyH.nil
  · obtain ⟨hTB, z0, z2, z4, hNB⟩ := hH2
    have mc := hNB.cell (k := 0) rfl
    have mf := hNB.free
    go_simp
    refine hK.out _ _ ⟨hTB.other (p := ⟨w3.heap.size, 0, none⟩) _ (by dsimp only; omega), ⟨_, _, _, hNB.set 0 (.int .i64 18)⟩⟩ (fun hH2' => ?_)
    clear hK K mc mf hTB hNB
    (try simp only [Act.put, List.getElem_toArray, List.getElem_cons_zero, List.getElem_cons_succ, List.setIfInBounds_toArray, List.set_cons_zero, List.set_cons_succ])
    refine wpAnyH_take (i := 9) (v := ?_) rfl (by kernel_rfl) (by kernel_rfl) (by kernel_rfl) (fun _ _ _ h => h) (Or.inl ⟨by rfl, ?_⟩) (by assumption) ?_
    rotate_left
    · intro w hSw; (try dsimp only at hSw); go_simp; (try with_reducible rfl)
    (try simp only [Act.put, List.getElem_toArray, List.getElem_cons_zero, List.getElem_cons_succ, List.setIfInBounds_toArray, List.set_cons_zero, List.set_cons_succ])
    refine wpAnyH_ready (rs := [6, 10]) (by kernel_rfl) (by simp) ?_
    refine AllReadyH.cons rfl (fun K hK => ?_) ?_
    · go_simp
      obtain ⟨hTB, z0, z2, z4, hNB⟩ := hH2'
      refine hK.out _ _ ⟨hTB.alloc _, _, _, _, hNB.alloc _⟩ (fun hH2'' => ?_)
      clear hK K hTB hNB
      (try simp only [Act.put, List.getElem_toArray, List.getElem_cons_zero, List.getElem_cons_succ, List.setIfInBounds_toArray, List.set_cons_zero, List.set_cons_succ])
      refine wpAnyH_ready (rs := [10]) (by kernel_rfl) (by simp) ?_
      refine AllReadyH.cons rfl (fun K hK => ?_) AllReadyH.nil
      · obtain ⟨hTB, z0, z2, z4, hNB⟩ := hH2''
        have mc := hNB.cell (k := 2) rfl
        have mf := hNB.free
        go_simp
        refine hK.out _ _ ⟨hTB.other (p := ⟨w3.heap.size, 2, none⟩) _ (by dsimp only; omega), ⟨_, _, _, hNB.set 2 (.string (S qt))⟩⟩ (fun hH2''' => ?_)
        clear hK K mc mf hTB hNB
        (try simp only [Act.put, List.getElem_toArray, List.getElem_cons_zero, List.getElem_cons_succ, List.setIfInBounds_toArray, List.set_cons_zero, List.set_cons_succ])
        refine wpAnyH_take (i := 11) (v := ?_) rfl (by kernel_rfl) (by kernel_rfl) (by kernel_rfl) (fun _ _ _ h => h) (Or.inl ⟨by rfl, ?_⟩) (by assumption) ?_
        rotate_left
        · intro w hSw; (try dsimp only at hSw); go_simp; (try with_reducible rfl)
        (try simp only [Act.put, List.getElem_toArray, List.getElem_cons_zero, List.getElem_cons_succ, List.setIfInBounds_toArray, List.set_cons_zero, List.set_cons_succ])
        refine wpAnyH_ready (rs := [12]) (by kernel_rfl) (by simp) ?_
        refine AllReadyH.cons rfl (fun K hK => ?_) AllReadyH.nil
        obtain ⟨hTB, z0, z2, z4, hNB⟩ := hH2'''
        have mc := hNB.cell (k := 4) rfl
        have mf := hNB.free
        go_simp
        refine hK.out _ _ ⟨hTB.other (p := ⟨w3.heap.size, 4, none⟩) _ (by dsimp only; omega), ⟨_, _, _, hNB.set 4 (.slice (some ⟨w6.heap.size, 0, none⟩) 1 1)⟩⟩ (fun hH2'''' => ?_)
        clear hK K mc mf hTB hNB
        (try simp only [Act.put, List.getElem_toArray, List.getElem_cons_zero, List.getElem_cons_succ, List.setIfInBounds_toArray, List.set_cons_zero, List.set_cons_succ])
        refine wpAnyH_done (by kernel_rfl) ?_ _
        have HN7 : Hid (Bx ((((w6.setCell ⟨w3.heap.size, 0, none⟩ (.int .i64 18)).alloc (.cells #[.int .i64 k, .int .i64 a, .string (S t), .int .u32 v, .slice sp sn sc] 27)).setCell ⟨w3.heap.size, 2, none⟩ (.string (S qt))).setCell ⟨w3.heap.size, 4, none⟩ (.slice (some ⟨w6.heap.size, 0, none⟩) 1 1)) w3.heap.size 27 #[.int .i64 18, .int .i64 qa, .string (S qt), .int .u32 0, .slice (some ⟨w6.heap.size, 0, none⟩) 1 1]) := hide (((((HN6.out).set 0 (.int .i64 18)).alloc _).set 2 (.string (S qt))).set 4 (.slice (some ⟨w6.heap.size, 0, none⟩) 1 1))
        have HR7 : Hid (Rd ((((w6.setCell ⟨w3.heap.size, 0, none⟩ (.int .i64 18)).alloc (.cells #[.int .i64 k, .int .i64 a, .string (S t), .int .u32 v, .slice sp sn sc] 27)).setCell ⟨w3.heap.size, 2, none⟩ (.string (S qt))).setCell ⟨w3.heap.size, 4, none⟩ (.slice (some ⟨w6.heap.size, 0, none⟩) 1 1)) b g c L (op (adv (nod r0))).1) := hide (by repeat (first | with_reducible exact HR6.out | with_reducible refine Rd.alloc ?_ _ | with_reducible refine Rd.other ?_ _ (by first | omega | (dsimp only; omega)) (by first | omega | (dsimp only; omega))))
        have HB7 : Hid (But b w ((((w6.setCell ⟨w3.heap.size, 0, none⟩ (.int .i64 18)).alloc (.cells #[.int .i64 k, .int .i64 a, .string (S t), .int .u32 v, .slice sp sn sc] 27)).setCell ⟨w3.heap.size, 2, none⟩ (.string (S qt))).setCell ⟨w3.heap.size, 4, none⟩ (.slice (some ⟨w6.heap.size, 0, none⟩) 1 1))) := hide (by repeat (first | with_reducible exact HB6.out | with_reducible refine But.alloc ?_ _ | with_reducible refine But.fresh ?_ (by first | omega | (dsimp only; omega)) _))
        have HX7 : Hid (Bx ((((w6.setCell ⟨w3.heap.size, 0, none⟩ (.int .i64 18)).alloc (.cells #[.int .i64 k, .int .i64 a, .string (S t), .int .u32 v, .slice sp sn sc] 27)).setCell ⟨w3.heap.size, 2, none⟩ (.string (S qt))).setCell ⟨w3.heap.size, 4, none⟩ (.slice (some ⟨w6.heap.size, 0, none⟩) 1 1)) w.heap.size 27 #[.int .i64 0, .int .i64 0, .string ⟨#[]⟩, .int .u32 0, .slice none 0 0]) := hide (by repeat (first | with_reducible exact HX6.out | with_reducible exact Bx.newAt (by first | rfl | (simp [World.setCell]; done)) | with_reducible refine Bx.alloc ?_ _ | with_reducible refine Bx.other ?_ _ (by first | omega | (dsimp only; omega))))
        have HT7 : Hid (Rep ((((w6.setCell ⟨w3.heap.size, 0, none⟩ (.int .i64 18)).alloc (.cells #[.int .i64 k, .int .i64 a, .string (S t), .int .u32 v, .slice sp sn sc] 27)).setCell ⟨w3.heap.size, 2, none⟩ (.string (S qt))).setCell ⟨w3.heap.size, 4, none⟩ (.slice (some ⟨w6.heap.size, 0, none⟩) 1 1)) (Fr w5 w6) (.mk k a t v l) #[.int .i64 k, .int .i64 a, .string (S t), .int .u32 v, .slice sp sn sc]) := hide (by repeat (first | with_reducible exact HT6.out | with_reducible refine Rep.alloc ?_ (by first | omega | (dsimp only; omega) | (simp [World.setCell])) _ | with_reducible refine Rep.set ?_ (by first | omega | (dsimp only; omega)) _))
        have HA7 : Hid (Bx ((((w6.setCell ⟨w3.heap.size, 0, none⟩ (.int .i64 18)).alloc (.cells #[.int .i64 k, .int .i64 a, .string (S t), .int .u32 v, .slice sp sn sc] 27)).setCell ⟨w3.heap.size, 2, none⟩ (.string (S qt))).setCell ⟨w3.heap.size, 4, none⟩ (.slice (some ⟨w6.heap.size, 0, none⟩) 1 1)) w6.heap.size 27 #[.int .i64 k, .int .i64 a, .string (S t), .int .u32 v, .slice sp sn sc]) := hide (by repeat (first | with_reducible exact HN6.out | with_reducible exact Bx.newAt (by first | rfl | (simp [World.setCell]; done)) | with_reducible refine Bx.alloc ?_ _ | with_reducible refine Bx.other ?_ _ (by first | omega | (dsimp only; omega))))
        have hz7 : ((((w6.setCell ⟨w3.heap.size, 0, none⟩ (.int .i64 18)).alloc (.cells #[.int .i64 k, .int .i64 a, .string (S t), .int .u32 v, .slice sp sn sc] 27)).setCell ⟨w3.heap.size, 2, none⟩ (.string (S qt))).setCell ⟨w3.heap.size, 4, none⟩ (.slice (some ⟨w6.heap.size, 0, none⟩) 1 1)).heap.size = w6.heap.size + 1 := by simp [World.setCell]
        generalize ((((w6.setCell ⟨w3.heap.size, 0, none⟩ (.int .i64 18)).alloc (.cells #[.int .i64 k, .int .i64 a, .string (S t), .int .u32 v, .slice sp sn sc] 27)).setCell ⟨w3.heap.size, 2, none⟩ (.string (S qt))).setCell ⟨w3.heap.size, 4, none⟩ (.slice (some ⟨w6.heap.size, 0, none⟩) 1 1)) = w7 at *
        clear hH2''''
        have x0 := HX7.out.cell (k := 0) rfl
        have x1 := HX7.out.cell (k := 1) rfl
        have x2 := HX7.out.cell (k := 2) rfl
        have x3 := HX7.out.cell (k := 3) rfl
        have x4 := HX7.out.cell (k := 4) rfl
        have xl := HX7.out.lt
        have xf := HX7.out.free
        have n0 := HN7.out.cell (k := 0) rfl
        have n1 := HN7.out.cell (k := 1) rfl
        have n2 := HN7.out.cell (k := 2) rfl
        have n3 := HN7.out.cell (k := 3) rfl
        have n4 := HN7.out.cell (k := 4) rfl
        have nl := HN7.out.lt
        have nf := HN7.out.free
        go_wp2_with fail
        have hrep : Rep w7 (Fr (w.alloc (.cells #[.int .i64 0, .int .i64 0, .string ⟨#[]⟩, .int .u32 0, .slice none 0 0] 27)) w7) (.mk 18 qa qt 0 [.mk k a t v l]) (nC 18 qa qt 0 (.slice (some ⟨w6.heap.size, 0, none⟩) 1 1)) := by
          refine rep_arr 18 qa qt 0 [.mk k a t v l] [#[.int .i64 k, .int .i64 a, .string (S t), .int .u32 v, .slice sp sn sc]] 1 rfl _ rfl rfl (by simp [maxLen]) HA7.out ⟨by omega, by omega⟩ (fun i y x hy hx => ?_)
          match i, hy, hx with
          | 0, hy, hx =>
            simp at hy hx
            subst hy hx
            exact HT7.out.wide (by show _ ≤ w5.heap.size; omega) (by omega)
        have hf := fin_put (b := b) (g := g) (c := c) (L := L) (w := w) (w1 := w7) HR7.out HB7.out HX7.out hu hrep hbz hgz
        exact bodyPost_ret (v := .agg #[.int .i64 18, .int .i64 qa, .string (S qt), .int .u32 0, .slice (some ⟨w6.heap.size, 0, none⟩) 1 1]) (results_cell_row (fn := Tryd.f109) rfl _ _ w.heap.size 27 _ (0, 0) _ rfl hf.1 Tryd.underlying27 rfl info_nd) rfl (hf.2 _ rfl (by rw [HQ.out]))
    refine AllReadyH.cons rfl (fun K hK => ?_) AllReadyH.nil
    · obtain ⟨hTB, z0, z2, z4, hNB⟩ := hH2'
      have mc := hNB.cell (k := 2) rfl
      have mf := hNB.free
      go_simp
      refine hK.out _ _ ⟨hTB.other (p := ⟨w3.heap.size, 2, none⟩) _ (by dsimp only; omega), ⟨_, _, _, hNB.set 2 (.string (S qt))⟩⟩ (fun hH2'' => ?_)
      clear hK K mc mf hTB hNB
      (try simp only [Act.put, List.getElem_toArray, List.getElem_cons_zero, List.getElem_cons_succ, List.setIfInBounds_toArray, List.set_cons_zero, List.set_cons_succ])
      refine wpAnyH_ready (rs := [6]) (by kernel_rfl) (by simp) ?_
      refine AllReadyH.cons rfl (fun K hK => ?_) AllReadyH.nil
      · go_simp
        obtain ⟨hTB, z0, z2, z4, hNB⟩ := hH2''
        refine hK.out _ _ ⟨hTB.alloc _, _, _, _, hNB.alloc _⟩ (fun hH2''' => ?_)
        clear hK K hTB hNB
        (try simp only [Act.put, List.getElem_toArray, List.getElem_cons_zero, List.getElem_cons_succ, List.setIfInBounds_toArray, List.set_cons_zero, List.set_cons_succ])
        refine wpAnyH_take (i := 11) (v := ?_) rfl (by kernel_rfl) (by kernel_rfl) (by kernel_rfl) (fun _ _ _ h => h) (Or.inl ⟨by rfl, ?_⟩) (by assumption) ?_
        rotate_left
        · intro w hSw; (try dsimp only at hSw); go_simp; (try with_reducible rfl)
        (try simp only [Act.put, List.getElem_toArray, List.getElem_cons_zero, List.getElem_cons_succ, List.setIfInBounds_toArray, List.set_cons_zero, List.set_cons_succ])
        refine wpAnyH_ready (rs := [12]) (by kernel_rfl) (by simp) ?_
        refine AllReadyH.cons rfl (fun K hK => ?_) AllReadyH.nil
        obtain ⟨hTB, z0, z2, z4, hNB⟩ := hH2'''
        have mc := hNB.cell (k := 4) rfl
        have mf := hNB.free
        go_simp
        refine hK.out _ _ ⟨hTB.other (p := ⟨w3.heap.size, 4, none⟩) _ (by dsimp only; omega), ⟨_, _, _, hNB.set 4 (.slice (some ⟨w6.heap.size, 0, none⟩) 1 1)⟩⟩ (fun hH2'''' => ?_)
        clear hK K mc mf hTB hNB
        (try simp only [Act.put, List.getElem_toArray, List.getElem_cons_zero, List.getElem_cons_succ, List.setIfInBounds_toArray, List.set_cons_zero, List.set_cons_succ])
        refine wpAnyH_done (by kernel_rfl) ?_ _
        have HN7 : Hid (Bx ((((w6.setCell ⟨w3.heap.size, 0, none⟩ (.int .i64 18)).setCell ⟨w3.heap.size, 2, none⟩ (.string (S qt))).alloc (.cells #[.int .i64 k, .int .i64 a, .string (S t), .int .u32 v, .slice sp sn sc] 27)).setCell ⟨w3.heap.size, 4, none⟩ (.slice (some ⟨w6.heap.size, 0, none⟩) 1 1)) w3.heap.size 27 #[.int .i64 18, .int .i64 qa, .string (S qt), .int .u32 0, .slice (some ⟨w6.heap.size, 0, none⟩) 1 1]) := hide (((((HN6.out).set 0 (.int .i64 18)).set 2 (.string (S qt))).alloc _).set 4 (.slice (some ⟨w6.heap.size, 0, none⟩) 1 1))
        have HR7 : Hid (Rd ((((w6.setCell ⟨w3.heap.size, 0, none⟩ (.int .i64 18)).setCell ⟨w3.heap.size, 2, none⟩ (.string (S qt))).alloc (.cells #[.int .i64 k, .int .i64 a, .string (S t), .int .u32 v, .slice sp sn sc] 27)).setCell ⟨w3.heap.size, 4, none⟩ (.slice (some ⟨w6.heap.size, 0, none⟩) 1 1)) b g c L (op (adv (nod r0))).1) := hide (by repeat (first | with_reducible exact HR6.out | with_reducible refine Rd.alloc ?_ _ | with_reducible refine Rd.other ?_ _ (by first | omega | (dsimp only; omega)) (by first | omega | (dsimp only; omega))))
        have HB7 : Hid (But b w ((((w6.setCell ⟨w3.heap.size, 0, none⟩ (.int .i64 18)).setCell ⟨w3.heap.size, 2, none⟩ (.string (S qt))).alloc (.cells #[.int .i64 k, .int .i64 a, .string (S t), .int .u32 v, .slice sp sn sc] 27)).setCell ⟨w3.heap.size, 4, none⟩ (.slice (some ⟨w6.heap.size, 0, none⟩) 1 1))) := hide (by repeat (first | with_reducible exact HB6.out | with_reducible refine But.alloc ?_ _ | with_reducible refine But.fresh ?_ (by first | omega | (dsimp only; omega)) _))
        have HX7 : Hid (Bx ((((w6.setCell ⟨w3.heap.size, 0, none⟩ (.int .i64 18)).setCell ⟨w3.heap.size, 2, none⟩ (.string (S qt))).alloc (.cells #[.int .i64 k, .int .i64 a, .string (S t), .int .u32 v, .slice sp sn sc] 27)).setCell ⟨w3.heap.size, 4, none⟩ (.slice (some ⟨w6.heap.size, 0, none⟩) 1 1)) w.heap.size 27 #[.int .i64 0, .int .i64 0, .string ⟨#[]⟩, .int .u32 0, .slice none 0 0]) := hide (by repeat (first | with_reducible exact HX6.out | with_reducible exact Bx.newAt (by first | rfl | (simp [World.setCell]; done)) | with_reducible refine Bx.alloc ?_ _ | with_reducible refine Bx.other ?_ _ (by first | omega | (dsimp only; omega))))
        have HT7 : Hid (Rep ((((w6.setCell ⟨w3.heap.size, 0, none⟩ (.int .i64 18)).setCell ⟨w3.heap.size, 2, none⟩ (.string (S qt))).alloc (.cells #[.int .i64 k, .int .i64 a, .string (S t), .int .u32 v, .slice sp sn sc] 27)).setCell ⟨w3.heap.size, 4, none⟩ (.slice (some ⟨w6.heap.size, 0, none⟩) 1 1)) (Fr w5 w6) (.mk k a t v l) #[.int .i64 k, .int .i64 a, .string (S t), .int .u32 v, .slice sp sn sc]) := hide (by repeat (first | with_reducible exact HT6.out | with_reducible refine Rep.alloc ?_ (by first | omega | (dsimp only; omega) | (simp [World.setCell])) _ | with_reducible refine Rep.set ?_ (by first | omega | (dsimp only; omega)) _))
        have HA7 : Hid (Bx ((((w6.setCell ⟨w3.heap.size, 0, none⟩ (.int .i64 18)).setCell ⟨w3.heap.size, 2, none⟩ (.string (S qt))).alloc (.cells #[.int .i64 k, .int .i64 a, .string (S t), .int .u32 v, .slice sp sn sc] 27)).setCell ⟨w3.heap.size, 4, none⟩ (.slice (some ⟨w6.heap.size, 0, none⟩) 1 1)) w6.heap.size 27 #[.int .i64 k, .int .i64 a, .string (S t), .int .u32 v, .slice sp sn sc]) := hide (by repeat (first | with_reducible exact HN6.out | with_reducible exact Bx.newAt (by first | rfl | (simp [World.setCell]; done)) | with_reducible refine Bx.alloc ?_ _ | with_reducible refine Bx.other ?_ _ (by first | omega | (dsimp only; omega))))
        have hz7 : ((((w6.setCell ⟨w3.heap.size, 0, none⟩ (.int .i64 18)).setCell ⟨w3.heap.size, 2, none⟩ (.string (S qt))).alloc (.cells #[.int .i64 k, .int .i64 a, .string (S t), .int .u32 v, .slice sp sn sc] 27)).setCell ⟨w3.heap.size, 4, none⟩ (.slice (some ⟨w6.heap.size, 0, none⟩) 1 1)).heap.size = w6.heap.size + 1 := by simp [World.setCell]
        generalize ((((w6.setCell ⟨w3.heap.size, 0, none⟩ (.int .i64 18)).setCell ⟨w3.heap.size, 2, none⟩ (.string (S qt))).alloc (.cells #[.int .i64 k, .int .i64 a, .string (S t), .int .u32 v, .slice sp sn sc] 27)).setCell ⟨w3.heap.size, 4, none⟩ (.slice (some ⟨w6.heap.size, 0, none⟩) 1 1)) = w7 at *
        clear hH2''''
        have x0 := HX7.out.cell (k := 0) rfl
        have x1 := HX7.out.cell (k := 1) rfl
        have x2 := HX7.out.cell (k := 2) rfl
        have x3 := HX7.out.cell (k := 3) rfl
        have x4 := HX7.out.cell (k := 4) rfl
        have xl := HX7.out.lt
        have xf := HX7.out.free
        have n0 := HN7.out.cell (k := 0) rfl
        have n1 := HN7.out.cell (k := 1) rfl
        have n2 := HN7.out.cell (k := 2) rfl
        have n3 := HN7.out.cell (k := 3) rfl
        have n4 := HN7.out.cell (k := 4) rfl
        have nl := HN7.out.lt
        have nf := HN7.out.free
        go_wp2_with fail
        have hrep : Rep w7 (Fr (w.alloc (.cells #[.int .i64 0, .int .i64 0, .string ⟨#[]⟩, .int .u32 0, .slice none 0 0] 27)) w7) (.mk 18 qa qt 0 [.mk k a t v l]) (nC 18 qa qt 0 (.slice (some ⟨w6.heap.size, 0, none⟩) 1 1)) := by
          refine rep_arr 18 qa qt 0 [.mk k a t v l] [#[.int .i64 k, .int .i64 a, .string (S t), .int .u32 v, .slice sp sn sc]] 1 rfl _ rfl rfl (by simp [maxLen]) HA7.out ⟨by omega, by omega⟩ (fun i y x hy hx => ?_)
          match i, hy, hx with
          | 0, hy, hx =>
            simp at hy hx
            subst hy hx
            exact HT7.out.wide (by show _ ≤ w5.heap.size; omega) (by omega)
        have hf := fin_put (b := b) (g := g) (c := c) (L := L) (w := w) (w1 := w7) HR7.out HB7.out HX7.out hu hrep hbz hgz
        exact bodyPost_ret (v := .agg #[.int .i64 18, .int .i64 qa, .string (S qt), .int .u32 0, .slice (some ⟨w6.heap.size, 0, none⟩) 1 1]) (results_cell_row (fn := Tryd.f109) rfl _ _ w.heap.size 27 _ (0, 0) _ rfl hf.1 Tryd.underlying27 rfl info_nd) rfl (hf.2 _ rfl (by rw [HQ.out]))

set_option maxHeartbeats 16000000 in
theorem op_un2 (d : Int) (h1 : 0 ≤ d) (h7 : d ≤ 1000) (op : R → R × Tr) (hop : NC b g c L 109 (d + 1) op) (h : Rd w b g c L r) (hf : fol L [40] (deep d r) = false) (hk : (tk L (deep d r)).k ≠ 2) (hm1 : fol L [126] (nod (deep d r)) = false) (hm2 : fol L [45] (nod (deep d r)) = true) :
    Calls Tryd.prog 109 #[.pointer (some ⟨b, 0, none⟩), .int .i64 d] w (NR b g c L w ((op (adv (nod (deep d r)))).1, .mk 18 (tk L (deep d r)).a (tk L (deep d r)).t 0 [(op (adv (nod (deep d r)))).2])) := by
  have hbz := h.ltb
  have hgz := h.row.lt
  have HB := hide (But.refl b w)
  have HX0 : Hid (Bx (w.alloc (.cells #[.int .i64 0, .int .i64 0, .string ⟨#[]⟩, .int .u32 0, .slice none 0 0] 27)) w.heap.size 27 #[.int .i64 0, .int .i64 0, .string ⟨#[]⟩, .int .u32 0, .slice none 0 0]) := hide (heap_new w _ _)
  have hu : w.heap.size < (w.alloc (.cells #[.int .i64 0, .int .i64 0, .string ⟨#[]⟩, .int .u32 0, .slice none 0 0] 27)).heap.size := by simp
  have ho := within_any (h.alloc (.cells #[.int .i64 0, .int .i64 0, .string ⟨#[]⟩, .int .u32 0, .slice none 0 0] 27)) d
  generalize deep d r = r0 at *
  go_enter Tryd.func109, Tryd.ntmps109
  go_wp2_with fail
  refine ho.mono ?_
  rintro e w1 ⟨rfl, hR1, hB1⟩
  have ht := take_any hR1 [40] (by decide)
  unfold take at ht
  rw [hf, if_neg (by simp)] at ht
  have HB1 : Hid (But b w w1) := hide (But.trans (by repeat (first | with_reducible exact HB.out | with_reducible refine But.alloc ?_ _ | with_reducible refine But.fresh ?_ (by first | omega | (dsimp only; omega)) _)) hB1)
  have HX1 : Hid (Bx w1 w.heap.size 27 #[.int .i64 0, .int .i64 0, .string ⟨#[]⟩, .int .u32 0, .slice none 0 0]) := hide (Bx.but (by repeat (first | with_reducible exact HX0.out | with_reducible exact Bx.newAt (by first | rfl | (simp [World.setCell]; done)) | with_reducible refine Bx.alloc ?_ _ | with_reducible refine Bx.other ?_ _ (by first | omega | (dsimp only; omega)))) hB1 (by omega))
  have hz1 := hB1.size
  clear ho h hR1 hB1
  go_wp2_with fail
  refine ht.mono ?_
  rintro e w2 ⟨rfl, hR2, hB2⟩
  have hz2 := hB2.size
  have HB2 := hide (HB1.out.trans hB2)
  have HX2 := hide (Bx.but HX1.out hB2 (by omega))
  have hno := node_any hR2 0
  unfold nC at hno
  have HTN : Hid (tk L (nod r0) = tk L r0) := tk_nod L r0
  generalize htk : tk L r0 = tok at *
  obtain ⟨qk, qa, qt, qv⟩ := tok
  dsimp only at *
  have HTK := hide htk
  clear ht hR2 hB2 htk
  go_wp2_with fail
  refine hno.mono ?_
  rintro e w3 ⟨rfl, hR3, hB3⟩
  have HR3 := hide (hR3.alloc (.cells #[.int .i64 0, .int .i64 qa, .string (S []), .int .u32 0, .slice none 0 0] 27))
  have HB3 := hide ((HB2.out.trans hB3).alloc (.cells #[.int .i64 0, .int .i64 qa, .string (S []), .int .u32 0, .slice none 0 0] 27))
  have HX3 := hide ((Bx.but HX2.out hB3 (by omega)).alloc (.cells #[.int .i64 0, .int .i64 qa, .string (S []), .int .u32 0, .slice none 0 0] 27))
  have hz3 := hB3.size
  have hnx := next_any HR3.out
  rw [HTN.out] at hnx
  simp only [tA] at hnx
  clear hno hR3 hB3
  go_wp2_with fail
  refine hnx.mono ?_
  rintro e w4 ⟨rfl, hb4⟩
  have hz4 := hb4.size
  simp at hz4
  have HR4 := hide ((HR3.out.kept hb4).alloc (.cells #[.int .i64 qk, .int .i64 qa, .string (S qt), .int .u32 qv] 53))
  have HB4 := hide ((HB3.out.trans (But.of_below hb4)).alloc (.cells #[.int .i64 qk, .int .i64 qa, .string (S qt), .int .u32 qv] 53))
  have HX4 := hide ((HX3.out.below hb4).alloc (.cells #[.int .i64 qk, .int .i64 qa, .string (S qt), .int .u32 qv] 53))
  have hn3 : Bx (w3.alloc (.cells #[.int .i64 0, .int .i64 qa, .string (S []), .int .u32 0, .slice none 0 0] 27)) w3.heap.size 27 _ := heap_new w3 _ _
  have HN4 := hide ((hn3.below hb4).alloc (.cells #[.int .i64 qk, .int .i64 qa, .string (S qt), .int .u32 qv] 53))
  have hk4 : Bx (w4.alloc (.cells #[.int .i64 qk, .int .i64 qa, .string (S qt), .int .u32 qv] 53)) w4.heap.size 53 _ := heap_new w4 _ _
  have HK4 := hide hk4
  clear hnx hb4 hn3 hk4
  have hkf : (qk == 2) = false := by simpa using hk
  have hw : IntKind.i64.wrap (d + 1) = d + 1 := IntWalk.i64_in _ (by omega)
  have hm1' := take_any HR4.out [126] (by decide)
  unfold take at hm1'
  rw [hm1, if_neg (by simp)] at hm1'
  have k0 := HK4.out.cell (k := 0) rfl
  have k1 := HK4.out.cell (k := 1) rfl
  have k2 := HK4.out.cell (k := 2) rfl
  have k3 := HK4.out.cell (k := 3) rfl
  have kl := HK4.out.lt
  have kf := HK4.out.free
  go_wp2_with fail
  refine hm1'.mono ?_
  rintro e w5 ⟨rfl, hR5, hB5⟩
  have hm2' := take_any hR5 [45] (by decide)
  unfold take at hm2'
  rw [hm2, if_pos rfl] at hm2'
  clear hm1' k0 k1 k2 k3 kl kf
  go_wp2_with fail
  refine hm2'.mono ?_
  rintro e w55 ⟨rfl, hR55, hB55⟩
  replace hB5 := hB5.trans hB55
  clear hR5 hB55
  have hz5 := hB5.size
  simp at hz5
  have HR5 := hide hR55
  have HB5 := hide (HB4.out.trans hB5)
  have HX5 := hide (Bx.but HX4.out hB5 (by omega))
  have HN5 := hide (Bx.but HN4.out hB5 (by omega))
  have hk5 := Bx.but HK4.out hB5 (by omega)
  clear hm2' hR55 hB5 
  go_wp2_with fail
  have HC := hide (hop w55.drew (adv (nod r0)) HR5.out.drew)
  refine wp_region_held_drew (S := fun w' => Bx w' w4.heap.size 53 #[.int .i64 qk, .int .i64 qa, .string (S qt), .int .u32 qv] ∧ ∃ u0 u2 u4, Bx w' w3.heap.size 27 #[.int .i64 u0, .int .i64 qa, .string u2, .int .u32 0, u4]) (by kernel_rfl) ⟨hk5, _, _, _, HN5.out⟩ (fun hH1 => ?_)
  refine wpAnyH_take (i := 0) (v := ?_) rfl (by kernel_rfl) (by kernel_rfl) (by kernel_rfl) (fun _ _ _ h => h) (Or.inl ⟨by rfl, ?_⟩) (by assumption) ?_
  rotate_left
  · intro w hSw; (try dsimp only at hSw); go_simp; (try with_reducible rfl)
  (try simp only [Act.put, List.getElem_toArray, List.getElem_cons_zero, List.setIfInBounds_toArray, List.set_cons_zero, List.set_cons_succ])
  refine wpAnyH_take (i := 1) (v := .string (S qt)) rfl (by kernel_rfl) (by kernel_rfl) (by kernel_rfl) (fun _ _ _ h => h) (Or.inl ⟨by rfl, ?_⟩) (by assumption) ?_
  · intro w' hSw
    have c2 := hSw.1.cell (k := 2) rfl
    go_simp
  (try simp only [Act.put, List.getElem_toArray, List.getElem_cons_zero, List.getElem_cons_succ, List.setIfInBounds_toArray, List.set_cons_zero, List.set_cons_succ])
  refine wpAnyH_take (i := 2) (v := ?_) rfl (by kernel_rfl) (by kernel_rfl) (by kernel_rfl) (fun _ _ _ h => h) (Or.inl ⟨by rfl, ?_⟩) (by assumption) ?_
  rotate_left
  · intro w hSw; (try dsimp only at hSw); go_simp; (try with_reducible rfl)
  (try simp only [Act.put, List.getElem_toArray, List.getElem_cons_zero, List.getElem_cons_succ, List.setIfInBounds_toArray, List.set_cons_zero, List.set_cons_succ])
  refine wpAnyH_take (i := 3) (v := ?_) rfl (by kernel_rfl) (by kernel_rfl) (by kernel_rfl) (fun _ _ _ h => h) (Or.inl ⟨by rfl, ?_⟩) (by assumption) ?_
  rotate_left
  · intro w hSw; (try dsimp only at hSw); go_simp; (try with_reducible rfl)
  (try simp only [Act.put, List.getElem_toArray, List.getElem_cons_zero, List.getElem_cons_succ, List.setIfInBounds_toArray, List.set_cons_zero, List.set_cons_succ])
  refine wpAnyH_take (i := 4) (v := ?_) rfl (by kernel_rfl) (by kernel_rfl) (by kernel_rfl) (fun _ _ _ h => h) (Or.inl ⟨by rfl, ?_⟩) (by assumption) ?_
  rotate_left
  · intro w hSw; (try dsimp only at hSw); go_simp; (try with_reducible rfl)
  (try simp only [Act.put, List.getElem_toArray, List.getElem_cons_zero, List.getElem_cons_succ, List.setIfInBounds_toArray, List.set_cons_zero, List.set_cons_succ])
  refine wpAnyH_take (i := 7) (v := ?_) rfl (by kernel_rfl) (by kernel_rfl) (by kernel_rfl) (fun _ _ _ h => h) (Or.inl ⟨by rfl, ?_⟩) (by assumption) ?_
  rotate_left
  · intro w hSw; (try dsimp only at hSw); go_simp; (try with_reducible rfl)
  (try simp only [Act.put, List.getElem_toArray, List.getElem_cons_zero, List.getElem_cons_succ, List.setIfInBounds_toArray, List.set_cons_zero, List.set_cons_succ])
  refine wpAnyH_ready (rs := [5]) (by kernel_rfl) (by simp) ?_
  refine AllReadyH.cons rfl (fun K hK => ?_) AllReadyH.nil
  go_simp
  try rw [hw]
  with_reducible refine HC.out.mono ?_
  intro e w6 hN
  obtain ⟨k, a, t, v, l, sp, sn, sc, hq, rfl, hR6, hB6, hT6⟩ := hN.parts
  have hB56 : But b w55 w6 := ⟨hB6.os, hB6.tape, hB6.output, hB6.size, hB6.block⟩
  have hz6 := hB56.size
  have HQ := hide hq
  have HR6 := hide hR6
  have HB6 := hide (HB5.out.trans hB56)
  have HX6 := hide (Bx.but HX5.out hB56 (by omega))
  have HN6 := hide (Bx.but HN5.out hB56 (by omega))
  have hk6 := Bx.but hk5 hB56 (by omega)
  have HT6 : Hid (Rep w6 (Fr w55 w6) (.mk k a t v l) #[.int .i64 k, .int .i64 a, .string (S t), .int .u32 v, .slice sp sn sc]) := hide hT6
  refine hK.out _ _ ⟨hk6, _, _, _, HN6.out⟩ (fun hH2 => ?_)
  clear hK K hN hq hR6 hB6 hB56 hT6 hk6 hk5 hH1
  (try simp only [Act.put, List.getElem_toArray, List.getElem_cons_zero, List.getElem_cons_succ, List.setIfInBounds_toArray, List.set_cons_zero, List.set_cons_succ])
  refine wpAnyH_ready (rs := [6, 8]) (by kernel_rfl) (by simp) ?_
  refine AllReadyH.cons rfl (fun K hK => ?_) ?_
  · go_simp
    obtain ⟨hTB, z0, z2, z4, hNB⟩ := hH2
    refine hK.out _ _ ⟨hTB.alloc _, _, _, _, hNB.alloc _⟩ (fun hH2' => ?_)
    clear hK K hTB hNB
    (try simp only [Act.put, List.getElem_toArray, List.getElem_cons_zero, List.getElem_cons_succ, List.setIfInBounds_toArray, List.set_cons_zero, List.set_cons_succ])
    refine wpAnyH_ready (rs := [8]) (by kernel_rfl) (by simp) ?_
    refine AllReadyH.cons rfl (fun K hK => ?_) AllReadyH.nil
    · obtain ⟨hTB, z0, z2, z4, hNB⟩ := hH2'
      have mc := hNB.cell (k := 0) rfl
      have mf := hNB.free
      go_simp
      refine hK.out _ _ ⟨hTB.other (p := ⟨w3.heap.size, 0, none⟩) _ (by dsimp only; omega), ⟨_, _, _, hNB.set 0 (.int .i64 18)⟩⟩ (fun hH2'' => ?_)
      clear hK K mc mf hTB hNB
      (try simp only [Act.put, List.getElem_toArray, List.getElem_cons_zero, List.getElem_cons_succ, List.setIfInBounds_toArray, List.set_cons_zero, List.set_cons_succ])
      refine wpAnyH_take (i := 9) (v := ?_) rfl (by kernel_rfl) (by kernel_rfl) (by kernel_rfl) (fun _ _ _ h => h) (Or.inl ⟨by rfl, ?_⟩) (by assumption) ?_
      rotate_left
      · intro w hSw; (try dsimp only at hSw); go_simp; (try with_reducible rfl)
      (try simp only [Act.put, List.getElem_toArray, List.getElem_cons_zero, List.getElem_cons_succ, List.setIfInBounds_toArray, List.set_cons_zero, List.set_cons_succ])
      refine wpAnyH_ready (rs := [10]) (by kernel_rfl) (by simp) ?_
      refine AllReadyH.cons rfl (fun K hK => ?_) AllReadyH.nil
      · obtain ⟨hTB, z0, z2, z4, hNB⟩ := hH2''
        have mc := hNB.cell (k := 2) rfl
        have mf := hNB.free
        go_simp
        refine hK.out _ _ ⟨hTB.other (p := ⟨w3.heap.size, 2, none⟩) _ (by dsimp only; omega), ⟨_, _, _, hNB.set 2 (.string (S qt))⟩⟩ (fun hH2''' => ?_)
        clear hK K mc mf hTB hNB
        (try simp only [Act.put, List.getElem_toArray, List.getElem_cons_zero, List.getElem_cons_succ, List.setIfInBounds_toArray, List.set_cons_zero, List.set_cons_succ])
        refine wpAnyH_take (i := 11) (v := ?_) rfl (by kernel_rfl) (by kernel_rfl) (by kernel_rfl) (fun _ _ _ h => h) (Or.inl ⟨by rfl, ?_⟩) (by assumption) ?_
        rotate_left
        · intro w hSw; (try dsimp only at hSw); go_simp; (try with_reducible rfl)
        (try simp only [Act.put, List.getElem_toArray, List.getElem_cons_zero, List.getElem_cons_succ, List.setIfInBounds_toArray, List.set_cons_zero, List.set_cons_succ])
        refine wpAnyH_ready (rs := [12]) (by kernel_rfl) (by simp) ?_
        refine AllReadyH.cons rfl (fun K hK => ?_) AllReadyH.nil
        obtain ⟨hTB, z0, z2, z4, hNB⟩ := hH2'''
        have mc := hNB.cell (k := 4) rfl
        have mf := hNB.free
        go_simp
        refine hK.out _ _ ⟨hTB.other (p := ⟨w3.heap.size, 4, none⟩) _ (by dsimp only; omega), ⟨_, _, _, hNB.set 4 (.slice (some ⟨w6.heap.size, 0, none⟩) 1 1)⟩⟩ (fun hH2'''' => ?_)
        clear hK K mc mf hTB hNB
        (try simp only [Act.put, List.getElem_toArray, List.getElem_cons_zero, List.getElem_cons_succ, List.setIfInBounds_toArray, List.set_cons_zero, List.set_cons_succ])
        refine wpAnyH_done (by kernel_rfl) ?_ _
        have HN7 : Hid (Bx ((((w6.alloc (.cells #[.int .i64 k, .int .i64 a, .string (S t), .int .u32 v, .slice sp sn sc] 27)).setCell ⟨w3.heap.size, 0, none⟩ (.int .i64 18)).setCell ⟨w3.heap.size, 2, none⟩ (.string (S qt))).setCell ⟨w3.heap.size, 4, none⟩ (.slice (some ⟨w6.heap.size, 0, none⟩) 1 1)) w3.heap.size 27 #[.int .i64 18, .int .i64 qa, .string (S qt), .int .u32 0, .slice (some ⟨w6.heap.size, 0, none⟩) 1 1]) := hide (((((HN6.out).alloc _).set 0 (.int .i64 18)).set 2 (.string (S qt))).set 4 (.slice (some ⟨w6.heap.size, 0, none⟩) 1 1))
        have HR7 : Hid (Rd ((((w6.alloc (.cells #[.int .i64 k, .int .i64 a, .string (S t), .int .u32 v, .slice sp sn sc] 27)).setCell ⟨w3.heap.size, 0, none⟩ (.int .i64 18)).setCell ⟨w3.heap.size, 2, none⟩ (.string (S qt))).setCell ⟨w3.heap.size, 4, none⟩ (.slice (some ⟨w6.heap.size, 0, none⟩) 1 1)) b g c L (op (adv (nod r0))).1) := hide (by repeat (first | with_reducible exact HR6.out | with_reducible refine Rd.alloc ?_ _ | with_reducible refine Rd.other ?_ _ (by first | omega | (dsimp only; omega)) (by first | omega | (dsimp only; omega))))
        have HB7 : Hid (But b w ((((w6.alloc (.cells #[.int .i64 k, .int .i64 a, .string (S t), .int .u32 v, .slice sp sn sc] 27)).setCell ⟨w3.heap.size, 0, none⟩ (.int .i64 18)).setCell ⟨w3.heap.size, 2, none⟩ (.string (S qt))).setCell ⟨w3.heap.size, 4, none⟩ (.slice (some ⟨w6.heap.size, 0, none⟩) 1 1))) := hide (by repeat (first | with_reducible exact HB6.out | with_reducible refine But.alloc ?_ _ | with_reducible refine But.fresh ?_ (by first | omega | (dsimp only; omega)) _))
        have HX7 : Hid (Bx ((((w6.alloc (.cells #[.int .i64 k, .int .i64 a, .string (S t), .int .u32 v, .slice sp sn sc] 27)).setCell ⟨w3.heap.size, 0, none⟩ (.int .i64 18)).setCell ⟨w3.heap.size, 2, none⟩ (.string (S qt))).setCell ⟨w3.heap.size, 4, none⟩ (.slice (some ⟨w6.heap.size, 0, none⟩) 1 1)) w.heap.size 27 #[.int .i64 0, .int .i64 0, .string ⟨#[]⟩, .int .u32 0, .slice none 0 0]) := hide (by repeat (first | with_reducible exact HX6.out | with_reducible exact Bx.newAt (by first | rfl | (simp [World.setCell]; done)) | with_reducible refine Bx.alloc ?_ _ | with_reducible refine Bx.other ?_ _ (by first | omega | (dsimp only; omega))))
        have HT7 : Hid (Rep ((((w6.alloc (.cells #[.int .i64 k, .int .i64 a, .string (S t), .int .u32 v, .slice sp sn sc] 27)).setCell ⟨w3.heap.size, 0, none⟩ (.int .i64 18)).setCell ⟨w3.heap.size, 2, none⟩ (.string (S qt))).setCell ⟨w3.heap.size, 4, none⟩ (.slice (some ⟨w6.heap.size, 0, none⟩) 1 1)) (Fr w55 w6) (.mk k a t v l) #[.int .i64 k, .int .i64 a, .string (S t), .int .u32 v, .slice sp sn sc]) := hide (by repeat (first | with_reducible exact HT6.out | with_reducible refine Rep.alloc ?_ (by first | omega | (dsimp only; omega) | (simp [World.setCell])) _ | with_reducible refine Rep.set ?_ (by first | omega | (dsimp only; omega)) _))
        have HA7 : Hid (Bx ((((w6.alloc (.cells #[.int .i64 k, .int .i64 a, .string (S t), .int .u32 v, .slice sp sn sc] 27)).setCell ⟨w3.heap.size, 0, none⟩ (.int .i64 18)).setCell ⟨w3.heap.size, 2, none⟩ (.string (S qt))).setCell ⟨w3.heap.size, 4, none⟩ (.slice (some ⟨w6.heap.size, 0, none⟩) 1 1)) w6.heap.size 27 #[.int .i64 k, .int .i64 a, .string (S t), .int .u32 v, .slice sp sn sc]) := hide (by repeat (first | with_reducible exact HN6.out | with_reducible exact Bx.newAt (by first | rfl | (simp [World.setCell]; done)) | with_reducible refine Bx.alloc ?_ _ | with_reducible refine Bx.other ?_ _ (by first | omega | (dsimp only; omega))))
        have hz7 : ((((w6.alloc (.cells #[.int .i64 k, .int .i64 a, .string (S t), .int .u32 v, .slice sp sn sc] 27)).setCell ⟨w3.heap.size, 0, none⟩ (.int .i64 18)).setCell ⟨w3.heap.size, 2, none⟩ (.string (S qt))).setCell ⟨w3.heap.size, 4, none⟩ (.slice (some ⟨w6.heap.size, 0, none⟩) 1 1)).heap.size = w6.heap.size + 1 := by simp [World.setCell]
        generalize ((((w6.alloc (.cells #[.int .i64 k, .int .i64 a, .string (S t), .int .u32 v, .slice sp sn sc] 27)).setCell ⟨w3.heap.size, 0, none⟩ (.int .i64 18)).setCell ⟨w3.heap.size, 2, none⟩ (.string (S qt))).setCell ⟨w3.heap.size, 4, none⟩ (.slice (some ⟨w6.heap.size, 0, none⟩) 1 1)) = w7 at *
        clear hH2''''
        have x0 := HX7.out.cell (k := 0) rfl
        have x1 := HX7.out.cell (k := 1) rfl
        have x2 := HX7.out.cell (k := 2) rfl
        have x3 := HX7.out.cell (k := 3) rfl
        have x4 := HX7.out.cell (k := 4) rfl
        have xl := HX7.out.lt
        have xf := HX7.out.free
        have n0 := HN7.out.cell (k := 0) rfl
        have n1 := HN7.out.cell (k := 1) rfl
        have n2 := HN7.out.cell (k := 2) rfl
        have n3 := HN7.out.cell (k := 3) rfl
        have n4 := HN7.out.cell (k := 4) rfl
        have nl := HN7.out.lt
        have nf := HN7.out.free
        go_wp2_with fail
        have hrep : Rep w7 (Fr (w.alloc (.cells #[.int .i64 0, .int .i64 0, .string ⟨#[]⟩, .int .u32 0, .slice none 0 0] 27)) w7) (.mk 18 qa qt 0 [.mk k a t v l]) (nC 18 qa qt 0 (.slice (some ⟨w6.heap.size, 0, none⟩) 1 1)) := by
          refine rep_arr 18 qa qt 0 [.mk k a t v l] [#[.int .i64 k, .int .i64 a, .string (S t), .int .u32 v, .slice sp sn sc]] 1 rfl _ rfl rfl (by simp [maxLen]) HA7.out ⟨by omega, by omega⟩ (fun i y x hy hx => ?_)
          match i, hy, hx with
          | 0, hy, hx =>
            simp at hy hx
            subst hy hx
            exact HT7.out.wide (by show _ ≤ w55.heap.size; omega) (by omega)
        have hf := fin_put (b := b) (g := g) (c := c) (L := L) (w := w) (w1 := w7) HR7.out HB7.out HX7.out hu hrep hbz hgz
        exact bodyPost_ret (v := .agg #[.int .i64 18, .int .i64 qa, .string (S qt), .int .u32 0, .slice (some ⟨w6.heap.size, 0, none⟩) 1 1]) (results_cell_row (fn := Tryd.f109) rfl _ _ w.heap.size 27 _ (0, 0) _ rfl hf.1 Tryd.underlying27 rfl info_nd) rfl (hf.2 _ rfl (by rw [HQ.out]))
  refine AllReadyH.cons rfl (fun K hK => ?_) AllReadyH.nil
  · obtain ⟨hTB, z0, z2, z4, hNB⟩ := hH2
    have mc := hNB.cell (k := 0) rfl
    have mf := hNB.free
    go_simp
    refine hK.out _ _ ⟨hTB.other (p := ⟨w3.heap.size, 0, none⟩) _ (by dsimp only; omega), ⟨_, _, _, hNB.set 0 (.int .i64 18)⟩⟩ (fun hH2' => ?_)
    clear hK K mc mf hTB hNB
    (try simp only [Act.put, List.getElem_toArray, List.getElem_cons_zero, List.getElem_cons_succ, List.setIfInBounds_toArray, List.set_cons_zero, List.set_cons_succ])
    refine wpAnyH_take (i := 9) (v := ?_) rfl (by kernel_rfl) (by kernel_rfl) (by kernel_rfl) (fun _ _ _ h => h) (Or.inl ⟨by rfl, ?_⟩) (by assumption) ?_
    rotate_left
    · intro w hSw; (try dsimp only at hSw); go_simp; (try with_reducible rfl)
    (try simp only [Act.put, List.getElem_toArray, List.getElem_cons_zero, List.getElem_cons_succ, List.setIfInBounds_toArray, List.set_cons_zero, List.set_cons_succ])
    refine wpAnyH_ready (rs := [6, 10]) (by kernel_rfl) (by simp) ?_
    refine AllReadyH.cons rfl (fun K hK => ?_) ?_
    · go_simp
      obtain ⟨hTB, z0, z2, z4, hNB⟩ := hH2'
      refine hK.out _ _ ⟨hTB.alloc _, _, _, _, hNB.alloc _⟩ (fun hH2'' => ?_)
      clear hK K hTB hNB
      (try simp only [Act.put, List.getElem_toArray, List.getElem_cons_zero, List.getElem_cons_succ, List.setIfInBounds_toArray, List.set_cons_zero, List.set_cons_succ])
      refine wpAnyH_ready (rs := [10]) (by kernel_rfl) (by simp) ?_
      refine AllReadyH.cons rfl (fun K hK => ?_) AllReadyH.nil
      · obtain ⟨hTB, z0, z2, z4, hNB⟩ := hH2''
        have mc := hNB.cell (k := 2) rfl
        have mf := hNB.free
        go_simp
        refine hK.out _ _ ⟨hTB.other (p := ⟨w3.heap.size, 2, none⟩) _ (by dsimp only; omega), ⟨_, _, _, hNB.set 2 (.string (S qt))⟩⟩ (fun hH2''' => ?_)
        clear hK K mc mf hTB hNB
        (try simp only [Act.put, List.getElem_toArray, List.getElem_cons_zero, List.getElem_cons_succ, List.setIfInBounds_toArray, List.set_cons_zero, List.set_cons_succ])
        refine wpAnyH_take (i := 11) (v := ?_) rfl (by kernel_rfl) (by kernel_rfl) (by kernel_rfl) (fun _ _ _ h => h) (Or.inl ⟨by rfl, ?_⟩) (by assumption) ?_
        rotate_left
        · intro w hSw; (try dsimp only at hSw); go_simp; (try with_reducible rfl)
        (try simp only [Act.put, List.getElem_toArray, List.getElem_cons_zero, List.getElem_cons_succ, List.setIfInBounds_toArray, List.set_cons_zero, List.set_cons_succ])
        refine wpAnyH_ready (rs := [12]) (by kernel_rfl) (by simp) ?_
        refine AllReadyH.cons rfl (fun K hK => ?_) AllReadyH.nil
        obtain ⟨hTB, z0, z2, z4, hNB⟩ := hH2'''
        have mc := hNB.cell (k := 4) rfl
        have mf := hNB.free
        go_simp
        refine hK.out _ _ ⟨hTB.other (p := ⟨w3.heap.size, 4, none⟩) _ (by dsimp only; omega), ⟨_, _, _, hNB.set 4 (.slice (some ⟨w6.heap.size, 0, none⟩) 1 1)⟩⟩ (fun hH2'''' => ?_)
        clear hK K mc mf hTB hNB
        (try simp only [Act.put, List.getElem_toArray, List.getElem_cons_zero, List.getElem_cons_succ, List.setIfInBounds_toArray, List.set_cons_zero, List.set_cons_succ])
        refine wpAnyH_done (by kernel_rfl) ?_ _
        have HN7 : Hid (Bx ((((w6.setCell ⟨w3.heap.size, 0, none⟩ (.int .i64 18)).alloc (.cells #[.int .i64 k, .int .i64 a, .string (S t), .int .u32 v, .slice sp sn sc] 27)).setCell ⟨w3.heap.size, 2, none⟩ (.string (S qt))).setCell ⟨w3.heap.size, 4, none⟩ (.slice (some ⟨w6.heap.size, 0, none⟩) 1 1)) w3.heap.size 27 #[.int .i64 18, .int .i64 qa, .string (S qt), .int .u32 0, .slice (some ⟨w6.heap.size, 0, none⟩) 1 1]) := hide (((((HN6.out).set 0 (.int .i64 18)).alloc _).set 2 (.string (S qt))).set 4 (.slice (some ⟨w6.heap.size, 0, none⟩) 1 1))
        have HR7 : Hid (Rd ((((w6.setCell ⟨w3.heap.size, 0, none⟩ (.int .i64 18)).alloc (.cells #[.int .i64 k, .int .i64 a, .string (S t), .int .u32 v, .slice sp sn sc] 27)).setCell ⟨w3.heap.size, 2, none⟩ (.string (S qt))).setCell ⟨w3.heap.size, 4, none⟩ (.slice (some ⟨w6.heap.size, 0, none⟩) 1 1)) b g c L (op (adv (nod r0))).1) := hide (by repeat (first | with_reducible exact HR6.out | with_reducible refine Rd.alloc ?_ _ | with_reducible refine Rd.other ?_ _ (by first | omega | (dsimp only; omega)) (by first | omega | (dsimp only; omega))))
        have HB7 : Hid (But b w ((((w6.setCell ⟨w3.heap.size, 0, none⟩ (.int .i64 18)).alloc (.cells #[.int .i64 k, .int .i64 a, .string (S t), .int .u32 v, .slice sp sn sc] 27)).setCell ⟨w3.heap.size, 2, none⟩ (.string (S qt))).setCell ⟨w3.heap.size, 4, none⟩ (.slice (some ⟨w6.heap.size, 0, none⟩) 1 1))) := hide (by repeat (first | with_reducible exact HB6.out | with_reducible refine But.alloc ?_ _ | with_reducible refine But.fresh ?_ (by first | omega | (dsimp only; omega)) _))
        have HX7 : Hid (Bx ((((w6.setCell ⟨w3.heap.size, 0, none⟩ (.int .i64 18)).alloc (.cells #[.int .i64 k, .int .i64 a, .string (S t), .int .u32 v, .slice sp sn sc] 27)).setCell ⟨w3.heap.size, 2, none⟩ (.string (S qt))).setCell ⟨w3.heap.size, 4, none⟩ (.slice (some ⟨w6.heap.size, 0, none⟩) 1 1)) w.heap.size 27 #[.int .i64 0, .int .i64 0, .string ⟨#[]⟩, .int .u32 0, .slice none 0 0]) := hide (by repeat (first | with_reducible exact HX6.out | with_reducible exact Bx.newAt (by first | rfl | (simp [World.setCell]; done)) | with_reducible refine Bx.alloc ?_ _ | with_reducible refine Bx.other ?_ _ (by first | omega | (dsimp only; omega))))
        have HT7 : Hid (Rep ((((w6.setCell ⟨w3.heap.size, 0, none⟩ (.int .i64 18)).alloc (.cells #[.int .i64 k, .int .i64 a, .string (S t), .int .u32 v, .slice sp sn sc] 27)).setCell ⟨w3.heap.size, 2, none⟩ (.string (S qt))).setCell ⟨w3.heap.size, 4, none⟩ (.slice (some ⟨w6.heap.size, 0, none⟩) 1 1)) (Fr w55 w6) (.mk k a t v l) #[.int .i64 k, .int .i64 a, .string (S t), .int .u32 v, .slice sp sn sc]) := hide (by repeat (first | with_reducible exact HT6.out | with_reducible refine Rep.alloc ?_ (by first | omega | (dsimp only; omega) | (simp [World.setCell])) _ | with_reducible refine Rep.set ?_ (by first | omega | (dsimp only; omega)) _))
        have HA7 : Hid (Bx ((((w6.setCell ⟨w3.heap.size, 0, none⟩ (.int .i64 18)).alloc (.cells #[.int .i64 k, .int .i64 a, .string (S t), .int .u32 v, .slice sp sn sc] 27)).setCell ⟨w3.heap.size, 2, none⟩ (.string (S qt))).setCell ⟨w3.heap.size, 4, none⟩ (.slice (some ⟨w6.heap.size, 0, none⟩) 1 1)) w6.heap.size 27 #[.int .i64 k, .int .i64 a, .string (S t), .int .u32 v, .slice sp sn sc]) := hide (by repeat (first | with_reducible exact HN6.out | with_reducible exact Bx.newAt (by first | rfl | (simp [World.setCell]; done)) | with_reducible refine Bx.alloc ?_ _ | with_reducible refine Bx.other ?_ _ (by first | omega | (dsimp only; omega))))
        have hz7 : ((((w6.setCell ⟨w3.heap.size, 0, none⟩ (.int .i64 18)).alloc (.cells #[.int .i64 k, .int .i64 a, .string (S t), .int .u32 v, .slice sp sn sc] 27)).setCell ⟨w3.heap.size, 2, none⟩ (.string (S qt))).setCell ⟨w3.heap.size, 4, none⟩ (.slice (some ⟨w6.heap.size, 0, none⟩) 1 1)).heap.size = w6.heap.size + 1 := by simp [World.setCell]
        generalize ((((w6.setCell ⟨w3.heap.size, 0, none⟩ (.int .i64 18)).alloc (.cells #[.int .i64 k, .int .i64 a, .string (S t), .int .u32 v, .slice sp sn sc] 27)).setCell ⟨w3.heap.size, 2, none⟩ (.string (S qt))).setCell ⟨w3.heap.size, 4, none⟩ (.slice (some ⟨w6.heap.size, 0, none⟩) 1 1)) = w7 at *
        clear hH2''''
        have x0 := HX7.out.cell (k := 0) rfl
        have x1 := HX7.out.cell (k := 1) rfl
        have x2 := HX7.out.cell (k := 2) rfl
        have x3 := HX7.out.cell (k := 3) rfl
        have x4 := HX7.out.cell (k := 4) rfl
        have xl := HX7.out.lt
        have xf := HX7.out.free
        have n0 := HN7.out.cell (k := 0) rfl
        have n1 := HN7.out.cell (k := 1) rfl
        have n2 := HN7.out.cell (k := 2) rfl
        have n3 := HN7.out.cell (k := 3) rfl
        have n4 := HN7.out.cell (k := 4) rfl
        have nl := HN7.out.lt
        have nf := HN7.out.free
        go_wp2_with fail
        have hrep : Rep w7 (Fr (w.alloc (.cells #[.int .i64 0, .int .i64 0, .string ⟨#[]⟩, .int .u32 0, .slice none 0 0] 27)) w7) (.mk 18 qa qt 0 [.mk k a t v l]) (nC 18 qa qt 0 (.slice (some ⟨w6.heap.size, 0, none⟩) 1 1)) := by
          refine rep_arr 18 qa qt 0 [.mk k a t v l] [#[.int .i64 k, .int .i64 a, .string (S t), .int .u32 v, .slice sp sn sc]] 1 rfl _ rfl rfl (by simp [maxLen]) HA7.out ⟨by omega, by omega⟩ (fun i y x hy hx => ?_)
          match i, hy, hx with
          | 0, hy, hx =>
            simp at hy hx
            subst hy hx
            exact HT7.out.wide (by show _ ≤ w55.heap.size; omega) (by omega)
        have hf := fin_put (b := b) (g := g) (c := c) (L := L) (w := w) (w1 := w7) HR7.out HB7.out HX7.out hu hrep hbz hgz
        exact bodyPost_ret (v := .agg #[.int .i64 18, .int .i64 qa, .string (S qt), .int .u32 0, .slice (some ⟨w6.heap.size, 0, none⟩) 1 1]) (results_cell_row (fn := Tryd.f109) rfl _ _ w.heap.size 27 _ (0, 0) _ rfl hf.1 Tryd.underlying27 rfl info_nd) rfl (hf.2 _ rfl (by rw [HQ.out]))
    refine AllReadyH.cons rfl (fun K hK => ?_) AllReadyH.nil
    · obtain ⟨hTB, z0, z2, z4, hNB⟩ := hH2'
      have mc := hNB.cell (k := 2) rfl
      have mf := hNB.free
      go_simp
      refine hK.out _ _ ⟨hTB.other (p := ⟨w3.heap.size, 2, none⟩) _ (by dsimp only; omega), ⟨_, _, _, hNB.set 2 (.string (S qt))⟩⟩ (fun hH2'' => ?_)
      clear hK K mc mf hTB hNB
      (try simp only [Act.put, List.getElem_toArray, List.getElem_cons_zero, List.getElem_cons_succ, List.setIfInBounds_toArray, List.set_cons_zero, List.set_cons_succ])
      refine wpAnyH_ready (rs := [6]) (by kernel_rfl) (by simp) ?_
      refine AllReadyH.cons rfl (fun K hK => ?_) AllReadyH.nil
      · go_simp
        obtain ⟨hTB, z0, z2, z4, hNB⟩ := hH2''
        refine hK.out _ _ ⟨hTB.alloc _, _, _, _, hNB.alloc _⟩ (fun hH2''' => ?_)
        clear hK K hTB hNB
        (try simp only [Act.put, List.getElem_toArray, List.getElem_cons_zero, List.getElem_cons_succ, List.setIfInBounds_toArray, List.set_cons_zero, List.set_cons_succ])
        refine wpAnyH_take (i := 11) (v := ?_) rfl (by kernel_rfl) (by kernel_rfl) (by kernel_rfl) (fun _ _ _ h => h) (Or.inl ⟨by rfl, ?_⟩) (by assumption) ?_
        rotate_left
        · intro w hSw; (try dsimp only at hSw); go_simp; (try with_reducible rfl)
        (try simp only [Act.put, List.getElem_toArray, List.getElem_cons_zero, List.getElem_cons_succ, List.setIfInBounds_toArray, List.set_cons_zero, List.set_cons_succ])
        refine wpAnyH_ready (rs := [12]) (by kernel_rfl) (by simp) ?_
        refine AllReadyH.cons rfl (fun K hK => ?_) AllReadyH.nil
        obtain ⟨hTB, z0, z2, z4, hNB⟩ := hH2'''
        have mc := hNB.cell (k := 4) rfl
        have mf := hNB.free
        go_simp
        refine hK.out _ _ ⟨hTB.other (p := ⟨w3.heap.size, 4, none⟩) _ (by dsimp only; omega), ⟨_, _, _, hNB.set 4 (.slice (some ⟨w6.heap.size, 0, none⟩) 1 1)⟩⟩ (fun hH2'''' => ?_)
        clear hK K mc mf hTB hNB
        (try simp only [Act.put, List.getElem_toArray, List.getElem_cons_zero, List.getElem_cons_succ, List.setIfInBounds_toArray, List.set_cons_zero, List.set_cons_succ])
        refine wpAnyH_done (by kernel_rfl) ?_ _
        have HN7 : Hid (Bx ((((w6.setCell ⟨w3.heap.size, 0, none⟩ (.int .i64 18)).setCell ⟨w3.heap.size, 2, none⟩ (.string (S qt))).alloc (.cells #[.int .i64 k, .int .i64 a, .string (S t), .int .u32 v, .slice sp sn sc] 27)).setCell ⟨w3.heap.size, 4, none⟩ (.slice (some ⟨w6.heap.size, 0, none⟩) 1 1)) w3.heap.size 27 #[.int .i64 18, .int .i64 qa, .string (S qt), .int .u32 0, .slice (some ⟨w6.heap.size, 0, none⟩) 1 1]) := hide (((((HN6.out).set 0 (.int .i64 18)).set 2 (.string (S qt))).alloc _).set 4 (.slice (some ⟨w6.heap.size, 0, none⟩) 1 1))
        have HR7 : Hid (Rd ((((w6.setCell ⟨w3.heap.size, 0, none⟩ (.int .i64 18)).setCell ⟨w3.heap.size, 2, none⟩ (.string (S qt))).alloc (.cells #[.int .i64 k, .int .i64 a, .string (S t), .int .u32 v, .slice sp sn sc] 27)).setCell ⟨w3.heap.size, 4, none⟩ (.slice (some ⟨w6.heap.size, 0, none⟩) 1 1)) b g c L (op (adv (nod r0))).1) := hide (by repeat (first | with_reducible exact HR6.out | with_reducible refine Rd.alloc ?_ _ | with_reducible refine Rd.other ?_ _ (by first | omega | (dsimp only; omega)) (by first | omega | (dsimp only; omega))))
        have HB7 : Hid (But b w ((((w6.setCell ⟨w3.heap.size, 0, none⟩ (.int .i64 18)).setCell ⟨w3.heap.size, 2, none⟩ (.string (S qt))).alloc (.cells #[.int .i64 k, .int .i64 a, .string (S t), .int .u32 v, .slice sp sn sc] 27)).setCell ⟨w3.heap.size, 4, none⟩ (.slice (some ⟨w6.heap.size, 0, none⟩) 1 1))) := hide (by repeat (first | with_reducible exact HB6.out | with_reducible refine But.alloc ?_ _ | with_reducible refine But.fresh ?_ (by first | omega | (dsimp only; omega)) _))
        have HX7 : Hid (Bx ((((w6.setCell ⟨w3.heap.size, 0, none⟩ (.int .i64 18)).setCell ⟨w3.heap.size, 2, none⟩ (.string (S qt))).alloc (.cells #[.int .i64 k, .int .i64 a, .string (S t), .int .u32 v, .slice sp sn sc] 27)).setCell ⟨w3.heap.size, 4, none⟩ (.slice (some ⟨w6.heap.size, 0, none⟩) 1 1)) w.heap.size 27 #[.int .i64 0, .int .i64 0, .string ⟨#[]⟩, .int .u32 0, .slice none 0 0]) := hide (by repeat (first | with_reducible exact HX6.out | with_reducible exact Bx.newAt (by first | rfl | (simp [World.setCell]; done)) | with_reducible refine Bx.alloc ?_ _ | with_reducible refine Bx.other ?_ _ (by first | omega | (dsimp only; omega))))
        have HT7 : Hid (Rep ((((w6.setCell ⟨w3.heap.size, 0, none⟩ (.int .i64 18)).setCell ⟨w3.heap.size, 2, none⟩ (.string (S qt))).alloc (.cells #[.int .i64 k, .int .i64 a, .string (S t), .int .u32 v, .slice sp sn sc] 27)).setCell ⟨w3.heap.size, 4, none⟩ (.slice (some ⟨w6.heap.size, 0, none⟩) 1 1)) (Fr w55 w6) (.mk k a t v l) #[.int .i64 k, .int .i64 a, .string (S t), .int .u32 v, .slice sp sn sc]) := hide (by repeat (first | with_reducible exact HT6.out | with_reducible refine Rep.alloc ?_ (by first | omega | (dsimp only; omega) | (simp [World.setCell])) _ | with_reducible refine Rep.set ?_ (by first | omega | (dsimp only; omega)) _))
        have HA7 : Hid (Bx ((((w6.setCell ⟨w3.heap.size, 0, none⟩ (.int .i64 18)).setCell ⟨w3.heap.size, 2, none⟩ (.string (S qt))).alloc (.cells #[.int .i64 k, .int .i64 a, .string (S t), .int .u32 v, .slice sp sn sc] 27)).setCell ⟨w3.heap.size, 4, none⟩ (.slice (some ⟨w6.heap.size, 0, none⟩) 1 1)) w6.heap.size 27 #[.int .i64 k, .int .i64 a, .string (S t), .int .u32 v, .slice sp sn sc]) := hide (by repeat (first | with_reducible exact HN6.out | with_reducible exact Bx.newAt (by first | rfl | (simp [World.setCell]; done)) | with_reducible refine Bx.alloc ?_ _ | with_reducible refine Bx.other ?_ _ (by first | omega | (dsimp only; omega))))
        have hz7 : ((((w6.setCell ⟨w3.heap.size, 0, none⟩ (.int .i64 18)).setCell ⟨w3.heap.size, 2, none⟩ (.string (S qt))).alloc (.cells #[.int .i64 k, .int .i64 a, .string (S t), .int .u32 v, .slice sp sn sc] 27)).setCell ⟨w3.heap.size, 4, none⟩ (.slice (some ⟨w6.heap.size, 0, none⟩) 1 1)).heap.size = w6.heap.size + 1 := by simp [World.setCell]
        generalize ((((w6.setCell ⟨w3.heap.size, 0, none⟩ (.int .i64 18)).setCell ⟨w3.heap.size, 2, none⟩ (.string (S qt))).alloc (.cells #[.int .i64 k, .int .i64 a, .string (S t), .int .u32 v, .slice sp sn sc] 27)).setCell ⟨w3.heap.size, 4, none⟩ (.slice (some ⟨w6.heap.size, 0, none⟩) 1 1)) = w7 at *
        clear hH2''''
        have x0 := HX7.out.cell (k := 0) rfl
        have x1 := HX7.out.cell (k := 1) rfl
        have x2 := HX7.out.cell (k := 2) rfl
        have x3 := HX7.out.cell (k := 3) rfl
        have x4 := HX7.out.cell (k := 4) rfl
        have xl := HX7.out.lt
        have xf := HX7.out.free
        have n0 := HN7.out.cell (k := 0) rfl
        have n1 := HN7.out.cell (k := 1) rfl
        have n2 := HN7.out.cell (k := 2) rfl
        have n3 := HN7.out.cell (k := 3) rfl
        have n4 := HN7.out.cell (k := 4) rfl
        have nl := HN7.out.lt
        have nf := HN7.out.free
        go_wp2_with fail
        have hrep : Rep w7 (Fr (w.alloc (.cells #[.int .i64 0, .int .i64 0, .string ⟨#[]⟩, .int .u32 0, .slice none 0 0] 27)) w7) (.mk 18 qa qt 0 [.mk k a t v l]) (nC 18 qa qt 0 (.slice (some ⟨w6.heap.size, 0, none⟩) 1 1)) := by
          refine rep_arr 18 qa qt 0 [.mk k a t v l] [#[.int .i64 k, .int .i64 a, .string (S t), .int .u32 v, .slice sp sn sc]] 1 rfl _ rfl rfl (by simp [maxLen]) HA7.out ⟨by omega, by omega⟩ (fun i y x hy hx => ?_)
          match i, hy, hx with
          | 0, hy, hx =>
            simp at hy hx
            subst hy hx
            exact HT7.out.wide (by show _ ≤ w55.heap.size; omega) (by omega)
        have hf := fin_put (b := b) (g := g) (c := c) (L := L) (w := w) (w1 := w7) HR7.out HB7.out HX7.out hu hrep hbz hgz
        exact bodyPost_ret (v := .agg #[.int .i64 18, .int .i64 qa, .string (S qt), .int .u32 0, .slice (some ⟨w6.heap.size, 0, none⟩) 1 1]) (results_cell_row (fn := Tryd.f109) rfl _ _ w.heap.size 27 _ (0, 0) _ rfl hf.1 Tryd.underlying27 rfl info_nd) rfl (hf.2 _ rfl (by rw [HQ.out]))

end
end Go.Proofs.YtimiglepogeeiaaDoor.Parse

