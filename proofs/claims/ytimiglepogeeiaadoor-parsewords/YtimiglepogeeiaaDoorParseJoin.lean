/- A sign between two operands: package parse's joined. A contract. -/
import Derived.Test.YtimiglepogeeiaaDoorParseLevel
import Derived.Deep.RegionWith
import Derived.Deep.RegionHeld3
set_option linter.unusedVariables false
set_option linter.unusedSimpArgs false
set_option maxRecDepth 100000
namespace Go.Proofs.YtimiglepogeeiaaDoor.Parse
open Go.RowKit Go.Proofs.YtimiglepogeeiaaDoor.Lex

theorem range_bx {w : World} {B : Nat} {ty : TypeId} {cs : Array Value} (h : Bx w B ty cs) : w.rangeAt B 0 cs.toList := fun j v hj => by
  rw [Nat.zero_add]
  exact h.cell (by rw [← Array.getElem?_toList]; exact hj)

section
variable {b g c : Nat} {L : List T}

set_option maxHeartbeats 8000000 in
theorem joined_any (d lv : Int) (h1 : 1 ≤ lv) (h7 : lv ≤ 7) (nx : R → R × Tr)
    (hnx : Hid (∀ w r, Rd w b g c L r → Calls Tryd.prog 100 #[.pointer (some ⟨b, 0, none⟩), .int .i64 (lv + 1), .int .i64 d] w (NR b g c L w (nx r)))) : JoinC b g c L d lv nx := by
  intro P w r y x hP h ht hY
  obtain ⟨k, a, t, v, l⟩ := y
  obtain ⟨p, n, dd, rfl⟩ := Rep.slice hY
  have hbz := h.ltb
  have hgz := h.row.lt
  have HY := hide hY
  have HP := hide hP
  have HT := hide ht
  have hRa := h.alloc (.cells #[.int .i64 k, .int .i64 a, .string (S t), .int .u32 v, .slice p n dd] 27)
  have hxL : Bx (w.alloc (.cells #[.int .i64 k, .int .i64 a, .string (S t), .int .u32 v, .slice p n dd] 27)) w.heap.size 27 #[.int .i64 k, .int .i64 a, .string (S t), .int .u32 v, .slice p n dd] := heap_new w _ _
  have hBa := (Below.refl w.heap.size w).alloc (Nat.le_refl _) (.cells #[.int .i64 k, .int .i64 a, .string (S t), .int .u32 v, .slice p n dd] 27)
  have hza : (w.alloc (.cells #[.int .i64 k, .int .i64 a, .string (S t), .int .u32 v, .slice p n dd] 27)).heap.size = w.heap.size + 1 := by simp
  have hRb := hRa.alloc (.cells zN 27)
  have hxR := heap_new (w.alloc (.cells #[.int .i64 k, .int .i64 a, .string (S t), .int .u32 v, .slice p n dd] 27)) zN 27
  rw [hza] at hxR
  have hxL2 := hxL.alloc (.cells zN 27)
  have hBb := hBa.alloc (by omega) (.cells zN 27)
  have hzb : ((w.alloc (.cells #[.int .i64 k, .int .i64 a, .string (S t), .int .u32 v, .slice p n dd] 27)).alloc (.cells zN 27)).heap.size = w.heap.size + 2 := by simp
  have hno := node_any hRb 19
  rw [zN_get] at hRb hxR hxL2 hBb hzb hno
  unfold nC at hno
  generalize hW0 : ((w.alloc (.cells #[.int .i64 k, .int .i64 a, .string (S t), .int .u32 v, .slice p n dd] 27)).alloc (.cells #[.int .i64 0, .int .i64 0, .string ⟨#[]⟩, .int .u32 0, .slice none 0 0] 27)) = W0 at hRb hxR hxL2 hBb hzb hno
  have HW0 := hide hW0
  have HxR := hide hxR
  have HxL := hide hxL2
  have HBb := hide hBb
  clear hRa hxL hBa hza hxR hxL2 hBb hRb hW0 h hY hP ht
  go_enter Tryd.func111, Tryd.ntmps111
  go_wp2_with fail
  rw [HW0.out]
  clear HW0
  refine hno.mono ?_
  rintro e w1 ⟨rfl, hR1, hB1⟩
  have hz1 := hB1.size
  have HR1 := hide (hR1.alloc (.cells #[.int .i64 19, .int .i64 (tk L r).a, .string (S []), .int .u32 0, .slice none 0 0] 27))
  have hxN : Bx (w1.alloc (.cells #[.int .i64 19, .int .i64 (tk L r).a, .string (S []), .int .u32 0, .slice none 0 0] 27)) w1.heap.size 27 _ := heap_new w1 _ _
  have HxN := hide hxN
  have HxR1 := hide ((Bx.but HxR.out hB1 (by omega)).alloc (.cells #[.int .i64 19, .int .i64 (tk L r).a, .string (S []), .int .u32 0, .slice none 0 0] 27))
  have HxL1 := hide ((Bx.but HxL.out hB1 (by omega)).alloc (.cells #[.int .i64 19, .int .i64 (tk L r).a, .string (S []), .int .u32 0, .slice none 0 0] 27))
  have HB1 := hide (((But.of_below HBb.out).trans hB1).alloc (.cells #[.int .i64 19, .int .i64 (tk L r).a, .string (S []), .int .u32 0, .slice none 0 0] 27))
  have hmu := must_any HR1.out true (fun _ => .inr (by rw [tk_nod]; exact HT.out))
  rw [tk_nod] at hmu
  generalize hta : (tk L r).a = ta at *
  have HTA := hide hta
  generalize htk : tk L r = tok at hmu
  obtain ⟨qk, qa, qt, qv⟩ := tok
  simp only [tA] at hmu
  have f2 := fk2 qk qa qv (S qt)
  have HTK := hide htk
  clear hR1 hB1 hxN hno hta htk HxR HxL HBb
  go_wp2_with fail
  refine hmu.mono ?_
  rintro e w2 ⟨rfl, hR2, hB2⟩
  have hzN := HxN.out.lt
  have hxN2 := Bx.but HxN.out hB2 (by omega)
  have hfN := hxN2.free
  have n0 := hxN2.cell (k := 0) rfl
  have n1 := hxN2.cell (k := 1) rfl
  have n2 := hxN2.cell (k := 2) rfl
  have n3 := hxN2.cell (k := 3) rfl
  have n4 := hxN2.cell (k := 4) rfl
  have hlN := hxN2.lt
  have hz2 := hB2.size
  have HR3 := hide (hR2.other (p := ⟨w1.heap.size, 2, none⟩) (.string (S qt)) (by show b ≠ w1.heap.size; omega) (by show g ≠ w1.heap.size; omega))
  have HN3 := hide (hxN2.set 2 (.string (S qt)))
  have HxR3 := hide ((Bx.but HxR1.out hB2 (by omega)).other (p := ⟨w1.heap.size, 2, none⟩) (.string (S qt)) (by show w.heap.size + 1 ≠ w1.heap.size; omega))
  have HxL3 := hide ((Bx.but HxL1.out hB2 (by omega)).other (p := ⟨w1.heap.size, 2, none⟩) (.string (S qt)) (by show w.heap.size ≠ w1.heap.size; omega))
  have HB3 := hide ((HB1.out.trans hB2).fresh (p := ⟨w1.heap.size, 2, none⟩) (by show w.heap.size ≤ w1.heap.size; omega) (.string (S qt)))
  clear hR2 hB2 hxN2 hmu HxN HxR1 HxL1 HB1 HR1
  go_wp2_with fail
  have HZ3 : Hid (w2.heap.size = (w2.setCell ⟨w1.heap.size, 2, none⟩ (.string (S qt))).heap.size) := by show _ = _; simp [World.setCell]
  have hz3 : w1.heap.size < (w2.setCell ⟨w1.heap.size, 2, none⟩ (.string (S qt))).heap.size := by rw [← HZ3.out]; exact hlN
  generalize w2.setCell ⟨w1.heap.size, 2, none⟩ (.string (S qt)) = w3 at *
  generalize w1.heap.size = B2 at *
  clear n0 n1 n2 n3 n4 hfN
  have hw : IntKind.i64.wrap (lv + 1) = lv + 1 := IntWalk.i64_in _ (by omega)
  have hn3 : Bx w3 B2 27 #[.int .i64 19, .int .i64 ta, .string (S qt), .int .u32 0, .slice none 0 0] := HN3.out
  refine wp_region_held_drew (S := fun w' => Bx w' w.heap.size 27 #[.int .i64 k, .int .i64 a, .string (S t), .int .u32 v, .slice p n dd] ∧ ∃ sl, Bx w' B2 27 #[.int .i64 19, .int .i64 ta, .string (S qt), .int .u32 0, sl]) (by kernel_rfl) ⟨HxL3.out, _, hn3⟩ (fun hH1 => ?_)
  refine wpAnyH_take (i := 0) (v := .agg #[.int .i64 k, .int .i64 a, .string (S t), .int .u32 v, .slice p n dd]) rfl (by kernel_rfl) (by kernel_rfl) (by kernel_rfl) (fun _ _ _ h => h) (yieldsIf_load_mid (by rfl) 27 (.tmp 5) rfl w.heap.size 0 rfl [.int .i64 k, .int .i64 a, .string (S t), .int .u32 v, .slice p n dd] _ (fun w' hw => range_bx hw.1) Tryd.underlying27 rfl info_nd) (by assumption) ?_
  (try simp only [Act.put, List.getElem_toArray, List.getElem_cons_zero, List.getElem_cons_succ, List.setIfInBounds_toArray, List.set_cons_zero, List.set_cons_succ])
  refine wpAnyH_take (i := 1) (v := ?_) rfl (by kernel_rfl) (by kernel_rfl) (by kernel_rfl) (fun _ _ _ h => h) (Or.inl ⟨by rfl, ?_⟩) (by assumption) ?_
  rotate_left
  · intro w hSw; (try dsimp only at hSw); go_simp; (try with_reducible rfl)
  (try simp only [Act.put, List.getElem_toArray, List.getElem_cons_zero, List.getElem_cons_succ, List.setIfInBounds_toArray, List.set_cons_zero, List.set_cons_succ])
  refine wpAnyH_take (i := 2) (v := ?_) rfl (by kernel_rfl) (by kernel_rfl) (by kernel_rfl) (fun _ _ _ h => h) (Or.inl ⟨by rfl, ?_⟩) (by assumption) ?_
  rotate_left
  · intro w hSw; (try dsimp only at hSw); go_simp; (try with_reducible rfl)
  (try simp only [Act.put, List.getElem_toArray, List.getElem_cons_zero, List.getElem_cons_succ, List.setIfInBounds_toArray, List.set_cons_zero, List.set_cons_succ])
  refine wpAnyH_take (i := 3) (v := ?_) rfl (by kernel_rfl) (by kernel_rfl) (by kernel_rfl) (fun _ _ _ h => h) (Or.inl ⟨by rfl, ?_⟩) (by assumption) ?_
  rotate_left
  · intro w hSw; (try dsimp only at hSw); go_simp; (try with_reducible rfl)
  (try simp only [Act.put, List.getElem_toArray, List.getElem_cons_zero, List.getElem_cons_succ, List.setIfInBounds_toArray, List.set_cons_zero, List.set_cons_succ])
  refine wpAnyH_take (i := 4) (v := ?_) rfl (by kernel_rfl) (by kernel_rfl) (by kernel_rfl) (fun _ _ _ h => h) (Or.inl ⟨by rfl, ?_⟩) (by assumption) ?_
  rotate_left
  · intro w hSw; (try dsimp only at hSw); go_simp; (try with_reducible rfl)
  (try simp only [Act.put, List.getElem_toArray, List.getElem_cons_zero, List.getElem_cons_succ, List.setIfInBounds_toArray, List.set_cons_zero, List.set_cons_succ])
  refine wpAnyH_ready (rs := [5]) (by kernel_rfl) (by simp) ?_
  refine AllReadyH.cons rfl (fun K hK => ?_) AllReadyH.nil
  go_simp
  with_reducible refine (hnx.out w3.drew _ HR3.out.drew).mono ?_
  intro e w4 hN
  obtain ⟨k4, a4, t4, v4, l4, p4, n4, d4, hq, rfl, hR4, hB4, hT4⟩ := hN.parts
  have hB34 : But b w3 w4 := ⟨hB4.os, hB4.tape, hB4.output, hB4.size, hB4.block⟩
  have hz4 := hB34.size
  have hn4 := Bx.but hn3 hB34 (by omega)
  have hL3 : Bx w3 w.heap.size 27 #[.int .i64 k, .int .i64 a, .string (S t), .int .u32 v, .slice p n dd] := hH1.1
  have hL4 := Bx.but hL3 hB34 (by omega)
  refine hK.out _ _ ⟨hL4, _, hn4⟩ (fun hH2 => ?_)
  clear hK K
  (try simp only [Act.put, List.getElem_toArray, List.getElem_cons_zero, List.getElem_cons_succ, List.setIfInBounds_toArray, List.set_cons_zero, List.set_cons_succ])
  refine wpAnyH_ready (rs := [6]) (by kernel_rfl) (by simp) ?_
  refine AllReadyH.cons rfl (fun K hK => ?_) AllReadyH.nil
  go_simp
  have hn5 := hn4.alloc (.cells #[.int .i64 k, .int .i64 a, .string (S t), .int .u32 v, .slice p n dd, .int .i64 k4, .int .i64 a4, .string (S t4), .int .u32 v4, .slice p4 n4 d4] 27)
  refine hK.out _ _ ⟨hL4.alloc _, _, hn5⟩ (fun hH3 => ?_)
  clear hK K
  (try simp only [Act.put, List.getElem_toArray, List.getElem_cons_zero, List.getElem_cons_succ, List.setIfInBounds_toArray, List.set_cons_zero, List.set_cons_succ])
  refine wpAnyH_take (i := 7) (v := ?_) rfl (by kernel_rfl) (by kernel_rfl) (by kernel_rfl) (fun _ _ _ h => h) (Or.inl ⟨by rfl, ?_⟩) (by assumption) ?_
  rotate_left
  · intro w hSw; (try dsimp only at hSw); go_simp; (try with_reducible rfl)
  (try simp only [Act.put, List.getElem_toArray, List.getElem_cons_zero, List.getElem_cons_succ, List.setIfInBounds_toArray, List.set_cons_zero, List.set_cons_succ])
  refine wpAnyH_ready (rs := [8]) (by kernel_rfl) (by simp) ?_
  refine AllReadyH.cons rfl (fun K hK => ?_) AllReadyH.nil
  have m4 := hn5.cell (k := 4) rfl
  have mf := hn5.free
  have HN5 := hide hn5
  have HL4 := hide hL4
  clear hn5 hn4 hH1 hH2 hH3 hL4 hn3
  go_simp
  have hn6 := HN5.out.set 4 (.slice (some ⟨w4.heap.size, 0, none⟩) 2 2)
  have hL6 := (HL4.out.alloc (.cells #[.int .i64 k, .int .i64 a, .string (S t), .int .u32 v, .slice p n dd, .int .i64 k4, .int .i64 a4, .string (S t4), .int .u32 v4, .slice p4 n4 d4] 27)).other (p := ⟨B2, 4, none⟩) (.slice (some ⟨w4.heap.size, 0, none⟩) 2 2) (by show w.heap.size ≠ B2; omega)
  refine hK.out _ _ ⟨hL6, _, hn6⟩ (fun hH4 => ?_)
  clear hK K
  (try simp only [Act.put, List.getElem_toArray, List.getElem_cons_zero, List.getElem_cons_succ, List.setIfInBounds_toArray, List.set_cons_zero, List.set_cons_succ])
  refine wpAnyH_done (by kernel_rfl) ?_ _
  have hR5 := (hR4.alloc (.cells #[.int .i64 k, .int .i64 a, .string (S t), .int .u32 v, .slice p n dd, .int .i64 k4, .int .i64 a4, .string (S t4), .int .u32 v4, .slice p4 n4 d4] 27)).other (p := ⟨B2, 4, none⟩) (.slice (some ⟨w4.heap.size, 0, none⟩) 2 2) (by show b ≠ B2; omega) (by show g ≠ B2; omega)
  have hr6 := ((Bx.but HxR3.out hB34 (by omega)).alloc (.cells #[.int .i64 k, .int .i64 a, .string (S t), .int .u32 v, .slice p n dd, .int .i64 k4, .int .i64 a4, .string (S t4), .int .u32 v4, .slice p4 n4 d4] 27)).other (p := ⟨B2, 4, none⟩) (.slice (some ⟨w4.heap.size, 0, none⟩) 2 2) (by show w.heap.size + 1 ≠ B2; omega)
  have hb6 := (((HB3.out.trans hB34).alloc (.cells #[.int .i64 k, .int .i64 a, .string (S t), .int .u32 v, .slice p n dd, .int .i64 k4, .int .i64 a4, .string (S t4), .int .u32 v4, .slice p4 n4 d4] 27)).fresh (p := ⟨B2, 4, none⟩) (by show w.heap.size ≤ B2; omega) (.slice (some ⟨w4.heap.size, 0, none⟩) 2 2))
  have ha6 : Bx _ w4.heap.size 27 _ := Bx.other (show Bx (w4.alloc (.cells #[.int .i64 k, .int .i64 a, .string (S t), .int .u32 v, .slice p n dd, .int .i64 k4, .int .i64 a4, .string (S t4), .int .u32 v4, .slice p4 n4 d4] 27)) w4.heap.size 27 _ from heap_new w4 _ _) (p := ⟨B2, 4, none⟩) (.slice (some ⟨w4.heap.size, 0, none⟩) 2 2) (by show w4.heap.size ≠ B2; omega)
  have hO : But B2 w4 ((w4.alloc (.cells #[.int .i64 k, .int .i64 a, .string (S t), .int .u32 v, .slice p n dd, .int .i64 k4, .int .i64 a4, .string (S t4), .int .u32 v4, .slice p4 n4 d4] 27)).setCell ⟨B2, 4, none⟩ (.slice (some ⟨w4.heap.size, 0, none⟩) 2 2)) := ((But.refl B2 w4).alloc (.cells #[.int .i64 k, .int .i64 a, .string (S t), .int .u32 v, .slice p n dd, .int .i64 k4, .int .i64 a4, .string (S t4), .int .u32 v4, .slice p4 n4 d4] 27)).set 4 _
  have ht6 : Rep ((w4.alloc (.cells #[.int .i64 k, .int .i64 a, .string (S t), .int .u32 v, .slice p n dd, .int .i64 k4, .int .i64 a4, .string (S t4), .int .u32 v4, .slice p4 n4 d4] 27)).setCell ⟨B2, 4, none⟩ (.slice (some ⟨w4.heap.size, 0, none⟩) 2 2)) (Fr w3 w4) _ _ := hT4.kept hO.size (fun j hj => hO.block j hj.2 (fun e => by have h1 : w3.heap.size ≤ j := hj.1; omega)) (fun j hj => hj)
  have hs6 := hO.size
  have HR6 := hide hR5
  have HX6 := hide hr6
  have HN6 := hide hn6
  have HB6 := hide hb6
  have HA6 := hide ha6
  have HT6 := hide ht6
  have HQ6 := hide hq
  clear hR5 hr6 hn6 hb6 ha6 ht6 hO hH4 hL6 hT4 hR4 hB4 hB34 HN5 HL4 hN m4 mf HxR3 HxL3 HR3 HN3 HB3 hq
  generalize (w4.alloc (.cells #[.int .i64 k, .int .i64 a, .string (S t), .int .u32 v, .slice p n dd, .int .i64 k4, .int .i64 a4, .string (S t4), .int .u32 v4, .slice p4 n4 d4] 27)).setCell ⟨B2, 4, none⟩ (.slice (some ⟨w4.heap.size, 0, none⟩) 2 2) = w6 at *
  have n6 : Bx w6 B2 27 #[.int .i64 19, .int .i64 ta, .string (S qt), .int .u32 0, .slice (some ⟨w4.heap.size, 0, none⟩) 2 2] := HN6.out
  have n0 := n6.cell (k := 0) rfl
  have n1 := n6.cell (k := 1) rfl
  have n2 := n6.cell (k := 2) rfl
  have n3 := n6.cell (k := 3) rfl
  have n4' := n6.cell (k := 4) rfl
  have r6 := HX6.out
  have r0 := r6.cell (k := 0) rfl
  have r1 := r6.cell (k := 1) rfl
  have r2 := r6.cell (k := 2) rfl
  have r3 := r6.cell (k := 3) rfl
  have r4 := r6.cell (k := 4) rfl
  have rf := r6.free
  have rl := r6.lt
  have nl := n6.lt
  clear n6 r6
  go_wp2_with fail
  have hX := Bx.put5 HX6.out (.int .i64 19) (.int .i64 ta) (.string (S qt)) (.int .u32 0) (.slice (some ⟨w4.heap.size, 0, none⟩) 2 2)
  have hR := Rd.put5 HR6.out (.int .i64 19) (.int .i64 ta) (.string (S qt)) (.int .u32 0) (.slice (some ⟨w4.heap.size, 0, none⟩) 2 2) (B := w.heap.size + 1) (by omega) (by omega)
  have hB := But.put5 HB6.out (B := w.heap.size + 1) (by omega) (.int .i64 19) (.int .i64 ta) (.string (S qt)) (.int .u32 0) (.slice (some ⟨w4.heap.size, 0, none⟩) 2 2)
  have hO2 : But (w.heap.size + 1) w6 (((((w6.setCell ⟨w.heap.size + 1, 0, none⟩ (.int .i64 19)).setCell ⟨w.heap.size + 1, 1, none⟩ (.int .i64 ta)).setCell ⟨w.heap.size + 1, 2, none⟩ (.string (S qt))).setCell ⟨w.heap.size + 1, 3, none⟩ (.int .u32 0)).setCell ⟨w.heap.size + 1, 4, none⟩ (.slice (some ⟨w4.heap.size, 0, none⟩) 2 2)) := (((((But.refl (w.heap.size + 1) w6).set 0 _).set 1 _).set 2 _).set 3 _).set 4 _
  generalize (((((w6.setCell ⟨w.heap.size + 1, 0, none⟩ (.int .i64 19)).setCell ⟨w.heap.size + 1, 1, none⟩ (.int .i64 ta)).setCell ⟨w.heap.size + 1, 2, none⟩ (.string (S qt))).setCell ⟨w.heap.size + 1, 3, none⟩ (.int .u32 0)).setCell ⟨w.heap.size + 1, 4, none⟩ (.slice (some ⟨w4.heap.size, 0, none⟩) 2 2)) = W at hX hR hB hO2 ⊢
  have hsW := hO2.size
  have hsB := hB.size
  have hAl := HA6.out.lt
  have hA : Bx W w4.heap.size 27 _ := Bx.but HA6.out hO2 (by omega)
  have hrep : Rep W (fun j => P j ∨ Fr w W j) (.mk 19 ta qt 0 [.mk k a t v l, .mk k4 a4 t4 v4 l4]) (nC 19 ta qt 0 (.slice (some ⟨w4.heap.size, 0, none⟩) 2 2)) := by
    refine rep_arr 19 ta qt 0 [.mk k a t v l, .mk k4 a4 t4 v4 l4] [#[.int .i64 k, .int .i64 a, .string (S t), .int .u32 v, .slice p n dd], #[.int .i64 k4, .int .i64 a4, .string (S t4), .int .u32 v4, .slice p4 n4 d4]] 2 rfl _ rfl rfl (by simp [maxLen]) hA (.inr ⟨by omega, by omega⟩) (fun i y x hy hx => ?_)
    match i, hy, hx with
    | 0, hy, hx =>
      simp at hy hx
      subst hy hx
      exact HY.out.kept hsB (fun j hj => hB.block j (HP.out j hj).1 (HP.out j hj).2) (fun j hj => .inl hj)
    | 1, hy, hx =>
      simp at hy hx
      subst hy hx
      exact HT6.out.kept hsW (fun j hj => hO2.block j (by have := hj.2; omega) (by have := hj.1; omega)) (fun j hj => .inr ⟨by have := hj.1; omega, by have := hj.2; omega⟩)
  have e2 : (joinF nx L r (.mk k a t v l)).2 = .mk 19 ta qt 0 [.mk k a t v l, .mk k4 a4 t4 v4 l4] := by
    unfold joinF
    dsimp only
    rw [HQ6.out, HTA.out, HTK.out]
  rw [e2]
  exact bodyPost_ret (v := .agg #[.int .i64 19, .int .i64 ta, .string (S qt), .int .u32 0, .slice (some ⟨w4.heap.size, 0, none⟩) 2 2]) (results_cell_row (fn := Tryd.f111) rfl _ _ (w.heap.size + 1) 27 _ (0, 0) _ rfl hX Tryd.underlying27 rfl info_nd) rfl ⟨_, rfl, hR, hB, hrep⟩

end
end Go.Proofs.YtimiglepogeeiaaDoor.Parse

