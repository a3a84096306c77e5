/- The rest of a for: package parse's rounds. A contract. -/
import Derived.Test.YtimiglepogeeiaaDoorParseChoice
set_option linter.unusedVariables false
set_option linter.unusedSimpArgs false
set_option maxRecDepth 100000
namespace Go.Proofs.YtimiglepogeeiaaDoor.Parse
open Go.RowKit Go.Proofs.YtimiglepogeeiaaDoor.Lex

section
variable {b g c : Nat} {L : List T} {w : World} {r : R}

set_option maxHeartbeats 16000000 in
theorem rounds_any (d : Int) (h1 : 0 ≤ d) (h7 : d ≤ 1000) (q bl : R → R × Tr) (hl : NC b g c L 91 d q) (hb : ∀ w r, Rd w b g c L r → (d ≤ 64 ∨ r.e ≠ 0) → Calls Tryd.prog 62 #[.pointer (some ⟨b, 0, none⟩), .int .i64 d] w (NR b g c L w (bl r)))
    (hbad : 64 < d → ∀ r, (q r).1.e ≠ 0) (at_ : Int) (h : Rd w b g c L r) :
    Calls Tryd.prog 93 #[.pointer (some ⟨b, 0, none⟩), .agg #[.int .i64 0, .int .i64 at_, .string (S []), .int .u32 0, .slice none 0 0], .int .i64 d] w (NR b g c L w ((rouF q bl L r).1, .mk 12 at_ (tk L r).t 0 (rouF q bl L r).2)) := by
  have hbz := h.ltb
  have hgz := h.row.lt
  have HP : Hid (Bx (w.alloc (.cells #[.int .i64 0, .int .i64 at_, .string (S []), .int .u32 0, .slice none 0 0] 27)) w.heap.size 27 #[.int .i64 0, .int .i64 at_, .string (S []), .int .u32 0, .slice none 0 0]) := hide (Bx.newAt rfl)
  have hz0 : (w.alloc (.cells #[.int .i64 0, .int .i64 at_, .string (S []), .int .u32 0, .slice none 0 0] 27)).heap.size = w.heap.size + 1 := by simp
  have HRa := hide (h.alloc (.cells #[.int .i64 0, .int .i64 at_, .string (S []), .int .u32 0, .slice none 0 0] 27))
  generalize hwa : w.alloc (.cells #[.int .i64 0, .int .i64 at_, .string (S []), .int .u32 0, .slice none 0 0] 27) = wa at *
  have hBa : But b w wa := hwa ▸ (But.refl b w).alloc _
  have HX0 : Hid (Bx (wa.alloc (.cells #[.int .i64 0, .int .i64 0, .string ⟨#[]⟩, .int .u32 0, .slice none 0 0] 27)) (w.heap.size + 1) 27 #[.int .i64 0, .int .i64 0, .string ⟨#[]⟩, .int .u32 0, .slice none 0 0]) := hide (Bx.newAt hz0)
  have HP0 := hide (HP.out.alloc (.cells #[.int .i64 0, .int .i64 0, .string ⟨#[]⟩, .int .u32 0, .slice none 0 0] 27))
  have HB0 := hide (hBa.alloc (.cells #[.int .i64 0, .int .i64 0, .string ⟨#[]⟩, .int .u32 0, .slice none 0 0] 27))
  have hz1 : (wa.alloc (.cells #[.int .i64 0, .int .i64 0, .string ⟨#[]⟩, .int .u32 0, .slice none 0 0] 27)).heap.size = w.heap.size + 2 := by simp [hz0]
  have ho := name_any (HRa.out.alloc (.cells #[.int .i64 0, .int .i64 0, .string ⟨#[]⟩, .int .u32 0, .slice none 0 0] 27))
  generalize hw0 : wa.alloc (.cells #[.int .i64 0, .int .i64 0, .string ⟨#[]⟩, .int .u32 0, .slice none 0 0] 27) = w0 at *
  have HW0 := hide (hwa ▸ hw0)
  clear hBa HP HRa hwa hw0 h
  have hrr : rouF q bl L r = ((bl (q (need L [46, 46] (q (need L [105, 110] (name L r))).1)).1).1, [(q (need L [105, 110] (name L r))).2, (q (need L [46, 46] (q (need L [105, 110] (name L r))).1)).2, (bl (q (need L [46, 46] (q (need L [105, 110] (name L r))).1)).1).2]) := rfl
  generalize rouF q bl L r = cc at hrr ⊢
  have HCC := hide hrr
  clear hrr
  generalize (tk L r).t = nt at ho ⊢
  generalize name L r = r1 at *
  go_enter Tryd.func93, Tryd.ntmps93
  go_wp2_with fail
  rw [HW0.out]
  clear HW0
  refine ho.mono ?_
  rintro e w1 ⟨rfl, hR1, hB1⟩
  have hz2 := hB1.size
  have HR1 := hide hR1
  have HB1 := hide (HB0.out.trans hB1)
  have HX1 := hide (Bx.but HX0.out hB1 (by omega))
  have HP1 := hide (Bx.but HP0.out hB1 (by omega))
  clear ho hR1 hB1
  have p0 := HP1.out.cell (k := 0) rfl
  have p1 := HP1.out.cell (k := 1) rfl
  have p2 := HP1.out.cell (k := 2) rfl
  have p3 := HP1.out.cell (k := 3) rfl
  have p4 := HP1.out.cell (k := 4) rfl
  have pl := HP1.out.lt
  have pf := HP1.out.free
  go_wp2_with fail
  refine Calls.mono (need_any (b := b) (g := g) (c := c) (L := L) (r := r1) (by repeat (first | with_reducible exact HR1.out | with_reducible refine Rd.alloc ?_ _ | with_reducible refine Rd.other ?_ _ (by first | omega | (dsimp only; omega)) (by first | omega | (dsimp only; omega)))) [105, 110] (by decide)) ?_
  rintro e w2 ⟨rfl, hR2, hB2⟩
  have hz3 := hB2.size
  simp [World.setCell] at hz3
  have HB2 : Hid (But b w w2) := hide (But.trans (by repeat (first | with_reducible exact HB1.out | with_reducible refine But.alloc ?_ _ | with_reducible refine But.fresh ?_ (by first | omega | (dsimp only; omega)) _)) hB2)
  have HX2 : Hid (Bx w2 (w.heap.size + 1) 27 #[.int .i64 0, .int .i64 0, .string ⟨#[]⟩, .int .u32 0, .slice none 0 0]) := hide (Bx.but (by repeat (first | with_reducible exact HX1.out | with_reducible exact Bx.newAt (by first | rfl | (simp [World.setCell]; done)) | with_reducible refine Bx.alloc ?_ _ | with_reducible refine Bx.other ?_ _ (by first | omega | (dsimp only; omega)))) hB2 (by omega))
  have hp1 := (HP1.out.set 0 (.int .i64 12)).set 2 (.string (S nt))
  have HP2 : Hid (Bx w2 w.heap.size 27 #[.int .i64 12, .int .i64 at_, .string (S nt), .int .u32 0, .slice none 0 0]) := hide (Bx.but hp1 hB2 (by omega))
  have he := hl w2 _ hR2
  clear hR2 hB2 hp1 p0 p1 p2 p3 p4 pl pf
  go_wp2_with fail
  refine he.mono ?_
  intro e w3 hn
  obtain ⟨k3, a3, t3, v3, l3, sp3, sn3, sc3, hq, rfl, hR3, hB3, hT3⟩ := hn.parts
  have hz4 := hB3.size
  have HQ3 := hide hq
  have HR3 := hide (hR3.alloc (.cells #[.int .i64 k3, .int .i64 a3, .string (S t3), .int .u32 v3, .slice sp3 sn3 sc3] 27))
  have HB3 := hide ((HB2.out.trans hB3).alloc (.cells #[.int .i64 k3, .int .i64 a3, .string (S t3), .int .u32 v3, .slice sp3 sn3 sc3] 27))
  have HX3 := hide ((Bx.but HX2.out hB3 (by omega)).alloc (.cells #[.int .i64 k3, .int .i64 a3, .string (S t3), .int .u32 v3, .slice sp3 sn3 sc3] 27))
  have HP3 := hide ((Bx.but HP2.out hB3 (by omega)).alloc (.cells #[.int .i64 k3, .int .i64 a3, .string (S t3), .int .u32 v3, .slice sp3 sn3 sc3] 27))
  have HF3 : Hid (Bx (w3.alloc (.cells #[.int .i64 k3, .int .i64 a3, .string (S t3), .int .u32 v3, .slice sp3 sn3 sc3] 27)) w3.heap.size 27 #[.int .i64 k3, .int .i64 a3, .string (S t3), .int .u32 v3, .slice sp3 sn3 sc3]) := hide (Bx.newAt rfl)
  have HT3 : Hid (Rep (w3.alloc (.cells #[.int .i64 k3, .int .i64 a3, .string (S t3), .int .u32 v3, .slice sp3 sn3 sc3] 27)) (Fr w2 w3) (.mk k3 a3 t3 v3 l3) #[.int .i64 k3, .int .i64 a3, .string (S t3), .int .u32 v3, .slice sp3 sn3 sc3]) := hide (Rep.alloc hT3 (Nat.le_refl _) _)
  have hne := need_any HR3.out [46, 46] (by decide)
  clear he hn hq hR3 hB3 hT3
  go_wp2_with fail
  refine hne.mono ?_
  rintro e w5 ⟨rfl, hR5, hB5⟩
  have hz5 := hB5.size
  simp at hz5
  have HB5 := hide (HB3.out.trans hB5)
  have HX5 := hide (Bx.but HX3.out hB5 (by omega))
  have HP5 := hide (Bx.but HP3.out hB5 (by omega))
  have HF5 := hide (Bx.but HF3.out hB5 (by omega))
  have HT5 := hide (HT3.out.keep hB5 (by simp) (by omega))
  have HC1 := hide (hl w5.drew _ hR5.drew)
  clear hne hR5 hB5
  go_wp2_with fail
  refine wp_region_held_drew (S := fun w' => Bx w' w3.heap.size 27 #[.int .i64 k3, .int .i64 a3, .string (S t3), .int .u32 v3, .slice sp3 sn3 sc3] ∧ ∃ s0, Bx w' w.heap.size 27 #[.int .i64 12, .int .i64 at_, .string (S nt), .int .u32 0, s0]) (by kernel_rfl) ⟨HF5.out, _, HP5.out⟩ (fun hH1 => ?_)
  refine wpAnyH_take (i := 0) (v := .agg #[.int .i64 k3, .int .i64 a3, .string (S t3), .int .u32 v3, .slice sp3 sn3 sc3]) rfl (by kernel_rfl) (by kernel_rfl) (by kernel_rfl) (fun _ _ _ h => h) (yieldsIf_load_mid (by rfl) 27 (.tmp 7) rfl w3.heap.size 0 rfl [.int .i64 k3, .int .i64 a3, .string (S t3), .int .u32 v3, .slice sp3 sn3 sc3] _ (fun w' hw => range_bx hw.1) Tryd.underlying27 rfl info_nd) (by assumption) ?_
  (try simp only [Act.put, List.getElem_toArray, List.getElem_cons_zero, List.getElem_cons_succ, List.setIfInBounds_toArray, List.set_cons_zero, List.set_cons_succ])
  refine wpAnyH_take (i := 1) (v := ?_) rfl (by kernel_rfl) (by kernel_rfl) (by kernel_rfl) (fun _ _ _ h => h) (Or.inl ⟨by rfl, ?_⟩) (by assumption) ?_
  rotate_left
  · intro w hSw; (try dsimp only at hSw); go_simp; (try with_reducible rfl)
  (try simp only [Act.put, List.getElem_toArray, List.getElem_cons_zero, List.getElem_cons_succ, List.setIfInBounds_toArray, List.set_cons_zero, List.set_cons_succ])
  refine wpAnyH_take (i := 2) (v := ?_) rfl (by kernel_rfl) (by kernel_rfl) (by kernel_rfl) (fun _ _ _ h => h) (Or.inl ⟨by rfl, ?_⟩) (by assumption) ?_
  rotate_left
  · intro w hSw; (try dsimp only at hSw); go_simp; (try with_reducible rfl)
  (try simp only [Act.put, List.getElem_toArray, List.getElem_cons_zero, List.getElem_cons_succ, List.setIfInBounds_toArray, List.set_cons_zero, List.set_cons_succ])
  refine wpAnyH_take (i := 4) (v := ?_) rfl (by kernel_rfl) (by kernel_rfl) (by kernel_rfl) (fun _ _ _ h => h) (Or.inl ⟨by rfl, ?_⟩) (by assumption) ?_
  rotate_left
  · intro w hSw; (try dsimp only at hSw); go_simp; (try with_reducible rfl)
  (try simp only [Act.put, List.getElem_toArray, List.getElem_cons_zero, List.getElem_cons_succ, List.setIfInBounds_toArray, List.set_cons_zero, List.set_cons_succ])
  refine wpAnyH_take (i := 5) (v := ?_) rfl (by kernel_rfl) (by kernel_rfl) (by kernel_rfl) (fun _ _ _ h => h) (Or.inl ⟨by rfl, ?_⟩) (by assumption) ?_
  rotate_left
  · intro w hSw; (try dsimp only at hSw); go_simp; (try with_reducible rfl)
  (try simp only [Act.put, List.getElem_toArray, List.getElem_cons_zero, List.getElem_cons_succ, List.setIfInBounds_toArray, List.set_cons_zero, List.set_cons_succ])
  refine wpAnyH_ready (rs := [3]) (by kernel_rfl) (by simp) ?_
  refine AllReadyH.cons rfl (fun K hK => ?_) AllReadyH.nil
  go_simp
  with_reducible refine HC1.out.mono ?_
  intro e w6 hN
  obtain ⟨k6, a6, t6, v6, l6, sp6, sn6, sc6, hq, rfl, hR, hB, hT⟩ := hN.parts
  have hBB : But b w5 w6 := ⟨hB.os, hB.tape, hB.output, hB.size, hB.block⟩
  have hz6 := hBB.size
  have HQ6 := hide hq
  have HB6 := hide (HB5.out.trans hBB)
  have HX6 := hide (Bx.but HX5.out hBB (by omega))
  have HP6 := hide (Bx.but HP5.out hBB (by omega))
  have HF6 := hide (Bx.but HF5.out hBB (by omega))
  have HT6 := hide (HT5.out.keep hBB (by omega) (by omega))
  have HU6 : Hid (Rep w6 (Fr w5 w6) (.mk k6 a6 t6 v6 l6) #[.int .i64 k6, .int .i64 a6, .string (S t6), .int .u32 v6, .slice sp6 sn6 sc6]) := hide hT
  have HC2 := hide (hb w6 _ hR (by
    by_cases hd : d ≤ 64
    · exact .inl hd
    · exact .inr (hbad (by omega) _)))
  refine hK.out _ _ ⟨HF6.out, _, HP6.out⟩ (fun hH2 => ?_)
  clear hK K hN hq hR hB hBB hT HC1 hb
  (try simp only [Act.put, List.getElem_toArray, List.getElem_cons_zero, List.getElem_cons_succ, List.setIfInBounds_toArray, List.set_cons_zero, List.set_cons_succ])
  refine wpAnyH_ready (rs := [6]) (by kernel_rfl) (by simp) ?_
  refine AllReadyH.cons rfl (fun K hK => ?_) AllReadyH.nil
  go_simp
  with_reducible refine HC2.out.mono ?_
  intro e w7 hN
  obtain ⟨k7, a7, t7, v7, l7, sp7, sn7, sc7, hq, rfl, hR, hB, hT⟩ := hN.parts
  have hBB : But b w6 w7 := ⟨hB.os, hB.tape, hB.output, hB.size, hB.block⟩
  have hz7 := hBB.size
  have HQ7 := hide hq
  have HR7 := hide hR
  have HB7 := hide (HB6.out.trans hBB)
  have HX7 := hide (Bx.but HX6.out hBB (by omega))
  have HP7 := hide (Bx.but HP6.out hBB (by omega))
  have HF7 := hide (Bx.but HF6.out hBB (by omega))
  have HT7 := hide (HT6.out.keep hBB (by omega) (by omega))
  have HU7 := hide (HU6.out.keep hBB (Nat.le_refl _) (by omega))
  have HV7 : Hid (Rep w7 (Fr w6 w7) (.mk k7 a7 t7 v7 l7) #[.int .i64 k7, .int .i64 a7, .string (S t7), .int .u32 v7, .slice sp7 sn7 sc7]) := hide hT
  refine hK.out _ _ ⟨HF7.out, _, HP7.out⟩ (fun hH3 => ?_)
  clear hK K hN hq hR hB hBB hT HC2
  (try simp only [Act.put, List.getElem_toArray, List.getElem_cons_zero, List.getElem_cons_succ, List.setIfInBounds_toArray, List.set_cons_zero, List.set_cons_succ])
  refine wpAnyH_ready (rs := [7]) (by kernel_rfl) (by simp) ?_
  refine AllReadyH.cons rfl (fun K hK => ?_) AllReadyH.nil
  go_simp
  have HP8 := hide (HP7.out.alloc (.cells #[.int .i64 k3, .int .i64 a3, .string (S t3), .int .u32 v3, .slice sp3 sn3 sc3, .int .i64 k6, .int .i64 a6, .string (S t6), .int .u32 v6, .slice sp6 sn6 sc6, .int .i64 k7, .int .i64 a7, .string (S t7), .int .u32 v7, .slice sp7 sn7 sc7] 27))
  refine hK.out _ _ ⟨HF7.out.alloc _, _, HP8.out⟩ (fun hH4 => ?_)
  clear hK K
  (try simp only [Act.put, List.getElem_toArray, List.getElem_cons_zero, List.getElem_cons_succ, List.setIfInBounds_toArray, List.set_cons_zero, List.set_cons_succ])
  refine wpAnyH_take (i := 8) (v := ?_) rfl (by kernel_rfl) (by kernel_rfl) (by kernel_rfl) (fun _ _ _ h => h) (Or.inl ⟨by rfl, ?_⟩) (by assumption) ?_
  rotate_left
  · intro w hSw; (try dsimp only at hSw); go_simp; (try with_reducible rfl)
  (try simp only [Act.put, List.getElem_toArray, List.getElem_cons_zero, List.getElem_cons_succ, List.setIfInBounds_toArray, List.set_cons_zero, List.set_cons_succ])
  refine wpAnyH_ready (rs := [9]) (by kernel_rfl) (by simp) ?_
  refine AllReadyH.cons rfl (fun K hK => ?_) AllReadyH.nil
  have mc := HP8.out.cell (k := 4) rfl
  have mf := HP8.out.free
  go_simp
  have HP9 := hide (HP8.out.set 4 (.slice (some ⟨w7.heap.size, 0, none⟩) 3 3))
  refine hK.out _ _ ⟨(HF7.out.alloc _).other (p := ⟨w.heap.size, 4, none⟩) _ (by dsimp only; omega), _, HP9.out⟩ (fun hH5 => ?_)
  clear hK K mc mf
  (try simp only [Act.put, List.getElem_toArray, List.getElem_cons_zero, List.getElem_cons_succ, List.setIfInBounds_toArray, List.set_cons_zero, List.set_cons_succ])
  refine wpAnyH_done (by kernel_rfl) ?_ _
  generalize hw9 : (w7.alloc (.cells #[.int .i64 k3, .int .i64 a3, .string (S t3), .int .u32 v3, .slice sp3 sn3 sc3, .int .i64 k6, .int .i64 a6, .string (S t6), .int .u32 v6, .slice sp6 sn6 sc6, .int .i64 k7, .int .i64 a7, .string (S t7), .int .u32 v7, .slice sp7 sn7 sc7] 27)).setCell ⟨w.heap.size, 4, none⟩ (.slice (some ⟨w7.heap.size, 0, none⟩) 3 3) = w9 at *
  have HR9 : Hid (Rd w9 b g c L _) := hide (hw9 ▸ (HR7.out.alloc _).other (p := ⟨w.heap.size, 4, none⟩) _ (by dsimp only; omega) (by dsimp only; omega))
  have HB9 : Hid (But b w w9) := hide (hw9 ▸ (HB7.out.alloc _).fresh (p := ⟨w.heap.size, 4, none⟩) (by dsimp only; omega) _)
  have HX9 : Hid (Bx w9 (w.heap.size + 1) 27 #[.int .i64 0, .int .i64 0, .string ⟨#[]⟩, .int .u32 0, .slice none 0 0]) := hide (hw9 ▸ (HX7.out.alloc _).other (p := ⟨w.heap.size, 4, none⟩) _ (by dsimp only; omega))
  have HN9 : Hid (Bx w9 w.heap.size 27 #[.int .i64 12, .int .i64 at_, .string (S nt), .int .u32 0, .slice (some ⟨w7.heap.size, 0, none⟩) 3 3]) := hide HP9.out
  have HA9 : Hid (Bx w9 w7.heap.size 27 #[.int .i64 k3, .int .i64 a3, .string (S t3), .int .u32 v3, .slice sp3 sn3 sc3, .int .i64 k6, .int .i64 a6, .string (S t6), .int .u32 v6, .slice sp6 sn6 sc6, .int .i64 k7, .int .i64 a7, .string (S t7), .int .u32 v7, .slice sp7 sn7 sc7]) := hide (hw9 ▸ (Bx.newAt rfl : Bx (w7.alloc (.cells #[.int .i64 k3, .int .i64 a3, .string (S t3), .int .u32 v3, .slice sp3 sn3 sc3, .int .i64 k6, .int .i64 a6, .string (S t6), .int .u32 v6, .slice sp6 sn6 sc6, .int .i64 k7, .int .i64 a7, .string (S t7), .int .u32 v7, .slice sp7 sn7 sc7] 27)) w7.heap.size 27 _).other (p := ⟨w.heap.size, 4, none⟩) _ (by dsimp only; omega))
  have HT9 : Hid (Rep w9 (Fr w2 w3) (.mk k3 a3 t3 v3 l3) #[.int .i64 k3, .int .i64 a3, .string (S t3), .int .u32 v3, .slice sp3 sn3 sc3]) := hide (hw9 ▸ (HT7.out.alloc (by omega) _).set (.inl (by dsimp only; omega)) _)
  have HU9 : Hid (Rep w9 (Fr w5 w6) (.mk k6 a6 t6 v6 l6) #[.int .i64 k6, .int .i64 a6, .string (S t6), .int .u32 v6, .slice sp6 sn6 sc6]) := hide (hw9 ▸ (HU7.out.alloc (by omega) _).set (.inl (by dsimp only; omega)) _)
  have HV9 : Hid (Rep w9 (Fr w6 w7) (.mk k7 a7 t7 v7 l7) #[.int .i64 k7, .int .i64 a7, .string (S t7), .int .u32 v7, .slice sp7 sn7 sc7]) := hide (hw9 ▸ (HV7.out.alloc (by omega) _).set (.inl (by dsimp only; omega)) _)
  have hz9 : w9.heap.size = w7.heap.size + 1 := by rw [← hw9]; simp [World.setCell]
  clear hw9 HP9 HP8 hH5 hH4 hH3 hH2 hH1
  have x0 := HX9.out.cell (k := 0) rfl
  have x1 := HX9.out.cell (k := 1) rfl
  have x2 := HX9.out.cell (k := 2) rfl
  have x3 := HX9.out.cell (k := 3) rfl
  have x4 := HX9.out.cell (k := 4) rfl
  have xl := HX9.out.lt
  have xf := HX9.out.free
  have p0 := HN9.out.cell (k := 0) rfl
  have p1 := HN9.out.cell (k := 1) rfl
  have p2 := HN9.out.cell (k := 2) rfl
  have p3 := HN9.out.cell (k := 3) rfl
  have p4 := HN9.out.cell (k := 4) rfl
  have pl := HN9.out.lt
  have pf := HN9.out.free
  go_wp2_with fail
  have hrep : Rep w9 (Fr w0 w9) (.mk 12 at_ nt 0 [.mk k3 a3 t3 v3 l3, .mk k6 a6 t6 v6 l6, .mk k7 a7 t7 v7 l7]) (nC 12 at_ nt 0 (.slice (some ⟨w7.heap.size, 0, none⟩) 3 3)) := by
    refine rep_arr 12 at_ nt 0 [.mk k3 a3 t3 v3 l3, .mk k6 a6 t6 v6 l6, .mk k7 a7 t7 v7 l7] [#[.int .i64 k3, .int .i64 a3, .string (S t3), .int .u32 v3, .slice sp3 sn3 sc3], #[.int .i64 k6, .int .i64 a6, .string (S t6), .int .u32 v6, .slice sp6 sn6 sc6], #[.int .i64 k7, .int .i64 a7, .string (S t7), .int .u32 v7, .slice sp7 sn7 sc7]] 3 rfl _ rfl rfl (by simp [maxLen]) HA9.out ⟨by omega, by omega⟩ (fun i y x hy hx => ?_)
    match i, hy, hx with
    | 0, hy, hx =>
      simp at hy hx
      subst hy hx
      exact HT9.out.wide (by omega) (by omega)
    | 1, hy, hx =>
      simp at hy hx
      subst hy hx
      exact HU9.out.wide (by omega) (by omega)
    | 2, hy, hx =>
      simp at hy hx
      subst hy hx
      exact HV9.out.wide (by omega) (by omega)
  unfold nC at hrep
  have hfin := fin_put2 (b := b) (g := g) (c := c) (L := L) (w := w) HR9.out HB9.out HX9.out (by omega) (by omega) hrep hbz hgz
  exact bodyPost_ret (v := .agg #[.int .i64 12, .int .i64 at_, .string (S nt), .int .u32 0, .slice (some ⟨w7.heap.size, 0, none⟩) 3 3]) (results_cell_row (fn := Tryd.f93) rfl _ _ (w.heap.size + 1) 27 _ (0, 0) _ rfl hfin.1 Tryd.underlying27 rfl info_nd) rfl (hfin.2 _ (by rw [HCC.out]) (by rw [HCC.out, HQ3.out, HQ6.out, HQ7.out]))

end
end Go.Proofs.YtimiglepogeeiaaDoor.Parse

