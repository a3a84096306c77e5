/- A block: package parse's statement and block. Contracts. -/
import Derived.Test.YtimiglepogeeiaaDoorParseStmt
set_option linter.unusedVariables false
set_option linter.unusedSimpArgs false
set_option maxRecDepth 100000
namespace Go.Proofs.YtimiglepogeeiaaDoor.Parse
open Go.RowKit Go.Proofs.YtimiglepogeeiaaDoor.Lex

section
variable {b g c : Nat} {L : List T}

/-- What block tells at a depth. -/
def BC (b g c : Nat) (L : List T) (d : Int) (bl : R → R × Tr) : Prop := ∀ w r, Rd w b g c L r → (d ≤ 64 ∨ r.e ≠ 0) → Calls Tryd.prog 62 #[.pointer (some ⟨b, 0, none⟩), .int .i64 d] w (NR b g c L w (bl r))

theorem statement_any (d : Int) (h1 : 0 ≤ d) (h7 : d ≤ 1000) (q qi bl : R → R × Tr) (hl : NC b g c L 91 d q) (hmi : ∀ r, Mv r (qi r).1) (hli : NC b g c L 91 (d + 1) qi) (hb : BC b g c L d bl)
    (hbad : 64 < d → ∀ r, (q r).1.e ≠ 0) (hbm : ∀ r, Mv r (bl r).1) : NC b g c L 80 d (stF q qi bl L) := by
  intro w r h
  unfold stF
  dsimp only
  cases hm0 : fol L [108, 101, 116] (nod r) with
  | true => rw [if_pos rfl]; exact st_let d h1 h7 q hl h hm0
  | false =>
  rw [if_neg (by simp)]
  cases hm1 : fol L [118, 97, 114] (nod r) with
  | true => rw [if_pos rfl]; exact st_var d h1 h7 q hl h hm0 hm1
  | false =>
  rw [if_neg (by simp)]
  cases hm2 : fol L [97, 114, 114] (nod r) with
  | true => rw [if_pos rfl]; exact st_arr d h1 h7 h hm0 hm1 hm2
  | false =>
  rw [if_neg (by simp)]
  cases hm3 : fol L [114, 101, 116, 117, 114, 110] (nod r) with
  | true => rw [if_pos rfl]; exact st_ret d h1 h7 q hl h hm0 hm1 hm2 hm3
  | false =>
  rw [if_neg (by simp)]
  cases hm4 : fol L [105, 102] (nod r) with
  | true => rw [if_pos rfl]; exact st_if d h1 h7 q hl bl hb hbad hbm h hm0 hm1 hm2 hm3 hm4
  | false =>
  rw [if_neg (by simp)]
  cases hm5 : fol L [102, 111, 114] (nod r) with
  | true => rw [if_pos rfl]; exact st_for d h1 h7 q hl bl hb hbad hbm h hm0 hm1 hm2 hm3 hm4 hm5
  | false =>
  rw [if_neg (by simp)]
  exact st_name d h1 h7 q hl qi hmi (fun _ => hli) h hm0 hm1 hm2 hm3 hm4 hm5

theorem blkL_succ (st : R → R × Tr) (L : List T) (m : Nat) (r : R) (l : List Tr) : blkL st L (m + 1) r l = if r.e = 0 then (if fol L [125] r then (adv r, l) else blkL st L m (st r).1 (l ++ [(st r).2])) else (r, l) := rfl

/-- Where block's rounds stand. -/
structure BkR (b g c : Nat) (L : List T) (st : R → R × Tr) (d at_ : Int) (w u : World) (B : Nat) (q : R × List Tr) (wr : World) (r : R) (l : List Tr) (p : Option Addr) (n cc m : Nat) : Prop where
  rd : Rd wr b g c L r
  but : But b w wr
  x0 : Bx wr w.heap.size 27 #[.int .i64 0, .int .i64 0, .string ⟨#[]⟩, .int .u32 0, .slice none 0 0]
  x1 : Bx wr B 27 #[.int .i64 4, .int .i64 at_, .string (S []), .int .u32 0, .slice p n cc]
  kl : KL u wr l (.slice p n cc)
  len : l.length ≤ r.i + (if r.e = 0 then 0 else 1)
  fuel : L.length - r.i + (if r.e = 0 then 1 else 0) < m
  ok : r.e = 0 → d ≤ 64
  us : u.heap.size ≤ wr.heap.size
  eq : q = blkL st L m r l

set_option maxHeartbeats 16000000 in
theorem block_any (d : Int) (h1 : 0 ≤ d) (h7 : d ≤ 1000) (st : R → R × Tr) (hst : d ≤ 64 → NC b g c L 80 (d + 1) st) (hms : Hid (∀ r, Mo r (st r).1)) : BC b g c L d (blkF st L) := by
  intro w r h hd
  have hbz := h.ltb
  have hgz := h.row.lt
  have hw : IntKind.i64.wrap (d + 1) = d + 1 := IntWalk.i64_in _ (by omega)
  have HB := hide (But.refl b w)
  have HX0 : Hid (Bx (w.alloc (.cells #[.int .i64 0, .int .i64 0, .string ⟨#[]⟩, .int .u32 0, .slice none 0 0] 27)) w.heap.size 27 #[.int .i64 0, .int .i64 0, .string ⟨#[]⟩, .int .u32 0, .slice none 0 0]) := hide (Bx.newAt rfl)
  have hu : w.heap.size < (w.alloc (.cells #[.int .i64 0, .int .i64 0, .string ⟨#[]⟩, .int .u32 0, .slice none 0 0] 27)).heap.size := by simp
  have ho := node_any (h.alloc (.cells #[.int .i64 0, .int .i64 0, .string ⟨#[]⟩, .int .u32 0, .slice none 0 0] 27)) 4
  unfold nC at ho
  have hbk : blkF st L r = ((blkL st L (L.length + 2) (need L [123] (nod r)) []).1, .mk 4 (tk L r).a [] 0 (blkL st L (L.length + 2) (need L [123] (nod r)) []).2) := rfl
  have hat : (tk L r).a = (tk L r).a := rfl
  have hok : (need L [123] (nod r)).e = 0 → d ≤ 64 := fun he => by
    rcases hd with hd | hd
    · exact hd
    · exact absurd (((nod_mv r).trans (need_mo L [123] _).v).ok he) hd
  generalize blkF st L r = cc at hbk ⊢
  generalize (tk L r).a = at_ at *
  have HST : Hid (d ≤ 64 → NC b g c L 80 (d + 1) st) := hide hst
  generalize hr1 : nod r = r1 at *
  generalize hr2 : need L [123] r1 = r2 at *
  generalize hqq : blkL st L (L.length + 2) r2 [] = q at *
  have HCC := hide hbk
  have HQQ := hide hqq
  have HR2E := hide hr2
  have HOK := hide hok
  clear hat h hd hst hbk hqq hr1 hr2 hok
  go_enter Tryd.func62, Tryd.ntmps62
  go_wp2_with fail
  refine ho.mono ?_
  rintro e wn ⟨rfl, hRn, hBn⟩
  have hzn := hBn.size
  have HRn := hide (hRn.alloc (.cells #[.int .i64 4, .int .i64 at_, .string (S []), .int .u32 0, .slice none 0 0] 27))
  have HBn : Hid (But b w (wn.alloc (.cells #[.int .i64 4, .int .i64 at_, .string (S []), .int .u32 0, .slice none 0 0] 27))) := hide ((But.trans (by repeat (first | with_reducible exact HB.out | with_reducible refine But.alloc ?_ _ | with_reducible refine But.fresh ?_ (by first | omega | (dsimp only; omega)) _)) hBn).alloc _)
  have HYn := hide ((Bx.but HX0.out hBn (by omega)).alloc (.cells #[.int .i64 4, .int .i64 at_, .string (S []), .int .u32 0, .slice none 0 0] 27))
  have HNn : Hid (Bx (wn.alloc (.cells #[.int .i64 4, .int .i64 at_, .string (S []), .int .u32 0, .slice none 0 0] 27)) wn.heap.size 27 #[.int .i64 4, .int .i64 at_, .string (S []), .int .u32 0, .slice none 0 0]) := hide (Bx.newAt rfl)
  have hz0 : wn.heap.size < (wn.alloc (.cells #[.int .i64 4, .int .i64 at_, .string (S []), .int .u32 0, .slice none 0 0] 27)).heap.size := by simp
  have hne := need_any HRn.out [123] (by decide)
  rw [HR2E.out] at hne
  clear ho hRn hBn
  go_wp2_with fail
  refine hne.mono ?_
  rintro e u ⟨rfl, hRu, hBu⟩
  have hzu := hBu.size
  have HI : Hid (BkR b g c L st d at_ w u wn.heap.size q u r2 [] none 0 0 (L.length + 2)) :=
    hide ⟨hRu, HBn.out.trans hBu, Bx.but HYn.out hBu (by omega), Bx.but HNn.out hBu (by omega), KL.nil _ _, Nat.zero_le _, by have := hRu.lt; split <;> omega, HOK.out, Nat.le_refl _, HQQ.out.symm⟩
  have hB1 : w.heap.size < wn.heap.size := by omega
  have hBU : wn.heap.size < u.heap.size := by omega
  clear hne hRu hBu HRn HBn HYn HNn HX0 HB HQQ HOK HR2E
  go_wp2_with fail
  generalize wn.heap.size = B1 at *
  go_loopw [] (fun wr => ∃ r' ls p n cc m, BkR b g c L st d at_ w u B1 q wr r' ls p n cc m) (fun wr => mea b wr)
  case atStart => exact ⟨r2, [], _, _, _, _, HI.out⟩
  case round =>
    obtain ⟨r', ls, p, n, c9, m, hI⟩ := hrel
    have HI := hide hI
    have hm := hI.fuel
    have heq := hI.eq
    match m, hm, heq, HI with
    | m + 1, hm, heq, HI =>
    have HEQ := hide (heq.trans (blkL_succ st L m r' ls))
    have hc2 := hI.rd.c2
    have hlen := hI.len
    have hilt := hI.rd.lt
    have hisz := hI.rd.sz
    clear hI heq
    by_cases he : r'.e = 0
    · have HD := HI.out.ok he
      rw [if_pos he] at HEQ
      rw [he] at hc2
      have HE := hide he
      have htk := take_any HI.out.rd [125] (by decide)
      unfold take at htk
      cases hf : fol L [125] r' with
      | true =>
        rw [hf, if_pos rfl] at htk
        rw [hf, if_pos rfl] at HEQ
        have hmz := HI.out.us
        go_wp2_with fail
        refine htk.mono ?_
        rintro e w4 ⟨rfl, hR4, hB4⟩
        have hz4 := hB4.size
        have HR4 := hide hR4
        have HB4 := hide (HI.out.but.trans hB4)
        have HX4 := hide (Bx.but HI.out.x0 hB4 (by omega))
        have HN4 := hide (Bx.but HI.out.x1 hB4 (by omega))
        have HK4 := hide (HI.out.kl.but hB4 (by omega))
        clear hR4 hB4
        clear htk hc2
        have x0 := HX4.out.cell (k := 0) rfl
        have x1 := HX4.out.cell (k := 1) rfl
        have x2 := HX4.out.cell (k := 2) rfl
        have x3 := HX4.out.cell (k := 3) rfl
        have x4 := HX4.out.cell (k := 4) rfl
        have xl := HX4.out.lt
        have xf := HX4.out.free
        have p0 := HN4.out.cell (k := 0) rfl
        have p1 := HN4.out.cell (k := 1) rfl
        have p2 := HN4.out.cell (k := 2) rfl
        have p3 := HN4.out.cell (k := 3) rfl
        have p4 := HN4.out.cell (k := 4) rfl
        have pl := HN4.out.lt
        have pf := HN4.out.free
        go_wp2_with fail
        have hkr := HK4.out.rep 4 at_ [] 0
        unfold nC at hkr
        have hf9 := fin_put2 (b := b) (g := g) (c := c) (L := L) (w := w) HR4.out HB4.out HX4.out (Nat.le_refl _) (by omega) hkr hbz hgz
        exact bodyPost_ret (v := .agg #[.int .i64 4, .int .i64 at_, .string (S []), .int .u32 0, .slice p n c9]) (results_cell_row (fn := Tryd.f62) rfl _ _ w.heap.size 27 _ (0, 0) _ rfl hf9.1 Tryd.underlying27 rfl info_nd) rfl (hf9.2 _ (by rw [HCC.out, HEQ.out]) (by rw [HCC.out, HEQ.out]))
      | false =>
        rw [hf, if_neg (by simp)] at htk
        rw [hf, if_neg (by simp)] at HEQ
        have hmz := HI.out.us
        go_wp2_with fail
        refine htk.mono ?_
        rintro e w4 ⟨rfl, hR4, hB4⟩
        have hz4 := hB4.size
        have HR4 := hide hR4
        have HB4 := hide (HI.out.but.trans hB4)
        have HX4 := hide (Bx.but HI.out.x0 hB4 (by omega))
        have HN4 := hide (Bx.but HI.out.x1 hB4 (by omega))
        have HK4 := hide (HI.out.kl.but hB4 (by omega))
        have HCB := hide (HST.out HD w4.drew _ HR4.out.drew)
        have HMO := hide (hms.out r')
        rw [if_pos HE.out] at hlen hm
        clear htk hR4 hB4 hc2
        go_wp2_with fail
        refine wp_region_held_drew (S := fun w' => ∃ s0, Bx w' B1 27 #[.int .i64 4, .int .i64 at_, .string (S []), .int .u32 0, s0]) (by kernel_rfl) ⟨_, HN4.out⟩ (fun hH1 => ?_)
        refine wpAnyH_take (i := 0) (v := ?_) rfl (by kernel_rfl) (by kernel_rfl) (by kernel_rfl) (fun _ _ _ h => h) (Or.inl ⟨by rfl, ?_⟩) (by assumption) ?_
        rotate_left
        · intro w hSw; (try dsimp only at hSw); go_simp; (try with_reducible rfl)
        (try simp only [Act.put, List.getElem_toArray, List.getElem_cons_zero, List.setIfInBounds_toArray, List.set_cons_zero, List.set_cons_succ])
        refine wpAnyH_take (i := 2) (v := ?_) rfl (by kernel_rfl) (by kernel_rfl) (by kernel_rfl) (fun _ _ _ h => h) (Or.inl ⟨by rfl, ?_⟩) (by assumption) ?_
        rotate_left
        · intro w hSw; (try dsimp only at hSw); go_simp; (try with_reducible rfl)
        (try simp only [Act.put, List.getElem_toArray, List.getElem_cons_zero, List.getElem_cons_succ, List.setIfInBounds_toArray, List.set_cons_zero, List.set_cons_succ])
        refine wpAnyH_take (i := 3) (v := ?_) rfl (by kernel_rfl) (by kernel_rfl) (by kernel_rfl) (fun _ _ _ h => h) (Or.inl ⟨by rfl, ?_⟩) (by assumption) ?_
        rotate_left
        · intro w hSw; (try dsimp only at hSw); go_simp; (try with_reducible rfl)
        (try simp only [Act.put, List.getElem_toArray, List.getElem_cons_zero, List.getElem_cons_succ, List.setIfInBounds_toArray, List.set_cons_zero, List.set_cons_succ])
        refine wpAnyH_take (i := 4) (v := ?_) rfl (by kernel_rfl) (by kernel_rfl) (by kernel_rfl) (fun _ _ _ h => h) (Or.inl ⟨by rfl, ?_⟩) (by assumption) ?_
        rotate_left
        · intro w hSw; (try dsimp only at hSw); go_simp; (try with_reducible rfl)
        (try simp only [Act.put, List.getElem_toArray, List.getElem_cons_zero, List.getElem_cons_succ, List.setIfInBounds_toArray, List.set_cons_zero, List.set_cons_succ])
        refine wpAnyH_ready (rs := [1, 5]) (by kernel_rfl) (by simp) ?_
        refine AllReadyH.cons rfl (fun K hK => ?_) ?_
        · have c4 := HN4.out.cell (k := 4) rfl
          go_simp
          refine hK.out _ _ ⟨_, HN4.out⟩ (fun hH6 => ?_)
          clear hK K c4
          (try simp only [Act.put, List.getElem_toArray, List.getElem_cons_zero, List.getElem_cons_succ, List.setIfInBounds_toArray, List.set_cons_zero, List.set_cons_succ])
          refine wpAnyH_ready (rs := [5]) (by kernel_rfl) (by simp) ?_
          refine AllReadyH.cons rfl (fun K hK => ?_) AllReadyH.nil
          go_simp
          try rw [hw]
          with_reducible refine HCB.out.mono ?_
          intro e w5 hN
          obtain ⟨k5, a5, t5, v5, l5, sp5, sn5, sc5, hq5, rfl, hR5, hB5, hT5⟩ := hN.parts
          have hB45 : But b w4 w5 := ⟨hB5.os, hB5.tape, hB5.output, hB5.size, hB5.block⟩
          have hz5 := hB45.size
          have HQ5 := hide hq5
          have HR5 := hide hR5
          have HB5 := hide (HB4.out.trans hB45)
          have HN5 := hide (Bx.but HN4.out hB45 (by omega))
          have HK5 := hide (HK4.out.but hB45 (by omega))
          have HT5 : Hid (Rep w5 (Fr w4 w5) (.mk k5 a5 t5 v5 l5) #[.int .i64 k5, .int .i64 a5, .string (S t5), .int .u32 v5, .slice sp5 sn5 sc5]) := hide hT5
          have HX5 := hide (Bx.but HX4.out hB45 (by omega))
          have HSU := hide HK4.out.blk
          refine hK.out _ _ ⟨_, HN5.out⟩ (fun hH2 => ?_)
          clear hK K hN hq5 hR5 hB5 hB45 hT5
          (try simp only [Act.put, List.getElem_toArray, List.getElem_cons_zero, List.getElem_cons_succ, List.setIfInBounds_toArray, List.set_cons_zero, List.set_cons_succ])
          refine wpAnyH_ready (rs := [6]) (by kernel_rfl) (by simp) ?_
          refine AllReadyH.cons rfl (fun K hK => ?_) AllReadyH.nil
          go_simp
          refine hK.out _ _ ⟨_, HN5.out.alloc _⟩ (fun hH3 => ?_)
          clear hK K
          (try simp only [Act.put, List.getElem_toArray, List.getElem_cons_zero, List.getElem_cons_succ, List.setIfInBounds_toArray, List.set_cons_zero, List.set_cons_succ])
          refine wpAnyH_ready (rs := [7]) (by kernel_rfl) (by simp) ?_
          refine AllReadyH.cons rfl (fun K hK => ?_) AllReadyH.nil
          rw [if_pos (by kernel_rfl)]
          have hkb := HK5.out.blk
          obtain ⟨xs, hown, hxl, hkk⟩ := HK5.out
          have hX1 := rep_one HT5.out
          refine wp_app (.tmp 21) (.tmp 26) rfl u.heap.size (Value.slice p n c9) _ _ rfl (hown.alloc (.cells #[.int .i64 k5, .int .i64 a5, .string (S t5), .int .u32 v5, .slice sp5 sn5 sc5] 27)) ⟨_, 0, none⟩ 1 [.int .i64 k5, .int .i64 a5, .string (S t5), .int .u32 v5, .slice sp5 sn5 sc5] rfl rfl (fun j u hj => ?_) (fun u hu => ?_) (by omega) (by simp; omega) ?_
          · match j, hj with
            | 0, hj => simp at hj; subst hj; simp [Addr.add]
            | 1, hj => simp at hj; subst hj; simp [Addr.add]
            | 2, hj => simp at hj; subst hj; simp [Addr.add]
            | 3, hj => simp at hj; subst hj; simp [Addr.add]
            | 4, hj => simp at hj; subst hj; simp [Addr.add]
          · simp at hu
            rcases hu with rfl | rfl | rfl | rfl | rfl
            · rfl
            · rfl
            · rfl
            · rfl
            · exact hX1
          intro v' w7 hown' hgrow hat
          have hat' : v'.ownBlock = (Value.slice p n c9).ownBlock ∨ v'.ownBlock = some (w5.heap.size + 1) := by
            rcases hat with e | e
            · exact .inl e
            · right; rw [e]; simp
          have HK7 := hide (KL.app (show u.heap.size ≤ w4.heap.size by omega) (fun j hj => (HSU.out j hj).2) HT5.out hxl hkk hown' hgrow hat')
          have hz7 := hgrow.size
          simp at hz7
          have hrow : ∀ j, (Value.slice p n c9).ownBlock = some j → u.heap.size ≤ j := fun j hj => (hkb j hj).1
          have HN7 : Hid (Bx w7 B1 27 #[.int .i64 4, .int .i64 at_, .string (S []), .int .u32 0, .slice p n c9]) := hide ((hgrow.block _ (by have := HN5.out.lt; simp; omega) (fun e => by have := hrow _ e.symm; omega)).trans (HN5.out.alloc _))
          have HR7 := hide ((HR5.out.alloc (.cells #[.int .i64 k5, .int .i64 a5, .string (S t5), .int .u32 v5, .slice sp5 sn5 sc5] 27)).grown hgrow (fun e => by have := hrow _ e.symm; omega) (fun e => by have := hrow _ e.symm; omega))
          have HB7 := hide ((HB5.out.alloc (.cells #[.int .i64 k5, .int .i64 a5, .string (S t5), .int .u32 v5, .slice sp5 sn5 sc5] 27)).grown hgrow (fun j hj => by have := hrow j hj; omega))
          have HX7 : Hid (Bx w7 w.heap.size 27 #[.int .i64 0, .int .i64 0, .string ⟨#[]⟩, .int .u32 0, .slice none 0 0]) := hide ((hgrow.block _ (by have := HX5.out.lt; simp; omega) (fun e => by have := hrow _ e.symm; omega)).trans (HX5.out.alloc _))
          obtain ⟨p7, n7, c7, rfl⟩ := HK7.out.slice
          refine hK.out _ _ ⟨_, HN7.out⟩ (fun hH4 => ?_)
          clear hK K hown hxl hkk hown' hgrow hat hat' hX1
          (try simp only [Act.put, List.getElem_toArray, List.getElem_cons_zero, List.getElem_cons_succ, List.setIfInBounds_toArray, List.set_cons_zero, List.set_cons_succ])
          refine wpAnyH_take (i := 8) (v := ?_) rfl (by kernel_rfl) (by kernel_rfl) (by kernel_rfl) (fun _ _ _ h => h) (Or.inl ⟨by rfl, ?_⟩) (by assumption) ?_
          rotate_left
          · intro w hSw; (try dsimp only at hSw); go_simp; (try with_reducible rfl)
          (try simp only [Act.put, List.getElem_toArray, List.getElem_cons_zero, List.getElem_cons_succ, List.setIfInBounds_toArray, List.set_cons_zero, List.set_cons_succ])
          refine wpAnyH_ready (rs := [9]) (by kernel_rfl) (by simp) ?_
          refine AllReadyH.cons rfl (fun K hK => ?_) AllReadyH.nil
          have mc := HN7.out.cell (k := 4) rfl
          have mf := HN7.out.free
          go_simp
          have hn8 : Bx (w7.setCell ⟨B1, 4, none⟩ (.slice p7 n7 c7)) B1 27 #[.int .i64 4, .int .i64 at_, .string (S []), .int .u32 0, .slice p7 n7 c7] := HN7.out.set 4 (.slice p7 n7 c7)
          refine hK.out _ _ ⟨_, hn8⟩ (fun hH5 => ?_)
          clear hK K mc mf
          (try simp only [Act.put, List.getElem_toArray, List.getElem_cons_zero, List.getElem_cons_succ, List.setIfInBounds_toArray, List.set_cons_zero, List.set_cons_succ])
          refine wpAnyH_done (by kernel_rfl) ?_ _
          have HN8 := hide hn8
          have HR8 := hide (HR7.out.other (p := ⟨B1, 4, none⟩) (.slice p7 n7 c7) (by dsimp only; omega) (by dsimp only; omega))
          have HB8 := hide (HB7.out.fresh (p := ⟨B1, 4, none⟩) (by dsimp only; omega) (.slice p7 n7 c7))
          have HK8 := hide (HK7.out.other (p := ⟨B1, 4, none⟩) (.slice p7 n7 c7) (by dsimp only; omega))
          have HX8 : Hid (Bx _ w.heap.size 27 #[.int .i64 0, .int .i64 0, .string ⟨#[]⟩, .int .u32 0, .slice none 0 0]) := hide (HX7.out.other (p := ⟨B1, 4, none⟩) (.slice p7 n7 c7) (by dsimp only; omega))
          have hz8 : (w7.setCell ⟨B1, 4, none⟩ (.slice p7 n7 c7)).heap.size = w7.heap.size := by simp [World.setCell]
          clear hn8 HN7 HR7 HB7 HK7 HN5 HR5 HB5 HK5 HT5 HX7 HX5
          generalize w7.setCell ⟨B1, 4, none⟩ (.slice p7 n7 c7) = w8 at *
          go_wp2_with fail
          have hmo := HMO.out
          have hlt := mea_lt HI.out.rd HR8.out HE.out hmo
          have hi1 := hmo.v.i
          exact ⟨⟨(st r').1, ls ++ [.mk k5 a5 t5 v5 l5], p7, n7, c7, m, HR8.out, HB8.out, HX8.out, HN8.out, HK8.out, by
            rw [List.length_append]
            simp only [List.length_cons, List.length_nil]
            rcases hmo.o with ho | ho
            · rw [if_neg ho]; omega
            · split <;> omega, by
            have hl8 := HR8.out.lt
            rcases hmo.o with ho | ho
            · rw [if_neg ho]; omega
            · split <;> omega, fun _ => HD, by omega, by rw [HEQ.out, HQ5.out]⟩, hlt⟩
        refine AllReadyH.cons rfl (fun K hK => ?_) AllReadyH.nil
        · go_simp
          try rw [hw]
          with_reducible refine HCB.out.mono ?_
          intro e w5 hN
          obtain ⟨k5, a5, t5, v5, l5, sp5, sn5, sc5, hq5, rfl, hR5, hB5, hT5⟩ := hN.parts
          have hB45 : But b w4 w5 := ⟨hB5.os, hB5.tape, hB5.output, hB5.size, hB5.block⟩
          have hz5 := hB45.size
          have HQ5 := hide hq5
          have HR5 := hide hR5
          have HB5 := hide (HB4.out.trans hB45)
          have HN5 := hide (Bx.but HN4.out hB45 (by omega))
          have HK5 := hide (HK4.out.but hB45 (by omega))
          have HT5 : Hid (Rep w5 (Fr w4 w5) (.mk k5 a5 t5 v5 l5) #[.int .i64 k5, .int .i64 a5, .string (S t5), .int .u32 v5, .slice sp5 sn5 sc5]) := hide hT5
          have HX5 := hide (Bx.but HX4.out hB45 (by omega))
          have HSU := hide HK4.out.blk
          refine hK.out _ _ ⟨_, HN5.out⟩ (fun hH2 => ?_)
          clear hK K hN hq5 hR5 hB5 hB45 hT5
          (try simp only [Act.put, List.getElem_toArray, List.getElem_cons_zero, List.getElem_cons_succ, List.setIfInBounds_toArray, List.set_cons_zero, List.set_cons_succ])
          refine wpAnyH_ready (rs := [1, 6]) (by kernel_rfl) (by simp) ?_
          refine AllReadyH.cons rfl (fun K hK => ?_) ?_
          · have c4 := HN5.out.cell (k := 4) rfl
            go_simp
            refine hK.out _ _ ⟨_, HN5.out⟩ (fun hH6 => ?_)
            clear hK K c4
            (try simp only [Act.put, List.getElem_toArray, List.getElem_cons_zero, List.getElem_cons_succ, List.setIfInBounds_toArray, List.set_cons_zero, List.set_cons_succ])
            refine wpAnyH_ready (rs := [6]) (by kernel_rfl) (by simp) ?_
            refine AllReadyH.cons rfl (fun K hK => ?_) AllReadyH.nil
            go_simp
            refine hK.out _ _ ⟨_, HN5.out.alloc _⟩ (fun hH3 => ?_)
            clear hK K
            (try simp only [Act.put, List.getElem_toArray, List.getElem_cons_zero, List.getElem_cons_succ, List.setIfInBounds_toArray, List.set_cons_zero, List.set_cons_succ])
            refine wpAnyH_ready (rs := [7]) (by kernel_rfl) (by simp) ?_
            refine AllReadyH.cons rfl (fun K hK => ?_) AllReadyH.nil
            rw [if_pos (by kernel_rfl)]
            have hkb := HK5.out.blk
            obtain ⟨xs, hown, hxl, hkk⟩ := HK5.out
            have hX1 := rep_one HT5.out
            refine wp_app (.tmp 21) (.tmp 26) rfl u.heap.size (Value.slice p n c9) _ _ rfl (hown.alloc (.cells #[.int .i64 k5, .int .i64 a5, .string (S t5), .int .u32 v5, .slice sp5 sn5 sc5] 27)) ⟨_, 0, none⟩ 1 [.int .i64 k5, .int .i64 a5, .string (S t5), .int .u32 v5, .slice sp5 sn5 sc5] rfl rfl (fun j u hj => ?_) (fun u hu => ?_) (by omega) (by simp; omega) ?_
            · match j, hj with
              | 0, hj => simp at hj; subst hj; simp [Addr.add]
              | 1, hj => simp at hj; subst hj; simp [Addr.add]
              | 2, hj => simp at hj; subst hj; simp [Addr.add]
              | 3, hj => simp at hj; subst hj; simp [Addr.add]
              | 4, hj => simp at hj; subst hj; simp [Addr.add]
            · simp at hu
              rcases hu with rfl | rfl | rfl | rfl | rfl
              · rfl
              · rfl
              · rfl
              · rfl
              · exact hX1
            intro v' w7 hown' hgrow hat
            have hat' : v'.ownBlock = (Value.slice p n c9).ownBlock ∨ v'.ownBlock = some (w5.heap.size + 1) := by
              rcases hat with e | e
              · exact .inl e
              · right; rw [e]; simp
            have HK7 := hide (KL.app (show u.heap.size ≤ w4.heap.size by omega) (fun j hj => (HSU.out j hj).2) HT5.out hxl hkk hown' hgrow hat')
            have hz7 := hgrow.size
            simp at hz7
            have hrow : ∀ j, (Value.slice p n c9).ownBlock = some j → u.heap.size ≤ j := fun j hj => (hkb j hj).1
            have HN7 : Hid (Bx w7 B1 27 #[.int .i64 4, .int .i64 at_, .string (S []), .int .u32 0, .slice p n c9]) := hide ((hgrow.block _ (by have := HN5.out.lt; simp; omega) (fun e => by have := hrow _ e.symm; omega)).trans (HN5.out.alloc _))
            have HR7 := hide ((HR5.out.alloc (.cells #[.int .i64 k5, .int .i64 a5, .string (S t5), .int .u32 v5, .slice sp5 sn5 sc5] 27)).grown hgrow (fun e => by have := hrow _ e.symm; omega) (fun e => by have := hrow _ e.symm; omega))
            have HB7 := hide ((HB5.out.alloc (.cells #[.int .i64 k5, .int .i64 a5, .string (S t5), .int .u32 v5, .slice sp5 sn5 sc5] 27)).grown hgrow (fun j hj => by have := hrow j hj; omega))
            have HX7 : Hid (Bx w7 w.heap.size 27 #[.int .i64 0, .int .i64 0, .string ⟨#[]⟩, .int .u32 0, .slice none 0 0]) := hide ((hgrow.block _ (by have := HX5.out.lt; simp; omega) (fun e => by have := hrow _ e.symm; omega)).trans (HX5.out.alloc _))
            obtain ⟨p7, n7, c7, rfl⟩ := HK7.out.slice
            refine hK.out _ _ ⟨_, HN7.out⟩ (fun hH4 => ?_)
            clear hK K hown hxl hkk hown' hgrow hat hat' hX1
            (try simp only [Act.put, List.getElem_toArray, List.getElem_cons_zero, List.getElem_cons_succ, List.setIfInBounds_toArray, List.set_cons_zero, List.set_cons_succ])
            refine wpAnyH_take (i := 8) (v := ?_) rfl (by kernel_rfl) (by kernel_rfl) (by kernel_rfl) (fun _ _ _ h => h) (Or.inl ⟨by rfl, ?_⟩) (by assumption) ?_
            rotate_left
            · intro w hSw; (try dsimp only at hSw); go_simp; (try with_reducible rfl)
            (try simp only [Act.put, List.getElem_toArray, List.getElem_cons_zero, List.getElem_cons_succ, List.setIfInBounds_toArray, List.set_cons_zero, List.set_cons_succ])
            refine wpAnyH_ready (rs := [9]) (by kernel_rfl) (by simp) ?_
            refine AllReadyH.cons rfl (fun K hK => ?_) AllReadyH.nil
            have mc := HN7.out.cell (k := 4) rfl
            have mf := HN7.out.free
            go_simp
            have hn8 : Bx (w7.setCell ⟨B1, 4, none⟩ (.slice p7 n7 c7)) B1 27 #[.int .i64 4, .int .i64 at_, .string (S []), .int .u32 0, .slice p7 n7 c7] := HN7.out.set 4 (.slice p7 n7 c7)
            refine hK.out _ _ ⟨_, hn8⟩ (fun hH5 => ?_)
            clear hK K mc mf
            (try simp only [Act.put, List.getElem_toArray, List.getElem_cons_zero, List.getElem_cons_succ, List.setIfInBounds_toArray, List.set_cons_zero, List.set_cons_succ])
            refine wpAnyH_done (by kernel_rfl) ?_ _
            have HN8 := hide hn8
            have HR8 := hide (HR7.out.other (p := ⟨B1, 4, none⟩) (.slice p7 n7 c7) (by dsimp only; omega) (by dsimp only; omega))
            have HB8 := hide (HB7.out.fresh (p := ⟨B1, 4, none⟩) (by dsimp only; omega) (.slice p7 n7 c7))
            have HK8 := hide (HK7.out.other (p := ⟨B1, 4, none⟩) (.slice p7 n7 c7) (by dsimp only; omega))
            have HX8 : Hid (Bx _ w.heap.size 27 #[.int .i64 0, .int .i64 0, .string ⟨#[]⟩, .int .u32 0, .slice none 0 0]) := hide (HX7.out.other (p := ⟨B1, 4, none⟩) (.slice p7 n7 c7) (by dsimp only; omega))
            have hz8 : (w7.setCell ⟨B1, 4, none⟩ (.slice p7 n7 c7)).heap.size = w7.heap.size := by simp [World.setCell]
            clear hn8 HN7 HR7 HB7 HK7 HN5 HR5 HB5 HK5 HT5 HX7 HX5
            generalize w7.setCell ⟨B1, 4, none⟩ (.slice p7 n7 c7) = w8 at *
            go_wp2_with fail
            have hmo := HMO.out
            have hlt := mea_lt HI.out.rd HR8.out HE.out hmo
            have hi1 := hmo.v.i
            exact ⟨⟨(st r').1, ls ++ [.mk k5 a5 t5 v5 l5], p7, n7, c7, m, HR8.out, HB8.out, HX8.out, HN8.out, HK8.out, by
              rw [List.length_append]
              simp only [List.length_cons, List.length_nil]
              rcases hmo.o with ho | ho
              · rw [if_neg ho]; omega
              · split <;> omega, by
              have hl8 := HR8.out.lt
              rcases hmo.o with ho | ho
              · rw [if_neg ho]; omega
              · split <;> omega, fun _ => HD, by omega, by rw [HEQ.out, HQ5.out]⟩, hlt⟩
          refine AllReadyH.cons rfl (fun K hK => ?_) AllReadyH.nil
          · go_simp
            refine hK.out _ _ ⟨_, HN5.out.alloc _⟩ (fun hH3 => ?_)
            clear hK K
            (try simp only [Act.put, List.getElem_toArray, List.getElem_cons_zero, List.getElem_cons_succ, List.setIfInBounds_toArray, List.set_cons_zero, List.set_cons_succ])
            refine wpAnyH_ready (rs := [1]) (by kernel_rfl) (by simp) ?_
            refine AllReadyH.cons rfl (fun K hK => ?_) AllReadyH.nil
            have c4 := (HN5.out.alloc (.cells #[.int .i64 k5, .int .i64 a5, .string (S t5), .int .u32 v5, .slice sp5 sn5 sc5] 27)).cell (k := 4) rfl
            go_simp
            refine hK.out _ _ ⟨_, (HN5.out.alloc (.cells #[.int .i64 k5, .int .i64 a5, .string (S t5), .int .u32 v5, .slice sp5 sn5 sc5] 27))⟩ (fun hH6 => ?_)
            clear hK K c4
            (try simp only [Act.put, List.getElem_toArray, List.getElem_cons_zero, List.getElem_cons_succ, List.setIfInBounds_toArray, List.set_cons_zero, List.set_cons_succ])
            refine wpAnyH_ready (rs := [7]) (by kernel_rfl) (by simp) ?_
            refine AllReadyH.cons rfl (fun K hK => ?_) AllReadyH.nil
            rw [if_pos (by kernel_rfl)]
            have hkb := HK5.out.blk
            obtain ⟨xs, hown, hxl, hkk⟩ := HK5.out
            have hX1 := rep_one HT5.out
            refine wp_app (.tmp 21) (.tmp 26) rfl u.heap.size (Value.slice p n c9) _ _ rfl (hown.alloc (.cells #[.int .i64 k5, .int .i64 a5, .string (S t5), .int .u32 v5, .slice sp5 sn5 sc5] 27)) ⟨_, 0, none⟩ 1 [.int .i64 k5, .int .i64 a5, .string (S t5), .int .u32 v5, .slice sp5 sn5 sc5] rfl rfl (fun j u hj => ?_) (fun u hu => ?_) (by omega) (by simp; omega) ?_
            · match j, hj with
              | 0, hj => simp at hj; subst hj; simp [Addr.add]
              | 1, hj => simp at hj; subst hj; simp [Addr.add]
              | 2, hj => simp at hj; subst hj; simp [Addr.add]
              | 3, hj => simp at hj; subst hj; simp [Addr.add]
              | 4, hj => simp at hj; subst hj; simp [Addr.add]
            · simp at hu
              rcases hu with rfl | rfl | rfl | rfl | rfl
              · rfl
              · rfl
              · rfl
              · rfl
              · exact hX1
            intro v' w7 hown' hgrow hat
            have hat' : v'.ownBlock = (Value.slice p n c9).ownBlock ∨ v'.ownBlock = some (w5.heap.size + 1) := by
              rcases hat with e | e
              · exact .inl e
              · right; rw [e]; simp
            have HK7 := hide (KL.app (show u.heap.size ≤ w4.heap.size by omega) (fun j hj => (HSU.out j hj).2) HT5.out hxl hkk hown' hgrow hat')
            have hz7 := hgrow.size
            simp at hz7
            have hrow : ∀ j, (Value.slice p n c9).ownBlock = some j → u.heap.size ≤ j := fun j hj => (hkb j hj).1
            have HN7 : Hid (Bx w7 B1 27 #[.int .i64 4, .int .i64 at_, .string (S []), .int .u32 0, .slice p n c9]) := hide ((hgrow.block _ (by have := HN5.out.lt; simp; omega) (fun e => by have := hrow _ e.symm; omega)).trans (HN5.out.alloc _))
            have HR7 := hide ((HR5.out.alloc (.cells #[.int .i64 k5, .int .i64 a5, .string (S t5), .int .u32 v5, .slice sp5 sn5 sc5] 27)).grown hgrow (fun e => by have := hrow _ e.symm; omega) (fun e => by have := hrow _ e.symm; omega))
            have HB7 := hide ((HB5.out.alloc (.cells #[.int .i64 k5, .int .i64 a5, .string (S t5), .int .u32 v5, .slice sp5 sn5 sc5] 27)).grown hgrow (fun j hj => by have := hrow j hj; omega))
            have HX7 : Hid (Bx w7 w.heap.size 27 #[.int .i64 0, .int .i64 0, .string ⟨#[]⟩, .int .u32 0, .slice none 0 0]) := hide ((hgrow.block _ (by have := HX5.out.lt; simp; omega) (fun e => by have := hrow _ e.symm; omega)).trans (HX5.out.alloc _))
            obtain ⟨p7, n7, c7, rfl⟩ := HK7.out.slice
            refine hK.out _ _ ⟨_, HN7.out⟩ (fun hH4 => ?_)
            clear hK K hown hxl hkk hown' hgrow hat hat' hX1
            (try simp only [Act.put, List.getElem_toArray, List.getElem_cons_zero, List.getElem_cons_succ, List.setIfInBounds_toArray, List.set_cons_zero, List.set_cons_succ])
            refine wpAnyH_take (i := 8) (v := ?_) rfl (by kernel_rfl) (by kernel_rfl) (by kernel_rfl) (fun _ _ _ h => h) (Or.inl ⟨by rfl, ?_⟩) (by assumption) ?_
            rotate_left
            · intro w hSw; (try dsimp only at hSw); go_simp; (try with_reducible rfl)
            (try simp only [Act.put, List.getElem_toArray, List.getElem_cons_zero, List.getElem_cons_succ, List.setIfInBounds_toArray, List.set_cons_zero, List.set_cons_succ])
            refine wpAnyH_ready (rs := [9]) (by kernel_rfl) (by simp) ?_
            refine AllReadyH.cons rfl (fun K hK => ?_) AllReadyH.nil
            have mc := HN7.out.cell (k := 4) rfl
            have mf := HN7.out.free
            go_simp
            have hn8 : Bx (w7.setCell ⟨B1, 4, none⟩ (.slice p7 n7 c7)) B1 27 #[.int .i64 4, .int .i64 at_, .string (S []), .int .u32 0, .slice p7 n7 c7] := HN7.out.set 4 (.slice p7 n7 c7)
            refine hK.out _ _ ⟨_, hn8⟩ (fun hH5 => ?_)
            clear hK K mc mf
            (try simp only [Act.put, List.getElem_toArray, List.getElem_cons_zero, List.getElem_cons_succ, List.setIfInBounds_toArray, List.set_cons_zero, List.set_cons_succ])
            refine wpAnyH_done (by kernel_rfl) ?_ _
            have HN8 := hide hn8
            have HR8 := hide (HR7.out.other (p := ⟨B1, 4, none⟩) (.slice p7 n7 c7) (by dsimp only; omega) (by dsimp only; omega))
            have HB8 := hide (HB7.out.fresh (p := ⟨B1, 4, none⟩) (by dsimp only; omega) (.slice p7 n7 c7))
            have HK8 := hide (HK7.out.other (p := ⟨B1, 4, none⟩) (.slice p7 n7 c7) (by dsimp only; omega))
            have HX8 : Hid (Bx _ w.heap.size 27 #[.int .i64 0, .int .i64 0, .string ⟨#[]⟩, .int .u32 0, .slice none 0 0]) := hide (HX7.out.other (p := ⟨B1, 4, none⟩) (.slice p7 n7 c7) (by dsimp only; omega))
            have hz8 : (w7.setCell ⟨B1, 4, none⟩ (.slice p7 n7 c7)).heap.size = w7.heap.size := by simp [World.setCell]
            clear hn8 HN7 HR7 HB7 HK7 HN5 HR5 HB5 HK5 HT5 HX7 HX5
            generalize w7.setCell ⟨B1, 4, none⟩ (.slice p7 n7 c7) = w8 at *
            go_wp2_with fail
            have hmo := HMO.out
            have hlt := mea_lt HI.out.rd HR8.out HE.out hmo
            have hi1 := hmo.v.i
            exact ⟨⟨(st r').1, ls ++ [.mk k5 a5 t5 v5 l5], p7, n7, c7, m, HR8.out, HB8.out, HX8.out, HN8.out, HK8.out, by
              rw [List.length_append]
              simp only [List.length_cons, List.length_nil]
              rcases hmo.o with ho | ho
              · rw [if_neg ho]; omega
              · split <;> omega, by
              have hl8 := HR8.out.lt
              rcases hmo.o with ho | ho
              · rw [if_neg ho]; omega
              · split <;> omega, fun _ => HD, by omega, by rw [HEQ.out, HQ5.out]⟩, hlt⟩
    · rw [if_neg he] at HEQ
      have HR4 := hide HI.out.rd
      have HB4 := hide HI.out.but
      have HX4 := hide HI.out.x0
      have HN4 := hide HI.out.x1
      have HK4 := hide HI.out.kl
      have x0 := HX4.out.cell (k := 0) rfl
      have x1 := HX4.out.cell (k := 1) rfl
      have x2 := HX4.out.cell (k := 2) rfl
      have x3 := HX4.out.cell (k := 3) rfl
      have x4 := HX4.out.cell (k := 4) rfl
      have xl := HX4.out.lt
      have xf := HX4.out.free
      have p0 := HN4.out.cell (k := 0) rfl
      have p1 := HN4.out.cell (k := 1) rfl
      have p2 := HN4.out.cell (k := 2) rfl
      have p3 := HN4.out.cell (k := 3) rfl
      have p4 := HN4.out.cell (k := 4) rfl
      have pl := HN4.out.lt
      have pf := HN4.out.free
      go_wp2_with fail
      have hkr := HK4.out.rep 4 at_ [] 0
      unfold nC at hkr
      have hf9 := fin_put2 (b := b) (g := g) (c := c) (L := L) (w := w) HR4.out HB4.out HX4.out (Nat.le_refl _) (by omega) hkr hbz hgz
      exact bodyPost_ret (v := .agg #[.int .i64 4, .int .i64 at_, .string (S []), .int .u32 0, .slice p n c9]) (results_cell_row (fn := Tryd.f62) rfl _ _ w.heap.size 27 _ (0, 0) _ rfl hf9.1 Tryd.underlying27 rfl info_nd) rfl (hf9.2 _ (by rw [HCC.out, HEQ.out]) (by rw [HCC.out, HEQ.out]))

end
end Go.Proofs.YtimiglepogeeiaaDoor.Parse

