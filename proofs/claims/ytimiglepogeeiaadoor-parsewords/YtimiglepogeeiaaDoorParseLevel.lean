/- Levels of signs: contracts, as far as an operand's is given. -/
import Derived.Test.YtimiglepogeeiaaDoorParseList
set_option linter.unusedVariables false
set_option linter.unusedSimpArgs false
set_option maxRecDepth 100000
namespace Go.Proofs.YtimiglepogeeiaaDoor.Parse
open Go.RowKit Go.Proofs.YtimiglepogeeiaaDoor.Lex

theorem zN_get : zN = #[.int .i64 0, .int .i64 0, .string ⟨#[]⟩, .int .u32 0, .slice none 0 0] := rfl
/-- A node told by a function: its value's parts. -/
theorem Rep.slice {w : World} {P : Nat → Prop} {k a : Int} {t : List UInt8} {v : Int} {l : List Tr} {x : Array Value} (h : Rep w P (.mk k a t v l) x) : ∃ p n c, x = #[.int .i64 k, .int .i64 a, .string (S t), .int .u32 v, .slice p n c] := by
  obtain ⟨s, xs, rfl, ho, _⟩ := h.at
  rcases ho.2 with ⟨rfl, _⟩ | ⟨g, cap, cur, rfl, _⟩
  · exact ⟨_, _, _, rfl⟩
  · exact ⟨_, _, _, rfl⟩
theorem NR.parts {b g c : Nat} {L : List T} {w w' : World} {q : R × Tr} {e : Ending} (h : NR b g c L w q e w') :
    ∃ k a t v l p n d, q.2 = .mk k a t v l ∧ e = .returned (.agg #[.int .i64 k, .int .i64 a, .string (S t), .int .u32 v, .slice p n d]) ∧ Rd w' b g c L q.1 ∧ But b w w' ∧ Rep w' (Fr w w') (.mk k a t v l) #[.int .i64 k, .int .i64 a, .string (S t), .int .u32 v, .slice p n d] := by
  obtain ⟨x, he, hR, hB, hT⟩ := h
  obtain ⟨r, y⟩ := q
  obtain ⟨k, a, t, v, l⟩ := y
  obtain ⟨p, n, d, rfl⟩ := Rep.slice hT
  exact ⟨k, a, t, v, l, p, n, d, rfl, he, hR, hB, hT⟩

/-- A tree is stored into the box of what is told. -/
theorem fin_put {b g c : Nat} {L : List T} {r : R} {u w w1 : World} {y : Tr} {c0 c1 c2 c3 c4 v0 v1 v2 v3 v4 : Value} (hR : Rd w1 b g c L r) (hB : But b w w1) (hX : Bx w1 w.heap.size 27 #[c0, c1, c2, c3, c4]) (hu : w.heap.size < u.heap.size)
    (hT : Rep w1 (Fr u w1) y #[v0, v1, v2, v3, v4]) (hbz : b < w.heap.size) (hgz : g < w.heap.size) :
    Bx (((((w1.setCell ⟨w.heap.size, 0, none⟩ v0).setCell ⟨w.heap.size, 1, none⟩ v1).setCell ⟨w.heap.size, 2, none⟩ v2).setCell ⟨w.heap.size, 3, none⟩ v3).setCell ⟨w.heap.size, 4, none⟩ v4) w.heap.size 27 #[v0, v1, v2, v3, v4] ∧
    ∀ q : R × Tr, q.1 = r → q.2 = y → NR b g c L w q (.returned (.agg #[v0, v1, v2, v3, v4])) (((((w1.setCell ⟨w.heap.size, 0, none⟩ v0).setCell ⟨w.heap.size, 1, none⟩ v1).setCell ⟨w.heap.size, 2, none⟩ v2).setCell ⟨w.heap.size, 3, none⟩ v3).setCell ⟨w.heap.size, 4, none⟩ v4) := by
  refine ⟨Bx.put5 hX _ _ _ _ _, fun q h1 h2 => ?_⟩
  subst h1 h2
  have hO : But w.heap.size w1 (((((w1.setCell ⟨w.heap.size, 0, none⟩ v0).setCell ⟨w.heap.size, 1, none⟩ v1).setCell ⟨w.heap.size, 2, none⟩ v2).setCell ⟨w.heap.size, 3, none⟩ v3).setCell ⟨w.heap.size, 4, none⟩ v4) :=
    (((((But.refl w.heap.size w1).set 0 v0).set 1 v1).set 2 v2).set 3 v3).set 4 v4
  refine ⟨_, rfl, Rd.put5 hR _ _ _ _ _ (by omega) (by omega), But.put5 hB (Nat.le_refl _) _ _ _ _ _, ?_⟩
  exact hT.kept hO.size (fun j hj => hO.block j hj.2 (fun e => by have := hj.1; omega)) (fun j hj => ⟨by have := hj.1; omega, Nat.lt_of_lt_of_le hj.2 hO.size⟩)

section
variable {b g c : Nat} {L : List T}

set_option maxHeartbeats 8000000 in
/-- Level 8 is an operand. -/
theorem level_8 (d : Int) (op : R → R × Tr) (hop : ∀ w r, Rd w b g c L r → Calls Tryd.prog 109 #[.pointer (some ⟨b, 0, none⟩), .int .i64 d] w (NR b g c L w (op r))) (w : World) (r : R) (h : Rd w b g c L r) :
    Calls Tryd.prog 100 #[.pointer (some ⟨b, 0, none⟩), .int .i64 8, .int .i64 d] w (NR b g c L w (op r)) := by
  have hbz := h.ltb
  have hgz := h.row.lt
  have hx0 : Bx (w.alloc (.cells zN 27)) w.heap.size 27 zN := heap_new w zN 27
  have ho := hop _ r (h.alloc (.cells zN 27))
  have hu : w.heap.size < (w.alloc (.cells zN 27)).heap.size := by simp
  have HB0 := hide ((But.refl b w).alloc (.cells zN 27))
  have HX0 := hide hx0
  unfold zN at ho HX0 HB0 hu
  clear hop h hx0
  go_enter Tryd.func100, Tryd.ntmps100
  go_wp2_with fail
  refine ho.mono ?_
  intro e w1 hn
  obtain ⟨k, a, t, v, l, sp, sn, sc, hq, rfl, hR1, hB1, hT1⟩ := hn.parts
  have HQ := hide hq
  have hx1 := Bx.but HX0.out hB1 (by omega)
  have hfx := hx1.free
  have x0 := hx1.cell (k := 0) rfl
  have x1 := hx1.cell (k := 1) rfl
  have x2 := hx1.cell (k := 2) rfl
  have x3 := hx1.cell (k := 3) rfl
  have x4 := hx1.cell (k := 4) rfl
  have hxl := hx1.lt
  have HX1 := hide hx1
  have HR1 := hide hR1
  have HB1 := hide (HB0.out.trans hB1)
  have HT1 := hide hT1
  clear hx1 hR1 hB1 hT1 hn ho hq
  go_wp2_with fail
  have hf := fin_put HR1.out HB1.out HX1.out hu HT1.out hbz hgz
  exact bodyPost_ret (v := .agg #[.int .i64 k, .int .i64 a, .string (S t), .int .u32 v, .slice sp sn sc]) (results_cell_row (fn := Tryd.f100) rfl _ _ w.heap.size 27 _ (0, 0) _ rfl hf.1 Tryd.underlying27 rfl info_nd) rfl (hf.2 _ rfl HQ.out)

theorem loopF_succ (nx : R → R × Tr) (L : List T) (lv : Int) (m : Nat) (r : R) (x : Tr) : loopF nx L lv (m + 1) r x = if r.e = 0 ∧ lvOf (tk L r).t = lv then (if lv = 4 then joinF nx L r x else loopF nx L lv m (joinF nx L r x).1 (joinF nx L r x).2) else (r, x) := rfl

/-- What joined does, as level needs it. -/
def JoinC (b g c : Nat) (L : List T) (d lv : Int) (nx : R → R × Tr) : Prop :=
  ∀ (P : Nat → Prop) (w : World) (r : R) (y : Tr) (x : Array Value), (∀ j, P j → j < w.heap.size ∧ j ≠ b) → Rd w b g c L r → (tk L r).t ≠ [] → Rep w P y x →
    Calls Tryd.prog 111 #[.pointer (some ⟨b, 0, none⟩), .agg x, .int .i64 lv, .int .i64 d] w fun e w' => ∃ x', e = .returned (.agg x') ∧ Rd w' b g c L (joinF nx L r y).1 ∧ But b w w' ∧ Rep w' (fun j => P j ∨ Fr w w' j) (joinF nx L r y).2 x'

theorem lv_text {t : List UInt8} {lv : Int} (h : lvOf t = lv) (h1 : 1 ≤ lv) : t ≠ [] := by
  rintro rfl
  have : lvOf [] = 0 := rfl
  omega

/-- A tree behind a world, but in one block. -/
def P1 (u : World) (B : Nat) (w : World) (j : Nat) : Prop := u.heap.size < j ∧ j < w.heap.size ∧ j ≠ B
theorem P1.but {b : Nat} {u v w : World} {B : Nat} {y : Tr} {x : Array Value} (h : Rep v (P1 u B v) y x) (hb : But b v w) (hbu : b ≤ u.heap.size) : Rep w (P1 u B w) y x :=
  h.kept hb.size (fun j hj => hb.block j hj.2.1 (fun e => by have := hj.1; omega)) (fun j hj => ⟨hj.1, Nat.lt_of_lt_of_le hj.2.1 hb.size, hj.2.2⟩)
/-- It is stored into the box of what is told. -/
theorem fin_put1 {b g c : Nat} {L : List T} {r : R} {w w1 : World} {B : Nat} {y : Tr} {c0 c1 c2 c3 c4 v0 v1 v2 v3 v4 : Value} (hR : Rd w1 b g c L r) (hB : But b w w1) (hX : Bx w1 w.heap.size 27 #[c0, c1, c2, c3, c4])
    (hT : Rep w1 (P1 w B w1) y #[v0, v1, v2, v3, v4]) (hbz : b < w.heap.size) (hgz : g < w.heap.size) :
    Bx (((((w1.setCell ⟨w.heap.size, 0, none⟩ v0).setCell ⟨w.heap.size, 1, none⟩ v1).setCell ⟨w.heap.size, 2, none⟩ v2).setCell ⟨w.heap.size, 3, none⟩ v3).setCell ⟨w.heap.size, 4, none⟩ v4) w.heap.size 27 #[v0, v1, v2, v3, v4] ∧
    ∀ q : R × Tr, q.1 = r → q.2 = y → NR b g c L w q (.returned (.agg #[v0, v1, v2, v3, v4])) (((((w1.setCell ⟨w.heap.size, 0, none⟩ v0).setCell ⟨w.heap.size, 1, none⟩ v1).setCell ⟨w.heap.size, 2, none⟩ v2).setCell ⟨w.heap.size, 3, none⟩ v3).setCell ⟨w.heap.size, 4, none⟩ v4) := by
  refine ⟨Bx.put5 hX _ _ _ _ _, fun q h1 h2 => ?_⟩
  subst h1 h2
  have hO : But w.heap.size w1 (((((w1.setCell ⟨w.heap.size, 0, none⟩ v0).setCell ⟨w.heap.size, 1, none⟩ v1).setCell ⟨w.heap.size, 2, none⟩ v2).setCell ⟨w.heap.size, 3, none⟩ v3).setCell ⟨w.heap.size, 4, none⟩ v4) :=
    (((((But.refl w.heap.size w1).set 0 v0).set 1 v1).set 2 v2).set 3 v3).set 4 v4
  refine ⟨_, rfl, Rd.put5 hR _ _ _ _ _ (by omega) (by omega), But.put5 hB (Nat.le_refl _) _ _ _ _ _, ?_⟩
  exact hT.kept hO.size (fun j hj => hO.block j hj.2.1 (fun e => by have := hj.1; omega)) (fun j hj => ⟨by have := hj.1; omega, Nat.lt_of_lt_of_le hj.2.1 hO.size⟩)

/-- Where level's rounds stand. -/
structure LvR (b g c : Nat) (L : List T) (nx : R → R × Tr) (lv : Int) (w : World) (B : Nat) (q : R × Tr) (wr : World) (r : R) (k a : Int) (t : List UInt8) (v : Int) (l : List Tr) (p : Option Addr) (n d m : Nat) : Prop where
  rd : Rd wr b g c L r
  but : But b w wr
  x0 : Bx wr w.heap.size 27 zN
  x1 : Bx wr B 27 #[.int .i64 k, .int .i64 a, .string (S t), .int .u32 v, .slice p n d]
  rep : Rep wr (P1 w B wr) (.mk k a t v l) #[.int .i64 k, .int .i64 a, .string (S t), .int .u32 v, .slice p n d]
  fuel : L.length - r.i + (if r.e = 0 then 1 else 0) < m
  eq : q = loopF nx L lv m r (.mk k a t v l)
theorem LvR.below {b g c : Nat} {L : List T} {nx : R → R × Tr} {lv : Int} {w : World} {B : Nat} {q : R × Tr} {wr w' : World} {r : R} {k a : Int} {t : List UInt8} {v : Int} {l : List Tr} {p : Option Addr} {n d m : Nat}
    (h : LvR b g c L nx lv w B q wr r k a t v l p n d m) (hb : Below wr.heap.size wr w') (hbz : b < w.heap.size) : LvR b g c L nx lv w B q w' r k a t v l p n d m :=
  ⟨h.rd.kept hb, h.but.trans (But.of_below hb), h.x0.below hb, h.x1.below hb, P1.but (b := b) h.rep (But.of_below hb) (by omega), h.fuel, h.eq⟩

theorem LvR.put {b g c : Nat} {L : List T} {nx : R → R × Tr} {lv : Int} {w : World} {B : Nat} {q : R × Tr} {wr w' : World} {r r6 : R} {k a : Int} {t : List UInt8} {v : Int} {l : List Tr} {p : Option Addr} {n d m : Nat}
    {k6 a6 : Int} {t6 : List UInt8} {v6 : Int} {l6 : List Tr} {p6 : Option Addr} {n6 d6 : Nat}
    (h : LvR b g c L nx lv w B q wr r k a t v l p n d m) (hB : w.heap.size < B) (hbz : b < w.heap.size) (hgz : g < w.heap.size) (hR : Rd w' b g c L r6) (hb : But b wr w')
    (hT : Rep w' (fun j => P1 w B wr j ∨ Fr wr w' j) (.mk k6 a6 t6 v6 l6) #[.int .i64 k6, .int .i64 a6, .string (S t6), .int .u32 v6, .slice p6 n6 d6]) :
    ∀ m' q', L.length - r6.i + (if r6.e = 0 then 1 else 0) < m' → q' = loopF nx L lv m' r6 (.mk k6 a6 t6 v6 l6) → LvR b g c L nx lv w B q' (((((w'.setCell ⟨B, 0, none⟩ (.int .i64 k6)).setCell ⟨B, 1, none⟩ (.int .i64 a6)).setCell ⟨B, 2, none⟩ (.string (S t6))).setCell ⟨B, 3, none⟩ (.int .u32 v6)).setCell ⟨B, 4, none⟩ (.slice p6 n6 d6)) r6 k6 a6 t6 v6 l6 p6 n6 d6 m' := fun m' q' hm hq => by
  have hO : But B w' (((((w'.setCell ⟨B, 0, none⟩ (.int .i64 k6)).setCell ⟨B, 1, none⟩ (.int .i64 a6)).setCell ⟨B, 2, none⟩ (.string (S t6))).setCell ⟨B, 3, none⟩ (.int .u32 v6)).setCell ⟨B, 4, none⟩ (.slice p6 n6 d6)) :=
    (((((But.refl B w').set 0 _).set 1 _).set 2 _).set 3 _).set 4 _
  have hBl := h.x1.lt
  have hz := hb.size
  refine ⟨Rd.put5 hR _ _ _ _ _ (by omega) (by omega), But.put5 (h.but.trans hb) (by omega) _ _ _ _ _, Bx.but (Bx.but h.x0 hb (by omega)) hO (by omega), Bx.put5 (Bx.but h.x1 hb (by omega)) _ _ _ _ _, ?_, hm, hq⟩
  refine hT.kept hO.size (fun j hj => hO.block j ?_ ?_) (fun j hj => ?_)
  · rcases hj with hj | hj
    · have := hj.2.1; omega
    · exact hj.2
  · rcases hj with hj | hj
    · exact hj.2.2
    · intro e; have := hj.1; omega
  · have hs := hO.size
    rcases hj with hj | hj
    · exact ⟨hj.1, by have := hj.2.1; omega, hj.2.2⟩
    · exact ⟨by have := hj.1; omega, by have := hj.2; omega, by have := hj.1; omega⟩

set_option maxHeartbeats 8000000 in
theorem level_up (d lv : Int) (h1 : 1 ≤ lv) (h7 : lv ≤ 7) (nx : R → R × Tr) (hmv : Hid (∀ r, Mv r (nx r).1)) (hJ : Hid (JoinC b g c L d lv nx))
    (hnx : ∀ w r, Rd w b g c L r → Calls Tryd.prog 100 #[.pointer (some ⟨b, 0, none⟩), .int .i64 (lv + 1), .int .i64 d] w (NR b g c L w (nx r))) (w : World) (r : R) (h : Rd w b g c L r) :
    Calls Tryd.prog 100 #[.pointer (some ⟨b, 0, none⟩), .int .i64 lv, .int .i64 d] w (NR b g c L w (loopF nx L lv (L.length + 2) (nx r).1 (nx r).2)) := by
  have hbz := h.ltb
  have hgz := h.row.lt
  have hx0 : Bx (w.alloc (.cells zN 27)) w.heap.size 27 zN := heap_new w zN 27
  have ho := hnx _ r (h.alloc (.cells zN 27))
  have hu : w.heap.size < (w.alloc (.cells zN 27)).heap.size := by simp
  have HB0 := hide ((But.refl b w).alloc (.cells zN 27))
  have HX0 := hide hx0
  generalize hqq : loopF nx L lv (L.length + 2) (nx r).1 (nx r).2 = q
  have HQ := hide hqq
  have HZ : Hid (zN = _) := zN_get
  rw [zN_get] at ho HX0 HB0 hu
  clear hnx h hx0 hqq
  go_enter Tryd.func100, Tryd.ntmps100
  go_wp2_with fail
  refine ho.mono ?_
  intro e w1 hn
  obtain ⟨k, a, t, v, l, sp, sn, sc, hq, rfl, hR1, hB1, hT1⟩ := hn.parts
  have HI : Hid (LvR b g c L nx lv w w1.heap.size q (w1.alloc (.cells #[.int .i64 k, .int .i64 a, .string (S t), .int .u32 v, .slice sp sn sc] 27)) (nx r).1 k a t v l sp sn sc (L.length + 2)) := by
    have hz1 := hB1.size
    refine ⟨hR1.alloc _, (HB0.out.trans hB1).alloc _, Bx.alloc (HZ.out ▸ Bx.but HX0.out hB1 (by omega)) _, heap_new w1 _ _, ?_, ?_, ?_⟩
    · exact hT1.kept (by simp) (fun j hj => ((Below.refl _ w1).alloc (Nat.le_refl _) _).block j hj.2) (fun j hj => ⟨by have := hj.1; omega, by have := hj.2; simp; omega, by have := hj.2; omega⟩)
    · have := hR1.lt; split <;> omega
    · rw [← HQ.out, hq]
  have HW1 : w.heap.size < w1.heap.size := by have := hB1.size; omega
  clear hR1 hB1 hT1 hn ho hq HX0 HB0 hu HQ
  go_wp2_with fail
  generalize (w1.alloc (.cells #[.int .i64 k, .int .i64 a, .string (S t), .int .u32 v, .slice sp sn sc] 27)) = wa at *
  generalize w1.heap.size = B1 at *
  generalize (nx r).1 = r1 at *
  go_loopw [] (fun wr => ∃ r' k a t v l p n d m, LvR b g c L nx lv w B1 q wr r' k a t v l p n d m) (fun wr => mea b wr)
  case atStart => exact ⟨r1, k, a, t, v, l, sp, sn, sc, _, HI.out⟩
  case round =>
    obtain ⟨r', k, a, t, v, l, p, n, dd, m, hI⟩ := hrel
    have HI := hide hI
    have hm := hI.fuel
    have heq := hI.eq
    match m, hm, heq, HI with
    | m + 1, hm, heq, HI =>
    have HEQ := hide (heq.trans (loopF_succ nx L lv m r' (.mk k a t v l)))
    have hc2 := hI.rd.c2
    have hR := hI.rd
    clear hI heq
    by_cases he : r'.e = 0
    · rw [he] at hc2
      have HRE := hide he
      have hn := next_any hR
      have hlv := levelOf_any (tk L r').t
      have HT := hide (show tk L r' = tk L r' from rfl)
      by_cases hq : lvOf (tk L r').t = lv
      · rw [if_pos ⟨he, hq⟩] at HEQ
        have hne := lv_text hq h1
        rw [hq] at hlv
        have HNE := hide hne
        have HMO := hide (joinF_mo (L := L) hmv.out r' (.mk k a t v l))
        generalize tk L r' = tt at hn hlv
        obtain ⟨tk_, ta, tx, tv⟩ := tt
        simp only [tA] at hn hlv
        have f2 := fk2 tk_ ta tv (S tx)
        clear hR hne hq
        go_wp2_with fail
        refine hn.mono ?_
        rintro e w5 ⟨rfl, hb5⟩
        have HI5 := hide (HI.out.below hb5 hbz)
        clear hn hb5
        have z1 := HI5.out.x1
        have b0 := z1.cell (k := 0) rfl
        have b1 := z1.cell (k := 1) rfl
        have b2 := z1.cell (k := 2) rfl
        have b3 := z1.cell (k := 3) rfl
        have b4 := z1.cell (k := 4) rfl
        have l1 := z1.lt
        have hj := hJ.out (P1 w B1 w5) w5 r' _ _ (fun j hj => ⟨hj.2.1, by have := hj.1; omega⟩) HI5.out.rd HNE.out HI5.out.rep
        clear z1
        go_wp2_with (go_at_call 110; refine (hlv _).mono ?_; rintro e w9 ⟨rfl, h9⟩; rw [h9]; clear h9)
        clear b0 b1 b2 b3 b4
        refine hj.mono ?_
        rintro e w6 ⟨x', rfl, hR6, hB6, hT6⟩
        generalize hj1 : (joinF nx L r' (.mk k a t v l)).1 = r6 at hR6
        generalize hj2 : (joinF nx L r' (.mk k a t v l)).2 = y6 at hT6
        obtain ⟨k6, a6, t6, v6, l6⟩ := y6
        have HE1 := hide hj1
        have HE2 := hide hj2
        clear hj1 hj2
        obtain ⟨p6, n6, d6, rfl⟩ := Rep.slice hT6
        have HP := hide (LvR.put HI5.out HW1 hbz hgz hR6 hB6 hT6)
        have z1 := Bx.but HI5.out.x1 hB6 (by omega)
        have f1 := z1.free
        have b0 := z1.cell (k := 0) rfl
        have b1 := z1.cell (k := 1) rfl
        have b2 := z1.cell (k := 2) rfl
        have b3 := z1.cell (k := 3) rfl
        have b4 := z1.cell (k := 4) rfl
        have l6 := z1.lt
        have hRr := hide HI.out.rd
        clear z1 hR6 hT6 hj
        by_cases h4 : lv = 4
        · rw [if_pos h4] at HEQ
          subst h4
          have HE := hide (show q.1 = _ ∧ q.2 = _ from ⟨(congrArg Prod.fst HEQ.out).trans HE1.out, (congrArg Prod.snd HEQ.out).trans HE2.out⟩)
          have HI6 := hide (HP.out _ _ (Nat.lt_succ_self _) rfl)
          clear b0 b1 b2 b3 b4
          have l0 := HI5.out.x0.lt
          have zz := Bx.but HI5.out.x0 hB6 (by omega)
          rw [zN_get] at zz
          have g0 := zz.free
          have a0 := zz.cell (k := 0) rfl
          have a1 := zz.cell (k := 1) rfl
          have a2 := zz.cell (k := 2) rfl
          have a3 := zz.cell (k := 3) rfl
          have a4 := zz.cell (k := 4) rfl
          have y1 := Bx.but HI5.out.x1 hB6 (by omega)
          have b0 := y1.cell (k := 0) rfl
          have b1 := y1.cell (k := 1) rfl
          have b2 := y1.cell (k := 2) rfl
          have b3 := y1.cell (k := 3) rfl
          have b4 := y1.cell (k := 4) rfl
          clear y1 zz hB6
          go_wp2_with fail
          have z0 := HI6.out.x0
          rw [zN_get] at z0
          have hf := fin_put1 HI6.out.rd HI6.out.but z0 HI6.out.rep hbz hgz
          exact bodyPost_ret (v := .agg #[.int .i64 _, .int .i64 _, .string _, .int .u32 _, .slice _ _ _]) (results_cell_row (fn := Tryd.f100) rfl _ _ w.heap.size 27 _ (0, 0) _ rfl hf.1 Tryd.underlying27 rfl info_nd) rfl (hf.2 q HE.out.1 HE.out.2)
        · rw [if_neg h4] at HEQ
          have h4f : (lv == 4) = false := by simpa using h4
          clear h4
          go_wp2_with fail
          have hMO := HMO.out
          rw [HE1.out] at hMO
          have hEQ := HEQ.out
          rw [HE1.out, HE2.out] at hEQ
          have HI6 := HP.out m q (by have h1 := hMO.v.i; have h2 := hRr.out.lt; rw [if_pos HRE.out] at hm; rcases hMO.o with ho | ho <;> (split <;> omega)) hEQ
          exact ⟨⟨_, _, _, _, _, _, _, _, _, _, HI6⟩, mea_lt hRr.out HI6.rd HRE.out hMO⟩
      · rw [if_neg (fun h => hq h.2)] at HEQ
        have HE := hide HEQ.out
        have hqf : (lvOf (tk L r').t == lv) = false := by simpa using hq
        generalize lvOf (tk L r').t = lq at hlv hqf
        generalize tk L r' = tt at hn hlv
        obtain ⟨tk_, ta, tx, tv⟩ := tt
        simp only [tA] at hn hlv
        have f2 := fk2 tk_ ta tv (S tx)
        clear hR hq
        go_wp2_with fail
        refine hn.mono ?_
        rintro e w5 ⟨rfl, hb5⟩
        have HI5 := hide (HI.out.below hb5 hbz)
        clear hn hb5
        have z0 := HI5.out.x0
        rw [zN_get] at z0
        have z1 := HI5.out.x1
        have f0 := z0.free
        have a0 := z0.cell (k := 0) rfl
        have a1 := z0.cell (k := 1) rfl
        have a2 := z0.cell (k := 2) rfl
        have a3 := z0.cell (k := 3) rfl
        have a4 := z0.cell (k := 4) rfl
        have b0 := z1.cell (k := 0) rfl
        have b1 := z1.cell (k := 1) rfl
        have b2 := z1.cell (k := 2) rfl
        have b3 := z1.cell (k := 3) rfl
        have b4 := z1.cell (k := 4) rfl
        have l0 := z0.lt
        have l1 := z1.lt
        replace z0 := hide z0
        clear z1
        go_wp2_with (go_at_call 110; refine (hlv _).mono ?_; rintro e w9 ⟨rfl, h9⟩; rw [h9]; clear h9)
        have hf := fin_put1 HI5.out.rd HI5.out.but z0.out HI5.out.rep hbz hgz
        exact bodyPost_ret (v := .agg #[.int .i64 _, .int .i64 _, .string _, .int .u32 _, .slice _ _ _]) (results_cell_row (fn := Tryd.f100) rfl _ _ w.heap.size 27 _ (0, 0) _ rfl hf.1 Tryd.underlying27 rfl info_nd) rfl (hf.2 q (by rw [HE.out]) (by rw [HE.out]))
    · rw [if_neg (fun h => he h.1)] at HEQ
      have HE := hide HEQ.out
      clear hR
      have z0 := HI.out.x0
      rw [zN_get] at z0
      have z1 := HI.out.x1
      have f0 := z0.free
      have a0 := z0.cell (k := 0) rfl
      have a1 := z0.cell (k := 1) rfl
      have a2 := z0.cell (k := 2) rfl
      have a3 := z0.cell (k := 3) rfl
      have a4 := z0.cell (k := 4) rfl
      have b0 := z1.cell (k := 0) rfl
      have b1 := z1.cell (k := 1) rfl
      have b2 := z1.cell (k := 2) rfl
      have b3 := z1.cell (k := 3) rfl
      have b4 := z1.cell (k := 4) rfl
      have l0 := z0.lt
      have l1 := z1.lt
      replace z0 := hide z0
      clear z1
      go_wp2_with fail
      have hf := fin_put1 HI.out.rd HI.out.but z0.out HI.out.rep hbz hgz
      exact bodyPost_ret (v := .agg #[.int .i64 _, .int .i64 _, .string _, .int .u32 _, .slice _ _ _]) (results_cell_row (fn := Tryd.f100) rfl _ _ w.heap.size 27 _ (0, 0) _ rfl hf.1 Tryd.underlying27 rfl info_nd) rfl (hf.2 q (by rw [HE.out]) (by rw [HE.out]))

end
end Go.Proofs.YtimiglepogeeiaaDoor.Parse

