/- For every addresses and lengths the statement ClockBetween returns true: what is missed of an instruction hangs on the one ahead of it alone.
Conditions: none. -/
import Derived.Test.YthbleghkkhhcbaaRows
import Derived.WalkKit
import Derived.ProofKit
import Derived.OpenShut
import Derived.Test.YthbleghkkhhcbaaEnds
import Derived.Test.YthbleghkkhhcbaaClockWalks
import Derived.Test.YthbleghkkhhcbaaArgs
namespace Go.Proofs.Ythbleghkkhhcbaa.clockBetween
open Go.ChangeShapes Go.WideShapes Go.ChangeAt Go.RowKit
set_option linter.unusedVariables false

theorem own : ownKnob Try.prog.godebug = none := by kernel_rfl
theorem laidOut : laidOutB Try.prog = true := by kernel_rfl
theorem put_box {w2 : World} {B : Nat} {u v p q : Value} {t : TypeId} {cs : Array Value} (h : B < w2.heap.size) (d0 : w2.cell? ⟨B, 0, none⟩ = some p) (d1 : w2.cell? ⟨B, 1, none⟩ = some q) (f0 : w2.frozen? ⟨B, 0, none⟩ = false) (f1 : w2.frozen? ⟨B, 1, none⟩ = false) :
    B < (((w2.setCell ⟨B, 0, none⟩ u).setCell ⟨B, 1, none⟩ v).alloc (.cells cs t)).heap.size ∧ (((w2.setCell ⟨B, 0, none⟩ u).setCell ⟨B, 1, none⟩ v).alloc (.cells cs t)).cell? ⟨B, 0, none⟩ = some u ∧ (((w2.setCell ⟨B, 0, none⟩ u).setCell ⟨B, 1, none⟩ v).alloc (.cells cs t)).cell? ⟨B, 1, none⟩ = some v ∧
      (((w2.setCell ⟨B, 0, none⟩ u).setCell ⟨B, 1, none⟩ v).alloc (.cells cs t)).frozen? ⟨B, 0, none⟩ = false ∧ (((w2.setCell ⟨B, 0, none⟩ u).setCell ⟨B, 1, none⟩ v).alloc (.cells cs t)).frozen? ⟨B, 1, none⟩ = false := by
  refine ⟨by simp; omega, by simp [go_sem, h, d0], by simp [go_sem, h, d1], by simp [go_sem, h, f0], by simp [go_sem, h, f1]⟩
theorem put_two {w2 : World} {B : Nat} {u v p q : Value} (h : B < w2.heap.size) (d0 : w2.cell? ⟨B, 0, none⟩ = some p) (d1 : w2.cell? ⟨B, 1, none⟩ = some q) (f0 : w2.frozen? ⟨B, 0, none⟩ = false) (f1 : w2.frozen? ⟨B, 1, none⟩ = false) :
    B < ((w2.setCell ⟨B, 0, none⟩ u).setCell ⟨B, 1, none⟩ v).heap.size ∧ ((w2.setCell ⟨B, 0, none⟩ u).setCell ⟨B, 1, none⟩ v).cell? ⟨B, 0, none⟩ = some u ∧ ((w2.setCell ⟨B, 0, none⟩ u).setCell ⟨B, 1, none⟩ v).cell? ⟨B, 1, none⟩ = some v ∧
      ((w2.setCell ⟨B, 0, none⟩ u).setCell ⟨B, 1, none⟩ v).frozen? ⟨B, 0, none⟩ = false ∧ ((w2.setCell ⟨B, 0, none⟩ u).setCell ⟨B, 1, none⟩ v).frozen? ⟨B, 1, none⟩ = false := by
  refine ⟨by simp; omega, by simp [go_sem, d0], by simp [go_sem, d1], by simp [go_sem, f0], by simp [go_sem, f1]⟩
theorem frz {w2 : World} {B i : Nat} {o : Obj} (h : B < w2.heap.size) (f0 : w2.frozen? ⟨B, i, none⟩ = false) : (w2.alloc o).frozen? ⟨B, i, none⟩ = false := by
  simp [go_sem, h, f0]
/-- The size of the k-th instruction; what the buffer holds ahead of it. -/
def sz (B : Nat → Bool) (k : Nat) : Int := if B k then 4 else 2
def Has (z : List Int) (B : Nat → Bool) (k : Nat) (fl : Bool) (l : Int) : Prop := (k = 0 ∧ fl = false) ∨ (0 < k ∧ fl = true ∧ l = Clock.lst (z.getD (k - 1) 0) (sz B (k - 1)))
theorem sz_or (B : Nat → Bool) (k : Nat) : sz B k = 2 ∨ sz B k = 4 := by unfold sz; split <;> simp
theorem sz_yes {B : Nat → Bool} {k : Nat} (h : B k = true) : sz B k = 4 := by unfold sz; rw [if_pos h]
theorem sz_no {B : Nat → Bool} {k : Nat} (h : B k = false) : sz B k = 2 := by unfold sz; rw [if_neg (by simp [h])]
theorem at_bd {w : World} {p : Option Addr} {n cap : Nat} {z : List Int} (h : Args.Ints w .u32 p n cap z) (k : Nat) : 0 ≤ z.getD k 0 ∧ z.getD k 0 < 4294967296 := by
  have := range_u32 h.wf k
  rw [List.getD_eq_getElem?_getD]; omega
theorem btw_of {a s c t : Int} (hs : s = 2 ∨ s = 4) (ht : t = 2 ∨ t = 4) : Clock.btw a s c t = Clock.mss true (Clock.lst a s) c t := by unfold Clock.btw; rw [if_pos ⟨hs, ht⟩]
theorem ints_cell {w wr : World} {p : Option Addr} {n cap : Nat} {z : List Int} (h : Args.Ints w .u32 p n cap z) (hb : Below w.heap.size w wr) {k : Nat} (hk : k < n) : ∃ b off, p = some ⟨b, off, none⟩ ∧ ∀ j, j < n → wr.cell? ⟨b, off + j, none⟩ = some (.int .u32 (z.getD j 0)) := by
  rcases h.cells with h0 | ⟨b, off, h1, h2, h3⟩
  · have := h.le; omega
  · exact ⟨b, off, h1, fun j hj => by rw [hb.cell (p := ⟨b, off + j, none⟩) h2]; exact h3 j (by have := h.le; omega)⟩
theorem bools_cell {w wr : World} {p : Option Addr} {n cap : Nat} {z : Nat → Bool} (h : Args.Bools w p n cap z) (hb : Below w.heap.size w wr) {k : Nat} (hk : k < n) : ∃ b off, p = some ⟨b, off, none⟩ ∧ ∀ j, j < n → wr.cell? ⟨b, off + j, none⟩ = some (.bool (z j)) := by
  rcases h.cells with h0 | ⟨b, off, h1, h2, h3⟩
  · have := h.le; omega
  · exact ⟨b, off, h1, fun j hj => by rw [hb.cell (p := ⟨b, off + j, none⟩) h2]; exact h3 j (by have := h.le; omega)⟩

set_option maxHeartbeats 2000000 in
theorem walk (q0 : Option Addr) (n0 c0 : Nat) (z0 : List Int) (q1 : Option Addr) (n1 c1 : Nat) (z1 : Nat → Bool) (w : World) (w0 : Args.Ints w .u32 q0 n0 c0 z0) (w1 : Args.Bools w  q1 n1 c1 z1) :
    Calls Try.prog 4 #[.slice q0 n0 c0, .slice q1 n1 c1] w fun e w' => e = .returned (.bool true) ∧ Below w.heap.size w w' := by
  by_cases hn : 60 < n0
  · go_enter Try.func4, Try.ntmps4
    go_wp2_with fail
    refine (Clock.anchor_any _).mono ?_
    rintro e v1 ⟨rfl, hb1⟩
    go_wp2_with fail
    go_ret
    exact ⟨rfl, hb1⟩
  by_cases ha : n1 < n0
  · go_enter Try.func4, Try.ntmps4
    go_wp2_with fail
    refine (Clock.anchor_any _).mono ?_
    rintro e v1 ⟨rfl, hb1⟩
    go_wp2_with fail
    go_ret
    exact ⟨rfl, hb1⟩
  go_enter Try.func4, Try.ntmps4
  go_wp2_with fail
  refine (Clock.anchor_any _).mono ?_
  rintro e v1 ⟨rfl, hb1⟩
  go_wp2_with fail
  have hbw := hb1.alloc hb1.size (.cells #[.bool false, .int .u32 0] 25)
  go_loopw [27] (fun i wr => ∃ (k : Nat) (l : Int) (fl : Bool), k ≤ n0 ∧ i = .int .i64 k ∧ Below w.heap.size w wr ∧ v1.heap.size < wr.heap.size ∧ wr.cell? ⟨v1.heap.size, 0, none⟩ = some (.bool fl) ∧ wr.cell? ⟨v1.heap.size, 1, none⟩ = some (.int .u32 l) ∧ wr.frozen? ⟨v1.heap.size, 0, none⟩ = false ∧ wr.frozen? ⟨v1.heap.size, 1, none⟩ = false ∧ Hid (Has z0 z1 k fl l)) (fun i _ => n0 - (intOf i).toNat)
  case atStart => exact ⟨0, 0, false, by omega, rfl, hbw, by simp, by simp, by simp, by simp [go_sem], by simp [go_sem], .inl ⟨rfl, rfl⟩⟩
  case round =>
    obtain ⟨k, l, fl, hk, rfl, hb, hsz, g0, g1, f0, f1, HR⟩ := hrel
    by_cases hlt : k < n0
    · obtain ⟨b, off, rfl, hea⟩ := ints_cell w0 hb hlt
      obtain ⟨b2, off2, rfl, heb⟩ := bools_cell w1 hb (k := k) (by omega)
      have hce := hea k hlt
      have hcb := heb k (by omega)
      have ab := at_bd w0 k
      rcases HR.out with ⟨rfl, rfl⟩ | ⟨h0, rfl, rfl⟩
      · clear hea heb HR
        rw [Nat.add_zero] at hce hcb
        generalize ha' : z0.getD 0 0 = a at *
        cases hz : z1 0
        · have HS : Hid (Has z0 z1 1 true (a / 16)) := .inr ⟨by decide, rfl, by rw [show 1 - 1 = 0 from rfl, sz_no hz, ha']; rfl⟩
          rw [hz] at hcb
          clear ha'
          go_wp2_with fail
          refine (Clock.Fetch_2 _ _ _ ab.1 ab.2 _).mono ?_
          rintro e' w2 ⟨rfl, hb2⟩
          obtain ⟨hc, hfz⟩ := Clock.bcell hb2
          have d0 := (hc _ 0 hsz).trans g0
          have d1 := (hc _ 1 hsz).trans g1
          have d2 := (hfz _ 0 hsz).trans f0
          have d3 := (hfz _ 1 hsz).trans f1
          have hsz2 := Nat.lt_of_lt_of_le hsz hb2.size
          have hb3 := Clock.next hb hb2
          clear hc hfz g0 g1 f0 f1 hb hb2
          go_wp2_with fail
          go_roundw
          case rel => obtain ⟨t0, t1, t2, t3, t4⟩ := put_box (u := .bool true) (v := .int .u32 (a / 16)) (t := 25) (cs := #[.bool true, .int .u32 (a / 16)]) hsz2 d0 d1 d2 d3; exact ⟨0 + 1, _, true, by omega, by go_num, (Clock.set2 hb3 hb1.size).alloc (Clock.set2 hb3 hb1.size).size _, t0, t1, t2, t3, t4, HS.out⟩
          case measure => simp [intOf]; omega
        · have HS : Hid (Has z0 z1 1 true ((a + 2) % 4294967296 / 16)) := .inr ⟨by decide, rfl, by rw [show 1 - 1 = 0 from rfl, sz_yes hz, ha']; rfl⟩
          rw [hz] at hcb
          clear ha'
          go_wp2_with fail
          refine (Clock.Fetch_4 _ _ _ ab.1 ab.2 _).mono ?_
          rintro e' w2 ⟨rfl, hb2⟩
          obtain ⟨hc, hfz⟩ := Clock.bcell hb2
          have d0 := (hc _ 0 hsz).trans g0
          have d1 := (hc _ 1 hsz).trans g1
          have d2 := (hfz _ 0 hsz).trans f0
          have d3 := (hfz _ 1 hsz).trans f1
          have hsz2 := Nat.lt_of_lt_of_le hsz hb2.size
          have hb3 := Clock.next hb hb2
          clear hc hfz g0 g1 f0 f1 hb hb2
          go_wp2_with fail
          go_roundw
          case rel => obtain ⟨t0, t1, t2, t3, t4⟩ := put_box (u := .bool true) (v := .int .u32 ((a + 2) % 4294967296 / 16)) (t := 25) (cs := #[.bool true, .int .u32 ((a + 2) % 4294967296 / 16)]) hsz2 d0 d1 d2 d3; exact ⟨0 + 1, _, true, by omega, by go_num, (Clock.set2 hb3 hb1.size).alloc (Clock.set2 hb3 hb1.size).size _, t0, t1, t2, t3, t4, HS.out⟩
          case measure => simp [intOf]; omega
      · obtain ⟨m, rfl⟩ : ∃ m, k = m + 1 := ⟨k - 1, by omega⟩
        have pce0 := hea m (by omega)
        have pcb0 := heb m (by omega)
        have pb := at_bd w0 m
        have hbl : b < wr.heap.size := Args.cell_lt hce
        have hbl2 : b2 < wr.heap.size := Args.cell_lt hcb
        clear hea heb HR
        rw [show m + 1 - 1 = m from rfl] at g1
        generalize ha' : z0.getD (m + 1) 0 = a at *
        generalize hp' : z0.getD m 0 = c at *
        cases hy : z1 m
        · rw [sz_no hy] at g1
          rw [hy] at pcb0
          cases hz : z1 (m + 1)
          · have HS : Hid (Has z0 z1 (m + 1 + 1) true (a / 16)) := .inr ⟨by omega, rfl, by rw [show m + 1 + 1 - 1 = m + 1 from rfl, sz_no hz, ha']; rfl⟩
            have HB : Hid (Clock.btw c 2 a 2 = Clock.ms true (Clock.lst c 2) a) := btw_of (by decide) (by decide)
            rw [hz] at hcb
            clear ha' hp'
            go_wp2_with fail
            refine (Clock.Fetch_2 _ _ _ ab.1 ab.2 _).mono ?_
            rintro e' w2 ⟨rfl, hb2⟩
            obtain ⟨hc, hfz⟩ := Clock.bcell hb2
            have d0 := (hc _ 0 hsz).trans g0
            have d1 := (hc _ 1 hsz).trans g1
            have d2 := (hfz _ 0 hsz).trans f0
            have d3 := (hfz _ 1 hsz).trans f1
            have hsz2 := Nat.lt_of_lt_of_le hsz hb2.size
            have hb3 := Clock.next hb hb2
            have pce := (hb2.cell (p := ⟨b, off + m, none⟩) hbl).trans pce0
            have pcb := (hb2.cell (p := ⟨b2, off2 + m, none⟩) hbl2).trans pcb0
            have hl1 : b < w2.heap.size := Args.cell_lt pce
            have hl2 : b2 < w2.heap.size := Args.cell_lt pcb
            clear hc hfz g0 g1 f0 f1 hb hb2 hce hcb pce0 pcb0
            go_wp2_with fail
            refine (Clock.Between_any c 2 a 2 pb.1 pb.2 ab.1 ab.2 (by decide) (by decide) (by decide) (by decide) _).mono ?_
            rintro e' w3 ⟨rfl, hb4⟩
            rw [HB.out]
            obtain ⟨hc, hfz⟩ := Clock.bcell hb4
            have u0 := (hc w2.heap.size 0 (by simp)).trans (World.cell?_alloc_at _ _ _ _ rfl)
            have u1 := (hc w2.heap.size 1 (by simp)).trans (World.cell?_alloc_at _ _ _ _ rfl)
            have t0 := (hc v1.heap.size 0 (by simp; omega)).trans ((World.cell?_alloc_past _ _ _ hsz2).trans d0)
            have t1 := (hc v1.heap.size 1 (by simp; omega)).trans ((World.cell?_alloc_past _ _ _ hsz2).trans d1)
            have t2 := (hfz v1.heap.size 0 (by simp; omega)).trans (frz hsz2 d2)
            have t3 := (hfz v1.heap.size 1 (by simp; omega)).trans (frz hsz2 d3)
            have hsz3 : v1.heap.size < w3.heap.size := by have := hb4.size; simp at this; omega
            have hb5 := Clock.next hb3 (Clock.next1 hb4)
            clear hc hfz hb4 hb3 d0 d1 d2 d3 hsz2 pce pcb HB
            go_wp2_with fail
            go_roundw
            case rel => obtain ⟨k0, k1, k2, k3, k4⟩ := put_two (u := .bool true) (v := .int .u32 (a / 16)) hsz3 t0 t1 t2 t3; exact ⟨m + 1 + 1, _, true, by omega, by go_num, Clock.set2 hb5 hb1.size, k0, k1, k2, k3, k4, HS.out⟩
            case measure => simp [intOf]; omega
          · have HS : Hid (Has z0 z1 (m + 1 + 1) true ((a + 2) % 4294967296 / 16)) := .inr ⟨by omega, rfl, by rw [show m + 1 + 1 - 1 = m + 1 from rfl, sz_yes hz, ha']; rfl⟩
            have HB : Hid (Clock.btw c 2 a 4 = Clock.ms true (Clock.lst c 2) a + Clock.ms true (a / 16) ((a + 2) % 4294967296)) := btw_of (by decide) (by decide)
            rw [hz] at hcb
            clear ha' hp'
            go_wp2_with fail
            refine (Clock.Fetch_4 _ _ _ ab.1 ab.2 _).mono ?_
            rintro e' w2 ⟨rfl, hb2⟩
            obtain ⟨hc, hfz⟩ := Clock.bcell hb2
            have d0 := (hc _ 0 hsz).trans g0
            have d1 := (hc _ 1 hsz).trans g1
            have d2 := (hfz _ 0 hsz).trans f0
            have d3 := (hfz _ 1 hsz).trans f1
            have hsz2 := Nat.lt_of_lt_of_le hsz hb2.size
            have hb3 := Clock.next hb hb2
            have pce := (hb2.cell (p := ⟨b, off + m, none⟩) hbl).trans pce0
            have pcb := (hb2.cell (p := ⟨b2, off2 + m, none⟩) hbl2).trans pcb0
            have hl1 : b < w2.heap.size := Args.cell_lt pce
            have hl2 : b2 < w2.heap.size := Args.cell_lt pcb
            clear hc hfz g0 g1 f0 f1 hb hb2 hce hcb pce0 pcb0
            go_wp2_with fail
            refine (Clock.Between_any c 2 a 4 pb.1 pb.2 ab.1 ab.2 (by decide) (by decide) (by decide) (by decide) _).mono ?_
            rintro e' w3 ⟨rfl, hb4⟩
            rw [HB.out]
            obtain ⟨hc, hfz⟩ := Clock.bcell hb4
            have u0 := (hc w2.heap.size 0 (by simp)).trans (World.cell?_alloc_at _ _ _ _ rfl)
            have u1 := (hc w2.heap.size 1 (by simp)).trans (World.cell?_alloc_at _ _ _ _ rfl)
            have t0 := (hc v1.heap.size 0 (by simp; omega)).trans ((World.cell?_alloc_past _ _ _ hsz2).trans d0)
            have t1 := (hc v1.heap.size 1 (by simp; omega)).trans ((World.cell?_alloc_past _ _ _ hsz2).trans d1)
            have t2 := (hfz v1.heap.size 0 (by simp; omega)).trans (frz hsz2 d2)
            have t3 := (hfz v1.heap.size 1 (by simp; omega)).trans (frz hsz2 d3)
            have hsz3 : v1.heap.size < w3.heap.size := by have := hb4.size; simp at this; omega
            have hb5 := Clock.next hb3 (Clock.next1 hb4)
            clear hc hfz hb4 hb3 d0 d1 d2 d3 hsz2 pce pcb HB
            go_wp2_with fail
            go_roundw
            case rel => obtain ⟨k0, k1, k2, k3, k4⟩ := put_two (u := .bool true) (v := .int .u32 ((a + 2) % 4294967296 / 16)) hsz3 t0 t1 t2 t3; exact ⟨m + 1 + 1, _, true, by omega, by go_num, Clock.set2 hb5 hb1.size, k0, k1, k2, k3, k4, HS.out⟩
            case measure => simp [intOf]; omega
        · rw [sz_yes hy] at g1
          rw [hy] at pcb0
          cases hz : z1 (m + 1)
          · have HS : Hid (Has z0 z1 (m + 1 + 1) true (a / 16)) := .inr ⟨by omega, rfl, by rw [show m + 1 + 1 - 1 = m + 1 from rfl, sz_no hz, ha']; rfl⟩
            have HB : Hid (Clock.btw c 4 a 2 = Clock.ms true (Clock.lst c 4) a) := btw_of (by decide) (by decide)
            rw [hz] at hcb
            clear ha' hp'
            go_wp2_with fail
            refine (Clock.Fetch_2 _ _ _ ab.1 ab.2 _).mono ?_
            rintro e' w2 ⟨rfl, hb2⟩
            obtain ⟨hc, hfz⟩ := Clock.bcell hb2
            have d0 := (hc _ 0 hsz).trans g0
            have d1 := (hc _ 1 hsz).trans g1
            have d2 := (hfz _ 0 hsz).trans f0
            have d3 := (hfz _ 1 hsz).trans f1
            have hsz2 := Nat.lt_of_lt_of_le hsz hb2.size
            have hb3 := Clock.next hb hb2
            have pce := (hb2.cell (p := ⟨b, off + m, none⟩) hbl).trans pce0
            have pcb := (hb2.cell (p := ⟨b2, off2 + m, none⟩) hbl2).trans pcb0
            have hl1 : b < w2.heap.size := Args.cell_lt pce
            have hl2 : b2 < w2.heap.size := Args.cell_lt pcb
            clear hc hfz g0 g1 f0 f1 hb hb2 hce hcb pce0 pcb0
            go_wp2_with fail
            refine (Clock.Between_any c 4 a 2 pb.1 pb.2 ab.1 ab.2 (by decide) (by decide) (by decide) (by decide) _).mono ?_
            rintro e' w3 ⟨rfl, hb4⟩
            rw [HB.out]
            obtain ⟨hc, hfz⟩ := Clock.bcell hb4
            have u0 := (hc w2.heap.size 0 (by simp)).trans (World.cell?_alloc_at _ _ _ _ rfl)
            have u1 := (hc w2.heap.size 1 (by simp)).trans (World.cell?_alloc_at _ _ _ _ rfl)
            have t0 := (hc v1.heap.size 0 (by simp; omega)).trans ((World.cell?_alloc_past _ _ _ hsz2).trans d0)
            have t1 := (hc v1.heap.size 1 (by simp; omega)).trans ((World.cell?_alloc_past _ _ _ hsz2).trans d1)
            have t2 := (hfz v1.heap.size 0 (by simp; omega)).trans (frz hsz2 d2)
            have t3 := (hfz v1.heap.size 1 (by simp; omega)).trans (frz hsz2 d3)
            have hsz3 : v1.heap.size < w3.heap.size := by have := hb4.size; simp at this; omega
            have hb5 := Clock.next hb3 (Clock.next1 hb4)
            clear hc hfz hb4 hb3 d0 d1 d2 d3 hsz2 pce pcb HB
            go_wp2_with fail
            go_roundw
            case rel => obtain ⟨k0, k1, k2, k3, k4⟩ := put_two (u := .bool true) (v := .int .u32 (a / 16)) hsz3 t0 t1 t2 t3; exact ⟨m + 1 + 1, _, true, by omega, by go_num, Clock.set2 hb5 hb1.size, k0, k1, k2, k3, k4, HS.out⟩
            case measure => simp [intOf]; omega
          · have HS : Hid (Has z0 z1 (m + 1 + 1) true ((a + 2) % 4294967296 / 16)) := .inr ⟨by omega, rfl, by rw [show m + 1 + 1 - 1 = m + 1 from rfl, sz_yes hz, ha']; rfl⟩
            have HB : Hid (Clock.btw c 4 a 4 = Clock.ms true (Clock.lst c 4) a + Clock.ms true (a / 16) ((a + 2) % 4294967296)) := btw_of (by decide) (by decide)
            rw [hz] at hcb
            clear ha' hp'
            go_wp2_with fail
            refine (Clock.Fetch_4 _ _ _ ab.1 ab.2 _).mono ?_
            rintro e' w2 ⟨rfl, hb2⟩
            obtain ⟨hc, hfz⟩ := Clock.bcell hb2
            have d0 := (hc _ 0 hsz).trans g0
            have d1 := (hc _ 1 hsz).trans g1
            have d2 := (hfz _ 0 hsz).trans f0
            have d3 := (hfz _ 1 hsz).trans f1
            have hsz2 := Nat.lt_of_lt_of_le hsz hb2.size
            have hb3 := Clock.next hb hb2
            have pce := (hb2.cell (p := ⟨b, off + m, none⟩) hbl).trans pce0
            have pcb := (hb2.cell (p := ⟨b2, off2 + m, none⟩) hbl2).trans pcb0
            have hl1 : b < w2.heap.size := Args.cell_lt pce
            have hl2 : b2 < w2.heap.size := Args.cell_lt pcb
            clear hc hfz g0 g1 f0 f1 hb hb2 hce hcb pce0 pcb0
            go_wp2_with fail
            refine (Clock.Between_any c 4 a 4 pb.1 pb.2 ab.1 ab.2 (by decide) (by decide) (by decide) (by decide) _).mono ?_
            rintro e' w3 ⟨rfl, hb4⟩
            rw [HB.out]
            obtain ⟨hc, hfz⟩ := Clock.bcell hb4
            have u0 := (hc w2.heap.size 0 (by simp)).trans (World.cell?_alloc_at _ _ _ _ rfl)
            have u1 := (hc w2.heap.size 1 (by simp)).trans (World.cell?_alloc_at _ _ _ _ rfl)
            have t0 := (hc v1.heap.size 0 (by simp; omega)).trans ((World.cell?_alloc_past _ _ _ hsz2).trans d0)
            have t1 := (hc v1.heap.size 1 (by simp; omega)).trans ((World.cell?_alloc_past _ _ _ hsz2).trans d1)
            have t2 := (hfz v1.heap.size 0 (by simp; omega)).trans (frz hsz2 d2)
            have t3 := (hfz v1.heap.size 1 (by simp; omega)).trans (frz hsz2 d3)
            have hsz3 : v1.heap.size < w3.heap.size := by have := hb4.size; simp at this; omega
            have hb5 := Clock.next hb3 (Clock.next1 hb4)
            clear hc hfz hb4 hb3 d0 d1 d2 d3 hsz2 pce pcb HB
            go_wp2_with fail
            go_roundw
            case rel => obtain ⟨k0, k1, k2, k3, k4⟩ := put_two (u := .bool true) (v := .int .u32 ((a + 2) % 4294967296 / 16)) hsz3 t0 t1 t2 t3; exact ⟨m + 1 + 1, _, true, by omega, by go_num, Clock.set2 hb5 hb1.size, k0, k1, k2, k3, k4, HS.out⟩
            case measure => simp [intOf]; omega
    · have hk2 : k = n0 := by omega
      subst hk2
      go_wp2_with fail
      refine (Clock.Between_any 0 3 0 2 (by decide) (by decide) (by decide) (by decide) (by decide) (by decide) (by decide) (by decide) _).mono ?_
      rintro e' w2 ⟨rfl, hb2⟩
      rw [show Clock.btw 0 3 0 2 = 0 by decide]
      go_wp2_with fail
      refine (Clock.Between_any 0 2 0 1 (by decide) (by decide) (by decide) (by decide) (by decide) (by decide) (by decide) (by decide) _).mono ?_
      rintro e' w3 ⟨rfl, hb3⟩
      rw [show Clock.btw 0 2 0 1 = 0 by decide]
      go_wp2_with fail
      go_ret
      exact ⟨by simp, Clock.next hb (Clock.next hb2 hb3)⟩

set_option maxRecDepth 100000 in
theorem lifted (os : Os) (started : os.Started) (H : Type) (enc : TypeId × Value → H) :
    ReturnsInHanded {} Try.checked os 4 .any (Rows.clockBetweenSpec.pre6 enc Try.prog Try.f4 Rows.clockBetweenRow.domain false) (Rows.clockBetweenSpec.post enc Try.prog Try.f4 false true false false) := by
  refine returnsInHanded_of_change (C := Try.checked) own started (by kernel_rfl) Try.func4
    (ChangeSpec.witness6 (enc := enc) (C := Try.checked) false ⟨#[], #[.slice none 0 0, .slice none 0 0], []⟩ 8 (by kernel_rfl) (by kernel_rfl) (by kernel_rfl) (by kernel_rfl)) ?_
  intro W base args ds gs before hval0 hW hcnd _
  have hval : ∀ (j : Nat) t v, Try.f4.params[j]? = some t → args[j]? = some v → Value.okWide Try.prog W .any base t v := hval0
  have hW' := hW
  obtain ⟨p, q, hA0, hV, rfl, hfz, hnd⟩ := hW
  have hA : DataW.TrodAll enc Try.prog W 0 (fun _ => true) true Try.f4.params.toList args.toList ds p := hA0
  rw [Try.params4] at hA hval
  obtain ⟨v0, vs0, d0, ds0, p0, q0, hargs, rfl, rfl, h0, r0⟩ := trodAll_cons hA
  obtain ⟨v1, vs1, d1, ds1, p1, q1, rfl, rfl, rfl, h1, r1⟩ := trodAll_cons r0
  obtain ⟨rfl, rfl, rfl⟩ := trodAll_nil r1
  obtain rfl : args = #[v0, v1] := by cases args; simp_all
  obtain ⟨rfl, rfl⟩ := trodVars_none hV
  have k0 := h0
  obtain ⟨q0, n0, c0, z0, rfl, w0⟩ := Args.open_ints Try.underlying30 Try.underlying22 (by kernel_rfl) (hval 0 30 v0 rfl rfl) h0
  have k1 := h1
  obtain ⟨q1, n1, c1, z1, rfl, w1⟩ := Args.open_bools Try.underlying34 Try.underlying4 (by kernel_rfl) (hval 1 34 v1 rfl rfl) h1
  clear hA0 hval0
  simp only [List.append_nil] at hW'
  try simp only [List.nil_append] at hW'
  have hlt : ∀ x, x ∈ (p0 ++ p1 : List MemPlace) → x.block < W.heap.size := fun x hx => by simpa using hW'.lt x hx
  refine (walk q0 n0 c0 z0 q1 n1 c1 z1 W w0 w1).mono fun e W' ⟨he, hg⟩ => ?_
  subst he
  exact ⟨_, rfl, Ends.post_of_below (pv := []) hW' (fun _ _ _ => (trodAll_cons_mk (shut_bool Try.underlying4 _) trodAll_mk0)) (trodAll_cons_mk (Below.trod laidOut (by kernel_rfl) (of_decide_eq_true (by kernel_rfl)) k0 hg (fun x hx => hlt x (by simp [hx]))) (trodAll_cons_mk (Below.trod laidOut (by kernel_rfl) (of_decide_eq_true (by kernel_rfl)) k1 hg (fun x hx => hlt x (by simp [hx]))) trodAll_mk0)) (fun _ _ => rfl) (by simp)
    (hg.frame _)⟩

theorem proved : Rows.ClockBetweenSaid :=
  OpenClaim.holds_of_wide 4 Try.f4 rfl rfl rfl rfl rfl rfl rfl ⟨rfl, rfl, rfl, rfl, rfl⟩ rfl rfl rfl rfl rfl (by kernel_rfl) Try.func4 (by kernel_rfl)
    (of_decide_eq_true (by kernel_rfl)) (by unfold Func.isWrapper; first | (rw [if_pos (by decide +kernel)]; kernel_rfl) | (rw [if_neg (by decide +kernel)]; exact ⟨rfl, rfl⟩))
    (fun os started H enc _ => lifted os started H enc)
#print axioms proved
end Go.Proofs.Ythbleghkkhhcbaa.clockBetween
