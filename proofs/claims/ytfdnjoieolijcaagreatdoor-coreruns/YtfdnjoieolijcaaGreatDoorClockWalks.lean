/- What the functions of package clock that fetch and divide answer: contracts. -/
import Derived.Test.YtfdnjoieolijcaaGreatDoorAluAll
import Derived.Below
set_option linter.unusedVariables false
namespace Go.Proofs.YtfdnjoieolijcaaGreatDoor.Clock
open Go.RowKit Go.Proofs.YtfdnjoieolijcaaGreatDoor.Alu

theorem bcell {W w1 : World} (hb : Below W.heap.size W w1) : (∀ b o, b < W.heap.size → w1.cell? ⟨b, o, none⟩ = W.cell? ⟨b, o, none⟩) ∧ (∀ b o, b < W.heap.size → w1.frozen? ⟨b, o, none⟩ = W.frozen? ⟨b, o, none⟩) :=
  ⟨fun b o h => hb.cell (p := ⟨b, o, none⟩) h, fun b o h => hb.frozen (p := ⟨b, o, none⟩) h⟩
theorem next {W w1 w2 : World} (h1 : Below W.heap.size W w1) (h2 : Below w1.heap.size w1 w2) : Below W.heap.size W w2 := h1.trans (h2.mono h1.size)

theorem next2 {w w1 : World} {o p : Obj} (h : Below ((w.alloc o).alloc p).heap.size ((w.alloc o).alloc p) w1) : Below w.heap.size w w1 := next (((Below.refl _ _).alloc (Nat.le_refl _) _).alloc (by simp) _) h
theorem set2 {w w1 : World} {b : Nat} {u v : Value} (h : Below w.heap.size w w1) (hb : w.heap.size ≤ b) : Below w.heap.size w ((w1.setCell ⟨b, 0, none⟩ u).setCell ⟨b, 1, none⟩ v) := (h.setCell hb _).setCell hb _

theorem next1 {w w1 : World} {o : Obj} (h : Below (w.alloc o).heap.size (w.alloc o) w1) : Below w.heap.size w w1 := next ((Below.refl _ _).alloc (Nat.le_refl _) _) h

/-- How often a buffer misses a half. -/
def ms (fl : Bool) (l a : Int) : Int := if fl = true ∧ l = a / 16 then 0 else 1

theorem Line_any (a : Int) (ha : 0 ≤ a) (ha2 : a < 4294967296) (w : World) :
    Calls Tryz.prog 170 #[.int .u32 a] w fun e w' => e = .returned (.int .u32 (a / 16)) ∧ w' = w := by
  go_enter Tryz.func170, Tryz.ntmps170
  go_wp2
  go_ret
  exact ⟨rfl, rfl⟩

theorem fetchHalf_any (fl : Bool) (l a : Int) (ha : 0 ≤ a) (ha2 : a < 4294967296) (w : World) :
    Calls Tryz.prog 124 #[.agg #[.bool fl, .int .u32 l], .int .u32 a] w fun e w' => e = .returned (.tuple #[.agg #[.bool true, .int .u32 (a / 16)], .int .i64 (ms fl l a)]) ∧ Below w.heap.size w w' := by
  go_enter Tryz.func124, Tryz.ntmps124
  go_wp2_with (go_at_call 170; refine (Line_any _ ha ha2 _).mono ?_; rintro e w' ⟨rfl, rfl⟩)
  all_goals go_returns
  · exact ⟨by simp_all [ms], by go_grown⟩
  · exact ⟨by simp_all [ms], by go_grown⟩
  · exact ⟨by simp_all [ms], by go_grown⟩

/-- The line that is left behind, and the misses, of a size of 2 or 4. -/
def lst (a s : Int) : Int := if s = 4 then (a + 2) % 4294967296 / 16 else a / 16
def mss (fl : Bool) (l a s : Int) : Int := if s = 4 then ms fl l a + ms true (a / 16) ((a + 2) % 4294967296) else ms fl l a

theorem ms_bd (fl : Bool) (l a : Int) : 0 ≤ ms fl l a ∧ ms fl l a ≤ 1 := by unfold ms; split <;> omega
theorem mss_bd (fl : Bool) (l a s : Int) : 0 ≤ mss fl l a s ∧ mss fl l a s ≤ 2 := by
  have h1 := ms_bd fl l a
  have h2 := ms_bd true (a / 16) ((a + 2) % 4294967296)
  unfold mss; split <;> omega
theorem lst_bd (a s : Int) (ha : 0 ≤ a) (ha2 : a < 4294967296) : 0 ≤ lst a s ∧ lst a s < 268435456 := by unfold lst; split <;> omega

theorem Fetch_2 (fl : Bool) (l a : Int) (ha : 0 ≤ a) (ha2 : a < 4294967296) (w : World) :
    Calls Tryz.prog 76 #[.agg #[.bool fl, .int .u32 l], .int .u32 a, .int .i64 2] w fun e w' => e = .returned (.tuple #[.agg #[.bool true, .int .u32 (a / 16)], .int .i64 (ms fl l a)]) ∧ Below w.heap.size w w' := by
  go_enter Tryz.func76, Tryz.ntmps76
  go_wp2_with fail
  refine (fetchHalf_any _ _ _ ha ha2 _).mono ?_
  rintro e w1 ⟨rfl, hb1⟩
  obtain ⟨hc, hfz⟩ := bcell hb1
  go_wp2_with fail
  exact bodyPost_ret (v := .tuple #[.agg #[.bool true, .int .u32 (a / 16)], .int .i64 (ms fl l a)]) (by simp [results, Tryz.results76, go_sem, hc]) rfl ⟨rfl, set2 (next2 hb1) (by simp)⟩

theorem Fetch_4 (fl : Bool) (l a : Int) (ha : 0 ≤ a) (ha2 : a < 4294967296) (w : World) :
    Calls Tryz.prog 76 #[.agg #[.bool fl, .int .u32 l], .int .u32 a, .int .i64 4] w fun e w' => e = .returned (.tuple #[.agg #[.bool true, .int .u32 ((a + 2) % 4294967296 / 16)], .int .i64 (ms fl l a + ms true (a / 16) ((a + 2) % 4294967296))]) ∧ Below w.heap.size w w' := by
  have b1 := ms_bd fl l a
  have b2 := ms_bd true (a / 16) ((a + 2) % 4294967296)
  go_enter Tryz.func76, Tryz.ntmps76
  go_wp2_with fail
  refine (fetchHalf_any _ _ _ ha ha2 _).mono ?_
  rintro e w1 ⟨rfl, hb1⟩
  obtain ⟨hc, hfz⟩ := bcell hb1
  go_wp2_with fail
  refine (fetchHalf_any _ _ _ (by omega) (by omega) _).mono ?_
  rintro e w2 ⟨rfl, hb2⟩
  have hb3 := next hb1 (next1 hb2)
  clear hc hfz
  have hsz : w.heap.size + 1 < w2.heap.size := by have := hb3.size; simp at this; omega
  obtain ⟨hc, hfz⟩ := bcell hb3
  go_wp2_with fail
  exact bodyPost_ret (v := .tuple #[.agg #[.bool true, .int .u32 ((a + 2) % 4294967296 / 16)], .int .i64 (ms fl l a + ms true (a / 16) ((a + 2) % 4294967296))]) (by simp [results, Tryz.results76, go_sem, hc, hsz]) rfl ⟨rfl, (set2 (next2 hb3) (Nat.le_succ _)).alloc (set2 (next2 hb3) (Nat.le_succ _)).size _⟩

theorem Fetch_no (fl : Bool) (l a s : Int) (h2 : s ≠ 2) (h4 : s ≠ 4) (w : World) :
    Calls Tryz.prog 76 #[.agg #[.bool fl, .int .u32 l], .int .u32 a, .int .i64 s] w fun e w' => e = .returned (.tuple #[.agg #[.bool fl, .int .u32 l], .int .i64 0]) ∧ Below w.heap.size w w' := by
  go_enter Tryz.func76, Tryz.ntmps76
  go_wp2_with fail
  go_returns
  exact ⟨rfl, by go_grown⟩

theorem Fetch_any (fl : Bool) (l a s : Int) (hs : s = 2 ∨ s = 4) (ha : 0 ≤ a) (ha2 : a < 4294967296) (w : World) :
    Calls Tryz.prog 76 #[.agg #[.bool fl, .int .u32 l], .int .u32 a, .int .i64 s] w fun e w' => e = .returned (.tuple #[.agg #[.bool true, .int .u32 (lst a s)], .int .i64 (mss fl l a s)]) ∧ Below w.heap.size w w' := by
  rcases hs with rfl | rfl
  · exact Fetch_2 fl l a ha ha2 w
  · exact Fetch_4 fl l a ha ha2 w

/-- What Between answers. -/
def btw (a s c t : Int) : Int := if (s = 2 ∨ s = 4) ∧ (t = 2 ∨ t = 4) then mss true (lst a s) c t else 0

/-- What Div answers. -/
def dv (a b : Int) : Int := if b = 0 ∨ bitLen a.toNat < bitLen b.toNat then 2 else 3 + ((bitLen a.toNat : Int) - bitLen b.toNat) / 4

theorem Div_any (a b : Int) (ha : 0 ≤ a) (ha2 : a < 4294967296) (hb : 0 ≤ b) (hb2 : b < 4294967296) (w : World) :
    Calls Tryz.prog 205 #[.int .u32 a, .int .u32 b] w fun e w' => e = .returned (.int .i64 (dv a b)) ∧ w' = w := by
  have la := bitLen_le32 a.toNat (by omega)
  have lb := bitLen_le32 b.toNat (by omega)
  by_cases h1 : b = 0
  · have HD : Hid (dv a b = 2) := by unfold dv; exact if_pos (.inl h1)
    have e1 : (b == 0) = true := by simp [h1]
    clear h1
    go_enter Tryz.func205, Tryz.ntmps205
    go_wp2_with (go_at_call 202; refine (Len_any _ (by omega) (by omega) _).mono ?_; rintro e w' ⟨rfl, rfl⟩)
    go_ret
    exact ⟨ret_int HD.out.symm, rfl⟩
  have e1 : (b == 0) = false := by simp [h1]
  by_cases h2 : bitLen a.toNat < bitLen b.toNat
  · have HD : Hid (dv a b = 2) := by unfold dv; exact if_pos (.inr h2)
    clear h1
    go_enter Tryz.func205, Tryz.ntmps205
    go_wp2_with (go_at_call 202; refine (Len_any _ (by omega) (by omega) _).mono ?_; rintro e w' ⟨rfl, rfl⟩)
    go_ret
    exact ⟨ret_int HD.out.symm, rfl⟩
  have HD : Hid (dv a b = 3 + ((bitLen a.toNat : Int) - bitLen b.toNat) / 4) := by unfold dv; exact if_neg (fun h => h.elim h1 h2)
  clear h1
  go_enter Tryz.func205, Tryz.ntmps205
  go_wp2_with (go_at_call 202; refine (Len_any _ (by omega) (by omega) _).mono ?_; rintro e w' ⟨rfl, rfl⟩)
  go_ret
  exact ⟨ret_int (by rw [HD.out]), rfl⟩

def mi (l x : Int) : Int := if x = l then 0 else 1

theorem Misses_1 (b : Nat) (x l : Int) (hl : -1 ≤ l) (hl2 : l < 4294967296) (hx : 0 ≤ x) (hx2 : x < 4294967296) (w : World) (h0 : w.cell? ⟨b, 0, none⟩ = some (.int .u32 x)) :
    Calls Tryz.prog 43 #[.int .i64 l, .slice (some ⟨b, 0, none⟩) 1 1] w fun e w' => e = .returned (.tuple #[.int .i64 (mi l (x / 16)), .int .i64 (x / 16)]) ∧ w' = w := by
  go_enter Tryz.func43, Tryz.ntmps43
  go_wp2_with fail
  go_rounds 2
  all_goals
    go_ret2
    exact ⟨by simp_all [mi], rfl⟩

theorem Misses_2 (b : Nat) (x y l : Int) (hl : -1 ≤ l) (hl2 : l < 4294967296) (hx : 0 ≤ x) (hx2 : x < 4294967296) (hy : 0 ≤ y) (hy2 : y < 4294967296) (w : World) (h0 : w.cell? ⟨b, 0, none⟩ = some (.int .u32 x)) (h1 : w.cell? ⟨b, 1, none⟩ = some (.int .u32 y)) :
    Calls Tryz.prog 43 #[.int .i64 l, .slice (some ⟨b, 0, none⟩) 2 2] w fun e w' => e = .returned (.tuple #[.int .i64 (mi l (x / 16) + mi (x / 16) (y / 16)), .int .i64 (y / 16)]) ∧ w' = w := by
  go_enter Tryz.func43, Tryz.ntmps43
  go_wp2_with fail
  go_rounds 3
  all_goals
    go_ret2
    exact ⟨by simp_all [mi], rfl⟩

end Go.Proofs.YtfdnjoieolijcaaGreatDoor.Clock

