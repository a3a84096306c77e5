/- What each function of package inst answers where its table of shapes lies as it is laid: contracts. -/
import Derived.Test.YtegefbndpkbooaaDoorChecked
import Derived.Test.YtegefbndpkbooaaDoorImmWalks
import Derived.Test.YtegefbndpkbooaaDoorInstPre
import Derived.ProofKit
import Derived.Handy
import Derived.Outline
import Derived.Deep.Light
set_option linter.unusedVariables false
namespace Go.Proofs.YtegefbndpkbooaaDoor.Inst
open Go.RowKit Go.Proofs.YtegefbndpkbooaaDoor.Alu Go.Proofs.YtegefbndpkbooaaDoor.Imm

/-- The table of shapes lies in its block. -/
def Shs (w : World) : Prop := ∀ i : Nat, i ≤ 100 → w.cell? ⟨1, i, none⟩ = some (.int .i64 (shpL.getD i 0))

theorem Is_any (f : Int) (w : World) :
    Calls Tryd.prog 36 #[.int .i64 f] w fun e w' => e = .returned (.bool (isF f)) ∧ w' = w := by
  go_enter Tryd.func36, Tryd.ntmps36
  go_wp2
  all_goals
    go_ret
    exact ⟨ret_bool (by rw [Bool.eq_iff_iff]; simp [isF]; omega), rfl⟩

theorem Shape_any (f : Int) (w : World) (hS : Shs w) :
    Calls Tryd.prog 55 #[.int .i64 f] w fun e w' => e = .returned (.int .i64 (shp f)) ∧ w' = w := by
  have H0 : Hid (isF f = false → shp f = 0) := shp_no
  cases h : isF f
  · go_enter Tryd.func55, Tryd.ntmps55
    go_wp2_with (go_at_call 36; refine (Is_any _ _).mono ?_; rintro e w' ⟨rfl, rfl⟩)
    go_ret
    exact ⟨ret_int (H0.out h).symm, rfl⟩
  · have hb := isF_iff.1 h
    have hc : w.cell? ⟨1, f.toNat, none⟩ = some (.int .i64 (shpL.getD f.toNat 0)) := hS f.toNat (by omega)
    have HE : Hid (shpL.getD f.toNat 0 = shp f) := by unfold shp; rw [if_pos h]; exact rfl
    generalize shpL.getD f.toNat 0 = s at *
    go_enter Tryd.func55, Tryd.ntmps55
    go_wp2_with (go_at_call 36; refine (Is_any _ _).mono ?_; rintro e w' ⟨rfl, rfl⟩)
    go_ret
    exact ⟨ret_int HE.out, rfl⟩

theorem has_any (c r : Int) (hc : 0 ≤ c) (hc2 : c < 4294967296) (w : World) :
    Calls Tryd.prog 71 #[.int .u32 c, .int .i64 r] w fun e w' => e = .returned (.bool (cls c r)) ∧ w' = w := by
  go_enter Tryd.func71, Tryd.ntmps71
  go_wp2_with (go_at_call 73; refine (Bit_any _ _ hc hc2 _).mono ?_; rintro e w' ⟨rfl, rfl⟩)
  go_ret
  exact ⟨ret_bool (by rw [Bool.eq_iff_iff]; simp [cls]), rfl⟩

theorem in_any (f rd rn rm ra im kd bs st cd rg a b c d : Int) (ha : 0 ≤ a ∧ a < 4294967296) (hb : 0 ≤ b ∧ b < 4294967296) (hc : 0 ≤ c ∧ c < 4294967296) (hd : 0 ≤ d ∧ d < 4294967296) (w : World) :
    Calls Tryd.prog 56 #[.agg #[.int .i64 f, .int .i64 rd, .int .i64 rn, .int .i64 rm, .int .i64 ra, .int .i64 im, .int .i64 kd, .int .i64 bs, .int .i64 st, .int .i64 cd, .int .i64 rg], .int .u32 a, .int .u32 b, .int .u32 c, .int .u32 d] w fun e w' => e = .returned (.bool (inB a b c d rd rn rm ra)) ∧ Below w.heap.size w w' := by
  go_enter Tryd.func56, Tryd.ntmps56
  go_wp2_with (go_at_call 71; refine (has_any _ _ (by omega) (by omega) _).mono ?_; rintro e w' ⟨rfl, rfl⟩)
  all_goals
    go_ret
    exact ⟨ret_bool (by simp [inB, *]), (Below.refl _ _).alloc (Nat.le_refl _) _⟩

theorem Low_any (r : Int) (w : World) :
    Calls Tryd.prog 57 #[.int .i64 r] w fun e w' => e = .returned (.bool (low r)) ∧ w' = w := by
  go_enter Tryd.func57, Tryd.ntmps57
  go_wp2
  all_goals
    go_ret
    exact ⟨ret_bool (by rw [Bool.eq_iff_iff]; simp [low]; omega), rfl⟩

theorem tmod_zero (n k : Int) : n.tmod k = 0 ↔ n % k = 0 := by rw [← Int.dvd_iff_tmod_eq_zero, ← Int.dvd_iff_emod_eq_zero]

theorem steps_any (n a b k : Int) (hk : k = 1 ∨ k = 2 ∨ k = 4) (w : World) :
    Calls Tryd.prog 58 #[.int .i64 n, .int .i64 a, .int .i64 b, .int .i64 k] w fun e w' => e = .returned (.bool (stp n a b k)) ∧ w' = w := by
  rcases hk with rfl | rfl | rfl
  all_goals
    go_enter Tryd.func58, Tryd.ntmps58
    go_wp2
    all_goals
      go_ret
      exact ⟨ret_bool (by rw [Bool.eq_iff_iff]; simp [stp, tmod_zero]; omega), rfl⟩

theorem someOf_any (l m : Int) (w : World) :
    Calls Tryd.prog 61 #[.int .i64 l, .int .i64 m] w fun e w' => e = .returned (.bool (som l m)) ∧ w' = w := by
  go_enter Tryd.func61, Tryd.ntmps61
  go_wp2
  all_goals
    go_ret
    exact ⟨ret_bool (by rw [Bool.eq_iff_iff]; simp [som, *]), rfl⟩

theorem hasWord_any (n : Int) (w : World) (hF : Fac w) :
    Calls Tryd.prog 59 #[.int .i64 n] w fun e w' => e = .returned (.bool (wrd n)) ∧ w' = w := by
  go_enter Tryd.func59, Tryd.ntmps59
  go_wp2_with (go_at_call 72; refine (Word_any _ _ hF).mono ?_; rintro e w' ⟨rfl, rfl⟩)
  go_ret
  exact ⟨ret_bool (by rw [Bool.eq_iff_iff]; simp [wrd]), rfl⟩

/-- What a call reads of the program's own tables. -/
structure Laid (w : World) : Prop where
  fac : Fac w
  shs : Shs w

theorem cell_lt {w : World} {b o : Nat} {v : Value} (h : w.cell? ⟨b, o, none⟩ = some v) : b < w.heap.size := by
  rcases Nat.lt_or_ge b w.heap.size with h' | h'
  · exact h'
  · simp [World.cell?, Array.getElem?_eq_none h'] at h

theorem Laid.below {w w' : World} (h : Laid w) (hb : Below w.heap.size w w') : Laid w' := by
  have f0 := cell_lt h.fac.c0
  have s0 := cell_lt (h.shs 0 (by omega))
  exact ⟨⟨(hb.cell (p := ⟨2, 0, none⟩) f0).trans h.fac.c0, (hb.cell (p := ⟨2, 1, none⟩) f0).trans h.fac.c1, (hb.cell (p := ⟨2, 2, none⟩) f0).trans h.fac.c2, (hb.cell (p := ⟨2, 3, none⟩) f0).trans h.fac.c3⟩,
    fun i hi => (hb.cell (p := ⟨1, i, none⟩) s0).trans (h.shs i hi)⟩
theorem Laid.alloc {w : World} (h : Laid w) (o : Obj) : Laid (w.alloc o) := h.below ((Below.refl _ _).alloc (Nat.le_refl _) o)

set_option maxHeartbeats 1000000 in
theorem registersRight_any (f rd rn rm ra im kd bs st cd rg : Int) (w : World) (hL : Laid w) :
    Calls Tryd.prog 44 #[.agg #[.int .i64 f, .int .i64 rd, .int .i64 rn, .int .i64 rm, .int .i64 ra, .int .i64 im, .int .i64 kd, .int .i64 bs, .int .i64 st, .int .i64 cd, .int .i64 rg]] w fun e w' => e = .returned (.bool (regR (shp f) rd rn rm ra)) ∧ Below w.heap.size w w' := by
  go_enter Tryd.func44, Tryd.ntmps44
  go_wp2_with fail
  refine (Shape_any _ _ (hL.alloc _).shs).mono ?_
  rintro e w' ⟨rfl, rfl⟩
  go_wp2_with (go_at_call 56; refine (in_any _ _ _ _ _ _ _ _ _ _ _ _ _ _ _ (by decide) (by decide) (by decide) (by decide) _).mono ?_; rintro e w' ⟨rfl, hb⟩)
  all_goals
    go_ret
    exact ⟨ret_bool (by go_light; rw [Bool.eq_iff_iff]; simp_all [regR]), ((Below.refl _ _).alloc (Nat.le_refl _) _).trans (hb.mono (by simp))⟩

theorem pairRight_any (f rd rn rm ra im kd bs st cd rg : Int) (w : World) (hL : Laid w) :
    Calls Tryd.prog 45 #[.agg #[.int .i64 f, .int .i64 rd, .int .i64 rn, .int .i64 rm, .int .i64 ra, .int .i64 im, .int .i64 kd, .int .i64 bs, .int .i64 st, .int .i64 cd, .int .i64 rg]] w fun e w' => e = .returned (.bool (pairR f (shp f) rd rm ra)) ∧ Below w.heap.size w w' := by
  go_enter Tryd.func45, Tryd.ntmps45
  go_wp2_with (first | (go_at_call 55; refine (Shape_any _ _ (hL.alloc _).shs).mono ?_; rintro e w' ⟨rfl, rfl⟩) | (go_at_call 57; refine (Low_any _ _).mono ?_; rintro e w' ⟨rfl, rfl⟩))
  all_goals
    go_ret
    exact ⟨ret_bool (by go_light; rw [Bool.eq_iff_iff]; simp_all [pairR]), (Below.refl _ _).alloc (Nat.le_refl _) _⟩

theorem imm_first {f s n : Int} (h1 : (s == 1) = true) (h2 : (f == 1) = true) : immR f s n = stp n 0 31 1 := by
  unfold immR; rw [if_pos (by simpa using h1), if_pos (by simpa using h2)]

set_option maxHeartbeats 1000000 in
theorem immRight_any (f rd rn rm ra im kd bs st cd rg : Int) (w : World) (hL : Laid w) :
    Calls Tryd.prog 46 #[.agg #[.int .i64 f, .int .i64 rd, .int .i64 rn, .int .i64 rm, .int .i64 ra, .int .i64 im, .int .i64 kd, .int .i64 bs, .int .i64 st, .int .i64 cd, .int .i64 rg]] w fun e w' => e = .returned (.bool (immR f (shp f) im)) ∧ Below w.heap.size w w' := by
  go_enter Tryd.func46, Tryd.ntmps46
  go_wp2_with fail
  refine (Shape_any _ _ (hL.alloc _).shs).mono ?_
  rintro e w' ⟨rfl, rfl⟩
  go_wp2_with (first | (go_at_call 58; refine (steps_any _ _ _ _ (by decide) _).mono ?_; rintro e w' ⟨rfl, rfl⟩) | (go_at_call 59; refine (hasWord_any _ _ (hL.alloc _).fac).mono ?_; rintro e w' ⟨rfl, rfl⟩))
  all_goals
    go_ret
    exact ⟨ret_bool (by go_light; rw [Bool.eq_iff_iff]; first | rw [imm_first ‹_› ‹_›] | simp_all [immR]), (Below.refl _ _).alloc (Nat.le_refl _) _⟩

theorem barrelRight_any (f rd rn rm ra im kd bs st cd rg : Int) (w : World) :
    Calls Tryd.prog 60 #[.agg #[.int .i64 f, .int .i64 rd, .int .i64 rn, .int .i64 rm, .int .i64 ra, .int .i64 im, .int .i64 kd, .int .i64 bs, .int .i64 st, .int .i64 cd, .int .i64 rg]] w fun e w' => e = .returned (.bool (brl kd bs)) ∧ Below w.heap.size w w' := by
  go_enter Tryd.func60, Tryd.ntmps60
  go_wp2_with (go_at_call 58; refine (steps_any _ _ _ _ (by decide) _).mono ?_; rintro e w' ⟨rfl, rfl⟩)
  all_goals
    go_ret
    exact ⟨ret_bool (by go_light; rw [Bool.eq_iff_iff]; simp_all [brl]), (Below.refl _ _).alloc (Nat.le_refl _) _⟩

theorem setRight_any (f rd rn rm ra im kd bs st cd rg : Int) (w : World) (hL : Laid w) :
    Calls Tryd.prog 48 #[.agg #[.int .i64 f, .int .i64 rd, .int .i64 rn, .int .i64 rm, .int .i64 ra, .int .i64 im, .int .i64 kd, .int .i64 bs, .int .i64 st, .int .i64 cd, .int .i64 rg]] w fun e w' => e = .returned (.bool (setR (shp f) st)) ∧ Below w.heap.size w w' := by
  go_enter Tryd.func48, Tryd.ntmps48
  go_wp2_with fail
  refine (Shape_any _ _ (hL.alloc _).shs).mono ?_
  rintro e w' ⟨rfl, rfl⟩
  go_wp2_with fail
  all_goals
    go_ret
    exact ⟨ret_bool (by go_light; rw [Bool.eq_iff_iff]; simp_all [setR]), (Below.refl _ _).alloc (Nat.le_refl _) _⟩

theorem condRight_any (f rd rn rm ra im kd bs st cd rg : Int) (w : World) (hL : Laid w) :
    Calls Tryd.prog 49 #[.agg #[.int .i64 f, .int .i64 rd, .int .i64 rn, .int .i64 rm, .int .i64 ra, .int .i64 im, .int .i64 kd, .int .i64 bs, .int .i64 st, .int .i64 cd, .int .i64 rg]] w fun e w' => e = .returned (.bool (cndR (shp f) cd)) ∧ Below w.heap.size w w' := by
  go_enter Tryd.func49, Tryd.ntmps49
  go_wp2_with fail
  refine (Shape_any _ _ (hL.alloc _).shs).mono ?_
  rintro e w' ⟨rfl, rfl⟩
  go_wp2_with (go_at_call 58; refine (steps_any _ _ _ _ (by decide) _).mono ?_; rintro e w' ⟨rfl, rfl⟩)
  all_goals
    go_ret
    exact ⟨ret_bool (by go_light; rw [Bool.eq_iff_iff]; simp_all [cndR]), (Below.refl _ _).alloc (Nat.le_refl _) _⟩

theorem regsRight_any (f rd rn rm ra im kd bs st cd rg : Int) (w : World) (hL : Laid w) :
    Calls Tryd.prog 50 #[.agg #[.int .i64 f, .int .i64 rd, .int .i64 rn, .int .i64 rm, .int .i64 ra, .int .i64 im, .int .i64 kd, .int .i64 bs, .int .i64 st, .int .i64 cd, .int .i64 rg]] w fun e w' => e = .returned (.bool (rgsR (shp f) rg)) ∧ Below w.heap.size w w' := by
  go_enter Tryd.func50, Tryd.ntmps50
  go_wp2_with fail
  refine (Shape_any _ _ (hL.alloc _).shs).mono ?_
  rintro e w' ⟨rfl, rfl⟩
  go_wp2_with (go_at_call 61; refine (someOf_any _ _ _).mono ?_; rintro e w' ⟨rfl, rfl⟩)
  all_goals
    go_ret
    exact ⟨ret_bool (by go_light; rw [Bool.eq_iff_iff]; simp_all [rgsR]), (Below.refl _ _).alloc (Nat.le_refl _) _⟩

theorem shiftRight_any (f rd rn rm ra im kd bs st cd rg : Int) (w : World) (hL : Laid w) :
    Calls Tryd.prog 47 #[.agg #[.int .i64 f, .int .i64 rd, .int .i64 rn, .int .i64 rm, .int .i64 ra, .int .i64 im, .int .i64 kd, .int .i64 bs, .int .i64 st, .int .i64 cd, .int .i64 rg]] w fun e w' => e = .returned (.bool (shiR (shp f) kd bs)) ∧ Below w.heap.size w w' := by
  go_enter Tryd.func47, Tryd.ntmps47
  go_wp2_with fail
  refine (Shape_any _ _ (hL.alloc _).shs).mono ?_
  rintro e w' ⟨rfl, rfl⟩
  go_wp2_with (first | (go_at_call 58; refine (steps_any _ _ _ _ (by decide) _).mono ?_; rintro e w' ⟨rfl, rfl⟩) | (go_at_call 60; refine (barrelRight_any _ _ _ _ _ _ _ _ _ _ _ _).mono ?_; rintro e w' ⟨rfl, hb⟩))
  all_goals
    go_ret
    first
    | exact ⟨ret_bool (by go_light; rw [Bool.eq_iff_iff]; simp_all [shiR]), (Below.refl _ _).alloc (Nat.le_refl _) _⟩
    | exact ⟨ret_bool (by go_light; rw [Bool.eq_iff_iff]; simp_all [shiR]), ((Below.refl _ _).alloc (Nat.le_refl _) _).trans (hb.mono (by simp))⟩

theorem bcell {W w1 : World} (hb : Below W.heap.size W w1) : (∀ b o, b < W.heap.size → w1.cell? ⟨b, o, none⟩ = W.cell? ⟨b, o, none⟩) ∧ (∀ b o, b < W.heap.size → w1.frozen? ⟨b, o, none⟩ = W.frozen? ⟨b, o, none⟩) :=
  ⟨fun b o h => hb.cell (p := ⟨b, o, none⟩) h, fun b o h => hb.frozen (p := ⟨b, o, none⟩) h⟩
theorem next {W w1 w2 : World} (h1 : Below W.heap.size W w1) (h2 : Below w1.heap.size w1 w2) : Below W.heap.size W w2 := h1.trans (h2.mono h1.size)

theorem Right_any (f rd rn rm ra im kd bs st cd rg : Int) (w : World) (hL : Laid w) :
    Calls Tryd.prog 32 #[.agg #[.int .i64 f, .int .i64 rd, .int .i64 rn, .int .i64 rm, .int .i64 ra, .int .i64 im, .int .i64 kd, .int .i64 bs, .int .i64 st, .int .i64 cd, .int .i64 rg]] w fun e w' => e = .returned (.bool (right f rd rn rm ra im kd bs st cd rg)) ∧ Below w.heap.size w w' := by
  have hL1 : Laid (w.alloc (.cells #[.int .i64 f, .int .i64 rd, .int .i64 rn, .int .i64 rm, .int .i64 ra, .int .i64 im, .int .i64 kd, .int .i64 bs, .int .i64 st, .int .i64 cd, .int .i64 rg] 36)) := hL.alloc _
  have hB1 : Below w.heap.size w (w.alloc (.cells #[.int .i64 f, .int .i64 rd, .int .i64 rn, .int .i64 rm, .int .i64 ra, .int .i64 im, .int .i64 kd, .int .i64 bs, .int .i64 st, .int .i64 cd, .int .i64 rg] 36)) := (Below.refl _ _).alloc (Nat.le_refl _) _
  cases h : isF f
  · go_enter Tryd.func32, Tryd.ntmps32
    go_wp2_with (go_at_call 36; refine (Is_any _ _).mono ?_; rintro e w' ⟨rfl, rfl⟩)
    go_ret
    exact ⟨ret_bool (by simp [right, h]), hB1⟩
  · go_enter Tryd.func32, Tryd.ntmps32
    go_wp2_with (go_at_call 36; refine (Is_any _ _).mono ?_; rintro e w' ⟨rfl, rfl⟩)
    refine (registersRight_any _ _ _ _ _ _ _ _ _ _ _ _ (hL1)).mono ?_
    rintro e w1 ⟨rfl, hb1⟩
    obtain ⟨hc, hf⟩ := bcell hb1
    cases h1 : regR (shp f) rd rn rm ra
    · go_wp2_with fail
      go_ret
      exact ⟨ret_bool (by simp [right, h, h1]), hB1.trans (hb1.mono (by simp))⟩
    · go_wp2_with fail
      refine (pairRight_any _ _ _ _ _ _ _ _ _ _ _ _ (hL1.below hb1)).mono ?_
      rintro e w2 ⟨rfl, hb⟩
      have hb2 := next hb1 hb
      clear hb hc hf hb1
      obtain ⟨hc, hf⟩ := bcell hb2
      cases h2 : pairR f (shp f) rd rm ra
      · go_wp2_with fail
        go_ret
        exact ⟨ret_bool (by simp [right, h, h1, h2]), hB1.trans (hb2.mono (by simp))⟩
      · go_wp2_with fail
        refine (immRight_any _ _ _ _ _ _ _ _ _ _ _ _ (hL1.below hb2)).mono ?_
        rintro e w3 ⟨rfl, hb⟩
        have hb3 := next hb2 hb
        clear hb hc hf hb2
        obtain ⟨hc, hf⟩ := bcell hb3
        cases h3 : immR f (shp f) im
        · go_wp2_with fail
          go_ret
          exact ⟨ret_bool (by simp [right, h, h1, h2, h3]), hB1.trans (hb3.mono (by simp))⟩
        · go_wp2_with fail
          refine (shiftRight_any _ _ _ _ _ _ _ _ _ _ _ _ (hL1.below hb3)).mono ?_
          rintro e w4 ⟨rfl, hb⟩
          have hb4 := next hb3 hb
          clear hb hc hf hb3
          obtain ⟨hc, hf⟩ := bcell hb4
          cases h4 : shiR (shp f) kd bs
          · go_wp2_with fail
            go_ret
            exact ⟨ret_bool (by simp [right, h, h1, h2, h3, h4]), hB1.trans (hb4.mono (by simp))⟩
          · go_wp2_with fail
            refine (setRight_any _ _ _ _ _ _ _ _ _ _ _ _ (hL1.below hb4)).mono ?_
            rintro e w5 ⟨rfl, hb⟩
            have hb5 := next hb4 hb
            clear hb hc hf hb4
            obtain ⟨hc, hf⟩ := bcell hb5
            cases h5 : setR (shp f) st
            · go_wp2_with fail
              go_ret
              exact ⟨ret_bool (by simp [right, h, h1, h2, h3, h4, h5]), hB1.trans (hb5.mono (by simp))⟩
            · go_wp2_with fail
              refine (condRight_any _ _ _ _ _ _ _ _ _ _ _ _ (hL1.below hb5)).mono ?_
              rintro e w6 ⟨rfl, hb⟩
              have hb6 := next hb5 hb
              clear hb hc hf hb5
              obtain ⟨hc, hf⟩ := bcell hb6
              cases h6 : cndR (shp f) cd
              · go_wp2_with fail
                go_ret
                exact ⟨ret_bool (by simp [right, h, h1, h2, h3, h4, h5, h6]), hB1.trans (hb6.mono (by simp))⟩
              · go_wp2_with fail
                refine (regsRight_any _ _ _ _ _ _ _ _ _ _ _ _ (hL1.below hb6)).mono ?_
                rintro e w7 ⟨rfl, hb⟩
                have hb7 := next hb6 hb
                clear hb hc hf hb6
                go_wp2_with fail
                go_ret
                exact ⟨ret_bool (by simp [right, h, h1, h2, h3, h4, h5, h6]), hB1.trans (hb7.mono (by simp))⟩

end Go.Proofs.YtegefbndpkbooaaDoor.Inst

