/- What fieldBits and Word of package code answer: contracts. -/
import Derived.Test.YtegefbndpkbooaaDoorCodeBits
import Derived.Test.YtegefbndpkbooaaDoorCodeMsk
import Derived.Test.YtegefbndpkbooaaDoorCodeLaid
import Derived.Deep.RegionHeld3
set_option linter.unusedVariables false
namespace Go.Proofs.YtegefbndpkbooaaDoor.Code
open Go.RowKit Go.Proofs.YtegefbndpkbooaaDoor.Alu Go.Proofs.YtegefbndpkbooaaDoor.Imm Go.Proofs.YtegefbndpkbooaaDoor.Inst

theorem wide_fin : ∀ f : Fin 101, 0 < f.val → (f.val ≤ 47 → shpL.getD f.val 0 ≤ 16) ∧ (48 ≤ f.val → 17 ≤ shpL.getD f.val 0) := by decide +kernel
theorem wide_shp {f : Int} (h0 : 1 ≤ f) (h1 : f ≤ 100) : (f ≤ 47 → shp f ≤ 16) ∧ (48 ≤ f → 17 ≤ shp f) := by
  have h := wide_fin ⟨f.toNat, by omega⟩ (by show 0 < f.toNat; omega)
  unfold shp; rw [if_pos (isF_yes ⟨h0, h1⟩)]
  exact ⟨fun a => h.1 (by show f.toNat ≤ 47; omega), fun a => h.2 (by show 48 ≤ f.toNat; omega)⟩

theorem narrowBits_any (f rd rn rm ra im kd bs st cd rg : Int) (h : right f rd rn rm ra im kd bs st cd rg = true) (g0 : -9223372036854775808 ≤ rg) (g1 : rg ≤ 9223372036854775807) (hf : f ≤ 47) (w : World) (hL : Inst.Laid w) :
    Calls Tryd.prog 70 #[.agg #[.int .i64 f, .int .i64 rd, .int .i64 rn, .int .i64 rm, .int .i64 ra, .int .i64 im, .int .i64 kd, .int .i64 bs, .int .i64 st, .int .i64 cd, .int .i64 rg]] w fun e w' => e = .returned (.int .u32 (add (shp f) rd rn rm ra im kd bs st cd rg)) ∧ Below w.heap.size w w' := by
  obtain ⟨⟨i0, i1⟩, h⟩ := at_own h g0 g1
  have hs := shp_yes (isF_yes ⟨i0, i1⟩)
  have hw := wide_shp i0 i1
  have hlo : 1 ≤ shp f := by omega
  have hhi : shp f ≤ 16 := by omega
  rcases (show shp f = 1 ∨ shp f = 2 ∨ shp f = 3 ∨ shp f = 4 ∨ shp f = 5 ∨ shp f = 6 ∨ shp f = 7 ∨ shp f = 8 ∨ shp f = 9 ∨ shp f = 10 ∨ shp f = 11 ∨ 12 ≤ shp f by omega) with e | e | e | e | e | e | e | e | e | e | e | hk11
  · rw [e] at h ⊢; exact fb_1 f rd rn rm ra im kd bs st cd rg e (lin_1 h) w hL
  · rw [e] at h ⊢; exact fb_2 f rd rn rm ra im kd bs st cd rg e (lin_2 h) w hL
  · rw [e] at h ⊢; exact fb_3 f rd rn rm ra im kd bs st cd rg e (lin_3 h) w hL
  · rw [e] at h ⊢; exact fb_4 f rd rn rm ra im kd bs st cd rg e (lin_4 h) w hL
  · rw [e] at h ⊢; exact fb_5 f rd rn rm ra im kd bs st cd rg e (lin_5 h) w hL
  · rw [e] at h ⊢; exact fb_6 f rd rn rm ra im kd bs st cd rg e (lin_6 h) w hL
  · rw [e] at h ⊢; exact fb_7 f rd rn rm ra im kd bs st cd rg e (lin_7 h) w hL
  · rw [e] at h ⊢; exact fb_8 f rd rn rm ra im kd bs st cd rg e (lin_8 h) w hL
  · rw [e] at h ⊢; exact fb_9 f rd rn rm ra im kd bs st cd rg e (lin_9 h) w hL
  · rw [e] at h ⊢; exact fb_10 f rd rn rm ra im kd bs st cd rg e (lin_10 h) w hL
  · rw [e] at h ⊢; exact fb_11 f rd rn rm ra im kd bs st cd rg e (lin_11 h) w hL
  rcases (show shp f = 12 ∨ shp f = 13 ∨ shp f = 14 ∨ shp f = 15 ∨ shp f = 16 by omega) with e | e | e | e | e
  · rw [e] at h ⊢; exact fb_12 f rd rn rm ra im kd bs st cd rg e (lin_12 h) w hL
  · rw [e] at h ⊢; exact fb_13 f rd rn rm ra im kd bs st cd rg e (lin_13 h) w hL
  · rw [e] at h ⊢; exact fb_14 f rd rn rm ra im kd bs st cd rg e (lin_14 h) w hL
  · rw [e] at h ⊢; exact fb_15 f rd rn rm ra im kd bs st cd rg e (lin_15 h) w hL
  · rw [e] at h ⊢; exact fb_16 f rd rn rm ra im kd bs st cd rg e (lin_16 h) w hL

theorem wideBits_any (f rd rn rm ra im kd bs st cd rg : Int) (h : right f rd rn rm ra im kd bs st cd rg = true) (g0 : -9223372036854775808 ≤ rg) (g1 : rg ≤ 9223372036854775807) (hf : 48 ≤ f) (w : World) (hL : Inst.Laid w) :
    Calls Tryd.prog 69 #[.agg #[.int .i64 f, .int .i64 rd, .int .i64 rn, .int .i64 rm, .int .i64 ra, .int .i64 im, .int .i64 kd, .int .i64 bs, .int .i64 st, .int .i64 cd, .int .i64 rg]] w fun e w' => e = .returned (.int .u32 (add (shp f) rd rn rm ra im kd bs st cd rg)) ∧ Below w.heap.size w w' := by
  obtain ⟨⟨i0, i1⟩, h⟩ := at_own h g0 g1
  have hs := shp_yes (isF_yes ⟨i0, i1⟩)
  have hw := wide_shp i0 i1
  have hlo : 17 ≤ shp f := by omega
  have hhi : shp f ≤ 34 := by omega
  rcases (show shp f = 17 ∨ shp f = 18 ∨ shp f = 19 ∨ shp f = 20 ∨ shp f = 21 ∨ shp f = 22 ∨ shp f = 23 ∨ shp f = 24 ∨ shp f = 25 ∨ shp f = 26 ∨ shp f = 27 ∨ 28 ≤ shp f by omega) with e | e | e | e | e | e | e | e | e | e | e | hk27
  · rw [e] at h ⊢; exact fb_17 f rd rn rm ra im kd bs st cd rg e (lin_17 h) w hL
  · rw [e] at h ⊢; exact fb_18 f rd rn rm ra im kd bs st cd rg e (lin_18 h) w hL
  · rw [e] at h ⊢; exact fb_19 f rd rn rm ra im kd bs st cd rg e (lin_19 h) w hL
  · rw [e] at h ⊢; exact fb_20 f rd rn rm ra im kd bs st cd rg e (lin_20 h) w hL
  · rw [e] at h ⊢; exact fb_21 f rd rn rm ra im kd bs st cd rg e (lin_21 h) w hL
  · rw [e] at h ⊢; exact fb_22 f rd rn rm ra im kd bs st cd rg e (lin_22 h) w hL
  · rw [e] at h ⊢; exact fb_23 f rd rn rm ra im kd bs st cd rg e (lin_23 h) w hL
  · rw [e] at h ⊢; exact fb_24 f rd rn rm ra im kd bs st cd rg e (lin_24 h) w hL
  · rw [e] at h ⊢; exact fb_25 f rd rn rm ra im kd bs st cd rg e (lin_25 h) w hL
  · rw [e] at h ⊢; exact fb_26 f rd rn rm ra im kd bs st cd rg e (lin_26 h) w hL
  · rw [e] at h ⊢; exact fb_27 f rd rn rm ra im kd bs st cd rg e (lin_27 h) w hL
  rcases (show shp f = 28 ∨ shp f = 29 ∨ shp f = 30 ∨ shp f = 31 ∨ shp f = 32 ∨ shp f = 33 ∨ shp f = 34 by omega) with e | e | e | e | e | e | e
  · rw [e] at h ⊢; exact fb_28 f rd rn rm ra im kd bs st cd rg e (lin_28 h) w hL
  · rw [e] at h ⊢; exact fb_29 f rd rn rm ra im kd bs st cd rg e (lin_29 h) w hL
  · rw [e] at h ⊢; exact fb_30 f rd rn rm ra im kd bs st cd rg e (lin_30 h) w hL
  · rw [e] at h ⊢; exact fb_31 f rd rn rm ra im kd bs st cd rg e (lin_31 h) w hL
  · rw [e] at h ⊢; exact fb_32 f rd rn rm ra im kd bs st cd rg e (lin_32 h) w hL
  · rw [e] at h ⊢; exact fb_33 f rd rn rm ra im kd bs st cd rg e (lin_33 h) w hL
  · rw [e] at h ⊢; exact fb_34 f rd rn rm ra im kd bs st cd rg e (lin_34 h) w hL

theorem fieldBits_any (f rd rn rm ra im kd bs st cd rg : Int) (h : right f rd rn rm ra im kd bs st cd rg = true) (g0 : -9223372036854775808 ≤ rg) (g1 : rg ≤ 9223372036854775807) (w : World) (hL : Inst.Laid w) :
    Calls Tryd.prog 54 #[.agg #[.int .i64 f, .int .i64 rd, .int .i64 rn, .int .i64 rm, .int .i64 ra, .int .i64 im, .int .i64 kd, .int .i64 bs, .int .i64 st, .int .i64 cd, .int .i64 rg]] w fun e w' => e = .returned (.int .u32 (add (shp f) rd rn rm ra im kd bs st cd rg)) ∧ Below w.heap.size w w' := by
  have hB := (Below.refl w.heap.size w).alloc (Nat.le_refl _) (.cells #[.int .i64 f, .int .i64 rd, .int .i64 rn, .int .i64 rm, .int .i64 ra, .int .i64 im, .int .i64 kd, .int .i64 bs, .int .i64 st, .int .i64 cd, .int .i64 rg] 36)
  obtain ⟨⟨i0, i1⟩, _⟩ := at_own h g0 g1
  by_cases hf : f ≤ 47
  · have hwd : wdF f = false := by unfold wdF; rw [decide_eq_false_iff_not]; omega
    go_enter Tryd.func54, Tryd.ntmps54
    go_wp2_with (go_at_call 37; refine (Inst.Wide_any _ _).mono ?_; rintro e w' ⟨rfl, rfl⟩)
    refine (narrowBits_any f rd rn rm ra im kd bs st cd rg h g0 g1 hf _ (hL.below hB)).mono ?_
    rintro e w1 ⟨rfl, hb1⟩
    go_wp2_with fail
    go_ret
    exact ⟨rfl, hB.trans (hb1.mono hB.size)⟩
  · have hwd : wdF f = true := by unfold wdF; rw [decide_eq_true_eq]; omega
    go_enter Tryd.func54, Tryd.ntmps54
    go_wp2_with (go_at_call 37; refine (Inst.Wide_any _ _).mono ?_; rintro e w' ⟨rfl, rfl⟩)
    refine (wideBits_any f rd rn rm ra im kd bs st cd rg h g0 g1 (by omega) _ (hL.below hB)).mono ?_
    rintro e w1 ⟨rfl, hb1⟩
    go_wp2_with fail
    go_ret
    exact ⟨rfl, hB.trans (hb1.mono hB.size)⟩

theorem Word_no (f rd rn rm ra im kd bs st cd rg : Int) (h : right f rd rn rm ra im kd bs st cd rg = false) (w : World) (hL : Laid w) :
    Calls Tryd.prog 40 #[.agg #[.int .i64 f, .int .i64 rd, .int .i64 rn, .int .i64 rm, .int .i64 ra, .int .i64 im, .int .i64 kd, .int .i64 bs, .int .i64 st, .int .i64 cd, .int .i64 rg]] w fun e w' => e = .returned (.tuple #[.int .u32 0, .int .i64 10]) ∧ Below w.heap.size w w' := by
  have hB := (Below.refl w.heap.size w).alloc (Nat.le_refl _) (.cells #[.int .i64 f, .int .i64 rd, .int .i64 rn, .int .i64 rm, .int .i64 ra, .int .i64 im, .int .i64 kd, .int .i64 bs, .int .i64 st, .int .i64 cd, .int .i64 rg] 36)
  go_enter Tryd.func40, Tryd.ntmps40
  go_wp2_with fail
  refine (Right_any f rd rn rm ra im kd bs st cd rg _ (hL.two.below hB)).mono ?_
  rintro e w1 ⟨rfl, hb1⟩
  go_wp2_with fail
  go_ret2
  exact ⟨rfl, hB.trans (hb1.mono hB.size)⟩

theorem Word_yes (f rd rn rm ra im kd bs st cd rg : Int) (h : right f rd rn rm ra im kd bs st cd rg = true) (g0 : -9223372036854775808 ≤ rg) (g1 : rg ≤ 9223372036854775807) (w : World) (hL : Laid w) :
    Calls Tryd.prog 40 #[.agg #[.int .i64 f, .int .i64 rd, .int .i64 rn, .int .i64 rm, .int .i64 ra, .int .i64 im, .int .i64 kd, .int .i64 bs, .int .i64 st, .int .i64 cd, .int .i64 rg]] w fun e w' => e = .returned (.tuple #[.int .u32 (wd f rd rn rm ra im kd bs st cd rg), .int .i64 0]) ∧ Below w.heap.size w w' := by
  have hB := (Below.refl w.heap.size w).alloc (Nat.le_refl _) (.cells #[.int .i64 f, .int .i64 rd, .int .i64 rn, .int .i64 rm, .int .i64 ra, .int .i64 im, .int .i64 kd, .int .i64 bs, .int .i64 st, .int .i64 cd, .int .i64 rg] 36)
  have HW := hide (apart_add h g0 g1).1
  have HG := hide (And.intro g0 g1)
  clear g0 g1
  go_enter Tryd.func40, Tryd.ntmps40
  go_wp2_with fail
  refine (Right_any f rd rn rm ra im kd bs st cd rg _ (hL.two.below hB)).mono ?_
  rintro e w1 ⟨rfl, hb1⟩
  have hLd : Laid w1.drew := ((hL.alloc _).below hb1).below (Inst.drew_below _)
  obtain ⟨hc, hf⟩ := bcell hb1
  go_wp2_with fail
  go_region_held3 (fun w' => w'.cell? ⟨w.heap.size, 0, none⟩ = some (.int .i64 f) ∧ w'.cell? ⟨w.heap.size, 1, none⟩ = some (.int .i64 rd) ∧ w'.cell? ⟨w.heap.size, 2, none⟩ = some (.int .i64 rn) ∧ w'.cell? ⟨w.heap.size, 3, none⟩ = some (.int .i64 rm) ∧ w'.cell? ⟨w.heap.size, 4, none⟩ = some (.int .i64 ra) ∧ w'.cell? ⟨w.heap.size, 5, none⟩ = some (.int .i64 im) ∧ w'.cell? ⟨w.heap.size, 6, none⟩ = some (.int .i64 kd) ∧ w'.cell? ⟨w.heap.size, 7, none⟩ = some (.int .i64 bs) ∧ w'.cell? ⟨w.heap.size, 8, none⟩ = some (.int .i64 st) ∧ w'.cell? ⟨w.heap.size, 9, none⟩ = some (.int .i64 cd) ∧ w'.cell? ⟨w.heap.size, 10, none⟩ = some (.int .i64 rg)) (first | (refine ⟨?_, ?_, ?_, ?_, ?_, ?_, ?_, ?_, ?_, ?_, ?_⟩ <;> exact Inst.box_of (Inst.next (Inst.next hb1 (Inst.drew_below _)) hb3) rfl) | (refine ⟨?_, ?_, ?_, ?_, ?_, ?_, ?_, ?_, ?_, ?_, ?_⟩ <;> exact Inst.box_of (Inst.next hb1 (Inst.drew_below _)) rfl) | go_keep) (first
    | (go_at_call 38; refine (Bits_any _ _ hLd.bits).mono ?_; rintro e w2 ⟨rfl, rfl⟩)
    | (go_at_call 54; refine (fieldBits_any _ _ _ _ _ _ _ _ _ _ _ h (unhide HG).1 (unhide HG).2 _ hLd.two).mono ?_; rintro e w3 ⟨rfl, hb3⟩))
  all_goals
    go_wp2_with fail
    go_ret2
    exact ⟨ret_ints2 (unhide HW) rfl, hB.trans ((Inst.next (Inst.next hb1 (Inst.drew_below _)) hb3).mono hB.size)⟩

end Go.Proofs.YtegefbndpkbooaaDoor.Code

