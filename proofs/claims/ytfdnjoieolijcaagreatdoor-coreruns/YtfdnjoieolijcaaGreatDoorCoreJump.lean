/- Branches, and how long an instruction takes: package core. -/
import Derived.Test.YtfdnjoieolijcaaGreatDoorCoreHold
import Derived.Deep.RegionHeld3
set_option linter.unusedVariables false
namespace Go.Proofs.YtfdnjoieolijcaaGreatDoor.Core
open Go.RowKit Go.Proofs.YtfdnjoieolijcaaGreatDoor.Mem Go.Proofs.YtfdnjoieolijcaaGreatDoor.Alu

theorem wkc_split (W : Wo) : (wkc W).toList = (stv W.s).toList ++ [.pointer (some ⟨W.m, 0, none⟩), .int .i64 W.i.f, .int .i64 W.i.rd, .int .i64 W.i.rn, .int .i64 W.i.rm, .int .i64 W.i.ra, .int .i64 W.i.im, .int .i64 W.i.kd, .int .i64 W.i.bs, .int .i64 W.i.st, .int .i64 W.i.cd, .int .i64 W.i.rg, .int .u32 W.pc, .int .i64 W.hk, .int .i64 W.hc, .int .u32 W.da, .int .i64 W.wo] := rfl
theorem Wk.range {w : World} {B : Nat} {W : Wo} (h : Wk w B W) : w.rangeAt B 0 (stv W.s).toList := fun j v hv => by
  have hj : j < (stv W.s).toList.length := (List.getElem?_eq_some_iff.1 hv).1
  rw [Nat.zero_add]
  refine h.cell ?_
  rw [← Array.getElem?_toList, wkc_split, List.getElem?_append_left hj]
  exact hv
theorem Wk.loadS {w : World} {B : Nat} {W : Wo} (h : Wk w B W) : (Instr.loadAt 27 (.pointer (some ⟨B, 0, none⟩))).run Tryz.prog w = .ok (.agg (stv W.s)) w :=
  run_loadAt_mid w B 0 _ (stv W.s).toList _ h.range Tryz.underlying27 rfl info_st

def jmpW (W : Wo) : Wo := if (W.i.f = 46 ∨ W.i.f = 99) ∧ holdsB W.s W.i.cd = false then W else W.reg 15 ((W.pc + 4 + W.i.im) % 4294967296)

set_option maxRecDepth 100000 in
set_option maxHeartbeats 2000000 in
theorem jump_any {w : World} {B : Nat} {W : Wo} (h : Wk w B W) :
    Calls Tryz.prog 167 #[.pointer (some ⟨B, 0, none⟩)] w fun e w' => e = .returned (.tuple #[]) ∧ Wk w' B (jmpW W) ∧ Off [B] w w' := by
  have cf := h.cf
  have cim := h.cim
  have cpc := h.cpc
  have c15 := h.c15
  have f15 := h.free 15
  by_cases hc : W.i.f = 46 ∨ W.i.f = 99
  · have HC := hide hc
    go_enter Tryz.func167, Tryz.ntmps167
    go_wp2_with fail
    · refine wp_region_held_drew (S := fun w' => w'.rangeAt B 0 (stv W.s).toList ∧ w'.cell? ⟨B, 30, none⟩ = some (.int .i64 W.i.cd)) (by kernel_rfl) ⟨h.drew.range, h.drew.ccd⟩ (fun hHeld => ?_)
      refine wpAnyH_take (i := 0) (v := ?_) rfl (by kernel_rfl) (by kernel_rfl) (by kernel_rfl) (fun _ _ _ h => h) (Or.inl ⟨by rfl, ?_⟩) (by assumption) ?_
      rotate_left
      · intro w hSw; (try dsimp only at hSw); go_simp; (try with_reducible rfl)
      (try simp only [Act.put, List.getElem_toArray, List.getElem_cons_zero, List.setIfInBounds_toArray, List.set_cons_zero, List.set_cons_succ])
      refine wpAnyH_take (i := 1) (v := ?_) rfl (by kernel_rfl) (by kernel_rfl) (by kernel_rfl) (fun _ _ _ h => h) (Or.inl ⟨by rfl, ?_⟩) (by assumption) ?_
      rotate_left
      · intro w hSw; (try dsimp only at hSw); go_simp; (try with_reducible rfl)
      (try simp only [Act.put, List.getElem_toArray, List.getElem_cons_zero, List.getElem_cons_succ, List.setIfInBounds_toArray, List.set_cons_zero, List.set_cons_succ])
      refine wpAnyH_take (i := 2) (v := ?_) rfl (by kernel_rfl) (by kernel_rfl) (by kernel_rfl) (fun _ _ _ h => h) (Or.inl ⟨by rfl, ?_⟩) (by assumption) ?_
      rotate_left
      · intro w hSw; (try dsimp only at hSw); go_simp; (try with_reducible rfl)
      (try simp only [Act.put, List.getElem_toArray, List.getElem_cons_zero, List.getElem_cons_succ, List.setIfInBounds_toArray, List.set_cons_zero, List.set_cons_succ])
      refine wpAnyH_take (i := 3) (v := .agg (stv W.s)) rfl (by kernel_rfl) (by kernel_rfl) (by kernel_rfl) (fun _ _ _ h => h) (yieldsIf_load_mid (by rfl) 27 (.tmp 12) rfl B 0 rfl (stv W.s).toList _ (fun w hw => hw.1) Tryz.underlying27 rfl info_st) (by assumption) ?_
      (try simp only [Act.put, List.getElem_toArray, List.getElem_cons_zero, List.getElem_cons_succ, List.setIfInBounds_toArray, List.set_cons_zero, List.set_cons_succ])
      refine wpAnyH_take (i := 4) (v := ?_) rfl (by kernel_rfl) (by kernel_rfl) (by kernel_rfl) (fun _ _ _ h => h) (Or.inl ⟨by rfl, ?_⟩) (by assumption) ?_
      rotate_left
      · intro w hSw; (try dsimp only at hSw); go_simp; (try with_reducible rfl)
      (try simp only [Act.put, List.getElem_toArray, List.getElem_cons_zero, List.getElem_cons_succ, List.setIfInBounds_toArray, List.set_cons_zero, List.set_cons_succ])
      refine wpAnyH_take (i := 5) (v := ?_) rfl (by kernel_rfl) (by kernel_rfl) (by kernel_rfl) (fun _ _ _ h => h) (Or.inl ⟨by rfl, ?_⟩) (by assumption) ?_
      rotate_left
      · intro w hSw; (try dsimp only at hSw); go_simp; (try with_reducible rfl)
      (try simp only [Act.put, List.getElem_toArray, List.getElem_cons_zero, List.getElem_cons_succ, List.setIfInBounds_toArray, List.set_cons_zero, List.set_cons_succ])
      refine wpAnyH_take (i := 6) (v := ?_) rfl (by kernel_rfl) (by kernel_rfl) (by kernel_rfl) (fun _ _ _ h => h) (Or.inl ⟨by rfl, ?_⟩) (by assumption) ?_
      rotate_left
      · intro w hSw; (try dsimp only at hSw); go_simp; (try with_reducible rfl)
      (try simp only [Act.put, List.getElem_toArray, List.getElem_cons_zero, List.getElem_cons_succ, List.setIfInBounds_toArray, List.set_cons_zero, List.set_cons_succ])
      refine wpAnyH_take (i := 7) (v := ?_) rfl (by kernel_rfl) (by kernel_rfl) (by kernel_rfl) (fun _ _ _ h => h) (Or.inl ⟨by rfl, ?_⟩) (by assumption) ?_
      rotate_left
      · intro w hSw; (try dsimp only at hSw); go_simp; (try with_reducible rfl)
      (try simp only [Act.put, List.getElem_toArray, List.getElem_cons_zero, List.getElem_cons_succ, List.setIfInBounds_toArray, List.set_cons_zero, List.set_cons_succ])
      refine wpAnyH_take (i := 8) (v := ?_) rfl (by kernel_rfl) (by kernel_rfl) (by kernel_rfl) (fun _ _ _ h => h) (Or.inl ⟨by rfl, ?_⟩) (by assumption) ?_
      rotate_left
      · intro w hSw; (try dsimp only at hSw); go_simp; (try with_reducible rfl)
      (try simp only [Act.put, List.getElem_toArray, List.getElem_cons_zero, List.getElem_cons_succ, List.setIfInBounds_toArray, List.set_cons_zero, List.set_cons_succ])
      refine wpAnyH_ready (rs := [9]) (by kernel_rfl) (by simp) ?_
      refine AllReadyH.cons rfl (fun K hK => ?_) AllReadyH.nil
      go_simp
      with_reducible refine (Holds_any _ _ _).mono ?_
      rintro e w1 ⟨rfl, hb1⟩
      have h1 : Wk w1 B W := h.drew.below hb1
      have o1 : Off [B] w w1 := ((Off.refl _ _).drew).trans (Off.of_below hb1)
      refine hK.out _ _ ⟨h1.range, h1.ccd⟩ (fun hHeld => ?_)
      clear hK K
      (try simp only [Act.put, List.getElem_toArray, List.getElem_cons_zero, List.getElem_cons_succ, List.setIfInBounds_toArray, List.set_cons_zero, List.set_cons_succ])
      refine wpAnyH_take (i := 10) (v := ?_) rfl (by kernel_rfl) (by kernel_rfl) (by kernel_rfl) (fun _ _ _ h => h) (Or.inl ⟨by rfl, ?_⟩) (by assumption) ?_
      rotate_left
      · intro w hSw; (try dsimp only at hSw); go_simp; (try with_reducible rfl)
      (try simp only [Act.put, List.getElem_toArray, List.getElem_cons_zero, List.getElem_cons_succ, List.setIfInBounds_toArray, List.set_cons_zero, List.set_cons_succ])
      refine wpAnyH_done (by kernel_rfl) ?_ _
      have cim := h1.cim
      have cpc := h1.cpc
      have c15 := h1.c15
      have f15 := h1.free 15
      cases hh : holdsB W.s W.i.cd
      · go_wp2_with fail
        refine bodyPost_ret (v := .tuple #[]) (by simp [results, Tryz.results167, go_sem]) rfl ⟨rfl, ?_, o1⟩
        unfold jmpW; rw [if_pos ⟨unhide HC, hh⟩]; exact h1
      · go_wp2_with fail
        go_region
        go_end0
        exact ⟨rfl, by unfold jmpW; rw [if_neg (by rw [hh]; simp)]; exact (h1.putR 15 (by decide) _).drew, (o1.set (by simp) _).drew⟩
    · refine wp_region_held_drew (S := fun w' => w'.rangeAt B 0 (stv W.s).toList ∧ w'.cell? ⟨B, 30, none⟩ = some (.int .i64 W.i.cd)) (by kernel_rfl) ⟨h.drew.range, h.drew.ccd⟩ (fun hHeld => ?_)
      refine wpAnyH_take (i := 0) (v := ?_) rfl (by kernel_rfl) (by kernel_rfl) (by kernel_rfl) (fun _ _ _ h => h) (Or.inl ⟨by rfl, ?_⟩) (by assumption) ?_
      rotate_left
      · intro w hSw; (try dsimp only at hSw); go_simp; (try with_reducible rfl)
      (try simp only [Act.put, List.getElem_toArray, List.getElem_cons_zero, List.setIfInBounds_toArray, List.set_cons_zero, List.set_cons_succ])
      refine wpAnyH_take (i := 1) (v := ?_) rfl (by kernel_rfl) (by kernel_rfl) (by kernel_rfl) (fun _ _ _ h => h) (Or.inl ⟨by rfl, ?_⟩) (by assumption) ?_
      rotate_left
      · intro w hSw; (try dsimp only at hSw); go_simp; (try with_reducible rfl)
      (try simp only [Act.put, List.getElem_toArray, List.getElem_cons_zero, List.getElem_cons_succ, List.setIfInBounds_toArray, List.set_cons_zero, List.set_cons_succ])
      refine wpAnyH_take (i := 2) (v := ?_) rfl (by kernel_rfl) (by kernel_rfl) (by kernel_rfl) (fun _ _ _ h => h) (Or.inl ⟨by rfl, ?_⟩) (by assumption) ?_
      rotate_left
      · intro w hSw; (try dsimp only at hSw); go_simp; (try with_reducible rfl)
      (try simp only [Act.put, List.getElem_toArray, List.getElem_cons_zero, List.getElem_cons_succ, List.setIfInBounds_toArray, List.set_cons_zero, List.set_cons_succ])
      refine wpAnyH_take (i := 3) (v := .agg (stv W.s)) rfl (by kernel_rfl) (by kernel_rfl) (by kernel_rfl) (fun _ _ _ h => h) (yieldsIf_load_mid (by rfl) 27 (.tmp 12) rfl B 0 rfl (stv W.s).toList _ (fun w hw => hw.1) Tryz.underlying27 rfl info_st) (by assumption) ?_
      (try simp only [Act.put, List.getElem_toArray, List.getElem_cons_zero, List.getElem_cons_succ, List.setIfInBounds_toArray, List.set_cons_zero, List.set_cons_succ])
      refine wpAnyH_take (i := 4) (v := ?_) rfl (by kernel_rfl) (by kernel_rfl) (by kernel_rfl) (fun _ _ _ h => h) (Or.inl ⟨by rfl, ?_⟩) (by assumption) ?_
      rotate_left
      · intro w hSw; (try dsimp only at hSw); go_simp; (try with_reducible rfl)
      (try simp only [Act.put, List.getElem_toArray, List.getElem_cons_zero, List.getElem_cons_succ, List.setIfInBounds_toArray, List.set_cons_zero, List.set_cons_succ])
      refine wpAnyH_take (i := 5) (v := ?_) rfl (by kernel_rfl) (by kernel_rfl) (by kernel_rfl) (fun _ _ _ h => h) (Or.inl ⟨by rfl, ?_⟩) (by assumption) ?_
      rotate_left
      · intro w hSw; (try dsimp only at hSw); go_simp; (try with_reducible rfl)
      (try simp only [Act.put, List.getElem_toArray, List.getElem_cons_zero, List.getElem_cons_succ, List.setIfInBounds_toArray, List.set_cons_zero, List.set_cons_succ])
      refine wpAnyH_take (i := 6) (v := ?_) rfl (by kernel_rfl) (by kernel_rfl) (by kernel_rfl) (fun _ _ _ h => h) (Or.inl ⟨by rfl, ?_⟩) (by assumption) ?_
      rotate_left
      · intro w hSw; (try dsimp only at hSw); go_simp; (try with_reducible rfl)
      (try simp only [Act.put, List.getElem_toArray, List.getElem_cons_zero, List.getElem_cons_succ, List.setIfInBounds_toArray, List.set_cons_zero, List.set_cons_succ])
      refine wpAnyH_take (i := 7) (v := ?_) rfl (by kernel_rfl) (by kernel_rfl) (by kernel_rfl) (fun _ _ _ h => h) (Or.inl ⟨by rfl, ?_⟩) (by assumption) ?_
      rotate_left
      · intro w hSw; (try dsimp only at hSw); go_simp; (try with_reducible rfl)
      (try simp only [Act.put, List.getElem_toArray, List.getElem_cons_zero, List.getElem_cons_succ, List.setIfInBounds_toArray, List.set_cons_zero, List.set_cons_succ])
      refine wpAnyH_take (i := 8) (v := ?_) rfl (by kernel_rfl) (by kernel_rfl) (by kernel_rfl) (fun _ _ _ h => h) (Or.inl ⟨by rfl, ?_⟩) (by assumption) ?_
      rotate_left
      · intro w hSw; (try dsimp only at hSw); go_simp; (try with_reducible rfl)
      (try simp only [Act.put, List.getElem_toArray, List.getElem_cons_zero, List.getElem_cons_succ, List.setIfInBounds_toArray, List.set_cons_zero, List.set_cons_succ])
      refine wpAnyH_ready (rs := [9]) (by kernel_rfl) (by simp) ?_
      refine AllReadyH.cons rfl (fun K hK => ?_) AllReadyH.nil
      go_simp
      with_reducible refine (Holds_any _ _ _).mono ?_
      rintro e w1 ⟨rfl, hb1⟩
      have h1 : Wk w1 B W := h.drew.below hb1
      have o1 : Off [B] w w1 := ((Off.refl _ _).drew).trans (Off.of_below hb1)
      refine hK.out _ _ ⟨h1.range, h1.ccd⟩ (fun hHeld => ?_)
      clear hK K
      (try simp only [Act.put, List.getElem_toArray, List.getElem_cons_zero, List.getElem_cons_succ, List.setIfInBounds_toArray, List.set_cons_zero, List.set_cons_succ])
      refine wpAnyH_take (i := 10) (v := ?_) rfl (by kernel_rfl) (by kernel_rfl) (by kernel_rfl) (fun _ _ _ h => h) (Or.inl ⟨by rfl, ?_⟩) (by assumption) ?_
      rotate_left
      · intro w hSw; (try dsimp only at hSw); go_simp; (try with_reducible rfl)
      (try simp only [Act.put, List.getElem_toArray, List.getElem_cons_zero, List.getElem_cons_succ, List.setIfInBounds_toArray, List.set_cons_zero, List.set_cons_succ])
      refine wpAnyH_done (by kernel_rfl) ?_ _
      have cim := h1.cim
      have cpc := h1.cpc
      have c15 := h1.c15
      have f15 := h1.free 15
      cases hh : holdsB W.s W.i.cd
      · go_wp2_with fail
        refine bodyPost_ret (v := .tuple #[]) (by simp [results, Tryz.results167, go_sem]) rfl ⟨rfl, ?_, o1⟩
        unfold jmpW; rw [if_pos ⟨unhide HC, hh⟩]; exact h1
      · go_wp2_with fail
        go_region
        go_end0
        exact ⟨rfl, by unfold jmpW; rw [if_neg (by rw [hh]; simp)]; exact (h1.putR 15 (by decide) _).drew, (o1.set (by simp) _).drew⟩
  · go_enter Tryz.func167, Tryz.ntmps167
    have h46 : ¬ W.i.f = 46 := fun e => hc (.inl e)
    have h99 : ¬ W.i.f = 99 := fun e => hc (.inr e)
    have HC := hide hc
    clear hc
    go_wp2_with fail
    go_region
    go_end0
    exact ⟨rfl, by unfold jmpW; rw [if_neg (fun e => unhide HC e.1)]; exact (h.putR 15 (by decide) _).drew, ((Off.refl _ _).set (by simp) _).drew⟩

/-- How long an instruction takes. -/
def basI (s : St) (i : Ins) : Int := Clock.bas i.f (holdsB s i.cd) (s.R i.rn.toNat) (s.R i.rm.toNat) i.rg

end Go.Proofs.YtfdnjoieolijcaaGreatDoor.Core

