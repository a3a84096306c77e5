/- Words that are loaded and stored: package core. -/
import Derived.Test.YtfdnjoieolijcaaGreatDoorCoreJump
set_option linter.unusedVariables false
namespace Go.Proofs.YtfdnjoieolijcaaGreatDoor.Core
open Go.RowKit Go.Proofs.YtfdnjoieolijcaaGreatDoor.Mem Go.Proofs.YtfdnjoieolijcaaGreatDoor.Alu

def adrV (W : Wo) : Int :=
  if W.i.f = 32 then (bits .andNot .u32 ((W.pc + 4) % 4294967296) 3 + W.i.im) % 4294967296 else if W.i.f = 38 ∨ W.i.f = 37 then (W.s.R 13 + W.i.im) % 4294967296
  else if W.i.f = 34 ∨ W.i.f = 33 ∨ W.i.f = 87 ∨ W.i.f = 86 then (W.s.R W.i.rn.toNat + W.s.R W.i.rm.toNat * 2 ^ W.i.bs.toNat % 4294967296) % 4294967296
  else (W.s.R W.i.rn.toNat + W.i.im) % 4294967296

set_option maxHeartbeats 2000000 in
theorem address_any {w : World} {B : Nat} {W : Wo} (h : Wk w B W) (ok : Ok W) :
    Calls Tryz.prog 152 #[.pointer (some ⟨B, 0, none⟩)] w fun e w' => e = .returned (.int .u32 (adrV W)) ∧ ∃ m, w' = w.drewN m := by
  obtain ⟨j, hj, hjn, hj', hj2⟩ := rn_of ok.f.rn
  obtain ⟨k, hk, hkn, hk', hk2⟩ := rn_of ok.f.rm
  have HQ : Hid (adrV W = if W.i.f = 32 then (bits .andNot .u32 ((W.pc + 4) % 4294967296) 3 + W.i.im) % 4294967296 else if W.i.f = 38 ∨ W.i.f = 37 then (W.s.R 13 + W.i.im) % 4294967296
    else if W.i.f = 34 ∨ W.i.f = 33 ∨ W.i.f = 87 ∨ W.i.f = 86 then (W.s.R j + W.s.R k * 2 ^ W.i.bs.toNat % 4294967296) % 4294967296 else (W.s.R j + W.i.im) % 4294967296) := by unfold Hid adrV; rw [hjn, hkn]
  have cf := h.cf
  have cim := h.cim
  have cpc := h.cpc
  have crn := h.crn
  rw [hj] at crn
  have crm := h.crm
  rw [hk] at crm
  have cbs := h.cbs
  have bb := ok.f.bs
  have cj := h.reg j hj2
  have ck := h.reg k hk2
  have c13 := h.c13
  have bj := ok.g.r j
  have bk := ok.g.r k
  have b13 := ok.g.r 13
  clear hj hk hjn hkn
  go_enter Tryz.func152, Tryz.ntmps152
  go_wp2_with fail
  all_goals (try (go_quiet (fail); go_wp2_with fail))
  all_goals
    go_ret
    refine ⟨ret_int ?_, by first | exact ⟨_, rfl⟩ | exact ⟨0, rfl⟩⟩
    rw [HQ.out]; go_light
    simp_all

theorem isOff {w w' : World} {M F R n : Nat} {f g : Nat → Int} (h : Is w M F R n f g) {S : List Nat} (o : Off S w w') (hM : M ∉ S) (hF : F ∉ S) (hR : R ∉ S) : Is w' M F R n f g :=
  h.kept (o.block _ h.ltB hM) (o.block _ h.ltF hF) (o.block _ h.ltR hR)
theorem wkApart {w : World} {B M F R n : Nat} {W : Wo} {f g : Nat → Int} (h : Wk w B W) (m : Is w M F R n f g) : M ≠ B ∧ F ≠ B ∧ R ≠ B := by
  have h' : w.heap[B]? = _ := h
  refine ⟨fun e => ?_, fun e => ?_, fun e => ?_⟩
  · have := m.box; rw [e, h'] at this; simp at this
  · have := m.fl; rw [e, h'] at this; simp at this
  · have := m.ram; rw [e, h'] at this; simp at this
theorem isDrewN {w : World} {M F R n : Nat} {f g : Nat → Int} (h : Is w M F R n f g) (k : Nat) : Is (w.drewN k) M F R n f g := isOff (S := []) h ((Off.refl _ _).drewN _) (by simp) (by simp) (by simp)

def Wo.dat (W : Wo) (a : Int) (k : Int) : Wo := { W with da := a, wo := k }
def loadW (n : Nat) (f g : Nat → Int) (W : Wo) : Wo := if ldE n (adrV W) = 0 then (W.dat (adrV W) 1).put (ldV n f g (adrV W)) else W.dat (adrV W) 1
theorem adrV_bd (W : Wo) : 0 ≤ adrV W ∧ adrV W < 4294967296 := by
  unfold adrV
  repeat' split
  all_goals omega

set_option maxHeartbeats 2000000 in
theorem load_any {w : World} {B F R n : Nat} {W : Wo} {f g : Nat → Int} (h : Wk w B W) (ok : Ok W) (hm : Is w W.m F R n f g) (hf : ∀ i, i < n → 0 ≤ f i ∧ f i < 256) (hn : n ≤ 65536) :
    Calls Tryz.prog 118 #[.pointer (some ⟨B, 0, none⟩)] w fun e w' => e = .returned (.int .i64 (ldE n (adrV W))) ∧ Wk w' B (loadW n f g W) ∧ Off [B] w w' := by
  have bA := adrV_bd W
  have hA := wkApart h hm
  have r1 := ok.f.rd
  go_enter Tryz.func118, Tryz.ntmps118
  go_wp2_with fail
  refine (address_any h ok).mono ?_
  rintro e w1 ⟨rfl, hw1⟩
  have h1 : Wk w1 B W := by obtain ⟨m, rfl⟩ := hw1; exact h
  have o1 : Off [B] w w1 := by obtain ⟨m, rfl⟩ := hw1; exact (Off.refl _ _).drewN _
  clear hw1
  have c35 := h1.cda
  have f35 := h1.free 35
  have c36 := h1.cwo
  have f36 := h1.free 36
  have h2 := (h1.putDa (adrV W)).putWo 1
  have o2 := (o1.set (p := ⟨B, 35, none⟩) (by simp) (.int .u32 (adrV W))).set (p := ⟨B, 36, none⟩) (by simp) (.int .i64 1)
  have H2 := hide h2
  have O2 := hide o2
  clear h2 o2
  go_wp2_with fail
  generalize (w1.setCell ⟨B, 35, none⟩ (.int .u32 (adrV W))).setCell ⟨B, 36, none⟩ (.int .i64 1) = w2 at *
  have m2 : Is w2 W.m F R n f g := isOff hm O2.out (by simpa using hA.1) (by simpa using hA.2.1) (by simpa using hA.2.2)
  have cm := H2.out.cm
  have cda := H2.out.cda
  dsimp only at cm cda
  by_cases he : ldE n (adrV W) = 0
  · have HQ : Hid (loadW n f g W = (W.dat (adrV W) 1).put (ldV n f g (adrV W))) := by unfold Hid loadW; rw [if_pos he]
    go_quiet (first | (go_at_call 153; exact quiet0 (Load_any (isDrewN m2 _) hf hn _ bA.1 bA.2)))
    go_wp2_with fail
    refine (put_any (H2.out.drewN _) (show 0 ≤ W.i.rd by omega) (show W.i.rd < 16 by omega) _).mono ?_
    rintro e w3 ⟨rfl, h3, o3⟩
    go_wp2_with fail
    go_ret
    exact ⟨ret_int (by rw [he]), by rw [HQ.out]; exact h3, (O2.out.drewN _).trans o3⟩
  · have HQ : Hid (loadW n f g W = W.dat (adrV W) 1) := by unfold Hid loadW; rw [if_neg he]
    have he' : (ldE n (adrV W) == 0) = false := by simpa using he
    clear he
    go_quiet (first | (go_at_call 153; exact quiet0 (Load_any (isDrewN m2 _) hf hn _ bA.1 bA.2)))
    go_wp2_with fail
    go_ret
    exact ⟨rfl, by rw [HQ.out]; exact H2.out.drewN _, O2.out.drewN _⟩

def storE (W : Wo) : Int := stE (adrV W)
def storG (g : Nat → Int) (W : Wo) : Nat → Int := if stE (adrV W) = 0 then Mem.put g (rp (adrV W)).toNat (W.s.R W.i.rd.toNat) else g

theorem StoreG {w : World} {M F R n : Nat} {f g : Nat → Int} (h : Is w M F R n f g) (a x : Int) (h0 : 0 ≤ a) (h1 : a < 4294967296) :
    Calls Tryz.prog 17 #[.pointer (some ⟨M, 0, none⟩), .int .u32 a, .int .u32 x] w fun e w' => e = .returned (.int .i64 (stE a)) ∧ Is w' M F R n f (if stE a = 0 then Mem.put g (rp a).toNat x else g) ∧ Off [R] w w' :=
  (Store_any h a x h0 h1).mono fun e w' hh => by
    obtain ⟨rfl, rfl⟩ := hh
    by_cases he : stE a = 0
    · rw [if_pos he, if_pos he]; exact ⟨rfl, h.store _ _, (Off.refl _ _).set (by simp) _⟩
    · rw [if_neg he, if_neg he]; exact ⟨rfl, h, Off.refl _ _⟩

set_option maxRecDepth 100000 in
set_option maxHeartbeats 2000000 in
theorem store_any {w : World} {B F R n : Nat} {W : Wo} {f g : Nat → Int} (h : Wk w B W) (ok : Ok W) (hm : Is w W.m F R n f g) :
    Calls Tryz.prog 119 #[.pointer (some ⟨B, 0, none⟩)] w fun e w' => e = .returned (.int .i64 (storE W)) ∧ Wk w' B (W.dat (adrV W) 1) ∧ Is w' W.m F R n f (storG g W) ∧ Off [B, R] w w' := by
  have bA := adrV_bd W
  have hA := wkApart h hm
  obtain ⟨k, hk, hkn, hk', hk2⟩ := rn_of ok.f.rd
  go_enter Tryz.func119, Tryz.ntmps119
  go_wp2_with fail
  refine (address_any h ok).mono ?_
  rintro e w1 ⟨rfl, hw1⟩
  have h1 : Wk w1 B W := by obtain ⟨m, rfl⟩ := hw1; exact h
  have o1 : Off [B] w w1 := by obtain ⟨m, rfl⟩ := hw1; exact (Off.refl _ _).drewN _
  clear hw1
  have c35 := h1.cda
  have f35 := h1.free 35
  have c36 := h1.cwo
  have f36 := h1.free 36
  have h2 := (h1.putDa (adrV W)).putWo 1
  have o2 := (o1.set (p := ⟨B, 35, none⟩) (by simp) (.int .u32 (adrV W))).set (p := ⟨B, 36, none⟩) (by simp) (.int .i64 1)
  have H2 := hide h2
  have O2 := hide o2
  clear h2 o2
  go_wp2_with fail
  generalize (w1.setCell ⟨B, 35, none⟩ (.int .u32 (adrV W))).setCell ⟨B, 36, none⟩ (.int .i64 1) = w2 at *
  have m2 : Is w2 W.m F R n f g := isOff hm O2.out (by simpa using hA.1) (by simpa using hA.2.1) (by simpa using hA.2.2)
  have cm := H2.out.cm
  have cda := H2.out.cda
  have crd := H2.out.crd
  have ck := H2.out.reg k hk2
  dsimp only at cm cda crd ck
  rw [hk] at crd
  clear c35 f35 c36 f36
  refine wp_region_held_drew (S := fun w' => w'.cell? ⟨B, 20, none⟩ = some (.pointer (some ⟨W.m, 0, none⟩)) ∧ w'.cell? ⟨B, 35, none⟩ = some (.int .u32 (adrV W)) ∧ w'.cell? ⟨B, 22, none⟩ = some (.int .i64 k) ∧ w'.cell? ⟨B, k, none⟩ = some (.int .u32 (W.s.R k))) (by kernel_rfl) ⟨cm, cda, crd, ck⟩ (fun hHeld => ?_)
  refine wpAnyH_take (i := 0) (v := ?_) rfl (by kernel_rfl) (by kernel_rfl) (by kernel_rfl) (fun _ _ _ h => h) (Or.inl ⟨by rfl, ?_⟩) (by assumption) ?_
  rotate_left
  · intro w hSw; (try dsimp only at hSw); go_simp; (try with_reducible rfl)
  (try simp only [Act.put, List.getElem_toArray, List.getElem_cons_zero, List.setIfInBounds_toArray, List.set_cons_zero, List.set_cons_succ])
  refine wpAnyH_take (i := 1) (v := ?_) rfl (by kernel_rfl) (by kernel_rfl) (by kernel_rfl) (fun _ _ _ h => h) (Or.inl ⟨by rfl, ?_⟩) (by assumption) ?_
  rotate_left
  · intro w hSw; (try dsimp only at hSw); go_simp; (try with_reducible rfl)
  (try simp only [Act.put, List.getElem_toArray, List.getElem_cons_zero, List.getElem_cons_succ, List.setIfInBounds_toArray, List.set_cons_zero, List.set_cons_succ])
  refine wpAnyH_take (i := 2) (v := ?_) rfl (by kernel_rfl) (by kernel_rfl) (by kernel_rfl) (fun _ _ _ h => h) (Or.inl ⟨by rfl, ?_⟩) (by assumption) ?_
  rotate_left
  · intro w hSw; (try dsimp only at hSw); go_simp; (try with_reducible rfl)
  (try simp only [Act.put, List.getElem_toArray, List.getElem_cons_zero, List.getElem_cons_succ, List.setIfInBounds_toArray, List.set_cons_zero, List.set_cons_succ])
  refine wpAnyH_take (i := 3) (v := ?_) rfl (by kernel_rfl) (by kernel_rfl) (by kernel_rfl) (fun _ _ _ h => h) (Or.inl ⟨by rfl, ?_⟩) (by assumption) ?_
  rotate_left
  · intro w hSw; (try dsimp only at hSw); go_simp; (try with_reducible rfl)
  (try simp only [Act.put, List.getElem_toArray, List.getElem_cons_zero, List.getElem_cons_succ, List.setIfInBounds_toArray, List.set_cons_zero, List.set_cons_succ])
  refine wpAnyH_take (i := 4) (v := ?_) rfl (by kernel_rfl) (by kernel_rfl) (by kernel_rfl) (fun _ _ _ h => h) (Or.inl ⟨by rfl, ?_⟩) (by assumption) ?_
  rotate_left
  · intro w hSw; (try dsimp only at hSw); go_simp; (try with_reducible rfl)
  (try simp only [Act.put, List.getElem_toArray, List.getElem_cons_zero, List.getElem_cons_succ, List.setIfInBounds_toArray, List.set_cons_zero, List.set_cons_succ])
  refine wpAnyH_take (i := 5) (v := ?_) rfl (by kernel_rfl) (by kernel_rfl) (by kernel_rfl) (fun _ _ _ h => h) (Or.inl ⟨by rfl, ?_⟩) (by assumption) ?_
  rotate_left
  · intro w hSw; (try dsimp only at hSw); go_simp; (try with_reducible rfl)
  (try simp only [Act.put, List.getElem_toArray, List.getElem_cons_zero, List.getElem_cons_succ, List.setIfInBounds_toArray, List.set_cons_zero, List.set_cons_succ])
  refine wpAnyH_take (i := 6) (v := ?_) rfl (by kernel_rfl) (by kernel_rfl) (by kernel_rfl) (fun _ _ _ h => h) (Or.inl ⟨by rfl, ?_⟩) (by assumption) ?_
  rotate_left
  · intro w hSw; (try dsimp only at hSw); go_simp; (try with_reducible rfl)
  (try simp only [Act.put, List.getElem_toArray, List.getElem_cons_zero, List.getElem_cons_succ, List.setIfInBounds_toArray, List.set_cons_zero, List.set_cons_succ])
  refine wpAnyH_take (i := 7) (v := ?_) rfl (by kernel_rfl) (by kernel_rfl) (by kernel_rfl) (fun _ _ _ h => h) (Or.inl ⟨by rfl, ?_⟩) (by assumption) ?_
  rotate_left
  · intro w hSw; (try dsimp only at hSw); go_simp; (try with_reducible rfl)
  (try simp only [Act.put, List.getElem_toArray, List.getElem_cons_zero, List.getElem_cons_succ, List.setIfInBounds_toArray, List.set_cons_zero, List.set_cons_succ])
  refine wpAnyH_take (i := 8) (v := ?_) rfl (by kernel_rfl) (by kernel_rfl) (by kernel_rfl) (fun _ _ _ h => h) (Or.inl ⟨by rfl, ?_⟩) (by assumption) ?_
  rotate_left
  · intro w hSw; (try dsimp only at hSw); go_simp; (try with_reducible rfl)
  (try simp only [Act.put, List.getElem_toArray, List.getElem_cons_zero, List.getElem_cons_succ, List.setIfInBounds_toArray, List.set_cons_zero, List.set_cons_succ])
  refine wpAnyH_take (i := 9) (v := ?_) rfl (by kernel_rfl) (by kernel_rfl) (by kernel_rfl) (fun _ _ _ h => h) (Or.inl ⟨by rfl, ?_⟩) (by assumption) ?_
  rotate_left
  · intro w hSw; (try dsimp only at hSw); go_simp; (try with_reducible rfl)
  (try simp only [Act.put, List.getElem_toArray, List.getElem_cons_zero, List.getElem_cons_succ, List.setIfInBounds_toArray, List.set_cons_zero, List.set_cons_succ])
  refine wpAnyH_take (i := 10) (v := ?_) rfl (by kernel_rfl) (by kernel_rfl) (by kernel_rfl) (fun _ _ _ h => h) (Or.inl ⟨by rfl, ?_⟩) (by assumption) ?_
  rotate_left
  · intro w hSw; (try dsimp only at hSw); go_simp; (try with_reducible rfl)
  (try simp only [Act.put, List.getElem_toArray, List.getElem_cons_zero, List.getElem_cons_succ, List.setIfInBounds_toArray, List.set_cons_zero, List.set_cons_succ])
  refine wpAnyH_take (i := 11) (v := ?_) rfl (by kernel_rfl) (by kernel_rfl) (by kernel_rfl) (fun _ _ _ h => h) (Or.inl ⟨by rfl, ?_⟩) (by assumption) ?_
  rotate_left
  · intro w hSw; (try dsimp only at hSw); go_simp; (try with_reducible rfl)
  (try simp only [Act.put, List.getElem_toArray, List.getElem_cons_zero, List.getElem_cons_succ, List.setIfInBounds_toArray, List.set_cons_zero, List.set_cons_succ])
  refine wpAnyH_take (i := 12) (v := ?_) rfl (by kernel_rfl) (by kernel_rfl) (by kernel_rfl) (fun _ _ _ h => h) (Or.inl ⟨by rfl, ?_⟩) (by assumption) ?_
  rotate_left
  · intro w hSw; (try dsimp only at hSw); go_simp; (try with_reducible rfl)
  (try simp only [Act.put, List.getElem_toArray, List.getElem_cons_zero, List.getElem_cons_succ, List.setIfInBounds_toArray, List.set_cons_zero, List.set_cons_succ])
  refine wpAnyH_take (i := 13) (v := ?_) rfl (by kernel_rfl) (by kernel_rfl) (by kernel_rfl) (fun _ _ _ h => h) (Or.inl ⟨by rfl, ?_⟩) (by assumption) ?_
  rotate_left
  · intro w hSw; (try dsimp only at hSw); go_simp; (try with_reducible rfl)
  (try simp only [Act.put, List.getElem_toArray, List.getElem_cons_zero, List.getElem_cons_succ, List.setIfInBounds_toArray, List.set_cons_zero, List.set_cons_succ])
  refine wpAnyH_take (i := 14) (v := ?_) rfl (by kernel_rfl) (by kernel_rfl) (by kernel_rfl) (fun _ _ _ h => h) (Or.inl ⟨by rfl, ?_⟩) (by assumption) ?_
  rotate_left
  · intro w hSw; (try dsimp only at hSw); go_simp; (try with_reducible rfl)
  (try simp only [Act.put, List.getElem_toArray, List.getElem_cons_zero, List.getElem_cons_succ, List.setIfInBounds_toArray, List.set_cons_zero, List.set_cons_succ])
  refine wpAnyH_take (i := 15) (v := ?_) rfl (by kernel_rfl) (by kernel_rfl) (by kernel_rfl) (fun _ _ _ h => h) (Or.inl ⟨by rfl, ?_⟩) (by assumption) ?_
  rotate_left
  · intro w hSw; (try dsimp only at hSw); go_simp; (try with_reducible rfl)
  (try simp only [Act.put, List.getElem_toArray, List.getElem_cons_zero, List.getElem_cons_succ, List.setIfInBounds_toArray, List.set_cons_zero, List.set_cons_succ])
  refine wpAnyH_take (i := 16) (v := ?_) rfl (by kernel_rfl) (by kernel_rfl) (by kernel_rfl) (fun _ _ _ h => h) (Or.inl ⟨by rfl, ?_⟩) (by assumption) ?_
  rotate_left
  · intro w hSw; (try dsimp only at hSw); go_simp; (try with_reducible rfl)
  (try simp only [Act.put, List.getElem_toArray, List.getElem_cons_zero, List.getElem_cons_succ, List.setIfInBounds_toArray, List.set_cons_zero, List.set_cons_succ])
  refine wpAnyH_take (i := 17) (v := ?_) rfl (by kernel_rfl) (by kernel_rfl) (by kernel_rfl) (fun _ _ _ h => h) (Or.inl ⟨by rfl, ?_⟩) (by assumption) ?_
  rotate_left
  · intro w hSw; (try dsimp only at hSw); go_simp; (try with_reducible rfl)
  (try simp only [Act.put, List.getElem_toArray, List.getElem_cons_zero, List.getElem_cons_succ, List.setIfInBounds_toArray, List.set_cons_zero, List.set_cons_succ])
  refine wpAnyH_take (i := 18) (v := ?_) rfl (by kernel_rfl) (by kernel_rfl) (by kernel_rfl) (fun _ _ _ h => h) (Or.inl ⟨by rfl, ?_⟩) (by assumption) ?_
  rotate_left
  · intro w hSw; (try dsimp only at hSw); go_simp; (try with_reducible rfl)
  (try simp only [Act.put, List.getElem_toArray, List.getElem_cons_zero, List.getElem_cons_succ, List.setIfInBounds_toArray, List.set_cons_zero, List.set_cons_succ])
  refine wpAnyH_ready (rs := [19]) (by kernel_rfl) (by simp) ?_
  refine AllReadyH.cons rfl (fun K hK => ?_) AllReadyH.nil
  go_simp
  with_reducible refine (StoreG m2.drew (adrV W) (W.s.R k) bA.1 bA.2).mono ?_
  rintro e w3 ⟨rfl, m3, o3⟩
  have h3 : Wk w3 B ((W.dat (adrV W) 1)) := Wk.off (show Wk w2.drew B _ from H2.out) o3 (by simpa using fun e => hA.2.2 e.symm)
  have c3 := h3.cm
  have d3 := h3.cda
  have e3 := h3.crd
  have g3 := h3.reg k hk2
  rw [show (W.dat (adrV W) 1).i.rd = W.i.rd from rfl, hk] at e3
  refine hK.out _ _ ⟨c3, d3, e3, g3⟩ (fun hHeld => ?_)
  clear hK K
  (try simp only [Act.put, List.getElem_toArray, List.getElem_cons_zero, List.getElem_cons_succ, List.setIfInBounds_toArray, List.set_cons_zero, List.set_cons_succ])
  refine wpAnyH_take (i := 20) (v := ?_) rfl (by kernel_rfl) (by kernel_rfl) (by kernel_rfl) (fun _ _ _ h => h) (Or.inl ⟨by rfl, ?_⟩) (by assumption) ?_
  rotate_left
  · intro w hSw; (try dsimp only at hSw); go_simp; (try with_reducible rfl)
  (try simp only [Act.put, List.getElem_toArray, List.getElem_cons_zero, List.getElem_cons_succ, List.setIfInBounds_toArray, List.set_cons_zero, List.set_cons_succ])
  refine wpAnyH_done (by kernel_rfl) ?_ _
  go_wp2_with fail
  go_ret
  exact ⟨rfl, h3, by unfold storG; rw [hkn]; exact m3, ((O2.out.drew.mono (by simp)).trans (o3.mono (by simp)))⟩
end Go.Proofs.YtfdnjoieolijcaaGreatDoor.Core

