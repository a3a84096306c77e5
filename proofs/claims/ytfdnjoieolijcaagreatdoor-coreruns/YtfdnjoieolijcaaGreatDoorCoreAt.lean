/- The instruction at an address: package core. -/
import Derived.Test.YtfdnjoieolijcaaGreatDoorCoreDur
import Derived.Test.YtfdnjoieolijcaaGreatDoorCodeBytesA
set_option linter.unusedVariables false
namespace Go.Proofs.YtfdnjoieolijcaaGreatDoor.Core
open Go.RowKit Go.Proofs.YtfdnjoieolijcaaGreatDoor.Mem Go.Proofs.YtfdnjoieolijcaaGreatDoor.Alu

def OfI (W : Int) (wide : Bool) (i : Ins) (en : Int) : Prop := Code.OfR W wide i.f i.rd i.rn i.rm i.ra i.im i.kd i.bs i.st i.cd i.rg en
theorem OfI_any (W : Int) (wide : Bool) (h0 : 0 ≤ W) (h1 : W < 4294967296) (w : World) (hL : Code.Laid w) :
    Calls Tryz.prog 93 #[.int .u32 W, .bool wide] w fun e w' => Below w.heap.size w w' ∧ ∃ i en, OfI W wide i en ∧ e = .returned (.tuple #[.agg (inv i), .int .i64 en]) :=
  (Code.Of_any W wide h0 h1 w hL).mono fun e w' h => by
    obtain ⟨hb, f, rd, rn, rm, ra, im, kd, bs, st, cd, rg, en, ho, he⟩ := Code.ofR_of h
    exact ⟨hb, ⟨f, rd, rn, rm, ra, im, kd, bs, st, cd, rg⟩, en, ho, he⟩
/-- What stands at an address. -/
def AtI (n : Nat) (f : Nat → Int) (a : Int) (i : Ins) (en : Int) : Prop :=
  (hfE n a ≠ 0 ∧ i = zerI ∧ en = hfE n a) ∨ (hfE n a = 0 ∧ Code.beg (hfV n f a) = false ∧ OfI (hfV n f a) false i en)
  ∨ (hfE n a = 0 ∧ Code.beg (hfV n f a) = true ∧ hfE n ((a + 2) % 4294967296) ≠ 0 ∧ i = zerI ∧ en = hfE n ((a + 2) % 4294967296))
  ∨ (hfE n a = 0 ∧ Code.beg (hfV n f a) = true ∧ hfE n ((a + 2) % 4294967296) = 0 ∧ OfI (hfV n f a * 65536 + hfV n f ((a + 2) % 4294967296)) true i en)
theorem hfV_bd (n : Nat) (f : Nat → Int) (hf : ∀ i, i < n → 0 ≤ f i ∧ f i < 256) (a : Int) : 0 ≤ hfV n f a ∧ hfV n f a < 65536 := by
  unfold hfV
  split
  · split
    · rename_i h
      have := fp_range a
      exact lsum_range f (fp a).toNat 2 (fun j hj => hf _ (by omega))
    · omega
  · omega
theorem set_inst {w w1 : World} {g : Nat} (hg : w.heap.size ≤ g) (h : Below w.heap.size w w1) (cs : Array Value) : Below w.heap.size w (w1.setRow g cs) := setRow_below h hg cs

set_option maxRecDepth 100000 in
set_option maxHeartbeats 2000000 in
theorem instAt_any {w : World} {B F R n : Nat} {f g : Nat → Int} (h : Is w B F R n f g) (hf : ∀ i, i < n → 0 ≤ f i ∧ f i < 256) (hn : n ≤ 65536) (a : Int) (h0 : 0 ≤ a) (h1 : a < 4294967296) (hL : Code.Laid w) :
    Calls Tryz.prog 72 #[.pointer (some ⟨B, 0, none⟩), .int .u32 a] w fun e w' => Below w.heap.size w w' ∧ ∃ i en, AtI n f a i en ∧ e = .returned (.tuple #[.agg (inv i), .int .i64 en]) := by
  have hB := (Below.refl w.heap.size w).alloc (Nat.le_refl _) (.cells #[.int .i64 0, .int .i64 0, .int .i64 0, .int .i64 0, .int .i64 0, .int .i64 0, .int .i64 0, .int .i64 0, .int .i64 0, .int .i64 0, .int .i64 0] 52)
  have hI : Is (w.alloc (.cells #[.int .i64 0, .int .i64 0, .int .i64 0, .int .i64 0, .int .i64 0, .int .i64 0, .int .i64 0, .int .i64 0, .int .i64 0, .int .i64 0, .int .i64 0] 52)) B F R n f g := h.below hB
  have hLa : Code.Laid (w.alloc (.cells #[.int .i64 0, .int .i64 0, .int .i64 0, .int .i64 0, .int .i64 0, .int .i64 0, .int .i64 0, .int .i64 0, .int .i64 0, .int .i64 0, .int .i64 0] 52)) := hL.below hB
  have bV := hfV_bd n f hf a
  have bV2 := hfV_bd n f hf ((a + 2) % 4294967296)
  by_cases e1 : hfE n a = 0
  · have HE := hide e1
    by_cases hg : Code.beg (hfV n f a) = true
    · have HG := hide hg
      by_cases e2 : hfE n ((a + 2) % 4294967296) = 0
      · have HE2 := hide e2
        go_enter Tryz.func72, Tryz.ntmps72
        go_wp2_with fail
        refine (Half_any hI hf hn a h0 h1).mono ?_
        rintro e w' ⟨rfl, rfl⟩
        go_wp2_with fail
        refine (Code.Begins_any _ bV.1 (by omega) _).mono ?_
        rintro e w' ⟨rfl, rfl⟩
        go_wp2_with fail
        refine (Half_any hI.drew hf hn _ (by omega) (by omega)).mono ?_
        rintro e w' ⟨rfl, rfl⟩
        go_wp2_with fail
        rw [Code.or_halves (by omega) (by omega)]
        refine (OfI_any _ true (by omega) (by omega) _ (hL.below hB.drew)).mono ?_
        rintro e w2 ⟨hb2, i, en, ho, rfl⟩
        have hb3 := hB.drew.trans (hb2.mono hB.size)
        obtain ⟨hc, hfz⟩ := Inst.bcell hb2
        dsimp only [inv]
        clear e1 e2 hg
        go_wp2_with fail
        exact bodyPost_ret (v := .tuple #[.agg #[.int .i64 i.f, .int .i64 i.rd, .int .i64 i.rn, .int .i64 i.rm, .int .i64 i.ra, .int .i64 i.im, .int .i64 i.kd, .int .i64 i.bs, .int .i64 i.st, .int .i64 i.cd, .int .i64 i.rg], .int .i64 en]) (by simp [results, Tryz.results72, go_sem, hc]) rfl ⟨Code.set11 hb3, i, en, .inr (.inr (.inr ⟨unhide HE, unhide HG, unhide HE2, ho⟩)), rfl⟩
      · have HE2 := hide e2
        have e2' : (hfE n ((a + 2) % 4294967296) == 0) = false := by simpa using e2
        clear e2
        go_enter Tryz.func72, Tryz.ntmps72
        go_wp2_with fail
        refine (Half_any hI hf hn a h0 h1).mono ?_
        rintro e w' ⟨rfl, rfl⟩
        go_wp2_with fail
        refine (Code.Begins_any _ bV.1 (by omega) _).mono ?_
        rintro e w' ⟨rfl, rfl⟩
        go_wp2_with fail
        refine (Half_any hI.drew hf hn _ (by omega) (by omega)).mono ?_
        rintro e w' ⟨rfl, rfl⟩
        go_wp2_with fail
        exact bodyPost_ret (v := .tuple #[.agg #[.int .i64 0, .int .i64 0, .int .i64 0, .int .i64 0, .int .i64 0, .int .i64 0, .int .i64 0, .int .i64 0, .int .i64 0, .int .i64 0, .int .i64 0], .int .i64 (hfE n ((a + 2) % 4294967296))]) (by simp [results, Tryz.results72, go_sem]) rfl ⟨by first | exact hB.drew | exact Code.set11 hB.drew, zerI, _, .inr (.inr (.inl ⟨unhide HE, unhide HG, unhide HE2, rfl, rfl⟩)), rfl⟩
    · have hg' : Code.beg (hfV n f a) = false := by simpa using hg
      have HG := hide hg'
      clear hg
      go_enter Tryz.func72, Tryz.ntmps72
      go_wp2_with fail
      refine (Half_any hI hf hn a h0 h1).mono ?_
      rintro e w' ⟨rfl, rfl⟩
      go_wp2_with fail
      refine (Code.Begins_any _ bV.1 (by omega) _).mono ?_
      rintro e w' ⟨rfl, rfl⟩
      go_wp2_with fail
      refine (OfI_any _ false (by omega) (by omega) _ (hL.below hB.drew)).mono ?_
      rintro e w2 ⟨hb2, i, en, ho, rfl⟩
      have hb3 := hB.drew.trans (hb2.mono hB.size)
      obtain ⟨hc, hfz⟩ := Inst.bcell hb2
      dsimp only [inv]
      clear e1 hg'
      go_wp2_with fail
      exact bodyPost_ret (v := .tuple #[.agg #[.int .i64 i.f, .int .i64 i.rd, .int .i64 i.rn, .int .i64 i.rm, .int .i64 i.ra, .int .i64 i.im, .int .i64 i.kd, .int .i64 i.bs, .int .i64 i.st, .int .i64 i.cd, .int .i64 i.rg], .int .i64 en]) (by simp [results, Tryz.results72, go_sem, hc]) rfl ⟨Code.set11 hb3, i, en, .inr (.inl ⟨unhide HE, unhide HG, ho⟩), rfl⟩
  · have e1' : (hfE n a == 0) = false := by simpa using e1
    have HE := hide e1
    clear e1
    go_enter Tryz.func72, Tryz.ntmps72
    go_wp2_with fail
    refine (Half_any hI hf hn a h0 h1).mono ?_
    rintro e w' ⟨rfl, rfl⟩
    go_wp2_with fail
    exact bodyPost_ret (v := .tuple #[.agg #[.int .i64 0, .int .i64 0, .int .i64 0, .int .i64 0, .int .i64 0, .int .i64 0, .int .i64 0, .int .i64 0, .int .i64 0, .int .i64 0, .int .i64 0], .int .i64 (hfE n a)]) (by simp [results, Tryz.results72, go_sem]) rfl ⟨by first | exact hB | exact Code.set11 hB, zerI, _, .inl ⟨unhide HE, rfl, rfl⟩, rfl⟩
end Go.Proofs.YtfdnjoieolijcaaGreatDoor.Core

