/- Lists of registers: package core. -/
import Derived.Test.YtkkhofoaolgapaaGreatDoorCoreMemOp
import Derived.Test.YtkkhofoaolgapaaGreatDoorClockBase
set_option linter.unusedVariables false
namespace Go.Proofs.YtkkhofoaolgapaaGreatDoor.Core
open Go.RowKit Go.Proofs.YtkkhofoaolgapaaGreatDoor.Mem Go.Proofs.YtkkhofoaolgapaaGreatDoor.Alu

/-- Is a register one of Regs? -/
def listB (W : Wo) (r : Int) : Bool := bit (W.i.rg % 4294967296) r == 1

theorem lists_any {w : World} {B : Nat} {W : Wo} (h : Wk w B W) (r : Int) :
    Calls Tryz.prog 111 #[.pointer (some ⟨B, 0, none⟩), .int .i64 r] w fun e w' => e = .returned (.bool (listB W r)) ∧ ∃ m, w' = w.drewN m := by
  have crg := h.crg
  go_enter Tryz.func111, Tryz.ntmps111
  go_wp2_with (go_at_call 148; refine (Bit_any _ _ (by omega) (by omega) _).mono ?_; rintro e w' ⟨rfl, rfl⟩)
  go_ret
  exact ⟨rfl, 0, rfl⟩

def lddW (W : Wo) (r x : Int) : Wo := if r = 15 then backW W x else W.reg r.toNat x

theorem loaded_any {w : World} {B : Nat} {W : Wo} (h : Wk w B W) (r x : Int) (h0 : 0 ≤ r) (h1 : r < 16) :
    Calls Tryz.prog 112 #[.pointer (some ⟨B, 0, none⟩), .int .i64 r, .int .u32 x] w fun e w' => e = .returned (.tuple #[]) ∧ Wk w' B (lddW W r x) ∧ Off [B] w w' := by
  obtain ⟨k, hk⟩ := Int.eq_ofNat_of_zero_le h0
  subst hk
  have ck := h.reg k (by omega)
  have fk := h.free k
  by_cases h15 : (k : Int) = 15
  · have HQ : Hid (lddW W k x = backW W x) := by unfold Hid lddW; rw [if_pos h15]
    go_enter Tryz.func112, Tryz.ntmps112
    go_wp2_with fail
    refine (goBack_any h x).mono ?_
    rintro e w1 ⟨rfl, h1, o1⟩
    go_wp2_with fail
    refine bodyPost_ret (v := .tuple #[]) (by simp [results, Tryz.results112, go_sem]) rfl ⟨rfl, by rw [HQ.out]; exact h1, o1⟩
  · have HQ : Hid (lddW W k x = W.reg k x) := by unfold Hid lddW; rw [if_neg h15]; rfl
    go_enter Tryz.func112, Tryz.ntmps112
    go_wp2_with fail
    all_goals (try (go_region; go_wp2_with fail))
    go_end0
    exact ⟨rfl, by rw [HQ.out]; first | exact h.putR k (by omega) _ | exact (h.putR k (by omega) _).drew, by first | exact (Off.refl _ _).set (by simp) _ | exact ((Off.refl _ _).set (by simp) _).drew⟩
end Go.Proofs.YtkkhofoaolgapaaGreatDoor.Core

