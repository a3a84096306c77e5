/- What each function of package imm, and the document's own, answers where the table of factors lies as it is laid: contracts. -/
import Derived.Test.YtegefbndpkbooaaDoorChecked
import Derived.Test.YtegefbndpkbooaaDoorAluAll
import Derived.Test.YtegefbndpkbooaaDoorBits64
import Derived.Test.YtegefbndpkbooaaDoorImmPre
import Derived.ProofKit
import Derived.Handy
import Derived.Outline
set_option linter.unusedVariables false
namespace Go.Proofs.YtegefbndpkbooaaDoor.Imm
open Go.RowKit Go.Proofs.YtegefbndpkbooaaDoor.Alu

/-- The table of factors lies in the program's own block 0. -/
structure Fac (w : World) : Prop where
  c0 : w.cell? ⟨2, 0, none⟩ = some (.int .u32 1)
  c1 : w.cell? ⟨2, 1, none⟩ = some (.int .u32 65537)
  c2 : w.cell? ⟨2, 2, none⟩ = some (.int .u32 16777472)
  c3 : w.cell? ⟨2, 3, none⟩ = some (.int .u32 16843009)

theorem ret_ib {k : IntKind} {a b : Int} {c d : Bool} (h : a = b) (g : c = d) : Ending.returned (.tuple #[.int k a, .bool c]) = .returned (.tuple #[.int k b, .bool d]) := by rw [h, g]

theorem expand_out (n c : Int) (h : n < 0 ∨ 4096 ≤ n) (w : World) :
    Calls Tryd.prog 78 #[.int .i64 n, .int .u32 c] w fun e w' => e = .returned (.tuple #[.int .u32 0, .int .u32 0, .int .i64 11]) ∧ w' = w := by
  by_cases h1 : n < 0
  · go_enter Tryd.func78, Tryd.ntmps78
    go_wp2
    go_ret3
    exact ⟨rfl, rfl⟩
  · have h2 : 4096 ≤ n := by omega
    go_enter Tryd.func78, Tryd.ntmps78
    go_wp2
    go_ret3
    exact ⟨rfl, rfl⟩

theorem expand_turned (n c : Int) (h0 : 1024 ≤ n) (h1 : n < 4096) (w : World) :
    Calls Tryd.prog 78 #[.int .i64 n, .int .u32 c] w fun e w' => e = .returned (.tuple #[.int .u32 (wd n), .int .u32 (wd n / 2147483648), .int .i64 0]) ∧ w' = w := by
  have hA : bits .and .i64 n 127 = n % 128 := i64_mask 7 n 127 (by omega) (by omega) (by decide) (by decide)
  have hO : bits .or .i64 128 (n % 128) = 128 + n % 128 := i64_join 7 128 (n % 128) (by omega) (by omega) (by omega) (by omega) (by decide) (by omega)
  have HW : Hid (_ = wd n) := shW_turned n h0 h1
  have HC : Hid (_ = wd n / 2147483648) := shC_turned n c h0 h1
  go_enter Tryd.func78, Tryd.ntmps78
  go_wp2_with fail
  refine (Shift_yes _ _ _ _ (by decide) (by decide) (by omega) (by omega) (by omega) (by omega) _).mono ?_
  rintro e w' ⟨rfl, rfl⟩
  go_wp2_with fail
  go_ret3
  exact ⟨ret_ints3 HW.out HC.out rfl, rfl⟩

theorem expand_none (n c : Int) (h0 : 256 ≤ n) (h1 : n < 1024) (h2 : n % 256 = 0) (w : World) :
    Calls Tryd.prog 78 #[.int .i64 n, .int .u32 c] w fun e w' => e = .returned (.tuple #[.int .u32 0, .int .u32 0, .int .i64 20]) ∧ w' = w := by
  have hA : bits .and .i64 n 255 = 0 := by rw [i64_mask 8 n 255 (by omega) (by omega) (by decide) (by decide)]; exact h2
  have hu : n / 256 < 4 := by omega
  have hu0 : 0 < n / 256 := by omega
  go_enter Tryd.func78, Tryd.ntmps78
  go_wp2
  go_ret3
  exact ⟨rfl, rfl⟩

theorem expand_low0 (n c b : Int) (hn : n = 0 + b) (hb : 0 ≤ b) (hb1 : b < 256) (w : World) (hc : w.cell? ⟨2, 0, none⟩ = some (.int .u32 1)) :
    Calls Tryd.prog 78 #[.int .i64 n, .int .u32 c] w fun e w' => e = .returned (.tuple #[.int .u32 (b * 1), .int .u32 (b01 c), .int .i64 0]) ∧ w' = w := by
  have hA : bits .and .i64 n 255 = b := by rw [i64_mask 8 n 255 (by omega) (by omega) (by decide) (by decide)]; omega
  have hd : n / 256 = 0 := by omega
  have hbf : 0 ≤ b * 1 ∧ b * 1 < 4294967296 := by omega
  clear hn
  go_enter Tryd.func78, Tryd.ntmps78
  go_wp2_with fail
  refine (Shift_yes _ _ _ _ (by decide) (by decide) (by omega) (by omega) (by omega) (by omega) _).mono ?_
  rintro e w' ⟨rfl, rfl⟩
  go_wp2_with fail
  go_ret3
  exact ⟨ret_ints3 (show b = b * 1 by omega) rfl rfl, rfl⟩

theorem expand_low1 (n c b : Int) (hn : n = 256 + b) (hb : 0 ≤ b) (hb1 : b < 256) (hz : b ≠ 0) (w : World) (hc : w.cell? ⟨2, 1, none⟩ = some (.int .u32 65537)) :
    Calls Tryd.prog 78 #[.int .i64 n, .int .u32 c] w fun e w' => e = .returned (.tuple #[.int .u32 (b * 65537), .int .u32 (b01 c), .int .i64 0]) ∧ w' = w := by
  have hA : bits .and .i64 n 255 = b := by rw [i64_mask 8 n 255 (by omega) (by omega) (by decide) (by decide)]; omega
  have hd : n / 256 = 1 := by omega
  have hbz : (b == 0) = false := by simpa using hz
  have hbf : 0 ≤ b * 65537 ∧ b * 65537 < 4294967296 := by omega
  clear hn
  go_enter Tryd.func78, Tryd.ntmps78
  go_wp2_with fail
  refine (Shift_yes _ _ _ _ (by decide) (by decide) (by omega) (by omega) (by omega) (by omega) _).mono ?_
  rintro e w' ⟨rfl, rfl⟩
  go_wp2_with fail
  go_ret3
  exact ⟨ret_ints3 rfl rfl rfl, rfl⟩

theorem expand_low2 (n c b : Int) (hn : n = 512 + b) (hb : 0 ≤ b) (hb1 : b < 256) (hz : b ≠ 0) (w : World) (hc : w.cell? ⟨2, 2, none⟩ = some (.int .u32 16777472)) :
    Calls Tryd.prog 78 #[.int .i64 n, .int .u32 c] w fun e w' => e = .returned (.tuple #[.int .u32 (b * 16777472), .int .u32 (b01 c), .int .i64 0]) ∧ w' = w := by
  have hA : bits .and .i64 n 255 = b := by rw [i64_mask 8 n 255 (by omega) (by omega) (by decide) (by decide)]; omega
  have hd : n / 256 = 2 := by omega
  have hbz : (b == 0) = false := by simpa using hz
  have hbf : 0 ≤ b * 16777472 ∧ b * 16777472 < 4294967296 := by omega
  clear hn
  go_enter Tryd.func78, Tryd.ntmps78
  go_wp2_with fail
  refine (Shift_yes _ _ _ _ (by decide) (by decide) (by omega) (by omega) (by omega) (by omega) _).mono ?_
  rintro e w' ⟨rfl, rfl⟩
  go_wp2_with fail
  go_ret3
  exact ⟨ret_ints3 rfl rfl rfl, rfl⟩

theorem expand_low3 (n c b : Int) (hn : n = 768 + b) (hb : 0 ≤ b) (hb1 : b < 256) (hz : b ≠ 0) (w : World) (hc : w.cell? ⟨2, 3, none⟩ = some (.int .u32 16843009)) :
    Calls Tryd.prog 78 #[.int .i64 n, .int .u32 c] w fun e w' => e = .returned (.tuple #[.int .u32 (b * 16843009), .int .u32 (b01 c), .int .i64 0]) ∧ w' = w := by
  have hA : bits .and .i64 n 255 = b := by rw [i64_mask 8 n 255 (by omega) (by omega) (by decide) (by decide)]; omega
  have hd : n / 256 = 3 := by omega
  have hbz : (b == 0) = false := by simpa using hz
  have hbf : 0 ≤ b * 16843009 ∧ b * 16843009 < 4294967296 := by omega
  clear hn
  go_enter Tryd.func78, Tryd.ntmps78
  go_wp2_with fail
  refine (Shift_yes _ _ _ _ (by decide) (by decide) (by omega) (by omega) (by omega) (by omega) _).mono ?_
  rintro e w' ⟨rfl, rfl⟩
  go_wp2_with fail
  go_ret3
  exact ⟨ret_ints3 rfl rfl rfl, rfl⟩

theorem ends3 {w : World} {f : Nat} {args : Array Value} {a b c a' b' c' : Int} (ha : a = a') (hb : b = b') (hc : c = c')
    (h : Calls Tryd.prog f args w fun e w' => e = .returned (.tuple #[.int .u32 a, .int .u32 b, .int .i64 c]) ∧ w' = w) :
    Calls Tryd.prog f args w fun e w' => e = .returned (.tuple #[.int .u32 a', .int .u32 b', .int .i64 c']) ∧ w' = w := by
  subst ha hb hc; exact h

theorem expand_any (n c : Int) (w : World) (hF : Fac w) :
    Calls Tryd.prog 78 #[.int .i64 n, .int .u32 c] w fun e w' => e = .returned (.tuple #[.int .u32 (wdA n), .int .u32 (cyA n c), .int .i64 (er n)]) ∧ w' = w := by
  by_cases h : n < 0 ∨ 4096 ≤ n
  · have he := er_out h
    exact ends3 (by unfold wdA; rw [he]; rfl) (by unfold cyA; rw [he]; rfl) he.symm (expand_out n c h w)
  · by_cases h1 : 1024 ≤ n
    · have he := er_of (n := n) (by omega) (by omega) (has_yes (by omega))
      exact ends3 (by unfold wdA; rw [he]; rfl) (by unfold cyA; rw [he, if_pos rfl, if_pos h1]) he.symm (expand_turned n c h1 (by omega) w)
    · by_cases h2 : 256 ≤ n ∧ n % 256 = 0
      · have he := er_no (n := n) (by omega) (by omega) (has_not (by omega))
        exact ends3 (by unfold wdA; rw [he]; rfl) (by unfold cyA; rw [he]; rfl) he.symm (expand_none n c (by omega) (by omega) (by omega) w)
      · have he := er_of (n := n) (by omega) (by omega) (has_yes (by omega))
        have hc : b01 c = cyA n c := by unfold cyA; rw [he, if_pos rfl, if_neg h1]
        have hw (u : Int) (hu : n / 256 = u) : n % 256 * fac u = wdA n := by unfold wdA wd; rw [he, if_pos rfl, if_neg h1, hu]
        obtain h4 | h4 | h4 | h4 : n / 256 = 0 ∨ n / 256 = 1 ∨ n / 256 = 2 ∨ n / 256 = 3 := by omega
        · exact ends3 (hw _ h4) hc he.symm (expand_low0 n c (n % 256) (by omega) (by omega) (by omega) w hF.c0)
        · exact ends3 (hw _ h4) hc he.symm (expand_low1 n c (n % 256) (by omega) (by omega) (by omega) (by omega) w hF.c1)
        · exact ends3 (hw _ h4) hc he.symm (expand_low2 n c (n % 256) (by omega) (by omega) (by omega) (by omega) w hF.c2)
        · exact ends3 (hw _ h4) hc he.symm (expand_low3 n c (n % 256) (by omega) (by omega) (by omega) (by omega) w hF.c3)

theorem Word_any (n : Int) (w : World) (hF : Fac w) :
    Calls Tryd.prog 72 #[.int .i64 n] w fun e w' => e = .returned (.tuple #[.int .u32 (wdA n), .int .i64 (er n)]) ∧ w' = w := by
  go_enter Tryd.func72, Tryd.ntmps72
  go_wp2_with (go_at_call 78; refine (expand_any _ _ _ hF).mono ?_; rintro e w' ⟨rfl, rfl⟩)
  go_ret2
  exact ⟨rfl, rfl⟩

theorem ends_ib {w : World} {f : Nat} {args : Array Value} {a a' : Int} {b b' : Bool} (ha : a = a') (hb : b = b')
    (h : Calls Tryd.prog f args w fun e w' => e = .returned (.tuple #[.int .u32 a, .bool b]) ∧ w' = w) :
    Calls Tryd.prog f args w fun e w' => e = .returned (.tuple #[.int .u32 a', .bool b']) ∧ w' = w := by
  subst ha hb; exact h

end Go.Proofs.YtegefbndpkbooaaDoor.Imm

