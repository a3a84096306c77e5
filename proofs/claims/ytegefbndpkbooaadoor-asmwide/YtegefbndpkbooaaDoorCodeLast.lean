/- CodeBytesC, InstSame, CodeSame, CodeOfC, joined. -/
import Derived.Test.YtegefbndpkbooaaDoorInstSame
import Derived.Test.YtegefbndpkbooaaDoorCodeEnds
import Derived.WalkKit
import Derived.Test.YtegefbndpkbooaaDoorChecked
import Derived.ProofKit
import Derived.Test.YtegefbndpkbooaaDoorCodeFlds
import Derived.Test.YtegefbndpkbooaaDoorCodeOwnB
import Derived.Test.YtegefbndpkbooaaDoorCodeBacks

/-! What appendHalf, Bytes and half of package code answer: contracts. -/
set_option linter.unusedVariables false
namespace Go.Proofs.YtegefbndpkbooaaDoor.Code
open Go.RowKit Go.Proofs.YtegefbndpkbooaaDoor.Alu Go.Proofs.YtegefbndpkbooaaDoor.Imm Go.Proofs.YtegefbndpkbooaaDoor.Inst

theorem infoU8 : (Tryd.prog.info? 5).map (fun i => (i.zero, i.size, i.bytes)) = some (some (.int .u8 0), 1, 1) := by kernel_rfl

theorem appendHalf_any (B : Nat) (x : Int) (v : Value) (n : Nat) (xs : List Value) (hx : 0 ≤ x) (hx2 : x < 4294967296) (hn : n ≤ 1000) (w : World) (hown : w.ownsRow B 5 1 v n xs) (hB : B ≤ w.heap.size) :
    Calls Tryd.prog 62 #[v, .int .u32 x] w fun e w' => ∃ v', e = .returned v' ∧ w'.ownsRow B 5 1 v' (n + 2) (xs ++ [.int .u8 (x % 256), .int .u8 (x / 256 % 256)]) ∧ Below B w w' := by
  obtain ⟨i0, hi, hz0, hz1, hz2⟩ := info_parts infoU8
  go_enter Tryd.func62, Tryd.ntmps62
  go_wp2_with (at_builtin; refine wpList_append_own _ rfl (.tmp 5) (.tmp 11) 27 rfl B 5 i0 (.int .u8 0) 1 1 Tryd.underlying27 hi hz0 hz1 hz2 rfl (by decide) _ _ _ rfl (hown.alloc _) ⟨w.heap.size, 0, none⟩ 2 2 [.int .u8 (x % 256), .int .u8 (x / 256 % 256)] rfl rfl ?c1 ?c2 ?c3 ?c4 ?c5 ?_)
  case c1 =>
    intro j u hj
    match j, hj with
    | 0, hj => simp at hj; subst hj; simp [Addr.add]
    | 1, hj => simp at hj; subst hj; simp [Addr.add]
  case c2 => intro u hu; simp at hu; rcases hu with rfl | rfl <;> rfl
  case c3 => unfold maxLen; omega
  case c4 => omega
  case c5 => simp; omega
  · intro v' w1 hown' hgrow _
    go_wp2_with fail
    go_ret
    refine ⟨v', rfl, hown', ?_⟩
    have hb := (Below.refl B w).alloc hB (.cells #[.int .u8 (x % 256), .int .u8 (x / 256 % 256)] 5)
    exact hb.grown hgrow (by simp; omega) (fun k hk => (hown.lt k hk).1)

/-- A word's bytes: its halves, the low byte of each first. -/
def byt (W : Int) (wide : Bool) : List Int := if wide then [W / 65536 % 256, W / 65536 / 256 % 256, W % 256, W / 256 % 256] else [W % 256, W / 256 % 256]
def u8s (l : List Int) : List Value := l.map (Value.int .u8)

theorem Bytes_no (f rd rn rm ra im kd bs st cd rg : Int) (h : right f rd rn rm ra im kd bs st cd rg = false) (w : World) (hL : Laid w) :
    Calls Tryd.prog 51 #[.agg #[.int .i64 f, .int .i64 rd, .int .i64 rn, .int .i64 rm, .int .i64 ra, .int .i64 im, .int .i64 kd, .int .i64 bs, .int .i64 st, .int .i64 cd, .int .i64 rg]] w fun e w' => e = .returned (.tuple #[.slice none 0 0, .int .i64 10]) ∧ Below w.heap.size w w' := by
  have hB := (Below.refl w.heap.size w).alloc (Nat.le_refl _) (.cells #[.int .i64 f, .int .i64 rd, .int .i64 rn, .int .i64 rm, .int .i64 ra, .int .i64 im, .int .i64 kd, .int .i64 bs, .int .i64 st, .int .i64 cd, .int .i64 rg] 36)
  go_enter Tryd.func51, Tryd.ntmps51
  go_wp2_with fail
  refine (Word_no _ _ _ _ _ _ _ _ _ _ _ h _ (hL.alloc _)).mono ?_
  rintro e w1 ⟨rfl, hb1⟩
  go_wp2_with fail
  go_ret2
  exact ⟨rfl, hB.trans (hb1.mono hB.size)⟩

theorem Bytes_yes (f rd rn rm ra im kd bs st cd rg : Int) (h : right f rd rn rm ra im kd bs st cd rg = true) (g0 : -9223372036854775808 ≤ rg) (g1 : rg ≤ 9223372036854775807) (w : World) (hL : Laid w) :
    Calls Tryd.prog 51 #[.agg #[.int .i64 f, .int .i64 rd, .int .i64 rn, .int .i64 rm, .int .i64 ra, .int .i64 im, .int .i64 kd, .int .i64 bs, .int .i64 st, .int .i64 cd, .int .i64 rg]] w fun e w' => ∃ v, e = .returned (.tuple #[v, .int .i64 0]) ∧ w'.ownsRow w.heap.size 5 1 v (byt (wd f rd rn rm ra im kd bs st cd rg) (wdF f)).length (u8s (byt (wd f rd rn rm ra im kd bs st cd rg) (wdF f))) ∧ Below w.heap.size w w' := by
  have hB := (Below.refl w.heap.size w).alloc (Nat.le_refl _) (.cells #[.int .i64 f, .int .i64 rd, .int .i64 rn, .int .i64 rm, .int .i64 ra, .int .i64 im, .int .i64 kd, .int .i64 bs, .int .i64 st, .int .i64 cd, .int .i64 rg] 36)
  have hw := (apart_add h g0 g1).2.2.2
  cases hwd : wdF f
  · go_enter Tryd.func51, Tryd.ntmps51
    go_wp2_with fail
    refine (Word_yes _ _ _ _ _ _ _ _ _ _ _ h g0 g1 _ (hL.alloc _)).mono ?_
    rintro e w1 ⟨rfl, hb1⟩
    obtain ⟨hc, hf⟩ := bcell hb1
    have hB1 := hB.trans (hb1.mono hB.size)
    go_wp2_with (go_at_call 37; refine (Inst.Wide_any _ _).mono ?_; rintro e w' ⟨rfl, rfl⟩)
    refine (appendHalf_any w.heap.size _ _ 0 [] hw.1 hw.2 (by decide) _ (World.ownsRow_nil _ _ _ _) hB1.size).mono ?_
    rintro e w2 ⟨v, rfl, hown, hb2⟩
    go_wp2_with fail
    go_ret2
    exact ⟨v, rfl, hown, hB1.trans hb2⟩
  · go_enter Tryd.func51, Tryd.ntmps51
    go_wp2_with fail
    refine (Word_yes _ _ _ _ _ _ _ _ _ _ _ h g0 g1 _ (hL.alloc _)).mono ?_
    rintro e w1 ⟨rfl, hb1⟩
    obtain ⟨hc, hf⟩ := bcell hb1
    have hB1 := hB.trans (hb1.mono hB.size)
    go_wp2_with (go_at_call 37; refine (Inst.Wide_any _ _).mono ?_; rintro e w' ⟨rfl, rfl⟩)
    refine (appendHalf_any w.heap.size _ _ 0 [] (by omega) (by omega) (by decide) _ (World.ownsRow_nil _ _ _ _) hB1.size).mono ?_
    rintro e w2 ⟨v, rfl, hown, hb2⟩
    have hB2 := hB1.trans hb2
    go_wp2_with fail
    refine (appendHalf_any w.heap.size _ _ 2 _ hw.1 hw.2 (by decide) _ hown hB2.size).mono ?_
    rintro e w3 ⟨v3, rfl, hown3, hb3⟩
    go_wp2_with fail
    go_ret2
    exact ⟨v3, rfl, hown3, hB2.trans hb3⟩

end Go.Proofs.YtegefbndpkbooaaDoor.Code

/-! Two instructions held against each other by '=='. -/
set_option linter.unusedVariables false
namespace Go.Proofs.YtegefbndpkbooaaDoor.Inst
open Go.RowKit

set_option maxRecDepth 100000 in
theorem eql_inst (w : World) (a0 a1 a2 a3 a4 a5 a6 a7 a8 a9 a10 b0 b1 b2 b3 b4 b5 b6 b7 b8 b9 b10 : Int) : (binOp .eql 36 (.agg #[.int .i64 a0, .int .i64 a1, .int .i64 a2, .int .i64 a3, .int .i64 a4, .int .i64 a5, .int .i64 a6, .int .i64 a7, .int .i64 a8, .int .i64 a9, .int .i64 a10]) (.agg #[.int .i64 b0, .int .i64 b1, .int .i64 b2, .int .i64 b3, .int .i64 b4, .int .i64 b5, .int .i64 b6, .int .i64 b7, .int .i64 b8, .int .i64 b9, .int .i64 b10])).run Tryd.prog w = .ok (.bool (same a0 a1 a2 a3 a4 a5 a6 a7 a8 a9 a10 b0 b1 b2 b3 b4 b5 b6 b7 b8 b9 b10)) w := by
  rw [run_eql_struct, run_equalIn_agg w 9999 36 _ _ (by kernel_rfl) (by kernel_rfl)]
  unfold Program.fieldsOf
  rw [Tryd.underlying36]
  exact congrArg (fun r => Result.andThen r (fun b w' => Result.ok (Value.bool b) w')) (eq_step (a := a0) (b := b0) (by decide) Tryd.underlying34 (fun _ => by kernel_rfl) (fun _ => by kernel_rfl) (eq_step (a := a1) (b := b1) (by decide) Tryd.underlying3 (fun _ => by kernel_rfl) (fun _ => by kernel_rfl) (eq_step (a := a2) (b := b2) (by decide) Tryd.underlying3 (fun _ => by kernel_rfl) (fun _ => by kernel_rfl) (eq_step (a := a3) (b := b3) (by decide) Tryd.underlying3 (fun _ => by kernel_rfl) (fun _ => by kernel_rfl) (eq_step (a := a4) (b := b4) (by decide) Tryd.underlying3 (fun _ => by kernel_rfl) (fun _ => by kernel_rfl) (eq_step (a := a5) (b := b5) (by decide) Tryd.underlying3 (fun _ => by kernel_rfl) (fun _ => by kernel_rfl) (eq_step (a := a6) (b := b6) (by decide) Tryd.underlying3 (fun _ => by kernel_rfl) (fun _ => by kernel_rfl) (eq_step (a := a7) (b := b7) (by decide) Tryd.underlying3 (fun _ => by kernel_rfl) (fun _ => by kernel_rfl) (eq_step (a := a8) (b := b8) (by decide) Tryd.underlying3 (fun _ => by kernel_rfl) (fun _ => by kernel_rfl) (eq_step (a := a9) (b := b9) (by decide) Tryd.underlying3 (fun _ => by kernel_rfl) (fun _ => by kernel_rfl) (eq_step (a := a10) (b := b10) (by decide) Tryd.underlying3 (fun _ => by kernel_rfl) (fun _ => by kernel_rfl) eq_nil)))))))))))

set_option maxRecDepth 100000 in
theorem eql_ref (w : World) (a0 a1 a2 a3 a4 a5 a6 a7 a8 a9 a10 b0 b1 b2 b3 b4 b5 b6 b7 b8 b9 b10 : Int) : (binOp .eql 49 (.agg #[.int .i64 a0, .int .i64 a1, .int .i64 a2, .int .i64 a3, .int .i64 a4, .int .i64 a5, .int .i64 a6, .int .i64 a7, .int .i64 a8, .int .i64 a9, .int .i64 a10]) (.agg #[.int .i64 b0, .int .i64 b1, .int .i64 b2, .int .i64 b3, .int .i64 b4, .int .i64 b5, .int .i64 b6, .int .i64 b7, .int .i64 b8, .int .i64 b9, .int .i64 b10])).run Tryd.prog w = .ok (.bool (same a0 a1 a2 a3 a4 a5 a6 a7 a8 a9 a10 b0 b1 b2 b3 b4 b5 b6 b7 b8 b9 b10)) w := by
  rw [run_eql_struct, run_equalIn_agg w 9999 49 _ _ (by kernel_rfl) (by kernel_rfl)]
  unfold Program.fieldsOf
  rw [Tryd.underlying49]
  exact congrArg (fun r => Result.andThen r (fun b w' => Result.ok (Value.bool b) w')) (eq_step (a := a0) (b := b0) (by decide) Tryd.underlying3 (fun _ => by kernel_rfl) (fun _ => by kernel_rfl) (eq_step (a := a1) (b := b1) (by decide) Tryd.underlying3 (fun _ => by kernel_rfl) (fun _ => by kernel_rfl) (eq_step (a := a2) (b := b2) (by decide) Tryd.underlying3 (fun _ => by kernel_rfl) (fun _ => by kernel_rfl) (eq_step (a := a3) (b := b3) (by decide) Tryd.underlying3 (fun _ => by kernel_rfl) (fun _ => by kernel_rfl) (eq_step (a := a4) (b := b4) (by decide) Tryd.underlying3 (fun _ => by kernel_rfl) (fun _ => by kernel_rfl) (eq_step (a := a5) (b := b5) (by decide) Tryd.underlying3 (fun _ => by kernel_rfl) (fun _ => by kernel_rfl) (eq_step (a := a6) (b := b6) (by decide) Tryd.underlying3 (fun _ => by kernel_rfl) (fun _ => by kernel_rfl) (eq_step (a := a7) (b := b7) (by decide) Tryd.underlying3 (fun _ => by kernel_rfl) (fun _ => by kernel_rfl) (eq_step (a := a8) (b := b8) (by decide) Tryd.underlying3 (fun _ => by kernel_rfl) (fun _ => by kernel_rfl) (eq_step (a := a9) (b := b9) (by decide) Tryd.underlying3 (fun _ => by kernel_rfl) (fun _ => by kernel_rfl) (eq_step (a := a10) (b := b10) (by decide) Tryd.underlying3 (fun _ => by kernel_rfl) (fun _ => by kernel_rfl) eq_nil)))))))))))

end Go.Proofs.YtegefbndpkbooaaDoor.Inst

/-! What Of of package code answers: a contract. -/
set_option linter.unusedVariables false
namespace Go.Proofs.YtegefbndpkbooaaDoor.Code
open Go.RowKit Go.Proofs.YtegefbndpkbooaaDoor.Alu Go.Proofs.YtegefbndpkbooaaDoor.Imm Go.Proofs.YtegefbndpkbooaaDoor.Inst

/-- A right instruction has a word, and is wide or not. -/
structure Has (W : Int) (wide : Bool) (f rd rn rm ra im kd bs st cd rg : Int) : Prop where
  right : right f rd rn rm ra im kd bs st cd rg = true
  lo : -9223372036854775808 ≤ rg
  hi : rg ≤ 9223372036854775807
  word : wd f rd rn rm ra im kd bs st cd rg = W
  wide : wdF f = wide
def NoneFrom (W : Int) (wide : Bool) (k : Int) : Prop := ∀ f rd rn rm ra im kd bs st cd rg : Int, Has W wide f rd rn rm ra im kd bs st cd rg → k ≤ f

theorem none_first (W : Int) (wide : Bool) : NoneFrom W wide 1 := fun f _ _ _ _ _ _ _ _ _ _ h => (at_own h.right h.lo h.hi).1.1
theorem none_width {W : Int} {wide : Bool} {k : Int} (h : NoneFrom W wide k) (hk : ¬ wdF k = wide) : NoneFrom W wide (k + 1) := fun f rd rn rm ra im kd bs st cd rg g => by
  have := h f rd rn rm ra im kd bs st cd rg g
  by_cases e : f = k
  · subst e; exact absurd g.wide hk
  · omega
theorem none_mask {W : Int} {wide : Bool} {k : Int} (h : NoneFrom W wide k) (hk : ¬ bits .and .u32 W (bts k) = bts k) : NoneFrom W wide (k + 1) := fun f rd rn rm ra im kd bs st cd rg g => by
  have := h f rd rn rm ra im kd bs st cd rg g
  by_cases e : f = k
  · subst e
    have a := (apart_add g.right g.lo g.hi).2.1
    rw [g.word] at a; exact absurd a hk
  · omega
theorem none_read {W : Int} {wide : Bool} {k rd rn rm ra im kd bs st cd rg : Int} (h : NoneFrom W wide k) (hr : cF k (shp k) (bits .andNot .u32 W (bts k)) = [rd, rn, rm, ra, im, kd, bs, st, cd, rg]) (hk : ¬ (right k rd rn rm ra im kd bs st cd rg = true ∧ wd k rd rn rm ra im kd bs st cd rg = W)) : NoneFrom W wide (k + 1) := fun f rd' rn' rm' ra' im' kd' bs' st' cd' rg' g => by
  have := h f rd' rn' rm' ra' im' kd' bs' st' cd' rg' g
  by_cases e : f = k
  · subst e
    have a := (apart_add g.right g.lo g.hi).2.2.1
    have b := own_back g.right g.lo g.hi
    rw [g.word] at a
    rw [a, b] at hr
    simp only [List.cons.injEq, and_true] at hr
    obtain ⟨rfl, rfl, rfl, rfl, rfl, rfl, rfl, rfl, rfl, rfl⟩ := hr
    exact absurd ⟨g.right, g.word⟩ hk
  · omega
theorem cF_rg (f s x : Int) (h0 : 1 ≤ s) (h1 : s ≤ 34) : 0 ≤ (cF f s x).getD 9 0 ∧ (cF f s x).getD 9 0 ≤ 65535 := by
  rcases (show s = 1 ∨ s = 2 ∨ s = 3 ∨ s = 4 ∨ s = 5 ∨ s = 6 ∨ s = 7 ∨ s = 8 ∨ s = 9 ∨ s = 10 ∨ s = 11 ∨ s = 12 ∨ 13 ≤ s by omega) with rfl | rfl | rfl | rfl | rfl | rfl | rfl | rfl | rfl | rfl | rfl | rfl | hk
  · rw [cF_1]; exact ⟨Int.le_refl 0, (by decide : (0 : Int) ≤ 65535)⟩
  · rw [cF_2]; exact ⟨Int.le_refl 0, (by decide : (0 : Int) ≤ 65535)⟩
  · rw [cF_3]; exact ⟨Int.le_refl 0, (by decide : (0 : Int) ≤ 65535)⟩
  · rw [cF_4]; exact ⟨Int.le_refl 0, (by decide : (0 : Int) ≤ 65535)⟩
  · rw [cF_5]; exact ⟨Int.le_refl 0, (by decide : (0 : Int) ≤ 65535)⟩
  · rw [cF_6]; exact ⟨Int.le_refl 0, (by decide : (0 : Int) ≤ 65535)⟩
  · rw [cF_7]; exact ⟨Int.le_refl 0, (by decide : (0 : Int) ≤ 65535)⟩
  · rw [cF_8]; exact ⟨Int.le_refl 0, (by decide : (0 : Int) ≤ 65535)⟩
  · rw [cF_9]; exact ⟨Int.le_refl 0, (by decide : (0 : Int) ≤ 65535)⟩
  · rw [cF_10]; exact ⟨Int.le_refl 0, (by decide : (0 : Int) ≤ 65535)⟩
  · rw [cF_11]; show 0 ≤ x / 256 % 2 * 16384 + x % 256 ∧ x / 256 % 2 * 16384 + x % 256 ≤ 65535; omega
  · rw [cF_12]; show 0 ≤ x / 256 % 2 * 32768 + x % 256 ∧ x / 256 % 2 * 32768 + x % 256 ≤ 65535; omega
  rcases (show s = 13 ∨ s = 14 ∨ s = 15 ∨ s = 16 ∨ s = 17 ∨ s = 18 ∨ s = 19 ∨ s = 20 ∨ s = 21 ∨ s = 22 ∨ s = 23 ∨ s = 24 ∨ 25 ≤ s by omega) with rfl | rfl | rfl | rfl | rfl | rfl | rfl | rfl | rfl | rfl | rfl | rfl | hk
  · rw [cF_13]; exact ⟨Int.le_refl 0, (by decide : (0 : Int) ≤ 65535)⟩
  · rw [cF_14]; exact ⟨Int.le_refl 0, (by decide : (0 : Int) ≤ 65535)⟩
  · rw [cF_15]; exact ⟨Int.le_refl 0, (by decide : (0 : Int) ≤ 65535)⟩
  · rw [cF_16]; exact ⟨Int.le_refl 0, (by decide : (0 : Int) ≤ 65535)⟩
  · rw [cF_17]; exact ⟨Int.le_refl 0, (by decide : (0 : Int) ≤ 65535)⟩
  · rw [cF_18]; exact ⟨Int.le_refl 0, (by decide : (0 : Int) ≤ 65535)⟩
  · rw [cF_19]; exact ⟨Int.le_refl 0, (by decide : (0 : Int) ≤ 65535)⟩
  · rw [cF_20]; exact ⟨Int.le_refl 0, (by decide : (0 : Int) ≤ 65535)⟩
  · rw [cF_21]; exact ⟨Int.le_refl 0, (by decide : (0 : Int) ≤ 65535)⟩
  · rw [cF_22]; exact ⟨Int.le_refl 0, (by decide : (0 : Int) ≤ 65535)⟩
  · rw [cF_23]; exact ⟨Int.le_refl 0, (by decide : (0 : Int) ≤ 65535)⟩
  · rw [cF_24]; exact ⟨Int.le_refl 0, (by decide : (0 : Int) ≤ 65535)⟩
  rcases (show s = 25 ∨ s = 26 ∨ s = 27 ∨ s = 28 ∨ s = 29 ∨ s = 30 ∨ s = 31 ∨ s = 32 ∨ s = 33 ∨ s = 34 by omega) with rfl | rfl | rfl | rfl | rfl | rfl | rfl | rfl | rfl | rfl
  · rw [cF_25]; exact ⟨Int.le_refl 0, (by decide : (0 : Int) ≤ 65535)⟩
  · rw [cF_26]; exact ⟨Int.le_refl 0, (by decide : (0 : Int) ≤ 65535)⟩
  · rw [cF_27]; exact ⟨Int.le_refl 0, (by decide : (0 : Int) ≤ 65535)⟩
  · rw [cF_28]; exact ⟨Int.le_refl 0, (by decide : (0 : Int) ≤ 65535)⟩
  · rw [cF_29]; exact ⟨Int.le_refl 0, (by decide : (0 : Int) ≤ 65535)⟩
  · rw [cF_30]; exact ⟨Int.le_refl 0, (by decide : (0 : Int) ≤ 65535)⟩
  · rw [cF_31]; exact ⟨Int.le_refl 0, (by decide : (0 : Int) ≤ 65535)⟩
  · rw [cF_32]; exact ⟨Int.le_refl 0, (by decide : (0 : Int) ≤ 65535)⟩
  · rw [cF_33]; exact ⟨Int.le_refl 0, (by decide : (0 : Int) ≤ 65535)⟩
  · rw [cF_34]; exact ⟨Int.le_refl 0, (by decide : (0 : Int) ≤ 65535)⟩
theorem rg_of {f x rd rn rm ra im kd bs st cd rg : Int} (h0 : 1 ≤ f) (h1 : f ≤ 100) (h : cF f (shp f) x = [rd, rn, rm, ra, im, kd, bs, st, cd, rg]) : 0 ≤ rg ∧ rg ≤ 65535 := by
  have hs := shp_yes (isF_yes ⟨h0, h1⟩)
  have := cF_rg f (shp f) x hs.1 hs.2.1
  rw [h] at this; exact this

/-- What Of answers. -/
def OfPost (W : Int) (wide : Bool) (w : World) (e : Ending) (w' : World) : Prop :=
  Below w.heap.size w w' ∧ ((∃ f rd rn rm ra im kd bs st cd rg : Int, Has W wide f rd rn rm ra im kd bs st cd rg ∧ e = .returned (.tuple #[.agg #[.int .i64 f, .int .i64 rd, .int .i64 rn, .int .i64 rm, .int .i64 ra, .int .i64 im, .int .i64 kd, .int .i64 bs, .int .i64 st, .int .i64 cd, .int .i64 rg], .int .i64 0])) ∨ (NoneFrom W wide 101 ∧ e = .returned (.tuple #[.agg #[.int .i64 0, .int .i64 0, .int .i64 0, .int .i64 0, .int .i64 0, .int .i64 0, .int .i64 0, .int .i64 0, .int .i64 0, .int .i64 0, .int .i64 0], .int .i64 40])))

theorem ofPost_no {W : Int} {wide : Bool} {w w' : World} (hb : Below w.heap.size w w') (hn : NoneFrom W wide 101) : OfPost W wide w (.returned (.tuple #[.agg #[.int .i64 0, .int .i64 0, .int .i64 0, .int .i64 0, .int .i64 0, .int .i64 0, .int .i64 0, .int .i64 0, .int .i64 0, .int .i64 0, .int .i64 0], .int .i64 40])) w' := ⟨hb, .inr ⟨hn, rfl⟩⟩
theorem ofPost_yes {W : Int} {wide : Bool} {w w' : World} {f rd rn rm ra im kd bs st cd rg : Int} (hb : Below w.heap.size w w') (h : Has W wide f rd rn rm ra im kd bs st cd rg) : OfPost W wide w (.returned (.tuple #[.agg #[.int .i64 f, .int .i64 rd, .int .i64 rn, .int .i64 rm, .int .i64 ra, .int .i64 im, .int .i64 kd, .int .i64 bs, .int .i64 st, .int .i64 cd, .int .i64 rg], .int .i64 0])) w' := ⟨hb, .inl ⟨f, rd, rn, rm, ra, im, kd, bs, st, cd, rg, h, rfl⟩⟩
theorem below_keep {W wr w1 : World} (hb : Below W.heap.size W wr) (h1 : Below wr.heap.size wr w1) : Below W.heap.size W w1 := hb.trans (h1.mono hb.size)

set_option maxHeartbeats 1000000 in
theorem Of_any (W : Int) (wide : Bool) (h0 : 0 ≤ W) (h1 : W < 4294967296) (w : World) (hL : Laid w) :
    Calls Tryd.prog 25 #[.int .u32 W, .bool wide] w (OfPost W wide w) := by
  have hB := (Below.refl w.heap.size w).alloc (Nat.le_refl _) (.cells #[.int .i64 0, .int .i64 0, .int .i64 0, .int .i64 0, .int .i64 0, .int .i64 0, .int .i64 0, .int .i64 0, .int .i64 0, .int .i64 0, .int .i64 0] 36)
  have HN := hide (none_first W wide)
  go_enter Tryd.func25, Tryd.ntmps25
  go_wp2_with fail
  go_loopw [6] (fun i wr => ∃ k : Nat, 1 ≤ k ∧ k ≤ 101 ∧ i = .int .i64 k ∧ Below (w.alloc (.cells #[.int .i64 0, .int .i64 0, .int .i64 0, .int .i64 0, .int .i64 0, .int .i64 0, .int .i64 0, .int .i64 0, .int .i64 0, .int .i64 0, .int .i64 0] 36)).heap.size (w.alloc (.cells #[.int .i64 0, .int .i64 0, .int .i64 0, .int .i64 0, .int .i64 0, .int .i64 0, .int .i64 0, .int .i64 0, .int .i64 0, .int .i64 0, .int .i64 0] 36)) wr ∧ Hid (NoneFrom W wide k)) (fun i _ => 101 - (intOf i).toNat)
  case atStart => exact ⟨1, by omega, by omega, rfl, Below.refl _ _, HN⟩
  case round =>
    obtain ⟨k, k0, k1, rfl, hb, hno⟩ := hrel
    have hLr : Laid wr := (hL.below hB).below hb
    obtain ⟨hc, hfz⟩ := bcell hb
    by_cases hk : k = 101
    · subst hk
      have hI : isF ((101 : Nat) : Int) = false := by decide
      go_wp2_with (go_at_call 36; refine (Is_any _ _).mono ?_; rintro e w' ⟨rfl, rfl⟩)
      exact bodyPost_ret (v := .tuple #[.agg #[.int .i64 0, .int .i64 0, .int .i64 0, .int .i64 0, .int .i64 0, .int .i64 0, .int .i64 0, .int .i64 0, .int .i64 0, .int .i64 0, .int .i64 0], .int .i64 40]) (by simp [results, Tryd.results25, go_sem, hc]) rfl (ofPost_no (set11 (hB.trans (hb.mono hB.size))) hno.out)
    · have hI : isF (k : Int) = true := isF_yes ⟨by omega, by omega⟩
      by_cases hw : wdF (k : Int) = wide
      · have hwb : (wdF (k : Int) != wide) = false := by simp [hw]
        have HW := hide hw
        clear hw
        by_cases hm : bits .and .u32 W (bts (k : Int)) = bts (k : Int)
        · have hmb : (bits .and .u32 W (bts (k : Int)) != bts (k : Int)) = false := by simp [hm]
          have hx := bits_u32_bd .andNot W (bts (k : Int))
          clear hm
          go_wp2_with (first | (go_at_call 36; refine (Is_any _ _).mono ?_; rintro e w' ⟨rfl, rfl⟩) | (go_at_call 37; refine (Inst.Wide_any _ _).mono ?_; rintro e w' ⟨rfl, rfl⟩) | (go_at_call 38; refine (Bits_any _ _ hLr.bits).mono ?_; rintro e w' ⟨rfl, rfl⟩))
          refine (withFields_any _ _ (by omega) (by omega) hx.1 hx.2 _ hLr.two).mono ?_
          rintro e w1 ⟨rd, rn, rm, ra, im, kd, bs, st, cd, rg, hcf, rfl, hb1⟩
          have hg := rg_of (by omega) (by omega) hcf
          have HC := hide hcf
          clear hcf hc hfz hx
          have hb2 := below_keep hb hb1
          have hL1 : Laid w1 := hLr.below hb1
          have hL2 := hL1.alloc (.cells #[.int .i64 ↑k, .int .i64 rd, .int .i64 rn, .int .i64 rm, .int .i64 ra, .int .i64 im, .int .i64 kd, .int .i64 bs, .int .i64 st, .int .i64 cd, .int .i64 rg] 36)
          have hb3 := hb2.alloc hb2.size (.cells #[.int .i64 ↑k, .int .i64 rd, .int .i64 rn, .int .i64 rm, .int .i64 ra, .int .i64 im, .int .i64 kd, .int .i64 bs, .int .i64 st, .int .i64 cd, .int .i64 rg] 36)
          clear hb hb1 hLr hb2
          cases hr : right (k : Int) rd rn rm ra im kd bs st cd rg
          · go_wp2_with fail
            refine (Word_no _ _ _ _ _ _ _ _ _ _ _ hr _ hL2).mono ?_
            rintro e w2 ⟨rfl, hb4⟩
            have hb5 := below_keep hb3 hb4
            clear hb3 hb4
            go_wp2_with fail
            go_roundw
            case rel => exact ⟨k + 1, by omega, by omega, by go_num, hb5, by have := none_read hno.out (unhide HC) (fun h => by rw [h.1] at hr; cases hr); exact this⟩
            case measure => simp [intOf]; omega
          · by_cases hq : wd (k : Int) rd rn rm ra im kd bs st cd rg = W
            · have HQ := hide hq
              clear hq
              have hqb : (wd (k : Int) rd rn rm ra im kd bs st cd rg == W) = true := by rw [unhide HQ]; simp
              have hcell : ∀ w2, Below (w1.alloc (.cells #[.int .i64 ↑k, .int .i64 rd, .int .i64 rn, .int .i64 rm, .int .i64 ra, .int .i64 im, .int .i64 kd, .int .i64 bs, .int .i64 st, .int .i64 cd, .int .i64 rg] 36)).heap.size (w1.alloc (.cells #[.int .i64 ↑k, .int .i64 rd, .int .i64 rn, .int .i64 rm, .int .i64 ra, .int .i64 im, .int .i64 kd, .int .i64 bs, .int .i64 st, .int .i64 cd, .int .i64 rg] 36)) w2 → (∀ b o, b < (w1.alloc (.cells #[.int .i64 ↑k, .int .i64 rd, .int .i64 rn, .int .i64 rm, .int .i64 ra, .int .i64 im, .int .i64 kd, .int .i64 bs, .int .i64 st, .int .i64 cd, .int .i64 rg] 36)).heap.size → w2.cell? ⟨b, o, none⟩ = (w1.alloc (.cells #[.int .i64 ↑k, .int .i64 rd, .int .i64 rn, .int .i64 rm, .int .i64 ra, .int .i64 im, .int .i64 kd, .int .i64 bs, .int .i64 st, .int .i64 cd, .int .i64 rg] 36)).cell? ⟨b, o, none⟩) := fun w2 h => (bcell h).1
              go_wp2_with fail
              refine (Word_yes _ _ _ _ _ _ _ _ _ _ _ hr (by omega) (by omega) _ hL2).mono ?_
              rintro e w2 ⟨rfl, hb4⟩
              have hi := hcell w2 hb4
              have hb5 := below_keep hb3 hb4
              obtain ⟨hc, hfz⟩ := bcell hb5
              clear hcell hb3 hb4
              go_wp2_with fail
              exact bodyPost_ret (v := .tuple #[.agg #[.int .i64 ↑k, .int .i64 rd, .int .i64 rn, .int .i64 rm, .int .i64 ra, .int .i64 im, .int .i64 kd, .int .i64 bs, .int .i64 st, .int .i64 cd, .int .i64 rg], .int .i64 0]) (by simp [results, Tryd.results25, go_sem, hc]) rfl (ofPost_yes (set11 (hB.trans (hb5.mono hB.size))) ⟨hr, by omega, by omega, unhide HQ, unhide HW⟩)
            · have HQ := hide hq
              have hqb : (wd (k : Int) rd rn rm ra im kd bs st cd rg == W) = false := by rw [beq_eq_false_iff_ne]; exact hq
              clear hq
              go_wp2_with fail
              refine (Word_yes _ _ _ _ _ _ _ _ _ _ _ hr (by omega) (by omega) _ hL2).mono ?_
              rintro e w2 ⟨rfl, hb4⟩
              have hb5 := below_keep hb3 hb4
              clear hb3 hb4
              go_wp2_with fail
              go_roundw
              case rel => exact ⟨k + 1, by omega, by omega, by go_num, hb5, by have := none_read hno.out (unhide HC) (fun h => unhide HQ h.2); exact this⟩
              case measure => simp [intOf]; omega
        · have hmb : (bits .and .u32 W (bts (k : Int)) != bts (k : Int)) = true := by simp [hm]
          have HM := hide hm
          clear hm
          go_wp2_with (first | (go_at_call 36; refine (Is_any _ _).mono ?_; rintro e w' ⟨rfl, rfl⟩) | (go_at_call 37; refine (Inst.Wide_any _ _).mono ?_; rintro e w' ⟨rfl, rfl⟩) | (go_at_call 38; refine (Bits_any _ _ hLr.bits).mono ?_; rintro e w' ⟨rfl, rfl⟩))
          go_roundw
          case rel => exact ⟨k + 1, by omega, by omega, by go_num, hb, by have := none_mask hno.out (unhide HM); exact this⟩
          case measure => simp [intOf]; omega
      · have hwb : (wdF (k : Int) != wide) = true := by simp [hw]
        have HW := hide hw
        clear hw
        go_wp2_with (first | (go_at_call 36; refine (Is_any _ _).mono ?_; rintro e w' ⟨rfl, rfl⟩) | (go_at_call 37; refine (Inst.Wide_any _ _).mono ?_; rintro e w' ⟨rfl, rfl⟩) | (go_at_call 38; refine (Bits_any _ _ hLr.bits).mono ?_; rintro e w' ⟨rfl, rfl⟩))
        go_roundw
        case rel => exact ⟨k + 1, by omega, by omega, by go_num, hb, by have := none_width hno.out (unhide HW); exact this⟩
        case measure => simp [intOf]; omega

end Go.Proofs.YtegefbndpkbooaaDoor.Code

