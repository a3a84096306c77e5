/- What the code's bits of a right instruction's fields are, shape by shape: contracts. -/
import Derived.Test.YtpgcnbipnjcniaaDoorCodeCut
import Derived.Test.YtpgcnbipnjcniaaDoorCodeLies
import Derived.Test.YtpgcnbipnjcniaaDoorInstForm
import Derived.BigQuiet
import Derived.Deep.QuietTactic
set_option linter.unusedVariables false
namespace Go.Proofs.YtpgcnbipnjcniaaDoor.Code
open Go.RowKit Go.Proofs.YtpgcnbipnjcniaaDoor.Alu Go.Proofs.YtpgcnbipnjcniaaDoor.Imm Go.Proofs.YtpgcnbipnjcniaaDoor.Inst

theorem below_drewN (w : World) (n : Nat) : Below w.heap.size w (w.drewN n) := ⟨rfl, rfl, rfl, Nat.le_refl _, fun _ _ => rfl⟩
theorem quiet_drew1 {P : Program} {f : FuncId} {args : Array Value} {w0 : World} {n : Nat} {v : Value} (h : Calls P f args (w0.drewN n) fun e w' => e = .returned v ∧ w' = (w0.drewN n).drew) : Calls P f args (w0.drewN n) fun e w' => e = .returned v ∧ ∃ m, w' = w0.drewN m :=
  h.mono fun e w' ⟨a, b⟩ => ⟨a, n + 1, b⟩
theorem quiet_drew2 {P : Program} {f : FuncId} {args : Array Value} {w0 : World} {n : Nat} {v : Value} (h : Calls P f args (w0.drewN n) fun e w' => e = .returned v ∧ w' = (w0.drewN n).drew.drew) : Calls P f args (w0.drewN n) fun e w' => e = .returned v ∧ ∃ m, w' = w0.drewN m :=
  h.mono fun e w' ⟨a, b⟩ => ⟨a, n + 2, b⟩
theorem fin_34 (rd rn rm ra im kd bs st cd rg : Int) : jwb (im % 4294967296) = add 34 rd rn rm ra im kd bs st cd rg := by
  rw [add_34]; unfold jwb sm j1 j2
  have a1 : im % 4294967296 / 16777216 % 2 = im / 16777216 % 2 := by omega
  have a2 : im % 4294967296 / 8388608 % 2 = im / 8388608 % 2 := by omega
  have a3 : im % 4294967296 / 4194304 % 2 = im / 4194304 % 2 := by omega
  rw [a1, a2, a3]
  congr 1
  · omega
  · omega
theorem fin_17 {a b t u v : Int} (ha : 0 ≤ a ∧ a ≤ 15) (hb : 0 ≤ b ∧ b ≤ 15) (ht : 0 ≤ t ∧ t ≤ 1) (hu : 0 ≤ u ∧ u ≤ 7) (hv : 0 ≤ v ∧ v ≤ 255) :
    bits .or .u32 (bits .or .u32 (a * 65536) (b * 256)) (t * 67108864 + u * 4096 + v) = a * 65536 + b * 256 + (t * 67108864 + u * 4096 + v) := by
  have h := (or_17 ha hb ht hu hv).1
  rw [(or_tw ht hu hv).1] at h
  exact h
theorem fin_18 {a b c t u v : Int} (ha : 0 ≤ a ∧ a ≤ 1) (hb : 0 ≤ b ∧ b ≤ 15) (hc : 0 ≤ c ∧ c ≤ 15) (ht : 0 ≤ t ∧ t ≤ 1) (hu : 0 ≤ u ∧ u ≤ 7) (hv : 0 ≤ v ∧ v ≤ 255) :
    bits .or .u32 (bits .or .u32 (bits .or .u32 (a * 1048576) (b * 65536)) (c * 256)) (t * 67108864 + u * 4096 + v) = a * 1048576 + b * 65536 + c * 256 + (t * 67108864 + u * 4096 + v) := by
  have h := (or_18 ha hb hc ht hu hv).1
  rw [(or_tw ht hu hv).1] at h
  exact h
theorem fin_33 {a b c d e g : Int} (ha : 0 ≤ a ∧ a ≤ 1) (hb : 0 ≤ b ∧ b ≤ 63) (hc : 0 ≤ c ∧ c ≤ 1) (hd : 0 ≤ d ∧ d ≤ 1) (he : 0 ≤ e ∧ e ≤ 2047) (hg : 0 ≤ g ∧ g ≤ 15) :
    bits .or .u32 (a * 67108864 + b * 65536 + c * 8192 + d * 2048 + e) (g * 4194304) = a * 67108864 + b * 65536 + c * 8192 + d * 2048 + e + g * 4194304 := by
  have h := (or_33 ha hb hc hd he hg).1
  rw [(or_cw ha hb hc hd he).1] at h
  exact h

theorem fb_10 (f rd rn rm ra im kd bs st cd rg : Int) (hs : shp f = 10) (l : (rd = 0) ∧ (rn = 0) ∧ (rm = 0) ∧ (ra = 0) ∧ (0 ≤ im ∧ im ≤ 508 ∧ im % 4 = 0) ∧ (kd = 0) ∧ (bs = 0) ∧ (st = 0) ∧ (cd = 0) ∧ (rg = 0)) (w : World) (hL : Inst.Laid w) :
    Calls Tryd.prog 56 #[.agg #[.int .i64 f, .int .i64 rd, .int .i64 rn, .int .i64 rm, .int .i64 ra, .int .i64 im, .int .i64 kd, .int .i64 bs, .int .i64 st, .int .i64 cd, .int .i64 rg]] w fun e w' => e = .returned (.int .u32 (add 10 rd rn rm ra im kd bs st cd rg)) ∧ Below w.heap.size w w' := by
  have b_im : 0 ≤ im ∧ im ≤ 508 := by omega
  clear l
  have hB := (Below.refl w.heap.size w).alloc (Nat.le_refl _) (.cells #[.int .i64 f, .int .i64 rd, .int .i64 rn, .int .i64 rm, .int .i64 ra, .int .i64 im, .int .i64 kd, .int .i64 bs, .int .i64 st, .int .i64 cd, .int .i64 rg] 25)
  have hLs := (hL.below hB.drew.drew).shs
  go_enter Tryd.func56, Tryd.ntmps56
  go_wp2_with fail
  go_region
  go_wp2_with fail
  go_region
  go_wp2_with (first | (go_at_call 58; refine (Shape_any _ _ hLs).mono ?_; rintro e w' ⟨rfl, rfl⟩))
  go_ret
  exact ⟨ret_int (by rw [add_10] <;> omega), hB.drew.drew⟩

theorem fb_11 (f rd rn rm ra im kd bs st cd rg : Int) (hs : shp f = 11) (l : (rd = 0) ∧ (rn = 0) ∧ (rm = 0) ∧ (ra = 0) ∧ (im = 0) ∧ (kd = 0) ∧ (bs = 0) ∧ (st = 0) ∧ (cd = 0) ∧ ((1 ≤ rg ∧ rg ≤ 255 ∨ 16384 ≤ rg ∧ rg ≤ 16639))) (w : World) (hL : Inst.Laid w) :
    Calls Tryd.prog 56 #[.agg #[.int .i64 f, .int .i64 rd, .int .i64 rn, .int .i64 rm, .int .i64 ra, .int .i64 im, .int .i64 kd, .int .i64 bs, .int .i64 st, .int .i64 cd, .int .i64 rg]] w fun e w' => e = .returned (.int .u32 (add 11 rd rn rm ra im kd bs st cd rg)) ∧ Below w.heap.size w w' := by
  have b_rg : 0 ≤ rg ∧ rg ≤ 65535 := by omega
  clear l
  have e0 := bit_at rg (k := 14) (by decide) (by decide) (by decide : pw 14 = 16384)
  have e1 := ct_at rg (h := 7) (l := 0) (by decide : pw 0 = 1) (by decide : pw (7 - 0 + 1) = 256)
  have hB := (Below.refl w.heap.size w).alloc (Nat.le_refl _) (.cells #[.int .i64 f, .int .i64 rd, .int .i64 rn, .int .i64 rm, .int .i64 ra, .int .i64 im, .int .i64 kd, .int .i64 bs, .int .i64 st, .int .i64 cd, .int .i64 rg] 25)
  have hLs := (hL.below hB.drew.drew).shs
  go_enter Tryd.func56, Tryd.ntmps56
  go_wp2_with fail
  go_region
  go_wp2_with fail
  go_region
  go_wp2_with (first | (go_at_call 58; refine (Shape_any _ _ hLs).mono ?_; rintro e w' ⟨rfl, rfl⟩) | (go_at_call 72; refine (Bit_any _ _ (by omega) (by omega) _).mono ?_; rintro e w' ⟨rfl, rfl⟩) | (go_at_call 22; refine (cut_any _ _ _ (by omega) (by omega) (by decide) (by decide) (by decide) _).mono ?_; rintro e w' ⟨rfl, rfl⟩))
  go_ret
  exact ⟨ret_int ((or_11 (by omega) (by omega)).1.trans (by rw [add_11] <;> omega)), hB.drew.drew.drew⟩

theorem fb_12 (f rd rn rm ra im kd bs st cd rg : Int) (hs : shp f = 12) (l : (rd = 0) ∧ (rn = 0) ∧ (rm = 0) ∧ (ra = 0) ∧ (im = 0) ∧ (kd = 0) ∧ (bs = 0) ∧ (st = 0) ∧ (cd = 0) ∧ ((1 ≤ rg ∧ rg ≤ 255 ∨ 32768 ≤ rg ∧ rg ≤ 33023))) (w : World) (hL : Inst.Laid w) :
    Calls Tryd.prog 56 #[.agg #[.int .i64 f, .int .i64 rd, .int .i64 rn, .int .i64 rm, .int .i64 ra, .int .i64 im, .int .i64 kd, .int .i64 bs, .int .i64 st, .int .i64 cd, .int .i64 rg]] w fun e w' => e = .returned (.int .u32 (add 12 rd rn rm ra im kd bs st cd rg)) ∧ Below w.heap.size w w' := by
  have b_rg : 0 ≤ rg ∧ rg ≤ 65535 := by omega
  clear l
  have e0 := bit_at rg (k := 15) (by decide) (by decide) (by decide : pw 15 = 32768)
  have e1 := ct_at rg (h := 7) (l := 0) (by decide : pw 0 = 1) (by decide : pw (7 - 0 + 1) = 256)
  have hB := (Below.refl w.heap.size w).alloc (Nat.le_refl _) (.cells #[.int .i64 f, .int .i64 rd, .int .i64 rn, .int .i64 rm, .int .i64 ra, .int .i64 im, .int .i64 kd, .int .i64 bs, .int .i64 st, .int .i64 cd, .int .i64 rg] 25)
  have hLs := (hL.below hB.drew.drew).shs
  go_enter Tryd.func56, Tryd.ntmps56
  go_wp2_with fail
  go_region
  go_wp2_with fail
  go_region
  go_wp2_with (first | (go_at_call 58; refine (Shape_any _ _ hLs).mono ?_; rintro e w' ⟨rfl, rfl⟩) | (go_at_call 72; refine (Bit_any _ _ (by omega) (by omega) _).mono ?_; rintro e w' ⟨rfl, rfl⟩) | (go_at_call 22; refine (cut_any _ _ _ (by omega) (by omega) (by decide) (by decide) (by decide) _).mono ?_; rintro e w' ⟨rfl, rfl⟩))
  go_ret
  exact ⟨ret_int ((or_11 (by omega) (by omega)).1.trans (by rw [add_12] <;> omega)), hB.drew.drew.drew⟩

theorem fb_13 (f rd rn rm ra im kd bs st cd rg : Int) (hs : shp f = 13) (l : (rd = 0) ∧ (rn = 0) ∧ (rm = 0) ∧ (ra = 0) ∧ (im = 0) ∧ (kd = 0) ∧ (bs = 0) ∧ (st = 0) ∧ (cd = 0) ∧ (rg = 0)) (w : World) (hL : Inst.Laid w) :
    Calls Tryd.prog 56 #[.agg #[.int .i64 f, .int .i64 rd, .int .i64 rn, .int .i64 rm, .int .i64 ra, .int .i64 im, .int .i64 kd, .int .i64 bs, .int .i64 st, .int .i64 cd, .int .i64 rg]] w fun e w' => e = .returned (.int .u32 (add 13 rd rn rm ra im kd bs st cd rg)) ∧ Below w.heap.size w w' := by
  clear l
  have hB := (Below.refl w.heap.size w).alloc (Nat.le_refl _) (.cells #[.int .i64 f, .int .i64 rd, .int .i64 rn, .int .i64 rm, .int .i64 ra, .int .i64 im, .int .i64 kd, .int .i64 bs, .int .i64 st, .int .i64 cd, .int .i64 rg] 25)
  have hLs := (hL.below hB.drew.drew).shs
  go_enter Tryd.func56, Tryd.ntmps56
  go_wp2_with fail
  go_region
  go_wp2_with fail
  go_region
  go_wp2_with (first | (go_at_call 58; refine (Shape_any _ _ hLs).mono ?_; rintro e w' ⟨rfl, rfl⟩))
  go_ret
  exact ⟨ret_int (by rw [add_13] <;> omega), hB.drew.drew⟩

theorem fb_14 (f rd rn rm ra im kd bs st cd rg : Int) (hs : shp f = 14) (l : (rd = 0) ∧ (rn = 0) ∧ (rm = 0) ∧ (ra = 0) ∧ (0 ≤ im ∧ im ≤ 255) ∧ (kd = 0) ∧ (bs = 0) ∧ (st = 0) ∧ (cd = 0) ∧ (rg = 0)) (w : World) (hL : Inst.Laid w) :
    Calls Tryd.prog 56 #[.agg #[.int .i64 f, .int .i64 rd, .int .i64 rn, .int .i64 rm, .int .i64 ra, .int .i64 im, .int .i64 kd, .int .i64 bs, .int .i64 st, .int .i64 cd, .int .i64 rg]] w fun e w' => e = .returned (.int .u32 (add 14 rd rn rm ra im kd bs st cd rg)) ∧ Below w.heap.size w w' := by
  have b_im : 0 ≤ im ∧ im ≤ 255 := by omega
  clear l
  have hB := (Below.refl w.heap.size w).alloc (Nat.le_refl _) (.cells #[.int .i64 f, .int .i64 rd, .int .i64 rn, .int .i64 rm, .int .i64 ra, .int .i64 im, .int .i64 kd, .int .i64 bs, .int .i64 st, .int .i64 cd, .int .i64 rg] 25)
  have hLs := (hL.below hB.drew.drew).shs
  go_enter Tryd.func56, Tryd.ntmps56
  go_wp2_with fail
  go_region
  go_wp2_with fail
  go_region
  go_wp2_with (first | (go_at_call 58; refine (Shape_any _ _ hLs).mono ?_; rintro e w' ⟨rfl, rfl⟩))
  go_ret
  exact ⟨ret_int (by rw [add_14] <;> omega), hB.drew.drew⟩

theorem fb_15 (f rd rn rm ra im kd bs st cd rg : Int) (hs : shp f = 15) (l : (rd = 0) ∧ (rn = 0) ∧ (rm = 0) ∧ (ra = 0) ∧ (-256 ≤ im ∧ im ≤ 254 ∧ im % 2 = 0) ∧ (kd = 0) ∧ (bs = 0) ∧ (st = 0) ∧ (0 ≤ cd ∧ cd ≤ 13) ∧ (rg = 0)) (w : World) (hL : Inst.Laid w) :
    Calls Tryd.prog 56 #[.agg #[.int .i64 f, .int .i64 rd, .int .i64 rn, .int .i64 rm, .int .i64 ra, .int .i64 im, .int .i64 kd, .int .i64 bs, .int .i64 st, .int .i64 cd, .int .i64 rg]] w fun e w' => e = .returned (.int .u32 (add 15 rd rn rm ra im kd bs st cd rg)) ∧ Below w.heap.size w w' := by
  have b_cd : 0 ≤ cd ∧ cd ≤ 13 := by omega
  have b_im : -256 ≤ im ∧ im ≤ 254 := by omega
  clear l
  have e0 := ct_at (im % 4294967296) (h := 8) (l := 1) (by decide : pw 1 = 2) (by decide : pw (8 - 1 + 1) = 256)
  have hB := (Below.refl w.heap.size w).alloc (Nat.le_refl _) (.cells #[.int .i64 f, .int .i64 rd, .int .i64 rn, .int .i64 rm, .int .i64 ra, .int .i64 im, .int .i64 kd, .int .i64 bs, .int .i64 st, .int .i64 cd, .int .i64 rg] 25)
  have hLs := (hL.below hB.drew.drew).shs
  go_enter Tryd.func56, Tryd.ntmps56
  go_wp2_with fail
  go_region
  go_wp2_with fail
  go_region
  go_wp2_with (first | (go_at_call 58; refine (Shape_any _ _ hLs).mono ?_; rintro e w' ⟨rfl, rfl⟩) | (go_at_call 22; refine (cut_any _ _ _ (by omega) (by omega) (by decide) (by decide) (by decide) _).mono ?_; rintro e w' ⟨rfl, rfl⟩))
  go_ret
  exact ⟨ret_int ((or_15 (by omega) (by omega)).1.trans (by rw [add_15] <;> omega)), hB.drew.drew.drew⟩

theorem fb_16 (f rd rn rm ra im kd bs st cd rg : Int) (hs : shp f = 16) (l : (rd = 0) ∧ (rn = 0) ∧ (rm = 0) ∧ (ra = 0) ∧ (-2048 ≤ im ∧ im ≤ 2046 ∧ im % 2 = 0) ∧ (kd = 0) ∧ (bs = 0) ∧ (st = 0) ∧ (cd = 0) ∧ (rg = 0)) (w : World) (hL : Inst.Laid w) :
    Calls Tryd.prog 56 #[.agg #[.int .i64 f, .int .i64 rd, .int .i64 rn, .int .i64 rm, .int .i64 ra, .int .i64 im, .int .i64 kd, .int .i64 bs, .int .i64 st, .int .i64 cd, .int .i64 rg]] w fun e w' => e = .returned (.int .u32 (add 16 rd rn rm ra im kd bs st cd rg)) ∧ Below w.heap.size w w' := by
  have b_im : -2048 ≤ im ∧ im ≤ 2046 := by omega
  clear l
  have e0 := ct_at (im % 4294967296) (h := 11) (l := 1) (by decide : pw 1 = 2) (by decide : pw (11 - 1 + 1) = 2048)
  have hB := (Below.refl w.heap.size w).alloc (Nat.le_refl _) (.cells #[.int .i64 f, .int .i64 rd, .int .i64 rn, .int .i64 rm, .int .i64 ra, .int .i64 im, .int .i64 kd, .int .i64 bs, .int .i64 st, .int .i64 cd, .int .i64 rg] 25)
  have hLs := (hL.below hB.drew.drew).shs
  go_enter Tryd.func56, Tryd.ntmps56
  go_wp2_with fail
  go_region
  go_wp2_with fail
  go_region
  go_wp2_with (first | (go_at_call 58; refine (Shape_any _ _ hLs).mono ?_; rintro e w' ⟨rfl, rfl⟩) | (go_at_call 22; refine (cut_any _ _ _ (by omega) (by omega) (by decide) (by decide) (by decide) _).mono ?_; rintro e w' ⟨rfl, rfl⟩))
  go_ret
  exact ⟨ret_int (by rw [add_16] <;> omega), hB.drew.drew.drew⟩

theorem fb_17 (f rd rn rm ra im kd bs st cd rg : Int) (hs : shp f = 17) (l : ((0 ≤ rd ∧ rd ≤ 12 ∨ rd = 14)) ∧ (rn = 0) ∧ (rm = 0) ∧ (ra = 0) ∧ (0 ≤ im ∧ im ≤ 65535) ∧ (kd = 0) ∧ (bs = 0) ∧ (st = 0) ∧ (cd = 0) ∧ (rg = 0)) (w : World) (hL : Inst.Laid w) :
    Calls Tryd.prog 55 #[.agg #[.int .i64 f, .int .i64 rd, .int .i64 rn, .int .i64 rm, .int .i64 ra, .int .i64 im, .int .i64 kd, .int .i64 bs, .int .i64 st, .int .i64 cd, .int .i64 rg]] w fun e w' => e = .returned (.int .u32 (add 17 rd rn rm ra im kd bs st cd rg)) ∧ Below w.heap.size w w' := by
  have b_rd : 0 ≤ rd ∧ rd ≤ 15 := by omega
  have b_im : 0 ≤ im ∧ im ≤ 65535 := by omega
  clear l
  have e0 := ct_at im (h := 15) (l := 12) (by decide : pw 12 = 4096) (by decide : pw (15 - 12 + 1) = 16)
  have e1 : tw im = im / 2048 % 2 * 67108864 + im / 256 % 8 * 4096 + im % 256 := rfl
  have o1 := (or_tw (a := im / 2048 % 2) (b := im / 256 % 8) (c := im % 256) (by omega) (by omega) (by omega)).1
  have hB := (Below.refl w.heap.size w).alloc (Nat.le_refl _) (.cells #[.int .i64 f, .int .i64 rd, .int .i64 rn, .int .i64 rm, .int .i64 ra, .int .i64 im, .int .i64 kd, .int .i64 bs, .int .i64 st, .int .i64 cd, .int .i64 rg] 25)
  have hLs := (hL.below hB.drew.drew).shs
  go_enter Tryd.func55, Tryd.ntmps55
  go_wp2_with fail
  go_region
  go_wp2_with fail
  go_region
  go_wp2_with (first | (go_at_call 58; refine (Shape_any _ _ hLs).mono ?_; rintro e w' ⟨rfl, rfl⟩) | (go_at_call 22; refine (cut_any _ _ _ (by omega) (by omega) (by decide) (by decide) (by decide) _).mono ?_; rintro e w' ⟨rfl, rfl⟩) | (go_at_call 74; refine (twelveBits_any _ (by omega) (by omega) _).mono ?_; rintro e w' ⟨rfl, rfl⟩))
  go_ret
  exact ⟨ret_int ((fin_17 (by omega) (by omega) (by omega) (by omega) (by omega)).trans (by rw [add_17] <;> omega)), hB.drew.drew.drew.drew.drew⟩

end Go.Proofs.YtpgcnbipnjcniaaDoor.Code
