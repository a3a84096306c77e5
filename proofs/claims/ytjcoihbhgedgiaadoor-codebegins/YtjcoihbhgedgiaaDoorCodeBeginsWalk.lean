/- The statement CodeBegins: its walk. -/
import Derived.Test.YtjcoihbhgedgiaaDoorCodeEnds
set_option linter.unusedVariables false
namespace Go.Proofs.YtjcoihbhgedgiaaDoor.Code
open Go.RowKit Go.Proofs.YtjcoihbhgedgiaaDoor.Alu Go.Proofs.YtjcoihbhgedgiaaDoor.Imm Go.Proofs.YtjcoihbhgedgiaaDoor.Inst

theorem begins_law (f rd rn rm ra im kd bs st cd rg h : Int) (h0 : 0 ≤ h) (h1 : h < 4294967296) (g0 : -9223372036854775808 ≤ rg) (g1 : rg ≤ 9223372036854775807) (w : World) (hL : Laid w) :
    Calls Tryd.prog 6 #[.agg #[.int .i64 f, .int .i64 rd, .int .i64 rn, .int .i64 rm, .int .i64 ra, .int .i64 im, .int .i64 kd, .int .i64 bs, .int .i64 st, .int .i64 cd, .int .i64 rg], .int .u32 h] w fun e w' => e = .returned (.bool true) ∧ Below w.heap.size w w' := by
  have em : bits .and .u32 (h / 2048) 31 = h / 2048 % 32 := u32_mask 5 _ _ (by omega) (by omega) (by decide) (by decide)
  have HB : Hid (∀ x : Int, beg x = decide (29 ≤ x / 2048 % 32)) := fun _ => rfl
  have eb : (beg h == decide (29 ≤ h / 2048 % 32)) = true := by rw [HB.out h]; simp
  have hBb := (Below.refl w.heap.size w).alloc (Nat.le_refl _) (.cells #[.int .i64 f, .int .i64 rd, .int .i64 rn, .int .i64 rm, .int .i64 ra, .int .i64 im, .int .i64 kd, .int .i64 bs, .int .i64 st, .int .i64 cd, .int .i64 rg] 24)
  have HG := hide (And.intro g0 g1)
  clear g0 g1
  cases hr : right f rd rn rm ra im kd bs st cd rg
  · go_enter Tryd.func6, Tryd.ntmps6
    go_wp2_with fail
    refine (anchor4_any _ (hL.alloc _)).mono ?_
    rintro e w1 ⟨rfl, hb1⟩
    obtain ⟨hc, hf⟩ := bcell hb1
    have hL1 : Laid w1.drew := ((hL.alloc _).below hb1).below (Inst.drew_below _)
    go_wp2_with (go_at_call 18; refine (Begins_any _ h0 h1 _).mono ?_; rintro e w' ⟨rfl, rfl⟩)
    refine (Word_no _ _ _ _ _ _ _ _ _ _ _ hr _ hL1).mono ?_
    rintro e w2 ⟨rfl, hb2⟩
    go_wp2_with fail
    go_ret
    exact ⟨rfl, hBb.trans ((next (next hb1 (Inst.drew_below _)) hb2).mono hBb.size)⟩
  · have HW := hide (And.intro (fun hf => narrow_lies hr (unhide HG).1 (unhide HG).2 hf) (fun hf => wide_lies hr (unhide HG).1 (unhide HG).2 hf))
    by_cases hf47 : f ≤ 47
    · have hw := (unhide HW).1 hf47
      have en : beg (wd f rd rn rm ra im kd bs st cd rg) = false := by rw [HB.out]; rw [decide_eq_false_iff_not]; omega
      go_enter Tryd.func6, Tryd.ntmps6
      go_wp2_with fail
      refine (anchor4_any _ (hL.alloc _)).mono ?_
      rintro e w1 ⟨rfl, hb1⟩
      obtain ⟨hc, hf⟩ := bcell hb1
      have hL1 : Laid w1.drew := ((hL.alloc _).below hb1).below (Inst.drew_below _)
      go_wp2_with (go_at_call 18; refine (Begins_any _ h0 h1 _).mono ?_; rintro e w' ⟨rfl, rfl⟩)
      refine (Word_yes _ _ _ _ _ _ _ _ _ _ _ hr (unhide HG).1 (unhide HG).2 _ hL1).mono ?_
      rintro e w2 ⟨rfl, hb2⟩
      obtain ⟨hc2, hf2⟩ := bcell (next (next hb1 (Inst.drew_below _)) hb2)
      clear hc hf
      go_wp2_with (go_at_call 18; refine (Begins_any _ (by omega) (by omega) _).mono ?_; rintro e w' ⟨rfl, rfl⟩)
      go_ret
      exact ⟨ret_bool (by rw [decide_eq_true_eq]; omega), (hBb.trans ((next (next hb1 (Inst.drew_below _)) hb2).mono hBb.size)).drew⟩
    · have hw := (unhide HW).2 (by omega)
      have en : beg (wd f rd rn rm ra im kd bs st cd rg / 65536) = true := by rw [HB.out]; rw [decide_eq_true_eq]; omega
      go_enter Tryd.func6, Tryd.ntmps6
      go_wp2_with fail
      refine (anchor4_any _ (hL.alloc _)).mono ?_
      rintro e w1 ⟨rfl, hb1⟩
      obtain ⟨hc, hf⟩ := bcell hb1
      have hL1 : Laid w1.drew := ((hL.alloc _).below hb1).below (Inst.drew_below _)
      go_wp2_with (go_at_call 18; refine (Begins_any _ h0 h1 _).mono ?_; rintro e w' ⟨rfl, rfl⟩)
      refine (Word_yes _ _ _ _ _ _ _ _ _ _ _ hr (unhide HG).1 (unhide HG).2 _ hL1).mono ?_
      rintro e w2 ⟨rfl, hb2⟩
      obtain ⟨hc2, hf2⟩ := bcell (next (next hb1 (Inst.drew_below _)) hb2)
      clear hc hf
      go_wp2_with (go_at_call 18; refine (Begins_any _ (by omega) (by omega) _).mono ?_; rintro e w' ⟨rfl, rfl⟩)
      go_ret
      exact ⟨rfl, (hBb.trans ((next (next hb1 (Inst.drew_below _)) hb2).mono hBb.size)).drew⟩

end Go.Proofs.YtjcoihbhgedgiaaDoor.Code
