/- The statement CodeOnce: its walk. -/
import Derived.Test.YtjcoihbhgedgiaaDoorCodeEnds
import Derived.Test.YtjcoihbhgedgiaaDoorCodeSame
import Derived.Test.YtjcoihbhgedgiaaDoorCodeBack
import Derived.BigQuiet
import Derived.Deep.QuietTactic
import Derived.Deep.RegionWith
set_option linter.unusedVariables false
namespace Go.Proofs.YtjcoihbhgedgiaaDoor.Code
open Go.RowKit Go.Proofs.YtjcoihbhgedgiaaDoor.Alu Go.Proofs.YtjcoihbhgedgiaaDoor.Imm Go.Proofs.YtjcoihbhgedgiaaDoor.Inst

theorem once_eq {f rd rn rm ra im kd bs st cd rg f1 rd1 rn1 rm1 ra1 im1 kd1 bs1 st1 cd1 rg1 : Int} (h : right f rd rn rm ra im kd bs st cd rg = true) (g0 : -9223372036854775808 ≤ rg) (g1 : rg ≤ 9223372036854775807) (h' : right f1 rd1 rn1 rm1 ra1 im1 kd1 bs1 st1 cd1 rg1 = true) (g0' : -9223372036854775808 ≤ rg1) (g1' : rg1 ≤ 9223372036854775807) (hs : (siz f == siz f1) = true) :
    ((wd f rd rn rm ra im kd bs st cd rg == wd f1 rd1 rn1 rm1 ra1 im1 kd1 bs1 st1 cd1 rg1) == same f rd rn rm ra im kd bs st cd rg f1 rd1 rn1 rm1 ra1 im1 kd1 bs1 st1 cd1 rg1) = true := by
  have i := (at_own h g0 g1).1
  have i' := (at_own h' g0' g1').1
  have hl : (f ≤ 47 ∧ f1 ≤ 47) ∨ (48 ≤ f ∧ 48 ≤ f1) := by
    have e : siz f = siz f1 := by simpa using hs
    unfold siz wdF at e
    rw [isF_yes i, isF_yes i'] at e
    by_cases a : 48 ≤ f
    · by_cases b : 48 ≤ f1
      · exact .inr ⟨a, b⟩
      · simp [a, b, i.2] at e
    · by_cases b : 48 ≤ f1
      · simp [a, b, i'.2] at e
      · exact .inl ⟨by omega, by omega⟩
  by_cases e : wd f rd rn rm ra im kd bs st cd rg = wd f1 rd1 rn1 rm1 ra1 im1 kd1 bs1 st1 cd1 rg1
  · obtain ⟨rfl, rfl, rfl, rfl, rfl, rfl, rfl, rfl, rfl, rfl, rfl⟩ := once h g0 g1 h' g0' g1' hl e
    rw [same_yes]; simp
  · have e1 : (wd f rd rn rm ra im kd bs st cd rg == wd f1 rd1 rn1 rm1 ra1 im1 kd1 bs1 st1 cd1 rg1) = false := by rw [beq_eq_false_iff_ne]; exact e
    rw [e1]
    cases hq : same f rd rn rm ra im kd bs st cd rg f1 rd1 rn1 rm1 ra1 im1 kd1 bs1 st1 cd1 rg1
    · rfl
    · obtain ⟨rfl, rfl, rfl, rfl, rfl, rfl, rfl, rfl, rfl, rfl, rfl⟩ := same_eq hq
      exact absurd rfl e

set_option maxHeartbeats 2000000 in
set_option maxRecDepth 100000 in
theorem once_law (f rd rn rm ra im kd bs st cd rg f1 rd1 rn1 rm1 ra1 im1 kd1 bs1 st1 cd1 rg1 : Int) (g0 : -9223372036854775808 ≤ rg) (g1 : rg ≤ 9223372036854775807) (g0' : -9223372036854775808 ≤ rg1) (g1' : rg1 ≤ 9223372036854775807) (w : World) (hL : Laid w) :
    Calls Tryd.prog 7 #[.agg #[.int .i64 f, .int .i64 rd, .int .i64 rn, .int .i64 rm, .int .i64 ra, .int .i64 im, .int .i64 kd, .int .i64 bs, .int .i64 st, .int .i64 cd, .int .i64 rg], .agg #[.int .i64 f1, .int .i64 rd1, .int .i64 rn1, .int .i64 rm1, .int .i64 ra1, .int .i64 im1, .int .i64 kd1, .int .i64 bs1, .int .i64 st1, .int .i64 cd1, .int .i64 rg1]] w fun e w' => e = .returned (.bool true) ∧ Below w.heap.size w w' := by
  have hB : Below w.heap.size w ((w.alloc (.cells #[.int .i64 f, .int .i64 rd, .int .i64 rn, .int .i64 rm, .int .i64 ra, .int .i64 im, .int .i64 kd, .int .i64 bs, .int .i64 st, .int .i64 cd, .int .i64 rg] 24)).alloc (.cells #[.int .i64 f1, .int .i64 rd1, .int .i64 rn1, .int .i64 rm1, .int .i64 ra1, .int .i64 im1, .int .i64 kd1, .int .i64 bs1, .int .i64 st1, .int .i64 cd1, .int .i64 rg1] 24)) := ((Below.refl w.heap.size w).alloc (Nat.le_refl _) _).alloc (by simp) _
  have hq := fun w => eql_inst w f rd rn rm ra im kd bs st cd rg f1 rd1 rn1 rm1 ra1 im1 kd1 bs1 st1 cd1 rg1
  have HG := hide (And.intro g0 g1)
  have HG1 := hide (And.intro g0' g1')
  clear g0 g1 g0' g1'
  cases hr : right f rd rn rm ra im kd bs st cd rg
  · cases hr1 : right f1 rd1 rn1 rm1 ra1 im1 kd1 bs1 st1 cd1 rg1
    · go_enter Tryd.func7, Tryd.ntmps7
      go_wp2_with fail
      refine (anchor4_any _ ((hL.alloc _).alloc _)).mono ?_
      rintro e w1 ⟨rfl, hb1⟩
      have hL1 : Laid w1 := ((hL.alloc _).alloc _).below hb1
      obtain ⟨hc, hf⟩ := bcell hb1
      go_wp2_with fail
      refine (Word_no _ _ _ _ _ _ _ _ _ _ _ hr _ hL1).mono ?_
      rintro e w2 ⟨rfl, hb2⟩
      have hL2 : Laid w2 := hL1.below hb2
      have hb3 := next hb1 hb2
      clear hc hf hb1 hb2 hL1
      obtain ⟨hc, hf⟩ := bcell hb3
      go_wp2_with fail
      refine (Word_no _ _ _ _ _ _ _ _ _ _ _ hr1 _ hL2).mono ?_
      rintro e w3 ⟨rfl, hb4⟩
      have hL3 : Laid w3 := hL2.below hb4
      have hb5 := next hb3 hb4
      clear hc hf hb3 hb4 hL2
      obtain ⟨hc, hf⟩ := bcell hb5
      go_wp2_with fail
      go_quiet (fail)
      go_wp2_with fail
      go_ret
      exact ⟨rfl, hB.trans ((next hb5 (below_drewN _ _)).mono hB.size)⟩
    · go_enter Tryd.func7, Tryd.ntmps7
      go_wp2_with fail
      refine (anchor4_any _ ((hL.alloc _).alloc _)).mono ?_
      rintro e w1 ⟨rfl, hb1⟩
      have hL1 : Laid w1 := ((hL.alloc _).alloc _).below hb1
      obtain ⟨hc, hf⟩ := bcell hb1
      go_wp2_with fail
      refine (Word_no _ _ _ _ _ _ _ _ _ _ _ hr _ hL1).mono ?_
      rintro e w2 ⟨rfl, hb2⟩
      have hL2 : Laid w2 := hL1.below hb2
      have hb3 := next hb1 hb2
      clear hc hf hb1 hb2 hL1
      obtain ⟨hc, hf⟩ := bcell hb3
      go_wp2_with fail
      refine (Word_yes _ _ _ _ _ _ _ _ _ _ _ hr1 (unhide HG1).1 (unhide HG1).2 _ hL2).mono ?_
      rintro e w3 ⟨rfl, hb4⟩
      have hL3 : Laid w3 := hL2.below hb4
      have hb5 := next hb3 hb4
      clear hc hf hb3 hb4 hL2
      obtain ⟨hc, hf⟩ := bcell hb5
      go_wp2_with fail
      go_quiet (fail)
      go_wp2_with fail
      go_ret
      exact ⟨rfl, hB.trans ((next hb5 (below_drewN _ _)).mono hB.size)⟩
  · cases hr1 : right f1 rd1 rn1 rm1 ra1 im1 kd1 bs1 st1 cd1 rg1
    · go_enter Tryd.func7, Tryd.ntmps7
      go_wp2_with fail
      refine (anchor4_any _ ((hL.alloc _).alloc _)).mono ?_
      rintro e w1 ⟨rfl, hb1⟩
      have hL1 : Laid w1 := ((hL.alloc _).alloc _).below hb1
      obtain ⟨hc, hf⟩ := bcell hb1
      go_wp2_with fail
      refine (Word_yes _ _ _ _ _ _ _ _ _ _ _ hr (unhide HG).1 (unhide HG).2 _ hL1).mono ?_
      rintro e w2 ⟨rfl, hb2⟩
      have hL2 : Laid w2 := hL1.below hb2
      have hb3 := next hb1 hb2
      clear hc hf hb1 hb2 hL1
      obtain ⟨hc, hf⟩ := bcell hb3
      go_wp2_with fail
      refine (Word_no _ _ _ _ _ _ _ _ _ _ _ hr1 _ hL2).mono ?_
      rintro e w3 ⟨rfl, hb4⟩
      have hL3 : Laid w3 := hL2.below hb4
      have hb5 := next hb3 hb4
      clear hc hf hb3 hb4 hL2
      obtain ⟨hc, hf⟩ := bcell hb5
      go_wp2_with fail
      go_quiet (fail)
      go_wp2_with fail
      go_ret
      exact ⟨rfl, hB.trans ((next hb5 (below_drewN _ _)).mono hB.size)⟩
    · cases hs : (siz f == siz f1)
      · go_enter Tryd.func7, Tryd.ntmps7
        go_wp2_with fail
        refine (anchor4_any _ ((hL.alloc _).alloc _)).mono ?_
        rintro e w1 ⟨rfl, hb1⟩
        have hL1 : Laid w1 := ((hL.alloc _).alloc _).below hb1
        obtain ⟨hc, hf⟩ := bcell hb1
        go_wp2_with fail
        refine (Word_yes _ _ _ _ _ _ _ _ _ _ _ hr (unhide HG).1 (unhide HG).2 _ hL1).mono ?_
        rintro e w2 ⟨rfl, hb2⟩
        have hL2 : Laid w2 := hL1.below hb2
        have hb3 := next hb1 hb2
        clear hc hf hb1 hb2 hL1
        obtain ⟨hc, hf⟩ := bcell hb3
        go_wp2_with fail
        refine (Word_yes _ _ _ _ _ _ _ _ _ _ _ hr1 (unhide HG1).1 (unhide HG1).2 _ hL2).mono ?_
        rintro e w3 ⟨rfl, hb4⟩
        have hL3 : Laid w3 := hL2.below hb4
        have hb5 := next hb3 hb4
        clear hc hf hb3 hb4 hL2
        obtain ⟨hc, hf⟩ := bcell hb5
        go_wp2_with fail
        go_region_with (first
          | (go_at_call 15; refine (Bytes_any _ _ _ _ _ _ _ _ _ _ _ _).mono ?_; rintro e w5 ⟨rfl, hb7⟩; have hb8 := next (next (next hb5 (drew_below _)) hb6) hb7; obtain ⟨hc5, hf5⟩ := bcell hb8)
          | (go_at_call 15; refine (Bytes_any _ _ _ _ _ _ _ _ _ _ _ _).mono ?_; rintro e w4 ⟨rfl, hb6⟩; obtain ⟨hc4, hf4⟩ := bcell (next (next hb5 (drew_below _)) hb6)))
        all_goals
          go_wp2_with fail
          go_ret
          exact ⟨rfl, hB.trans (hb8.mono hB.size)⟩
      · have HE := hide (once_eq hr (unhide HG).1 (unhide HG).2 hr1 (unhide HG1).1 (unhide HG1).2 hs)
        go_enter Tryd.func7, Tryd.ntmps7
        go_wp2_with fail
        refine (anchor4_any _ ((hL.alloc _).alloc _)).mono ?_
        rintro e w1 ⟨rfl, hb1⟩
        have hL1 : Laid w1 := ((hL.alloc _).alloc _).below hb1
        obtain ⟨hc, hf⟩ := bcell hb1
        go_wp2_with fail
        refine (Word_yes _ _ _ _ _ _ _ _ _ _ _ hr (unhide HG).1 (unhide HG).2 _ hL1).mono ?_
        rintro e w2 ⟨rfl, hb2⟩
        have hL2 : Laid w2 := hL1.below hb2
        have hb3 := next hb1 hb2
        clear hc hf hb1 hb2 hL1
        obtain ⟨hc, hf⟩ := bcell hb3
        go_wp2_with fail
        refine (Word_yes _ _ _ _ _ _ _ _ _ _ _ hr1 (unhide HG1).1 (unhide HG1).2 _ hL2).mono ?_
        rintro e w3 ⟨rfl, hb4⟩
        have hL3 : Laid w3 := hL2.below hb4
        have hb5 := next hb3 hb4
        clear hc hf hb3 hb4 hL2
        obtain ⟨hc, hf⟩ := bcell hb5
        go_wp2_with fail
        go_region_with (first
          | (go_at_call 15; refine (Bytes_any _ _ _ _ _ _ _ _ _ _ _ _).mono ?_; rintro e w5 ⟨rfl, hb7⟩; have hb8 := next (next (next hb5 (drew_below _)) hb6) hb7; obtain ⟨hc5, hf5⟩ := bcell hb8)
          | (go_at_call 15; refine (Bytes_any _ _ _ _ _ _ _ _ _ _ _ _).mono ?_; rintro e w4 ⟨rfl, hb6⟩; obtain ⟨hc4, hf4⟩ := bcell (next (next hb5 (drew_below _)) hb6)))
        all_goals
          go_wp2_with fail
          go_ret
          exact ⟨ret_bool (unhide HE), hB.trans (hb8.mono hB.size)⟩

end Go.Proofs.YtjcoihbhgedgiaaDoor.Code
