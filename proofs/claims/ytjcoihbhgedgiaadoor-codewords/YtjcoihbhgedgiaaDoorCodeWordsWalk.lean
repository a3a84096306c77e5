/- The statement CodeWords: its walk. -/
import Derived.Test.YtjcoihbhgedgiaaDoorCodeLast
import Derived.Test.YtjcoihbhgedgiaaDoorCodeRefs
import Derived.Test.YtjcoihbhgedgiaaDoorInstRules
set_option linter.unusedVariables false
namespace Go.Proofs.YtjcoihbhgedgiaaDoor.Code
open Go.RowKit Go.Proofs.YtjcoihbhgedgiaaDoor.Alu Go.Proofs.YtjcoihbhgedgiaaDoor.Imm Go.Proofs.YtjcoihbhgedgiaaDoor.Inst

theorem wide_47 {f : Int} (h0 : 1 ≤ f) (h1 : f ≤ 100) : wdF f = decide (47 < f) := by
  unfold wdF; rw [decide_eq_decide]; omega

/-- A right instruction is read again from its own word. -/
theorem Of_own (f rd rn rm ra im kd bs st cd rg : Int) (wide : Bool) (h : right f rd rn rm ra im kd bs st cd rg = true) (g0 : -9223372036854775808 ≤ rg) (g1 : rg ≤ 9223372036854775807) (hwd : wdF f = wide) (w : World) (hL : Laid w) :
    Calls Tryd.prog 13 #[.int .u32 (wd f rd rn rm ra im kd bs st cd rg), .bool wide] w fun e w' => e = .returned (.tuple #[.agg #[.int .i64 f, .int .i64 rd, .int .i64 rn, .int .i64 rm, .int .i64 ra, .int .i64 im, .int .i64 kd, .int .i64 bs, .int .i64 st, .int .i64 cd, .int .i64 rg], .int .i64 0]) ∧ Below w.heap.size w w' := by
  have hw := (apart_add h g0 g1).2.2.2
  have hi := (at_own h g0 g1).1
  have hH : Has (wd f rd rn rm ra im kd bs st cd rg) wide f rd rn rm ra im kd bs st cd rg := ⟨h, g0, g1, rfl, hwd⟩
  refine (Of_any (wd f rd rn rm ra im kd bs st cd rg) wide hw.1 hw.2 w hL).mono fun e w' ⟨hb, hp⟩ => ⟨?_, hb⟩
  rcases hp with ⟨f', rd', rn', rm', ra', im', kd', bs', st', cd', rg', hH', rfl⟩ | ⟨hn, rfl⟩
  · have hi' := (at_own hH'.right hH'.lo hH'.hi).1
    have hl : (f ≤ 47 ∧ f' ≤ 47) ∨ (48 ≤ f ∧ 48 ≤ f') := by
      have e := hwd.trans hH'.wide.symm
      unfold wdF at e
      rw [decide_eq_decide] at e
      omega
    obtain ⟨rfl, rfl, rfl, rfl, rfl, rfl, rfl, rfl, rfl, rfl, rfl⟩ := once h g0 g1 hH'.right hH'.lo hH'.hi hl hH'.word.symm
    rfl
  · have := hn _ _ _ _ _ _ _ _ _ _ _ hH
    omega

/-- What is owned, and isn't empty, is a slice with an address. -/
theorem own_slice {w : World} {base : Nat} {e : TypeId} {v : Value} {n : Nat} {xs : List Value} (h : w.ownsRow base e 1 v n xs) (hn : 0 < n) : ∃ g cap, v = .slice (some ⟨g, 0, none⟩) n cap ∧ base ≤ g ∧ g < w.heap.size ∧ n ≤ cap ∧ cap ≤ maxLen ∧ ∀ j u, xs[j]? = some u → w.cell? ⟨g, j, none⟩ = some u := by
  rcases h.2 with ⟨_, h0⟩ | ⟨g, cap, cur, rfl, hb, hg, hc, hm, _, ht⟩
  · omega
  · refine ⟨g, cap, rfl, hb, (Array.getElem?_eq_some_iff.1 hg).1, hc, hm, fun j u hu => ?_⟩
    have := h.cells (g := g) rfl j u hu
    rwa [show ((⟨g, 0, none⟩ : Addr).add j) = ⟨g, j, none⟩ by unfold Addr.add; split <;> simp_all] at this

theorem byt_len (W f : Int) (h : isF f = true) : ((byt W (wdF f)).length : Int) = siz f ∧ 0 < (byt W (wdF f)).length := by
  unfold byt siz; rw [if_pos h]; cases wdF f <;> simp

set_option maxHeartbeats 1000000 in
theorem words_law (f rd rn rm ra im kd bs st cd rg : Int) (g0 : -9223372036854775808 ≤ rg) (g1 : rg ≤ 9223372036854775807) (w : World) (hL : Laid w) :
    Calls Tryd.prog 3 #[.agg #[.int .i64 f, .int .i64 rd, .int .i64 rn, .int .i64 rm, .int .i64 ra, .int .i64 im, .int .i64 kd, .int .i64 bs, .int .i64 st, .int .i64 cd, .int .i64 rg]] w fun e w' => e = .returned (.bool true) ∧ Below w.heap.size w w' := by
  have hB := (Below.refl w.heap.size w).alloc (Nat.le_refl _) (.cells #[.int .i64 f, .int .i64 rd, .int .i64 rn, .int .i64 rm, .int .i64 ra, .int .i64 im, .int .i64 kd, .int .i64 bs, .int .i64 st, .int .i64 cd, .int .i64 rg] 24)
  have HE := hide (right_eq f rd rn rm ra im kd bs st cd rg g0 g1)
  cases hr : right f rd rn rm ra im kd bs st cd rg
  · have hrr : refR f rd rn rm ra im kd bs st cd rg = false := by rw [← unhide HE]; exact hr
    go_enter Tryd.func3, Tryd.ntmps3
    go_wp2_with fail
    refine (anchor4_any _ (hL.alloc _)).mono ?_
    rintro e w1 ⟨rfl, hb1⟩
    have hL1 : Laid w1 := (hL.alloc _).below hb1
    obtain ⟨hc, hf⟩ := bcell hb1
    go_wp2_with fail
    refine (Word_no _ _ _ _ _ _ _ _ _ _ _ hr _ hL1).mono ?_
    rintro e w2 ⟨rfl, hb2⟩
    have hL2 : Laid w2 := hL1.below hb2
    have hb3 := next hb1 hb2
    clear hc hf hb1 hb2 hL1
    obtain ⟨hc, hf⟩ := bcell hb3
    go_wp2_with fail
    refine (Bytes_no _ _ _ _ _ _ _ _ _ _ _ hr _ hL2).mono ?_
    rintro e w3 ⟨rfl, hb4⟩
    have hb5 := next hb3 hb4
    clear hc hf hb3 hb4 hL2
    obtain ⟨hc, hf⟩ := bcell hb5
    go_wp2_with fail
    refine (of4_any _ _ _ _ _ _ _ _ _ _ _ _).mono ?_
    rintro e w4 ⟨rfl, hb6⟩
    have hb7 := next hb5 hb6
    clear hc hf hb5 hb6
    go_wp2_with fail
    refine (refRight_any _ _ _ _ _ _ _ _ _ _ _ _).mono ?_
    rintro e w5 ⟨rfl, hb8⟩
    have hb9 := next hb7 hb8
    clear hb7 hb8
    go_wp2_with fail
    go_ret
    exact ⟨rfl, hB.trans (hb9.mono hB.size)⟩
  · have hrr : refR f rd rn rm ra im kd bs st cd rg = true := by rw [← unhide HE]; exact hr
    have hi := (at_own hr g0 g1).1
    have hbl := byt_len (wd f rd rn rm ra im kd bs st cd rg) f (isF_yes hi)
    have hq := fun w => eql_inst w f rd rn rm ra im kd bs st cd rg f rd rn rm ra im kd bs st cd rg
    have hsy : same f rd rn rm ra im kd bs st cd rg f rd rn rm ra im kd bs st cd rg = true := same_yes f rd rn rm ra im kd bs st cd rg
    have HG := hide (And.intro g0 g1)
    have HI := hide (wide_47 hi.1 hi.2)
    clear g0 g1 hi
    go_enter Tryd.func3, Tryd.ntmps3
    go_wp2_with fail
    refine (anchor4_any _ (hL.alloc _)).mono ?_
    rintro e w1 ⟨rfl, hb1⟩
    have hL1 : Laid w1 := (hL.alloc _).below hb1
    obtain ⟨hc, hf⟩ := bcell hb1
    go_wp2_with fail
    refine (Word_yes _ _ _ _ _ _ _ _ _ _ _ hr (unhide HG).1 (unhide HG).2 _ hL1).mono ?_
    rintro e w2 ⟨rfl, hb2⟩
    have hL2 : Laid w2 := hL1.below hb2
    have hb3 := next hb1 hb2
    clear hc hf hb1 hb2 hL1
    obtain ⟨hc, hf⟩ := bcell hb3
    go_wp2_with fail
    refine (Bytes_yes _ _ _ _ _ _ _ _ _ _ _ hr (unhide HG).1 (unhide HG).2 _ hL2).mono ?_
    rintro e w3 ⟨v, rfl, hown, hb4⟩
    have hL3 : Laid w3 := hL2.below hb4
    obtain ⟨g, cap, rfl, _⟩ := own_slice hown hbl.2
    have hb5 := next hb3 hb4
    clear hc hf hb3 hb4 hL2 hown
    obtain ⟨hc, hf⟩ := bcell hb5
    go_wp2_with fail
    refine (of4_any _ _ _ _ _ _ _ _ _ _ _ _).mono ?_
    rintro e w4 ⟨rfl, hb6⟩
    have hL4 : Laid w4 := hL3.below hb6
    have hb7 := next hb5 hb6
    clear hc hf hb5 hb6 hL3
    go_wp2_with fail
    refine (refRight_any _ _ _ _ _ _ _ _ _ _ _ _).mono ?_
    rintro e w5 ⟨rfl, hb8⟩
    have hL5 : Laid w5 := hL4.below hb8
    have hb9 := next hb7 hb8
    clear hb7 hb8 hL4
    obtain ⟨hc, hf⟩ := bcell hb9
    go_wp2_with fail
    refine (Of_own _ _ _ _ _ _ _ _ _ _ _ _ hr (unhide HG).1 (unhide HG).2 (unhide HI) _ hL5).mono ?_
    rintro e w6 ⟨rfl, hb10⟩
    have hb11 := next hb9 hb10
    clear hc hf hb9 hb10 hL5
    obtain ⟨hc, hf⟩ := bcell hb11
    have hz6 : w.heap.size < w6.heap.size := by have := hb11.size; simp at this; omega
    go_wp2_with fail
    refine (of4_any _ _ _ _ _ _ _ _ _ _ _ _).mono ?_
    rintro e w8 ⟨rfl, hb12⟩
    have hX : ∀ i v, #[.int .i64 f, .int .i64 rd, .int .i64 rn, .int .i64 rm, .int .i64 ra, .int .i64 im, .int .i64 kd, .int .i64 bs, .int .i64 st, .int .i64 cd, .int .i64 rg][i]? = some v → (w6.alloc (.cells #[.int .i64 f, .int .i64 rd, .int .i64 rn, .int .i64 rm, .int .i64 ra, .int .i64 im, .int .i64 kd, .int .i64 bs, .int .i64 st, .int .i64 cd, .int .i64 rg] 24)).cell? ⟨w.heap.size, i, none⟩ = some v := fun i v hv => (((Below.refl w6.heap.size w6).alloc (Nat.le_refl _) _).cell (p := ⟨w.heap.size, i, none⟩) hz6).trans (Inst.box_of hb11 hv)
    clear hc hf
    go_wp2_with fail
    refine (refWord_any _ _ _ _ _ _ _ _ _ _ _ hr (unhide HG).1 (unhide HG).2 _).mono ?_
    rintro e w9 ⟨rfl, hb13⟩
    have hb14 := next hb12 hb13
    have hz9 : w.heap.size < (w6.alloc (.cells #[.int .i64 f, .int .i64 rd, .int .i64 rn, .int .i64 rm, .int .i64 ra, .int .i64 im, .int .i64 kd, .int .i64 bs, .int .i64 st, .int .i64 cd, .int .i64 rg] 24)).heap.size := by simp; omega
    have q := (bcell hb14).1
    have x0 := (q _ 0 hz9).trans (hX 0 _ rfl)
    have x1 := (q _ 1 hz9).trans (hX 1 _ rfl)
    have x2 := (q _ 2 hz9).trans (hX 2 _ rfl)
    have x3 := (q _ 3 hz9).trans (hX 3 _ rfl)
    have x4 := (q _ 4 hz9).trans (hX 4 _ rfl)
    have x5 := (q _ 5 hz9).trans (hX 5 _ rfl)
    have x6 := (q _ 6 hz9).trans (hX 6 _ rfl)
    have x7 := (q _ 7 hz9).trans (hX 7 _ rfl)
    have x8 := (q _ 8 hz9).trans (hX 8 _ rfl)
    have x9 := (q _ 9 hz9).trans (hX 9 _ rfl)
    have x10 := (q _ 10 hz9).trans (hX 10 _ rfl)
    have y0 : w9.cell? ⟨w6.heap.size, 0, none⟩ = some (.int .i64 f) := Inst.box_of hb14 rfl
    have y1 : w9.cell? ⟨w6.heap.size, 1, none⟩ = some (.int .i64 rd) := Inst.box_of hb14 rfl
    have y2 : w9.cell? ⟨w6.heap.size, 2, none⟩ = some (.int .i64 rn) := Inst.box_of hb14 rfl
    have y3 : w9.cell? ⟨w6.heap.size, 3, none⟩ = some (.int .i64 rm) := Inst.box_of hb14 rfl
    have y4 : w9.cell? ⟨w6.heap.size, 4, none⟩ = some (.int .i64 ra) := Inst.box_of hb14 rfl
    have y5 : w9.cell? ⟨w6.heap.size, 5, none⟩ = some (.int .i64 im) := Inst.box_of hb14 rfl
    have y6 : w9.cell? ⟨w6.heap.size, 6, none⟩ = some (.int .i64 kd) := Inst.box_of hb14 rfl
    have y7 : w9.cell? ⟨w6.heap.size, 7, none⟩ = some (.int .i64 bs) := Inst.box_of hb14 rfl
    have y8 : w9.cell? ⟨w6.heap.size, 8, none⟩ = some (.int .i64 st) := Inst.box_of hb14 rfl
    have y9 : w9.cell? ⟨w6.heap.size, 9, none⟩ = some (.int .i64 cd) := Inst.box_of hb14 rfl
    have y10 : w9.cell? ⟨w6.heap.size, 10, none⟩ = some (.int .i64 rg) := Inst.box_of hb14 rfl
    clear hX q
    go_wp2_with fail
    refine (Inst.Bytes_any _ _ _ _ _ _ _ _ _ _ _ _).mono ?_
    rintro e w10 ⟨rfl, hb15⟩
    have hE := hbl.1
    go_wp2_with fail
    go_ret
    exact ⟨rfl, hB.trans ((hb11.trans ((((Below.refl w6.heap.size w6).alloc (Nat.le_refl _) _).trans ((next hb14 hb15).mono (by simp))).mono hb11.size)).mono hB.size)⟩

end Go.Proofs.YtjcoihbhgedgiaaDoor.Code
