/- The statement AsmWide, walked: what it needs of Lay, of the example, is taken as given here. -/
import Derived.Test.YtegefbndpkbooaaDoorAsmAllC
import Derived.Test.YtegefbndpkbooaaDoorAsmWideN
import Derived.Deep.MidRow
import Derived.Deep.WholeRow
import Derived.Deep.QuietTactic
import Derived.BigQuiet
set_option linter.unusedVariables false
set_option linter.unusedSimpArgs false
namespace Go.Proofs.YtegefbndpkbooaaDoor.Asm
open Go.RowKit Go.Proofs.YtegefbndpkbooaaDoor.Core Go.Proofs.YtegefbndpkbooaaDoor.Alu

theorem allK_wf {X : Nat → It} {t : Int} : ∀ {n : Nat}, (∀ i, i < n → wfT (X i)) → ∀ x ∈ allK X t n, wfT x
  | 0, _, x, hx => by simp [allK] at hx
  | n + 1, h, x, hx => by
    unfold allK at hx
    rcases List.mem_append.1 hx with h1 | h1
    · exact allK_wf (fun i hi => h i (by omega)) x h1
    · rw [(List.mem_replicate.1 h1).2]
      exact h n (by omega)

/-- What of Lay's answer this statement needs. -/
inductive LayW (n : Nat) (X : Nat → It) (e : Ending) (w' : World) : Prop
  | bad (n2 : Int) (hne : (n2 != 0) = true) (he : e = .returned (.tuple #[.agg #[.slice none 0 0, .slice none 0 0, .slice none 0 0, .int .i64 0], .int .i64 n2]))
  | ok (R ga gs : Nat) (bp : Option Addr) (bc LB : Nat) (hr : ∀ i, i < n → rightT (X i) = true) (hO : OnceM X n) (hF : Found X n) (hE : (prg n X).Ends R false)
      (he : e = .returned (.tuple #[.agg (ldv (.slice bp LB bc) ga gs n ((R : Int) + 1)), .int .i64 0]))
      (hA : Rw w' ga n ((prg n X).at_ ((prg n X).it R))) (hS : Rw w' gs n (fun i => (prg n X).sz i ((prg n X).it R i) ((prg n X).at_ ((prg n X).it R) i))) (hl : (LB : Int) = (prg n X).at_ ((prg n X).it R) n)

set_option maxRecDepth 100000 in
set_option maxHeartbeats 16000000 in
theorem asmWide_of {I : World → Prop} (hI0 : ∀ {w w' : World}, I w → Below w.heap.size w w' → I w')
    (hAn : ∀ w, I w → Calls Tryd.prog 6 #[] w fun e w' => e = .returned (.bool true) ∧ Below w.heap.size w w')
    (hLay : ∀ (p : Option Addr) (n cap : Nat) (X : Nat → It) (w : World), Items w p n X → (∀ b off, p = some ⟨b, off, none⟩ → b < w.heap.size) → n ≤ 10000 → I w → Calls Tryd.prog 8 #[.slice p n cap] w fun e w' => Below w.heap.size w w' ∧ LayW n X e w')
    (X : Nat → It) (p : Option Addr) (n cap : Nat) (t : Int) (w : World) (hI : Items w p n X) (hL : I w) :
    Calls Tryd.prog 4 #[.slice p n cap, .int .i64 t] w fun e w' => e = .returned (.bool true) ∧ Below w.heap.size w w' := by
  by_cases hbig : 30 < n
  · go_enter Tryd.func4, Tryd.ntmps4
    go_wp2_with (go_at_call 6; refine (hAn _ hL).mono ?_; rintro e w1 ⟨rfl, hb1⟩)
    go_ret
    exact ⟨rfl, hb1⟩
  · go_enter Tryd.func4, Tryd.ntmps4
    go_wp2_with (go_at_call 6; refine (hAn _ hL).mono ?_; rintro e w1 ⟨rfl, hb1⟩)
    refine (all_any (hI.below hb1) (by omega) t).mono ?_
    rintro e w2 ⟨a, b, rfl, hA, hBb, hb2⟩
    have hB2 := hb1.trans (hb2.mono hb1.size)
    obtain ⟨pa, ca, rfl, hIa, hpa⟩ := own_items hA (allK_wf hI.wf)
    have hm := allK_len X t n
    generalize hY : itAt (allK X t n) = Y at *
    generalize hM : (allK X t n).length = M at *
    obtain ⟨bp, bn, bc, rfl⟩ : ∃ bp bn bc, b = .slice bp bn bc := by
      rcases hBb.2 with ⟨hv, _⟩ | ⟨g, c, cur, hv, _⟩
      · exact ⟨_, _, _, hv⟩
      · exact ⟨_, _, _, hv⟩
    clear hA hBb hb1
    go_wp2_with fail
    refine (hLay pa M ca Y w2 hIa hpa (by omega) (hI0 hL hB2)).mono ?_
    rintro e w3 ⟨hb3, hpost⟩
    have hB3 := hide (hB2.trans (hb3.mono hB2.size))
    rcases hpost with ⟨n2, hne, rfl⟩ | ⟨R, ga, gs, bp2, bc2, LB, hr, hO, hF, hE, rfl, hA, hS, hl⟩
    · clear hb2 hB2 hb3
      go_wp2_with fail
      go_ret
      exact ⟨rfl, hB3.out.alloc hB3.out.size _⟩
    · have hI3 := hide (hIa.below hb3)
      have HA := hide hA
      have HS := hide hS
      have hfew := hE.few
      clear hb2 hB2 hb3 hA hS
      unfold ldv
      go_wp2_with fail
      have hX4 := heap_alloc_new w3 (.cells #[.slice bp2 LB bc2, .slice (some ⟨ga, 0, none⟩) M M, .slice (some ⟨gs, 0, none⟩) M M, .int .i64 ((R : Int) + 1)] 30)
      have hb34 := (Below.refl w3.heap.size w3).alloc (Nat.le_refl _) (.cells #[.slice bp2 LB bc2, .slice (some ⟨ga, 0, none⟩) M M, .slice (some ⟨gs, 0, none⟩) M M, .int .i64 ((R : Int) + 1)] 30)
      have HI4 := hide (hI3.out.below hb34)
      have HA4 := hide (HA.out.below hb34)
      have HS4 := hide (HS.out.below hb34)
      have hB4 := hide (hB3.out.trans (hb34.mono hB3.out.size))
      have hg0 : w3.heap.size < (w3.alloc (.cells #[.slice bp2 LB bc2, .slice (some ⟨ga, 0, none⟩) M M, .slice (some ⟨gs, 0, none⟩) M M, .int .i64 ((R : Int) + 1)] 30)).heap.size := by simp
      have HX4 := hide hX4
      clear hX4 hb34 hI3 HA HS hB3
      generalize w3.alloc (.cells #[.slice bp2 LB bc2, .slice (some ⟨ga, 0, none⟩) M M, .slice (some ⟨gs, 0, none⟩) M M, .int .i64 ((R : Int) + 1)] 30) = w4 at *
      generalize w3.heap.size = g0 at *
      go_loopw [45] (fun i wr => ∃ k : Nat, k ≤ M ∧ i = .int .i64 k ∧ Below w4.heap.size w4 wr) (fun i _ => M - (intOf i).toNat)
      case atStart => exact ⟨0, Nat.zero_le _, rfl, Below.refl _ _⟩
      case round =>
        obtain ⟨k, hk, rfl, hbr⟩ := hrel
        by_cases hlt : k < M
        · have hlt' : (k : Int) < M := by omega
          have hIr := HI4.out.below hbr
          rcases hIr.cells with h0 | ⟨b, off, rfl, hbl, hcl⟩
          · omega
          have hrow := hide (hcl k hlt)
          have hXr := heap_alloc_new wr (.cells (itv (Y k)) 38)
          have c0 : (wr.alloc (.cells (itv (Y k)) 38)).cell? ⟨wr.heap.size, 0, none⟩ = some (.int .i64 (Y k).k) := by rw [cell_of_row _ _ _ _ _ _ hXr]; rfl
          have hbr2 := hide (hbr.alloc hbr.size (.cells (itv (Y k)) 38))
          have HXr := hide hXr
          have hXx : (wr.alloc (.cells (itv (Y k)) 38)).heap[g0]? = _ := (hbr2.out.block g0 hg0).trans HX4.out
          have HXx := hide hXx
          clear hcl hIr hXr hXx
          by_cases hk2 : (Y k).k = 2
          · have hkf : ((Y k).k != 2) = false := by simpa using hk2
            obtain ⟨g, hg, hxg, huniq, hfar, hw⟩ := wide_jump hr hO hF hE hlt hk2
            have hsz := size_jump (W := (prg M Y).it R) hlt hk2 ((prg M Y).at_ ((prg M Y).it R) k)
            have hOk := prg_ok (n := M) (X := Y) hr
            have hla : (prg M Y).at_ ((prg M Y).it R) M ≤ 65536 := by have l := hE.last; simp only [Bool.false_eq_true, if_false] at l; exact l.1
            have bk0 := Prg.at_ge hOk ((prg M Y).it R) k
            have bg0 := Prg.at_ge hOk ((prg M Y).it R) g
            have bk1 := Prg.at_mono hOk ((prg M Y).it R) (show k ≤ M by omega)
            have bg1 := Prg.at_mono hOk ((prg M Y).it R) (show g ≤ M by omega)
            have cG := hide (HA4.out.below hbr2.out)
            have cS := hide (HS4.out.below hbr2.out)
            have cI := hide (HI4.out.below hbr2.out)
            have c13 : (wr.alloc (.cells (itv (Y k)) 38)).cell? ⟨wr.heap.size, 13, none⟩ = some (.int .i64 (Y k).l) := by rw [cell_of_row _ _ _ _ _ _ (heap_alloc_new wr _)]; rfl
            have hlay := hide (range_rowF HXx.out [.slice bp2 LB bc2, .slice (some ⟨ga, 0, none⟩) M M, .slice (some ⟨gs, 0, none⟩) M M, .int .i64 ((R : Int) + 1)] rfl)
            have HRow := hide (heap_alloc_new wr (.cells (itv (Y k)) 38))
            generalize hAg : (prg M Y).at_ ((prg M Y).it R) g = Ag at *
            generalize hAk : (prg M Y).at_ ((prg M Y).it R) k = Ak at *
            generalize hAM : (prg M Y).at_ ((prg M Y).it R) M = AM at *
            generalize hSz : (prg M Y).sz k ((prg M Y).it R k) Ak = Sz at *
            generalize hFa : (prg M Y).far ((prg M Y).it R) k = Fa at *
            generalize hcc : (Y k).c = cc at *
            subst hfar
            have HW : Hid ((Sz = 2 ∧ ((-256 ≤ Ag - Ak - 4 ∧ Ag - Ak - 4 ≤ 254) ∨ (cc = -1 ∧ -2048 ≤ Ag - Ak - 4 ∧ Ag - Ak - 4 ≤ 2046))) ∨ (Sz = 4 ∧ 200 ≤ AM)) := by
              rcases hw with ⟨a1, a2⟩ | ⟨a1, a2⟩
              · exact hide (.inl ⟨by rw [hsz, a1]; rfl, a2⟩)
              · exact hide (.inr ⟨by rw [hsz, a1]; rfl, a2⟩)
            have HAk := hide hAk
            have HAg := hide hAg
            have HSz := hide hSz
            have HFa := hide hFa
            have Hcc := hide hcc
            clear hsz hw hAk hAg hSz hFa hcc
            go_wp2_with (first
              | (refine wpList_load_mid rfl 38 _ rfl b (off + k * 15) rfl (itv (Y k)).toList _ (unhide hrow) Tryd.underlying38 rfl info_it ?_)
              | (refine wpList_store_rowTo rfl 38 _ _ rfl rfl _ (itv (Y k)) rfl rfl 38 (itv zerT) (heap_alloc_last _ _) info_it rfl (one_it _) ?_; rw [World.setRow_alloc_new])
              | (refine wpList_load_mid rfl 30 _ rfl g0 0 rfl _ _ (unhide hlay) Tryd.underlying30 rfl info_ld ?_)
              | (go_at_call 10
                 refine (Label_any (vb := .slice bp2 LB bc2) (ga := ga) (gs := gs) (n := M) (cap := ca) (r := (R : Int) + 1) (X := Y) (unhide cI) (unhide cG) (by omega) (Y k).l).mono ?_
                 rintro e w5 ⟨hb5, hlab⟩
                 rcases hlab with ⟨i, hi, hxi, _, he⟩ | ⟨hn, rfl⟩
                 rotate_left
                 · exact absurd hxg (hn g hg)
                 rw [huniq i hi hxi, HAg.out] at he
                 subst he
                 have HB5 := hide (hbr2.out.trans (hb5.mono hbr2.out.size))
                 have q12 : w5.cell? ⟨wr.heap.size, 12, none⟩ = some (.int .i64 cc) := by rw [← Hcc.out, cell_of_row _ _ _ _ _ _ ((hb5.block wr.heap.size (by simp)).trans HRow.out)]; rfl
                 have q1 : w5.cell? ⟨g0, 1, none⟩ = some (.slice (some ⟨ga, 0, none⟩) M M) := by rw [cell_of_row _ _ _ _ _ _ ((hb5.block g0 (lt_of_block HXx.out)).trans HXx.out)]; rfl
                 have q2 : w5.cell? ⟨g0, 2, none⟩ = some (.slice (some ⟨gs, 0, none⟩) M M) := by rw [cell_of_row _ _ _ _ _ _ ((hb5.block g0 (lt_of_block HXx.out)).trans HXx.out)]; rfl
                 have q0 : w5.cell? ⟨g0, 0, none⟩ = some (.slice bp2 LB bc2) := by rw [cell_of_row _ _ _ _ _ _ ((hb5.block g0 (lt_of_block HXx.out)).trans HXx.out)]; rfl
                 have q3 : w5.cell? ⟨ga, k, none⟩ = some (.int .i64 Ak) := by rw [← HAk.out]; exact (cG.out.below hb5).cell k hlt
                 have q4 : w5.cell? ⟨gs, k, none⟩ = some (.int .i64 Sz) := by rw [← HSz.out, ← HAk.out]; exact (cS.out.below hb5).cell k hlt))
            have hlb : (LB : Int) = AM := by rw [hl]
            generalize hD : Ag - Ak - 4 = D at *
            have HD := hide hD
            clear hD
            rcases unhide HW with ⟨rfl, hn1⟩ | ⟨rfl, hn1⟩
            · rcases hn1 with ⟨d1, d2⟩ | ⟨rfl, d1, d2⟩
              · go_wp2_with fail
                go_roundw
                case rel => exact ⟨k + 1, by omega, by go_num, HB5.out⟩
                case measure => simp [intOf]; omega
              · have e6 : decide (-2048 ≤ D) = true := decide_eq_true d1
                have e7 : decide (D ≤ 2046) = true := decide_eq_true d2
                by_cases d3 : -256 ≤ D
                · by_cases d4 : D ≤ 254
                  · go_wp2_with fail
                    go_roundw
                    case rel => exact ⟨k + 1, by omega, by go_num, HB5.out⟩
                    case measure => simp [intOf]; omega
                  · have e4 : decide (D ≤ 254) = false := decide_eq_false d4
                    have D4 := hide d4
                    clear d4
                    go_wp2_with fail
                    go_roundw
                    case rel => exact ⟨k + 1, by omega, by go_num, HB5.out⟩
                    case measure => simp [intOf]; omega
                · have e3 : decide (-256 ≤ D) = false := decide_eq_false d3
                  have D3 := hide d3
                  clear d3
                  go_wp2_with fail
                  go_roundw
                  case rel => exact ⟨k + 1, by omega, by go_num, HB5.out⟩
                  case measure => simp [intOf]; omega
            · have hlb2 : 200 ≤ (LB : Int) := by omega
              by_cases d3 : -256 ≤ D
              · by_cases d4 : D ≤ 254
                · have e3 : decide (-256 ≤ D) = true := decide_eq_true (by omega)
                  have e4 : decide (D ≤ 254) = true := decide_eq_true (by omega)
                  have Hd3 := hide d3
                  clear d3
                  have Hd4 := hide d4
                  clear d4
                  go_wp2_with fail
                  go_roundw
                  case rel => exact ⟨k + 1, by omega, by go_num, HB5.out⟩
                  case measure => simp [intOf]; omega
                · by_cases d5 : cc = -1
                  · have e5 : (cc == -1) = true := by simpa using d5
                    by_cases d7 : D ≤ 2046
                    · have e3 : decide (-256 ≤ D) = true := decide_eq_true (by omega)
                      have e4 : decide (D ≤ 254) = false := decide_eq_false (by omega)
                      have e6 : decide (-2048 ≤ D) = true := decide_eq_true (by omega)
                      have e7 : decide (D ≤ 2046) = true := decide_eq_true (by omega)
                      have Hd3 := hide d3
                      clear d3
                      have Hd4 := hide d4
                      clear d4
                      have Hd5 := hide d5
                      clear d5
                      have Hd7 := hide d7
                      clear d7
                      go_wp2_with fail
                      go_roundw
                      case rel => exact ⟨k + 1, by omega, by go_num, HB5.out⟩
                      case measure => simp [intOf]; omega
                    · have e3 : decide (-256 ≤ D) = true := decide_eq_true (by omega)
                      have e4 : decide (D ≤ 254) = false := decide_eq_false (by omega)
                      have e6 : decide (-2048 ≤ D) = true := decide_eq_true (by omega)
                      have e7 : decide (D ≤ 2046) = false := decide_eq_false (by omega)
                      have Hd3 := hide d3
                      clear d3
                      have Hd4 := hide d4
                      clear d4
                      have Hd5 := hide d5
                      clear d5
                      have Hd7 := hide d7
                      clear d7
                      go_wp2_with fail
                      go_roundw
                      case rel => exact ⟨k + 1, by omega, by go_num, HB5.out⟩
                      case measure => simp [intOf]; omega
                  · have e5 : (cc == -1) = false := by simpa using d5
                    have e3 : decide (-256 ≤ D) = true := decide_eq_true (by omega)
                    have e4 : decide (D ≤ 254) = false := decide_eq_false (by omega)
                    have Hd3 := hide d3
                    clear d3
                    have Hd4 := hide d4
                    clear d4
                    have Hd5 := hide d5
                    clear d5
                    go_wp2_with fail
                    go_roundw
                    case rel => exact ⟨k + 1, by omega, by go_num, HB5.out⟩
                    case measure => simp [intOf]; omega
              · by_cases d5 : cc = -1
                · have e5 : (cc == -1) = true := by simpa using d5
                  by_cases d6 : -2048 ≤ D
                  · have e3 : decide (-256 ≤ D) = false := decide_eq_false (by omega)
                    have e6 : decide (-2048 ≤ D) = true := decide_eq_true (by omega)
                    have e7 : decide (D ≤ 2046) = true := decide_eq_true (by omega)
                    have Hd3 := hide d3
                    clear d3
                    have Hd5 := hide d5
                    clear d5
                    have Hd6 := hide d6
                    clear d6
                    go_wp2_with fail
                    go_roundw
                    case rel => exact ⟨k + 1, by omega, by go_num, HB5.out⟩
                    case measure => simp [intOf]; omega
                  · have e3 : decide (-256 ≤ D) = false := decide_eq_false (by omega)
                    have e6 : decide (-2048 ≤ D) = false := decide_eq_false (by omega)
                    have Hd3 := hide d3
                    clear d3
                    have Hd5 := hide d5
                    clear d5
                    have Hd6 := hide d6
                    clear d6
                    go_wp2_with fail
                    go_roundw
                    case rel => exact ⟨k + 1, by omega, by go_num, HB5.out⟩
                    case measure => simp [intOf]; omega
                · have e5 : (cc == -1) = false := by simpa using d5
                  have e3 : decide (-256 ≤ D) = false := decide_eq_false (by omega)
                  have Hd3 := hide d3
                  clear d3
                  have Hd5 := hide d5
                  clear d5
                  go_wp2_with fail
                  go_roundw
                  case rel => exact ⟨k + 1, by omega, by go_num, HB5.out⟩
                  case measure => simp [intOf]; omega
          · have hkf : ((Y k).k != 2) = true := by simpa using hk2
            go_wp2_with (first
              | (refine wpList_load_mid rfl 38 _ rfl b (off + k * 15) rfl (itv (Y k)).toList _ (unhide hrow) Tryd.underlying38 rfl info_it ?_)
              | (refine wpList_store_rowTo rfl 38 _ _ rfl rfl _ (itv (Y k)) rfl rfl 38 (itv zerT) (heap_alloc_last _ _) info_it rfl (one_it _) ?_; rw [World.setRow_alloc_new]))
            go_roundw
            case rel => exact ⟨k + 1, by omega, by go_num, hbr2.out⟩
            case measure => simp [intOf]; omega
        · have d3 : wr.cell? ⟨g0, 3, none⟩ = some (.int .i64 ((R : Int) + 1)) := by rw [cell_of_row _ _ _ _ _ _ ((hbr.block g0 hg0).trans HX4.out)]; rfl
          have HBE := hide (hB4.out.trans (hbr.mono hB4.out.size))
          clear hbr
          have hfw : (R : Int) ≤ M := by have : R ≤ M := hfew; omega
          go_wp2_with fail
          go_ret
          exact ⟨rfl, HBE.out⟩

end Go.Proofs.YtegefbndpkbooaaDoor.Asm

