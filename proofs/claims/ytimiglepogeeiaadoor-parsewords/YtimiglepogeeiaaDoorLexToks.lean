/- Package lex's Tokens: a contract. -/
import Derived.Test.YtimiglepogeeiaaDoorLexSrc
import Derived.Test.YtimiglepogeeiaaDoorLexGap
import Derived.Laws.AppendOwn
import Derived.Great.Walk
set_option linter.unusedVariables false
set_option linter.unusedSimpArgs false
namespace Go.Proofs.YtimiglepogeeiaaDoor.Lex
open Go.RowKit

/-- What is told of a source: a row of tokens, or an error. -/
def Told (E : TypeId) (B : Nat) (r : Except (Nat × Nat) (List T)) (e : Ending) (w : World) : Prop :=
  match r with
  | .error (n, a) => e = .returned (.tuple #[.slice none 0 0, .int .i64 n, .int .i64 a])
  | .ok ts => ∃ v, e = .returned (.tuple #[v, .int .i64 0, .int .i64 0]) ∧ w.ownsRow B E 4 v ts.length (tsC ts)

/-- Where the rounds stand: what has been told, and what comes. -/
def TRel (l : List UInt8) (E : TypeId) (w : World) (v i : Value) (wr : World) : Prop :=
  ∃ (ts : List T) (a : Nat), a ≤ l.length ∧ gap false (l.drop a) = 0 ∧ i = .int .i64 a ∧ ts.length ≤ a ∧ wr.ownsRow w.heap.size E 4 v ts.length (tsC ts) ∧ Below w.heap.size w wr ∧ toks l 0 = pre ts (toks (l.drop a) a)

theorem tok_grown {w wr w1 w2 : World} {cs ds : Array Value} {t u : TypeId} {row : Option Nat} (hb : Below w.heap.size w wr) (hb1 : Below wr.heap.size wr w1)
    (hg : ((w1.alloc (.cells cs t)).alloc (.cells ds u)).grownBy w2 row) (hr : ∀ j, row = some j → w.heap.size ≤ j ∧ j < wr.heap.size) : Below w.heap.size w w2 := by
  have h1 := hb.size
  have h2 := hb1.size
  have ha := ((hb.trans (hb1.mono hb.size)).alloc (by omega) (.cells cs t)).alloc (by simp; omega) (.cells ds u)
  exact ha.grown hg (by simp; omega) (fun k hk => (hr k hk).1)
theorem tok_box {wr w1 w2 : World} {cs ds : Array Value} {t u : TypeId} {row : Option Nat} {b k : Nat} {v : Value} (hb1 : Below wr.heap.size wr w1)
    (hg : ((w1.alloc (.cells cs t)).alloc (.cells ds u)).grownBy w2 row) (hr : ∀ j, row = some j → b ≤ j ∧ j < wr.heap.size) (hv : cs[k]? = some v) : w2.cell? ⟨w1.heap.size, k, none⟩ = some v := by
  have h2 := hb1.size
  have hb := hg.block w1.heap.size (by simp; omega) (fun e => by have := (hr _ e.symm).2; omega)
  have : ((w1.alloc (.cells cs t)).alloc (.cells ds u)).cell? ⟨w1.heap.size, k, none⟩ = some v := by
    simp [hv]
  rw [← this]
  exact World.cell?_of_block hb
theorem first_at (l : List UInt8) (a : Nat) (h : a < l.length) (hl : l.length ≤ 65536) (w : World) (hS : Sig w) : Calls Tryd.prog 26 #[.string ((S l).extract a l.length)] w fun e w' => e = .returned (fiV (l.drop a)) ∧ Below w.heap.size w w' := by
  have e : (S l).extract a l.length = S (l.drop a) := ext_drop (S l) a
  rw [e]
  exact first_any (S (l.drop a)) w (by rw [S_size, List.length_drop]; omega) (by rw [S_size, List.length_drop]; unfold maxLen; omega) hS
theorem bad_nat (l : List UInt8) (h : (tok l).k = 0) : (tok l).n = 100 ∨ (tok l).n = 101 ∨ (tok l).n = 102 := by
  unfold tok at h ⊢
  by_cases h1 : letB (byt l 0) = true
  · rw [if_pos h1] at h ⊢
    by_cases h2 : 32 < run worB l
    · rw [if_pos h2]; exact .inr (.inr rfl)
    · rw [if_neg h2] at h; cases h
  · rw [if_neg h1] at h ⊢
    by_cases h3 : digB (byt l 0) = true
    · rw [if_pos h3] at h ⊢
      by_cases h2 : val (l.take (run worB l)) < 0
      · rw [if_pos h2]; exact .inr (.inl rfl)
      · rw [if_neg h2] at h; cases h
    · rw [if_neg h3] at h ⊢
      by_cases h2 : sgn l = 0
      · rw [if_pos h2]; exact .inl rfl
      · rw [if_neg h2] at h; cases h

set_option maxRecDepth 100000 in
set_option maxHeartbeats 4000000 in
theorem Tokens_any (l : List UInt8) (p : Option Addr) (n cap : Nat) (w : World) (hS : Sig w) (hp : Src w p n l) (hn : n ≤ maxLen) : Calls Tryd.prog 18 #[.slice p n cap] w fun e w' => Told 53 w.heap.size (lexed l) e w' ∧ Below w.heap.size w w' := by
  unfold maxLen at hn
  obtain rfl := hp.len
  by_cases hbig : 65536 < l.length
  · have hx : lexed l = .error (161, 0) := by unfold lexed; rw [if_pos (by omega)]
    rw [hx]
    go_enter Tryd.func18, Tryd.ntmps18
    go_wp2_with fail
    go_ret3
    exact ⟨rfl, Below.refl _ _⟩
  · have hx : lexed l = toks l 0 := by unfold lexed; rw [if_neg (by omega)]
    rw [hx]
    obtain ⟨i0, hi, hz0, hz1, hz2⟩ := info_parts infoTok
    have hcv := conv_src cap hp
    have hg0 := gap_le false l
    have hpt := parted_any (S l) 0 (Nat.zero_le _) w (by rw [S_size]; unfold maxLen; omega)
    rw [B_S, List.drop_zero, Nat.zero_add] at hpt
    go_enter Tryd.func18, Tryd.ntmps18
    go_wp2_with (go_at_call 25; refine hpt.mono ?_; rintro e w1 ⟨rfl, hw1⟩; rw [hw1]; clear hw1)
    go_loopw [6, 7] (fun v i wr => TRel l 53 w v i wr) (fun _ i _ => l.length - (intOf i).toNat)
    case atStart => exact ⟨[], gap false l, hg0, gap_idem false l, rfl, Nat.zero_le _, World.ownsRow_nil _ _ _ _, Below.refl _ _, by rw [pre_nil]; have := toks_gap l 0; rw [Nat.zero_add] at this; exact this⟩
    case round =>
      obtain ⟨ts, a, ha, hg, rfl, hts, hown, hb, he⟩ := hrel
      have HB := hide hb
      have HO := hide hown
      have HE := hide he
      have hZ : (S l).size = l.length := rfl
      by_cases hlt : a < l.length
      · have hfi := first_at l a hlt (by omega) wr (hS.below hb)
        have hne : l.drop a ≠ [] := fun e => by have := congrArg List.length e; simp at this; omega
        clear hb hown he
        by_cases hk : (tok (l.drop a)).k = 0
        · have hv : fiV (l.drop a) = noV (tok (l.drop a)).n := by unfold fiV; rw [if_pos hk]
          have HT := hide (toks_at_bad l a hlt hg hk)
          have hn0 := bad_nat (l.drop a) hk
          rw [hv] at hfi
          unfold noV at hfi
          clear hv
          generalize (tok (l.drop a)).n = N at *
          have hN : ((N : Int) != 0) = true := by simp; omega
          go_wp2_with (go_at_call 26; refine hfi.mono ?_; rintro e w1 ⟨rfl, hb1⟩)
          go_ret3
          refine ⟨?_, HB.out.trans ((hb1.alloc (Nat.le_trans (Nat.le_refl _) hb1.size) _).mono HB.out.size)⟩
          rw [HE.out, HT.out]
          rfl
        · have hv : fiV (l.drop a) = tkV (tok (l.drop a)).k ((l.drop a).take (tok (l.drop a)).n) (tok (l.drop a)).v := by unfold fiV; rw [if_neg hk]
          have HT := hide (toks_at_good l a hlt hg hk)
          have hlen := tok_len _ hne hk
          rw [List.length_drop] at hlen
          have hxl : ((l.drop a).take (tok (l.drop a)).n).length = (tok (l.drop a)).n := by rw [List.length_take, List.length_drop]; omega
          have hvv := tok_val (l.drop a)
          rw [hv] at hfi
          unfold tkV at hfi
          have hm : mkT (l.drop a) a = ⟨((tok (l.drop a)).k : Nat), (a : Nat), (l.drop a).take (tok (l.drop a)).n, (tok (l.drop a)).v⟩ := rfl
          rw [hm] at HT
          clear hv hm
          generalize (tok (l.drop a)).k = K at *
          generalize (tok (l.drop a)).v = V at *
          generalize hN : (tok (l.drop a)).n = N at *
          have hpt := parted_any (S l) (a + N) (by rw [hZ]; omega)
          generalize hX : (l.drop a).take N = X at *
          have hXz : (S X).size = N := hxl
          have HG := hide (gap_idem false (l.drop (a + N)))
          have hgl := gap_le false (l.drop (a + N))
          rw [List.length_drop] at hgl
          rw [B_S] at hpt
          generalize gap false (l.drop (a + N)) = G at *
          have hpt2 : ∀ w, Calls Tryd.prog 25 #[.string (S l), .int .i64 ((a : Int) + (N : Int))] w fun e w' => e = .returned (.int .i64 ((a + N + G : Nat) : Int)) ∧ w' = w := fun w => by
            have := hpt w (by rw [hZ]; unfold maxLen; omega)
            rw [Int.natCast_add a N] at this
            exact this
          clear hpt
          go_wp2_with (first
            | (go_at_call 26; refine hfi.mono ?_; rintro e w1 ⟨rfl, hb1⟩; have HB1 := hide hb1; clear hb1)
            | (at_builtin; refine wpList_append_own _ rfl (.tmp 34) (.tmp 36) 46 rfl w.heap.size 53 i0 (.agg #[.int .i64 0, .int .i64 0, .string ⟨#[]⟩, .int .u32 0]) 4 40 Tryd.underlying46 hi hz0 hz1 hz2 rfl (by decide) _ ts.length (tsC ts) rfl ?o1 ⟨_, 0, none⟩ 1 1 [.int .i64 K, .int .i64 a, .string (S X), .int .u32 V] rfl rfl ?c1 ?c2 ?c3 ?c4 ?c5 ?_))
          case o1 => exact ((owns_below HO.out HB1.out).alloc _).alloc _
          case c1 =>
            intro j u hj
            match j, hj with
            | 0, hj => simp at hj; subst hj; simp [Addr.add]
            | 1, hj => simp at hj; subst hj; simp [Addr.add]
            | 2, hj => simp at hj; subst hj; simp [Addr.add]
            | 3, hj => simp at hj; subst hj; simp [Addr.add]
          case c2 => intro u hu; simp at hu; rcases hu with rfl | rfl | rfl | rfl <;> rfl
          case c3 => unfold maxLen; omega
          case c4 => omega
          case c5 => have h1 := HB.out.size; have h2 := HB1.out.size; simp; omega
          intro v' w2 hown' hgrow _
          have HB2 := hide (tok_grown HB.out HB1.out hgrow (fun j hj => HO.out.lt j hj))
          have hc2 : w2.cell? ⟨w1.heap.size, 2, none⟩ = some (.string (S X)) := tok_box HB1.out hgrow (fun j hj => HO.out.lt j hj) rfl
          have HO2 := hide hown'
          clear hown' hgrow
          go_wp2_with (go_at_call 25; refine (hpt2 _).mono ?_; rintro e w3 ⟨rfl, hw3⟩; rw [hw3]; clear hw3)
          have hr : TRel l 53 w v' (Value.int IntKind.i64 ((a : Int) + N + G)) w2 := by
            refine ⟨ts ++ [⟨(K : Nat), (a : Nat), X, V⟩], a + N + G, by omega, ?_, by go_num, by simp; omega, ?_, HB2.out, ?_⟩
            · have := HG.out; rw [List.drop_drop] at this; exact this
            · rw [tsC_snoc, List.length_append]; exact HO2.out
            · rw [HE.out, HT.out, pre_pre]
          exact ⟨hr, by simp [intOf]; omega⟩
      · obtain rfl : a = l.length := by omega
        have HT := hide (toks_at_end l l.length (Nat.le_refl _))
        clear hb hown he
        go_wp2_with (at_builtin; refine wpList_append_own _ rfl (.tmp 45) (.tmp 48) 46 rfl w.heap.size 53 i0 (.agg #[.int .i64 0, .int .i64 0, .string ⟨#[]⟩, .int .u32 0]) 4 40 Tryd.underlying46 hi hz0 hz1 hz2 rfl (by decide) _ ts.length (tsC ts) rfl (HO.out.alloc _) ⟨_, 0, none⟩ 1 1 [.int .i64 4, .int .i64 (l.length : Nat), .string (S []), .int .u32 0] rfl rfl ?c1 ?c2 ?c3 ?c4 ?c5 ?_)
        case c1 =>
          intro j u hj
          match j, hj with
          | 0, hj => simp at hj; subst hj; simp [Addr.add]
          | 1, hj => simp at hj; subst hj; simp [Addr.add]
          | 2, hj => simp at hj; subst hj; simp [Addr.add, S]
          | 3, hj => simp at hj; subst hj; simp [Addr.add]
        case c2 => intro u hu; simp at hu; rcases hu with rfl | rfl | rfl | rfl <;> rfl
        case c3 => unfold maxLen; omega
        case c4 => omega
        case c5 => have h1 := HB.out.size; simp; omega
        intro v' w2 hown' hgrow _
        have hb2 := (HB.out.alloc HB.out.size _).grown hgrow (by have h1 := HB.out.size; simp; omega) (fun j hj => (HO.out.lt j hj).1)
        go_wp2_with fail
        all_goals
          go_ret3
          refine ⟨?_, hb2⟩
          rw [HE.out, HT.out]
          exact ⟨v', rfl, by rw [tsC_snoc, List.length_append]; exact hown'⟩

end Go.Proofs.YtimiglepogeeiaaDoor.Lex

