/- For every byte c the statement LexBytes returns true: a byte begins a name just if it is a letter or an underscore; it is a digit just from 0 to 9.
Conditions: none of the arguments; the package variables that the row lists hold what the program lays (the card ties them to its text). -/
import Derived.Test.YtcplkdiieeefiaaDoorRows
import Derived.WalkKit
import Derived.ProofKit
import Derived.OpenShut
import Derived.Deep.DeepHandedRow
import Derived.Deep.RegionHeld3
import Derived.Test.YtcplkdiieeefiaaDoorCards
import Derived.Test.YtcplkdiieeefiaaDoorTie
import Derived.Test.YtcplkdiieeefiaaDoorEnds
import Derived.Test.YtcplkdiieeefiaaDoorLexAnchor
import Derived.Test.YtcplkdiieeefiaaDoorLexLaid
namespace Go.Proofs.YtcplkdiieeefiaaDoor.lexBytes
open Go.ChangeShapes Go.WideShapes Go.ChangeAt Go.RowKit
open Lex
set_option linter.unusedVariables false

theorem own : ownKnob Tryd.prog.godebug = none := by kernel_rfl
theorem laidOut : laidOutB Tryd.prog = true := by kernel_rfl
theorem one_end (c : UInt8) : toks ([c].drop 1) 1 = .ok [⟨4, 1, [], 0⟩] := toks_at_end [c] 1 (Nat.le_refl _)
theorem one_byt (c : UInt8) : byt [c] 0 = c.toNat := byt_zero c []
theorem one_gap (c : UInt8) (h : blaB c.toNat = false) : gap false [c] = 0 := by
  have := gap_none [c] 0 (by rw [one_byt]; exact h) (by rintro ⟨_, h2⟩; cases h2)
  exact this
theorem lexed_one (c : UInt8) : lexed [c] = toks [c] 0 := rfl
theorem one_good (c : UInt8) (h : blaB c.toNat = false) {K : Nat} {V : Int} (ht : tok [c] = ⟨K + 1, 1, V⟩) : lexed [c] = .ok [⟨(K + 1 : Nat), 0, [c], V⟩, ⟨4, 1, [], 0⟩] := by
  have hg := one_gap c h
  have := toks_at_good [c] 0 (Nat.lt_succ_self 0) hg (by rw [List.drop_zero, ht]; exact Nat.succ_ne_zero K)
  have hm : mkT ([c].drop 0) 0 = ⟨(K + 1 : Nat), 0, [c], V⟩ := by unfold mkT; rw [List.drop_zero, ht]; rfl
  rw [hm] at this
  simp only [List.drop_zero, ht] at this
  have hz : gap false ([c].drop (0 + 1)) = 0 := by rfl
  rw [hz] at this
  rw [lexed_one, this]
  show pre _ (toks ([c].drop 1) 1) = _
  rw [one_end]
  rfl
theorem one_bad (c : UInt8) (h : blaB c.toNat = false) {n : Nat} {V : Int} (ht : tok [c] = ⟨0, n, V⟩) : lexed [c] = .error (n, 0) := by
  have := toks_at_bad [c] 0 (Nat.lt_succ_self 0) (one_gap c h) (by rw [List.drop_zero, ht])
  rw [List.drop_zero, ht] at this
  rw [lexed_one, this]
theorem one_blank (c : UInt8) (h : blaB c.toNat = true) : lexed [c] = .ok [⟨4, 1, [], 0⟩] := by
  have hg : gap false [c] = 1 := by rw [gap, if_pos h]; rfl
  rw [lexed_one, toks_end [c] 0 (by rw [hg]; rfl), hg]
  rfl
theorem one_run (c : UInt8) (h : worB c.toNat = true) : run worB [c] = 1 := by rw [run, if_pos h]; rfl
theorem one_val (c : UInt8) (h : digB c.toNat = true) : val [c] = c.toNat - 48 := by
  have h' : (48 : Int) ≤ c.toNat ∧ (c.toNat : Int) ≤ 57 := by simpa [digB] using h
  have hd : dig c.toNat = c.toNat - 48 := by unfold dig; rw [if_pos h']
  have hx : hexB [c] = false := by unfold hexB; simp
  rw [val, if_neg (by rw [hx]; exact Bool.false_ne_true), if_neg (by simp), num, hd, if_neg (by omega), if_neg (by omega)]
  show (0 : Int) * 10 + (c.toNat - 48) = _
  omega
/-- What a source of one byte has. -/
theorem one_cases (c : UInt8) : (letB c.toNat = false ∧ digB c.toNat = false ∧ (lexed [c] = .ok [⟨4, 1, [], 0⟩] ∨ lexed [c] = .error (100, 0) ∨ lexed [c] = .ok [⟨3, 0, [c], 0⟩, ⟨4, 1, [], 0⟩])) ∨
    (letB c.toNat = true ∧ digB c.toNat = false ∧ lexed [c] = .ok [⟨1, 0, [c], 0⟩, ⟨4, 1, [], 0⟩]) ∨
    (letB c.toNat = false ∧ digB c.toNat = true ∧ lexed [c] = .ok [⟨2, 0, [c], c.toNat - 48⟩, ⟨4, 1, [], 0⟩]) := by
  cases hb : blaB c.toNat
  · cases hl : letB c.toNat
    · cases hd : digB c.toNat
      · have ht := tok_sgn [c] (by rw [one_byt]; exact hl) (by rw [one_byt]; exact hd)
        by_cases hs : sgn [c] = 0
        · rw [if_pos hs] at ht
          exact .inl ⟨rfl, rfl, .inr (.inl (one_bad c hb ht))⟩
        · rw [if_neg hs] at ht
          have h1 : sgn [c] = 1 := by have := sgnL_le signs [c]; have h2 : sgn [c] ≤ 1 := this; omega
          rw [h1] at ht
          exact .inl ⟨rfl, rfl, .inr (.inr (one_good c hb ht))⟩
      · have ht := tok_dig [c] (by rw [one_byt]; exact hl) (by rw [one_byt]; exact hd)
        have hr := one_run c (by rw [worB, hd]; simp)
        rw [hr, show List.take 1 [c] = [c] from rfl, one_val c hd] at ht
        have h' : (48 : Int) ≤ c.toNat ∧ (c.toNat : Int) ≤ 57 := by simpa [digB] using hd
        rw [if_neg (by omega)] at ht
        exact .inr (.inr ⟨rfl, rfl, one_good c hb ht⟩)
    · have hd : digB c.toNat = false := by
        simp [letB, digB] at hl ⊢
        omega
      have ht := tok_let [c] (by rw [one_byt]; exact hl)
      rw [one_run c (by rw [worB, hl]; rfl), if_neg (by omega)] at ht
      exact .inr (.inl ⟨rfl, hd, one_good c hb ht⟩)
  · have hx : ((c.toNat : Int) = 32 ∨ (c.toNat : Int) = 9 ∨ (c.toNat : Int) = 13 ∨ (c.toNat : Int) = 10) := by simpa [blaB] using hb
    exact .inl ⟨by simp [letB]; omega, by simp [digB]; omega, .inl (one_blank c hb)⟩

set_option maxRecDepth 100000 in
set_option maxHeartbeats 4000000 in
theorem walk (a0 : Int) (w : World) (w0 : (Lit.int .u8 a0).wf = true) (hL : Lex.Laid w) :
    Calls Tryd.prog 6 #[.int .u8 a0] w fun e w' => e = .returned (.bool true) ∧ Below w.heap.size w w' := by
  have hx : 0 ≤ a0 ∧ a0 < 256 := by
    have h := w0
    simp [Lit.wf] at h
    have e1 : IntKind.u8.min = 0 := rfl
    have e2 : IntKind.u8.max = 255 := rfl
    omega
  obtain ⟨c, hc⟩ : ∃ c : UInt8, (c.toNat : Int) = a0 := ⟨UInt8.ofNat a0.toNat, by simp; omega⟩
  subst hc
  clear w0
  obtain ⟨b, hb⟩ : ∃ b, b = digB c.toNat := ⟨_, rfl⟩
  go_enter Tryd.func6, Tryd.ntmps6
  go_wp2_with (go_at_call 8; refine (anchor9_any _ hL).mono ?_; rintro e w1 ⟨rfl, hb1⟩)
  have hb2 := hb1.trans ((Below.refl w1.heap.size w1).alloc (Nat.le_refl _) (.cells #[.int .u8 c.toNat] 5) |>.mono hb1.size)
  have hT := Tokens_any [c] (some ⟨w1.heap.size, 0, none⟩) 1 1 _ (Sig.below hL hb2) (src_new [c] w1 (0, 0)) (by unfold maxLen; omega)
  refine hT.mono ?_
  clear hT
  rintro e w2 ⟨hR, hb3⟩
  have HB := hide (hb2.trans (hb3.mono hb2.size))
  clear hb1 hb2 hb3 hb
  rcases one_cases c with ⟨hl, hd, he | he | he⟩ | ⟨hl, hd, he⟩ | ⟨hl, hd, he⟩
  · rw [he] at hR
    obtain ⟨v, rfl, ho⟩ := hR
    obtain ⟨g, cap, rfl, _, hr⟩ := owned ho (by simp)
    clear ho he
    go_wp2_with (first | (go_at_call 12; refine (Letter_is _ _ hl _).mono ?_; rintro e w' ⟨rfl, hw'⟩; rw [hw']; clear hw') | (go_at_call 13; refine (Digit_is _ _ hd _).mono ?_; rintro e w' ⟨rfl, hw'⟩; rw [hw']; clear hw'))
    go_ret
    exact ⟨rfl, HB.out⟩
  · rw [he] at hR
    obtain rfl := hR
    clear he
    go_wp2_with (first | (go_at_call 12; refine (Letter_is _ _ hl _).mono ?_; rintro e w' ⟨rfl, hw'⟩; rw [hw']; clear hw') | (go_at_call 13; refine (Digit_is _ _ hd _).mono ?_; rintro e w' ⟨rfl, hw'⟩; rw [hw']; clear hw'))
    go_ret
    exact ⟨rfl, HB.out⟩
  · rw [he] at hR
    obtain ⟨v, rfl, ho⟩ := hR
    obtain ⟨g, cap, rfl, _, hr⟩ := owned ho (by simp)
    have c0 := hr.k 0 _ rfl
    clear ho he hr
    go_wp2_with (first | (go_at_call 12; refine (Letter_is _ _ hl _).mono ?_; rintro e w' ⟨rfl, hw'⟩; rw [hw']; clear hw') | (go_at_call 13; refine (Digit_is _ _ hd _).mono ?_; rintro e w' ⟨rfl, hw'⟩; rw [hw']; clear hw'))
    go_ret
    exact ⟨rfl, HB.out⟩
  · rw [he] at hR
    obtain ⟨v, rfl, ho⟩ := hR
    obtain ⟨g, cap, rfl, _, hr⟩ := owned ho (by simp)
    have c0 := hr.k 0 _ rfl
    clear ho he hr
    go_wp2_with (first | (go_at_call 12; refine (Letter_is _ _ hl _).mono ?_; rintro e w' ⟨rfl, hw'⟩; rw [hw']; clear hw') | (go_at_call 13; refine (Digit_is _ _ hd _).mono ?_; rintro e w' ⟨rfl, hw'⟩; rw [hw']; clear hw'))
    go_ret
    exact ⟨rfl, HB.out⟩
  · rw [he] at hR
    obtain ⟨v, rfl, ho⟩ := hR
    obtain ⟨g, cap, rfl, _, hr⟩ := owned ho (by simp)
    have c0 := hr.k 0 _ rfl
    clear ho he hr
    go_wp2_with (first | (go_at_call 12; refine (Letter_is _ _ hl _).mono ?_; rintro e w' ⟨rfl, hw'⟩; rw [hw']; clear hw') | (go_at_call 13; refine (Digit_is _ _ hd _).mono ?_; rintro e w' ⟨rfl, hw'⟩; rw [hw']; clear hw'))
    go_ret
    exact ⟨rfl, HB.out⟩

theorem laid_met (os : Os) : laidMet Tryd.prog Rows.lexBytesRow.laid ((Lex.laidWorld Tryd.prog os).forCall (fun _ _ => 0) ⟨#[], #[.int .u8 0], []⟩).memory :=
  laidMet_of_run' 8 (by kernel_rfl) (by kernel_rfl)
theorem reads (os : Os) {H : Type} (enc : TypeId × Value → H) : ∃ places, DataW.whole enc Tryd.prog ((Lex.laidWorld Tryd.prog os).forCall (fun _ _ => 0) ⟨#[], #[.int .u8 0], []⟩).memory Tryd.f6.params.toList Rows.lexBytesSpec.vars false (#[.int .u8 0] : Array Value).toList 8 = some ([(.lit (.int .u8 0))], [], places) :=
  ⟨[], by kernel_rfl⟩

set_option maxRecDepth 100000 in
theorem lifted (os : Os) (started : os.Started) (H : Type) (enc : TypeId × Value → H) (F : Stop.Interp) :
    ReturnsInHanded {} Tryd.checked os 6 .any ((OpenSpec.ofChange Rows.lexBytesSpec).preRow enc Tryd.prog Tryd.f6 Rows.lexBytesRow.domain false Rows.lexBytesRow.laid) (((OpenSpec.ofChange Rows.lexBytesSpec).at F).post enc Tryd.prog Tryd.f6 false true false false) := by
  obtain ⟨places, hx⟩ := reads os enc
  refine returnsInHanded_of_row (C := Tryd.checked) (s := OpenSpec.ofChange Rows.lexBytesSpec) own started (by kernel_rfl) Tryd.func6
    (witness_row_at (enc := enc) (C := Tryd.checked) false (Lex.laidWorld Tryd.prog os) #[.int .u8 0] rfl (by kernel_rfl) (by kernel_rfl) (by kernel_rfl)
      (OpenSpec.preRow_of_cond 8 hx (by kernel_rfl) (fun k hk => by cases hk) (by kernel_rfl) (laid_met os))) ?_
  intro W base args ds gs before hval0 hW _ _ _ hL _ _
  have hval : ∀ (j : Nat) t v, Tryd.f6.params[j]? = some t → args[j]? = some v → Value.okWide Tryd.prog W .any base t v := hval0
  have hW' := hW
  obtain ⟨p, q, hA0, hV, rfl, hfz, hnd⟩ := hW
  have hA : DataW.TrodAll enc Tryd.prog W 0 (fun _ => true) true Tryd.f6.params.toList args.toList ds p := hA0
  rw [Tryd.params6] at hA hval
  obtain ⟨v0, vs0, d0, ds0, p0, q0, hargs, rfl, rfl, h0, r0⟩ := trodAll_cons hA
  obtain ⟨rfl, rfl, rfl⟩ := trodAll_nil r0
  obtain rfl : args = #[v0] := by cases args; simp_all
  obtain ⟨rfl, rfl⟩ := trodVars_none hV
  obtain ⟨a0, rfl, rfl, rfl, w0⟩ := open_int Tryd.underlying5 (hval 0 5 v0 rfl rfl) h0
  clear hA0 hval0
  simp only [List.append_nil] at hW'
  try simp only [List.nil_append] at hW'
  have hlt : ∀ x, x ∈ ([] : List MemPlace) → x.block < W.heap.size := fun x hx => by simpa using hW'.lt x hx
  refine (walk a0 W w0 (Lex.laid_of hL)).mono fun e W' ⟨he, hg⟩ => ?_
  subst he
  exact ⟨_, rfl, Ends.post_of_below (pv := []) hW' (fun _ _ _ => (trodAll_cons_mk (shut_bool Tryd.underlying4 _) trodAll_mk0)) (trodAll_cons_mk (shut_int Tryd.underlying5 w0) trodAll_mk0) (fun _ _ => rfl) (by simp)
    (hg.frame _)⟩

theorem said : Rows.LexBytesSaid :=
  OpenClaim.holds_of_cond 6 Tryd.f6 rfl rfl rfl rfl rfl rfl rfl ⟨rfl, rfl, rfl, rfl, rfl⟩ rfl rfl rfl rfl rfl (by kernel_rfl) Tryd.func6 (by kernel_rfl)
    (of_decide_eq_true (by kernel_rfl)) (by unfold Func.isWrapper; first | (rw [if_pos (by decide +kernel)]; kernel_rfl) | (rw [if_neg (by decide +kernel)]; exact ⟨rfl, rfl⟩))
    (fun os started H enc _ F => by rw [OpenClaim.pre_eq_preRow]; exact lifted os started H enc F)

/-- No parameter wants a stand-in; the program's own looks are off: what the card asks. -/
theorem plain (f : FuncId) (fn : Func) (hf : Tryd.pinned.checked.prog.funcNamed "remontoire/remontoirelaw09.LexBytes" = some f) (hfn : Tryd.pinned.checked.prog.funcs[f]? = some fn) :
    false = Tryd.pinned.checked.prog.looks [] ∧ ∀ (j : Nat) t, fn.params[j]? = some t → Tryd.pinned.checked.prog.wantsStandIn t = false := by
  obtain rfl : f = 6 := Option.some.inj ((show Tryd.prog.funcNamed "remontoire/remontoirelaw09.LexBytes" = some 6 by kernel_rfl).symm.trans hf) |>.symm
  obtain rfl : fn = Tryd.f6 := (Option.some.inj (Tryd.func6.symm.trans hfn)).symm
  refine ⟨by kernel_rfl, fun j t ht => ?_⟩
  rw [Tryd.params6] at ht
  have hm := Array.mem_of_getElem? ht
  simp only [List.mem_toArray, List.mem_cons, List.not_mem_nil, or_false] at hm
  rcases hm with rfl
  · exact (show Tryd.prog.wantsStandIn 5 = false by kernel_rfl)

/-- The card. -/
theorem proved : Rows.LexBytesCardSaid :=
  Claim7.holds_tied_plain_at .later [] _ _ _ _ said (fun _ h => by cases h) (by kernel_rfl) (fun _ h => by cases h) lexBytes_row_tie rfl ⟨rfl, rfl⟩ (by kernel_rfl) rfl plain (by kernel_rfl)
#print axioms proved
end Go.Proofs.YtcplkdiieeefiaaDoor.lexBytes

