/- Blocks at every depth, whole programs: contracts. What all tokens of a source are. -/
import Derived.Test.YtimiglepogeeiaaDoorParseProg
set_option linter.unusedVariables false
set_option linter.unusedSimpArgs false
set_option maxRecDepth 100000
namespace Go.Proofs.YtimiglepogeeiaaDoor.Parse
open Go.RowKit Go.Proofs.YtimiglepogeeiaaDoor.Lex

section
variable {b g c : Nat} {L : List T}

theorem blS_succ (L : List T) (k : Nat) : blS L (k + 1) = blkF (stF (exS L k) (exS L (k - 1)) (blS L k) L) L := by
  funext r
  rw [blS]
theorem block_all (m : Nat) : 1 ≤ m → m ≤ 66 → ∀ d : Int, d = 66 - m → BC b g c L d (blS L (m + 1)) := by
  induction m with
  | zero => intro h; omega
  | succ m ih =>
    intro h1 h2 d hd
    rw [blS_succ]
    refine block_any d (by omega) (by omega) _ (fun hd64 => ?_) (hide (stF_mo (exS_mv L _) (exS_mv L _) (blS_mv L _)))
    have hm : 1 ≤ m := by omega
    exact statement_any (d + 1) (by omega) (by omega) _ _ _ (expression_all (m + 1) (by omega) (by omega) _ (by omega)) (exS_mv L _) (expression_all m (by omega) (by omega) _ (by omega)) (ih hm (by omega) (d + 1) (by omega)) (fun h64 r => exS_bad L (m + 1) (by omega) (by omega) r) (blS_mv L _)

theorem program_all (w : World) (r : R) (h : Rd w b g c L r) : Calls Tryd.prog 19 #[.pointer (some ⟨b, 0, none⟩)] w (NR b g c L w (prF L r)) :=
  program_any (hide (fun w r h => function_any (block_all 65 (by omega) (by omega) 1 (by omega)) h)) w r h
end

theorem preOk {ts us : List T} {r : Except (Nat × Nat) (List T)} (h : pre ts r = .ok us) : ∃ vs, r = .ok vs ∧ us = ts ++ vs := by
  cases r with
  | error e => cases h
  | ok vs => injection h with h; exact ⟨vs, rfl, h.symm⟩
theorem preErr {ts : List T} {r : Except (Nat × Nat) (List T)} {e : Nat × Nat} (h : pre ts r = .error e) : r = .error e := by
  cases r with
  | error e' => exact h
  | ok vs => cases h
theorem toksBad : ∀ (n : Nat) (l : List UInt8) (a : Nat) (e : Nat × Nat), l.length ≤ n → toks l a = .error e → e.1 ≠ 0
  | n, l, a, e, hn, h => by
    by_cases h1 : l.drop (gap false l) = []
    · rw [toks_end l a h1] at h; cases h
    · by_cases hk : (tok (l.drop (gap false l))).k = 0
      · rw [toks_bad l a h1 hk] at h
        injection h with h
        subst h
        rcases bad_nat _ hk with e | e | e <;> simp [e]
      · have hl := tok_len _ h1 hk
        rw [toks_good l a h1 hk hl.1] at h
        have h2 := preErr h
        match n, hn with
        | 0, hn => 
          have : l = [] := List.eq_nil_of_length_eq_zero (by omega)
          subst this
          simp at h1
        | n + 1, hn => exact toksBad n _ _ e (by have := hl.2; have := hl.1; simp only [List.length_drop] at *; omega) h2
theorem toksEnd : ∀ (n : Nat) (l : List UInt8) (a : Nat) (ts : List T), l.length ≤ n → toks l a = .ok ts → Toks ts ∧ ts.length ≤ l.length + 1
  | n, l, a, ts, hn, h => by
    by_cases h1 : l.drop (gap false l) = []
    · rw [toks_end l a h1] at h; injection h with h; subst h
      refine ⟨⟨fun i t hi => ?_, by simp⟩, by simp⟩
      match i, hi with
      | 0, hi => simp at hi; subst hi; exact .inr ⟨rfl, rfl⟩
    · by_cases hk : (tok (l.drop (gap false l))).k = 0
      · rw [toks_bad l a h1 hk] at h; cases h
      · have hl := tok_len _ h1 hk
        rw [toks_good l a h1 hk hl.1] at h
        obtain ⟨vs, h2, rfl⟩ := preOk h
        have hlen : ((l.drop (gap false l)).drop (tok (l.drop (gap false l))).n).length + 1 ≤ l.length := by
          have := hl.2
          have := hl.1
          simp only [List.length_drop] at *
          omega
        match n, hn with
        | 0, hn => omega
        | n + 1, hn =>
          obtain ⟨hT, hz⟩ := toksEnd n _ _ vs (by omega) h2
          refine ⟨⟨fun i t hi => ?_, by simp⟩, by simp; omega⟩
          match i, hi with
          | 0, hi => left; have := hT.ne; simp; omega
          | i + 1, hi =>
            have := hT.en i t (by simpa using hi)
            simpa using this
theorem lexedOk {l : List UInt8} {ts : List T} (h : lexed l = .ok ts) : Toks ts ∧ ts.length ≤ 70000 := by
  unfold lexed at h
  split at h
  · cases h
  · obtain ⟨h1, h2⟩ := toksEnd _ l 0 ts (Nat.le_refl _) h
    exact ⟨h1, by omega⟩
theorem lexedBad {l : List UInt8} {e : Nat × Nat} (h : lexed l = .error e) : e.1 ≠ 0 := by
  unfold lexed at h
  split at h
  · injection h with h; subst h; simp
  · exact toksBad _ l 0 e (Nat.le_refl _) h

end Go.Proofs.YtimiglepogeeiaaDoor.Parse

