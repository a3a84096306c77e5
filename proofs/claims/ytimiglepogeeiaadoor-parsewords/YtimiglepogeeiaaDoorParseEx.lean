/- Trees of given sources, by reckoning: tokens with a number that bounds the rounds; the document's example; the words that are no names. -/
import Derived.Test.YtimiglepogeeiaaDoorParseFlat
set_option linter.unusedVariables false
set_option linter.unusedSimpArgs false
set_option maxRecDepth 100000
namespace Go.Proofs.YtimiglepogeeiaaDoor.Parse
open Go.RowKit Go.Proofs.YtimiglepogeeiaaDoor.Lex

def toksF : Nat → List UInt8 → Nat → Except (Nat × Nat) (List T)
  | 0, _, _ => .error (0, 0)
  | n + 1, l, a =>
    match l.drop (gap false l) with
    | [] => .ok [⟨4, (a + gap false l : Nat), [], 0⟩]
    | c :: r => match (tok (c :: r)).k with
      | 0 => .error ((tok (c :: r)).n, a + gap false l)
      | k + 1 => pre [⟨(k + 1 : Nat), (a + gap false l : Nat), (c :: r).take (tok (c :: r)).n, (tok (c :: r)).v⟩] (toksF n ((c :: r).drop (tok (c :: r)).n) (a + gap false l + (tok (c :: r)).n))
theorem toksF_eq : ∀ (n : Nat) (l : List UInt8) (a : Nat), l.length < n → toksF n l a = toks l a
  | 0, l, a, h => by omega
  | n + 1, l, a, h => by
    unfold toksF
    split
    · rename_i h1; exact (toks_end l a h1).symm
    · rename_i c r h1
      have hne : l.drop (gap false l) ≠ [] := by rw [h1]; simp
      split
      · rename_i hk
        rw [toks_bad l a hne (by rw [h1]; exact hk), h1]
      · rename_i k hk
        have hk0 : (tok (l.drop (gap false l))).k ≠ 0 := by rw [h1, hk]; simp
        have hl := tok_len _ hne hk0
        rw [toks_good l a hne hk0 hl.1, h1]
        rw [h1] at hl
        have hd : (l.drop (gap false l)).length ≤ l.length := by simp
        rw [h1] at hd
        rw [toksF_eq n _ _ (by simp only [List.length_drop]; omega)]
        unfold mkT
        rw [hk]
def parsedF (l : List UInt8) : Except (Int × Int) Tr :=
  match toksF (l.length + 1) l 0 with
  | .error e => .error (e.1, e.2)
  | .ok L => if (prF L ⟨0, 0, 0⟩).1.e ≠ 0 then .error ((prF L ⟨0, 0, 0⟩).1.e, (tk L (prF L ⟨0, 0, 0⟩).1).a) else .ok (prF L ⟨0, 0, 0⟩).2
theorem parsed_eq (l : List UInt8) (h : l.length ≤ 65536) : parsed l = parsedF l := by
  unfold parsed parsedF lexed
  rw [if_neg (by omega), toksF_eq _ l 0 (by omega)]
  cases toks l 0 <;> rfl

def exS10 : List UInt8 := [102, 110, 32, 102, 40, 41, 123, 120, 61, 49, 43, 50, 42, 51, 59, 125]
def exTr : Tr := .mk 1 0 [] 0 [.mk 2 0 [102] 0 [.mk 4 6 [] 0 [.mk 8 7 [120] 0 [.mk 19 10 [43] 0 [.mk 14 9 [] 1 [], .mk 19 12 [42] 0 [.mk 14 11 [] 2 [], .mk 14 13 [] 3 []]]]]]]
theorem ex_parsed : parsed exS10 = .ok exTr := by
  rw [parsed_eq _ (by decide)]
  kernel_rfl

/-- No function bears a word's name. -/
def withWord (x : List UInt8) : List UInt8 := [102, 110, 32] ++ x ++ [40, 41, 123, 125]
theorem word_bad (x : List UInt8) (h : isW x = true) : ∃ a, parsed (withWord x) = .error (110, a) := by
  have hx : x ∈ words := by unfold isW at h; exact List.contains_iff_mem.1 h
  simp only [words, List.mem_cons, List.not_mem_nil, or_false] at hx
  rcases hx with rfl | rfl | rfl | rfl | rfl | rfl | rfl | rfl | rfl | rfl | rfl | rfl | rfl <;> exact ⟨3, (parsed_eq _ (by decide)).trans (by kernel_rfl)⟩

end Go.Proofs.YtimiglepogeeiaaDoor.Parse

