/- Sources and their tokens, as functions of lists of bytes. No function of the program is walked here. -/
import Derived.WalkKit
import Derived.Lib.Strings
set_option linter.unusedVariables false
set_option linter.unusedSimpArgs false
namespace Go.Proofs.YtimiglepogeeiaaDoor.Lex

/-- The byte at a place, as a number; 0 behind the end. -/
def byt (l : List UInt8) (i : Nat) : Int := (l.getD i 0).toNat
theorem byt_range (l : List UInt8) (i : Nat) : 0 ≤ byt l i ∧ byt l i < 256 := by
  unfold byt
  have := (l.getD i 0).toNat_lt
  omega
theorem byt_get (s : ByteArray) (i : Nat) (h : i < s.size) : ((s[i].toNat : Nat) : Int) = byt s.data.toList i := by
  obtain ⟨⟨l⟩⟩ := s
  have h' : i < l.length := h
  show ((l[i].toNat : Nat) : Int) = _
  unfold byt
  simp [List.getD, List.getElem?_eq_getElem h']
theorem byt_drop (l : List UInt8) (k i : Nat) : byt (l.drop k) i = byt l (k + i) := by
  unfold byt; simp [List.getD, List.getElem?_drop]
theorem byt_cons (c : UInt8) (l : List UInt8) (i : Nat) : byt (c :: l) (i + 1) = byt l i := by unfold byt; simp
theorem byt_zero (c : UInt8) (l : List UInt8) : byt (c :: l) 0 = c.toNat := by unfold byt; simp
theorem byt_take (l : List UInt8) (k i : Nat) (h : i < k) : byt (l.take k) i = byt l i := by
  unfold byt; simp [List.getD, List.getElem?_take, h]
theorem drop_cons (l : List UInt8) (k : Nat) (h : k < l.length) : ∃ c, l.drop k = c :: l.drop (k + 1) ∧ (c.toNat : Int) = byt l k :=
  ⟨l[k], List.drop_eq_getElem_cons h, by unfold byt; simp [List.getD, List.getElem?_eq_getElem h]⟩

/-- Letters, digits, what both are, blanks. -/
def letB (c : Int) : Bool := decide ((97 ≤ c ∧ c ≤ 122) ∨ c = 95)
def digB (c : Int) : Bool := decide (48 ≤ c ∧ c ≤ 57)
def worB (c : Int) : Bool := letB c || digB c
def blaB (c : Int) : Bool := decide (c = 32 ∨ c = 9 ∨ c = 13 ∨ c = 10)

/-- How many bytes from the beginning on have what p asks. -/
def run (p : Int → Bool) : List UInt8 → Nat
  | [] => 0
  | c :: l => if p c.toNat then run p l + 1 else 0
theorem run_le (p : Int → Bool) : ∀ l, run p l ≤ l.length
  | [] => Nat.le_refl _
  | c :: l => by unfold run; have := run_le p l; split <;> simp; omega
theorem run_in (p : Int → Bool) : ∀ l i, i < run p l → p (byt l i) = true
  | [], i, h => by simp [run] at h
  | c :: l, i, h => by
    unfold run at h
    split at h
    · rename_i hc
      cases i with
      | zero => rw [byt_zero]; exact hc
      | succ i => rw [byt_cons]; exact run_in p l i (by omega)
    · omega
theorem run_out (p : Int → Bool) : ∀ l, run p l < l.length → p (byt l (run p l)) = false
  | [], h => by simp [run] at h
  | c :: l, h => by
    by_cases hc : p c.toNat = true
    · have e : run p (c :: l) = run p l + 1 := by rw [run, if_pos hc]
      rw [e] at h ⊢
      rw [byt_cons]
      exact run_out p l (by simpa using h)
    · have e : run p (c :: l) = 0 := by rw [run, if_neg hc]
      rw [e, byt_zero]
      simpa using hc
theorem run_is (p : Int → Bool) (l : List UInt8) (k : Nat) (h1 : k ≤ l.length) (h2 : ∀ i, i < k → p (byt l i) = true) (h3 : k < l.length → p (byt l k) = false) : run p l = k := by
  rcases Nat.lt_trichotomy (run p l) k with h | h | h
  · have := run_out p l (by omega)
    rw [h2 _ h] at this
    cases this
  · exact h
  · have a := run_in p l k h
    have := run_le p l
    rw [h3 (by omega)] at a
    cases a

/-- What parts tokens: how many bytes of it there are. In a remark: up to the line end. -/
def gap : Bool → List UInt8 → Nat
  | _, [] => 0
  | true, c :: l => 1 + gap (decide (c.toNat ≠ 10)) l
  | false, c :: l => if blaB c.toNat then 1 + gap false l else if c.toNat = 47 ∧ byt l 0 = 47 then 1 + gap true l else 0
theorem gap_le : ∀ b l, gap b l ≤ l.length
  | _, [] => by unfold gap; exact Nat.zero_le _
  | true, c :: l => by unfold gap; have := gap_le (decide (c.toNat ≠ 10)) l; rw [List.length_cons]; omega
  | false, c :: l => by
    unfold gap
    have := gap_le false l
    have := gap_le true l
    rw [List.length_cons]
    split
    · omega
    · split <;> omega
/-- A remark's bytes but for the line end. -/
def remB (c : Int) : Bool := decide (c ≠ 10)
theorem gap_rem : ∀ l, gap true l = run remB l + gap false (l.drop (run remB l))
  | [] => by simp [gap, run]
  | c :: l => by
    by_cases h : c.toNat = 10
    · have e : run remB (c :: l) = 0 := by rw [run, if_neg (by simp [remB, h])]
      rw [e]
      show 1 + gap (decide (c.toNat ≠ 10)) l = 0 + gap false (c :: l)
      have hb : blaB c.toNat = true := by simp [blaB, h]
      rw [gap, if_pos hb]
      simp [h]
    · have e : run remB (c :: l) = run remB l + 1 := by rw [run, if_pos (by simp [remB]; omega)]
      rw [e]
      show 1 + gap (decide (c.toNat ≠ 10)) l = _
      have := gap_rem l
      simp only [List.drop_succ_cons]
      rw [show decide (c.toNat ≠ 10) = true by simp [h], this]
      omega

/-- A digit's number; 16: it is none. -/
def dig (c : Int) : Int := if 48 ≤ c ∧ c ≤ 57 then c - 48 else if 97 ≤ c ∧ c ≤ 102 then c - 87 else 16
theorem dig_range (c : Int) : 0 ≤ dig c ∧ dig c ≤ 16 := by
  unfold dig
  split
  · omega
  · split <;> omega
/-- What digits say behind a number; -1: they say none. -/
def num (b : Int) : List UInt8 → Int → Int
  | [], n => n
  | c :: l, n => if dig c.toNat ≥ b then -1 else if n * b + dig c.toNat > 4294967295 then -1 else num b l (n * b + dig c.toNat)
theorem num_bound (b : Int) : ∀ l n, n ≤ 4294967295 → num b l n ≤ 4294967295
  | [], n, h => h
  | c :: l, n, h => by
    unfold num
    split
    · omega
    · split
      · omega
      · exact num_bound b l _ (by omega)
def hexB (l : List UInt8) : Bool := decide (2 ≤ l.length ∧ byt l 0 = 48 ∧ byt l 1 = 120)
/-- What a word says; -1: it is no number. -/
def val (l : List UInt8) : Int := if hexB l then (if l.length = 2 then -1 else num 16 (l.drop 2) 0) else (if l.length = 0 then -1 else num 10 l 0)
theorem val_bound (l : List UInt8) : val l ≤ 4294967295 := by
  unfold val
  split
  · split
    · omega
    · exact num_bound _ _ _ (by omega)
  · split
    · omega
    · exact num_bound _ _ _ (by omega)

/-- The signs: each longer one ahead of those that it begins with. -/
def signs : List (List UInt8) := [[45, 62], [46, 46], [61, 61], [60, 60, 60], [60, 60], [62, 62], [60], [40], [41], [123], [125], [91], [93], [44], [59], [58], [61], [43], [45], [42], [47], [37], [38], [124], [94], [126]]
/-- The first one of some signs with which a list begins, its length; 0: none. -/
def sgnL : List (List UInt8) → List UInt8 → Nat
  | [], _ => 0
  | s :: r, l => if s.isPrefixOf l then s.length else sgnL r l
def sgn (l : List UInt8) : Nat := sgnL signs l

/-- The token with which bytes begin: its kind, its length, its number; or an error (kind 0, the error's number). -/
structure Tk where
  k : Nat
  n : Nat
  v : Int
deriving DecidableEq
def tok (l : List UInt8) : Tk :=
  if letB (byt l 0) then (if 32 < run worB l then ⟨0, 102, 0⟩ else ⟨1, run worB l, 0⟩)
  else if digB (byt l 0) then (if val (l.take (run worB l)) < 0 then ⟨0, 101, 0⟩ else ⟨2, run worB l, val (l.take (run worB l))⟩)
  else if sgn l = 0 then ⟨0, 100, 0⟩ else ⟨3, sgn l, 0⟩

/-- A token: its kind, where it stands, its text, its number. -/
structure T where
  k : Int
  a : Int
  t : List UInt8
  v : Int
deriving DecidableEq

/-- The tokens of what begins at an offset; or an error's number and its offset. -/
def toks (l : List UInt8) (a : Nat) : Except (Nat × Nat) (List T) :=
  match h : l.drop (gap false l) with
  | [] => .ok [⟨4, (a + gap false l : Nat), [], 0⟩]
  | c :: r =>
    match (tok (c :: r)).k with
    | 0 => .error ((tok (c :: r)).n, a + gap false l)
    | k + 1 => match toks (r.drop ((tok (c :: r)).n - 1)) (a + gap false l + (tok (c :: r)).n) with
      | .error e => .error e
      | .ok ts => .ok (⟨(k + 1 : Nat), (a + gap false l : Nat), (c :: r).take (tok (c :: r)).n, (tok (c :: r)).v⟩ :: ts)
termination_by l.length
decreasing_by
  have e := congrArg List.length h
  simp at e ⊢
  omega

end Go.Proofs.YtimiglepogeeiaaDoor.Lex

