/- Programs with labels, by numbers: laid again and again. No function of the program is walked here. -/
import Derived.WalkKit
set_option linter.unusedVariables false
namespace Go.Proofs.YtegefbndpkbooaaDoor.Asm

/-- A program: how many items, an item's bytes (wide, from an offset), which are jumps, where they go, what a narrow one reaches. -/
structure Prg where
  n : Nat
  sz : Nat → Bool → Int → Int
  jmp : Nat → Bool
  goal : Nat → Nat
  near : Nat → Int → Bool

namespace Prg
variable (P : Prg)
def at_ (P : Prg) (W : Nat → Bool) : Nat → Int
  | 0 => 0
  | i + 1 => at_ P W i + P.sz i (W i) (at_ P W i)
def far (W : Nat → Bool) (i : Nat) : Int := P.at_ W (P.goal i) - P.at_ W i - 4
def bad (W : Nat → Bool) (i : Nat) : Bool := !W i && (P.jmp i && !P.near i (P.far W i))
def nxt (W : Nat → Bool) (i : Nat) : Bool := W i || (P.jmp i && !P.near i (P.far W i))
def it (P : Prg) : Nat → Nat → Bool
  | 0 => fun _ => false
  | r + 1 => P.nxt (it P r)

/-- What holds of all programs of items. -/
structure Ok : Prop where
  pos : ∀ i b a, 0 ≤ a → 0 ≤ P.sz i b a
  mono : ∀ i b b' a a', (b = true → b' = true) → 0 ≤ a → a ≤ a' → a + P.sz i b a ≤ a' + P.sz i b' a'
  even : ∀ i b a, a % 2 = 0 → P.sz i b a % 2 = 0

/-- How it ends: the last round, and whether there are too many bytes then. -/
structure Ends (R : Nat) (big : Bool) : Prop where
  on : ∀ r, r < R → P.at_ (P.it r) P.n ≤ 65536 ∧ ∃ i, i < P.n ∧ P.bad (P.it r) i = true
  last : if big then 65536 < P.at_ (P.it R) P.n else P.at_ (P.it R) P.n ≤ 65536 ∧ ∀ i, i < P.n → P.bad (P.it R) i = false

variable {P}
theorem nxt_bad (W : Nat → Bool) (i : Nat) : P.nxt W i = (W i || P.bad W i) := by
  unfold nxt bad; cases W i <;> simp
theorem at_zero (W : Nat → Bool) : P.at_ W 0 = 0 := rfl
theorem at_succ (W : Nat → Bool) (i : Nat) : P.at_ W (i + 1) = P.at_ W i + P.sz i (W i) (P.at_ W i) := rfl
theorem at_ge (h : P.Ok) (W : Nat → Bool) : ∀ i, 0 ≤ P.at_ W i
  | 0 => Int.le_refl _
  | i + 1 => by
    have a := at_ge h W i
    have b := h.pos i (W i) _ a
    rw [at_succ]; omega
theorem at_le (h : P.Ok) (W : Nat → Bool) (i : Nat) : ∀ k, P.at_ W i ≤ P.at_ W (i + k)
  | 0 => Int.le_refl _
  | k + 1 => by
    have a := at_le h W i k
    have b := h.pos (i + k) (W (i + k)) _ (at_ge h W (i + k))
    rw [show i + (k + 1) = (i + k) + 1 by omega, at_succ]; omega
theorem at_mono (h : P.Ok) (W : Nat → Bool) {i j : Nat} (hij : i ≤ j) : P.at_ W i ≤ P.at_ W j := by
  obtain ⟨k, rfl⟩ := Nat.exists_eq_add_of_le hij
  exact at_le h W i k
theorem at_even (h : P.Ok) (W : Nat → Bool) : ∀ i, P.at_ W i % 2 = 0
  | 0 => rfl
  | i + 1 => by
    have a := at_even h W i
    have b := h.even i (W i) _ a
    rw [at_succ]; omega
theorem at_more (h : P.Ok) {W V : Nat → Bool} (hs : ∀ i, W i = true → V i = true) : ∀ i, P.at_ W i ≤ P.at_ V i
  | 0 => Int.le_refl _
  | i + 1 => by rw [at_succ, at_succ]; exact h.mono i _ _ _ _ (hs i) (at_ge h W i) (at_more h hs i)
theorem at_same {W V : Nat → Bool} : ∀ k, (∀ i, i < k → W i = V i) → P.at_ W k = P.at_ V k
  | 0, _ => rfl
  | k + 1, hs => by
    have a := at_same k (fun i hi => hs i (by omega))
    rw [at_succ, at_succ, a, hs k (by omega)]
theorem it_step (r i : Nat) (h : P.it r i = true) : P.it (r + 1) i = true := by
  show P.nxt (P.it r) i = true
  unfold nxt; rw [h]; rfl
theorem it_sub {r s : Nat} (hrs : r ≤ s) (i : Nat) (h : P.it r i = true) : P.it s i = true := by
  obtain ⟨k, rfl⟩ := Nat.exists_eq_add_of_le hrs
  induction k with
  | zero => exact h
  | succ k ih => exact it_step _ _ (ih (by omega))
theorem it_jmp : ∀ (r i : Nat), P.it r i = true → P.jmp i = true
  | 0, _, h => by cases h
  | r + 1, i, h => by
    have h' : P.nxt (P.it r) i = true := h
    unfold nxt at h'
    cases e : P.it r i
    · rw [e] at h'; simp at h'; exact h'.1
    · exact it_jmp r i e
/-- What is wide at last was narrow in some round, and didn't reach. -/
theorem it_was : ∀ (r i : Nat), P.it r i = true → ∃ s, s < r ∧ P.bad (P.it s) i = true
  | 0, _, h => by cases h
  | r + 1, i, h => by
    cases e : P.it r i
    · have h' : P.nxt (P.it r) i = true := h
      rw [nxt_bad, e] at h'
      exact ⟨r, by omega, by simpa using h'⟩
    · obtain ⟨s, hs, hb⟩ := it_was r i e
      exact ⟨s, by omega, hb⟩

/-- How many are wide. -/
def cnt (W : Nat → Bool) : Nat → Nat
  | 0 => 0
  | i + 1 => cnt W i + (if W i then 1 else 0)
theorem cnt_le (W : Nat → Bool) : ∀ k, cnt W k ≤ k
  | 0 => Nat.le_refl _
  | k + 1 => by have := cnt_le W k; unfold cnt; split <;> omega
theorem cnt_sub {W V : Nat → Bool} (hs : ∀ i, W i = true → V i = true) : ∀ k, cnt W k ≤ cnt V k
  | 0 => Nat.le_refl _
  | k + 1 => by
    have a := cnt_sub hs k
    unfold cnt
    have b := hs k
    cases e : W k
    · simp; omega
    · rw [b e]; simp; omega
theorem cnt_lt {W V : Nat → Bool} (hs : ∀ i, W i = true → V i = true) {i : Nat} (hw : W i = false) (hv : V i = true) : ∀ k, i < k → cnt W k < cnt V k
  | 0, h => by omega
  | k + 1, h => by
    by_cases e : i = k
    · subst e
      have a := cnt_sub hs i
      unfold cnt; rw [hw, hv]; simp; omega
    · have a := cnt_lt hs hw hv k (by omega)
      have b := hs k
      unfold cnt
      cases e : W k
      · simp; omega
      · rw [b e]; simp; omega
theorem bad_true {W : Nat → Bool} {i : Nat} (h : P.bad W i = true) : W i = false ∧ P.jmp i = true ∧ P.near i (P.far W i) = false := by
  unfold bad at h; simpa using h
theorem cnt_it {r : Nat} {i : Nat} (hi : i < P.n) (h : P.bad (P.it r) i = true) : cnt (P.it r) P.n < cnt (P.it (r + 1)) P.n := by
  obtain ⟨h0, h1, h2⟩ := bad_true h
  refine cnt_lt (fun i h => it_step r i h) h0 ?_ P.n hi
  show P.nxt (P.it r) i = true
  rw [nxt_bad, h0, h]; rfl
theorem rounds_cnt {R : Nat} (h : ∀ r, r < R → ∃ i, i < P.n ∧ P.bad (P.it r) i = true) : R ≤ cnt (P.it R) P.n := by
  induction R with
  | zero => exact Nat.zero_le _
  | succ R ih =>
    obtain ⟨i, hi, hb⟩ := h R (by omega)
    have a := ih (fun r hr => h r (by omega))
    have b := cnt_it hi hb
    omega
theorem Ends.few {R : Nat} {big : Bool} (h : P.Ends R big) : R ≤ P.n :=
  Nat.le_trans (rounds_cnt fun r hr => (h.on r hr).2) (cnt_le _ _)
/-- There is one end. -/
theorem Ends.one {R S : Nat} {b c : Bool} (h : P.Ends R b) (k : P.Ends S c) : R = S ∧ b = c := by
  have key : ∀ {R S : Nat} {b c : Bool}, P.Ends R b → P.Ends S c → ¬ R < S := fun {R S b c} h k hlt => by
    obtain ⟨a, i, hi, hb⟩ := k.on R hlt
    have l := h.last
    cases b
    · simp only [Bool.false_eq_true, if_false] at l
      rw [l.2 i hi] at hb; cases hb
    · simp only [if_true] at l; omega
  have e : R = S := by have := key h k; have := key k h; omega
  subst e
  refine ⟨rfl, ?_⟩
  have l := h.last
  have m := k.last
  cases b <;> cases c
  · rfl
  · simp only [Bool.false_eq_true, if_false, if_true] at l m; omega
  · simp only [Bool.false_eq_true, if_false, if_true] at l m; omega
  · rfl

/-- The same program behind items that no jump has to do with: k of them, of c bytes together. -/
structure Slid (P Q : Prg) (k : Nat) (c : Int) : Prop where
  n : Q.n = P.n + k
  c0 : 0 ≤ c
  front : ∀ i, i < k → Q.jmp i = false
  at_ : ∀ W, Q.at_ W k = c
  sz : ∀ i b a, 0 ≤ a → Q.sz (i + k) b (c + a) = P.sz i b a
  jmp : ∀ i, Q.jmp (i + k) = P.jmp i
  goal : ∀ i, P.jmp i = true → Q.goal (i + k) = P.goal i + k
  near : ∀ i, Q.near (i + k) = P.near i
theorem Slid.pos {P Q : Prg} {k : Nat} {c : Int} (h : Slid P Q k c) (hP : P.Ok) {W V : Nat → Bool} (hw : ∀ i, V (i + k) = W i) : ∀ i, Q.at_ V (i + k) = c + P.at_ W i
  | 0 => by rw [Nat.zero_add, h.at_]; show c = c + 0; omega
  | i + 1 => by
    have a := Slid.pos h hP hw i
    rw [show i + 1 + k = (i + k) + 1 by omega, at_succ, at_succ, a, hw, h.sz _ _ _ (at_ge hP W i)]
    omega
theorem Slid.far {P Q : Prg} {k : Nat} {c : Int} (h : Slid P Q k c) (hP : P.Ok) {W V : Nat → Bool} (hw : ∀ i, V (i + k) = W i) (i : Nat) (hj : P.jmp i = true) : Q.far V (i + k) = P.far W i := by
  unfold Prg.far
  rw [h.goal i hj, Slid.pos h hP hw, Slid.pos h hP hw]
  omega
theorem Slid.bad {P Q : Prg} {k : Nat} {c : Int} (h : Slid P Q k c) (hP : P.Ok) {W V : Nat → Bool} (hw : ∀ i, V (i + k) = W i) (i : Nat) : Q.bad V (i + k) = P.bad W i := by
  unfold Prg.bad
  rw [hw, h.jmp, h.near]
  cases hj : P.jmp i
  · simp
  · rw [Slid.far h hP hw i hj]
theorem Slid.it {P Q : Prg} {k : Nat} {c : Int} (h : Slid P Q k c) (hP : P.Ok) : ∀ r i, Q.it r (i + k) = P.it r i
  | 0, _ => rfl
  | r + 1, i => by
    show Q.nxt (Q.it r) (i + k) = P.nxt (P.it r) i
    have a := Slid.it h hP r
    rw [nxt_bad, nxt_bad, a, Slid.bad h hP a]
theorem Slid.bad_front {P Q : Prg} {k : Nat} {c : Int} (h : Slid P Q k c) (V : Nat → Bool) (i : Nat) (hi : i < k) : Q.bad V i = false := by
  unfold Prg.bad; rw [h.front i hi]; simp
theorem Slid.ends {P Q : Prg} {k : Nat} {c : Int} (h : Slid P Q k c) (hP : P.Ok) {R : Nat} {b : Bool} (hE : P.Ends R b) :
    (∃ R', Q.Ends R' true) ∨ (b = false ∧ Q.Ends R false) := by
  have hat : ∀ r, Q.at_ (Q.it r) Q.n = c + P.at_ (P.it r) P.n := fun r => by rw [h.n]; exact Slid.pos h hP (Slid.it h hP r) _
  by_cases hx : ∃ r, r ≤ R ∧ 65536 < Q.at_ (Q.it r) Q.n
  · -- the first such round
    have key : ∀ m, (∃ r, r < m ∧ r ≤ R ∧ 65536 < Q.at_ (Q.it r) Q.n) → ∃ r, r ≤ R ∧ 65536 < Q.at_ (Q.it r) Q.n ∧ ∀ s, s < r → Q.at_ (Q.it s) Q.n ≤ 65536 := by
      intro m
      induction m with
      | zero => rintro ⟨r, hr, _⟩; omega
      | succ m ih =>
        intro hm
        by_cases hm' : ∃ r, r < m ∧ r ≤ R ∧ 65536 < Q.at_ (Q.it r) Q.n
        · exact ih hm'
        · obtain ⟨r, hr, hR, hb⟩ := hm
          have : r = m := by
            apply Classical.byContradiction; intro hne
            exact hm' ⟨r, by omega, hR, hb⟩
          subst this
          exact ⟨r, hR, hb, fun s hs => by
            apply Classical.byContradiction; intro hc
            exact hm' ⟨s, hs, by omega, by omega⟩⟩
    obtain ⟨r, hr, hb⟩ := hx
    obtain ⟨r, hr, hb, hs⟩ := key (r + 1) ⟨r, by omega, hr, hb⟩
    refine .inl ⟨r, ⟨fun s hsr => ⟨hs s hsr, ?_⟩, by simpa using hb⟩⟩
    obtain ⟨_, i, hi, hbad⟩ := hE.on s (by omega)
    exact ⟨i + k, by rw [h.n]; omega, by rw [Slid.bad h hP (Slid.it h hP s)]; exact hbad⟩
  · have hle : ∀ r, r ≤ R → Q.at_ (Q.it r) Q.n ≤ 65536 := fun r hr => by
      apply Classical.byContradiction; intro hc
      exact hx ⟨r, hr, by omega⟩
    have l := hE.last
    have hb : b = false := by
      cases b
      · rfl
      · simp only [if_true] at l
        have a := hle R (Nat.le_refl _)
        rw [hat R] at a
        have := h.c0
        omega
    subst hb
    simp only [Bool.false_eq_true, if_false] at l
    refine .inr ⟨rfl, ⟨fun s hs => ⟨hle s (by omega), ?_⟩, ?_⟩⟩
    · obtain ⟨_, i, hi, hbad⟩ := hE.on s hs
      exact ⟨i + k, by rw [h.n]; omega, by rw [Slid.bad h hP (Slid.it h hP s)]; exact hbad⟩
    · simp only [Bool.false_eq_true, if_false]
      refine ⟨hle R (Nat.le_refl _), fun i hi => ?_⟩
      by_cases hik : i < k
      · exact Slid.bad_front h _ i hik
      · rw [show i = (i - k) + k by omega, Slid.bad h hP (Slid.it h hP R)]
        exact l.2 _ (by rw [h.n] at hi; omega)
end Prg
end Go.Proofs.YtegefbndpkbooaaDoor.Asm

