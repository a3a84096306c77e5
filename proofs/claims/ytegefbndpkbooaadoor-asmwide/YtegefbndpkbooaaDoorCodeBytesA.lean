/- The statement CodeBytes: its walk. -/
import Derived.Test.YtegefbndpkbooaaDoorCodeAt
import Derived.Test.YtegefbndpkbooaaDoorArgs
import Derived.Laws.CopyOwn
import Derived.Laws.AppendOwnNone
import Derived.Laws.OwnMore
import Derived.Deep.QuietTactic
import Derived.BigQuiet
import Derived.Deep.Cut
set_option linter.unusedVariables false
namespace Go.Proofs.YtegefbndpkbooaaDoor.Code
open Go.RowKit Go.Proofs.YtegefbndpkbooaaDoor.Alu Go.Proofs.YtegefbndpkbooaaDoor.Imm Go.Proofs.YtegefbndpkbooaaDoor.Inst

theorem has_one {W : Int} {wide : Bool} {f rd rn rm ra im kd bs st cd rg f' rd' rn' rm' ra' im' kd' bs' st' cd' rg' : Int} (h : Has W wide f rd rn rm ra im kd bs st cd rg) (h' : Has W wide f' rd' rn' rm' ra' im' kd' bs' st' cd' rg') : f = f' ∧ rd = rd' ∧ rn = rn' ∧ rm = rm' ∧ ra = ra' ∧ im = im' ∧ kd = kd' ∧ bs = bs' ∧ st = st' ∧ cd = cd' ∧ rg = rg' := by
  have hi := (at_own h.right h.lo h.hi).1
  have hi' := (at_own h'.right h'.lo h'.hi).1
  have hl : (f ≤ 47 ∧ f' ≤ 47) ∨ (48 ≤ f ∧ 48 ≤ f') := by
    have e := h.wide.trans h'.wide.symm
    unfold wdF at e
    rw [decide_eq_decide] at e
    omega
  exact once h.right h.lo h.hi h'.right h'.lo h'.hi hl (h.word.trans h'.word.symm)
theorem has_not {W : Int} {wide : Bool} {f rd rn rm ra im kd bs st cd rg : Int} (h : Has W wide f rd rn rm ra im kd bs st cd rg) (hn : NoneFrom W wide 101) : False := by
  have hi := (at_own h.right h.lo h.hi).1
  have := hn _ _ _ _ _ _ _ _ _ _ _ h
  omega

/-- What Of answers, as fields and an error. -/
def OfR (W : Int) (wide : Bool) (f rd rn rm ra im kd bs st cd rg en : Int) : Prop := (Has W wide f rd rn rm ra im kd bs st cd rg ∧ en = 0) ∨ (NoneFrom W wide 101 ∧ (f = 0 ∧ rd = 0 ∧ rn = 0 ∧ rm = 0 ∧ ra = 0 ∧ im = 0 ∧ kd = 0 ∧ bs = 0 ∧ st = 0 ∧ cd = 0 ∧ rg = 0) ∧ en = 40)
theorem ofR_of {W : Int} {wide : Bool} {w w' : World} {e : Ending} (h : OfPost W wide w e w') : Below w.heap.size w w' ∧ ∃ f rd rn rm ra im kd bs st cd rg en : Int, OfR W wide f rd rn rm ra im kd bs st cd rg en ∧ e = .returned (.tuple #[.agg #[.int .i64 f, .int .i64 rd, .int .i64 rn, .int .i64 rm, .int .i64 ra, .int .i64 im, .int .i64 kd, .int .i64 bs, .int .i64 st, .int .i64 cd, .int .i64 rg], .int .i64 en]) := by
  obtain ⟨hb, ⟨f, rd, rn, rm, ra, im, kd, bs, st, cd, rg, hH, rfl⟩ | ⟨hn, rfl⟩⟩ := h
  · exact ⟨hb, f, rd, rn, rm, ra, im, kd, bs, st, cd, rg, 0, .inl ⟨hH, rfl⟩, rfl⟩
  · exact ⟨hb, 0, 0, 0, 0, 0, 0, 0, 0, 0, 0, 0, 40, .inr ⟨hn, ⟨rfl, rfl, rfl, rfl, rfl, rfl, rfl, rfl, rfl, rfl, rfl⟩, rfl⟩, rfl⟩
theorem ofR_one {W : Int} {wide : Bool} {f rd rn rm ra im kd bs st cd rg en f' rd' rn' rm' ra' im' kd' bs' st' cd' rg' en' : Int} (h : OfR W wide f rd rn rm ra im kd bs st cd rg en) (h' : OfR W wide f' rd' rn' rm' ra' im' kd' bs' st' cd' rg' en') : (f = f' ∧ rd = rd' ∧ rn = rn' ∧ rm = rm' ∧ ra = ra' ∧ im = im' ∧ kd = kd' ∧ bs = bs' ∧ st = st' ∧ cd = cd' ∧ rg = rg') ∧ en = en' := by
  rcases h with ⟨h, rfl⟩ | ⟨h, ⟨rfl, rfl, rfl, rfl, rfl, rfl, rfl, rfl, rfl, rfl, rfl⟩, rfl⟩
  · rcases h' with ⟨h', rfl⟩ | ⟨h', _, rfl⟩
    · exact ⟨has_one h h', rfl⟩
    · exact absurd h' (fun g => has_not h g)
  · rcases h' with ⟨h', rfl⟩ | ⟨h', ⟨rfl, rfl, rfl, rfl, rfl, rfl, rfl, rfl, rfl, rfl, rfl⟩, rfl⟩
    · exact absurd h (fun g => has_not h' g)
    · exact ⟨⟨rfl, rfl, rfl, rfl, rfl, rfl, rfl, rfl, rfl, rfl, rfl⟩, rfl⟩

/-- A half of bytes, and what At answers. -/
def hf (z : List Int) (k : Nat) : Int := z.getD k 0 + z.getD (k + 1) 0 * 256
def AtR (z : List Int) (n k : Nat) (f rd rn rm ra im kd bs st cd rg en : Int) : Prop :=
  (n < k + 2 ∧ en = 41) ∨ (k + 2 ≤ n ∧ beg (hf z k) = false ∧ OfR (hf z k) false f rd rn rm ra im kd bs st cd rg en) ∨ (k + 2 ≤ n ∧ n < k + 4 ∧ beg (hf z k) = true ∧ en = 41) ∨ (k + 4 ≤ n ∧ beg (hf z k) = true ∧ OfR (hf z k * 65536 + hf z (k + 2)) true f rd rn rm ra im kd bs st cd rg en)
theorem zb {w : World} {p : Option Addr} {n cap : Nat} {z : List Int} (I : Args.Ints w .u8 p n cap z) (i : Nat) : 0 ≤ z.getD i 0 ∧ z.getD i 0 ≤ 255 := by
  by_cases h : i < z.length
  · rw [List.getD_eq_getElem?_getD, List.getElem?_eq_getElem h]; exact bounds_u8 (I.wf _ (List.getElem_mem h))
  · rw [List.getD_eq_getElem?_getD, List.getElem?_eq_none (by omega)]; exact ⟨by decide, by decide⟩

/-- The three kinds of a slice's place. -/
theorem shape {w : World} {p : Option Addr} {n cap : Nat} {z : List Int} (I : Args.Ints w .u8 p n cap z) : (p = none ∧ n = 0 ∧ cap = 0) ∨ (∃ a, p = some a ∧ n = 0 ∧ cap = 0) ∨ ∃ b o, p = some ⟨b, o, none⟩ ∧ b < w.heap.size ∧ ∀ i, i < cap → w.cell? ⟨b, o + i, none⟩ = some (.int .u8 (z.getD i 0)) := by
  have hl := I.le
  rcases I.cells with h | ⟨b, o, rfl, hb, hc⟩
  · cases p with
    | none => exact .inl ⟨rfl, by omega, h⟩
    | some a => exact .inr (.inl ⟨a, rfl, by omega, h⟩)
  · exact .inr (.inr ⟨b, o, rfl, hb, hc⟩)

set_option maxRecDepth 100000 in
set_option maxHeartbeats 1000000 in
theorem At_none (a : Addr) (w : World) :
    Calls Tryd.prog 9 #[.slice (some a) 0 0, .int .i64 0] w fun e w' => e = .returned (.tuple #[.agg #[.int .i64 0, .int .i64 0, .int .i64 0, .int .i64 0, .int .i64 0, .int .i64 0, .int .i64 0, .int .i64 0, .int .i64 0, .int .i64 0, .int .i64 0], .int .i64 41]) ∧ Below w.heap.size w w' := by
  have hB := (Below.refl w.heap.size w).alloc (Nat.le_refl _) (.cells #[.int .i64 0, .int .i64 0, .int .i64 0, .int .i64 0, .int .i64 0, .int .i64 0, .int .i64 0, .int .i64 0, .int .i64 0, .int .i64 0, .int .i64 0] 36)
  go_enter Tryd.func9, Tryd.ntmps9
  go_wp2_with fail
  exact bodyPost_ret (v := .tuple #[.agg #[.int .i64 0, .int .i64 0, .int .i64 0, .int .i64 0, .int .i64 0, .int .i64 0, .int .i64 0, .int .i64 0, .int .i64 0, .int .i64 0, .int .i64 0], .int .i64 41]) (by simp [results, Tryd.results9, go_sem]) rfl ⟨rfl, hB⟩

theorem At_any {w : World} {p : Option Addr} {n cap k : Nat} {z : List Int} (I : Args.Ints w .u8 p n cap z) (hk : k ≤ n) (hL : Laid w) :
    Calls Tryd.prog 9 #[.slice p n cap, .int .i64 k] w fun e w' => Below w.heap.size w w' ∧ ∃ f rd rn rm ra im kd bs st cd rg en : Int, AtR z n k f rd rn rm ra im kd bs st cd rg en ∧ e = .returned (.tuple #[.agg #[.int .i64 f, .int .i64 rd, .int .i64 rn, .int .i64 rm, .int .i64 ra, .int .i64 im, .int .i64 kd, .int .i64 bs, .int .i64 st, .int .i64 cd, .int .i64 rg], .int .i64 en]) := by
  rcases shape I with ⟨rfl, rfl, rfl⟩ | ⟨a, rfl, rfl, rfl⟩ | ⟨b, o, rfl, hb, hc⟩
  · obtain rfl : k = 0 := by omega
    exact (At_nil w).mono fun e w' ⟨he, h⟩ => ⟨h, 0, 0, 0, 0, 0, 0, 0, 0, 0, 0, 0, 41, .inl ⟨by omega, rfl⟩, he⟩
  · obtain rfl : k = 0 := by omega
    exact (At_none a w).mono fun e w' ⟨he, h⟩ => ⟨h, 0, 0, 0, 0, 0, 0, 0, 0, 0, 0, 0, 41, .inl ⟨by omega, rfl⟩, he⟩
  · have hle := I.le
    by_cases h2 : n < k + 2
    · exact (At_short b o cap n k I.le I.max hk h2 w).mono fun e w' ⟨he, h⟩ => ⟨h, 0, 0, 0, 0, 0, 0, 0, 0, 0, 0, 0, 41, .inl ⟨h2, rfl⟩, he⟩
    · have x0 := hc k (by omega)
      have x1 : w.cell? ⟨b, o + k + 1, none⟩ = some (.int .u8 (z.getD (k + 1) 0)) := hc (k + 1) (by omega)
      cases hg : beg (hf z k)
      · refine (At_narrow b o cap n k _ _ I.le I.max (by omega) (zb I _) (zb I _) hg w hL x0 x1).mono fun e w' h => ?_
        obtain ⟨hB, f, rd, rn, rm, ra, im, kd, bs, st, cd, rg, en, hR, he⟩ := ofR_of h
        exact ⟨hB, f, rd, rn, rm, ra, im, kd, bs, st, cd, rg, en, .inr (.inl ⟨by omega, hg, hR⟩), he⟩
      · by_cases h4 : n < k + 4
        · exact (At_cut b o cap n k _ _ I.le I.max (by omega) h4 (zb I _) (zb I _) hg w hL x0 x1).mono fun e w' ⟨he, h⟩ => ⟨h, 0, 0, 0, 0, 0, 0, 0, 0, 0, 0, 0, 41, .inr (.inr (.inl ⟨by omega, h4, hg, rfl⟩)), he⟩
        · have x2 : w.cell? ⟨b, o + k + 2, none⟩ = some (.int .u8 (z.getD (k + 2) 0)) := hc (k + 2) (by omega)
          have x3 : w.cell? ⟨b, o + k + 3, none⟩ = some (.int .u8 (z.getD (k + 3) 0)) := hc (k + 3) (by omega)
          refine (At_wide b o cap n k _ _ _ _ I.le I.max (by omega) (zb I _) (zb I _) hg (zb I _) (zb I _) w hL x0 x1 x2 x3).mono fun e w' h => ?_
          obtain ⟨hB, f, rd, rn, rm, ra, im, kd, bs, st, cd, rg, en, hR, he⟩ := ofR_of h
          exact ⟨hB, f, rd, rn, rm, ra, im, kd, bs, st, cd, rg, en, .inr (.inr (.inr ⟨by omega, hg, hR⟩)), he⟩

/-- What Bytes answers. -/
theorem Bytes_any (f rd rn rm ra im kd bs st cd rg : Int) (g0 : -9223372036854775808 ≤ rg) (g1 : rg ≤ 9223372036854775807) (w : World) (hL : Laid w) :
    Calls Tryd.prog 51 #[.agg #[.int .i64 f, .int .i64 rd, .int .i64 rn, .int .i64 rm, .int .i64 ra, .int .i64 im, .int .i64 kd, .int .i64 bs, .int .i64 st, .int .i64 cd, .int .i64 rg]] w fun e w' => Below w.heap.size w w' ∧ ∃ v ef, e = .returned (.tuple #[v, .int .i64 ef]) ∧ ((right f rd rn rm ra im kd bs st cd rg = true ∧ ef = 0 ∧ w'.ownsRow w.heap.size 5 1 v (byt (wd f rd rn rm ra im kd bs st cd rg) (wdF f)).length (u8s (byt (wd f rd rn rm ra im kd bs st cd rg) (wdF f)))) ∨ ef = 10) := by
  cases hr : right f rd rn rm ra im kd bs st cd rg
  · exact (Bytes_no _ _ _ _ _ _ _ _ _ _ _ hr w hL).mono fun e w' ⟨he, h⟩ => ⟨h, _, _, he, .inr rfl⟩
  · exact (Bytes_yes _ _ _ _ _ _ _ _ _ _ _ hr g0 g1 w hL).mono fun e w' ⟨v, he, ho, h⟩ => ⟨h, _, _, he, .inl ⟨rfl, rfl, ho⟩⟩

/-- What is owned, and isn't empty, is a slice with an address. -/
theorem own_slice {w : World} {base : Nat} {e : TypeId} {v : Value} {n : Nat} {xs : List Value} (h : w.ownsRow base e 1 v n xs) (hn : 0 < n) : ∃ g cap, v = .slice (some ⟨g, 0, none⟩) n cap ∧ base ≤ g ∧ g < w.heap.size ∧ n ≤ cap ∧ cap ≤ maxLen ∧ ∀ j u, xs[j]? = some u → w.cell? ⟨g, j, none⟩ = some u := by
  rcases h.2 with ⟨_, h0⟩ | ⟨g, cap, cur, rfl, hb, hg, hc, hm, _, ht⟩
  · omega
  · refine ⟨g, cap, rfl, hb, (Array.getElem?_eq_some_iff.1 hg).1, hc, hm, fun j u hu => ?_⟩
    have := h.cells (g := g) rfl j u hu
    rwa [show ((⟨g, 0, none⟩ : Addr).add j) = ⟨g, j, none⟩ by unfold Addr.add; split <;> simp_all] at this

theorem of_post_own {f rd rn rm ra im kd bs st cd rg : Int} {wide : Bool} (hH : Has (wd f rd rn rm ra im kd bs st cd rg) wide f rd rn rm ra im kd bs st cd rg) {w w' : World} {e : Ending} (h : OfPost (wd f rd rn rm ra im kd bs st cd rg) wide w e w') : e = .returned (.tuple #[.agg #[.int .i64 f, .int .i64 rd, .int .i64 rn, .int .i64 rm, .int .i64 ra, .int .i64 im, .int .i64 kd, .int .i64 bs, .int .i64 st, .int .i64 cd, .int .i64 rg], .int .i64 0]) ∧ Below w.heap.size w w' := by
  obtain ⟨hB, f', rd', rn', rm', ra', im', kd', bs', st', cd', rg', en, hR, rfl⟩ := ofR_of h
  obtain ⟨⟨rfl, rfl, rfl, rfl, rfl, rfl, rfl, rfl, rfl, rfl, rfl⟩, rfl⟩ := ofR_one (.inl ⟨hH, rfl⟩) hR
  exact ⟨rfl, hB⟩

/-- At reads an instruction's own bytes as it, whatever stands ahead of them. -/
theorem At_own (f rd rn rm ra im kd bs st cd rg : Int) (h : right f rd rn rm ra im kd bs st cd rg = true) (g0 : -9223372036854775808 ≤ rg) (g1 : rg ≤ 9223372036854775807) (base : Nat) (v : Value) (k : Nat) (L : List Value) (hl : L.length = k) (w : World) (hL : Laid w)
    (ho : w.ownsRow base 5 1 v (k + (byt (wd f rd rn rm ra im kd bs st cd rg) (wdF f)).length) (L ++ u8s (byt (wd f rd rn rm ra im kd bs st cd rg) (wdF f)))) :
    Calls Tryd.prog 9 #[v, .int .i64 k] w fun e w' => e = .returned (.tuple #[.agg #[.int .i64 f, .int .i64 rd, .int .i64 rn, .int .i64 rm, .int .i64 ra, .int .i64 im, .int .i64 kd, .int .i64 bs, .int .i64 st, .int .i64 cd, .int .i64 rg], .int .i64 0]) ∧ Below w.heap.size w w' := by
  have hi := (at_own h g0 g1).1
  have hu : ∀ j u, (byt (wd f rd rn rm ra im kd bs st cd rg) (wdF f))[j]? = some u → (L ++ u8s (byt (wd f rd rn rm ra im kd bs st cd rg) (wdF f)))[k + j]? = some (.int .u8 u) := by
    intro j u hj
    rw [List.getElem?_append_right (by omega), hl, Nat.add_sub_cancel_left, u8s, List.getElem?_map, hj]; rfl
  cases hw : wdF f
  · have hl2 : (byt (wd f rd rn rm ra im kd bs st cd rg) (wdF f)).length = 2 := by rw [hw]; rfl
    have hf : f ≤ 47 := by unfold wdF at hw; have := of_decide_eq_false hw; omega
    have lw := narrow_lies h g0 g1 hf
    obtain ⟨g, cap, rfl, hb, hg, hc, hm, hcell⟩ := own_slice ho (by omega)
    rw [hl2] at hc ⊢
    have x0 : w.cell? ⟨g, 0 + k, none⟩ = some (.int .u8 (wd f rd rn rm ra im kd bs st cd rg % 256)) := by rw [Nat.zero_add]; exact hcell k _ (hu 0 _ (by rw [hw]; rfl))
    have x1 : w.cell? ⟨g, 0 + k + 1, none⟩ = some (.int .u8 (wd f rd rn rm ra im kd bs st cd rg / 256 % 256)) := by rw [Nat.zero_add]; exact hcell (k + 1) _ (hu 1 _ (by rw [hw]; rfl))
    have hH : Has (wd f rd rn rm ra im kd bs st cd rg) false f rd rn rm ra im kd bs st cd rg := ⟨h, g0, g1, rfl, hw⟩
    clear hu hcell ho
    generalize hW : wd f rd rn rm ra im kd bs st cd rg = W at *
    refine (At_narrow g 0 cap (k + 2) k _ _ hc hm (Nat.le_refl _) (by omega) (by omega) (decide_eq_false (by omega)) w hL x0 x1).mono fun e w' hp => ?_
    rw [show W % 256 + W / 256 % 256 * 256 = W by omega] at hp
    subst hW
    exact of_post_own hH hp
  · have hl2 : (byt (wd f rd rn rm ra im kd bs st cd rg) (wdF f)).length = 4 := by rw [hw]; rfl
    have hf : 48 ≤ f := by unfold wdF at hw; have := of_decide_eq_true hw; omega
    have lw := wide_lies h g0 g1 hf
    obtain ⟨g, cap, rfl, hb, hg, hc, hm, hcell⟩ := own_slice ho (by omega)
    rw [hl2] at hc ⊢
    have x0 : w.cell? ⟨g, 0 + k, none⟩ = some (.int .u8 (wd f rd rn rm ra im kd bs st cd rg / 65536 % 256)) := by rw [Nat.zero_add]; exact hcell k _ (hu 0 _ (by rw [hw]; rfl))
    have x1 : w.cell? ⟨g, 0 + k + 1, none⟩ = some (.int .u8 (wd f rd rn rm ra im kd bs st cd rg / 65536 / 256 % 256)) := by rw [Nat.zero_add]; exact hcell (k + 1) _ (hu 1 _ (by rw [hw]; rfl))
    have x2 : w.cell? ⟨g, 0 + k + 2, none⟩ = some (.int .u8 (wd f rd rn rm ra im kd bs st cd rg % 256)) := by rw [Nat.zero_add]; exact hcell (k + 2) _ (hu 2 _ (by rw [hw]; rfl))
    have x3 : w.cell? ⟨g, 0 + k + 3, none⟩ = some (.int .u8 (wd f rd rn rm ra im kd bs st cd rg / 256 % 256)) := by rw [Nat.zero_add]; exact hcell (k + 3) _ (hu 3 _ (by rw [hw]; rfl))
    have hH : Has (wd f rd rn rm ra im kd bs st cd rg) true f rd rn rm ra im kd bs st cd rg := ⟨h, g0, g1, rfl, hw⟩
    clear hu hcell ho
    generalize hW : wd f rd rn rm ra im kd bs st cd rg = W at *
    refine (At_wide g 0 cap (k + 4) k _ _ _ _ hc hm (Nat.le_refl _) (by omega) (by omega) (decide_eq_true (by omega)) (by omega) (by omega) w hL x0 x1 x2 x3).mono fun e w' hp => ?_
    rw [show (W / 65536 % 256 + W / 65536 / 256 % 256 * 256) * 65536 + (W % 256 + W / 256 % 256 * 256) = W by omega] at hp
    subst hW
    exact of_post_own hH hp

end Go.Proofs.YtegefbndpkbooaaDoor.Code

