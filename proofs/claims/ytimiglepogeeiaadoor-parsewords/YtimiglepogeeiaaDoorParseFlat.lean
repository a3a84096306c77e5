/- A tree's nodes, each ahead of its list's: the statements' own flat. A contract. -/
import Derived.Test.YtimiglepogeeiaaDoorParseAll
import Derived.Laws.AppendOwn
set_option linter.unusedVariables false
set_option linter.unusedSimpArgs false
set_option maxRecDepth 100000
namespace Go.Proofs.YtimiglepogeeiaaDoor.Parse
open Go.RowKit Go.Proofs.YtimiglepogeeiaaDoor.Lex

/-- A node, and how many its list has. -/
structure FN where
  k : Int
  a : Int
  t : List UInt8
  v : Int
  n : Nat
deriving DecidableEq
mutual
def flatT : Tr → List FN
  | .mk k a t v l => ⟨k, a, t, v, l.length⟩ :: flatL l
def flatL : List Tr → List FN
  | [] => []
  | y :: l => flatT y ++ flatL l
end
theorem flatL_append : ∀ a b : List Tr, flatL (a ++ b) = flatL a ++ flatL b
  | [], b => by simp [flatL]
  | y :: a, b => by rw [List.cons_append, flatL, flatL, flatL_append a b, List.append_assoc]
theorem flatL_take (l : List Tr) (k : Nat) (y : Tr) (h : l[k]? = some y) : flatL (l.take (k + 1)) = flatL (l.take k) ++ flatT y := by
  rw [List.take_add_one, h, flatL_append]
  simp [flatL]
theorem flatL_le (l : List Tr) (k : Nat) : (flatL (l.take k)).length ≤ (flatL l).length := by
  conv => rhs; rw [← List.take_append_drop k l, flatL_append]
  simp
theorem flatL_len : ∀ l : List Tr, l.length ≤ (flatL l).length
  | [] => Nat.zero_le _
  | .mk k a t v s :: l => by
    have := flatL_len l
    rw [flatL, flatT]
    simp
    omega
def fC (x : FN) : List Value := [.int .i64 x.k, .int .i64 x.a, .string (S x.t), .int .u32 x.v, .int .i64 x.n]
def fsC (l : List FN) : List Value := (l.map fC).flatten
theorem fsC_append (a b : List FN) : fsC (a ++ b) = fsC a ++ fsC b := by simp [fsC]
theorem fsC_one : ∀ (l : List FN), ∀ u ∈ fsC l, u.oneCell' = true
  | [], u, h => by simp [fsC] at h
  | x :: l, u, h => by
    rw [show fsC (x :: l) = fC x ++ fsC l from rfl] at h
    rcases List.mem_append.1 h with h | h
    · simp [fC] at h; rcases h with rfl | rfl | rfl | rfl | rfl <;> rfl
    · exact fsC_one l u h
theorem info_N : (Tryd.prog.info? 37).map (fun i => (i.zero, i.size, i.bytes)) = some (some (.agg #[.int .i64 0, .int .i64 0, .string ⟨#[]⟩, .int .u32 0, .int .i64 0]), 5, 48) := by kernel_rfl
theorem get_kid : ∀ (xs : List (Array Value)) (i j : Nat) (x : Array Value), (∀ y ∈ xs, y.size = 5) → xs[i]? = some x → j < 5 → (xs.map Array.toList).flatten[i * 5 + j]? = x[j]?
  | [], i, j, x, _, h, _ => by simp at h
  | y :: xs, 0, j, x, hs, h, hj => by
    simp at h
    subst h
    rw [List.map_cons, List.flatten_cons, List.getElem?_append_left (by have := hs y (List.mem_cons_self ..); simp; omega)]
    simp
  | y :: xs, i + 1, j, x, hs, h, hj => by
    have h5 := hs y (List.mem_cons_self ..)
    rw [List.map_cons, List.flatten_cons, List.getElem?_append_right (by simp; omega), show (i + 1) * 5 + j - y.toList.length = i * 5 + j by simp [h5]; omega]
    exact get_kid xs i j x (fun z hz => hs z (List.mem_cons_of_mem _ hz)) (by simpa using h) hj

set_option maxHeartbeats 8000000 in
theorem flat_any {w0 : World} {P : Nat → Prop} {y : Tr} {x : Array Value} (h : Rep w0 P y x) (hP : ∀ j, P j → j < w0.heap.size) : ∀ (w : World) (d : Int), 0 ≤ d → d + (flatT y).length ≤ 20000 → w0.heap.size ≤ w.heap.size → (∀ j, P j → w.heap[j]? = w0.heap[j]?) →
    Calls Tryd.prog 12 #[.agg x, .int .i64 d] w fun e w' => ∃ s, e = .returned s ∧ w'.ownsRow w.heap.size 37 5 s (flatT y).length (fsC (flatT y)) ∧ Below w.heap.size w w' := by
  induction h with
  | mk k a t v l s xs ho hPb hl hx ih =>
    intro w d hd hn hsz hbl
    have hfl : flatT (.mk k a t v l) = ⟨k, a, t, v, l.length⟩ :: flatL l := by rw [flatT]
    rw [hfl] at hn ⊢
    rw [List.length_cons] at hn
    have hs5 : ∀ y ∈ xs, y.size = 5 := fun y hy => by
      obtain ⟨i, hi, rfl⟩ := List.getElem_of_mem hy
      have hi' : i < l.length := by omega
      exact (hx i l[i] xs[i] (List.getElem?_eq_getElem hi') (List.getElem?_eq_getElem hi)).size
    have hcell : ∀ i, i < l.length → ∃ g cap, s = .slice (some ⟨g, 0, none⟩) l.length cap ∧ P g ∧ ∀ j u, (xs.map Array.toList).flatten[j]? = some u → w.cell? ⟨g, j, none⟩ = some u := fun i hi => by
      rcases ho.2 with ⟨h1, h2⟩ | ⟨g, cap, cur, h1, h2⟩
      · omega
      · have hg : P g := hPb g (by rw [h1]; rfl)
        refine ⟨g, cap, h1, hg, fun j u hj => ?_⟩
        have hc := ho.cells (g := g) (by rw [h1]; rfl) j u hj
        have : w.cell? ⟨g, j, none⟩ = w0.cell? ⟨g, j, none⟩ := World.cell?_of_block (w := w0) (hbl g hg)
        rw [this]
        rw [Addr.add_mid] at hc
        simpa using hc
    have hmx : l.length ≤ 20000 := by have := flatL_len l; omega
    obtain ⟨i0, hi0, hi1, hi2, hi3⟩ := info_parts info_N
    obtain ⟨p, sn, sc, hs, hsn⟩ : ∃ p sn sc, s = .slice p sn sc ∧ sn = l.length := by
      rcases ho.2 with ⟨h1, h2⟩ | ⟨g, cap, cur, h1, h2⟩
      · exact ⟨none, 0, 0, h1, h2.symm⟩
      · exact ⟨_, _, _, h1, rfl⟩
    subst hsn
    unfold nC
    rw [hs] at hcell ⊢
    have HC := hide hcell
    have HI := hide ih
    have HS := hide hs5
    have HX := hide hx
    have HBL := hide hbl
    have HP := hide hP
    clear hcell ih hs5 hx hbl hP ho hPb hs
    have hB := hide ((Below.refl w.heap.size w).alloc (Nat.le_refl _) (.cells #[.int .i64 k, .int .i64 a, .string (S t), .int .u32 v, .slice p l.length sc] 27))
    go_enter Tryd.func12, Tryd.ntmps12
    go_wp2_with fail
    have hz1 : (w.alloc (.cells #[.int .i64 k, .int .i64 a, .string (S t), .int .u32 v, .slice p l.length sc] 27)).heap.size = w.heap.size + 1 := by simp
    have hown0 : ((w.alloc (.cells #[.int .i64 k, .int .i64 a, .string (S t), .int .u32 v, .slice p l.length sc] 27)).alloc (.cells #[.int .i64 k, .int .i64 a, .string (S t), .int .u32 v, .int .i64 l.length] 37)).ownsRow w.heap.size 37 5 (.slice (some ⟨w.heap.size + 1, 0, none⟩) 1 1) 1 (fsC [⟨k, a, t, v, l.length⟩]) := by
      refine ⟨rfl, .inr ⟨w.heap.size + 1, 1, #[.int .i64 k, .int .i64 a, .string (S t), .int .u32 v, .int .i64 l.length], rfl, by omega, ?_, Nat.le_refl _, by simp [maxLen], rfl, rfl⟩⟩
      have := heap_new (w.alloc (.cells #[.int .i64 k, .int .i64 a, .string (S t), .int .u32 v, .slice p l.length sc] 27)) #[.int .i64 k, .int .i64 a, .string (S t), .int .u32 v, .int .i64 l.length] 37
      rw [hz1] at this
      exact this
    have hb0 := hB.out.alloc (by omega) (.cells #[.int .i64 k, .int .i64 a, .string (S t), .int .u32 v, .int .i64 l.length] 37)
    go_loopw [5, 27] (fun o i wr => ∃ kk : Nat, kk ≤ l.length ∧ i = .int .i64 kk ∧ wr.ownsRow w.heap.size 37 5 o (1 + (flatL (l.take kk)).length) (fsC (⟨k, a, t, v, l.length⟩ :: flatL (l.take kk))) ∧ Below w.heap.size w wr) (fun _ i _ => l.length - (intOf i).toNat)
    case atStart => exact ⟨0, Nat.zero_le _, rfl, by simpa [flatL] using hown0, hb0⟩
    case round =>
      obtain ⟨kk, hkk, rfl, hown, hb⟩ := hrel
      have HO := hide hown
      have HB := hide hb
      clear hown hb
      by_cases hlt : kk < l.length
      · obtain ⟨g, cap, hse, hPg, hcl⟩ := HC.out kk hlt
        injection hse with e1 e2 e3
        subst e1 e3
        have hly : l[kk]? = some l[kk] := List.getElem?_eq_getElem hlt
        generalize l[kk] = y' at hly
        have hlx : xs[kk]? = some xs[kk] := List.getElem?_eq_getElem (by omega)
        generalize xs[kk] = x' at hlx
        have hrx := HX.out kk y' x' hly hlx
        obtain ⟨k1, a1, t1, v1, l1⟩ := y'
        obtain ⟨q1, m1, c1, rfl⟩ := Rep.slice hrx
        have hgw : g < w.heap.size := by have := HP.out g hPg; omega
        have hget : ∀ j u, j < 5 → (#[Value.int .i64 k1, .int .i64 a1, .string (S t1), .int .u32 v1, .slice q1 m1 c1] : Array Value)[j]? = some u → wr.cell? ⟨g, kk * 5 + j, none⟩ = some u := fun j u hj hu => by
          rw [HB.out.cell (p := ⟨g, kk * 5 + j, none⟩) hgw]
          exact hcl _ _ (by rw [get_kid xs kk j _ HS.out hlx hj]; exact hu)
        have g0 := hget 0 _ (by omega) rfl
        have g1 := hget 1 _ (by omega) rfl
        have g2 := hget 2 _ (by omega) rfl
        have g3 := hget 3 _ (by omega) rfl
        have g4 := hget 4 _ (by omega) rfl
        rw [Nat.add_zero] at g0
        have htk := flatL_take l kk _ hly
        have hle := flatL_le l (kk + 1)
        rw [htk, List.length_append] at hle
        have HK := hide htk
        have hz := HB.out.size
        have hih := HI.out kk _ _ hly hlx (wr.alloc (.cells #[.int .i64 k1, .int .i64 a1, .string (S t1), .int .u32 v1, .slice q1 m1 c1] 27)) (d + 1) (by omega) (by omega) (by simp; omega) (fun j hj => by
          have hjw : j < w.heap.size := by have := HP.out j hj; omega
          rw [((Below.refl wr.heap.size wr).alloc (Nat.le_refl _) _).block j (by omega), HB.out.block j hjw]
          exact HBL.out j hj)
        have hlw : (kk : Int) < l.length := by omega
        have hlp : ∀ y : Tr, 1 ≤ (flatT y).length := fun y => by cases y; rw [flatT]; simp
        have hlp1 := hlp (.mk k1 a1 t1 v1 l1)
        generalize hft : flatT (.mk k1 a1 t1 v1 l1) = F at *
        clear htk hget hcl hrx hlp hft
        have HL := hide (by omega : 1 + (flatL (l.take kk)).length ≤ 20000)
        have hl2 : F.length ≤ 20000 := by omega
        have HLE := hide hle
        clear hle hn
        go_wp2_with fail
        refine hih.mono ?_
        rintro e w5 ⟨s2, rfl, hown2, hb5⟩
        have hz5 := hb5.size
        simp at hz5
        have hB5 := HB.out.trans (((Below.refl wr.heap.size wr).alloc (Nat.le_refl _) (.cells #[.int .i64 k1, .int .i64 a1, .string (S t1), .int .u32 v1, .slice q1 m1 c1] 27)).mono hz)
        have hb5' : Below w.heap.size _ w5 := hb5.mono (by simp; omega)
        have HB5 := hide (hB5.trans hb5')
        have HO5 : Hid (w5.ownsRow w.heap.size 37 5 u5 (1 + (flatL (l.take kk)).length) (fsC (⟨k, a, t, v, l.length⟩ :: flatL (l.take kk)))) := hide (owns_kept HO.out (by omega) (fun j hj => by
          have hj2 := HO.out.lt j hj
          rw [hb5.block j (by simp; omega)]
          exact ((Below.refl wr.heap.size wr).alloc (Nat.le_refl _) _).block j hj2.2))
        rcases hown2.2 with ⟨_, h0⟩ | ⟨g2', c2, cur2, rfl, hgb, hgh, hr2⟩
        · omega
        have hc2 := hown2.cells (g := g2') rfl
        have HC2 := hide hc2
        have HLN := hide hown2.1
        clear hih hb5 hb5' hB5 hc2 hown2 hgh hr2
        go_wp2_with (at_builtin; refine wpList_append_own _ rfl (.tmp 31) (.tmp 35) 31 rfl w.heap.size 37 i0 (.agg #[.int .i64 0, .int .i64 0, .string ⟨#[]⟩, .int .u32 0, .int .i64 0]) 5 48 Tryd.underlying31 hi0 hi1 hi2 hi3 rfl (by decide) _ (1 + (flatL (l.take kk)).length) (fsC (⟨k, a, t, v, l.length⟩ :: flatL (l.take kk))) rfl HO5.out ⟨g2', 0, none⟩ F.length c2 (fsC F) rfl HLN.out ?c1 ?c2 ?c3 ?c4 ?c5 ?_)
        case c1 => intro j u hj; exact HC2.out j u hj
        case c2 => exact fsC_one F
        case c3 => have := HL.out; unfold maxLen; omega
        case c4 => have := HL.out; omega
        case c5 => omega
        intro v' w6 hown' hgrow _
        have hB6 := HB5.out.grown hgrow (by omega) (fun j hj => (HO5.out.lt j hj).1)
        have hwn : w6.ownsRow w.heap.size 37 5 v' (1 + (flatL (l.take (kk + 1))).length) (fsC (⟨k, a, t, v, l.length⟩ :: flatL (l.take (kk + 1)))) := by
          rw [HK.out, ← List.cons_append, fsC_append, List.length_append, ← Nat.add_assoc]
          exact hown'
        have HW := hide hwn
        have HB6 := hide hB6
        clear hown' hgrow hwn hB6
        go_wp2_with fail
        exact ⟨⟨kk + 1, by omega, by go_num, HW.out, HB6.out⟩, by simp [intOf]; omega⟩
      · obtain rfl : kk = l.length := by omega
        have hwn := HO.out
        rw [List.take_length, Nat.add_comm] at hwn
        have HW := hide hwn
        clear hwn
        go_wp2_with fail
        go_ret
        exact ⟨_, rfl, HW.out, HB.out⟩

end Go.Proofs.YtimiglepogeeiaaDoor.Parse

