/- A source's tree: package parse's Parse. A contract. -/
import Derived.Test.YtimiglepogeeiaaDoorParseTree
set_option linter.unusedVariables false
set_option linter.unusedSimpArgs false
set_option maxRecDepth 100000
namespace Go.Proofs.YtimiglepogeeiaaDoor.Parse
open Go.RowKit Go.Proofs.YtimiglepogeeiaaDoor.Lex

/-- What is told of a source: a tree, or an error and its offset. -/
def Parsed (w : World) (q : Except (Int × Int) Tr) (e : Ending) (w' : World) : Prop :=
  match q with
  | .error (n, a) => e = .returned (.tuple #[.agg #[.int .i64 0, .int .i64 0, .string ⟨#[]⟩, .int .u32 0, .slice none 0 0], .int .i64 n, .int .i64 a])
  | .ok y => ∃ x, e = .returned (.tuple #[.agg x, .int .i64 0, .int .i64 0]) ∧ Rep w' (Fr w w') y x

set_option maxHeartbeats 16000000 in
theorem Parse_any (l : List UInt8) (p : Option Addr) (n cap : Nat) (w : World) (hS : Sig w) (hp : Src w p n l) (hn : n ≤ maxLen) :
    Calls Tryd.prog 10 #[.slice p n cap] w fun e w' => Parsed w (parsed l) e w' ∧ Below w.heap.size w w' := by
  have hA := (Below.refl w.heap.size w).alloc (Nat.le_refl _) (.cells #[.int .i64 0, .int .i64 0, .string ⟨#[]⟩, .int .u32 0, .slice none 0 0] 27)
  have hx0 : Bx (w.alloc (.cells #[.int .i64 0, .int .i64 0, .string ⟨#[]⟩, .int .u32 0, .slice none 0 0] 27)) w.heap.size 27 #[.int .i64 0, .int .i64 0, .string ⟨#[]⟩, .int .u32 0, .slice none 0 0] := Bx.newAt rfl
  have hz0 : (w.alloc (.cells #[.int .i64 0, .int .i64 0, .string ⟨#[]⟩, .int .u32 0, .slice none 0 0] 27)).heap.size = w.heap.size + 1 := by simp
  have ht := Tokens_any l p n cap (w.alloc (.cells #[.int .i64 0, .int .i64 0, .string ⟨#[]⟩, .int .u32 0, .slice none 0 0] 27)) (hS.below hA) (hp.below hA) hn
  have hpd : parsed l = (match lexed l with
    | .error e => .error (e.1, e.2)
    | .ok L => if (prF L ⟨0, 0, 0⟩).1.e ≠ 0 then .error ((prF L ⟨0, 0, 0⟩).1.e, (tk L (prF L ⟨0, 0, 0⟩).1).a) else .ok (prF L ⟨0, 0, 0⟩).2) := rfl
  generalize parsed l = q at hpd ⊢
  cases hx : lexed l with
  | error ea =>
    obtain ⟨en, ep⟩ := ea
    have hne := lexedBad hx
    rw [hx] at ht hpd
    dsimp only at hpd
    subst hpd
    have hne' : ((en : Int) != 0) = true := by simp; exact hne
    have HX0 := hide hx0
    have HA := hide hA
    clear hx hx0 hA hS hp
    go_enter Tryd.func10, Tryd.ntmps10
    go_wp2_with fail
    refine ht.mono ?_
    rintro e w1 ⟨hT, hb1⟩
    obtain rfl := hT
    have hz1 := hb1.size
    have hB1 := HA.out.trans (hb1.mono (by omega))
    have hx1 := HX0.out.below hb1
    have HB1 := hide hB1
    have HX1 := hide hx1
    clear ht hb1 hB1 hx1 hne
    have x0 := HX1.out.cell (k := 0) rfl
    have x1 := HX1.out.cell (k := 1) rfl
    have x2 := HX1.out.cell (k := 2) rfl
    have x3 := HX1.out.cell (k := 3) rfl
    have x4 := HX1.out.cell (k := 4) rfl
    have xl := HX1.out.lt
    have xf := HX1.out.free
    go_wp2_with fail
    have hX := Bx.put5 HX1.out (.int .i64 0) (.int .i64 0) (.string ⟨#[]⟩) (.int .u32 0) (.slice none 0 0)
    have hO := ((((((But.refl w.heap.size w1).set 0 (.int .i64 0)).set 1 (.int .i64 0)).set 2 (.string ⟨#[]⟩)).set 3 (.int .u32 0)).set 4 (.slice none 0 0)).below (n := w.heap.size) (by omega) (Nat.le_refl _)
    exact bodyPost_ret (v := .tuple #[.agg #[.int .i64 0, .int .i64 0, .string ⟨#[]⟩, .int .u32 0, .slice none 0 0], .int .i64 en, .int .i64 ep]) (by have HR := run_loadVar_row (P := Tryd.prog) _ w.heap.size 27 27 #[.int .i64 0, .int .i64 0, .string ⟨#[]⟩, .int .u32 0, .slice none 0 0] (0, 0) _ hX Tryd.underlying27 rfl info_nd; simp [results, Tryd.results10, asAddr, HR]) rfl ⟨rfl, HB1.out.trans hO⟩
  | ok ts =>
    obtain ⟨hTs, hlen⟩ := lexedOk hx
    rw [hx] at ht hpd
    dsimp only at hpd
    have HX0 := hide hx0
    have HA := hide hA
    have HPD := hide hpd
    clear hx hx0 hA hS hp hpd
    go_enter Tryd.func10, Tryd.ntmps10
    go_wp2_with fail
    refine ht.mono ?_
    rintro e w1 ⟨⟨vv, rfl, hown⟩, hb1⟩
    have hz1 := hb1.size
    have hB1 := HA.out.trans (hb1.mono (by omega))
    have hx1 := HX0.out.below hb1
    have hne : ts ≠ [] := fun e => by have := hTs.ne; rw [e] at this; simp at this
    obtain ⟨g, c0, hv, hge, hrow⟩ := owned hown hne
    have hcap : ts.length ≤ c0 := by
      rcases hown.2 with ⟨h1, h2⟩ | ⟨g', c', cur, h1, _, _, h2, _⟩
      · rw [hv] at h1; cases h1
      · rw [hv] at h1; injection h1 with _ _ h1; omega
    subst hv
    have HB1 := hide (hB1.alloc (by omega) (.cells #[.slice (some ⟨g, 0, none⟩) ts.length c0, .int .i64 0, .int .i64 0] 50))
    have HX1 := hide (hx1.alloc (.cells #[.slice (some ⟨g, 0, none⟩) ts.length c0, .int .i64 0, .int .i64 0] 50))
    have hbox : (w1.alloc (.cells #[.slice (some ⟨g, 0, none⟩) ts.length c0, .int .i64 0, .int .i64 0] 50)).heap[w1.heap.size]? = some (.cells (rdC g c0 ts ⟨0, 0, 0⟩) 50 (0, 0)) := by
      have := heap_new w1 #[.slice (some ⟨g, 0, none⟩) ts.length c0, .int .i64 0, .int .i64 0] 50
      simpa [rdC] using this
    have hrd : Rd (w1.alloc (.cells #[.slice (some ⟨g, 0, none⟩) ts.length c0, .int .i64 0, .int .i64 0] 50)) w1.heap.size g c0 ts ⟨0, 0, 0⟩ :=
      ⟨hbox, hrow.below ((Below.refl _ w1).alloc (Nat.le_refl _) _), by have := hrow.lt; omega, hTs.ne, hcap, hlen, hTs⟩
    have hpr := program_all _ _ hrd
    have hzr : (w1.alloc (.cells #[.slice (some ⟨g, 0, none⟩) ts.length c0, .int .i64 0, .int .i64 0] 50)).heap.size = w1.heap.size + 1 := by simp
    generalize hpf : prF ts ⟨0, 0, 0⟩ = pf at *
    obtain ⟨rf, yf⟩ := pf
    have hgl := hrow.lt
    have HPF := hide hpf
    clear ht hb1 hB1 hx1 hown hrow hbox hrd hpf
    go_wp2_with fail
    refine hpr.mono ?_
    intro e w3 hn3
    obtain ⟨k, a, t, v, l3, sp, sn, sc, hq, rfl, hR3, hB3, hT3⟩ := hn3.parts
    have hq' : yf = .mk k a t v l3 := hq
    subst hq'
    have hz3 := hB3.size
    have HR3 := hide (hR3.alloc (.cells #[.int .i64 k, .int .i64 a, .string (S t), .int .u32 v, .slice sp sn sc] 27))
    have HX3 := hide ((Bx.but HX1.out hB3 (by omega)).alloc (.cells #[.int .i64 k, .int .i64 a, .string (S t), .int .u32 v, .slice sp sn sc] 27))
    have HN3 : Hid (Bx (w3.alloc (.cells #[.int .i64 k, .int .i64 a, .string (S t), .int .u32 v, .slice sp sn sc] 27)) w3.heap.size 27 #[.int .i64 k, .int .i64 a, .string (S t), .int .u32 v, .slice sp sn sc]) := hide (Bx.newAt rfl)
    have HT3 : Hid (Rep (w3.alloc (.cells #[.int .i64 k, .int .i64 a, .string (S t), .int .u32 v, .slice sp sn sc] 27)) (Fr _ w3) (.mk k a t v l3) #[.int .i64 k, .int .i64 a, .string (S t), .int .u32 v, .slice sp sn sc]) := hide (Rep.alloc hT3 (Nat.le_refl _) _)
    have HB3 := hide ((HB1.out.trans (hB3.below (n := w.heap.size) (by omega) (by omega))).alloc (by omega) (.cells #[.int .i64 k, .int .i64 a, .string (S t), .int .u32 v, .slice sp sn sc] 27))
    have c2 := hR3.c2
    have hbl := hR3.ltb
    have hzr3 : (w3.alloc (.cells #[.int .i64 k, .int .i64 a, .string (S t), .int .u32 v, .slice sp sn sc] 27)).heap.size = w3.heap.size + 1 := by simp
    clear hpr hn3 hq hR3 hB3 hT3 HX1 HB1
    by_cases he : rf.e = 0
    · have hpd := HPD.out
      rw [if_neg (by simp [he])] at hpd
      rw [he] at c2
      have HQ := hide hpd
      have x0 := HX3.out.cell (k := 0) rfl
      have x1 := HX3.out.cell (k := 1) rfl
      have x2 := HX3.out.cell (k := 2) rfl
      have x3 := HX3.out.cell (k := 3) rfl
      have x4 := HX3.out.cell (k := 4) rfl
      have xl := HX3.out.lt
      have xf := HX3.out.free
      have n0 := HN3.out.cell (k := 0) rfl
      have n1 := HN3.out.cell (k := 1) rfl
      have n2 := HN3.out.cell (k := 2) rfl
      have n3 := HN3.out.cell (k := 3) rfl
      have n4 := HN3.out.cell (k := 4) rfl
      have nl := HN3.out.lt
      have nf := HN3.out.free
      go_wp2_with fail
      have hX := Bx.put5 HX3.out (.int .i64 k) (.int .i64 a) (.string (S t)) (.int .u32 v) (.slice sp sn sc)
      have hO : But w.heap.size (w3.alloc (.cells #[.int .i64 k, .int .i64 a, .string (S t), .int .u32 v, .slice sp sn sc] 27)) _ := ((((((But.refl w.heap.size (w3.alloc (.cells #[.int .i64 k, .int .i64 a, .string (S t), .int .u32 v, .slice sp sn sc] 27))).set 0 (.int .i64 k)).set 1 (.int .i64 a)).set 2 (.string (S t))).set 3 (.int .u32 v)).set 4 (.slice sp sn sc))
      have hrep := HT3.out.kept hO.size (fun j hj => hO.block j (by have := hj.2; omega) (by have := hj.1; omega)) (Q := Fr w _) (fun j hj => ⟨by have := hj.1; omega, Nat.lt_of_lt_of_le (by have := hj.2; omega : j < (w3.alloc (.cells #[.int .i64 k, .int .i64 a, .string (S t), .int .u32 v, .slice sp sn sc] 27)).heap.size) hO.size⟩)
      exact bodyPost_ret (v := .tuple #[.agg #[.int .i64 k, .int .i64 a, .string (S t), .int .u32 v, .slice sp sn sc], .int .i64 0, .int .i64 0]) (by have HR := run_loadVar_row (P := Tryd.prog) _ w.heap.size 27 27 #[.int .i64 k, .int .i64 a, .string (S t), .int .u32 v, .slice sp sn sc] (0, 0) _ hX Tryd.underlying27 rfl info_nd; simp [results, Tryd.results10, asAddr, HR]) rfl ⟨by rw [HQ.out]; exact ⟨_, rfl, hrep⟩, HB3.out.trans (hO.below (n := w.heap.size) (by omega) (Nat.le_refl _))⟩
    · have hpd := HPD.out
      rw [if_pos he] at hpd
      have hef : (rf.e != 0) = true := by simpa using he
      have HQ := hide hpd
      go_wp2_with fail
      have hnx := next_any HR3.out.drew
      generalize hta : tk ts rf = tt at hnx
      obtain ⟨tk_, ta, tx, tv⟩ := tt
      simp only [tA] at hnx
      have f1 := fk1 tk_ ta tv (S tx)
      have HTA := hide hta
      have HNX := hide hnx
      clear hnx hta
      generalize w3.alloc (.cells #[.int .i64 k, .int .i64 a, .string (S t), .int .u32 v, .slice sp sn sc] 27) = w4 at *
      refine wp_region_held_drew (S := fun w' => Rd w' w1.heap.size g c0 ts rf) (by kernel_rfl) HR3.out.drew (fun hH1 => ?_)
      refine wpAnyH_take (i := 0) (v := ?_) rfl (by kernel_rfl) (by kernel_rfl) (by kernel_rfl) (fun _ _ _ h => h) (Or.inl ⟨by rfl, ?_⟩) (by assumption) ?_
      rotate_left
      · intro w hSw; (try dsimp only at hSw); go_simp; (try with_reducible rfl)
      (try simp only [Act.put, List.getElem_toArray, List.getElem_cons_zero, List.setIfInBounds_toArray, List.set_cons_zero, List.set_cons_succ])
      refine wpAnyH_take (i := 1) (v := ?_) rfl (by kernel_rfl) (by kernel_rfl) (by kernel_rfl) (fun _ _ _ h => h) (Or.inl ⟨by rfl, ?_⟩) (by assumption) ?_
      rotate_left
      · intro w hSw; (try dsimp only at hSw); go_simp; (try with_reducible rfl)
      (try simp only [Act.put, List.getElem_toArray, List.getElem_cons_zero, List.getElem_cons_succ, List.setIfInBounds_toArray, List.set_cons_zero, List.set_cons_succ])
      refine wpAnyH_take (i := 2) (v := .int .i64 rf.e) rfl (by kernel_rfl) (by kernel_rfl) (by kernel_rfl) (fun _ _ _ h => h) (Or.inl ⟨by rfl, ?_⟩) (by assumption) ?_
      · intro w' hSw
        have c2 := Rd.c2 hSw
        go_simp
      (try simp only [Act.put, List.getElem_toArray, List.getElem_cons_zero, List.getElem_cons_succ, List.setIfInBounds_toArray, List.set_cons_zero, List.set_cons_succ])
      refine wpAnyH_ready (rs := [3]) (by kernel_rfl) (by simp) ?_
      refine AllReadyH.cons rfl (fun K hK => ?_) AllReadyH.nil
      go_simp
      with_reducible refine HNX.out.mono ?_
      rintro e w5 ⟨rfl, hb5⟩
      have hb45 : Below w4.heap.size w4 w5 := ⟨hb5.os, hb5.tape, hb5.output, hb5.size, hb5.block⟩
      have hz5 := hb45.size
      have HR5 := hide (HR3.out.kept hb45)
      have HX5 := hide (HX3.out.below hb45)
      have HB5 := hide (HB3.out.trans (hb45.mono (by omega)))
      refine hK.out _ _ HR5.out (fun hH2 => ?_)
      clear hK K hb5 hb45
      (try simp only [Act.put, List.getElem_toArray, List.getElem_cons_zero, List.getElem_cons_succ, List.setIfInBounds_toArray, List.set_cons_zero, List.set_cons_succ])
      refine wpAnyH_take (i := 4) (v := ?_) rfl (by kernel_rfl) (by kernel_rfl) (by kernel_rfl) (fun _ _ _ h => h) (Or.inl ⟨by rfl, ?_⟩) (by assumption) ?_
      rotate_left
      · intro w hSw; (try dsimp only at hSw); go_simp; (try with_reducible rfl)
      (try simp only [Act.put, List.getElem_toArray, List.getElem_cons_zero, List.getElem_cons_succ, List.setIfInBounds_toArray, List.set_cons_zero, List.set_cons_succ])
      refine wpAnyH_ready (rs := [5]) (by kernel_rfl) (by simp) ?_
      refine AllReadyH.cons rfl (fun K hK => ?_) AllReadyH.nil
      have x0 := HX5.out.cell (k := 0) rfl
      have x1 := HX5.out.cell (k := 1) rfl
      have x2 := HX5.out.cell (k := 2) rfl
      have x3 := HX5.out.cell (k := 3) rfl
      have x4 := HX5.out.cell (k := 4) rfl
      have xl := HX5.out.lt
      have xf := HX5.out.free
      have hbb := HR5.out.ltb
      have hgg := HR5.out.row.lt
      go_simp
      have hR6 := HR5.out.put5 (B := w.heap.size) (.int .i64 0) (.int .i64 0) (.string ⟨#[]⟩) (.int .u32 0) (.slice none 0 0) (by omega) (by omega)
      refine hK.out _ _ hR6 (fun hH3 => ?_)
      clear hK K
      (try simp only [Act.put, List.getElem_toArray, List.getElem_cons_zero, List.getElem_cons_succ, List.setIfInBounds_toArray, List.set_cons_zero, List.set_cons_succ])
      refine wpAnyH_take (i := 6) (v := ?_) rfl (by kernel_rfl) (by kernel_rfl) (by kernel_rfl) (fun _ _ _ h => h) (Or.inl ⟨by rfl, ?_⟩) (by assumption) ?_
      rotate_left
      · intro w hSw; (try dsimp only at hSw); go_simp; (try with_reducible rfl)
      (try simp only [Act.put, List.getElem_toArray, List.getElem_cons_zero, List.getElem_cons_succ, List.setIfInBounds_toArray, List.set_cons_zero, List.set_cons_succ])
      refine wpAnyH_take (i := 7) (v := ?_) rfl (by kernel_rfl) (by kernel_rfl) (by kernel_rfl) (fun _ _ _ h => h) (Or.inl ⟨by rfl, ?_⟩) (by assumption) ?_
      rotate_left
      · intro w hSw; (try dsimp only at hSw); go_simp; (try with_reducible rfl)
      (try simp only [Act.put, List.getElem_toArray, List.getElem_cons_zero, List.getElem_cons_succ, List.setIfInBounds_toArray, List.set_cons_zero, List.set_cons_succ])
      refine wpAnyH_done (by kernel_rfl) ?_ _
      have hX := Bx.put5 HX5.out (.int .i64 0) (.int .i64 0) (.string ⟨#[]⟩) (.int .u32 0) (.slice none 0 0)
      have hO := ((((((But.refl w.heap.size w5).set 0 (.int .i64 0)).set 1 (.int .i64 0)).set 2 (.string ⟨#[]⟩)).set 3 (.int .u32 0)).set 4 (.slice none 0 0)).below (n := w.heap.size) (by omega) (Nat.le_refl _)
      have HXe := hide hX
      have HOe := hide (HB5.out.trans hO)
      clear hX hO hH3 hR6 hH2 hH1
      go_wp2_with fail
      exact bodyPost_ret (v := .tuple #[.agg #[.int .i64 0, .int .i64 0, .string ⟨#[]⟩, .int .u32 0, .slice none 0 0], .int .i64 rf.e, .int .i64 ta]) (by have HR := run_loadVar_row (P := Tryd.prog) _ w.heap.size 27 27 #[.int .i64 0, .int .i64 0, .string ⟨#[]⟩, .int .u32 0, .slice none 0 0] (0, 0) _ HXe.out Tryd.underlying27 rfl info_nd; simp [results, Tryd.results10, asAddr, HR]) rfl ⟨by rw [HQ.out, HTA.out]; rfl, HOe.out⟩

end Go.Proofs.YtimiglepogeeiaaDoor.Parse

