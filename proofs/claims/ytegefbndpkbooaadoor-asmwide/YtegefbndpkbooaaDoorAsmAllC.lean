/- The statements' own 'all', as a contract: two appended slices, of the program's items and of the document's. -/
import Derived.Test.YtegefbndpkbooaaDoorAsmFlat
import Derived.Test.YtegefbndpkbooaaDoorAsmRows
import Derived.Deep.MidRow
import Derived.Deep.WholeRow
import Derived.Deep.RegionHeld3
import Derived.Maps.AppendAt
set_option linter.unusedVariables false
set_option linter.unusedSimpArgs false
namespace Go.Proofs.YtegefbndpkbooaaDoor.Asm
open Go.RowKit Go.Proofs.YtegefbndpkbooaaDoor.Core Go.Proofs.YtegefbndpkbooaaDoor.Alu

theorem blk_ltF {w : World} {a : Addr} {v : Value} (h : w.cell? a = some v) : a.block < w.heap.size := by
  by_cases hb : a.block < w.heap.size
  · exact hb
  · have : w.heap[a.block]? = none := Array.getElem?_eq_none (by omega)
    simp [World.cell?, this] at h
theorem range_belowF {w w' : World} {b o : Nat} {vs : List Value} (h : w.rangeAt b o vs) (hb : Below w.heap.size w w') : w'.rangeAt b o vs := fun j v hv => (hb.cell (p := ⟨b, o + j, none⟩) (blk_ltF (a := ⟨b, o + j, none⟩) (h j v hv))).trans (h j v hv)
theorem range_rowF {w : World} {b : Nat} {cs : Array Value} {t : TypeId} {fr : Nat × Nat} (h : w.heap[b]? = some (.cells cs t fr)) (vs : List Value) (hv : vs = cs.toList) : w.rangeAt b 0 vs := fun j v hj => by
  rw [Nat.zero_add, cell_of_row _ _ _ _ _ _ h, ← Array.getElem?_toList, ← hv]
  exact hj
theorem built_doc (x : It) : Tryd.prog.builtSlice 51 1 [(0, .agg (itv x))] = some (itv x) := by
  obtain ⟨k, ⟨f, rd, rn, rm, ra, im, kd, bs, st, cd, rg⟩, c, l, t⟩ := x
  kernel_rfl
theorem wpList_oneA {ops : Array Oper} {rest : List Oper} {o : Oper} {a : Act} {w : World} {Q : Exit → Act → World → Prop} (hg : o.guard = none) (x : Operand) (ho : o.op = .buildSlice 22 1 #[(0, x)]) (y : It) (hx : a.eval x = .agg (itv y))
    (h : wpList Tryd.prog ops Q rest (a.put o.dst (.slice (some ⟨w.heap.size, 0, none⟩) 1 1)) (w.alloc (.cells (itv y) 38))) : wpList Tryd.prog ops Q (o :: rest) a w := by
  have hf : Tryd.prog.builtSlice 38 1 (#[(0, x)].map fun (i, x) => (i, a.eval x)).toList = some (itv y) := by
    simp only [List.map_toArray, List.map_cons, List.map_nil]
    rw [hx]
    exact built_item y
  exact Great.wpList_buildSliceTo hg 22 38 1 #[(0, x)] ho w.heap.size rfl _ rfl Tryd.underlying22 (itv y) hf h
theorem wpList_oneB {ops : Array Oper} {rest : List Oper} {o : Oper} {a : Act} {w : World} {Q : Exit → Act → World → Prop} (hg : o.guard = none) (x : Operand) (ho : o.op = .buildSlice 24 1 #[(0, x)]) (y : It) (hx : a.eval x = .agg (itv y))
    (h : wpList Tryd.prog ops Q rest (a.put o.dst (.slice (some ⟨w.heap.size, 0, none⟩) 1 1)) (w.alloc (.cells (itv y) 51))) : wpList Tryd.prog ops Q (o :: rest) a w := by
  have hf : Tryd.prog.builtSlice 51 1 (#[(0, x)].map fun (i, x) => (i, a.eval x)).toList = some (itv y) := by
    simp only [List.map_toArray, List.map_cons, List.map_nil]
    rw [hx]
    exact built_doc y
  exact Great.wpList_buildSliceTo hg 24 51 1 #[(0, x)] ho w.heap.size rfl _ rfl Tryd.underlying24 (itv y) hf h
theorem owns_belowF {w w' : World} {base : Nat} {e : TypeId} {size : Nat} {v : Value} {n : Nat} {xs : List Value} (h : w.ownsRow base e size v n xs) (hb : Below w.heap.size w w') : w'.ownsRow base e size v n xs :=
  h.kept (row := none) ⟨hb.os, hb.tape, hb.output, hb.size, fun i hi _ => hb.block i hi⟩ (by cases v.ownBlock <;> simp)
theorem infoIt : (Tryd.prog.info? 38).map (fun i => (i.zero, i.size, i.bytes)) = some (some (.agg (itv zerT)), 15, 120) := by kernel_rfl
theorem infoI8 : (Tryd.prog.info? 51).map (fun i => (i.zero, i.size, i.bytes)) = some (some (.agg (itv zerT)), 15, 120) := by kernel_rfl
/-- A row of items that is owned is items in a slice. -/
theorem own_items {w : World} {base : Nat} {v : Value} {L : List It} (h : w.ownsRow base 38 15 v L.length (flat L)) (hw : ∀ x ∈ L, wfT x) :
    ∃ p cap, v = .slice p L.length cap ∧ Items w p L.length (itAt L) ∧ ∀ b off, p = some ⟨b, off, none⟩ → b < w.heap.size := by
  have hwf : ∀ i, i < L.length → wfT (itAt L i) := fun i hi => by
    unfold itAt; rw [List.getD_eq_getElem?_getD, List.getElem?_eq_getElem hi]; exact hw _ (List.getElem_mem hi)
  rcases h.2 with ⟨rfl, h0⟩ | ⟨g, cap, cur, rfl, hb, hg, hc, hm, _, ht⟩
  · have h0' : L.length = 0 := h0
    rw [h0']
    exact ⟨none, 0, rfl, ⟨.inl rfl, fun i hi => by omega⟩, fun b off e => by cases e⟩
  · refine ⟨_, _, rfl, ⟨.inr ⟨g, 0, rfl, lt_of_block hg, fun i hi j v hv => ?_⟩, hwf⟩, fun b off e => by injection e with e; injection e with e; subst e; exact lt_of_block hg⟩
    have hx : L[i]? = some (itAt L i) := by unfold itAt; rw [List.getD_eq_getElem?_getD, List.getElem?_eq_getElem hi]; rfl
    have := h.cells (g := g) rfl (i * 15 + j) v (flat_get L i _ hx j v hv)
    rw [Addr.add_mid, Nat.zero_add] at this
    rw [show 0 + i * 15 + j = i * 15 + j by omega]
    exact this
/-- How often an item stands, and all of them. -/
def timN (t : Int) (x : It) : Nat := if x.k = 1 then (max (min t 300) 1).toNat else 1
theorem timN_le (t : Int) (x : It) : timN t x ≤ 300 := by unfold timN; split <;> omega
def allK (X : Nat → It) (t : Int) : Nat → List It
  | 0 => []
  | k + 1 => allK X t k ++ List.replicate (timN t (X k)) (X k)
theorem allK_len (X : Nat → It) (t : Int) : ∀ k, (allK X t k).length ≤ 300 * k
  | 0 => by simp [allK]
  | k + 1 => by
    have := allK_len X t k
    have := timN_le t (X k)
    unfold allK
    rw [List.length_append, List.length_replicate]
    omega
theorem rep_snoc (L : List It) (x : It) (j : Nat) : L ++ List.replicate (j + 1) x = (L ++ List.replicate j x) ++ [x] := by
  rw [List.replicate_succ', List.append_assoc]
/-- Rows of different types lie in different blocks. -/
theorem own_apart {w : World} {b b' s s' n n' : Nat} {e e' : TypeId} {v v' : Value} {xs xs' : List Value} (he : e ≠ e') (h : w.ownsRow b e s v n xs) (h' : w.ownsRow b' e' s' v' n' xs') : v.ownBlock = none ∨ v.ownBlock ≠ v'.ownBlock := by
  rcases h.2 with ⟨rfl, _⟩ | ⟨g, cap, cur, rfl, _, hg, _⟩
  · exact .inl rfl
  rcases h'.2 with ⟨rfl, _⟩ | ⟨g', cap', cur', rfl, _, hg', _⟩
  · exact .inr (by simp [Value.ownBlock])
  refine .inr fun h => he ?_
  simp [Value.ownBlock] at h
  subst h
  rw [hg] at hg'
  simp at hg'
  exact hg'.2
theorem own_not {w : World} {b s n g : Nat} {e e' : TypeId} {v : Value} {xs : List Value} {cs : Array Value} {fr : Nat × Nat} (he : e ≠ e') (h : w.ownsRow b e s v n xs) (hg : w.heap[g]? = some (.cells cs e' fr)) : v.ownBlock ≠ some g := fun hq => by
  rcases h.2 with ⟨rfl, _⟩ | ⟨g', cap', cur', rfl, _, hg', _⟩
  · simp [Value.ownBlock] at hq
  · simp [Value.ownBlock] at hq
    subst hq
    rw [hg] at hg'
    simp at hg'
    exact he hg'.2.1.symm
inductive ARel (X : Nat → It) (t : Int) (n : Nat) (w : World) (s6 s7 s13 : Value) (wr : World) : Prop
  | mk (k : Nat) (hk : k ≤ n) (h13 : s13 = .int .i64 k) (h6 : wr.ownsRow w.heap.size 38 15 s6 (allK X t k).length (flat (allK X t k)))
    (h7 : wr.ownsRow w.heap.size 51 15 s7 (allK X t k).length (flat (allK X t k))) (hb : Below w.heap.size w wr) : ARel X t n w s6 s7 s13 wr
inductive CRel (L : List It) (x : It) (m g : Nat) (w : World) (s6 s7 s24 : Value) (wr : World) : Prop
  | mk (j : Nat) (hj : j ≤ m) (h24 : s24 = .int .i64 j) (h6 : wr.ownsRow w.heap.size 38 15 s6 (L ++ List.replicate j x).length (flat (L ++ List.replicate j x)))
    (h7 : wr.ownsRow w.heap.size 51 15 s7 (L ++ List.replicate j x).length (flat (L ++ List.replicate j x))) (hb : Below w.heap.size w wr)
    (hx : wr.heap[g]? = some (.cells (itv x) 38 (0, 0))) (hne : s6.ownBlock ≠ some g) : CRel L x m g w s6 s7 s24 wr

set_option maxRecDepth 100000 in
set_option maxHeartbeats 600000 in
theorem all_any {w : World} {p : Option Addr} {n cap : Nat} {X : Nat → It} (hI : Items w p n X) (hn : n ≤ 30) (t : Int) :
    Calls Tryd.prog 7 #[.slice p n cap, .int .i64 t] w fun e w' => ∃ a b, e = .returned (.tuple #[a, b]) ∧
      w'.ownsRow w.heap.size 38 15 a (allK X t n).length (flat (allK X t n)) ∧
      w'.ownsRow w.heap.size 51 15 b (allK X t n).length (flat (allK X t n)) ∧ Below w.heap.size w w' := by
  obtain ⟨iA, hiA, hA0, hA1, hA2⟩ := info_parts infoIt
  obtain ⟨iB, hiB, hB0, hB1, hB2⟩ := info_parts infoI8
  have HI := hide hI
  have HAL : Hid (∀ k, (allK X t k).length ≤ 300 * k) := allK_len X t
  clear hI
  go_enter Tryd.func7, Tryd.ntmps7
  go_wp2_with fail
  go_loopw [6, 7, 13] (fun s6 s7 s13 wr => ARel X t n w s6 s7 s13 wr) (fun _ _ s13 _ => n - (intOf s13).toNat)
  case atStart => exact ⟨0, Nat.zero_le _, rfl, World.ownsRow_nil _ _ _ _, World.ownsRow_nil _ _ _ _, Below.refl _ _⟩
  case round =>
    obtain ⟨k, hk, rfl, h6, h7, hb⟩ := hrel
    by_cases hlt : k < n
    · have hlt' : (k : Int) < n := by omega
      have hI2 := HI.out.below hb
      rcases hI2.cells with h0 | ⟨b, off, rfl, hbl, hcl⟩
      · omega
      have hrow := hide (hcl k hlt)
      have hX := heap_alloc_new wr (.cells (itv (X k)) 38)
      have c0 : (wr.alloc (.cells (itv (X k)) 38)).cell? ⟨wr.heap.size, 0, none⟩ = some (.int .i64 (X k).k) := by rw [cell_of_row _ _ _ _ _ _ hX]; rfl
      have hb2 := hide (hb.alloc hb.size (.cells (itv (X k)) 38))
      have h62 := hide (h6.alloc (.cells (itv (X k)) 38))
      have h72 := hide (h7.alloc (.cells (itv (X k)) 38))
      have hs6 : Hid (∀ q, _ = some q → q < wr.heap.size) := fun q hq => (h6.lt q hq).2
      have HX := hide hX
      clear hcl hI2 h6 h7 hb hX
      obtain ⟨m, hm⟩ : ∃ m, m = timN t (X k) := ⟨_, rfl⟩
      have hm300 : m ≤ 300 := hm ▸ timN_le t (X k)
      have HM := hide hm
      have hmt : (m : Int) = if (X k).k = 1 then max (min t 300) 1 else 1 := by rw [hm]; unfold timN; split <;> omega
      clear hm
      by_cases hk1 : (X k).k = 1
      · rw [if_pos hk1] at hmt
        replace hmt := hmt.symm
        go_wp2_with (first
          | (refine wpList_load_mid rfl 38 (.tmp 15) rfl b (off + k * 15) rfl (itv (X k)).toList _ (unhide hrow) Tryd.underlying38 rfl info_it ?_)
          | (refine wpList_store_rowTo rfl 38 (.tmp 9) (.tmp 16) rfl rfl _ (itv (X k)) rfl rfl 38 (itv zerT) (heap_alloc_last _ _) info_it rfl (one_it _) ?_; rw [World.setRow_alloc_new]))
        generalize hg0 : wr.heap.size = g0 at *
        generalize hW2 : wr.alloc (.cells (itv (X k)) 38) = w2 at *
        go_loopw [6, 7, 24] (fun s6 s7 s24 wq => CRel (allK X t k) (X k) m g0 w s6 s7 s24 wq) (fun _ _ s24 _ => m - (intOf s24).toNat)
        case atStart => exact ⟨0, Nat.zero_le _, rfl, by simpa using h62.out, by simpa using h72.out, hb2.out, HX.out, fun h => by have := hs6.out _ h; omega⟩
        case round =>
          obtain ⟨j, hj, rfl, g6, g7, gb, gx, gne⟩ := hrel
          have hl1 : (allK X t k ++ List.replicate j (X k)).length ≤ 9300 := by have := HAL.out k; rw [List.length_append, List.length_replicate]; omega
          have GX := hide gx
          have G7 := hide g7
          have G6 := hide g6
          have GB := hide gb
          clear gx g6 g7 gb
          by_cases hjl : j < m
          · have hjl' : (j : Int) < m := by omega
            have HLL := hide (rep_snoc (allK X t k) (X k) j)
            generalize allK X t k ++ List.replicate j (X k) = LL at *
            have gin := hide (range_rowF GX.out (itv (X k)).toList rfl)
            go_wp2_with (first
              | (at_builtin; fail)
              | (refine wpList_load_mid rfl 38 (.tmp 9) rfl g0 0 rfl (itv (X k)).toList _ (unhide gin) Tryd.underlying38 rfl info_it ?_; refine wpList_oneA rfl (.tmp 27) rfl (X k) rfl ?_; refine wpList_append_own_at _ rfl (.tmp 26) (.tmp 28) 22 rfl w.heap.size 38 iA (.agg (itv zerT)) 15 120 Tryd.underlying22 hiA hA0 hA1 hA2 rfl (by decide) _ _ _ rfl (G6.out.alloc _) ⟨_, 0, none⟩ 1 1 (itv (X k)).toList rfl rfl ?a1 ?a2 ?a3 ?a4 ?a5 ?_))
            case a1 =>
              intro q u hq
              rw [Addr.add_mid, Nat.zero_add, World.cell?_alloc_mark _ _ _ (0, 0) q, ← Array.getElem?_toList]
              exact hq
            case a2 => exact fun u hu => flat_one (X k) u (by simpa [flat] using hu)
            case a3 => unfold maxLen; omega
            case a4 => omega
            case a5 => have := GB.out.size; simp; omega
            intro v6 w6 ho6 hg6 _ hob6
            have hg0 : g0 < wr.heap.size := lt_of_block GX.out
            have HX6 : w6.heap[g0]? = some (.cells (itv (X k)) 38 (0, 0)) := by
              rw [hg6.block g0 (by simp; omega) (fun e => gne e.symm), heap_alloc_old wr _ hg0]
              exact GX.out
            have hne6 : v6.ownBlock ≠ some g0 := by
              rcases hob6 with h | h
              · rw [h]; exact gne
              · rw [h]; intro e; simp at e; omega
            have h76 := (G7.out.alloc (.cells (itv (X k)) 38)).kept hg6 (own_apart (by decide) (G7.out.alloc (.cells (itv (X k)) 38)) (G6.out.alloc (.cells (itv (X k)) 38)))
            have hB6 := (GB.out.alloc GB.out.size (.cells (itv (X k)) 38)).grown hg6 (by have := GB.out.size; simp; omega) (fun q hq => (G6.out.lt q hq).1)
            have h66 := hide ho6
            have gin6 := hide (range_rowF HX6 (itv (X k)).toList rfl)
            have HHX6 := hide HX6
            have H76 := hide h76
            have HB6 := hide hB6
            clear hg6 hob6 ho6 HX6 h76 hB6 GX G6 G7 GB gin
            go_wp2_with (refine wpList_load_mid rfl 38 (.tmp 9) rfl g0 0 rfl (itv (X k)).toList _ (unhide gin6) Tryd.underlying38 rfl info_it ?_)
            refine (of8_any (X k) w6).mono ?_
            rintro e w7 ⟨rfl, hb7⟩
            have hB7 := HB6.out.trans (hb7.mono HB6.out.size)
            have h77 := hide (owns_belowF H76.out hb7)
            have h67 := hide (owns_belowF h66.out hb7)
            have HX7 := hide ((hb7.block g0 (lt_of_block HHX6.out)).trans HHX6.out)
            have HB7 := hide hB7
            clear hb7 hB7 h66 H76 HHX6 HB6 gin6
            go_wp2_with (first
              | (refine wpList_oneB rfl (.tmp 32) rfl (X k) rfl ?_; refine wpList_append_own_at _ rfl (.tmp 30) (.tmp 33) 24 rfl w.heap.size 51 iB (.agg (itv zerT)) 15 120 Tryd.underlying24 hiB hB0 hB1 hB2 rfl (by decide) _ _ _ rfl (h77.out.alloc _) ⟨_, 0, none⟩ 1 1 (itv (X k)).toList rfl rfl ?b1 ?b2 ?b3 ?b4 ?b5 ?_))
            case b1 =>
              intro q u hq
              rw [Addr.add_mid, Nat.zero_add, World.cell?_alloc_mark _ _ _ (0, 0) q, ← Array.getElem?_toList]
              exact hq
            case b2 => exact fun u hu => flat_one (X k) u (by simpa [flat] using hu)
            case b3 => unfold maxLen; omega
            case b4 => omega
            case b5 => have := HB7.out.size; simp; omega
            intro v8 w8 ho8 hg8 _ _
            have HX8 : w8.heap[g0]? = some (.cells (itv (X k)) 38 (0, 0)) := by
              have hlt7 := lt_of_block HX7.out
              rw [hg8.block g0 (by simp; omega) (fun e => own_not (by decide) h77.out HX7.out e.symm), heap_alloc_old w7 _ hlt7]
              exact HX7.out
            have h68 := (h67.out.alloc (.cells (itv (X k)) 51)).kept hg8 (own_apart (by decide) (h67.out.alloc (.cells (itv (X k)) 51)) (h77.out.alloc (.cells (itv (X k)) 51)))
            have hB8 := hide ((HB7.out.alloc HB7.out.size (.cells (itv (X k)) 51)).grown hg8 (by have := HB7.out.size; simp; omega) (fun q hq => (h77.out.lt q hq).1))
            have H68 := hide h68
            have H78 := hide ho8
            have HHX8 := hide HX8
            have hne6' := hide hne6
            clear hg8 ho8 HX8 h68 h67 h77 HX7 HB7 hne6
            go_wp2_with fail
            have e1 : flat [X k] = (itv (X k)).toList := by simp [flat]
            refine ⟨.mk (j + 1) (by omega) (by go_num) ?_ ?_ hB8.out HHX8.out hne6'.out, by simp [intOf]; omega⟩
            · rw [HLL.out, flat_app, e1, List.length_append]; exact H68.out
            · rw [HLL.out, flat_app, e1, List.length_append]; exact H78.out
          · obtain rfl : j = m := by omega
            have e2 : allK X t (k + 1) = allK X t k ++ List.replicate j (X k) := by rw [HM.out]; rfl
            rw [← e2] at G6 G7
            go_wp2_with fail
            exact ⟨.mk (k + 1) (by omega) (by go_num) G6.out G7.out GB.out, by simp [intOf]; omega⟩
      · rw [if_neg hk1] at hmt
        have hkf : ((X k).k == 1) = false := by simpa using hk1
        go_wp2_with (first
          | (refine wpList_load_mid rfl 38 (.tmp 15) rfl b (off + k * 15) rfl (itv (X k)).toList _ (unhide hrow) Tryd.underlying38 rfl info_it ?_)
          | (refine wpList_store_rowTo rfl 38 (.tmp 9) (.tmp 16) rfl rfl _ (itv (X k)) rfl rfl 38 (itv zerT) (heap_alloc_last _ _) info_it rfl (one_it _) ?_; rw [World.setRow_alloc_new]))
        generalize hg0 : wr.heap.size = g0 at *
        generalize hW2 : wr.alloc (.cells (itv (X k)) 38) = w2 at *
        go_loopw [6, 7, 24] (fun s6 s7 s24 wq => CRel (allK X t k) (X k) m g0 w s6 s7 s24 wq) (fun _ _ s24 _ => m - (intOf s24).toNat)
        case atStart => exact ⟨0, Nat.zero_le _, rfl, by simpa using h62.out, by simpa using h72.out, hb2.out, HX.out, fun h => by have := hs6.out _ h; omega⟩
        case round =>
          obtain ⟨j, hj, rfl, g6, g7, gb, gx, gne⟩ := hrel
          have hl1 : (allK X t k ++ List.replicate j (X k)).length ≤ 9300 := by have := HAL.out k; rw [List.length_append, List.length_replicate]; omega
          have GX := hide gx
          have G7 := hide g7
          have G6 := hide g6
          have GB := hide gb
          clear gx g6 g7 gb
          by_cases hjl : j < m
          · have hjl' : (j : Int) < m := by omega
            have HLL := hide (rep_snoc (allK X t k) (X k) j)
            generalize allK X t k ++ List.replicate j (X k) = LL at *
            have gin := hide (range_rowF GX.out (itv (X k)).toList rfl)
            go_wp2_with (first
              | (at_builtin; fail)
              | (refine wpList_load_mid rfl 38 (.tmp 9) rfl g0 0 rfl (itv (X k)).toList _ (unhide gin) Tryd.underlying38 rfl info_it ?_; refine wpList_oneA rfl (.tmp 27) rfl (X k) rfl ?_; refine wpList_append_own_at _ rfl (.tmp 26) (.tmp 28) 22 rfl w.heap.size 38 iA (.agg (itv zerT)) 15 120 Tryd.underlying22 hiA hA0 hA1 hA2 rfl (by decide) _ _ _ rfl (G6.out.alloc _) ⟨_, 0, none⟩ 1 1 (itv (X k)).toList rfl rfl ?a1 ?a2 ?a3 ?a4 ?a5 ?_))
            case a1 =>
              intro q u hq
              rw [Addr.add_mid, Nat.zero_add, World.cell?_alloc_mark _ _ _ (0, 0) q, ← Array.getElem?_toList]
              exact hq
            case a2 => exact fun u hu => flat_one (X k) u (by simpa [flat] using hu)
            case a3 => unfold maxLen; omega
            case a4 => omega
            case a5 => have := GB.out.size; simp; omega
            intro v6 w6 ho6 hg6 _ hob6
            have hg0 : g0 < wr.heap.size := lt_of_block GX.out
            have HX6 : w6.heap[g0]? = some (.cells (itv (X k)) 38 (0, 0)) := by
              rw [hg6.block g0 (by simp; omega) (fun e => gne e.symm), heap_alloc_old wr _ hg0]
              exact GX.out
            have hne6 : v6.ownBlock ≠ some g0 := by
              rcases hob6 with h | h
              · rw [h]; exact gne
              · rw [h]; intro e; simp at e; omega
            have h76 := (G7.out.alloc (.cells (itv (X k)) 38)).kept hg6 (own_apart (by decide) (G7.out.alloc (.cells (itv (X k)) 38)) (G6.out.alloc (.cells (itv (X k)) 38)))
            have hB6 := (GB.out.alloc GB.out.size (.cells (itv (X k)) 38)).grown hg6 (by have := GB.out.size; simp; omega) (fun q hq => (G6.out.lt q hq).1)
            have h66 := hide ho6
            have gin6 := hide (range_rowF HX6 (itv (X k)).toList rfl)
            have HHX6 := hide HX6
            have H76 := hide h76
            have HB6 := hide hB6
            clear hg6 hob6 ho6 HX6 h76 hB6 GX G6 G7 GB gin
            go_wp2_with (refine wpList_load_mid rfl 38 (.tmp 9) rfl g0 0 rfl (itv (X k)).toList _ (unhide gin6) Tryd.underlying38 rfl info_it ?_)
            refine (of8_any (X k) w6).mono ?_
            rintro e w7 ⟨rfl, hb7⟩
            have hB7 := HB6.out.trans (hb7.mono HB6.out.size)
            have h77 := hide (owns_belowF H76.out hb7)
            have h67 := hide (owns_belowF h66.out hb7)
            have HX7 := hide ((hb7.block g0 (lt_of_block HHX6.out)).trans HHX6.out)
            have HB7 := hide hB7
            clear hb7 hB7 h66 H76 HHX6 HB6 gin6
            go_wp2_with (first
              | (refine wpList_oneB rfl (.tmp 32) rfl (X k) rfl ?_; refine wpList_append_own_at _ rfl (.tmp 30) (.tmp 33) 24 rfl w.heap.size 51 iB (.agg (itv zerT)) 15 120 Tryd.underlying24 hiB hB0 hB1 hB2 rfl (by decide) _ _ _ rfl (h77.out.alloc _) ⟨_, 0, none⟩ 1 1 (itv (X k)).toList rfl rfl ?b1 ?b2 ?b3 ?b4 ?b5 ?_))
            case b1 =>
              intro q u hq
              rw [Addr.add_mid, Nat.zero_add, World.cell?_alloc_mark _ _ _ (0, 0) q, ← Array.getElem?_toList]
              exact hq
            case b2 => exact fun u hu => flat_one (X k) u (by simpa [flat] using hu)
            case b3 => unfold maxLen; omega
            case b4 => omega
            case b5 => have := HB7.out.size; simp; omega
            intro v8 w8 ho8 hg8 _ _
            have HX8 : w8.heap[g0]? = some (.cells (itv (X k)) 38 (0, 0)) := by
              have hlt7 := lt_of_block HX7.out
              rw [hg8.block g0 (by simp; omega) (fun e => own_not (by decide) h77.out HX7.out e.symm), heap_alloc_old w7 _ hlt7]
              exact HX7.out
            have h68 := (h67.out.alloc (.cells (itv (X k)) 51)).kept hg8 (own_apart (by decide) (h67.out.alloc (.cells (itv (X k)) 51)) (h77.out.alloc (.cells (itv (X k)) 51)))
            have hB8 := hide ((HB7.out.alloc HB7.out.size (.cells (itv (X k)) 51)).grown hg8 (by have := HB7.out.size; simp; omega) (fun q hq => (h77.out.lt q hq).1))
            have H68 := hide h68
            have H78 := hide ho8
            have HHX8 := hide HX8
            have hne6' := hide hne6
            clear hg8 ho8 HX8 h68 h67 h77 HX7 HB7 hne6
            go_wp2_with fail
            have e1 : flat [X k] = (itv (X k)).toList := by simp [flat]
            refine ⟨.mk (j + 1) (by omega) (by go_num) ?_ ?_ hB8.out HHX8.out hne6'.out, by simp [intOf]; omega⟩
            · rw [HLL.out, flat_app, e1, List.length_append]; exact H68.out
            · rw [HLL.out, flat_app, e1, List.length_append]; exact H78.out
          · obtain rfl : j = m := by omega
            have e2 : allK X t (k + 1) = allK X t k ++ List.replicate j (X k) := by rw [HM.out]; rfl
            rw [← e2] at G6 G7
            go_wp2_with fail
            exact ⟨.mk (k + 1) (by omega) (by go_num) G6.out G7.out GB.out, by simp [intOf]; omega⟩
    · obtain rfl : k = n := by omega
      have h6' := hide h6
      have h7' := hide h7
      have hb' := hide hb
      clear h6 h7 hb
      go_wp2_with fail
      go_ret2
      exact ⟨_, _, rfl, h6'.out, h7'.out, hb'.out⟩
end Go.Proofs.YtegefbndpkbooaaDoor.Asm

