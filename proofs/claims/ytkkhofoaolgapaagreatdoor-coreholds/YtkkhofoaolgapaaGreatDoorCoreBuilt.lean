/- A machine that is built of instructions: the statements' own 'built'. -/
import Derived.Test.YtkkhofoaolgapaaGreatDoorCoreOwn
import Derived.Test.YtkkhofoaolgapaaGreatDoorCodeBytesA
import Derived.Laws.OwnMore
set_option linter.unusedVariables false
namespace Go.Proofs.YtkkhofoaolgapaaGreatDoor.Core
open Go.RowKit Go.Proofs.YtkkhofoaolgapaaGreatDoor.Mem Go.Proofs.YtkkhofoaolgapaaGreatDoor.Alu

theorem byt_le (W : Int) (b : Bool) : (Code.byt W b).length ≤ 4 := by unfold Code.byt; split <;> simp
/-- An instruction's bytes, as far as it may be. -/
def insB (i : Ins) : List Int := if i.right then Code.byt (Code.wd i.f i.rd i.rn i.rm i.ra i.im i.kd i.bs i.st i.cd i.rg) (Inst.wdF i.f) else []
def prgB (I : Nat → Ins) : Nat → List Int
  | 0 => []
  | k + 1 => prgB I k ++ insB (I k)
theorem insB_len (i : Ins) : (insB i).length ≤ 4 := by
  unfold insB; split
  · exact byt_le _ _
  · exact Nat.zero_le _
theorem prgB_len (I : Nat → Ins) : ∀ k, (prgB I k).length ≤ 4 * k
  | 0 => Nat.zero_le _
  | k + 1 => by
    have h1 := prgB_len I k
    have h2 := insB_len (I k)
    show (prgB I k ++ insB (I k)).length ≤ _
    rw [List.length_append]; omega
theorem byt_range (W : Int) (b : Bool) : ∀ x ∈ Code.byt W b, 0 ≤ x ∧ x < 256 := by
  intro x hx
  unfold Code.byt at hx
  split at hx <;> simp at hx <;> omega
theorem prgB_range (I : Nat → Ins) : ∀ k, ∀ x ∈ prgB I k, 0 ≤ x ∧ x < 256
  | 0, x, h => by simp [prgB] at h
  | k + 1, x, h => by
    rcases List.mem_append.1 (show x ∈ prgB I k ++ insB (I k) from h) with h | h
    · exact prgB_range I k x h
    · unfold insB at h
      split at h
      · exact byt_range _ _ x h
      · simp at h
/-- Flash: bytes by their places. -/
def flaF (I : Nat → Ins) (nl : Nat) : Nat → Int := fun k => (prgB I nl).getD k 0
theorem flaF_bd (I : Nat → Ins) (nl : Nat) (k : Nat) : 0 ≤ flaF I nl k ∧ flaF I nl k < 256 := by
  unfold flaF
  by_cases h : k < (prgB I nl).length
  · rw [List.getD_eq_getElem?_getD, List.getElem?_eq_getElem h]; exact prgB_range I nl _ (List.getElem_mem h)
  · rw [List.getD_eq_getElem?_getD, List.getElem?_eq_none (by omega)]; decide

/-- A slice of instructions. -/
structure Its (w : World) (p : Option Addr) (nl : Nat) (I : Nat → Ins) : Prop where
  cells : nl = 0 ∨ ∃ b off, p = some ⟨b, off, none⟩ ∧ b < w.heap.size ∧ ∀ i, i < nl → w.rangeAt b (off + i * 11) (inv (I i)).toList
  rg : ∀ i, i < nl → -9223372036854775808 ≤ (I i).rg ∧ (I i).rg ≤ 9223372036854775807
theorem Its.below {w w' : World} {p : Option Addr} {nl : Nat} {I : Nat → Ins} (h : Its w p nl I) (hb : Below w.heap.size w w') : Its w' p nl I := by
  refine ⟨?_, h.rg⟩
  rcases h.cells with h | ⟨b, off, rfl, hlt, hc⟩
  · exact .inl h
  · exact .inr ⟨b, off, rfl, Nat.lt_of_lt_of_le hlt hb.size, fun i hi => range_below (hc i hi) hb⟩

/-- The document's machine, new. -/
def refC (fl : Value) (wait line : Int) : Array Value := #[fl, .slice none 0 0, .int .i64 wait, .int .u32 0, .int .u32 0, .int .u32 0, .int .u32 0, .int .u32 0, .int .u32 0, .int .u32 0, .int .u32 0, .int .u32 0, .int .u32 0, .int .u32 0, .int .u32 0, .int .u32 0, .int .u32 0, .int .u32 0, .int .u32 0, .int .u32 0, .int .u32 0, .int .u32 0, .int .u32 0, .int .i64 line, .int .i64 0, .int .i64 0, .int .i64 0]
theorem one_ref (p : Option Addr) (n c : Nat) (wait line : Int) : (refC (.slice p n c) wait line).all (·.oneCell') = true := by simp [refC, Value.oneCell']
theorem info_ref : (Tryz.prog.info? 35).map (·.size) = some 27 := by kernel_rfl

set_option maxRecDepth 100000 in
theorem refNew_any (p : Option Addr) (n c : Nat) (wait : Int) (w : World) :
    Calls Tryz.prog 30 #[.slice p n c, .int .i64 wait] w fun e w' => e = .returned (.agg (refC (.slice p n c) wait (-1))) ∧ Below w.heap.size w w' := by
  have HN := hide (show (w.alloc (.cells #[.slice none 0 0, .slice none 0 0, .int .i64 0, .int .u32 0, .int .u32 0, .int .u32 0, .int .u32 0, .int .u32 0, .int .u32 0, .int .u32 0, .int .u32 0, .int .u32 0, .int .u32 0, .int .u32 0, .int .u32 0, .int .u32 0, .int .u32 0, .int .u32 0, .int .u32 0, .int .u32 0, .int .u32 0, .int .u32 0, .int .u32 0, .int .i64 0, .int .i64 0, .int .i64 0, .int .i64 0] 35)).heap[w.heap.size]? = some (.cells (refC (.slice none 0 0) 0 0) 35 (0, 0)) from heap_alloc_new _ _)
  have HB := hide (setRow_below (b := w.heap.size) ((Below.refl w.heap.size w).alloc (Nat.le_refl _) (.cells #[.slice none 0 0, .slice none 0 0, .int .i64 0, .int .u32 0, .int .u32 0, .int .u32 0, .int .u32 0, .int .u32 0, .int .u32 0, .int .u32 0, .int .u32 0, .int .u32 0, .int .u32 0, .int .u32 0, .int .u32 0, .int .u32 0, .int .u32 0, .int .u32 0, .int .u32 0, .int .u32 0, .int .u32 0, .int .u32 0, .int .u32 0, .int .i64 0, .int .i64 0, .int .i64 0, .int .i64 0] 35)) (Nat.le_refl _) (refC (.slice p n c) wait (-1)))
  have HL := hide (setRow_heap _ _ _ (refC (.slice p n c) wait (-1)) _ _ HN.out)
  go_enter Tryz.func30, Tryz.ntmps30
  go_wp2_with (refine wpList_store_rowTo rfl 35 (.tmp 4) (.tmp 8) rfl rfl _ (refC (.slice p n c) wait (-1)) rfl rfl 35 (refC (.slice none 0 0) 0 0) (unhide HN) info_ref rfl (one_ref _ _ _ _ _) ?_)
  refine bodyPost_ret (v := .agg (refC (.slice p n c) wait (-1))) ?_ rfl ⟨rfl, HB.out⟩
  exact results_cell_row (fn := Tryz.f30) rfl _ _ w.heap.size 35 _ (0, 0) _ rfl HL.out Tryz.underlying35 rfl info_ref

theorem BytesY (i : Ins) (hr : i.right = true) (g : -9223372036854775808 ≤ i.rg ∧ i.rg ≤ 9223372036854775807) (w : World) (hL : Code.Laid w) :
    Calls Tryz.prog 27 #[.agg (inv i)] w fun e w' => ∃ v, e = .returned (.tuple #[v, .int .i64 0]) ∧ w'.ownsRow w.heap.size 5 1 v (insB i).length (Code.u8s (insB i)) ∧ Below w.heap.size w w' := by
  have e : insB i = Code.byt (Code.wd i.f i.rd i.rn i.rm i.ra i.im i.kd i.bs i.st i.cd i.rg) (Inst.wdF i.f) := by unfold insB; rw [if_pos hr]
  rw [e]
  exact Code.Bytes_yes i.f i.rd i.rn i.rm i.ra i.im i.kd i.bs i.st i.cd i.rg hr g.1 g.2 w hL
theorem BytesN (i : Ins) (hr : i.right = false) (w : World) (hL : Code.Laid w) :
    Calls Tryz.prog 27 #[.agg (inv i)] w fun e w' => e = .returned (.tuple #[.slice none 0 0, .int .i64 10]) ∧ Below w.heap.size w w' :=
  Code.Bytes_no i.f i.rd i.rn i.rm i.ra i.im i.kd i.bs i.st i.cd i.rg hr w hL
theorem owns_below {w w' : World} {base : Nat} {e : TypeId} {size : Nat} {v : Value} {n : Nat} {xs : List Value} (h : w.ownsRow base e size v n xs) (hb : Below w.heap.size w w') : w'.ownsRow base e size v n xs :=
  h.kept (row := none) ⟨hb.os, hb.tape, hb.output, hb.size, fun i hi _ => hb.block i hi⟩ (by cases v.ownBlock <;> simp)
theorem u8s_one' (l : List Int) : ∀ u ∈ Code.u8s l, u.oneCell' = true := by
  intro u hu
  simp only [Code.u8s, List.mem_map] at hu
  obtain ⟨_, _, rfl⟩ := hu
  rfl
theorem add_off' (g j : Nat) : (⟨g, 0, none⟩ : Addr).add j = ⟨g, j, none⟩ := by unfold Addr.add; split <;> simp_all
theorem insB_pos {i : Ins} (hr : i.right = true) : 0 < (insB i).length := by
  unfold insB; rw [if_pos hr]; unfold Code.byt; split <;> simp

/-- What built answers. -/
def BuiltPost (I : Nat → Ins) (nl : Nat) (wait : Int) (w : World) (e : Ending) (w' : World) : Prop :=
  (¬ (0 ≤ wait ∧ wait ≤ 7) ∧ e = .returned (.tuple #[.pointer none, .agg (refC (.slice none 0 0) 0 0)]))
  ∨ ((0 ≤ wait ∧ wait ≤ 7) ∧ ∃ C m F R q fc, e = .returned (.tuple #[.pointer (some ⟨C, 0, none⟩), .agg (refC (.slice q (prgB I nl).length fc) wait (-1))]) ∧ Mx w' C (newM m wait) ∧ Is w' m F R (prgB I nl).length (flaF I nl) (fun _ => 0)
    ∧ (w.heap.size ≤ C ∧ w.heap.size ≤ m ∧ w.heap.size ≤ F ∧ w.heap.size ≤ R) ∧ Sl w' .u8 q (prgB I nl).length (flaF I nl))

theorem own_sl {w : World} {base : Nat} {v : Value} {l : List Int} (h : w.ownsRow base 5 1 v l.length (Code.u8s l)) : ∃ q c, v = .slice q l.length c ∧ Sl w .u8 q l.length (fun k => l.getD k 0) := by
  by_cases h0 : l = []
  · subst h0
    rcases h.2 with ⟨rfl, _⟩ | ⟨g, cap, cur, rfl, _⟩
    · exact ⟨none, 0, rfl, .inl rfl⟩
    · exact ⟨_, cap, rfl, .inl rfl⟩
  · obtain ⟨g, cap, rfl, hb, hg, _, _, hc⟩ := Code.own_slice h (by cases l; exact absurd rfl h0; simp)
    refine ⟨_, cap, rfl, .inr ⟨g, 0, rfl, hg, fun i hi => ?_⟩⟩
    rw [Nat.zero_add]
    refine hc i _ ?_
    simp [Code.u8s, List.getD, hi]

theorem own_sl' {w : World} {base : Nat} {q : Option Addr} {c : Nat} {l : List Int} (h : w.ownsRow base 5 1 (.slice q l.length c) l.length (Code.u8s l)) : Sl w .u8 q l.length (fun k => l.getD k 0) := by
  obtain ⟨q', c', e, h'⟩ := own_sl h
  injection e with e1
  rw [e1]; exact h'
theorem setRow_off (w : World) (b : Nat) (cs : Array Value) : Off [b] w (w.setRow b cs) := ⟨rfl, rfl, rfl, by simp, fun k hk hn => setRow_other w b k cs (by simpa using hn)⟩
theorem owns_off {w w' : World} {base S : Nat} {e : TypeId} {size : Nat} {v : Value} {n : Nat} {xs : List Value} (h : w.ownsRow base e size v n xs) (ho : Off [S] w w') (hS : S < base) : w'.ownsRow base e size v n xs :=
  h.kept (row := some S) ⟨ho.os, ho.tape, ho.output, ho.size, fun i hi hn => ho.block i hi (by simp; intro e; exact hn (by rw [e]))⟩ (by
    cases hv : v.ownBlock with
    | none => exact .inl rfl
    | some g => right; intro e; have := (h.lt g hv).1; injection e with e; omega)

set_option maxRecDepth 100000 in
set_option maxHeartbeats 4000000 in
theorem built_any (p : Option Addr) (nl cap : Nat) (I : Nat → Ins) (wait : Int) (w : World) (hI : Its w p nl I) (hnl : nl ≤ 40) (hL : Code.Laid w) :
    Calls Tryz.prog 8 #[.slice p nl cap, .slice none 0 0, .int .i64 wait] w fun e w' => Below w.heap.size w w' ∧ BuiltPost I nl wait w e w' := by
  have hnl' : (nl : Int) ≤ 40 := by omega
  obtain ⟨i0, hi, hz0, hz1, hz2⟩ := info_parts infoU8
  have HN := heap_alloc_new w (.cells #[.slice none 0 0, .slice none 0 0, .int .i64 0, .int .u32 0, .int .u32 0, .int .u32 0, .int .u32 0, .int .u32 0, .int .u32 0, .int .u32 0, .int .u32 0, .int .u32 0, .int .u32 0, .int .u32 0, .int .u32 0, .int .u32 0, .int .u32 0, .int .u32 0, .int .u32 0, .int .u32 0, .int .u32 0, .int .u32 0, .int .u32 0, .int .i64 0, .int .i64 0, .int .i64 0, .int .i64 0] 35)
  have HB := (Below.refl w.heap.size w).alloc (Nat.le_refl _) (.cells #[.slice none 0 0, .slice none 0 0, .int .i64 0, .int .u32 0, .int .u32 0, .int .u32 0, .int .u32 0, .int .u32 0, .int .u32 0, .int .u32 0, .int .u32 0, .int .u32 0, .int .u32 0, .int .u32 0, .int .u32 0, .int .u32 0, .int .u32 0, .int .u32 0, .int .u32 0, .int .u32 0, .int .u32 0, .int .u32 0, .int .u32 0, .int .i64 0, .int .i64 0, .int .i64 0, .int .i64 0] 35)
  have HS : (w.alloc (.cells #[.slice none 0 0, .slice none 0 0, .int .i64 0, .int .u32 0, .int .u32 0, .int .u32 0, .int .u32 0, .int .u32 0, .int .u32 0, .int .u32 0, .int .u32 0, .int .u32 0, .int .u32 0, .int .u32 0, .int .u32 0, .int .u32 0, .int .u32 0, .int .u32 0, .int .u32 0, .int .u32 0, .int .u32 0, .int .u32 0, .int .u32 0, .int .i64 0, .int .i64 0, .int .i64 0, .int .i64 0] 35)).heap.size = w.heap.size + 1 := by simp
  replace HN := hide HN
  replace HB := hide HB
  go_enter Tryz.func8, Tryz.ntmps8
  go_wp2_with fail
  generalize hS : w.heap.size = S at *
  generalize w.alloc (.cells #[.slice none 0 0, .slice none 0 0, .int .i64 0, .int .u32 0, .int .u32 0, .int .u32 0, .int .u32 0, .int .u32 0, .int .u32 0, .int .u32 0, .int .u32 0, .int .u32 0, .int .u32 0, .int .u32 0, .int .u32 0, .int .u32 0, .int .u32 0, .int .u32 0, .int .u32 0, .int .u32 0, .int .u32 0, .int .u32 0, .int .u32 0, .int .i64 0, .int .i64 0, .int .i64 0, .int .i64 0] 35) = w1 at *
  go_loopw [8, 19] (fun s8 s19 wr => ∃ k : Nat, k ≤ nl ∧ s19 = .int .i64 k ∧ wr.ownsRow w1.heap.size 5 1 s8 (prgB I k).length (Code.u8s (prgB I k)) ∧ Below w1.heap.size w1 wr) (fun _ s19 _ => nl - (intOf s19).toNat)
  case atStart => exact ⟨0, Nat.zero_le _, rfl, World.ownsRow_nil _ _ _ _, Below.refl _ _⟩
  case round =>
    obtain ⟨k, hk, rfl, ho, hb⟩ := hrel
    have hbw : Below S w wr := HB.out.trans (hb.mono (by omega))
    by_cases hlt : k < nl
    · have hlt' : (k : Int) < nl := by omega
      rcases hI.cells with h0 | ⟨b, off, rfl, hbl, hcl⟩
      · omega
      have hrow := hide (range_below (hcl k hlt) (by rw [hS]; exact hbw))
      have hrg := hI.rg k hlt
      have hB2 := (Below.refl wr.heap.size wr).alloc (Nat.le_refl _) (.cells (inv (I k)) 52)
      have hL2 : Code.Laid (wr.alloc (.cells (inv (I k)) 52)) := hL.below (by rw [hS]; exact hbw.alloc (by have := hb.size; omega) _)
      have ho2 := ho.alloc (.cells (inv (I k)) 52)
      have hb2 := hb.alloc hb.size (.cells (inv (I k)) 52)
      replace hB2 := hide hB2
      cases hr : (I k).right
      · have e2 : prgB I (k + 1) = prgB I k := by show prgB I k ++ insB (I k) = _; unfold insB; rw [hr]; simp
        go_wp2_with (first
          | (refine wpList_load_mid rfl 52 (.tmp 21) rfl b (off + k * 11) rfl (inv (I k)).toList _ (unhide hrow) Tryz.underlying52 rfl info_in ?_)
          | (refine wpList_store_rowTo rfl 52 (.tmp 10) (.tmp 22) rfl rfl _ (inv (I k)) rfl rfl 52 (inv zerI) (heap_alloc_last _ _) info_in rfl (one_in _) ?_; rw [World.setRow_alloc_new])
          | (refine wpList_load_row rfl 52 (.tmp 10) rfl _ rfl 52 _ (0, 0) _ (heap_alloc_last _ _) Tryz.underlying52 rfl info_in ?_))
        refine (BytesN (I k) hr _ hL2).mono ?_
        rintro e w3 ⟨rfl, hb3⟩
        have ho3 := owns_below ho2 hb3
        have hb4 := hb2.trans (hb3.mono hb2.size)
        clear hb3
        go_wp2_with fail
        go_roundw
        case rel => exact ⟨k + 1, by omega, by go_num, by rw [e2]; exact ho3, hb4⟩
        case measure => simp [intOf]; omega
      · have e2 : prgB I (k + 1) = prgB I k ++ insB (I k) := rfl
        have hpl := prgB_len I k
        have hil := insB_len (I k)
        go_wp2_with (first
          | (refine wpList_load_mid rfl 52 (.tmp 21) rfl b (off + k * 11) rfl (inv (I k)).toList _ (unhide hrow) Tryz.underlying52 rfl info_in ?_)
          | (refine wpList_store_rowTo rfl 52 (.tmp 10) (.tmp 22) rfl rfl _ (inv (I k)) rfl rfl 52 (inv zerI) (heap_alloc_last _ _) info_in rfl (one_in _) ?_; rw [World.setRow_alloc_new])
          | (refine wpList_load_row rfl 52 (.tmp 10) rfl _ rfl 52 _ (0, 0) _ (heap_alloc_last _ _) Tryz.underlying52 rfl info_in ?_))
        refine (BytesY (I k) hr hrg _ hL2).mono ?_
        rintro e w3 ⟨v3, rfl, hov, hb3⟩
        obtain ⟨g, gc, rfl, hg0, hg1, hgc, hgm, hgcell⟩ := Code.own_slice hov (insB_pos hr)
        have ho3 := owns_below ho2 hb3
        have hb4 := hb2.trans (hb3.mono hb2.size)
        clear hb3
        go_wp2_with (at_builtin; refine wpList_append_own _ rfl (.tmp 30) (.tmp 31) 23 rfl w1.heap.size 5 i0 (.int .u8 0) 1 1 Tryz.underlying23 hi hz0 hz1 hz2 rfl (by decide) _ _ _ rfl ho3 ⟨g, 0, none⟩ (insB (I k)).length _ (Code.u8s (insB (I k))) rfl ?k1 ?k2 ?k3 ?k4 ?k5 hb4.size ?_)
        case k1 => simp [Code.u8s]
        case k2 => intro j u hj; rw [add_off']; exact hgcell j u hj
        case k3 => exact u8s_one' _
        case k4 => unfold maxLen; omega
        case k5 => omega
        intro v5 w5 ho5 hg5 _
        have hb5 : Below w1.heap.size w1 w5 := hb4.grown hg5 hb4.size (fun j hj => (ho3.lt j hj).1)
        go_wp2_with fail
        go_roundw
        case rel => exact ⟨k + 1, by omega, by go_num, by rw [e2, List.length_append, HS]; simpa [Code.u8s] using ho5, hb5⟩
        case measure => simp [intOf]; omega
    · obtain rfl : k = nl := by omega
      have hpl := prgB_len I k
      obtain ⟨q, c, rfl, hsl⟩ := own_sl ho
      go_wp2_with (at_builtin; refine wpList_append_own_none rfl (.tmp 34) (.tmp 35) 23 rfl w1.heap.size 5 i0 1 Tryz.underlying23 hi _ _ _ rfl ho rfl ?_)
      refine (New_ok q (prgB I k).length c (flaF I k) _ hsl (by omega)).mono ?_
      rintro e w2 ⟨m, F, R, rfl, hIs, hle, hb2⟩
      have hb3 := hb.trans (hb2.mono hb.size)
      by_cases hw : 0 ≤ wait ∧ wait ≤ 7
      · go_wp2_with fail
        refine (NewC_yes m wait hw.1 hw.2 _).mono ?_
        rintro e w3 ⟨rfl, rfl⟩
        have hMx := heap_alloc_new w2 (.cells (mcc (newM m wait)) 81)
        have hIs3 := hIs.alloc (.cells (mcc (newM m wait)) 81)
        have hb4 := hb3.alloc hb3.size (.cells (mcc (newM m wait)) 81)
        have hsz := hb3.size
        have hball : Below wr.heap.size wr (w2.alloc (.cells (mcc (newM m wait)) 81)) := hb2.alloc hb2.size _
        have hwz := hb.size
        generalize w2.alloc (.cells (mcc (newM m wait)) 81) = w3 at *
        have hz := hb4.size
        go_wp2_with fail
        refine (refNew_any q (prgB I k).length c wait _).mono ?_
        rintro e w4 ⟨rfl, hb5⟩
        have hb6 := hb4.trans (hb5.mono hb4.size)
        have N4 : w4.heap[S]? = some (.cells (refC (.slice none 0 0) 0 0) 35 (0, 0)) := (hb6.block S (by omega)).trans HN.out
        have O4 := setRow_off w4 S (refC (.slice q (prgB I k).length c) wait (-1))
        have HL := setRow_heap _ _ _ (refC (.slice q (prgB I k).length c) wait (-1)) _ _ N4
        have M4 : Mx w4 w2.heap.size (newM m wait) := Mx.below (show Mx w3 w2.heap.size (newM m wait) from hMx) hb5
        have I4 := hIs3.below hb5
        have W4 := owns_below ho (hb2.trans ((Below.refl w2.heap.size w2).mono hb2.size))
        have hfin : w4.ownsRow w1.heap.size 5 1 (.slice q (prgB I k).length c) (prgB I k).length (Code.u8s (prgB I k)) := owns_below ho (hball.trans (hb5.mono hball.size))
        replace N4 := hide N4
        replace hMx := hide hMx
        clear hIs hIs3 hb2 hb3 ho W4
        go_wp2_with (refine wpList_store_rowTo rfl 35 (.tmp 7) (.tmp 65) rfl rfl _ (refC (.slice q (prgB I k).length c) wait (-1)) rfl rfl 35 (refC (.slice none 0 0) 0 0) (unhide N4) info_ref rfl (one_ref _ _ _ _ _) ?_)
        refine bodyPost_ret (v := .tuple #[.pointer (some ⟨w2.heap.size, 0, none⟩), .agg (refC (.slice q (prgB I k).length c) wait (-1))]) (by have HR := run_loadVar_row (P := Tryz.prog) _ S 35 35 (refC (.slice q (prgB I k).length c) wait (-1)) (0, 0) _ HL Tryz.underlying35 rfl info_ref; simp [results, Tryz.results8, asAddr, HR]) rfl ⟨by rw [hS]; exact setRow_below (HB.out.trans (hb6.mono (by omega))) (Nat.le_refl _) _, .inr ⟨hw, _, m, F, R, q, c, rfl, M4.off O4 (by simp; omega), isOff I4 O4 (by simp; omega) (by simp; omega) (by simp; omega), ⟨by omega, by omega, by omega, by omega⟩, own_sl' (owns_off hfin O4 (by omega))⟩⟩
      · go_wp2_with fail
        refine (NewC_no m wait (by omega) _).mono ?_
        rintro e w3 ⟨rfl, rfl⟩
        have hz := hb3.size
        have N4 : w3.heap[S]? = some (.cells (refC (.slice none 0 0) 0 0) 35 (0, 0)) := (hb3.block S (by omega)).trans HN.out
        have HL := setRow_heap _ _ _ (refC (.slice none 0 0) 0 0) _ _ N4
        replace N4 := hide N4
        go_wp2_with (refine wpList_store_rowTo rfl 35 (.tmp 7) (.tmp 61) rfl rfl _ (refC (.slice none 0 0) 0 0) rfl rfl 35 (refC (.slice none 0 0) 0 0) (unhide N4) info_ref rfl (one_ref _ _ _ _ _) ?_)
        refine bodyPost_ret (v := .tuple #[.pointer none, .agg (refC (.slice none 0 0) 0 0)]) (by have HR := run_loadVar_row (P := Tryz.prog) _ S 35 35 (refC (.slice none 0 0) 0 0) (0, 0) _ HL Tryz.underlying35 rfl info_ref; simp [results, Tryz.results8, asAddr, HR]) rfl ⟨by rw [hS]; exact setRow_below (HB.out.trans (hb3.mono (by omega))) (Nat.le_refl _) _, .inl ⟨hw, rfl⟩⟩
end Go.Proofs.YtkkhofoaolgapaaGreatDoor.Core

