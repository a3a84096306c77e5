/- A row of tokens in the heap, opened; tokens held against each other. -/
import Derived.Test.YtimiglepogeeiaaDoorLexToks
set_option linter.unusedVariables false
set_option linter.unusedSimpArgs false
namespace Go.Proofs.YtimiglepogeeiaaDoor.Lex
open Go.RowKit

theorem tsC_at : ∀ (ts : List T) (i j : Nat) (t : T), ts[i]? = some t → j < 4 → (tsC ts)[i * 4 + j]? = (tC t)[j]?
  | [], i, j, t, h, _ => by simp at h
  | s :: ts, 0, j, t, h, hj => by
    simp at h
    subst h
    show (tC s ++ tsC ts)[0 * 4 + j]? = _
    rw [List.getElem?_append_left (by show 0 * 4 + j < 4; omega)]
    congr 1
    omega
  | s :: ts, i + 1, j, t, h, hj => by
    show (tC s ++ tsC ts)[(i + 1) * 4 + j]? = _
    rw [List.getElem?_append_right (by show 4 ≤ _; omega), show (i + 1) * 4 + j - (tC s).length = i * 4 + j by show (i + 1) * 4 + j - 4 = _; omega]
    exact tsC_at ts i j t (by simpa using h) hj
/-- A row of tokens, opened. -/
structure Row (w : World) (g : Nat) (ts : List T) : Prop where
  lt : g < w.heap.size
  k : ∀ i t, ts[i]? = some t → w.cell? ⟨g, i * 4, none⟩ = some (.int .i64 t.k)
  a : ∀ i t, ts[i]? = some t → w.cell? ⟨g, i * 4 + 1, none⟩ = some (.int .i64 t.a)
  t : ∀ i t, ts[i]? = some t → w.cell? ⟨g, i * 4 + 2, none⟩ = some (.string (S t.t))
  v : ∀ i t, ts[i]? = some t → w.cell? ⟨g, i * 4 + 3, none⟩ = some (.int .u32 t.v)
theorem Row.below {w w' : World} {g : Nat} {ts : List T} (h : Row w g ts) (hb : Below w.heap.size w w') : Row w' g ts where
  lt := Nat.lt_of_lt_of_le h.lt hb.size
  k := fun i t ht => by rw [hb.cell (p := ⟨g, _, none⟩) h.lt]; exact h.k i t ht
  a := fun i t ht => by rw [hb.cell (p := ⟨g, _, none⟩) h.lt]; exact h.a i t ht
  t := fun i t ht => by rw [hb.cell (p := ⟨g, _, none⟩) h.lt]; exact h.t i t ht
  v := fun i t ht => by rw [hb.cell (p := ⟨g, _, none⟩) h.lt]; exact h.v i t ht
theorem owned {w : World} {B : Nat} {E : TypeId} {v : Value} {ts : List T} (h : w.ownsRow B E 4 v ts.length (tsC ts)) (hne : ts ≠ []) :
    ∃ g cap, v = .slice (some ⟨g, 0, none⟩) ts.length cap ∧ B ≤ g ∧ Row w g ts := by
  rcases h.2 with ⟨_, h0⟩ | ⟨g, cap, cur, hv, hB, hg, h1, h2, h3, h4⟩
  · exact absurd (List.eq_nil_of_length_eq_zero h0) hne
  · have hlt : g < w.heap.size := by
      rcases Nat.lt_or_ge g w.heap.size with h' | h'
      · exact h'
      · simp [Array.getElem?_eq_none h'] at hg
    have hc : ∀ i t j, ts[i]? = some t → j < 4 → w.cell? ⟨g, i * 4 + j, none⟩ = (tC t)[j]? := fun i t j ht hj => by
      have hi : i < ts.length := (List.getElem?_eq_some_iff.1 ht).1
      have e := tsC_at ts i j t ht hj
      rw [← h4, List.getElem?_take, if_pos (by omega), Array.getElem?_toList] at e
      rw [← e]
      simp [World.cell?, hg]
    exact ⟨g, cap, hv, hB, hlt, fun i t ht => (hc i t 0 ht (by omega)), fun i t ht => (hc i t 1 ht (by omega)), fun i t ht => (hc i t 2 ht (by omega)), fun i t ht => (hc i t 3 ht (by omega))⟩

theorem eq_nil {P : Program} {w : World} {d : Nat} {xs ys : Array Value} : (Op.eqFields d xs ys []).run P w = .ok true w := rfl
theorem eq_stepI {P : Program} {w : World} {d : Nat} {xs ys : Array Value} {f : Field} {fs : List Field} {k : IntKind} {a b : Int} {r : Bool} (hn : f.name ≠ "_") (hu : P.underlying f.type = some (.int k))
    (hx : ∀ w, (part f.type xs f.offset).run P w = .ok (.int k a) w) (hy : ∀ w, (part f.type ys f.offset).run P w = .ok (.int k b) w) (hr : (Op.eqFields (d + 1) xs ys fs).run P w = .ok r w) :
    (Op.eqFields (d + 1) xs ys (f :: fs)).run P w = .ok (a == b && r) w := by
  unfold Op.eqFields
  rw [if_pos hn]
  simp only [Sem.run_bind, hx, hy, Result.andThen_ok, run_equalIn_int w d f.type k k a b hu]
  cases a == b
  · simp
  · simpa using hr
theorem eq_stepS {P : Program} {w : World} {d : Nat} {xs ys : Array Value} {f : Field} {fs : List Field} {a b : ByteArray} {r : Bool} (hn : f.name ≠ "_") (hu : P.underlying f.type = some .string)
    (hx : ∀ w, (part f.type xs f.offset).run P w = .ok (.string a) w) (hy : ∀ w, (part f.type ys f.offset).run P w = .ok (.string b) w) (hr : (Op.eqFields (d + 1) xs ys fs).run P w = .ok r w) :
    (Op.eqFields (d + 1) xs ys (f :: fs)).run P w = .ok ((a.toList == b.toList) && r) w := by
  unfold Op.eqFields
  rw [if_pos hn]
  simp only [Sem.run_bind, hx, hy, Result.andThen_ok, run_equalIn_string w d f.type a b hu]
  cases a.toList == b.toList
  · simp
  · simpa using hr

/-- A token as a value; two tokens held against each other. -/
def tA (t : T) : Array Value := #[.int .i64 t.k, .int .i64 t.a, .string (S t.t), .int .u32 t.v]
def eqT (x y : T) : Bool := x.k == y.k && (x.a == y.a && (((S x.t).toList == (S y.t).toList) && (x.v == y.v && true)))
theorem eqT_self (x : T) : eqT x x = true := by simp [eqT]
theorem eqT_iff (x y : T) : eqT x y = true ↔ x = y := by
  unfold eqT
  rw [Lib.toList_data, Lib.toList_data]
  cases x; cases y
  simp [S]

set_option maxRecDepth 100000 in
theorem eql_tok (w : World) (x y : T) : (binOp .eql 53 (.agg (tA x)) (.agg (tA y))).run Tryd.prog w = .ok (.bool (eqT x y)) w := by
  rw [run_eql_struct, run_equalIn_agg w 9999 53 _ _ (by kernel_rfl) (by kernel_rfl)]
  unfold Program.fieldsOf
  rw [Tryd.underlying53]
  exact congrArg (fun r => Result.andThen r (fun b w' => Result.ok (Value.bool b) w')) (eq_stepI (k := .i64) (a := x.k) (b := y.k) (by decide) Tryd.underlying3 (fun _ => by kernel_rfl) (fun _ => by kernel_rfl) (eq_stepI (k := .i64) (a := x.a) (b := y.a) (by decide) Tryd.underlying3 (fun _ => by kernel_rfl) (fun _ => by kernel_rfl) (eq_stepS (a := S x.t) (b := S y.t) (by decide) Tryd.underlying9 (fun _ => by kernel_rfl) (fun _ => by kernel_rfl) (eq_stepI (k := .u32) (a := x.v) (b := y.v) (by decide) Tryd.underlying24 (fun _ => by kernel_rfl) (fun _ => by kernel_rfl) eq_nil))))

set_option maxRecDepth 100000 in
theorem neq_tok (w : World) (x y : T) : (binOp .neq 53 (.agg (tA x)) (.agg (tA y))).run Tryd.prog w = .ok (.bool (!eqT x y)) w := by
  rw [run_neq_struct, run_equalIn_agg w 9999 53 _ _ (by kernel_rfl) (by kernel_rfl)]
  unfold Program.fieldsOf
  rw [Tryd.underlying53]
  exact congrArg (fun r => Result.andThen r (fun b w' => Result.ok (Value.bool (!b)) w')) (eq_stepI (k := .i64) (a := x.k) (b := y.k) (by decide) Tryd.underlying3 (fun _ => by kernel_rfl) (fun _ => by kernel_rfl) (eq_stepI (k := .i64) (a := x.a) (b := y.a) (by decide) Tryd.underlying3 (fun _ => by kernel_rfl) (fun _ => by kernel_rfl) (eq_stepS (a := S x.t) (b := S y.t) (by decide) Tryd.underlying9 (fun _ => by kernel_rfl) (fun _ => by kernel_rfl) (eq_stepI (k := .u32) (a := x.v) (b := y.v) (by decide) Tryd.underlying24 (fun _ => by kernel_rfl) (fun _ => by kernel_rfl) eq_nil))))

set_option maxRecDepth 100000 in
theorem neq_ref (w : World) (x y : T) : (binOp .neq 60 (.agg (tA x)) (.agg (tA y))).run Tryd.prog w = .ok (.bool (!eqT x y)) w := by
  rw [run_neq_struct, run_equalIn_agg w 9999 60 _ _ (by kernel_rfl) (by kernel_rfl)]
  unfold Program.fieldsOf
  rw [Tryd.underlying60]
  exact congrArg (fun r => Result.andThen r (fun b w' => Result.ok (Value.bool (!b)) w')) (eq_stepI (k := .i64) (a := x.k) (b := y.k) (by decide) Tryd.underlying3 (fun _ => by kernel_rfl) (fun _ => by kernel_rfl) (eq_stepI (k := .i64) (a := x.a) (b := y.a) (by decide) Tryd.underlying3 (fun _ => by kernel_rfl) (fun _ => by kernel_rfl) (eq_stepS (a := S x.t) (b := S y.t) (by decide) Tryd.underlying9 (fun _ => by kernel_rfl) (fun _ => by kernel_rfl) (eq_stepI (k := .u32) (a := x.v) (b := y.v) (by decide) Tryd.underlying24 (fun _ => by kernel_rfl) (fun _ => by kernel_rfl) eq_nil))))

end Go.Proofs.YtimiglepogeeiaaDoor.Lex

