/- The statement ParseWords, walked. -/
import Derived.Test.YtimiglepogeeiaaDoorParseAnchor
import Derived.Lib.ConvBytes
import Derived.Lib.AppendStr
import Derived.Lib.UnsafeStr
set_option linter.unusedVariables false
set_option linter.unusedSimpArgs false
set_option maxRecDepth 100000
namespace Go.Proofs.YtimiglepogeeiaaDoor.Parse
open Go.RowKit Go.Proofs.YtimiglepogeeiaaDoor.Lex

def woA (L : List (List UInt8)) : Array Value := (L.map fun l => Value.string (S l)).toArray
def zerW : Array Value := Array.replicate 13 (.string ⟨#[]⟩)
theorem zeroW : ∀ w, (zeroValue 43).run Tryd.prog w = .ok (.agg zerW) w :=
  (zero_of_info (P := Tryd.prog) (t := 43) (v := .agg zerW) (n := 13) (by kernel_rfl)).1
theorem woA_at (k : Nat) (hk : k < 13) : (woA words)[k]? = some (.string (S (words.getD k []))) := by
  simp [woA, List.getD, List.getElem?_eq_getElem (show k < words.length from hk)]
theorem words_step (a : List UInt8) (k : Nat) (hk : k < 13) : (words.drop k).contains a = (decide (a = words.getD k []) || (words.drop (k + 1)).contains a) := by
  rw [List.drop_eq_getElem_cons (show k < words.length from hk), List.contains_cons]
  congr 1
  rw [List.getD, List.getElem?_eq_getElem (show k < words.length from hk)]
  rw [Bool.eq_iff_iff]
  simp

set_option maxHeartbeats 4000000 in
theorem refWord_any (a : List UInt8) (w : World) : Calls Tryd.prog 17 #[.string (S a)] w fun e w' => e = .returned (.bool (isW a)) ∧ Below w.heap.size w w' := by
  have hz := zeroW
  go_enter Tryd.func17, Tryd.ntmps17
  go_wp2_with (first
    | (refine wpList_buildTo rfl 43 _ rfl _ rfl (woA words) (by kernel_rfl) ?_)
    | (refine wpList_store_rowTo rfl 43 _ _ rfl rfl _ (woA words) rfl rfl 43 zerW (heap_alloc_last _ _) (by kernel_rfl) (by kernel_rfl) (by kernel_rfl) ?_; rw [World.setRow_alloc_new]))
  go_loopw [4] (fun i wr => ∃ k : Nat, k ≤ 13 ∧ i = .int .i64 k ∧ isW a = (words.drop k).contains a ∧ Below w.heap.size w wr ∧ wr.heap[w.heap.size]? = some (.cells (woA words) 43 (0, 0))) (fun i _ => 13 - (intOf i).toNat)
  case atStart => exact ⟨0, by omega, rfl, rfl, (Below.refl _ _).alloc (Nat.le_refl _) _, heap_alloc_last _ _⟩
  case round =>
    obtain ⟨k, hk, rfl, he, hb, hrow⟩ := hrel
    by_cases hlt : k < 13
    · have hst := words_step a k hlt
      have ht0 := woA_at k hlt
      generalize words.getD k [] = x at *
      have ht : wr.cell? ⟨w.heap.size, k, none⟩ = some (.string (S x)) := by
        rw [Lib.cell_of_heap hrow, ht0]
      have HE := hide he
      have HST := hide hst
      have HB := hide hb
      have HR := hide hrow
      have heq := eq_text a x
      clear ht0 hst he hb hrow
      by_cases hax : a = x
      · rw [decide_eq_true hax] at heq
        go_wp2_with fail
        go_ret
        refine ⟨ret_b ?_, HB.out⟩
        rw [HE.out, HST.out, decide_eq_true hax]
        rfl
      · rw [decide_eq_false hax] at heq
        go_wp2_with fail
        exact ⟨⟨k + 1, by omega, by go_num, by rw [HE.out, HST.out, decide_eq_false hax]; rfl, HB.out, HR.out⟩, by simp [intOf]; omega⟩
    · obtain rfl : k = 13 := by omega
      go_wp2_with fail
      go_ret
      refine ⟨ret_b ?_, hb⟩
      rw [he]
      rfl

theorem src_bytes (l : List UInt8) (w : World) : Src (Lib.bytesWorld w 5 (S l)) (some ⟨w.heap.size, 0, none⟩) l.length l := by
  refine ⟨rfl, .inr ⟨_, 0, rfl, by rw [Lib.bytesWorld_size]; omega, fun i hi => ?_⟩⟩
  rw [Nat.zero_add, Lib.bytesWorld_cell w 5 (S l) i hi]
  rfl
theorem below_bytes (l : List UInt8) (w : World) : Below w.heap.size w (Lib.bytesWorld w 5 (S l)) :=
  Lib.below_freeze (((Below.refl w.heap.size w).drew).alloc (Nat.le_refl _) _) (p := ⟨w.heap.size, _, none⟩) (Nat.le_refl _) 1
theorem with_is (x : List UInt8) : (⟨#[102, 110, 32]⟩ ++ S x ++ ⟨#[40, 41, 123, 125]⟩ : ByteArray) = S (withWord x) := by
  apply ByteArray.ext
  simp [withWord, S]

set_option maxHeartbeats 4000000 in
theorem parseWords_any (s : ByteArray) (w : World) (hS : Sig w) (hs : s.size ≤ maxLen) :
    Calls Tryd.prog 6 #[.string s] w fun e w' => e = .returned (.bool true) ∧ Below w.heap.size w w' := by
  obtain ⟨x, rfl⟩ : ∃ x, s = S x := ⟨B s, rfl⟩
  have hsz : (S x).size = x.length := rfl
  rw [hsz] at hs
  have ha := anchor10_any w hS
  by_cases hbig : 100 < x.length
  · go_enter Tryd.func6, Tryd.ntmps6
    go_wp2_with (go_at_call 9; refine ha.mono ?_; rintro e w1 ⟨rfl, hb1⟩)
    go_ret
    exact ⟨rfl, hb1⟩
  · have hW := Word_any x
    have hR := refWord_any x
    have hbad := word_bad x
    have hlen : (withWord x).length ≤ 107 := by simp [withWord]; omega
    have HBAD := hide hbad
    have HLEN := hide hlen
    have HRW := hide hR
    have HSG := hide hS
    clear hbad hlen hR hS
    go_enter Tryd.func6, Tryd.ntmps6
    go_wp2_with fail
    refine ha.mono ?_
    rintro e w1 ⟨rfl, hb1⟩
    have hr := HRW.out w1
    have HB1 := hide hb1
    clear ha hb1
    go_wp2_with (first | (go_at_call 16; refine (hW _).mono ?_; rintro e w9 ⟨rfl, h9⟩; rw [h9]; clear h9) | (go_at_call 17; refine hr.mono ?_; rintro e w2 ⟨rfl, hb2⟩))
    have HB2 := hide (HB1.out.trans (hb2.mono HB1.out.size))
    have hpa := Parse_any (withWord x) (some ⟨w2.heap.size, 0, none⟩) (withWord x).length (grownCap w2 (withWord x).length 0 5) (Lib.bytesWorld w2 5 (S (withWord x))) ((HSG.out.below HB2.out).below (below_bytes _ w2)) (src_bytes _ w2) (by have := HLEN.out; unfold maxLen; omega)
    have HB3 := hide (HB2.out.trans ((below_bytes (withWord x) w2).mono HB2.out.size))
    have hz3 : (Lib.bytesWorld w2 5 (S (withWord x))).heap.size = w2.heap.size + 1 := Lib.bytesWorld_size _ _ _
    have hz2 := HB2.out.size
    have hw1 : ∀ e w', Parsed (Lib.bytesWorld w2 5 (S (withWord x))) (parsed (withWord x)) e w' → ∃ k a t v p n c er ao, e = .returned (.tuple #[.agg #[.int .i64 k, .int .i64 a, .string (S t), .int .u32 v, .slice p n c], .int .i64 er, .int .i64 ao]) ∧ (isW x = true → er = 110) := fun e w' h => by
      cases hp : parsed (withWord x) with
      | error ea =>
        obtain ⟨n, a⟩ := ea
        rw [hp] at h
        refine ⟨0, 0, [], 0, none, 0, 0, n, a, h, fun hw => ?_⟩
        obtain ⟨a', ha'⟩ := HBAD.out hw
        rw [hp] at ha'
        injection ha' with ha'
        injection ha' with ha' _
      | ok y =>
        rw [hp] at h
        obtain ⟨z, he, hr⟩ := h
        obtain ⟨k, a, t, v, l⟩ := y
        obtain ⟨p, n, c, rfl⟩ := Rep.slice hr
        refine ⟨k, a, t, v, p, n, c, 0, 0, he, fun hw => ?_⟩
        obtain ⟨a', ha'⟩ := HBAD.out hw
        rw [hp] at ha'
        cases ha'
    have HW1 := hide hw1
    clear hw1 hr hb2
    rw [with_is x, Lib.run_convert_string_bytes (P := Tryd.prog) w2 9 22 5 (S (withWord x)) Tryd.underlying9 Tryd.underlying22 Tryd.underlying5]
    go_wp2_with fail
    refine hpa.mono ?_
    rintro e w3 ⟨hP, hb3⟩
    obtain ⟨k, a, t, v, p, n, c, er, ao, rfl, hE⟩ := HW1.out _ _ hP
    have hb3' : Below w.heap.size _ w3 := hb3.mono (by omega)
    have HB4 := hide (HB3.out.trans hb3')
    have hz4 := hb3.size
    clear hpa hP hb3 hb3'
    cases hw : isW x with
    | true =>
      obtain rfl := hE hw
      rw [hw] at hW
      have HB5 := hide (HB4.out.alloc (by omega) (.cells #[.int .i64 k, .int .i64 a, .string (S t), .int .u32 v, .slice p n c] 27))
      go_wp2_with (go_at_call 16; refine (hW _).mono ?_; rintro e w9 ⟨rfl, h9⟩; rw [h9]; clear h9)
      go_ret
      exact ⟨rfl, HB5.out⟩
    | false =>
      rw [hw] at hW
      have HB5 := hide (HB4.out.alloc (by omega) (.cells #[.int .i64 k, .int .i64 a, .string (S t), .int .u32 v, .slice p n c] 27))
      go_wp2_with (go_at_call 16; refine (hW _).mono ?_; rintro e w9 ⟨rfl, h9⟩; rw [h9]; clear h9)
      go_ret
      exact ⟨rfl, HB5.out⟩

end Go.Proofs.YtimiglepogeeiaaDoor.Parse

