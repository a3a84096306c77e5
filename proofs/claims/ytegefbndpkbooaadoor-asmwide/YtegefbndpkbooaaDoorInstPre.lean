/- InstMath, InstEq, joined. -/
import Derived.Test.YtegefbndpkbooaaDoorImmPre
import Derived.Laws.BitsAllLaws
import Derived.Test.YtegefbndpkbooaaDoorBits64

/-! Which instructions are right, by the program's way and by the document's: plain functions of numbers; they are the same. -/
set_option linter.unusedVariables false
namespace Go.Proofs.YtegefbndpkbooaaDoor.Inst
open Go.Proofs.YtegefbndpkbooaaDoor.Alu Go.Proofs.YtegefbndpkbooaaDoor.Imm

/-- The forms' shapes, from form 0 on. -/
def shpL : List Int := [0, 1, 1, 1, 2, 2, 3, 3, 4, 4, 4, 4, 5, 5, 5, 5, 5, 5, 5, 5, 5, 5, 5, 5, 5, 5, 5, 5, 6, 6, 6, 7, 8, 2, 2, 9, 9, 8, 8, 8, 10, 10, 11, 12, 13, 14, 15, 16, 17, 17, 18, 18, 18, 18, 18, 18, 18, 18, 18, 18, 19, 19, 20, 20, 20, 20, 21, 21, 21, 21, 21, 21, 21, 21, 21, 21, 22, 22, 23, 23, 23, 23, 24, 24, 25, 25, 26, 26, 27, 27, 27, 27, 28, 29, 30, 31, 31, 28, 32, 33, 34]
/-- The forms' bits, from form 0 on. -/
def bitL : List Int := [0, 0, 2048, 4096, 6144, 6656, 7168, 7680, 8192, 10240, 12288, 14336, 16384, 16448, 16512, 16576, 16640, 16704, 16768, 16832, 16896, 16960, 17024, 17088, 17152, 17216, 17280, 17344, 17408, 17664, 17920, 18176, 18432, 20480, 22528, 24576, 26624, 36864, 38912, 43008, 45056, 45184, 46080, 48128, 48896, 48640, 53248, 57344, 4064280576, 4072669184, 4026531840, 4028628992, 4030726144, 4032823296, 4034920448, 4043309056, 4047503360, 4049600512, 4053794816, 4055891968, 4031709184, 4033806336, 4027584256, 4035972864, 4044361472, 4054847232, 3925868544, 3927965696, 3930062848, 3932160000, 3934257152, 3942645760, 3946840064, 3948937216, 3953131520, 3955228672, 3931045888, 3933143040, 3926920960, 3935309568, 3943698176, 3954183936, 4060086272, 4070572032, 4173332480, 4174381056, 4164943872, 4165992448, 4194365440, 4196462592, 4198559744, 4200656896, 4211142656, 4211081216, 4211081232, 4221566976, 4225761280, 4222677232, 4205899904, 4026564608, 4026568704]
def isF (f : Int) : Bool := decide (1 ≤ f ∧ f ≤ 100)
def shp (f : Int) : Int := if isF f then shpL.getD f.toNat 0 else 0
def bts (f : Int) : Int := if isF f then bitL.getD f.toNat 0 else 0

theorem shp_fin : ∀ i : Fin 101, 0 < i.val → 1 ≤ shpL.getD i.val 0 ∧ shpL.getD i.val 0 ≤ 34 ∧ (i.val = 29 → shpL.getD i.val 0 = 6) := by decide +kernel

theorem isF_yes {f : Int} (h : 1 ≤ f ∧ f ≤ 100) : isF f = true := by unfold isF; exact decide_eq_true h
theorem isF_no {f : Int} (h : ¬ (1 ≤ f ∧ f ≤ 100)) : isF f = false := by unfold isF; exact decide_eq_false h
theorem isF_iff {f : Int} : isF f = true ↔ 1 ≤ f ∧ f ≤ 100 := by unfold isF; exact decide_eq_true_iff
theorem shp_yes {f : Int} (h : isF f = true) : 1 ≤ shp f ∧ shp f ≤ 34 ∧ (f = 29 → shp f = 6) := by
  have hb := isF_iff.1 h
  have := shp_fin ⟨f.toNat, by omega⟩ (by show 0 < f.toNat; omega)
  unfold shp; rw [if_pos h]
  exact ⟨this.1, this.2.1, fun e => this.2.2 (by show f.toNat = 29; omega)⟩
theorem shp_no {f : Int} (h : isF f = false) : shp f = 0 := by unfold shp; rw [h]; rfl
theorem shp_bd (f : Int) : 0 ≤ shp f ∧ shp f ≤ 34 := by
  cases h : isF f
  · rw [shp_no h]; omega
  · have := shp_yes h; omega

/-- A class of registers holds a register. -/
def cls (c r : Int) : Bool := decide (bit c r = 1)
def low (r : Int) : Bool := decide (0 ≤ r ∧ r ≤ 7)

theorem cls_fin : ∀ i : Fin 32, cls 255 i.val = decide ((i.val : Int) ≤ 7) ∧ cls 32767 i.val = decide ((i.val : Int) ≤ 14) ∧ cls 24575 i.val = (decide ((i.val : Int) ≤ 12) || decide ((i.val : Int) = 14)) ∧ cls 1 i.val = decide ((i.val : Int) = 0) := by decide +kernel
theorem cls_out (c : Int) {r : Int} (h : r < 0 ∨ 31 < r) : cls c r = false := by unfold cls; rw [bit_out _ _ h]; rfl
theorem cls_low (r : Int) : cls 255 r = decide (0 ≤ r ∧ r ≤ 7) := by
  by_cases h : r < 0 ∨ 31 < r
  · rw [cls_out _ h, eq_comm, decide_eq_false_iff_not]; omega
  · obtain ⟨n, rfl⟩ := Int.eq_ofNat_of_zero_le (show 0 ≤ r by omega)
    have h1 := (cls_fin ⟨n, by omega⟩).1
    dsimp only at h1
    rw [h1, decide_eq_decide]; omega
theorem cls_any (r : Int) : cls 32767 r = decide (0 ≤ r ∧ r ≤ 14) := by
  by_cases h : r < 0 ∨ 31 < r
  · rw [cls_out _ h, eq_comm, decide_eq_false_iff_not]; omega
  · obtain ⟨n, rfl⟩ := Int.eq_ofNat_of_zero_le (show 0 ≤ r by omega)
    have h1 := (cls_fin ⟨n, by omega⟩).2.1
    dsimp only at h1
    rw [h1, decide_eq_decide]; omega
theorem cls_wide (r : Int) : cls 24575 r = (decide (0 ≤ r ∧ r ≤ 12) || decide (r = 14)) := by
  by_cases h : r < 0 ∨ 31 < r
  · rw [cls_out _ h, eq_comm, Bool.or_eq_false_iff, decide_eq_false_iff_not, decide_eq_false_iff_not]; omega
  · obtain ⟨n, rfl⟩ := Int.eq_ofNat_of_zero_le (show 0 ≤ r by omega)
    have h1 := (cls_fin ⟨n, by omega⟩).2.2.1
    dsimp only at h1
    rw [h1]
    congr 1
    rw [decide_eq_decide]; omega
theorem cls_none (r : Int) : cls 1 r = decide (r = 0) := by
  by_cases h : r < 0 ∨ 31 < r
  · rw [cls_out _ h, eq_comm, decide_eq_false_iff_not]; omega
  · obtain ⟨n, rfl⟩ := Int.eq_ofNat_of_zero_le (show 0 ≤ r by omega)
    exact (cls_fin ⟨n, by omega⟩).2.2.2

/-! ### The program's parts -/
def inB (a b c d rd rn rm ra : Int) : Bool := cls a rd && cls b rn && cls c rm && cls d ra
def stp (n a b k : Int) : Bool := decide (a ≤ n ∧ n ≤ b ∧ n % k = 0)
def som (l m : Int) : Bool := decide (l ≠ 0) && decide (bits .andNot .i64 l m = 0)
def wrd (n : Int) : Bool := decide (er n = 0)
def regR (s rd rn rm ra : Int) : Bool :=
  if s = 1 ∨ s = 5 then inB 255 1 255 1 rd rn rm ra
  else if s = 2 then inB 255 255 255 1 rd rn rm ra
  else if s = 3 ∨ s = 9 then inB 255 255 1 1 rd rn rm ra
  else if s = 4 ∨ s = 8 then inB 255 1 1 1 rd rn rm ra
  else if s = 6 then inB 32767 1 32767 1 rd rn rm ra
  else if s = 7 then inB 1 1 32767 1 rd rn rm ra
  else if s = 17 ∨ s = 19 then inB 24575 1 1 1 rd rn rm ra
  else if s = 18 ∨ s = 24 then inB 24575 24575 1 1 rd rn rm ra
  else if s = 20 then inB 1 24575 1 1 rd rn rm ra
  else if s = 21 ∨ s = 27 ∨ s = 28 then inB 24575 24575 24575 1 rd rn rm ra
  else if s = 22 ∨ s = 32 then inB 24575 1 24575 1 rd rn rm ra
  else if s = 23 then inB 1 24575 24575 1 rd rn rm ra
  else if s = 25 then inB 24575 32767 1 1 rd rn rm ra
  else if s = 26 then inB 24575 32767 24575 1 rd rn rm ra
  else if s = 29 ∨ s = 30 ∨ s = 31 then inB 24575 24575 24575 24575 rd rn rm ra
  else inB 1 1 1 1 rd rn rm ra
def pairR (f s rd rm ra : Int) : Bool := if f = 29 then !low rd || !low rm else if s = 31 then decide (rd ≠ ra) else true
def immR (f s n : Int) : Bool :=
  if s = 1 then (if f = 1 then stp n 0 31 1 else stp n 1 32 1)
  else if s = 3 then stp n 0 7 1
  else if s = 4 ∨ s = 14 then stp n 0 255 1
  else if s = 8 then stp n 0 1020 4
  else if s = 9 then stp n 0 124 4
  else if s = 10 then stp n 0 508 4
  else if s = 15 then stp n (-256) 254 2
  else if s = 16 then stp n (-2048) 2046 2
  else if s = 17 then stp n 0 65535 1
  else if s = 18 ∨ s = 19 ∨ s = 20 then wrd n
  else if s = 24 ∨ s = 25 then stp n 0 4095 1
  else if s = 33 then stp n (-1048576) 1048574 2
  else if s = 34 then stp n (-16777216) 16777214 2
  else decide (n = 0)
def brl (k b : Int) : Bool := if k = 0 then stp b 0 31 1 else if k = 1 ∨ k = 2 then stp b 1 32 1 else if k = 3 then stp b 1 31 1 else false
def shiR (s k b : Int) : Bool := if s = 21 ∨ s = 22 ∨ s = 23 then brl k b else if s = 26 then decide (k = 0) && stp b 0 3 1 else decide (k = 0) && decide (b = 0)
def setR (s n : Int) : Bool := if s = 18 ∨ s = 19 ∨ s = 21 ∨ s = 22 ∨ s = 27 then decide (n = 0) || decide (n = 1) else decide (n = 0)
def cndR (s n : Int) : Bool := if s = 15 ∨ s = 33 then stp n 0 13 1 else decide (n = 0)
def rgsR (s n : Int) : Bool := if s = 11 then som n 16639 else if s = 12 then som n 33023 else decide (n = 0)
def right (f rd rn rm ra im kd bs st cd rg : Int) : Bool :=
  isF f && (regR (shp f) rd rn rm ra && (pairR f (shp f) rd rm ra && (immR f (shp f) im && (shiR (shp f) kd bs && (setR (shp f) st && (cndR (shp f) cd && rgsR (shp f) rg))))))

/-! ### The document's parts -/
def wi (n a b : Int) : Bool := decide (a ≤ n ∧ n ≤ b)
def wid (r : Int) : Bool := wi r 0 12 || decide (r = 14)
def brf (k b : Int) : Bool := if k = 0 then wi b 0 31 else if k = 3 then wi b 1 31 else wi k 1 2 && wi b 1 32
def wrf (n : Int) : Bool := wi n 0 4095 && has n
/-- A field may be other than nought, or is nought. -/
def may (sm p : Int) (b : Bool) : Bool := decide (sm / p % 2 ≠ 0) || b
def only (sm rd rn rm ra im kd bs st cd rg : Int) : Bool :=
  may sm 1 (decide (rd = 0)) && may sm 2 (decide (rn = 0)) && may sm 4 (decide (rm = 0)) && may sm 8 (decide (ra = 0)) && may sm 16 (decide (im = 0))
  && (may sm 32 (decide (kd = 0) && decide (bs = 0)) || (decide (512 ≤ sm) && decide (kd = 0)))
  && may sm 64 (decide (st = 0)) && may sm 128 (decide (cd = 0)) && may sm 256 (decide (rg = 0))
def plainB (s rd rn rm ra im kd bs st cd rg : Int) : Bool :=
  if s = 10 then only 16 rd rn rm ra im kd bs st cd rg && (wi im 0 508 && decide (im % 4 = 0))
  else if s = 11 then only 256 rd rn rm ra im kd bs st cd rg && (wi rg 1 255 || wi rg 16384 16639)
  else if s = 12 then only 256 rd rn rm ra im kd bs st cd rg && (wi rg 1 255 || wi rg 32768 33023)
  else if s = 13 then only 0 rd rn rm ra im kd bs st cd rg
  else if s = 14 then only 16 rd rn rm ra im kd bs st cd rg && wi im 0 255
  else if s = 15 then only 144 rd rn rm ra im kd bs st cd rg && (wi cd 0 13 && (wi im (-256) 254 && decide (im % 2 = 0)))
  else only 16 rd rn rm ra im kd bs st cd rg && (wi im (-2048) 2046 && decide (im % 2 = 0))
def narrowB (f s rd rn rm ra im kd bs st cd rg : Int) : Bool :=
  if s = 1 then wi rd 0 7 && (wi rm 0 7 && (only 21 rd rn rm ra im kd bs st cd rg && (wi im 0 32 && ((decide (f ≠ 1) || decide (im < 32)) && (decide (f = 1) || decide (0 < im))))))
  else if s = 2 then wi rd 0 7 && (wi rn 0 7 && (wi rm 0 7 && only 7 rd rn rm ra im kd bs st cd rg))
  else if s = 3 then wi rd 0 7 && (wi rn 0 7 && (only 19 rd rn rm ra im kd bs st cd rg && wi im 0 7))
  else if s = 4 then wi rd 0 7 && (only 17 rd rn rm ra im kd bs st cd rg && wi im 0 255)
  else if s = 5 then wi rd 0 7 && (wi rm 0 7 && only 5 rd rn rm ra im kd bs st cd rg)
  else if s = 6 then wi rd 0 14 && (wi rm 0 14 && (only 5 rd rn rm ra im kd bs st cd rg && (decide (f ≠ 29) || (!wi rd 0 7 || !wi rm 0 7))))
  else if s = 7 then wi rm 0 14 && only 4 rd rn rm ra im kd bs st cd rg
  else if s = 8 then wi rd 0 7 && (only 17 rd rn rm ra im kd bs st cd rg && (wi im 0 1020 && decide (im % 4 = 0)))
  else if s = 9 then wi rd 0 7 && (wi rn 0 7 && (only 19 rd rn rm ra im kd bs st cd rg && (wi im 0 124 && decide (im % 4 = 0))))
  else plainB s rd rn rm ra im kd bs st cd rg
def moreB (s rd rn rm ra im kd bs st cd rg : Int) : Bool :=
  if s = 25 then wid rd && (wi rn 0 14 && (only 19 rd rn rm ra im kd bs st cd rg && wi im 0 4095))
  else if s = 26 then wid rd && (wi rn 0 14 && (wid rm && (only 519 rd rn rm ra im kd bs st cd rg && wi bs 0 3)))
  else if s = 27 then wid rd && (wid rn && (wid rm && (wi st 0 1 && only 71 rd rn rm ra im kd bs st cd rg)))
  else if s = 28 then wid rd && (wid rn && (wid rm && only 7 rd rn rm ra im kd bs st cd rg))
  else if 29 ≤ s ∧ s ≤ 31 then wid rd && (wid rn && (wid rm && (wid ra && (only 15 rd rn rm ra im kd bs st cd rg && (decide (s ≠ 31) || decide (rd ≠ ra))))))
  else if s = 32 then wid rd && (wid rm && only 5 rd rn rm ra im kd bs st cd rg)
  else if s = 33 then only 144 rd rn rm ra im kd bs st cd rg && (wi cd 0 13 && (wi im (-1048576) 1048574 && decide (im % 2 = 0)))
  else only 16 rd rn rm ra im kd bs st cd rg && (wi im (-16777216) 16777214 && decide (im % 2 = 0))
def wideB (s rd rn rm ra im kd bs st cd rg : Int) : Bool :=
  if s = 17 then wid rd && (only 17 rd rn rm ra im kd bs st cd rg && wi im 0 65535)
  else if s = 18 then wid rd && (wid rn && (wi st 0 1 && (only 83 rd rn rm ra im kd bs st cd rg && wrf im)))
  else if s = 19 then wid rd && (wi st 0 1 && (only 81 rd rn rm ra im kd bs st cd rg && wrf im))
  else if s = 20 then wid rn && (only 18 rd rn rm ra im kd bs st cd rg && wrf im)
  else if s = 21 then wid rd && (wid rn && (wid rm && (wi st 0 1 && (only 103 rd rn rm ra im kd bs st cd rg && brf kd bs))))
  else if s = 22 then wid rd && (wid rm && (wi st 0 1 && (only 101 rd rn rm ra im kd bs st cd rg && brf kd bs)))
  else if s = 23 then wid rn && (wid rm && (only 38 rd rn rm ra im kd bs st cd rg && brf kd bs))
  else if s = 24 then wid rd && (wid rn && (only 19 rd rn rm ra im kd bs st cd rg && wi im 0 4095))
  else moreB s rd rn rm ra im kd bs st cd rg
def refR (f rd rn rm ra im kd bs st cd rg : Int) : Bool :=
  if shp f = 0 then false else if shp f < 17 then narrowB f (shp f) rd rn rm ra im kd bs st cd rg else wideB (shp f) rd rn rm ra im kd bs st cd rg

end Go.Proofs.YtegefbndpkbooaaDoor.Inst

/-! The program's way and the document's say the same of every instruction. -/
set_option linter.unusedVariables false
set_option linter.unusedSimpArgs false
namespace Go.Proofs.YtegefbndpkbooaaDoor.Inst
open Go.Proofs.YtegefbndpkbooaaDoor.Alu Go.Proofs.YtegefbndpkbooaaDoor.Imm

theorem wrd_eq (n : Int) : wrd n = wrf n := by
  unfold wrd wrf wi
  by_cases h : n < 0 ∨ 4096 ≤ n
  · rw [er_out h, decide_eq_false (by decide), decide_eq_false (by omega)]; rfl
  · rw [decide_eq_true (show 0 ≤ n ∧ n ≤ 4095 by omega)]
    cases hh : has n
    · rw [er_no (by omega) (by omega) hh]; rfl
    · rw [er_of (by omega) (by omega) hh]; rfl

theorem brl_eq (k b : Int) : brl k b = brf k b := by
  unfold brl brf stp wi
  rw [Bool.eq_iff_iff]
  split
  · simp only [decide_eq_true_eq]; omega
  · split
    · rw [if_neg (by omega)]; simp only [Bool.and_eq_true, decide_eq_true_eq]; omega
    · split
      · simp only [decide_eq_true_eq]; omega
      · simp only [Bool.and_eq_true, decide_eq_true_eq, Bool.false_eq_true, false_iff]; omega

theorem stp1 (n a b : Int) : stp n a b 1 = wi n a b := by unfold stp wi; rw [decide_eq_decide]; omega
theorem stp2 (n a b : Int) : stp n a b 2 = (wi n a b && decide (n % 2 = 0)) := by unfold stp wi; rw [Bool.eq_iff_iff]; simp only [Bool.and_eq_true, decide_eq_true_eq]; omega
theorem stp4 (n a b : Int) : stp n a b 4 = (wi n a b && decide (n % 4 = 0)) := by unfold stp wi; rw [Bool.eq_iff_iff]; simp only [Bool.and_eq_true, decide_eq_true_eq]; omega

theorem i64_andNot_nat (a b : Nat) (ha : a < 9223372036854775808) (hb : b < 9223372036854775808) : bits .andNot .i64 (a : Int) (b : Int) = ((a &&& (18446744073709551615 - b) : Nat) : Int) := by
  have hx : a &&& (18446744073709551615 - b) < 2 ^ 63 := by
    rw [Nat.and_comm]; exact Nat.and_lt_two_pow _ (by omega)
  show IntKind.i64.wrap ((BitVec.ofInt 64 (a : Int) &&& ~~~ BitVec.ofInt 64 (b : Int)).toNat : Int) = _
  rw [BitVec.toNat_and, BitVec.toNat_not, ofInt_i64 a ha, ofInt_i64 b hb, IntKind.wrap_i64]
  have e : 2 ^ 64 - 1 - b = 18446744073709551615 - b := by omega
  rw [e]
  omega

theorem i64_andNot_neg (a : Int) (b : Nat) (h0 : -9223372036854775808 ≤ a) (h1 : a < 0) (hb : b < 9223372036854775808) : bits .andNot .i64 a (b : Int) ≠ 0 := by
  obtain ⟨n, hn, e⟩ : ∃ n : Nat, n < 9223372036854775808 ∧ (BitVec.ofInt 64 a).toNat = n + 9223372036854775808 := by
    refine ⟨(a + 9223372036854775808).toNat, by omega, ?_⟩
    rw [BitVec.toNat_ofInt]; omega
  show IntKind.i64.wrap ((BitVec.ofInt 64 a &&& ~~~ BitVec.ofInt 64 (b : Int)).toNat : Int) ≠ 0
  rw [BitVec.toNat_and, BitVec.toNat_not, ofInt_i64 b hb, e, IntKind.wrap_i64]
  have t : ((n + 9223372036854775808) &&& (2 ^ 64 - 1 - b)).testBit 63 = true := by
    rw [Nat.testBit_and, Bool.and_eq_true]
    constructor
    · rw [Nat.add_comm, show (9223372036854775808 : Nat) = 2 ^ 63 from rfl, Nat.testBit_two_pow_add_eq, Nat.testBit_lt_two_pow (by omega)]; rfl
    · obtain ⟨m, hm, e2⟩ : ∃ m : Nat, m < 2 ^ 63 ∧ 2 ^ 64 - 1 - b = 2 ^ 63 + m := ⟨9223372036854775807 - b, by omega, by omega⟩
      rw [e2, Nat.testBit_two_pow_add_eq, Nat.testBit_lt_two_pow hm]; rfl
  have g : 2 ^ 63 ≤ ((n + 9223372036854775808) &&& (2 ^ 64 - 1 - b)) := Nat.ge_two_pow_of_testBit t
  have l : ((n + 9223372036854775808) &&& (2 ^ 64 - 1 - b)) < 2 ^ 64 := Nat.and_lt_two_pow _ (by omega)
  omega

/-- A number and the other bits of a mask of eight low bits and one upper one: nothing, just if beside the low ones it has that one alone. -/
theorem and_zero (l p : Nat) (hp : 8 ≤ p) (hp2 : p < 63) (hl : l < 9223372036854775808) : (l &&& (18446744073709551615 - (255 + 2 ^ p))) = 0 ↔ l < 256 ∨ (2 ^ p ≤ l ∧ l < 2 ^ p + 256) := by
  have hpow : 2 ^ p ≤ 2 ^ 62 := Nat.pow_le_pow_right (by decide) (by omega)
  have hpow8 : 2 ^ 8 ≤ 2 ^ p := Nat.pow_le_pow_right (by decide) hp
  have hm : ∀ i, i < 64 → (18446744073709551615 - (255 + 2 ^ p)).testBit i = !((255 + 2 ^ p).testBit i) := by
    intro i hi
    have : 18446744073709551615 - (255 + 2 ^ p) = 2 ^ 64 - ((255 + 2 ^ p) + 1) := by omega
    rw [this, Nat.testBit_two_pow_sub_succ (by omega)]
    simp [hi]
  have ht : ∀ i, (255 + 2 ^ p).testBit i = (decide (i < 8) || decide (i = p)) := by
    intro i
    rw [Nat.add_comm]
    have e1 := Nat.two_pow_add_eq_or_of_lt (i := p) (b := 255) (by omega) 1
    rw [Nat.mul_one] at e1
    rw [e1, Nat.testBit_or, Nat.testBit_two_pow, show (255 : Nat) = 2 ^ 8 - 1 from rfl, Nat.testBit_two_pow_sub_one]
    rw [Bool.or_comm]
    congr 1
    rw [decide_eq_decide]; exact eq_comm
  constructor
  · intro h
    have hz : ∀ i, l.testBit i = true → i < 8 ∨ i = p := by
      intro i hi
      by_cases h64 : i < 64
      · have := congrArg (fun x => Nat.testBit x i) h
        simp only [Nat.testBit_and, hm i h64, ht i, hi, Nat.zero_testBit, Bool.true_and] at this
        have h2 : 8 ≤ i → i = p := by simpa using this
        omega
      · have : l < 2 ^ i := Nat.lt_of_lt_of_le hl (Nat.pow_le_pow_right (n := 2) (by decide) (show 63 ≤ i by omega))
        rw [Nat.testBit_lt_two_pow this] at hi; cases hi
    cases hb : l.testBit p
    · refine .inl ?_
      apply Nat.lt_pow_two_of_testBit (n := 8)
      intro i hi
      cases hc : l.testBit i
      · rfl
      · rcases hz i hc with h' | rfl
        · omega
        · rw [hb] at hc; cases hc
    · refine .inr ?_
      have h1 : 2 ^ p ≤ l := Nat.ge_two_pow_of_testBit hb
      refine ⟨h1, ?_⟩
      have : l - 2 ^ p < 2 ^ 8 := by
        apply Nat.lt_pow_two_of_testBit (n := 8)
        intro i hi
        have e : l = 2 ^ p + (l - 2 ^ p) := by omega
        have hlt : l < 2 ^ (p + 1) := by
          apply Nat.lt_pow_two_of_testBit
          intro j hj
          cases hc : l.testBit j
          · rfl
          · rcases hz j hc with h' | rfl <;> omega
        have hs : l - 2 ^ p < 2 ^ p := by rw [Nat.pow_succ] at hlt; omega
        cases hc : (l - 2 ^ p).testBit i
        · rfl
        · have hip : i < p := by
            rcases Nat.lt_or_ge i p with h' | h'
            · exact h'
            · rw [Nat.testBit_lt_two_pow (Nat.lt_of_lt_of_le hs (Nat.pow_le_pow_right (by decide) h'))] at hc; cases hc
          have hl' : l.testBit i = true := by rw [e, Nat.testBit_two_pow_add_gt hip]; exact hc
          rcases hz i hl' with h' | h' <;> omega
      omega
  · intro h
    apply Nat.eq_of_testBit_eq
    intro i
    rw [Nat.testBit_and, Nat.zero_testBit]
    by_cases h64 : i < 64
    · rw [hm i h64, ht i]
      cases hc : l.testBit i
      · rfl
      · have : i < 8 ∨ i = p := by
          rcases h with h | ⟨h1, h2⟩
          · rcases Nat.lt_or_ge i 8 with h' | h'
            · exact .inl h'
            · rw [Nat.testBit_lt_two_pow (Nat.lt_of_lt_of_le (show l < 2 ^ 8 by omega) (Nat.pow_le_pow_right (by decide) h'))] at hc; cases hc
          · have e : l = 2 ^ p + (l - 2 ^ p) := by omega
            rw [e] at hc
            rcases Nat.lt_trichotomy i p with h' | h' | h'
            · rw [Nat.testBit_two_pow_add_gt h'] at hc
              rcases Nat.lt_or_ge i 8 with h8 | h8
              · exact .inl h8
              · rw [Nat.testBit_lt_two_pow (Nat.lt_of_lt_of_le (show l - 2 ^ p < 2 ^ 8 by omega) (Nat.pow_le_pow_right (by decide) h8))] at hc; cases hc
            · exact .inr h'
            · have : 2 ^ p + (l - 2 ^ p) < 2 ^ (p + 1) := by rw [Nat.pow_succ]; omega
              rw [Nat.testBit_lt_two_pow (Nat.lt_of_lt_of_le this (Nat.pow_le_pow_right (by decide) h'))] at hc; cases hc
        simp; omega
    · rw [Nat.testBit_lt_two_pow (Nat.lt_of_lt_of_le hl (Nat.pow_le_pow_right (n := 2) (by decide) (show 63 ≤ i by omega)))]; rfl

theorem som_eq (l : Int) (p : Nat) (hp : 8 ≤ p) (hp2 : p < 63) (m q : Int) (hm : m = ((255 + 2 ^ p : Nat) : Int)) (hq : q = ((2 ^ p : Nat) : Int)) (h0 : -9223372036854775808 ≤ l) (h1 : l ≤ 9223372036854775807) :
    som l m = (wi l 1 255 || wi l q (q + 255)) := by
  have hpow : 2 ^ p ≤ 2 ^ 62 := Nat.pow_le_pow_right (by decide) (by omega)
  have hpow8 : 2 ^ 8 ≤ 2 ^ p := Nat.pow_le_pow_right (by decide) hp
  subst hm hq
  unfold som wi
  by_cases h : l < 0
  · rw [decide_eq_false (i64_andNot_neg l _ h0 h (by omega)), Bool.and_false, eq_comm, Bool.or_eq_false_iff, decide_eq_false_iff_not, decide_eq_false_iff_not]; constructor <;> omega
  · obtain ⟨n, rfl⟩ := Int.eq_ofNat_of_zero_le (show 0 ≤ l by omega)
    rw [i64_andNot_nat n _ (by omega) (by omega)]
    have := and_zero n p hp hp2 (by omega)
    rw [Bool.eq_iff_iff]
    simp only [Bool.and_eq_true, Bool.or_eq_true, decide_eq_true_eq]
    have e : ((n &&& (18446744073709551615 - (255 + 2 ^ p)) : Nat) : Int) = 0 ↔ (n &&& (18446744073709551615 - (255 + 2 ^ p))) = 0 := by omega
    rw [e, this]
    omega

theorem som_push (l : Int) (h0 : -9223372036854775808 ≤ l) (h1 : l ≤ 9223372036854775807) : som l 16639 = (wi l 1 255 || wi l 16384 16639) :=
  som_eq l 14 (by decide) (by decide) 16639 16384 (by decide) (by decide) h0 h1
theorem som_pop (l : Int) (h0 : -9223372036854775808 ≤ l) (h1 : l ≤ 9223372036854775807) : som l 33023 = (wi l 1 255 || wi l 32768 33023) :=
  som_eq l 15 (by decide) (by decide) 33023 32768 (by decide) (by decide) h0 h1

theorem low_eq (r : Int) : low r = wi r 0 7 := rfl

set_option maxHeartbeats 2000000 in
/-- Both ways, at one shape. -/
theorem at_shape (f s rd rn rm ra im kd bs st cd rg : Int) (h1 : 1 ≤ s) (h2 : s ≤ 34) (h29 : f = 29 → s = 6) (g0 : -9223372036854775808 ≤ rg) (g1 : rg ≤ 9223372036854775807) :
    (regR s rd rn rm ra && (pairR f s rd rm ra && (immR f s im && (shiR s kd bs && (setR s st && (cndR s cd && rgsR s rg)))))) =
    (if s < 17 then narrowB f s rd rn rm ra im kd bs st cd rg else wideB s rd rn rm ra im kd bs st cd rg) := by
  have hp := som_push rg g0 g1
  have hq := som_pop rg g0 g1
  have hw := wrd_eq im
  have hb := brl_eq kd bs
  obtain ⟨bw, hbw⟩ : ∃ b, wrf im = b := ⟨_, rfl⟩
  obtain ⟨bb, hbb⟩ : ∃ b, brf kd bs = b := ⟨_, rfl⟩
  rw [hbw] at hw
  rw [hbb] at hb
  by_cases hf : f = 29
  · obtain rfl := h29 hf
    subst hf
    simp only [regR, pairR, immR, shiR, setR, cndR, rgsR, narrowB, inB, cls_low, cls_any, cls_wide, cls_none, low_eq, only, may, wid]
    simp +decide only [if_true, if_false]
    rw [Bool.eq_iff_iff]
    simp +decide only [wi, Bool.and_eq_true, Bool.or_eq_true, Bool.not_eq_true', decide_eq_true_eq, decide_eq_false_iff_not, Bool.false_eq_true, false_and, and_false, or_false, false_or, true_or, or_true, true_and, and_true, not_true, not_false_iff, ne_eq]
    omega
  clear h29
  obtain rfl | rfl | rfl | rfl | rfl | rfl | rfl | rfl | rfl | rfl | rfl | rfl | rfl | rfl | rfl | rfl | rfl | rfl | rfl | rfl | rfl | rfl | rfl | rfl | rfl | rfl | rfl | rfl | rfl | rfl | rfl | rfl | rfl | rfl : s = 1 ∨ s = 2 ∨ s = 3 ∨ s = 4 ∨ s = 5 ∨ s = 6 ∨ s = 7 ∨ s = 8 ∨ s = 9 ∨ s = 10 ∨ s = 11 ∨ s = 12 ∨ s = 13 ∨ s = 14 ∨ s = 15 ∨ s = 16 ∨ s = 17 ∨ s = 18 ∨ s = 19 ∨ s = 20 ∨ s = 21 ∨ s = 22 ∨ s = 23 ∨ s = 24 ∨ s = 25 ∨ s = 26 ∨ s = 27 ∨ s = 28 ∨ s = 29 ∨ s = 30 ∨ s = 31 ∨ s = 32 ∨ s = 33 ∨ s = 34 := by omega
  all_goals
    simp only [regR, pairR, immR, shiR, setR, cndR, rgsR, narrowB, plainB, wideB, moreB, inB, cls_low, cls_any, cls_wide, cls_none, stp1, stp2, stp4, hp, hq, hw, hb, hbw, hbb, low_eq, only, may, wid]
    clear hp hq hw hb hbw hbb g0 g1
    simp +decide only [if_true, if_false]
    rw [Bool.eq_iff_iff]
    by_cases h1f : f = 1 <;> simp +decide only [hf, h1f, wi, if_true, if_false, Bool.and_eq_true, Bool.or_eq_true, Bool.not_eq_true', decide_eq_true_eq, decide_eq_false_iff_not, Bool.false_eq_true, false_and, and_false, or_false, false_or, true_or, or_true, or_false, true_and, and_true, not_true, not_false_iff, ne_eq, decide_true, decide_false] <;> first | omega | (cases bw <;> cases bb <;> simp only [Bool.false_eq_true, and_false, false_and, true_and, and_true, eq_self, iff_self] <;> omega)

theorem right_eq (f rd rn rm ra im kd bs st cd rg : Int) (g0 : -9223372036854775808 ≤ rg) (g1 : rg ≤ 9223372036854775807) :
    right f rd rn rm ra im kd bs st cd rg = refR f rd rn rm ra im kd bs st cd rg := by
  unfold right refR
  cases h : isF f
  · rw [shp_no h]; rfl
  · have hs := shp_yes h
    rw [Bool.true_and, if_neg (by omega)]
    exact at_shape f (shp f) rd rn rm ra im kd bs st cd rg hs.1 hs.2.1 hs.2.2 g0 g1

end Go.Proofs.YtegefbndpkbooaaDoor.Inst

