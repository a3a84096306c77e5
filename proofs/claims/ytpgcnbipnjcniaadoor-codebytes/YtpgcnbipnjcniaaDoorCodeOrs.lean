/- Ors of parts that have no bit in common, as sums. -/
import Derived.Test.YtpgcnbipnjcniaaDoorCodeOr
set_option linter.unusedVariables false
namespace Go.Proofs.YtpgcnbipnjcniaaDoor.Code

theorem or_tw {a b c : Int} (ha : 0 ≤ a ∧ a ≤ 1) (hb : 0 ≤ b ∧ b ≤ 7) (hc : 0 ≤ c ∧ c ≤ 255) : (bits .or .u32 (bits .or .u32 (a * 67108864) (b * 4096)) c) = ((a * 67108864 + b * 4096) + c) ∧ In ((a * 67108864 + b * 4096) + c) 67137791 := by
  have p0 : In (a * 67108864) 67108864 := in_piece 1 26 67108864 67108864 a _ (by decide) (by decide) (by omega) (by omega) (by decide) (by omega)
  have p1 : In (b * 4096) 28672 := in_piece 3 12 4096 28672 b _ (by decide) (by decide) (by omega) (by omega) (by decide) (by omega)
  obtain ⟨q2, p2⟩ := in_join p0 p1 (by decide)
  have p3 : In (c) 255 := in_piece 8 0 1 255 c _ (by decide) (by decide) (by omega) (by omega) (by decide) (by omega)
  obtain ⟨q4, p4⟩ := in_join p2 p3 (by decide)
  rw [q2, q4]
  exact ⟨rfl, p4⟩

theorem or_cw {a b c d e : Int} (ha : 0 ≤ a ∧ a ≤ 1) (hb : 0 ≤ b ∧ b ≤ 63) (hc : 0 ≤ c ∧ c ≤ 1) (hd : 0 ≤ d ∧ d ≤ 1) (he : 0 ≤ e ∧ e ≤ 2047) : (bits .or .u32 (bits .or .u32 (bits .or .u32 (bits .or .u32 (a * 67108864) (b * 65536)) (c * 8192)) (d * 2048)) e) = ((((a * 67108864 + b * 65536) + c * 8192) + d * 2048) + e) ∧ In ((((a * 67108864 + b * 65536) + c * 8192) + d * 2048) + e) 71249919 := by
  have p0 : In (a * 67108864) 67108864 := in_piece 1 26 67108864 67108864 a _ (by decide) (by decide) (by omega) (by omega) (by decide) (by omega)
  have p1 : In (b * 65536) 4128768 := in_piece 6 16 65536 4128768 b _ (by decide) (by decide) (by omega) (by omega) (by decide) (by omega)
  obtain ⟨q2, p2⟩ := in_join p0 p1 (by decide)
  have p3 : In (c * 8192) 8192 := in_piece 1 13 8192 8192 c _ (by decide) (by decide) (by omega) (by omega) (by decide) (by omega)
  obtain ⟨q4, p4⟩ := in_join p2 p3 (by decide)
  have p5 : In (d * 2048) 2048 := in_piece 1 11 2048 2048 d _ (by decide) (by decide) (by omega) (by omega) (by decide) (by omega)
  obtain ⟨q6, p6⟩ := in_join p4 p5 (by decide)
  have p7 : In (e) 2047 := in_piece 11 0 1 2047 e _ (by decide) (by decide) (by omega) (by omega) (by decide) (by omega)
  obtain ⟨q8, p8⟩ := in_join p6 p7 (by decide)
  rw [q2, q4, q6, q8]
  exact ⟨rfl, p8⟩

theorem or_jw {a b c d e : Int} (ha : 0 ≤ a ∧ a ≤ 1) (hb : 0 ≤ b ∧ b ≤ 1023) (hc : 0 ≤ c ∧ c ≤ 1) (hd : 0 ≤ d ∧ d ≤ 1) (he : 0 ≤ e ∧ e ≤ 2047) : (bits .or .u32 (bits .or .u32 (bits .or .u32 (bits .or .u32 (a * 67108864) (b * 65536)) (c * 8192)) (d * 2048)) e) = ((((a * 67108864 + b * 65536) + c * 8192) + d * 2048) + e) ∧ In ((((a * 67108864 + b * 65536) + c * 8192) + d * 2048) + e) 134164479 := by
  have p0 : In (a * 67108864) 67108864 := in_piece 1 26 67108864 67108864 a _ (by decide) (by decide) (by omega) (by omega) (by decide) (by omega)
  have p1 : In (b * 65536) 67043328 := in_piece 10 16 65536 67043328 b _ (by decide) (by decide) (by omega) (by omega) (by decide) (by omega)
  obtain ⟨q2, p2⟩ := in_join p0 p1 (by decide)
  have p3 : In (c * 8192) 8192 := in_piece 1 13 8192 8192 c _ (by decide) (by decide) (by omega) (by omega) (by decide) (by omega)
  obtain ⟨q4, p4⟩ := in_join p2 p3 (by decide)
  have p5 : In (d * 2048) 2048 := in_piece 1 11 2048 2048 d _ (by decide) (by decide) (by omega) (by omega) (by decide) (by omega)
  obtain ⟨q6, p6⟩ := in_join p4 p5 (by decide)
  have p7 : In (e) 2047 := in_piece 11 0 1 2047 e _ (by decide) (by decide) (by omega) (by omega) (by decide) (by omega)
  obtain ⟨q8, p8⟩ := in_join p6 p7 (by decide)
  rw [q2, q4, q6, q8]
  exact ⟨rfl, p8⟩

theorem or_ot {a b c : Int} (ha : 0 ≤ a ∧ a ≤ 1) (hb : 0 ≤ b ∧ b ≤ 7) (hc : 0 ≤ c ∧ c ≤ 255) : (bits .or .i64 (bits .or .i64 (a * 2048) (b * 256)) c) = ((a * 2048 + b * 256) + c) ∧ In ((a * 2048 + b * 256) + c) 4095 := by
  have p0 : In (a * 2048) 2048 := in_piece 1 11 2048 2048 a _ (by decide) (by decide) (by omega) (by omega) (by decide) (by omega)
  have p1 : In (b * 256) 1792 := in_piece 3 8 256 1792 b _ (by decide) (by decide) (by omega) (by omega) (by decide) (by omega)
  obtain ⟨q2, p2⟩ := in_join64 p0 p1 (by decide)
  have p3 : In (c) 255 := in_piece 8 0 1 255 c _ (by decide) (by decide) (by omega) (by omega) (by decide) (by omega)
  obtain ⟨q4, p4⟩ := in_join64 p2 p3 (by decide)
  rw [q2, q4]
  exact ⟨rfl, p4⟩

theorem or_oc {a b c d e : Int} (ha : 0 ≤ a ∧ a ≤ 1) (hb : 0 ≤ b ∧ b ≤ 1) (hc : 0 ≤ c ∧ c ≤ 1) (hd : 0 ≤ d ∧ d ≤ 63) (he : 0 ≤ e ∧ e ≤ 2047) : (bits .or .u32 (bits .or .u32 (bits .or .u32 (bits .or .u32 (a * 1048576) (b * 524288)) (c * 262144)) (d * 4096)) (e * 2)) = ((((a * 1048576 + b * 524288) + c * 262144) + d * 4096) + e * 2) ∧ In ((((a * 1048576 + b * 524288) + c * 262144) + d * 4096) + e * 2) 2097150 := by
  have p0 : In (a * 1048576) 1048576 := in_piece 1 20 1048576 1048576 a _ (by decide) (by decide) (by omega) (by omega) (by decide) (by omega)
  have p1 : In (b * 524288) 524288 := in_piece 1 19 524288 524288 b _ (by decide) (by decide) (by omega) (by omega) (by decide) (by omega)
  obtain ⟨q2, p2⟩ := in_join p0 p1 (by decide)
  have p3 : In (c * 262144) 262144 := in_piece 1 18 262144 262144 c _ (by decide) (by decide) (by omega) (by omega) (by decide) (by omega)
  obtain ⟨q4, p4⟩ := in_join p2 p3 (by decide)
  have p5 : In (d * 4096) 258048 := in_piece 6 12 4096 258048 d _ (by decide) (by decide) (by omega) (by omega) (by decide) (by omega)
  obtain ⟨q6, p6⟩ := in_join p4 p5 (by decide)
  have p7 : In (e * 2) 4094 := in_piece 11 1 2 4094 e _ (by decide) (by decide) (by omega) (by omega) (by decide) (by omega)
  obtain ⟨q8, p8⟩ := in_join p6 p7 (by decide)
  rw [q2, q4, q6, q8]
  exact ⟨rfl, p8⟩

theorem or_oj {a b c d e : Int} (ha : 0 ≤ a ∧ a ≤ 1) (hb : 0 ≤ b ∧ b ≤ 1) (hc : 0 ≤ c ∧ c ≤ 1) (hd : 0 ≤ d ∧ d ≤ 1023) (he : 0 ≤ e ∧ e ≤ 2047) : (bits .or .u32 (bits .or .u32 (bits .or .u32 (bits .or .u32 (a * 16777216) (b * 8388608)) (c * 4194304)) (d * 4096)) (e * 2)) = ((((a * 16777216 + b * 8388608) + c * 4194304) + d * 4096) + e * 2) ∧ In ((((a * 16777216 + b * 8388608) + c * 4194304) + d * 4096) + e * 2) 33554430 := by
  have p0 : In (a * 16777216) 16777216 := in_piece 1 24 16777216 16777216 a _ (by decide) (by decide) (by omega) (by omega) (by decide) (by omega)
  have p1 : In (b * 8388608) 8388608 := in_piece 1 23 8388608 8388608 b _ (by decide) (by decide) (by omega) (by omega) (by decide) (by omega)
  obtain ⟨q2, p2⟩ := in_join p0 p1 (by decide)
  have p3 : In (c * 4194304) 4194304 := in_piece 1 22 4194304 4194304 c _ (by decide) (by decide) (by omega) (by omega) (by decide) (by omega)
  obtain ⟨q4, p4⟩ := in_join p2 p3 (by decide)
  have p5 : In (d * 4096) 4190208 := in_piece 10 12 4096 4190208 d _ (by decide) (by decide) (by omega) (by omega) (by decide) (by omega)
  obtain ⟨q6, p6⟩ := in_join p4 p5 (by decide)
  have p7 : In (e * 2) 4094 := in_piece 11 1 2 4094 e _ (by decide) (by decide) (by omega) (by omega) (by decide) (by omega)
  obtain ⟨q8, p8⟩ := in_join p6 p7 (by decide)
  rw [q2, q4, q6, q8]
  exact ⟨rfl, p8⟩

theorem or_1 {a b c : Int} (ha : 0 ≤ a ∧ a ≤ 31) (hb : 0 ≤ b ∧ b ≤ 7) (hc : 0 ≤ c ∧ c ≤ 7) : (bits .or .u32 (bits .or .u32 (a * 64) (b * 8)) c) = ((a * 64 + b * 8) + c) ∧ In ((a * 64 + b * 8) + c) 2047 := by
  have p0 : In (a * 64) 1984 := in_piece 5 6 64 1984 a _ (by decide) (by decide) (by omega) (by omega) (by decide) (by omega)
  have p1 : In (b * 8) 56 := in_piece 3 3 8 56 b _ (by decide) (by decide) (by omega) (by omega) (by decide) (by omega)
  obtain ⟨q2, p2⟩ := in_join p0 p1 (by decide)
  have p3 : In (c) 7 := in_piece 3 0 1 7 c _ (by decide) (by decide) (by omega) (by omega) (by decide) (by omega)
  obtain ⟨q4, p4⟩ := in_join p2 p3 (by decide)
  rw [q2, q4]
  exact ⟨rfl, p4⟩

theorem or_2 {a b c : Int} (ha : 0 ≤ a ∧ a ≤ 7) (hb : 0 ≤ b ∧ b ≤ 7) (hc : 0 ≤ c ∧ c ≤ 7) : (bits .or .u32 (bits .or .u32 (a * 64) (b * 8)) c) = ((a * 64 + b * 8) + c) ∧ In ((a * 64 + b * 8) + c) 511 := by
  have p0 : In (a * 64) 448 := in_piece 3 6 64 448 a _ (by decide) (by decide) (by omega) (by omega) (by decide) (by omega)
  have p1 : In (b * 8) 56 := in_piece 3 3 8 56 b _ (by decide) (by decide) (by omega) (by omega) (by decide) (by omega)
  obtain ⟨q2, p2⟩ := in_join p0 p1 (by decide)
  have p3 : In (c) 7 := in_piece 3 0 1 7 c _ (by decide) (by decide) (by omega) (by omega) (by decide) (by omega)
  obtain ⟨q4, p4⟩ := in_join p2 p3 (by decide)
  rw [q2, q4]
  exact ⟨rfl, p4⟩

theorem or_4 {a b : Int} (ha : 0 ≤ a ∧ a ≤ 7) (hb : 0 ≤ b ∧ b ≤ 255) : (bits .or .u32 (a * 256) b) = (a * 256 + b) ∧ In (a * 256 + b) 2047 := by
  have p0 : In (a * 256) 1792 := in_piece 3 8 256 1792 a _ (by decide) (by decide) (by omega) (by omega) (by decide) (by omega)
  have p1 : In (b) 255 := in_piece 8 0 1 255 b _ (by decide) (by decide) (by omega) (by omega) (by decide) (by omega)
  obtain ⟨q2, p2⟩ := in_join p0 p1 (by decide)
  rw [q2]
  exact ⟨rfl, p2⟩

theorem or_5 {a b : Int} (ha : 0 ≤ a ∧ a ≤ 7) (hb : 0 ≤ b ∧ b ≤ 7) : (bits .or .u32 (a * 8) b) = (a * 8 + b) ∧ In (a * 8 + b) 63 := by
  have p0 : In (a * 8) 56 := in_piece 3 3 8 56 a _ (by decide) (by decide) (by omega) (by omega) (by decide) (by omega)
  have p1 : In (b) 7 := in_piece 3 0 1 7 b _ (by decide) (by decide) (by omega) (by omega) (by decide) (by omega)
  obtain ⟨q2, p2⟩ := in_join p0 p1 (by decide)
  rw [q2]
  exact ⟨rfl, p2⟩

theorem or_6 {a b c : Int} (ha : 0 ≤ a ∧ a ≤ 1) (hb : 0 ≤ b ∧ b ≤ 15) (hc : 0 ≤ c ∧ c ≤ 7) : (bits .or .u32 (bits .or .u32 (a * 128) (b * 8)) c) = ((a * 128 + b * 8) + c) ∧ In ((a * 128 + b * 8) + c) 255 := by
  have p0 : In (a * 128) 128 := in_piece 1 7 128 128 a _ (by decide) (by decide) (by omega) (by omega) (by decide) (by omega)
  have p1 : In (b * 8) 120 := in_piece 4 3 8 120 b _ (by decide) (by decide) (by omega) (by omega) (by decide) (by omega)
  obtain ⟨q2, p2⟩ := in_join p0 p1 (by decide)
  have p3 : In (c) 7 := in_piece 3 0 1 7 c _ (by decide) (by decide) (by omega) (by omega) (by decide) (by omega)
  obtain ⟨q4, p4⟩ := in_join p2 p3 (by decide)
  rw [q2, q4]
  exact ⟨rfl, p4⟩

theorem or_11 {a b : Int} (ha : 0 ≤ a ∧ a ≤ 1) (hb : 0 ≤ b ∧ b ≤ 255) : (bits .or .u32 (a * 256) b) = (a * 256 + b) ∧ In (a * 256 + b) 511 := by
  have p0 : In (a * 256) 256 := in_piece 1 8 256 256 a _ (by decide) (by decide) (by omega) (by omega) (by decide) (by omega)
  have p1 : In (b) 255 := in_piece 8 0 1 255 b _ (by decide) (by decide) (by omega) (by omega) (by decide) (by omega)
  obtain ⟨q2, p2⟩ := in_join p0 p1 (by decide)
  rw [q2]
  exact ⟨rfl, p2⟩

theorem or_15 {a b : Int} (ha : 0 ≤ a ∧ a ≤ 15) (hb : 0 ≤ b ∧ b ≤ 255) : (bits .or .u32 (a * 256) b) = (a * 256 + b) ∧ In (a * 256 + b) 4095 := by
  have p0 : In (a * 256) 3840 := in_piece 4 8 256 3840 a _ (by decide) (by decide) (by omega) (by omega) (by decide) (by omega)
  have p1 : In (b) 255 := in_piece 8 0 1 255 b _ (by decide) (by decide) (by omega) (by omega) (by decide) (by omega)
  obtain ⟨q2, p2⟩ := in_join p0 p1 (by decide)
  rw [q2]
  exact ⟨rfl, p2⟩

theorem or_17 {a b t u v : Int} (ha : 0 ≤ a ∧ a ≤ 15) (hb : 0 ≤ b ∧ b ≤ 15) (ht : 0 ≤ t ∧ t ≤ 1) (hu : 0 ≤ u ∧ u ≤ 7) (hv : 0 ≤ v ∧ v ≤ 255) : (bits .or .u32 (bits .or .u32 (a * 65536) (b * 256)) (bits .or .u32 (bits .or .u32 (t * 67108864) (u * 4096)) v)) = ((a * 65536 + b * 256) + ((t * 67108864 + u * 4096) + v)) ∧ In ((a * 65536 + b * 256) + ((t * 67108864 + u * 4096) + v)) 68124671 := by
  have p0 : In (a * 65536) 983040 := in_piece 4 16 65536 983040 a _ (by decide) (by decide) (by omega) (by omega) (by decide) (by omega)
  have p1 : In (b * 256) 3840 := in_piece 4 8 256 3840 b _ (by decide) (by decide) (by omega) (by omega) (by decide) (by omega)
  obtain ⟨q2, p2⟩ := in_join p0 p1 (by decide)
  have p3 : In (t * 67108864) 67108864 := in_piece 1 26 67108864 67108864 t _ (by decide) (by decide) (by omega) (by omega) (by decide) (by omega)
  have p4 : In (u * 4096) 28672 := in_piece 3 12 4096 28672 u _ (by decide) (by decide) (by omega) (by omega) (by decide) (by omega)
  obtain ⟨q5, p5⟩ := in_join p3 p4 (by decide)
  have p6 : In (v) 255 := in_piece 8 0 1 255 v _ (by decide) (by decide) (by omega) (by omega) (by decide) (by omega)
  obtain ⟨q7, p7⟩ := in_join p5 p6 (by decide)
  obtain ⟨q8, p8⟩ := in_join p2 p7 (by decide)
  rw [q2, q5, q7, q8]
  exact ⟨rfl, p8⟩

theorem or_18 {a b c t u v : Int} (ha : 0 ≤ a ∧ a ≤ 1) (hb : 0 ≤ b ∧ b ≤ 15) (hc : 0 ≤ c ∧ c ≤ 15) (ht : 0 ≤ t ∧ t ≤ 1) (hu : 0 ≤ u ∧ u ≤ 7) (hv : 0 ≤ v ∧ v ≤ 255) : (bits .or .u32 (bits .or .u32 (bits .or .u32 (a * 1048576) (b * 65536)) (c * 256)) (bits .or .u32 (bits .or .u32 (t * 67108864) (u * 4096)) v)) = (((a * 1048576 + b * 65536) + c * 256) + ((t * 67108864 + u * 4096) + v)) ∧ In (((a * 1048576 + b * 65536) + c * 256) + ((t * 67108864 + u * 4096) + v)) 69173247 := by
  have p0 : In (a * 1048576) 1048576 := in_piece 1 20 1048576 1048576 a _ (by decide) (by decide) (by omega) (by omega) (by decide) (by omega)
  have p1 : In (b * 65536) 983040 := in_piece 4 16 65536 983040 b _ (by decide) (by decide) (by omega) (by omega) (by decide) (by omega)
  obtain ⟨q2, p2⟩ := in_join p0 p1 (by decide)
  have p3 : In (c * 256) 3840 := in_piece 4 8 256 3840 c _ (by decide) (by decide) (by omega) (by omega) (by decide) (by omega)
  obtain ⟨q4, p4⟩ := in_join p2 p3 (by decide)
  have p5 : In (t * 67108864) 67108864 := in_piece 1 26 67108864 67108864 t _ (by decide) (by decide) (by omega) (by omega) (by decide) (by omega)
  have p6 : In (u * 4096) 28672 := in_piece 3 12 4096 28672 u _ (by decide) (by decide) (by omega) (by omega) (by decide) (by omega)
  obtain ⟨q7, p7⟩ := in_join p5 p6 (by decide)
  have p8 : In (v) 255 := in_piece 8 0 1 255 v _ (by decide) (by decide) (by omega) (by omega) (by decide) (by omega)
  obtain ⟨q9, p9⟩ := in_join p7 p8 (by decide)
  obtain ⟨q10, p10⟩ := in_join p4 p9 (by decide)
  rw [q2, q4, q7, q9, q10]
  exact ⟨rfl, p10⟩

theorem or_21 {a b c d e g i : Int} (ha : 0 ≤ a ∧ a ≤ 1) (hb : 0 ≤ b ∧ b ≤ 15) (hc : 0 ≤ c ∧ c ≤ 7) (hd : 0 ≤ d ∧ d ≤ 15) (he : 0 ≤ e ∧ e ≤ 3) (hg : 0 ≤ g ∧ g ≤ 3) (hi : 0 ≤ i ∧ i ≤ 15) : (bits .or .u32 (bits .or .u32 (bits .or .u32 (bits .or .u32 (bits .or .u32 (bits .or .u32 (a * 1048576) (b * 65536)) (c * 4096)) (d * 256)) (e * 64)) (g * 16)) i) = ((((((a * 1048576 + b * 65536) + c * 4096) + d * 256) + e * 64) + g * 16) + i) ∧ In ((((((a * 1048576 + b * 65536) + c * 4096) + d * 256) + e * 64) + g * 16) + i) 2064383 := by
  have p0 : In (a * 1048576) 1048576 := in_piece 1 20 1048576 1048576 a _ (by decide) (by decide) (by omega) (by omega) (by decide) (by omega)
  have p1 : In (b * 65536) 983040 := in_piece 4 16 65536 983040 b _ (by decide) (by decide) (by omega) (by omega) (by decide) (by omega)
  obtain ⟨q2, p2⟩ := in_join p0 p1 (by decide)
  have p3 : In (c * 4096) 28672 := in_piece 3 12 4096 28672 c _ (by decide) (by decide) (by omega) (by omega) (by decide) (by omega)
  obtain ⟨q4, p4⟩ := in_join p2 p3 (by decide)
  have p5 : In (d * 256) 3840 := in_piece 4 8 256 3840 d _ (by decide) (by decide) (by omega) (by omega) (by decide) (by omega)
  obtain ⟨q6, p6⟩ := in_join p4 p5 (by decide)
  have p7 : In (e * 64) 192 := in_piece 2 6 64 192 e _ (by decide) (by decide) (by omega) (by omega) (by decide) (by omega)
  obtain ⟨q8, p8⟩ := in_join p6 p7 (by decide)
  have p9 : In (g * 16) 48 := in_piece 2 4 16 48 g _ (by decide) (by decide) (by omega) (by omega) (by decide) (by omega)
  obtain ⟨q10, p10⟩ := in_join p8 p9 (by decide)
  have p11 : In (i) 15 := in_piece 4 0 1 15 i _ (by decide) (by decide) (by omega) (by omega) (by decide) (by omega)
  obtain ⟨q12, p12⟩ := in_join p10 p11 (by decide)
  rw [q2, q4, q6, q8, q10, q12]
  exact ⟨rfl, p12⟩

theorem or_25 {a b c : Int} (ha : 0 ≤ a ∧ a ≤ 15) (hb : 0 ≤ b ∧ b ≤ 15) (hc : 0 ≤ c ∧ c ≤ 4095) : (bits .or .u32 (bits .or .u32 (a * 65536) (b * 4096)) c) = ((a * 65536 + b * 4096) + c) ∧ In ((a * 65536 + b * 4096) + c) 1048575 := by
  have p0 : In (a * 65536) 983040 := in_piece 4 16 65536 983040 a _ (by decide) (by decide) (by omega) (by omega) (by decide) (by omega)
  have p1 : In (b * 4096) 61440 := in_piece 4 12 4096 61440 b _ (by decide) (by decide) (by omega) (by omega) (by decide) (by omega)
  obtain ⟨q2, p2⟩ := in_join p0 p1 (by decide)
  have p3 : In (c) 4095 := in_piece 12 0 1 4095 c _ (by decide) (by decide) (by omega) (by omega) (by decide) (by omega)
  obtain ⟨q4, p4⟩ := in_join p2 p3 (by decide)
  rw [q2, q4]
  exact ⟨rfl, p4⟩

theorem or_26 {a b c d : Int} (ha : 0 ≤ a ∧ a ≤ 15) (hb : 0 ≤ b ∧ b ≤ 15) (hc : 0 ≤ c ∧ c ≤ 3) (hd : 0 ≤ d ∧ d ≤ 15) : (bits .or .u32 (bits .or .u32 (bits .or .u32 (a * 65536) (b * 4096)) (c * 16)) d) = (((a * 65536 + b * 4096) + c * 16) + d) ∧ In (((a * 65536 + b * 4096) + c * 16) + d) 1044543 := by
  have p0 : In (a * 65536) 983040 := in_piece 4 16 65536 983040 a _ (by decide) (by decide) (by omega) (by omega) (by decide) (by omega)
  have p1 : In (b * 4096) 61440 := in_piece 4 12 4096 61440 b _ (by decide) (by decide) (by omega) (by omega) (by decide) (by omega)
  obtain ⟨q2, p2⟩ := in_join p0 p1 (by decide)
  have p3 : In (c * 16) 48 := in_piece 2 4 16 48 c _ (by decide) (by decide) (by omega) (by omega) (by decide) (by omega)
  obtain ⟨q4, p4⟩ := in_join p2 p3 (by decide)
  have p5 : In (d) 15 := in_piece 4 0 1 15 d _ (by decide) (by decide) (by omega) (by omega) (by decide) (by omega)
  obtain ⟨q6, p6⟩ := in_join p4 p5 (by decide)
  rw [q2, q4, q6]
  exact ⟨rfl, p6⟩

theorem or_27 {a b c d e : Int} (ha : 0 ≤ a ∧ a ≤ 1) (hb : 0 ≤ b ∧ b ≤ 15) (hc : 0 ≤ c ∧ c ≤ 15) (hd : 0 ≤ d ∧ d ≤ 15) (he : 0 ≤ e ∧ e ≤ 15) : (bits .or .u32 (bits .or .u32 (bits .or .u32 (bits .or .u32 (a * 1048576) (b * 65536)) (c * 4096)) (d * 256)) e) = ((((a * 1048576 + b * 65536) + c * 4096) + d * 256) + e) ∧ In ((((a * 1048576 + b * 65536) + c * 4096) + d * 256) + e) 2096911 := by
  have p0 : In (a * 1048576) 1048576 := in_piece 1 20 1048576 1048576 a _ (by decide) (by decide) (by omega) (by omega) (by decide) (by omega)
  have p1 : In (b * 65536) 983040 := in_piece 4 16 65536 983040 b _ (by decide) (by decide) (by omega) (by omega) (by decide) (by omega)
  obtain ⟨q2, p2⟩ := in_join p0 p1 (by decide)
  have p3 : In (c * 4096) 61440 := in_piece 4 12 4096 61440 c _ (by decide) (by decide) (by omega) (by omega) (by decide) (by omega)
  obtain ⟨q4, p4⟩ := in_join p2 p3 (by decide)
  have p5 : In (d * 256) 3840 := in_piece 4 8 256 3840 d _ (by decide) (by decide) (by omega) (by omega) (by decide) (by omega)
  obtain ⟨q6, p6⟩ := in_join p4 p5 (by decide)
  have p7 : In (e) 15 := in_piece 4 0 1 15 e _ (by decide) (by decide) (by omega) (by omega) (by decide) (by omega)
  obtain ⟨q8, p8⟩ := in_join p6 p7 (by decide)
  rw [q2, q4, q6, q8]
  exact ⟨rfl, p8⟩

theorem or_31 {a b c d : Int} (ha : 0 ≤ a ∧ a ≤ 15) (hb : 0 ≤ b ∧ b ≤ 15) (hc : 0 ≤ c ∧ c ≤ 15) (hd : 0 ≤ d ∧ d ≤ 15) : (bits .or .u32 (bits .or .u32 (bits .or .u32 (a * 65536) (b * 4096)) (c * 256)) d) = (((a * 65536 + b * 4096) + c * 256) + d) ∧ In (((a * 65536 + b * 4096) + c * 256) + d) 1048335 := by
  have p0 : In (a * 65536) 983040 := in_piece 4 16 65536 983040 a _ (by decide) (by decide) (by omega) (by omega) (by decide) (by omega)
  have p1 : In (b * 4096) 61440 := in_piece 4 12 4096 61440 b _ (by decide) (by decide) (by omega) (by omega) (by decide) (by omega)
  obtain ⟨q2, p2⟩ := in_join p0 p1 (by decide)
  have p3 : In (c * 256) 3840 := in_piece 4 8 256 3840 c _ (by decide) (by decide) (by omega) (by omega) (by decide) (by omega)
  obtain ⟨q4, p4⟩ := in_join p2 p3 (by decide)
  have p5 : In (d) 15 := in_piece 4 0 1 15 d _ (by decide) (by decide) (by omega) (by omega) (by decide) (by omega)
  obtain ⟨q6, p6⟩ := in_join p4 p5 (by decide)
  rw [q2, q4, q6]
  exact ⟨rfl, p6⟩

theorem or_32 {a b c : Int} (ha : 0 ≤ a ∧ a ≤ 15) (hb : 0 ≤ b ∧ b ≤ 15) (hc : 0 ≤ c ∧ c ≤ 15) : (bits .or .u32 (bits .or .u32 (a * 65536) (b * 256)) c) = ((a * 65536 + b * 256) + c) ∧ In ((a * 65536 + b * 256) + c) 986895 := by
  have p0 : In (a * 65536) 983040 := in_piece 4 16 65536 983040 a _ (by decide) (by decide) (by omega) (by omega) (by decide) (by omega)
  have p1 : In (b * 256) 3840 := in_piece 4 8 256 3840 b _ (by decide) (by decide) (by omega) (by omega) (by decide) (by omega)
  obtain ⟨q2, p2⟩ := in_join p0 p1 (by decide)
  have p3 : In (c) 15 := in_piece 4 0 1 15 c _ (by decide) (by decide) (by omega) (by omega) (by decide) (by omega)
  obtain ⟨q4, p4⟩ := in_join p2 p3 (by decide)
  rw [q2, q4]
  exact ⟨rfl, p4⟩

theorem or_33 {a b c d e g : Int} (ha : 0 ≤ a ∧ a ≤ 1) (hb : 0 ≤ b ∧ b ≤ 63) (hc : 0 ≤ c ∧ c ≤ 1) (hd : 0 ≤ d ∧ d ≤ 1) (he : 0 ≤ e ∧ e ≤ 2047) (hg : 0 ≤ g ∧ g ≤ 15) : (bits .or .u32 (bits .or .u32 (bits .or .u32 (bits .or .u32 (bits .or .u32 (a * 67108864) (b * 65536)) (c * 8192)) (d * 2048)) e) (g * 4194304)) = (((((a * 67108864 + b * 65536) + c * 8192) + d * 2048) + e) + g * 4194304) ∧ In (((((a * 67108864 + b * 65536) + c * 8192) + d * 2048) + e) + g * 4194304) 134164479 := by
  have p0 : In (a * 67108864) 67108864 := in_piece 1 26 67108864 67108864 a _ (by decide) (by decide) (by omega) (by omega) (by decide) (by omega)
  have p1 : In (b * 65536) 4128768 := in_piece 6 16 65536 4128768 b _ (by decide) (by decide) (by omega) (by omega) (by decide) (by omega)
  obtain ⟨q2, p2⟩ := in_join p0 p1 (by decide)
  have p3 : In (c * 8192) 8192 := in_piece 1 13 8192 8192 c _ (by decide) (by decide) (by omega) (by omega) (by decide) (by omega)
  obtain ⟨q4, p4⟩ := in_join p2 p3 (by decide)
  have p5 : In (d * 2048) 2048 := in_piece 1 11 2048 2048 d _ (by decide) (by decide) (by omega) (by omega) (by decide) (by omega)
  obtain ⟨q6, p6⟩ := in_join p4 p5 (by decide)
  have p7 : In (e) 2047 := in_piece 11 0 1 2047 e _ (by decide) (by decide) (by omega) (by omega) (by decide) (by omega)
  obtain ⟨q8, p8⟩ := in_join p6 p7 (by decide)
  have p9 : In (g * 4194304) 62914560 := in_piece 4 22 4194304 62914560 g _ (by decide) (by decide) (by omega) (by omega) (by decide) (by omega)
  obtain ⟨q10, p10⟩ := in_join p8 p9 (by decide)
  rw [q2, q4, q6, q8, q10]
  exact ⟨rfl, p10⟩

end Go.Proofs.YtpgcnbipnjcniaaDoor.Code
