/- Ors of parts that have no bit in common, as sums, in int. -/
import Derived.Test.YtpgcnbipnjcniaaDoorCodeOr
set_option linter.unusedVariables false
namespace Go.Proofs.YtpgcnbipnjcniaaDoor.Code

theorem or_f6 {a b : Int} (ha : 0 ≤ a ∧ a ≤ 1) (hb : 0 ≤ b ∧ b ≤ 7) : (bits .or .i64 (a * 8) b) = (a * 8 + b) ∧ In (a * 8 + b) 15 := by
  have p0 : In (a * 8) 8 := in_piece 1 3 8 8 a _ (by decide) (by decide) (by omega) (by omega) (by decide) (by omega)
  have p1 : In (b) 7 := in_piece 3 0 1 7 b _ (by decide) (by decide) (by omega) (by omega) (by decide) (by omega)
  obtain ⟨q2, p2⟩ := in_join64 p0 p1 (by decide)
  rw [q2]
  exact ⟨rfl, p2⟩

theorem or_f11 {a b : Int} (ha : 0 ≤ a ∧ a ≤ 1) (hb : 0 ≤ b ∧ b ≤ 255) : (bits .or .i64 (a * 16384) b) = (a * 16384 + b) ∧ In (a * 16384 + b) 16639 := by
  have p0 : In (a * 16384) 16384 := in_piece 1 14 16384 16384 a _ (by decide) (by decide) (by omega) (by omega) (by decide) (by omega)
  have p1 : In (b) 255 := in_piece 8 0 1 255 b _ (by decide) (by decide) (by omega) (by omega) (by decide) (by omega)
  obtain ⟨q2, p2⟩ := in_join64 p0 p1 (by decide)
  rw [q2]
  exact ⟨rfl, p2⟩

theorem or_f12 {a b : Int} (ha : 0 ≤ a ∧ a ≤ 1) (hb : 0 ≤ b ∧ b ≤ 255) : (bits .or .i64 (a * 32768) b) = (a * 32768 + b) ∧ In (a * 32768 + b) 33023 := by
  have p0 : In (a * 32768) 32768 := in_piece 1 15 32768 32768 a _ (by decide) (by decide) (by omega) (by omega) (by decide) (by omega)
  have p1 : In (b) 255 := in_piece 8 0 1 255 b _ (by decide) (by decide) (by omega) (by omega) (by decide) (by omega)
  obtain ⟨q2, p2⟩ := in_join64 p0 p1 (by decide)
  rw [q2]
  exact ⟨rfl, p2⟩

theorem or_f17 {a b : Int} (ha : 0 ≤ a ∧ a ≤ 15) (hb : 0 ≤ b ∧ b ≤ 4095) : (bits .or .i64 (a * 4096) b) = (a * 4096 + b) ∧ In (a * 4096 + b) 65535 := by
  have p0 : In (a * 4096) 61440 := in_piece 4 12 4096 61440 a _ (by decide) (by decide) (by omega) (by omega) (by decide) (by omega)
  have p1 : In (b) 4095 := in_piece 12 0 1 4095 b _ (by decide) (by decide) (by omega) (by omega) (by decide) (by omega)
  obtain ⟨q2, p2⟩ := in_join64 p0 p1 (by decide)
  rw [q2]
  exact ⟨rfl, p2⟩

theorem or_f21 {a b : Int} (ha : 0 ≤ a ∧ a ≤ 7) (hb : 0 ≤ b ∧ b ≤ 3) : (bits .or .i64 (a * 4) b) = (a * 4 + b) ∧ In (a * 4 + b) 31 := by
  have p0 : In (a * 4) 28 := in_piece 3 2 4 28 a _ (by decide) (by decide) (by omega) (by omega) (by decide) (by omega)
  have p1 : In (b) 3 := in_piece 2 0 1 3 b _ (by decide) (by decide) (by omega) (by omega) (by decide) (by omega)
  obtain ⟨q2, p2⟩ := in_join64 p0 p1 (by decide)
  rw [q2]
  exact ⟨rfl, p2⟩

end Go.Proofs.YtpgcnbipnjcniaaDoor.Code
