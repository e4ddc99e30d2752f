/- The mathematics of Newton's root. -/
import Derived.Test.YtoanomgdkkbbmaaRRoot
namespace Go.Proofs.Ytoanomgdkkbbmaa
open Go.RowKit LM

theorem four_le (x m : Int) : 4 * (x * m) ≤ (x + m) * (x + m) := by
  have h : 0 ≤ (x - m) * (x - m) := by
    rcases Int.le_total 0 (x - m) with h | h
    · exact Int.mul_nonneg h h
    · exact Int.mul_nonneg_of_nonpos_of_nonpos h h
  simp only [Int.add_mul, Int.mul_add, Int.sub_mul, Int.mul_sub] at *
  rw [Int.mul_comm m x] at *
  generalize x * x = a at *
  generalize x * m = b at *
  generalize m * m = c at *
  omega

/-- One step of Newton stays above the root. -/
theorem newton_low {a x : Int} (ha : 0 ≤ a) (hx : 0 < x) {y : Int} (hy : y = (x + a / x) / 2) : a < (y + 1) * (y + 1) := by
  have h1 := Int.lt_ediv_add_one_mul_self a hx
  have hq : 0 ≤ a / x := Int.ediv_nonneg ha (by omega)
  obtain ⟨m, hm⟩ : ∃ m, a / x + 1 = m := ⟨_, rfl⟩
  rw [hm, Int.mul_comm] at h1
  have h2 := four_le x m
  have h3 : x + m ≤ 2 * (y + 1) := by omega
  have h4 : (x + m) * (x + m) ≤ (2 * (y + 1)) * (2 * (y + 1)) := Int.mul_le_mul h3 h3 (by omega) (by omega)
  have h5 : (2 * (y + 1)) * (2 * (y + 1)) = 4 * ((y + 1) * (y + 1)) := by
    rw [Int.mul_assoc, Int.mul_left_comm (y + 1) 2, ← Int.mul_assoc]; rfl
  rw [h5] at h4
  generalize (y + 1) * (y + 1) = s at *
  generalize x * m = u at *
  generalize (x + m) * (x + m) = v at *
  omega

/-- Where the step goes no lower, it stands at the root. -/
theorem newton_done {a x : Int} (_ha : 0 ≤ a) (hx : 0 < x) (hl : a < (x + 1) * (x + 1)) (hy : x ≤ (x + a / x) / 2) : IsRoot a x := by
  refine ⟨by omega, ?_, hl⟩
  have hq : x ≤ a / x := by omega
  have h1 : x * x ≤ a / x * x := Int.mul_le_mul_of_nonneg_right hq (by omega)
  exact Int.le_trans h1 (Int.ediv_mul_le a (by omega))

/-- The first guess. -/
theorem newton_start {a : Int} {k : Nat} (ha : a < 2 ^ k) : a < (2 ^ ((k + 1) / 2) + 1) * (2 ^ ((k + 1) / 2) + 1) := by
  have h1 := two_mono (show k ≤ (k + 1) / 2 + (k + 1) / 2 by omega)
  rw [Int.pow_add] at h1
  have h2 := two_pos ((k + 1) / 2)
  generalize (2 : Int) ^ ((k + 1) / 2) = s at *
  rw [Int.add_mul, Int.mul_add]
  omega

end Go.Proofs.Ytoanomgdkkbbmaa
