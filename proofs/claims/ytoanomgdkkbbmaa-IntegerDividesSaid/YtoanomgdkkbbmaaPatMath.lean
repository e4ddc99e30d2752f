/- The mathematics of bits, fields and deposits. -/
import Derived.Test.YtoanomgdkkbbmaaBooles
namespace Go.Proofs.Ytoanomgdkkbbmaa
open Go.RowKit LM

theorem patOf_flip (x : Int) : patOf (-1 - x) = patOf x := by unfold patOf; split <;> split <;> omega

theorem chosen6 (a b : Bool) : chosenOf 6 a b = (a != b) := by cases a <;> cases b <;> decide
theorem chosen8 (a b : Bool) : chosenOf 8 a b = (a && b) := by cases a <;> cases b <;> decide

theorem bit01 (x : Int) (i : Nat) : x / 2 ^ i % 2 = if bitOf x (i : Int) then 1 else 0 := by
  rw [bitOf_two]
  generalize x / 2 ^ i = q
  by_cases h : q % 2 = 1
  · simp [h]
  · simp [h]; omega

/-- The sum of two numbers is that of their exclusive or, and twice what both have. -/
theorem xor_and {x y u v : Int} (hu : ∀ i : Nat, bitOf u (i : Int) = chosenOf 6 (bitOf x (i : Int)) (bitOf y (i : Int))) (hv : ∀ i : Nat, bitOf v (i : Int) = chosenOf 8 (bitOf x (i : Int)) (bitOf y (i : Int))) :
    u + v + v = x + y := by
  have step : ∀ k : Nat, u % 2 ^ k + 2 * (v % 2 ^ k) = x % 2 ^ k + y % 2 ^ k := by
    intro k
    induction k with
    | zero => simp [Int.emod_one]
    | succ k ih =>
      rw [mod_succ u, mod_succ v, mod_succ x, mod_succ y, bit01 u, bit01 v, bit01 x, bit01 y, hu, hv, chosen6, chosen8]
      generalize (2 : Int) ^ k = p at *
      cases bitOf x (k : Int) <;> cases bitOf y (k : Int) <;> simp <;> omega
  have hz : ∀ k : Nat, (u + v + v - (x + y)) % 2 ^ k = 0 := by
    intro k
    have h := step k
    have e1 := Int.emod_add_mul_ediv u (2 ^ k)
    have e2 := Int.emod_add_mul_ediv v (2 ^ k)
    have e3 := Int.emod_add_mul_ediv x (2 ^ k)
    have e4 := Int.emod_add_mul_ediv y (2 ^ k)
    have e : u + v + v - (x + y) = 2 ^ k * (u / 2 ^ k + v / 2 ^ k + v / 2 ^ k - x / 2 ^ k - y / 2 ^ k) := by
      rw [Int.mul_sub, Int.mul_sub, Int.mul_add, Int.mul_add]; omega
    rw [e]; exact Int.mul_emod_right _ _
  have hk := hz (u + v + v - (x + y)).natAbs
  have hlt := Nat.lt_two_pow_self (n := (u + v + v - (x + y)).natAbs)
  have hc : (((2 : Nat) ^ (u + v + v - (x + y)).natAbs : Nat) : Int) = (2 : Int) ^ (u + v + v - (x + y)).natAbs := by simp
  have hd := Int.dvd_of_emod_eq_zero hk
  have hle := Int.natAbs_dvd_natAbs.2 hd
  rcases Nat.eq_zero_or_pos (u + v + v - (x + y)).natAbs with h0 | h0
  · omega
  · have := Nat.le_of_dvd h0 hle
    rw [← hc] at this
    rw [Int.natAbs_natCast] at this
    omega

/-- Some bits of a number, as a number. -/
def fieldOf (x : Int) (k at_ : Nat) : Int := x / 2 ^ at_ % 2 ^ k
/-- A number with some bits replaced. -/
def depOf (x y : Int) (k at_ : Nat) : Int := x + (fieldOf y k 0 - fieldOf x k at_) * 2 ^ at_

theorem fieldOf_zero (y : Int) (k : Nat) : fieldOf y k 0 = y % 2 ^ k := by simp [fieldOf]

theorem fieldOf_small (x : Int) (k at_ : Nat) : 0 ≤ fieldOf x k at_ ∧ fieldOf x k at_ < 2 ^ k := by
  unfold fieldOf
  have := two_pos k
  exact ⟨Int.emod_nonneg _ (by omega), Int.emod_lt_of_pos _ this⟩

theorem dep_div (x y : Int) (k at_ : Nat) : depOf x y k at_ / 2 ^ at_ = x / 2 ^ at_ + (y % 2 ^ k - x / 2 ^ at_ % 2 ^ k) := by
  unfold depOf
  rw [fieldOf_zero, Int.add_mul_ediv_right _ _ (by have := two_pos at_; omega)]; rfl

theorem dep_div2 (x y : Int) (k at_ : Nat) : depOf x y k at_ / 2 ^ at_ = y % 2 ^ k + 2 ^ k * (x / 2 ^ at_ / 2 ^ k) := by
  rw [dep_div]
  have := Int.emod_add_mul_ediv (x / 2 ^ at_) (2 ^ k)
  omega

theorem field_dep (x y : Int) (k at_ : Nat) : fieldOf (depOf x y k at_) k at_ = fieldOf y k 0 := by
  rw [fieldOf_zero]
  unfold fieldOf
  rw [dep_div2, Int.add_mul_emod_self_left]
  exact Int.emod_emod_of_dvd _ (Int.dvd_refl _)

theorem dep_own (x : Int) (k at_ : Nat) : depOf x (fieldOf x k at_) k at_ = x := by
  have h := fieldOf_small x k at_
  unfold depOf
  rw [fieldOf_zero, Int.emod_eq_of_lt h.1 h.2]; simp

theorem dep_bit_low (x y : Int) (k at_ n : Nat) (h : n < at_) : bitOf (depOf x y k at_) (n : Int) = bitOf x (n : Int) := by
  rw [bitOf_two, bitOf_two, decide_eq_decide]
  unfold depOf
  generalize fieldOf y k 0 - fieldOf x k at_ = c
  have e : (2 : Int) ^ at_ = 2 ^ n * (2 * 2 ^ (at_ - n - 1)) := by
    rw [← Int.mul_assoc, Int.mul_comm (2 ^ n) 2, Int.mul_assoc, ← Int.pow_add, Int.mul_comm, ← Int.pow_succ]; congr 1; omega
  have hp := two_pos n
  rw [e, Int.mul_comm c, Int.mul_assoc, Int.add_mul_ediv_left _ _ (by omega), Int.mul_assoc, Int.add_mul_emod_self_left]

theorem dep_bit_high (x y : Int) (k at_ n : Nat) (h : at_ + k ≤ n) : bitOf (depOf x y k at_) (n : Int) = bitOf x (n : Int) := by
  rw [bitOf_two, bitOf_two, decide_eq_decide]
  have hy0 : 0 ≤ y % 2 ^ k := Int.emod_nonneg _ (by have := two_pos k; omega)
  have hy1 : y % 2 ^ k < 2 ^ k := Int.emod_lt_of_pos _ (two_pos k)
  have e : ∀ z : Int, z / 2 ^ n = z / 2 ^ at_ / 2 ^ k / 2 ^ (n - at_ - k) := by
    intro z
    rw [Int.ediv_ediv_of_nonneg (Int.le_of_lt (two_pos at_)), ← Int.pow_add, Int.ediv_ediv_of_nonneg (Int.le_of_lt (two_pos _)), ← Int.pow_add]
    congr 2; omega
  rw [e (depOf x y k at_), e x, dep_div2, Int.add_mul_ediv_left _ _ (by have := two_pos k; omega), Int.ediv_eq_zero_of_lt hy0 hy1, Int.zero_add]

end Go.Proofs.Ytoanomgdkkbbmaa
