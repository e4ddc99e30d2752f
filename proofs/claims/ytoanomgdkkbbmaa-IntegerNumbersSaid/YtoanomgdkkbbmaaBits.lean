/- The borrow of a difference of words. -/
import Derived.Test.YtoanomgdkkbbmaaBase
namespace Go.Proofs.Ytoanomgdkkbbmaa
open Go.RowKit LM

theorem top_bit (n : Nat) (h : n < 4294967296) : n / 2147483648 = (n.testBit 31).toNat := by
  have e : n.testBit 31 = decide (n / 2 ^ 31 % 2 = 1) := Nat.testBit_eq_decide_div_mod_eq
  rw [e]
  have : (2 : Nat) ^ 31 = 2147483648 := by decide
  rw [this]
  by_cases hn : n < 2147483648
  · rw [Nat.div_eq_of_lt hn]; rfl
  · have e1 : n / 2147483648 = 1 := by omega
    rw [e1]; rfl

theorem bit31 (n : Nat) (h : n < 4294967296) : n.testBit 31 = decide (2147483648 ≤ n) := by
  have h1 := top_bit n h
  cases hb : n.testBit 31 <;> rw [hb] at h1 <;> simp at h1 ⊢ <;> omega

/-- What is borrowed. -/
def borrowOf (x y b : Int) : Int := if x < y + b then 1 else 0

theorem borrow_nat (X Y D : Nat) (b : Int) (hx : X < 4294967296) (hy : Y < 4294967296) (hd : D < 4294967296) (hb : 0 ≤ b ∧ b ≤ 1) (e : ((X : Int) - Y - b) % 4294967296 = D) :
    ((((4294967295 ^^^ X) &&& Y ||| (4294967295 ^^^ (X ^^^ Y)) &&& D) / 2147483648 : Nat) : Int) = borrowOf X Y b := by
  have hM : (4294967295 : Nat).testBit 31 = true := by decide
  have h1 : (4294967295 ^^^ X) < 2 ^ 32 := Nat.xor_lt_two_pow (by decide) (by omega)
  have h2 : (X ^^^ Y) < 2 ^ 32 := Nat.xor_lt_two_pow (by omega) (by omega)
  have h3 : (4294967295 ^^^ (X ^^^ Y)) < 2 ^ 32 := Nat.xor_lt_two_pow (by decide) h2
  have h4 : ((4294967295 ^^^ X) &&& Y ||| (4294967295 ^^^ (X ^^^ Y)) &&& D) < 2 ^ 32 :=
    Nat.or_lt_two_pow (Nat.and_lt_two_pow _ (by omega)) (Nat.and_lt_two_pow _ (by omega))
  rw [top_bit _ (by omega)]
  simp only [Nat.testBit_or, Nat.testBit_and, Nat.testBit_xor, hM, bit31 X hx, bit31 Y hy, bit31 D hd]
  unfold borrowOf
  by_cases c1 : 2147483648 ≤ X <;> by_cases c2 : 2147483648 ≤ Y <;> by_cases c3 : 2147483648 ≤ D <;> simp only [c1, c2, c3] <;> (split <;> simp <;> omega)

theorem borrow_bits (x y b : Int) (hx : 0 ≤ x ∧ x < 4294967296) (hy : 0 ≤ y ∧ y < 4294967296) (hb : 0 ≤ b ∧ b ≤ 1) :
    bits BinOp.or IntKind.u32 (bits BinOp.and IntKind.u32 (bits BinOp.xor IntKind.u32 IntKind.u32.max x) y)
      (bits BinOp.and IntKind.u32 (bits BinOp.xor IntKind.u32 IntKind.u32.max (bits BinOp.xor IntKind.u32 x y)) ((x - y - b) % 4294967296)) / 2147483648 = borrowOf x y b := by
  obtain ⟨X, rfl⟩ := Int.eq_ofNat_of_zero_le hx.1
  obtain ⟨Y, rfl⟩ := Int.eq_ofNat_of_zero_le hy.1
  obtain ⟨D, hD⟩ := Int.eq_ofNat_of_zero_le (Int.emod_nonneg ((X : Int) - Y - b) (by decide : (4294967296 : Int) ≠ 0))
  have hd : D < 4294967296 := by omega
  have hX : X < 4294967296 := by omega
  have hY : Y < 4294967296 := by omega
  have hm : IntKind.u32.max = ((4294967295 : Nat) : Int) := by decide
  have h1 : (4294967295 ^^^ X) < 2 ^ 32 := Nat.xor_lt_two_pow (by decide) (by omega)
  have h2 : (X ^^^ Y) < 2 ^ 32 := Nat.xor_lt_two_pow (by omega) (by omega)
  have h3 : (4294967295 ^^^ (X ^^^ Y)) < 2 ^ 32 := Nat.xor_lt_two_pow (by decide) h2
  have h5 : ((4294967295 ^^^ X) &&& Y) < 2 ^ 32 := Nat.and_lt_two_pow _ (by omega)
  have h6 : ((4294967295 ^^^ (X ^^^ Y)) &&& D) < 2 ^ 32 := Nat.and_lt_two_pow _ (by omega)
  rw [hD, hm, u32_xor_nat _ _ (by decide) hX, u32_xor_nat _ _ hX hY, u32_xor_nat _ _ (by decide) (by omega), u32_and_nat _ _ (by omega) hY, u32_and_nat _ _ (by omega) hd,
    u32_or_nat _ _ (by omega) (by omega)]
  exact borrow_nat X Y D b hX hY hd hb hD

end Go.Proofs.Ytoanomgdkkbbmaa
