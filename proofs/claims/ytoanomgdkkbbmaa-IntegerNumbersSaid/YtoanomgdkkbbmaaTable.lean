/- The sixteen operations. -/
import Derived.Test.YtoanomgdkkbbmaaTwos
namespace Go.Proofs.Ytoanomgdkkbbmaa
open Go.RowKit LM

/-- All ones, where bit j of op is set. -/
def maskOf (op : Int) (j : Nat) : Int := if op.toNat.testBit j then 4294967295 else 0

theorem mask_fin : ∀ n : Fin 16, (-bits BinOp.and IntKind.u32 (n.val : Int) 1) % 4294967296 = maskOf n.val 0 ∧ (-bits BinOp.and IntKind.u32 ((n.val : Int) / 2) 1) % 4294967296 = maskOf n.val 1 ∧
    (-bits BinOp.and IntKind.u32 ((n.val : Int) / 4) 1) % 4294967296 = maskOf n.val 2 ∧ (-bits BinOp.and IntKind.u32 ((n.val : Int) / 8) 1) % 4294967296 = maskOf n.val 3 := by decide

theorem mask_all (op : Int) (h0 : 0 ≤ op) (h1 : op ≤ 15) : (-bits BinOp.and IntKind.u32 op 1) % 4294967296 = maskOf op 0 ∧ (-bits BinOp.and IntKind.u32 (op / 2) 1) % 4294967296 = maskOf op 1 ∧
    (-bits BinOp.and IntKind.u32 (op / 4) 1) % 4294967296 = maskOf op 2 ∧ (-bits BinOp.and IntKind.u32 (op / 8) 1) % 4294967296 = maskOf op 3 := by
  obtain ⟨n, rfl⟩ := Int.eq_ofNat_of_zero_le h0
  exact mask_fin ⟨n, by omega⟩

theorem table_any (op : Int) (w : World) (h0 : 0 ≤ op) (h1 : op ≤ 15) :
    Calls Try.prog 97 #[.int .i64 op] w fun e w' => e = .returned (.func (Fn.func 128) #[] #[.pointer (some ⟨w.heap.size, 0, none⟩)]) ∧
      w' = w.alloc (.cells #[.int .u32 (maskOf op 0), .int .u32 (maskOf op 1), .int .u32 (maskOf op 2), .int .u32 (maskOf op 3)] 145) := by
  have hmf : ∀ (fn : Fn) (first cap : Array Value) (w : World), (Instr.makeFunc fn first cap).run Try.prog w = .ok (.func fn first cap) w := fun _ _ _ _ => rfl
  obtain ⟨m0, m1, m2, m3⟩ := mask_all op h0 h1
  go_enter Try.func97, Try.ntmps97
  go_wp2
  refine wp_loop_rounds 5 ?_
  iterate 5 (rw [rounds_succ]; go_wp2)
  go_ret
  exact ⟨rfl, rfl⟩

/-- The operation, bit by bit. -/
def Comb (op : Int) (a b c : Int) : Prop := (0 ≤ c ∧ c < BB) ∧ ∀ i, i < 32 → c.toNat.testBit i = op.toNat.testBit (2 * (a.toNat.testBit i).toNat + (b.toNat.testBit i).toNat)

def combN (A B m0 m1 m2 m3 : Nat) : Nat :=
  ((4294967295 ^^^ A) &&& (4294967295 - B)) &&& m0 ||| ((4294967295 ^^^ A) &&& B) &&& m1 ||| (A &&& (4294967295 - B)) &&& m2 ||| (A &&& B) &&& m3

theorem ones_bit (i : Nat) (hi : i < 32) : (4294967295 : Nat).testBit i = true := by
  have : (4294967295 : Nat) = 2 ^ 32 - 1 := by decide
  rw [this, Nat.testBit_two_pow_sub_one]; simpa using hi

theorem flip_bit (B i : Nat) (hB : B < 4294967296) (hi : i < 32) : (4294967295 - B).testBit i = !B.testBit i := by
  have h2 : 4294967295 - B = 2 ^ 32 - (B + 1) := by omega
  rw [h2, Nat.testBit_two_pow_sub_succ (by omega)]; simp [hi]

theorem combN_lt (A B m0 m1 m2 m3 : Nat) (h0 : m0 < 2 ^ 32) (h1 : m1 < 2 ^ 32) (h2 : m2 < 2 ^ 32) (h3 : m3 < 2 ^ 32) : combN A B m0 m1 m2 m3 < 2 ^ 32 := by
  unfold combN
  exact Nat.or_lt_two_pow (Nat.or_lt_two_pow (Nat.or_lt_two_pow (Nat.and_lt_two_pow _ h0) (Nat.and_lt_two_pow _ h1)) (Nat.and_lt_two_pow _ h2)) (Nat.and_lt_two_pow _ h3)

def maskN (op : Int) (j : Nat) : Nat := if op.toNat.testBit j then 4294967295 else 0
theorem maskN_lt (op : Int) (j : Nat) : maskN op j < 2 ^ 32 := by unfold maskN; split <;> decide
theorem maskOf_nat (op : Int) (j : Nat) : maskOf op j = (maskN op j : Int) := by unfold maskOf maskN; split <;> rfl
theorem maskN_bit (op : Int) (j i : Nat) (hi : i < 32) : (maskN op j).testBit i = op.toNat.testBit j := by
  unfold maskN
  by_cases h : op.toNat.testBit j = true
  · rw [if_pos h, h, ones_bit i hi]
  · rw [if_neg h]; simp at h; rw [h, Nat.zero_testBit]

theorem combN_bit (op : Int) (A B i : Nat) (hB : B < 4294967296) (hi : i < 32) :
    (combN A B (maskN op 0) (maskN op 1) (maskN op 2) (maskN op 3)).testBit i = op.toNat.testBit (2 * (A.testBit i).toNat + (B.testBit i).toNat) := by
  unfold combN
  simp only [Nat.testBit_or, Nat.testBit_and, Nat.testBit_xor, ones_bit i hi, flip_bit B i hB hi, maskN_bit _ _ i hi]
  cases hA : A.testBit i <;> cases hb : B.testBit i <;> simp

theorem comb_bits (op a b : Int) (ha : 0 ≤ a ∧ a < 4294967296) (hb : 0 ≤ b ∧ b < 4294967296) :
    ∃ c, bits BinOp.or IntKind.u32 (bits BinOp.or IntKind.u32 (bits BinOp.or IntKind.u32
        (bits BinOp.and IntKind.u32 (bits BinOp.andNot IntKind.u32 (bits BinOp.xor IntKind.u32 IntKind.u32.max a) b) (maskOf op 0))
        (bits BinOp.and IntKind.u32 (bits BinOp.and IntKind.u32 (bits BinOp.xor IntKind.u32 IntKind.u32.max a) b) (maskOf op 1)))
        (bits BinOp.and IntKind.u32 (bits BinOp.andNot IntKind.u32 a b) (maskOf op 2)))
        (bits BinOp.and IntKind.u32 (bits BinOp.and IntKind.u32 a b) (maskOf op 3)) = c ∧ Comb op a b c := by
  obtain ⟨A, rfl⟩ := Int.eq_ofNat_of_zero_le ha.1
  obtain ⟨B, rfl⟩ := Int.eq_ofNat_of_zero_le hb.1
  have hA : A < 4294967296 := by omega
  have hB : B < 4294967296 := by omega
  have hm : IntKind.u32.max = ((4294967295 : Nat) : Int) := by decide
  have hp : (2 : Nat) ^ 32 = 4294967296 := by decide
  have x1 : (4294967295 ^^^ A) < 4294967296 := by rw [← hp]; exact Nat.xor_lt_two_pow (by decide) (by omega)
  have k0 := maskN_lt op 0
  have k1 := maskN_lt op 1
  have k2 := maskN_lt op 2
  have k3 := maskN_lt op 3
  rw [hp] at k0 k1 k2 k3
  have lt : ∀ X Y : Nat, Y < 4294967296 → X &&& Y < 4294967296 := fun X Y h => by rw [← hp]; exact Nat.and_lt_two_pow _ (by omega)
  have lo : ∀ X Y : Nat, X < 4294967296 → Y < 4294967296 → X ||| Y < 4294967296 := fun X Y h h' => by rw [← hp]; exact Nat.or_lt_two_pow (by omega) (by omega)
  refine ⟨(combN A B (maskN op 0) (maskN op 1) (maskN op 2) (maskN op 3) : Int), ?_, ⟨by omega, ?_⟩, fun i hi => ?_⟩
  · rw [maskOf_nat, maskOf_nat, maskOf_nat, maskOf_nat, hm, u32_xor_nat _ _ (by decide) hA, u32_andNot_nat _ _ x1 hB, u32_and_nat _ _ x1 hB, u32_andNot_nat _ _ hA hB, u32_and_nat _ _ hA hB,
      u32_and_nat _ _ (lt _ _ (by omega)) k0, u32_and_nat _ _ (lt _ _ hB) k1, u32_and_nat _ _ (lt _ _ (by omega)) k2, u32_and_nat _ _ (lt _ _ hB) k3,
      u32_or_nat _ _ (lt _ _ k0) (lt _ _ k1), u32_or_nat _ _ (lo _ _ (lt _ _ k0) (lt _ _ k1)) (lt _ _ k2), u32_or_nat _ _ (lo _ _ (lo _ _ (lt _ _ k0) (lt _ _ k1)) (lt _ _ k2)) (lt _ _ k3)]
    rfl
  · have := combN_lt A B _ _ _ _ (maskN_lt op 0) (maskN_lt op 1) (maskN_lt op 2) (maskN_lt op 3)
    rw [BB_def]; omega
  · rw [Int.toNat_natCast, Int.toNat_natCast, Int.toNat_natCast]
    exact combN_bit op A B i hB hi

theorem table1_any (op a b : Int) (t : Nat) (w : World) (ha : 0 ≤ a ∧ a < 4294967296) (hb : 0 ≤ b ∧ b < 4294967296)
    (c0 : w.cell? ⟨t, 0, none⟩ = some (.int .u32 (maskOf op 0))) (c1 : w.cell? ⟨t, 1, none⟩ = some (.int .u32 (maskOf op 1))) (c2 : w.cell? ⟨t, 2, none⟩ = some (.int .u32 (maskOf op 2))) (c3 : w.cell? ⟨t, 3, none⟩ = some (.int .u32 (maskOf op 3))) :
    Calls Try.prog 128 #[.int .u32 a, .int .u32 b, .pointer (some ⟨t, 0, none⟩)] w fun e w' => (∃ c, e = .returned (.int .u32 c) ∧ Comb op a b c) ∧ w = w' := by
  obtain ⟨c, hc, hcomb⟩ := comb_bits op a b ha hb
  have HC := Lib.hid hcomb
  have HE := Lib.hid hc
  have hs : ¬ IntKind.u32.signed = true := by decide
  clear hcomb hc
  go_enter Try.func128, Try.ntmps128
  go_wp2
  go_ret
  exact ⟨⟨c, by rw [← HE.out]; rfl, HC.out⟩, rfl⟩

end Go.Proofs.Ytoanomgdkkbbmaa
