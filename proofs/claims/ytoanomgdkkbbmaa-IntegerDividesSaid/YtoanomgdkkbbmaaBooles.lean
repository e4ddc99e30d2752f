import Derived.Test.YtoanomgdkkbbmaaBitWidth
import Derived.Test.YtoanomgdkkbbmaaWords0
import Derived.Test.YtoanomgdkkbbmaaRBitsAll

/- Bits of integers: a number is told by its bits; what Boole's words come to, and what truth values come to. -/
namespace Go.Proofs.Ytoanomgdkkbbmaa
open Go.RowKit LM

theorem patOf_pos (x : Int) : 0 ≤ patOf x := by unfold patOf; split <;> omega

theorem flip_div (x : Int) (i : Nat) : (-1 - x) / 2 ^ i = -1 - x / 2 ^ i := by
  have hp := two_pos i
  have h1 := Int.emod_add_mul_ediv x (2 ^ i)
  have h2 := Int.emod_nonneg x (show (2 : Int) ^ i ≠ 0 by omega)
  have h3 := Int.emod_lt_of_pos x hp
  generalize x / 2 ^ i = q at *
  generalize x % 2 ^ i = r at *
  generalize (2 : Int) ^ i = p at *
  have e : -1 - x = (p - 1 - r) + p * (-1 - q) := by rw [← h1, Int.mul_sub]; omega
  rw [e, Int.add_mul_ediv_left _ _ (by omega), Int.ediv_eq_zero_of_lt (by omega) (by omega), Int.zero_add]

/-- bitOf is two's complement. -/
theorem bitOf_two (x : Int) (i : Nat) : bitOf x (i : Int) = decide (x / 2 ^ i % 2 = 1) := by
  unfold bitOf
  rw [if_neg (by omega), Int.toNat_natCast]
  by_cases hx : x < 0
  · rw [patOf_of_neg hx, flip_div, decide_eq_true hx]
    generalize x / 2 ^ i = q
    by_cases hq : q % 2 = 1
    · have : ¬ (-1 - q) % 2 = 1 := by omega
      simp [hq, this]
    · have : (-1 - q) % 2 = 1 := by omega
      simp [hq, this]
  · rw [patOf_of_nonneg (by omega), decide_eq_false hx]; simp

theorem mod_succ (x : Int) (k : Nat) : x % 2 ^ (k + 1) = x % 2 ^ k + 2 ^ k * (x / 2 ^ k % 2) := by
  have hp := two_pos k
  have h1 := Int.emod_add_mul_ediv x (2 ^ k)
  have h2 := Int.emod_nonneg x (show (2 : Int) ^ k ≠ 0 by omega)
  have h3 := Int.emod_lt_of_pos x hp
  rw [Int.pow_succ]
  generalize x / 2 ^ k = q at *
  generalize x % 2 ^ k = r at *
  generalize (2 : Int) ^ k = p at *
  have h4 := Int.emod_add_mul_ediv q 2
  have h5 : q % 2 = 0 ∨ q % 2 = 1 := by omega
  have e : x = (r + p * (q % 2)) + (p * 2) * (q / 2) := by
    rw [← h1, Int.mul_assoc, Int.add_assoc, ← Int.mul_add, h4]
  rw [e, Int.add_mul_emod_self_left]
  apply Int.emod_eq_of_lt
  · rcases h5 with h | h <;> rw [h] <;> omega
  · rcases h5 with h | h <;> rw [h] <;> omega

theorem mod_ext {x y : Int} (h : ∀ i : Nat, x / 2 ^ i % 2 = y / 2 ^ i % 2) (k : Nat) : x % 2 ^ k = y % 2 ^ k := by
  induction k with
  | zero => simp [Int.emod_one]
  | succ k ih => rw [mod_succ, mod_succ, ih, h]

theorem num_le {x y : Int} (hle : y ≤ x) (h : ∀ i : Nat, x / 2 ^ i % 2 = y / 2 ^ i % 2) : x = y := by
  have hk := mod_ext h (x - y).natAbs
  have hlt := Nat.lt_two_pow_self (n := (x - y).natAbs)
  have e : (((2 : Nat) ^ (x - y).natAbs : Nat) : Int) = (2 : Int) ^ (x - y).natAbs := by simp
  have e2 : (((x - y).natAbs : Nat) : Int) = x - y := by omega
  have hz := Int.emod_eq_emod_iff_emod_sub_eq_zero.1 hk
  rw [Int.emod_eq_of_lt (by omega) (by rw [← e]; omega)] at hz
  omega

theorem num_ext {x y : Int} (h : ∀ i : Nat, x / 2 ^ i % 2 = y / 2 ^ i % 2) : x = y := by
  rcases Int.le_total y x with hl | hl
  · exact num_le hl h
  · exact (num_le hl fun i => (h i).symm).symm

/-- A number is told by its bits. -/
theorem bitOf_ext {x y : Int} (h : ∀ i : Nat, bitOf x (i : Int) = bitOf y (i : Int)) : x = y := by
  refine num_ext fun i => ?_
  have := h i
  rw [bitOf_two, bitOf_two, decide_eq_decide] at this
  generalize x / 2 ^ i = a at *
  generalize y / 2 ^ i = b at *
  omega

theorem bitOf_high {x : Int} {k i : Nat} (h : patOf x < 2 ^ k) (hi : k ≤ i) : bitOf x (i : Int) = decide (x < 0) := by
  unfold bitOf; rw [if_neg (by omega), Int.toNat_natCast, bit_high (patOf_pos x) h hi]; simp

/-- What truth values with a sign come to. -/
theorem of_bits {P : Int} (bs : List Bool) (neg : Bool) (h0 : 0 ≤ P) (h1 : P < 2 ^ bs.length) (hb : ∀ i, i < bs.length → decide (P / 2 ^ i % 2 = 1) = (bs.getD i false != neg)) (i : Nat) :
    bitOf (if neg then -1 - P else P) (i : Int) = if i < bs.length then bs.getD i false else neg := by
  unfold bitOf; rw [if_neg (by omega), Int.toNat_natCast]
  have e : patOf (if neg then -1 - P else P) = P := by cases neg <;> simp [patOf] <;> omega
  have s : decide ((if neg then -1 - P else P) < 0) = neg := by cases neg <;> simp <;> omega
  rw [e, s]
  split
  · rename_i hi
    rw [hb i hi]; cases bs.getD i false <;> cases neg <;> rfl
  · rw [bit_high h0 h1 (by omega)]; cases neg <;> rfl

theorem testBit_int {a : Int} (h : 0 ≤ a) (i : Nat) : a.toNat.testBit i = decide (a / 2 ^ i % 2 = 1) := by
  obtain ⟨n, rfl⟩ := Int.eq_ofNat_of_zero_le h
  rw [Int.toNat_natCast, Nat.testBit_eq_decide_div_mod_eq, decide_eq_decide]
  have e : ((n / 2 ^ i % 2 : Nat) : Int) = (n : Int) / 2 ^ i % 2 := by simp
  rw [← e]; omega

theorem low_bit (x : Int) {m j : Nat} (hj : j < m) : x % 2 ^ m / 2 ^ j % 2 = x / 2 ^ j % 2 := by
  have h1 := Int.emod_add_mul_ediv x (2 ^ m)
  have e : (2 : Int) ^ m = 2 ^ j * (2 * 2 ^ (m - j - 1)) := by
    rw [← Int.mul_assoc, Int.mul_comm (2 ^ j) 2, Int.mul_assoc, ← Int.pow_add, Int.mul_comm, ← Int.pow_succ]; congr 1; omega
  have hq := two_pos j
  generalize x % 2 ^ m = r at *
  generalize x / 2 ^ m = q at *
  rw [← h1, e, Int.mul_assoc, Int.add_mul_ediv_left _ _ (by omega), Int.mul_assoc, Int.add_mul_emod_self_left]

theorem BB_two' (k : Nat) : BB ^ k = 2 ^ (32 * k) := BB_two k

/-- Boole's number has at every place the bit that the operation asks for. -/
theorem booled_bits {op x y z : Int} {k : Nat} (h : Booled op x y (k + 1) z) (h0 : 0 ≤ op) (hx : patOf x < 2 ^ (32 * k)) (hy : patOf y < 2 ^ (32 * k)) (i : Nat) :
    bitOf z (i : Int) = chosenOf op (bitOf x (i : Int)) (bitOf y (i : Int)) := by
  obtain ⟨wx, wy, os, lx, ly, lo, dx, dy, dz, vx, vy, hc, hz⟩ := h
  have inside : ∀ j : Nat, j < 32 * (k + 1) → decide (val os / 2 ^ j % 2 = 1) = chosenOf op (bitOf x (j : Int)) (bitOf y (j : Int)) := by
    intro j hj
    have c := (hc (j / 32) (by omega)).2 (j % 32) (by omega)
    rw [testBit_int (dz.getD _).1, testBit_int (dx.getD _).1, testBit_int (dy.getD _).1, ← bit_val dz j, ← bit_val dx j, ← bit_val dy j, vx, vy, BB_two, low_bit x hj, low_bit y hj, testBit_int h0] at c
    rw [bitOf_two, bitOf_two, c]; rfl
  have hb := val_bounds dz
  rw [lo, BB_two] at hb
  have top := inside (32 * k + 31) (by omega)
  rw [bitOf_high hx (by omega), bitOf_high hy (by omega), bit_val dz, show (32 * k + 31) / 32 = k from by omega, show (32 * k + 31) % 32 = 31 from by omega] at top
  have hd := dz.getD k
  rw [BB_def] at hd
  rw [show k + 1 - 1 = k from rfl, BB_two] at hz
  have hs : decide (z < 0) = chosenOf op (decide (x < 0)) (decide (y < 0)) := by
    rw [← top, decide_eq_decide]
    generalize os.getD k 0 = t at *
    generalize (2 : Int) ^ (32 * (k + 1)) = M at *
    have e31 : (2 : Int) ^ 31 = 2147483648 := by decide
    rw [e31]
    split at hz <;> omega
  have hpz : patOf z < 2 ^ (32 * (k + 1)) := by
    unfold patOf
    generalize (2 : Int) ^ (32 * (k + 1)) = M at *
    split at hz <;> split <;> omega
  by_cases hi : i < 32 * (k + 1)
  · rw [← inside i hi, bitOf_two]
    have e : z % 2 ^ (32 * (k + 1)) = val os % 2 ^ (32 * (k + 1)) := by
      rw [hz]; split
      · rw [show val os - 2 ^ (32 * (k + 1)) = val os + 2 ^ (32 * (k + 1)) * (-1) from by omega, Int.add_mul_emod_self_left]
      · rfl
    rw [← low_bit z hi, e, low_bit _ hi]
  · rw [bitOf_high hpz (by omega), hs, bitOf_high hx (by omega), bitOf_high hy (by omega)]

/-- Two numbers that have the bits the operation asks for are one number. -/
theorem boole_same {op x y z P : Int} {k N : Nat} (h : Booled op x y (k + 1) z) (h0 : 0 ≤ op) (hx : patOf x < 2 ^ (32 * k)) (hy : patOf y < 2 ^ (32 * k)) (nx : patOf x < 2 ^ N) (ny : patOf y < 2 ^ N)
    (bs : List Bool) (hl : bs.length = N) (hbs : ∀ i, i < N → bs.getD i false = chosenOf op (bitOf x (i : Int)) (bitOf y (i : Int)))
    (p0 : 0 ≤ P) (p1 : P < 2 ^ N) (hb : ∀ i, i < N → decide (P / 2 ^ i % 2 = 1) = (bs.getD i false != chosenOf op (decide (x < 0)) (decide (y < 0)))) :
    (if chosenOf op (decide (x < 0)) (decide (y < 0)) then -1 - P else P) = z := by
  subst hl
  refine bitOf_ext fun i => ?_
  rw [of_bits bs _ p0 p1 hb, booled_bits h h0 hx hy]
  split
  · rename_i hi; exact hbs i hi
  · rw [bitOf_high nx (by omega), bitOf_high ny (by omega)]

end Go.Proofs.Ytoanomgdkkbbmaa

/- The digits that truth values make, from the highest place down. -/
namespace Go.Proofs.Ytoanomgdkkbbmaa
open Go.RowKit LM

/-- The number that the places tell at which a truth value is not s. -/
def pB : List Bool → Bool → Int
  | [], _ => 0
  | b :: bs, s => (if b != s then 1 else 0) + 2 * pB bs s

theorem pB_nonneg (bs : List Bool) (s : Bool) : 0 ≤ pB bs s := by
  induction bs with
  | nil => exact Int.le_refl _
  | cons b bs ih => unfold pB; split <;> omega

theorem pB_lt (bs : List Bool) (s : Bool) : pB bs s < 2 ^ bs.length := by
  induction bs with
  | nil => simp [pB]
  | cons b bs ih => unfold pB; rw [List.length_cons, Int.pow_succ]; split <;> omega

theorem pB_bit (bs : List Bool) (s : Bool) : ∀ i, i < bs.length → decide (pB bs s / 2 ^ i % 2 = 1) = (bs.getD i false != s) := by
  induction bs with
  | nil => intro i hi; simp at hi
  | cons b bs ih =>
    intro i hi
    cases i with
    | zero =>
      unfold pB
      rw [Int.pow_zero, Int.ediv_one, List.getD_cons_zero]
      generalize pB bs s = t
      cases hb : (b != s)
      · simp
      · simp [show (1 + 2 * t) % 2 = 1 by omega]
    | succ i =>
      rw [List.getD_cons_succ, ← ih i (by simpa using hi)]
      have e : pB (b :: bs) s / 2 ^ (i + 1) = pB bs s / 2 ^ i := by
        rw [Int.pow_succ, Int.mul_comm, ← Int.ediv_ediv_of_nonneg (by decide)]
        congr 1
        show ((if b != s then 1 else 0) + 2 * pB bs s) / 2 = pB bs s
        split <;> omega
      rw [e]

theorem emod_two_parts (x : Int) {p s : Int} (hp : 0 < p) (hs : 0 < s) : x % (p * s) = x % p + p * (x / p % s) := by
  have h1 := Int.emod_add_mul_ediv x p
  have h2 := Int.emod_nonneg x (show p ≠ 0 by omega)
  have h3 := Int.emod_lt_of_pos x hp
  generalize x / p = q at *
  generalize x % p = r at *
  have h4 := Int.emod_add_mul_ediv q s
  have h5 := Int.emod_nonneg q (show s ≠ 0 by omega)
  have h6 := Int.emod_lt_of_pos q hs
  generalize q / s = a at *
  generalize q % s = b at *
  have e : x = (r + p * b) + (p * s) * a := by rw [← h1, ← h4, Int.mul_add, Int.mul_assoc]; omega
  rw [e, Int.add_mul_emod_self_left]
  have h7 := Int.mul_le_mul_of_nonneg_left (show b ≤ s - 1 by omega) (Int.le_of_lt hp)
  have h8 := Int.mul_nonneg (Int.le_of_lt hp) h5
  rw [Int.mul_sub] at h7
  exact Int.emod_eq_of_lt (by omega) (by omega)

/-- Digit k, once the places from m on are through. -/
def dig (P : Int) (m k : Nat) : Int := P / 2 ^ (max (16 * k) m) % 2 ^ (16 * k + 16 - max (16 * k) m)

theorem dig_range (P : Int) (m k : Nat) : 0 ≤ dig P m k ∧ dig P m k < 65536 := by
  unfold dig
  have hp := two_pos (16 * k + 16 - max (16 * k) m)
  have hm := two_mono (show 16 * k + 16 - max (16 * k) m ≤ 16 by omega)
  have e : (2 : Int) ^ 16 = 65536 := by decide
  have h2 := Int.emod_nonneg (P / 2 ^ (max (16 * k) m)) (show (2 : Int) ^ (16 * k + 16 - max (16 * k) m) ≠ 0 by omega)
  have h3 := Int.emod_lt_of_pos (P / 2 ^ (max (16 * k) m)) hp
  exact ⟨h2, by omega⟩

theorem dig_step (P : Int) (i : Nat) : dig P i (i / 16) = 2 * dig P (i + 1) (i / 16) + P / 2 ^ i % 2 := by
  unfold dig
  rw [show max (16 * (i / 16)) i = i from by omega, show max (16 * (i / 16)) (i + 1) = i + 1 from by omega,
    show 16 * (i / 16) + 16 - i = (16 * (i / 16) + 16 - (i + 1)) + 1 from by omega]
  have hp := two_pos (16 * (i / 16) + 16 - (i + 1))
  generalize 16 * (i / 16) + 16 - (i + 1) = t at *
  rw [Int.pow_succ 2 i, ← Int.ediv_ediv_of_nonneg (Int.le_of_lt (two_pos i)), Int.pow_succ, Int.mul_comm (2 ^ t) 2, emod_two_parts _ (by decide) hp]
  omega

theorem dig_other (P : Int) (i k : Nat) (h : k ≠ i / 16) : dig P i k = dig P (i + 1) k := by
  unfold dig
  by_cases hk : i < 16 * k
  · rw [show max (16 * k) i = 16 * k from by omega, show max (16 * k) (i + 1) = 16 * k from by omega]
  · rw [show 16 * k + 16 - max (16 * k) i = 0 from by omega, show 16 * k + 16 - max (16 * k) (i + 1) = 0 from by omega]
    simp [Int.emod_one]

def digs (P : Int) (m K : Nat) : List Int := (List.range K).map (dig P m)

theorem digs_length (P : Int) (m K : Nat) : (digs P m K).length = K := by simp [digs]

theorem digs_getD (P : Int) (m K k : Nat) (h : k < K) : (digs P m K).getD k 0 = dig P m k := by simp [digs, List.getD, h]

theorem digs_step (P : Int) (i K : Nat) : digs P i K = (digs P (i + 1) K).set (i / 16) (2 * dig P (i + 1) (i / 16) + P / 2 ^ i % 2) := by
  apply List.ext_getElem
  · simp [digs]
  · intro k h1 h2
    rw [List.getElem_set]
    split
    · rename_i h; subst h; simp only [digs, List.getElem_map, List.getElem_range]; exact dig_step P i
    · rename_i h; simp only [digs, List.getElem_map, List.getElem_range]; exact dig_other P i k (Ne.symm h)

theorem digs_top {P : Int} {n : Nat} (h0 : 0 ≤ P) (h1 : P < 2 ^ n) (K : Nat) : digs P n K = List.replicate K 0 := by
  apply List.ext_getElem
  · simp [digs]
  · intro k _ _
    simp only [digs, List.getElem_map, List.getElem_range, List.getElem_replicate, dig]
    have := two_mono (show n ≤ max (16 * k) n by omega)
    rw [Int.ediv_eq_zero_of_lt h0 (by omega)]; simp

theorem digs_dig (P : Int) (m K : Nat) : DigR 65536 (digs P m K) := by
  intro d hd
  simp only [digs, List.mem_map] at hd
  obtain ⟨k, _, rfl⟩ := hd
  exact dig_range P m k

theorem digs_mod (P : Int) (K : Nat) : valR 65536 (digs P 0 K) = P % 2 ^ (16 * K) := by
  induction K with
  | zero => simp [digs, valR, Int.emod_one]
  | succ K ih =>
    have e : digs P 0 (K + 1) = digs P 0 K ++ [dig P 0 K] := by unfold digs; rw [List.range_succ, List.map_append]; rfl
    rw [e, valR_append, ih, digs_length, show 16 * (K + 1) = 16 * K + 16 from by omega, Int.pow_add, emod_two_parts P (two_pos _) (by decide)]
    have e2 : dig P 0 K = P / 2 ^ (16 * K) % 2 ^ 16 := by
      unfold dig; rw [show max (16 * K) 0 = 16 * K from by omega, show 16 * K + 16 - 16 * K = 16 from by omega]
    have e3 : (65536 : Int) ^ K = 2 ^ (16 * K) := by rw [Int.pow_mul]; rfl
    rw [e2, e3]; simp [valR]

theorem digs_val {P : Int} {K : Nat} (h0 : 0 ≤ P) (h1 : P < 2 ^ (16 * K)) : valR 65536 (digs P 0 K) = P := by
  rw [digs_mod, Int.emod_eq_of_lt h0 h1]

end Go.Proofs.Ytoanomgdkkbbmaa

/- The reference's Of (from truth values). -/
namespace Go.Proofs.Ytoanomgdkkbbmaa
open Go.RowKit LM

/-- An array of the call's own, whole: block g holds the numbers xs of 64 bits, all of them elements. -/
def Own64 (w : World) (base g n : Nat) (xs : List Int) : Prop := w.ownsRow base 3 1 (.slice (some ⟨g, 0, none⟩) n n) n (xs.map (Value.int .i64))

theorem Own64.length {w : World} {base g n : Nat} {xs : List Int} (h : Own64 w base g n xs) : xs.length = n := by have := h.1; simpa using this

theorem Own64.cell {w : World} {base g n : Nat} {xs : List Int} (h : Own64 w base g n xs) {k : Nat} (hk : k < n) : w.cell? ⟨g, k, none⟩ = some (.int .i64 (xs.getD k 0)) := by
  have hl := h.length
  rw [World.ownsRow.cellAt h k (by omega)]
  simp [List.getD, hl, hk]

theorem Own64.frozen {w : World} {base g n : Nat} {xs : List Int} (h : Own64 w base g n xs) (k : Nat) : w.frozen? ⟨g, k, none⟩ = false := World.ownsRow.frozenAt h k

theorem Own64.set {w : World} {base g n : Nat} {xs : List Int} (h : Own64 w base g n xs) (k : Nat) (u : Int) : Own64 (w.setCell ⟨g, k, none⟩ (.int .i64 u)) base g n (xs.set k u) := by
  have := (World.ownsRow.stored h k (.int .i64 u)).1
  rw [← List.map_set] at this
  exact this

/-- Behind the places from m on. -/
def OfRel (w1 wr : World) (g K n : Nat) (P : Int) (m : Nat) : Prop := m ≤ n ∧ Own64 wr g g K (digs P m K) ∧ Below g w1 wr

theorem digs_set_set (P : Int) (i K : Nat) (c d : Int) : ((digs P (i + 1) K).set (i / 16) c).set (i / 16) d = (digs P (i + 1) K).set (i / 16) d := by rw [List.set_set]

theorem OfRel.cells {w1 wr : World} {g K n : Nat} {P : Int} {i : Nat} (h : OfRel w1 wr g K n P (i + 1)) (hK : K = n / 16 + 1) :
    ∃ d, dig P (i + 1) (i / 16) = d ∧ (0 ≤ d ∧ d < 65536) ∧ wr.cell? ⟨g, i / 16, none⟩ = some (.int .i64 d) ∧ wr.frozen? ⟨g, i / 16, none⟩ = false := by
  obtain ⟨hm, ho, _⟩ := h
  refine ⟨_, rfl, dig_range P _ _, ?_, ho.frozen _⟩
  rw [ho.cell (by omega), digs_getD _ _ _ _ (by omega)]

theorem OfRel.step0 {w1 wr : World} {g K n : Nat} {P : Int} {i : Nat} {d : Int} (h : OfRel w1 wr g K n P (i + 1)) (e : dig P (i + 1) (i / 16) = d) (hb : P / 2 ^ i % 2 = 0) :
    OfRel w1 (wr.setCell ⟨g, i / 16, none⟩ (.int .i64 (d * 2))) g K n P i := by
  obtain ⟨hm, ho, hbl⟩ := h
  refine ⟨by omega, ?_, hbl.setCell (Nat.le_refl _) _⟩
  rw [digs_step, hb, e, show 2 * d + 0 = d * 2 from by omega]
  exact ho.set _ _

theorem OfRel.step1 {w1 wr : World} {g K n : Nat} {P : Int} {i : Nat} {d : Int} (h : OfRel w1 wr g K n P (i + 1)) (e : dig P (i + 1) (i / 16) = d) (hb : P / 2 ^ i % 2 = 1) :
    OfRel w1 ((wr.setCell ⟨g, i / 16, none⟩ (.int .i64 (d * 2))).setCell ⟨g, i / 16, none⟩ (.int .i64 (d * 2 + 1))) g K n P i := by
  obtain ⟨hm, ho, hbl⟩ := h
  refine ⟨by omega, ?_, (hbl.setCell (Nat.le_refl _) _).setCell (Nat.le_refl _) _⟩
  have h2 := (ho.set (i / 16) (d * 2)).set (i / 16) (d * 2 + 1)
  rw [digs_set_set] at h2
  rw [digs_step, hb, e, show 2 * d + 1 = d * 2 + 1 from by omega]
  exact h2

set_option maxRecDepth 100000 in
set_option maxHeartbeats 1000000 in
theorem rOf_pos (A : Option Addr) (n c : Nat) (bs : List Bool) (w : World) (h : BRow w A n c bs) (hn : n ≤ 1048576) :
    Calls Try.prog 101 #[.slice A n c, .bool false] w fun e w' => (∃ ng A2 n2 c2, e = .returned (.agg #[.bool ng, .slice A2 n2 c2]) ∧ Rval w' (.agg #[.bool ng, .slice A2 n2 c2]) (pB bs false) (n / 16 + 1)) ∧ Below w.heap.size w w' := by
  obtain ⟨i0, hi, hz0, hz1, hz2⟩ := info_parts Try.info3
  obtain ⟨hl, hc, hcell⟩ := h
  have hW := below_alloc w (.cells #[.bool false, .slice none 0 0] 31)
  have HB := Lib.hid (pB_bit bs false)
  have hp0 := pB_nonneg bs false
  have hp1 := pB_lt bs false
  rw [hl] at hp1
  obtain ⟨P, hP⟩ : ∃ P, pB bs false = P := ⟨_, rfl⟩
  rw [hP] at HB hp0 hp1 ⊢
  obtain ⟨q, hq⟩ : ∃ q, n / 16 = q := ⟨_, rfl⟩
  have HP0 := Lib.hid hp0
  have HP1 := Lib.hid hp1
  have HL := Lib.hid hl
  have t1 : (n : Int).tdiv 16 = (q : Int) := by rw [Int.tdiv_eq_ediv_of_nonneg (by omega)]; omega
  rw [hq]
  have hqb : q ≤ 65536 := by omega
  have HK := Lib.hid (show q + 1 = n / 16 + 1 by omega)
  have hb0 : ∀ i, i < n → ∃ b o, A = some ⟨b, o, none⟩ ∧ b < w.heap.size ∧ w.cell? ⟨b, o + i, none⟩ = some (.bool (bs.getD i false)) := fun i hi => by
    obtain ⟨b, o, e, hlt, hc2⟩ := hcell (by omega)
    exact ⟨b, o, e, hlt, hc2 i hi⟩
  have HC := Lib.hid hb0
  clear hp0 hp1 hcell hl hP hq hb0
  go_enter Try.func101, Try.ntmps101
  go_wp2_with (at_make; refine wpList_make_full _ rfl _ _ 29 rfl (w.alloc (.cells #[.bool false, .slice none 0 0] 31)).heap.size 3 i0 (.int .i64 0) 1 Try.underlying29 hi hz0 hz1 _ _ _ _ (q + 1) rfl rfl (by omega) (by omega) (by rw [hz2]; omega) (by unfold maxLen; omega) (Nat.le_refl _) ?_; intro w1 hown hgrow)
  have hbw := hW.grown hgrow hW.size (fun _ h => by cases h)
  have hB1 : Below (w.heap.size + 1) (w.alloc (.cells #[.bool false, .slice none 0 0] 31)) w1 := (Below.refl _ _).grown hgrow (by simp) (fun _ h => by cases h)
  obtain ⟨g, hg⟩ : ∃ g, (w.alloc (.cells #[.bool false, .slice none 0 0] 31)).heap.size = g := ⟨_, rfl⟩
  rw [hg] at hown
  have hg2 : w.heap.size + 1 = g := by rw [← hg]; simp
  rw [hg2]
  have hg1 : w.heap.size + 1 ≤ g := by omega
  clear hg hgrow hW
  go_loopw [6] (fun iv wr => ∃ (v : Int) (m : Nat), iv = .int .i64 v ∧ v = (m : Int) - 1 ∧ OfRel w1 wr g (q + 1) n P m) (fun iv _ => (intOf iv + 1).toNat)
  case atStart =>
    refine ⟨_, n, rfl, rfl, Nat.le_refl _, ?_, Below.refl _ _⟩
    rw [zeros_made64] at hown
    rw [digs_top HP0.out HP1.out]
    exact hown
  case round =>
    obtain ⟨v, m, rfl, hv, hrel⟩ := hrel
    have HR := Lib.hid hrel
    obtain ⟨hmn, -, hbl⟩ := hrel
    cases m with
    | zero =>
      have hv2 : v < 0 := by omega
      obtain ⟨_, ho, _⟩ := HR.out
      have hrow : Row .i64 wr (some ⟨g, 0, none⟩) (q + 1) (q + 1) (digs P 0 (q + 1)) := Row.of_own ho
      have hval := digs_val (K := q + 1) HP0.out (by have := HP1.out; have := two_mono (show n ≤ 16 * (q + 1) by have := HK.out; omega); omega)
      have HV := Lib.hid hval
      have HROW := Lib.hid hrow
      have HWR := Lib.hid (hbw.trans (hbl.mono (by omega)))
      clear hv hval hrow ho
      go_wp2_with fail
      refine (rmade_any false _ _ _ _ _ HROW.out (by omega) (digs_dig _ _ _)).mono ?_
      rintro e w2 ⟨ng, A2, n2, c2, rfl, hv2, hb2⟩
      have HV2 := Lib.hid hv2
      clear hv2
      have hB2 := hB1.trans (hbl.mono (B' := w.heap.size + 1) hg1)
      have hs2 : w.heap.size + 1 ≤ wr.heap.size := by have := hB2.size; simpa using this
      have hB3 := hB2.trans (hb2.mono (B' := w.heap.size + 1) hs2)
      have hs3 : w.heap.size + 1 ≤ w2.heap.size := by have := hB3.size; simpa using this
      obtain ⟨e1, e2, f1, f2⟩ := room31 (hB3.alloc hs3 (.cells #[.bool ng, .slice A2 n2 c2] 31))
      have g1 : (w2.alloc (.cells #[.bool ng, .slice A2 n2 c2] 31)).cell? ⟨w2.heap.size, 0, none⟩ = some (.bool ng) := by rw [World.cell?_alloc_at _ _ _ _ rfl]; rfl
      have g2 : (w2.alloc (.cells #[.bool ng, .slice A2 n2 c2] 31)).cell? ⟨w2.heap.size, 1, none⟩ = some (.slice A2 n2 c2) := by rw [World.cell?_alloc_at _ _ _ _ rfl]; rfl
      have HR3 := Lib.hid (HV2.out.below (below_alloc w2 (.cells #[.bool ng, .slice A2 n2 c2] 31)))
      have HW3 := Lib.hid ((HWR.out.trans (hb2.mono (B' := w.heap.size) (by omega))).trans ((below_alloc w2 (.cells #[.bool ng, .slice A2 n2 c2] 31)).mono (B' := w.heap.size) (by omega)))
      clear hB2 hB3 hbl hb2
      go_wp2_with fail
      refine bodyPost_ret (v := .agg #[.bool ng, .slice A2 n2 c2]) (by simp [results, Try.results101, go_sem, e1, e2]) rfl ⟨⟨_, _, _, _, rfl, ?_⟩, ?_⟩
      · have e0 : withSign false (valR 65536 (digs P 0 (q + 1))) = P := by rw [HV.out]; simp [withSign]
        rw [← e0]
        exact HR3.out.stored e1 e2 _ _
      · exact (HW3.out.setCell (Nat.le_refl _) _).setCell (Nat.le_refl _) _
    | succ i =>
      obtain rfl : v = (i : Int) := by omega
      clear hv
      obtain ⟨b, o, eA, hlt, hcb⟩ := HC.out i (by omega)
      obtain ⟨d, hd, ⟨hd0, hd1⟩, hcl, hfr⟩ := HR.out.cells HK.out
      have ti : (i : Int).tdiv 16 = ((i / 16 : Nat) : Int) := by rw [Int.tdiv_eq_ediv_of_nonneg (by omega)]; omega
      obtain ⟨j, hj⟩ : ∃ j, i / 16 = j := ⟨_, rfl⟩
      have hbit := HB.out i (by have := HL.out; omega)
      have hst0 := Lib.hid (fun hb => HR.out.step0 hd hb)
      have hst1 := Lib.hid (fun hb => HR.out.step1 hd hb)
      rw [hj] at ti hcl hfr hst0 hst1
      have hjq : j < q + 1 := by have := HK.out; omega
      subst eA
      have hcb1 := (hbl.cell (p := ⟨b, o + i, none⟩) (by show b < _; omega)).trans (show w1.cell? ⟨b, o + i, none⟩ = some (.bool (bs.getD i false)) from (hbw.cell (p := ⟨b, o + i, none⟩) hlt).trans hcb)
      cases hbb : bs.getD i false with
      | false =>
        rw [hbb] at hcb1 hbit
        have hz : P / 2 ^ i % 2 = 0 := by
          have : ¬ P / 2 ^ i % 2 = 1 := by simpa using hbit
          omega
        have HST := Lib.hid (hst0.out hz)
        clear hst0 hst1 hbit hz hd
        go_wp2_with fail
        exact ⟨⟨_, i, rfl, rfl, HST.out⟩, by simp [intOf]⟩
      | true =>
        rw [hbb] at hcb1 hbit
        have hz : P / 2 ^ i % 2 = 1 := by simpa using hbit
        have HST := Lib.hid (hst1.out hz)
        clear hst0 hst1 hbit hz hd
        go_wp2_with fail
        exact ⟨⟨_, i, rfl, rfl, HST.out⟩, by simp [intOf]⟩

end Go.Proofs.Ytoanomgdkkbbmaa

/- The reference's Of (from truth values), with its sign. -/
namespace Go.Proofs.Ytoanomgdkkbbmaa
open Go.RowKit LM

theorem keep_below {w v : World} {p : Bool} {u : Value} (h : Below (w.heap.size + 1) (w.alloc (.cells #[.bool p, u] 31)) v) :
    v.cell? ⟨w.heap.size, 0, none⟩ = some (.bool p) ∧ v.cell? ⟨w.heap.size, 1, none⟩ = some u := by
  refine ⟨?_, ?_⟩
  · rw [h.cell (by simp), World.cell?_alloc_at _ _ _ _ (by simp)]; rfl
  · rw [h.cell (by simp), World.cell?_alloc_at _ _ _ _ (by simp)]; rfl

theorem keep_store {w v : World} {p : Bool} {u : Value} (h : Below (w.heap.size + 1) (w.alloc (.cells #[.bool p, u] 31)) v) {a : Nat} (ha : a < w.heap.size) (x y : Value) :
    ((v.setCell ⟨a, 0, none⟩ x).setCell ⟨a, 1, none⟩ y).cell? ⟨w.heap.size, 0, none⟩ = some (.bool p) ∧ ((v.setCell ⟨a, 0, none⟩ x).setCell ⟨a, 1, none⟩ y).cell? ⟨w.heap.size, 1, none⟩ = some u := by
  obtain ⟨h1, h2⟩ := keep_below h
  refine ⟨?_, ?_⟩
  · rw [World.cell?_setCell_other _ _ _ _ (by simp <;> omega), World.cell?_setCell_other _ _ _ _ (by simp <;> omega)]; exact h1
  · rw [World.cell?_setCell_other _ _ _ _ (by simp <;> omega), World.cell?_setCell_other _ _ _ _ (by simp <;> omega)]; exact h2

set_option maxRecDepth 100000 in
set_option maxHeartbeats 1000000 in
theorem rOf_neg (A : Option Addr) (n c : Nat) (bs : List Bool) (w : World) (h : BRow w A n c bs) (hn : n ≤ 1048576) :
    Calls Try.prog 101 #[.slice A n c, .bool true] w fun e w' => (∃ ng A2 n2 c2, e = .returned (.agg #[.bool ng, .slice A2 n2 c2]) ∧ Rval w' (.agg #[.bool ng, .slice A2 n2 c2]) (-1 - pB bs true) (max 64 (n / 16 + 1) + 1)) ∧ Below w.heap.size w w' := by
  obtain ⟨i0, hi, hz0, hz1, hz2⟩ := info_parts Try.info3
  obtain ⟨hl, hc, hcell⟩ := h
  have hW := below_alloc w (.cells #[.bool false, .slice none 0 0] 31)
  have HB := Lib.hid (pB_bit bs true)
  have hp0 := pB_nonneg bs true
  have hp1 := pB_lt bs true
  rw [hl] at hp1
  obtain ⟨P, hP⟩ : ∃ P, pB bs true = P := ⟨_, rfl⟩
  rw [hP] at HB hp0 hp1 ⊢
  obtain ⟨q, hq⟩ : ∃ q, n / 16 = q := ⟨_, rfl⟩
  have HP0 := Lib.hid hp0
  have HP1 := Lib.hid hp1
  have HL := Lib.hid hl
  have t1 : (n : Int).tdiv 16 = (q : Int) := by rw [Int.tdiv_eq_ediv_of_nonneg (by omega)]; omega
  rw [hq]
  have hqb : q ≤ 65536 := by omega
  have HK := Lib.hid (show q + 1 = n / 16 + 1 by omega)
  have hb0 : ∀ i, i < n → ∃ b o, A = some ⟨b, o, none⟩ ∧ b < w.heap.size ∧ w.cell? ⟨b, o + i, none⟩ = some (.bool (bs.getD i false)) := fun i hi => by
    obtain ⟨b, o, e, hlt, hc2⟩ := hcell (by omega)
    exact ⟨b, o, e, hlt, hc2 i hi⟩
  have HC := Lib.hid hb0
  clear hp0 hp1 hcell hl hP hq hb0
  go_enter Try.func101, Try.ntmps101
  go_wp2_with (at_make; refine wpList_make_full _ rfl _ _ 29 rfl (w.alloc (.cells #[.bool false, .slice none 0 0] 31)).heap.size 3 i0 (.int .i64 0) 1 Try.underlying29 hi hz0 hz1 _ _ _ _ (q + 1) rfl rfl (by omega) (by omega) (by rw [hz2]; omega) (by unfold maxLen; omega) (Nat.le_refl _) ?_; intro w1 hown hgrow)
  have hbw := hW.grown hgrow hW.size (fun _ h => by cases h)
  have hB1 : Below (w.heap.size + 1) (w.alloc (.cells #[.bool false, .slice none 0 0] 31)) w1 := (Below.refl _ _).grown hgrow (by simp) (fun _ h => by cases h)
  obtain ⟨g, hg⟩ : ∃ g, (w.alloc (.cells #[.bool false, .slice none 0 0] 31)).heap.size = g := ⟨_, rfl⟩
  rw [hg] at hown
  have hg2 : w.heap.size + 1 = g := by rw [← hg]; simp
  rw [hg2]
  have hg1 : w.heap.size + 1 ≤ g := by omega
  clear hg hgrow hW
  go_loopw [6] (fun iv wr => ∃ (v : Int) (m : Nat), iv = .int .i64 v ∧ v = (m : Int) - 1 ∧ OfRel w1 wr g (q + 1) n P m) (fun iv _ => (intOf iv + 1).toNat)
  case atStart =>
    refine ⟨_, n, rfl, rfl, Nat.le_refl _, ?_, Below.refl _ _⟩
    rw [zeros_made64] at hown
    rw [digs_top HP0.out HP1.out]
    exact hown
  case round =>
    obtain ⟨v, m, rfl, hv, hrel⟩ := hrel
    have HR := Lib.hid hrel
    obtain ⟨hmn, -, hbl⟩ := hrel
    cases m with
    | zero =>
      have hv2 : v < 0 := by omega
      obtain ⟨_, ho, _⟩ := HR.out
      have hrow : Row .i64 wr (some ⟨g, 0, none⟩) (q + 1) (q + 1) (digs P 0 (q + 1)) := Row.of_own ho
      have hval := digs_val (K := q + 1) HP0.out (by have := HP1.out; have := two_mono (show n ≤ 16 * (q + 1) by have := HK.out; omega); omega)
      have HV := Lib.hid hval
      have HROW := Lib.hid hrow
      have HWR := Lib.hid (hbw.trans (hbl.mono (by omega)))
      clear hv hval hrow ho
      go_wp2_with fail
      refine (rmade_any false _ _ _ _ _ HROW.out (by omega) (digs_dig _ _ _)).mono ?_
      rintro e w2 ⟨ng, A2, n2, c2, rfl, hv2, hb2⟩
      have HV2 := Lib.hid hv2
      clear hv2
      have hB2 := hB1.trans (hbl.mono (B' := w.heap.size + 1) hg1)
      have hs2 : w.heap.size + 1 ≤ wr.heap.size := by have := hB2.size; simpa using this
      have hB3 := hB2.trans (hb2.mono (B' := w.heap.size + 1) hs2)
      have hs3 : w.heap.size + 1 ≤ w2.heap.size := by have := hB3.size; simpa using this
      have hB4 := (hB3.alloc hs3 (.cells #[.bool ng, .slice A2 n2 c2] 31)).drew
      have hR0 := (Below.refl (w2.heap.size + 1) (w2.alloc (.cells #[.bool ng, .slice A2 n2 c2] 31))).drew
      have HR3 := Lib.hid (HV2.out.below (below_alloc w2 (.cells #[.bool ng, .slice A2 n2 c2] 31)))
      have HW2 := Lib.hid (HWR.out.trans (hb2.mono (B' := w.heap.size) (by omega)))
      have hlt2 : w.heap.size < w2.heap.size := by omega
      have e0 : withSign false (valR 65536 (digs P 0 (q + 1))) = P := by rw [HV.out]; simp [withSign]
      rw [e0] at HR3
      have hz3 : w2.heap.size + 1 ≤ (w2.alloc (.cells #[.bool ng, .slice A2 n2 c2] 31)).heap.size := by simp
      clear hB2 hbl hb2 e0
      go_wp2_with fail
      go_region_held3 (fun w' => w'.cell? ⟨w2.heap.size, 0, none⟩ = some (.bool ng) ∧ w'.cell? ⟨w2.heap.size, 1, none⟩ = some (.slice A2 n2 c2))
        (first | (with_reducible exact keep_store hR2 hlt2 _ _) | (with_reducible exact keep_below hR2) | (with_reducible exact keep_below hR1) | (with_reducible exact keep_below hR0))
        (first
          | (go_at_call 41; have hK := hR1; clear hK; refine (rsub_any _ _ (-1) P 64 (q + 1) _ HV4.out (HR3.out.below (hR1.mono (by simp))) (by omega) (by omega)).mono ?_; rintro e w5 ⟨⟨ng5, A5, n5, c5, rfl, hv5⟩, hb5⟩; have hR2 := Below.trans hR1 (hb5.mono (B' := w2.heap.size + 1) (Nat.le_trans hz3 hR1.size)); have hB6 := hB5.trans (hb5.mono (B' := w.heap.size + 1) (Nat.le_trans (by omega) (Nat.le_trans hz3 hR1.size))); have HV5 := Lib.hid hv5; obtain ⟨e1, e2, f1, f2⟩ := room31 hB6; clear hv5)
          | (go_at_call 18; refine (rnew_any (-1) _ (by decide) (by decide)).mono ?_; rintro e w4 ⟨⟨ng4, A4, n4, c4, rfl, hv4⟩, hb4⟩; have hR1 := Below.trans hR0 (hb4.mono (B' := w2.heap.size + 1) (Nat.le_trans hz3 hR0.size)); have hB5 := hB4.trans (hb4.mono (B' := w.heap.size + 1) (Nat.le_trans (by omega) (Nat.le_trans hz3 hR0.size))); have HV4 := Lib.hid hv4; clear hv4))
      go_wp2
      refine bodyPost_ret (v := .agg #[.bool ng5, .slice A5 n5 c5]) (by simp [results, Try.results101, go_sem, e1, e2]) rfl ⟨⟨_, _, _, _, rfl, ?_⟩, ?_⟩
      · exact HV5.out.stored e1 e2 _ _
      · exact ((HW2.out.trans (((below_alloc w2 (.cells #[.bool ng, .slice A2 n2 c2] 31)).trans (hR2.mono (by simp))).mono (by omega))).setCell (Nat.le_refl _) _).setCell (Nat.le_refl _) _
    | succ i =>
      obtain rfl : v = (i : Int) := by omega
      clear hv
      obtain ⟨b, o, eA, hlt, hcb⟩ := HC.out i (by omega)
      obtain ⟨d, hd, ⟨hd0, hd1⟩, hcl, hfr⟩ := HR.out.cells HK.out
      have ti : (i : Int).tdiv 16 = ((i / 16 : Nat) : Int) := by rw [Int.tdiv_eq_ediv_of_nonneg (by omega)]; omega
      obtain ⟨j, hj⟩ : ∃ j, i / 16 = j := ⟨_, rfl⟩
      have hbit := HB.out i (by have := HL.out; omega)
      have hst0 := Lib.hid (fun hb => HR.out.step0 hd hb)
      have hst1 := Lib.hid (fun hb => HR.out.step1 hd hb)
      rw [hj] at ti hcl hfr hst0 hst1
      have hjq : j < q + 1 := by have := HK.out; omega
      subst eA
      have hcb1 := (hbl.cell (p := ⟨b, o + i, none⟩) (by show b < _; omega)).trans (show w1.cell? ⟨b, o + i, none⟩ = some (.bool (bs.getD i false)) from (hbw.cell (p := ⟨b, o + i, none⟩) hlt).trans hcb)
      cases hbb : bs.getD i false with
      | false =>
        rw [hbb] at hcb1 hbit
        have hz : P / 2 ^ i % 2 = 1 := by simpa using hbit
        have HST := Lib.hid (hst1.out hz)
        clear hst0 hst1 hbit hz hd
        go_wp2_with fail
        exact ⟨⟨_, i, rfl, rfl, HST.out⟩, by simp [intOf]⟩
      | true =>
        rw [hbb] at hcb1 hbit
        have hz : P / 2 ^ i % 2 = 0 := by
          have : ¬ P / 2 ^ i % 2 = 1 := by simpa using hbit
          omega
        have HST := Lib.hid (hst0.out hz)
        clear hst0 hst1 hbit hz hd
        go_wp2_with fail
        exact ⟨⟨_, i, rfl, rfl, HST.out⟩, by simp [intOf]⟩

theorem rOf_any (neg : Bool) (A : Option Addr) (n c : Nat) (bs : List Bool) (w : World) (h : BRow w A n c bs) (hn : n ≤ 1048576) :
    Calls Try.prog 101 #[.slice A n c, .bool neg] w fun e w' => (∃ ng A2 n2 c2, e = .returned (.agg #[.bool ng, .slice A2 n2 c2]) ∧ Rval w' (.agg #[.bool ng, .slice A2 n2 c2]) (if neg then -1 - pB bs neg else pB bs neg) (max 64 (n / 16 + 1) + 1)) ∧ Below w.heap.size w w' := by
  cases neg with
  | false =>
    refine (rOf_pos A n c bs w h hn).mono ?_
    rintro e w' ⟨⟨ng, A2, n2, c2, rfl, hv⟩, hb⟩
    exact ⟨⟨ng, A2, n2, c2, rfl, hv.mono (by omega)⟩, hb⟩
  | true => exact rOf_neg A n c bs w h hn

end Go.Proofs.Ytoanomgdkkbbmaa

/- The reference's Boole. -/
namespace Go.Proofs.Ytoanomgdkkbbmaa
open Go.RowKit LM

/-- The bits that an operation has for those of two numbers. -/
def combOf (op x y : Int) (N : Nat) : List Bool := (List.range N).map (fun k : Nat => chosenOf op (bitOf x (k : Int)) (bitOf y (k : Int)))
theorem combOf_succ (op x y : Int) (i : Nat) : combOf op x y (i + 1) = combOf op x y i ++ [chosenOf op (bitOf x (i : Int)) (bitOf y (i : Int))] := by
  unfold combOf; rw [List.range_succ, List.map_append]; rfl
theorem combOf_getD (op x y : Int) (N i : Nat) (h : i < N) : (combOf op x y N).getD i false = chosenOf op (bitOf x (i : Int)) (bitOf y (i : Int)) := by
  unfold combOf; simp [List.getD, h]
theorem combOf_length (op x y : Int) (N : Nat) : (combOf op x y N).length = N := by simp [combOf]

/-- What the reference's Boole comes to. -/
def RBooled (op x y z : Int) : Prop :=
  ∃ N : Nat, patOf x < 2 ^ N ∧ patOf y < 2 ^ N ∧ z = if chosenOf op (decide (x < 0)) (decide (y < 0)) then -1 - pB (combOf op x y N) (chosenOf op (decide (x < 0)) (decide (y < 0))) else pB (combOf op x y N) (chosenOf op (decide (x < 0)) (decide (y < 0)))

theorem RBooled.same {op x y z z' : Int} {k : Nat} (h : Booled op x y (k + 1) z) (g : RBooled op x y z') (h0 : 0 ≤ op) (hx : patOf x < 2 ^ (32 * k)) (hy : patOf y < 2 ^ (32 * k)) : z' = z := by
  obtain ⟨N, nx, ny, rfl⟩ := g
  have hl := combOf_length op x y N
  exact boole_same h h0 hx hy nx ny (combOf op x y N) hl (fun i hi => combOf_getD op x y N i hi) (pB_nonneg _ _) (by have := pB_lt (combOf op x y N) (chosenOf op (decide (x < 0)) (decide (y < 0))); rwa [hl] at this) (fun i hi => pB_bit _ _ i (by rw [hl]; exact hi))

theorem IsLen.lt_of_le {z : Int} {k N : Nat} (h : IsLen z k) (hk : k ≤ N) : z < 2 ^ N := by
  have := h.lt
  have := two_mono hk
  omega

theorem comb_hold {w5 w' : World} {ba bb oa ob i : Nat} {xa xb : Bool} (hba : ba < w5.heap.size) (hbb : bb < w5.heap.size) (ha : w5.cell? ⟨ba, oa + i, none⟩ = some (.bool xa)) (hc : w5.cell? ⟨bb, ob + i, none⟩ = some (.bool xb)) (hb : Below w5.heap.size w5 w') :
    w'.cell? ⟨ba, oa + i, none⟩ = some (.bool xa) ∧ w'.cell? ⟨bb, ob + i, none⟩ = some (.bool xb) ∧ Below w5.heap.size w5 w' :=
  ⟨(hb.cell (p := ⟨ba, oa + i, none⟩) hba).trans ha, (hb.cell (p := ⟨bb, ob + i, none⟩) hbb).trans hc, hb⟩

theorem add_hold {w w' : World} {p q : Bool} {A B : Option Addr} {n c m d : Nat} (h : Below (w.heap.size + 3) (((w.alloc (.cells #[.bool p, .slice A n c] 31)).alloc (.cells #[.bool q, .slice B m d] 31)).alloc (.cells #[.bool false, .slice none 0 0] 31)) w') :
    w'.cell? ⟨w.heap.size, 0, none⟩ = some (.bool p) ∧ w'.cell? ⟨w.heap.size, 1, none⟩ = some (.slice A n c) ∧ w'.cell? ⟨w.heap.size + 1, 0, none⟩ = some (.bool q) ∧ w'.cell? ⟨w.heap.size + 1, 1, none⟩ = some (.slice B m d) ∧ Below (w.heap.size + 3) (((w.alloc (.cells #[.bool p, .slice A n c] 31)).alloc (.cells #[.bool q, .slice B m d] 31)).alloc (.cells #[.bool false, .slice none 0 0] 31)) w' := by
  obtain ⟨a1, a2, a3, a4, -⟩ := add_boxes (h.mono (by omega))
  exact ⟨a1, a2, a3, a4, h⟩

set_option maxRecDepth 100000 in
set_option maxHeartbeats 4000000 in
theorem rBoole_in (u v : Value) (x y op : Int) (L M : Nat) (w : World) (h : Rval w u x L) (g : Rval w v y M) (hL : L ≤ 20000) (hM : M ≤ 20000) (h0 : 0 ≤ op) (h1 : op ≤ 15) :
    Calls Try.prog 52 #[.int .i64 op, u, v] w fun e w' => (∃ z ng A2 n2 c2, e = .returned (.tuple #[.agg #[.bool ng, .slice A2 n2 c2], .int .i64 0]) ∧ Rval w' (.agg #[.bool ng, .slice A2 n2 c2]) z 30000 ∧ RBooled op x y z) ∧ Below w.heap.size w w' := by
  obtain ⟨i0, hii, hz0, hz1, hz2⟩ := info_parts Try.info4
  obtain ⟨p, A, n, c, rfl⟩ := h.form
  obtain ⟨q, B, m, d, rfl⟩ := g.form
  have hp := rval_neg h
  have hq := rval_neg g
  have hW : Below w.heap.size w (((w.alloc (.cells #[.bool p, .slice A n c] 31)).alloc (.cells #[.bool q, .slice B m d] 31)).alloc (.cells #[.bool false, .slice none 0 0] 31)) := (below_two w _ _).alloc (by simp; omega) _
  have hs3 : w.heap.size + 3 ≤ (((w.alloc (.cells #[.bool p, .slice A n c] 31)).alloc (.cells #[.bool q, .slice B m d] 31)).alloc (.cells #[.bool false, .slice none 0 0] 31)).heap.size := by simp <;> omega
  have HX := Lib.hid (h.below hW)
  have HY := Lib.hid (g.below hW)
  have HP := Lib.hid hp
  have HQ := Lib.hid hq
  have HT := Lib.hid (fun (w' : World) (hb : Below (w.heap.size + 3) (((w.alloc (.cells #[.bool p, .slice A n c] 31)).alloc (.cells #[.bool q, .slice B m d] 31)).alloc (.cells #[.bool false, .slice none 0 0] 31)) w') => add_hold hb)
  have HRM := Lib.hid (fun (w' : World) (hb : Below (w.heap.size + 3) (((w.alloc (.cells #[.bool p, .slice A n c] 31)).alloc (.cells #[.bool q, .slice B m d] 31)).alloc (.cells #[.bool false, .slice none 0 0] 31)) w') => add_room hb)
  have hB00 := Below.refl (w.heap.size + 3) (((w.alloc (.cells #[.bool p, .slice A n c] 31)).alloc (.cells #[.bool q, .slice B m d] 31)).alloc (.cells #[.bool false, .slice none 0 0] 31))
  have hs3' : (((w.alloc (.cells #[.bool p, .slice A n c] 31)).alloc (.cells #[.bool q, .slice B m d] 31)).alloc (.cells #[.bool false, .slice none 0 0] 31)).heap.size ≤ w.heap.size + 3 := by simp <;> omega
  clear h g hp hq
  go_enter Try.func52, Try.ntmps52
  go_wp2_with fail
  have hB0 := hB00.drew
  generalize (((w.alloc (.cells #[.bool p, .slice A n c] 31)).alloc (.cells #[.bool q, .slice B m d] 31)).alloc (.cells #[.bool false, .slice none 0 0] 31)) = wl at *
  refine wp_region_held_drew (S := fun w' => w'.cell? ⟨w.heap.size, 0, none⟩ = some (.bool p) ∧ w'.cell? ⟨w.heap.size, 1, none⟩ = some (.slice A n c) ∧ w'.cell? ⟨w.heap.size + 1, 0, none⟩ = some (.bool q) ∧ w'.cell? ⟨w.heap.size + 1, 1, none⟩ = some (.slice B m d) ∧ Below (w.heap.size + 3) wl w') (by kernel_rfl) (HT.out _ hB0) (fun hHeld0 => ?_)
  refine wpAnyH_taken (i := 0) (d := some 20) (v := ?_) rfl rfl (by kernel_rfl) (by kernel_rfl) (by kernel_rfl) (fun _ _ _ h => h) (Or.inl ⟨by rfl, ?_⟩) (by assumption) ?_
  rotate_left 1
  · (intro w hSw; (try dsimp only at hSw); go_simp; try with_reducible rfl)
  try simp only [Act.put, List.setIfInBounds_toArray, List.set_cons_zero, List.set_cons_succ]
  refine wpAnyH_taken (i := 2) (d := some 22) (v := ?_) rfl rfl (by kernel_rfl) (by kernel_rfl) (by kernel_rfl) (fun _ _ _ h => h) (Or.inl ⟨by rfl, ?_⟩) (by assumption) ?_
  rotate_left 1
  · (intro w hSw; (try dsimp only at hSw); go_simp; try with_reducible rfl)
  try simp only [Act.put, List.setIfInBounds_toArray, List.set_cons_zero, List.set_cons_succ]
  refine wpAnyH_ready (rs := [1]) (by kernel_rfl) (by simp) ?_
  refine AllReadyH.cons rfl (fun K hK => ?_) AllReadyH.nil
  try simp only [List.getElem_toArray, List.getElem_cons_zero, List.getElem_cons_succ]
  go_simp
  (go_at_call 27; refine (rLength_any _ x L _ (HX.out.below (hB0.mono hs3')) (by omega)).mono ?_; rintro e w1 ⟨⟨k1, rfl, hk1, hl1⟩, hb1⟩)
  have hB1 := Below.trans hB0 (hb1.mono (B' := w.heap.size + 3) (Nat.le_trans hs3 hB0.size))
  have HK1 := Lib.hid hk1
  clear hk1
  refine hK.out _ _ (HT.out _ hB1) (fun hHeld1 => ?_)
  clear hK K hHeld0 
  try simp only [Act.put, List.setIfInBounds_toArray, List.set_cons_zero, List.set_cons_succ]
  refine wpAnyH_ready (rs := [3]) (by kernel_rfl) (by simp) ?_
  refine AllReadyH.cons rfl (fun K hK => ?_) AllReadyH.nil
  try simp only [List.getElem_toArray, List.getElem_cons_zero, List.getElem_cons_succ]
  go_simp
  (go_at_call 27; refine (rLength_any _ y M _ (HY.out.below (hB1.mono hs3')) (by omega)).mono ?_; rintro e w2 ⟨⟨k2, rfl, hk2, hl2⟩, hb2⟩)
  have hB2 := Below.trans hB1 (hb2.mono (B' := w.heap.size + 3) (Nat.le_trans hs3 hB1.size))
  have HK2 := Lib.hid hk2
  clear hk2
  refine hK.out _ _ (HT.out _ hB2) (fun hHeld2 => ?_)
  clear hK K hHeld1 
  try simp only [Act.put, List.setIfInBounds_toArray, List.set_cons_zero, List.set_cons_succ]
  refine wpAnyH_ready (rs := [4]) (by kernel_rfl) (by simp) ?_
  refine AllReadyH.cons rfl (fun K hK => ?_) AllReadyH.nil
  try simp only [List.getElem_toArray, List.getElem_cons_zero, List.getElem_cons_succ]
  go_simp
  rw [show (max (k1 : Int) (k2 : Int)) = ((max k1 k2 : Nat) : Int) from by omega]
  have hN1 := HK1.out.lt_of_le (Nat.le_max_left k1 k2)
  have hN2 := HK2.out.lt_of_le (Nat.le_max_right k1 k2)
  have hNb : max k1 k2 ≤ 321040 := by omega
  generalize max k1 k2 = N at *
  have HN := Lib.hid (And.intro hN1 hN2)
  refine hK.out _ _ (HT.out _ hB2) (fun hHeld3 => ?_)
  clear hK K hHeld2 hN1 hN2
  try simp only [Act.put, List.setIfInBounds_toArray, List.set_cons_zero, List.set_cons_succ]
  refine wpAnyH_taken (i := 5) (d := some 8) (v := ?_) rfl rfl (by kernel_rfl) (by kernel_rfl) (by kernel_rfl) (fun _ _ _ h => h) (Or.inl ⟨by rfl, ?_⟩) (by assumption) ?_
  rotate_left 1
  · (intro w hSw; (try dsimp only at hSw); go_simp; try with_reducible rfl)
  try simp only [Act.put, List.setIfInBounds_toArray, List.set_cons_zero, List.set_cons_succ]
  refine wpAnyH_done (by kernel_rfl) ?_ _
  have hB3 := hB2.drew
  clear hb1 hb2 hB1 HK1 HK2 hl1 hl2
  go_wp2_with fail
  refine wp_region_held_drew (S := fun w' => w'.cell? ⟨w.heap.size, 0, none⟩ = some (.bool p) ∧ w'.cell? ⟨w.heap.size, 1, none⟩ = some (.slice A n c) ∧ w'.cell? ⟨w.heap.size + 1, 0, none⟩ = some (.bool q) ∧ w'.cell? ⟨w.heap.size + 1, 1, none⟩ = some (.slice B m d) ∧ Below (w.heap.size + 3) wl w') (by kernel_rfl) (HT.out _ hB3) (fun hHeld0 => ?_)
  refine wpAnyH_taken (i := 0) (d := some 25) (v := ?_) rfl rfl (by kernel_rfl) (by kernel_rfl) (by kernel_rfl) (fun _ _ _ h => h) (Or.inl ⟨by rfl, ?_⟩) (by assumption) ?_
  rotate_left 1
  · (intro w hSw; (try dsimp only at hSw); go_simp; try with_reducible rfl)
  try simp only [Act.put, List.setIfInBounds_toArray, List.set_cons_zero, List.set_cons_succ]
  refine wpAnyH_taken (i := 1) (d := some 26) (v := ?_) rfl rfl (by kernel_rfl) (by kernel_rfl) (by kernel_rfl) (fun _ _ _ h => h) (Or.inl ⟨by rfl, ?_⟩) (by assumption) ?_
  rotate_left 1
  · (intro w hSw; (try dsimp only at hSw); go_simp; try with_reducible rfl)
  try simp only [Act.put, List.setIfInBounds_toArray, List.set_cons_zero, List.set_cons_succ]
  refine wpAnyH_taken (i := 3) (d := some 28) (v := ?_) rfl rfl (by kernel_rfl) (by kernel_rfl) (by kernel_rfl) (fun _ _ _ h => h) (Or.inl ⟨by rfl, ?_⟩) (by assumption) ?_
  rotate_left 1
  · (intro w hSw; (try dsimp only at hSw); go_simp; try with_reducible rfl)
  try simp only [Act.put, List.setIfInBounds_toArray, List.set_cons_zero, List.set_cons_succ]
  refine wpAnyH_taken (i := 4) (d := some 29) (v := ?_) rfl rfl (by kernel_rfl) (by kernel_rfl) (by kernel_rfl) (fun _ _ _ h => h) (Or.inl ⟨by rfl, ?_⟩) (by assumption) ?_
  rotate_left 1
  · (intro w hSw; (try dsimp only at hSw); go_simp; try with_reducible rfl)
  try simp only [Act.put, List.setIfInBounds_toArray, List.set_cons_zero, List.set_cons_succ]
  refine wpAnyH_ready (rs := [2]) (by kernel_rfl) (by simp) ?_
  refine AllReadyH.cons rfl (fun K hK => ?_) AllReadyH.nil
  try simp only [List.getElem_toArray, List.getElem_cons_zero, List.getElem_cons_succ]
  go_simp
  (go_at_call 81; refine (rBits_any _ x L N _ (HX.out.below (hB3.mono hs3')) (by omega) (by omega)).mono ?_; rintro e w4 ⟨⟨A1, n1, d1, rfl, hr1⟩, hb4⟩)
  have hB4 := Below.trans hB3 (hb4.mono (B' := w.heap.size + 3) (Nat.le_trans hs3 hB3.size))
  have HR1 := Lib.hid hr1
  clear hr1
  refine hK.out _ _ (HT.out _ hB4) (fun hHeld1 => ?_)
  clear hK K hHeld0 
  try simp only [Act.put, List.setIfInBounds_toArray, List.set_cons_zero, List.set_cons_succ]
  refine wpAnyH_ready (rs := [5]) (by kernel_rfl) (by simp) ?_
  refine AllReadyH.cons rfl (fun K hK => ?_) AllReadyH.nil
  try simp only [List.getElem_toArray, List.getElem_cons_zero, List.getElem_cons_succ]
  go_simp
  (go_at_call 81; refine (rBits_any _ y M N _ (HY.out.below (hB4.mono hs3')) (by omega) (by omega)).mono ?_; rintro e w5 ⟨⟨A2, n2, d2, rfl, hr2⟩, hb5⟩)
  have hB5 := Below.trans hB4 (hb5.mono (B' := w.heap.size + 3) (Nat.le_trans hs3 hB4.size))
  have HR1b := Lib.hid (HR1.out.below hb5)
  have HR2 := Lib.hid hr2
  clear hr2
  refine hK.out _ _ (HT.out _ hB5) (fun hHeld2 => ?_)
  clear hK K hHeld1 
  try simp only [Act.put, List.setIfInBounds_toArray, List.set_cons_zero, List.set_cons_succ]
  refine wpAnyH_taken (i := 6) (d := some 9) (v := ?_) rfl rfl (by kernel_rfl) (by kernel_rfl) (by kernel_rfl) (fun _ _ _ h => h) (Or.inl ⟨by rfl, ?_⟩) (by assumption) ?_
  rotate_left 1
  · (intro w hSw; (try dsimp only at hSw); go_simp; try with_reducible rfl)
  try simp only [Act.put, List.setIfInBounds_toArray, List.set_cons_zero, List.set_cons_succ]
  refine wpAnyH_taken (i := 7) (d := some 10) (v := ?_) rfl rfl (by kernel_rfl) (by kernel_rfl) (by kernel_rfl) (fun _ _ _ h => h) (Or.inl ⟨by rfl, ?_⟩) (by assumption) ?_
  rotate_left 1
  · (intro w hSw; (try dsimp only at hSw); go_simp; try with_reducible rfl)
  try simp only [Act.put, List.setIfInBounds_toArray, List.set_cons_zero, List.set_cons_succ]
  refine wpAnyH_done (by kernel_rfl) ?_ _
  have hn1 : n1 = N := by have := HR1.out.1; unfold bitsOf at this; simpa using this.symm
  have hn2 : n2 = N := by have := HR2.out.1; unfold bitsOf at this; simpa using this.symm
  subst hn1
  subst hn2
  clear hB0 hB00 hB3 hB4 hb4 hb5 HR1 hHeld2
  go_wp2_with fail
  go_loopw [11, 12] (fun dv iv wr => ∃ (i : Nat) (bs : List Bool), iv = .int .i64 i ∧ i ≤ n2 ∧ Bools wr w5.heap.size dv bs ∧ bs.length = i ∧ Hid (bs = combOf op x y i) ∧ Below w5.heap.size w5 wr) (fun _ iv _ => n2 - (intOf iv).toNat)
  case atStart => exact ⟨0, [], rfl, Nat.zero_le _, World.ownsRow_nil _ _ _ _, rfl, Lib.hid rfl, Below.refl _ _⟩
  case round =>
    obtain ⟨i, bs, rfl, hi, hown, hbl, HBS, hb⟩ := hrel
    have HO := Lib.hid hown
    have HBL := Lib.hid hbl
    have HO2 : Hid (wr.ownsRow w5.heap.size 4 1 u11 i (bs.map Value.bool)) := Lib.hid (by have h := HO.out; unfold Bools at h; rw [HBL.out] at h; exact h)
    clear hown hbl
    by_cases hlt : i < n2
    · obtain ⟨ba, oa, rfl, hba, hca⟩ := HR1b.out.2.2 (by omega)
      obtain ⟨bb, ob, rfl, hbb, hcb⟩ := HR2.out.2.2 (by omega)
      have hca := hca i hlt
      have hcb := hcb i hlt
      rw [bitsOf_getD x n2 i hlt] at hca
      rw [bitsOf_getD y n2 i hlt] at hcb
      obtain ⟨xa, hxa⟩ : ∃ xa, bitOf x (i : Int) = xa := ⟨_, rfl⟩
      obtain ⟨xb, hxb⟩ : ∃ xb, bitOf y (i : Int) = xb := ⟨_, rfl⟩
      obtain ⟨cb, hcbb⟩ : ∃ cb, chosenOf op xa xb = cb := ⟨_, rfl⟩
      have HCB := Lib.hid hcbb
      have HCC := Lib.hid (show chosenOf op (bitOf x (i : Int)) (bitOf y (i : Int)) = cb by rw [hxa, hxb, hcbb])
      rw [hxa] at hca
      rw [hxb] at hcb
      have HTR := Lib.hid (fun (w' : World) (hb : Below w5.heap.size w5 w') => comb_hold hba hbb hca hcb hb)
      obtain ⟨g0, g1, _⟩ := HTR.out _ hb
      have hC0 := hb.drew
      have HO1 := Lib.hid (show wr.drew.ownsRow w5.heap.size 4 1 u11 i (bs.map Value.bool) from HO2.out)
      have hib : (i : Int) < (n2 : Int) := by omega
      clear hca hcb hxa hxb hcbb
      go_wp2_with fail
      refine wp_region_held_drew (S := fun w' => w'.cell? ⟨ba, oa + i, none⟩ = some (.bool xa) ∧ w'.cell? ⟨bb, ob + i, none⟩ = some (.bool xb) ∧ Below w5.heap.size w5 w') (by kernel_rfl) (HTR.out _ hC0) (fun hHeld0 => ?_)
      refine wpAnyH_taken (i := 0) (d := some 36) (v := ?_) rfl rfl (by kernel_rfl) (by kernel_rfl) (by kernel_rfl) (fun _ _ _ h => h) (Or.inl ⟨by rfl, ?_⟩) (by assumption) ?_
      rotate_left 1
      · (intro w hSw; (try dsimp only at hSw); go_simp; try with_reducible rfl)
      try simp only [Act.put, List.setIfInBounds_toArray, List.set_cons_zero, List.set_cons_succ]
      refine wpAnyH_taken (i := 1) (d := some 37) (v := ?_) rfl rfl (by kernel_rfl) (by kernel_rfl) (by kernel_rfl) (fun _ _ _ h => h) (Or.inl ⟨by rfl, ?_⟩) (by assumption) ?_
      rotate_left 1
      · (intro w hSw; (try dsimp only at hSw); go_simp; try with_reducible rfl)
      try simp only [Act.put, List.setIfInBounds_toArray, List.set_cons_zero, List.set_cons_succ]
      refine wpAnyH_taken (i := 2) (d := some 38) (v := ?_) rfl rfl (by kernel_rfl) (by kernel_rfl) (by kernel_rfl) (fun _ _ _ h => h) (Or.inl ⟨by rfl, ?_⟩) (by assumption) ?_
      rotate_left 1
      · (intro w hSw; (try dsimp only at hSw); go_simp; try with_reducible rfl)
      try simp only [Act.put, List.setIfInBounds_toArray, List.set_cons_zero, List.set_cons_succ]
      refine wpAnyH_taken (i := 3) (d := some 39) (v := ?_) rfl rfl (by kernel_rfl) (by kernel_rfl) (by kernel_rfl) (fun _ _ _ h => h) (Or.inl ⟨by rfl, ?_⟩) (by assumption) ?_
      rotate_left 1
      · (intro w hSw; (try dsimp only at hSw); go_simp; try with_reducible rfl)
      try simp only [Act.put, List.setIfInBounds_toArray, List.set_cons_zero, List.set_cons_succ]
      refine wpAnyH_taken (i := 4) (d := some 40) (v := ?_) rfl rfl (by kernel_rfl) (by kernel_rfl) (by kernel_rfl) (fun _ _ _ h => h) (Or.inl ⟨by rfl, ?_⟩) (by assumption) ?_
      rotate_left 1
      · (intro w hSw; (try dsimp only at hSw); go_simp; try with_reducible rfl)
      try simp only [Act.put, List.setIfInBounds_toArray, List.set_cons_zero, List.set_cons_succ]
      refine wpAnyH_taken (i := 5) (d := some 41) (v := ?_) rfl rfl (by kernel_rfl) (by kernel_rfl) (by kernel_rfl) (fun _ _ _ h => h) (Or.inl ⟨by rfl, ?_⟩) (by assumption) ?_
      rotate_left 1
      · (intro w hSw; (try dsimp only at hSw); go_simp; try with_reducible rfl)
      try simp only [Act.put, List.setIfInBounds_toArray, List.set_cons_zero, List.set_cons_succ]
      refine wpAnyH_taken (i := 6) (d := some 42) (v := ?_) rfl rfl (by kernel_rfl) (by kernel_rfl) (by kernel_rfl) (fun _ _ _ h => h) (Or.inl ⟨by rfl, ?_⟩) (by assumption) ?_
      rotate_left 1
      · (intro w hSw; (try dsimp only at hSw); go_simp; try with_reducible rfl)
      try simp only [Act.put, List.setIfInBounds_toArray, List.set_cons_zero, List.set_cons_succ]
      refine wpAnyH_taken (i := 7) (d := some 43) (v := ?_) rfl rfl (by kernel_rfl) (by kernel_rfl) (by kernel_rfl) (fun _ _ _ h => h) (Or.inl ⟨by rfl, ?_⟩) (by assumption) ?_
      rotate_left 1
      · (intro w hSw; (try dsimp only at hSw); go_simp; try with_reducible rfl)
      try simp only [Act.put, List.setIfInBounds_toArray, List.set_cons_zero, List.set_cons_succ]
      refine wpAnyH_taken (i := 8) (d := some 44) (v := ?_) rfl rfl (by kernel_rfl) (by kernel_rfl) (by kernel_rfl) (fun _ _ _ h => h) (Or.inl ⟨by rfl, ?_⟩) (by assumption) ?_
      rotate_left 1
      · (intro w hSw; (try dsimp only at hSw); go_simp; try with_reducible rfl)
      try simp only [Act.put, List.setIfInBounds_toArray, List.set_cons_zero, List.set_cons_succ]
      refine wpAnyH_taken (i := 9) (d := some 45) (v := ?_) rfl rfl (by kernel_rfl) (by kernel_rfl) (by kernel_rfl) (fun _ _ _ h => h) (Or.inl ⟨by rfl, ?_⟩) (by assumption) ?_
      rotate_left 1
      · (intro w hSw; (try dsimp only at hSw); go_simp; try with_reducible rfl)
      try simp only [Act.put, List.setIfInBounds_toArray, List.set_cons_zero, List.set_cons_succ]
      refine wpAnyH_ready (rs := [10]) (by kernel_rfl) (by simp) ?_
      refine AllReadyH.cons rfl (fun K hK => ?_) AllReadyH.nil
      try simp only [List.getElem_toArray, List.getElem_cons_zero, List.getElem_cons_succ]
      go_simp
      (go_at_call 100; refine (chosen_any op xa xb _ h0 h1).mono ?_; rintro e w6 ⟨rfl, rfl⟩)
      rw [HCB.out]
      refine hK.out _ _ (HTR.out _ hC0) (fun hHeld1 => ?_)
      clear hK K hHeld0 
      try simp only [Act.put, List.setIfInBounds_toArray, List.set_cons_zero, List.set_cons_succ]
      refine wpAnyH_ready (rs := [11]) (by kernel_rfl) (by simp) ?_
      refine AllReadyH.cons rfl (fun K hK => ?_) AllReadyH.nil
      try simp only [List.getElem_toArray, List.getElem_cons_zero, List.getElem_cons_succ]
      go_simp
      have hC1 := hC0.alloc hC0.size (.cells #[.bool cb] 4)
      refine hK.out _ _ (HTR.out _ hC1) (fun hHeld2 => ?_)
      clear hK K hHeld1 
      try simp only [Act.put, List.setIfInBounds_toArray, List.set_cons_zero, List.set_cons_succ]
      refine wpAnyH_ready (rs := [12]) (by kernel_rfl) (by simp) ?_
      refine AllReadyH.cons (o := { dst := some 48, op := Op.call { callee := Callee.builtin Builtin.append, args := #[Operand.tmp 36, Operand.tmp 47], argTypes := #[103, 103] }, type := 103, pos := "ref.go:414", after := #[{ on := 0, ground := Ground.data }, { on := 11, ground := Ground.data }, { on := 10, ground := Ground.chain }], guard := none }) rfl (fun K hK => ?_) AllReadyH.nil
      refine step_own rfl (.tmp 36) (.tmp 47) 103 rfl w5.heap.size 4 i0 (.bool false) 1 1 Try.underlying103 hii hz0 hz1 hz2 rfl (by decide) u11 i (bs.map Value.bool) (by simp [Act.eval]) (HO1.out.alloc _) ⟨wr.heap.size, 0, none⟩ 1 1 [.bool cb] (by simp [Act.eval]) rfl (cell_one _ _) (by intro u hu; simp at hu; subst hu; rfl) (by unfold maxLen; omega) (by omega) hC1.size ?_
      intro v' w7 hown3 hg3
      have hC2 := hC1.grown hg3 hC1.size (fun g hg => (HO1.out.lt g hg).1)
      have ho3 := Bools.snoc HBL.out hown3
      have HO3 := Lib.hid ho3
      refine hK.out _ _ (HTR.out _ hC2) (fun hHeld3 => ?_)
      clear hK K hHeld2 hown3 hg3 ho3
      try simp only [Act.put, List.setIfInBounds_toArray, List.set_cons_zero, List.set_cons_succ]
      refine wpAnyH_taken (i := 13) (d := some 11) (v := ?_) rfl rfl (by kernel_rfl) (by kernel_rfl) (by kernel_rfl) (fun _ _ _ h => h) (Or.inl ⟨by rfl, ?_⟩) (by assumption) ?_
      rotate_left 1
      · (intro w hSw; (try dsimp only at hSw); go_simp; try with_reducible rfl)
      try simp only [Act.put, List.setIfInBounds_toArray, List.set_cons_zero, List.set_cons_succ]
      refine wpAnyH_done (by kernel_rfl) ?_ _
      go_wp2_with fail
      refine ⟨⟨i + 1, bs ++ [cb], by go_num, hlt, HO3.out, by simp [HBL.out], Lib.hid ?_, hC2⟩, by simp [intOf]; omega⟩
      rw [combOf_succ, ← HBS.out, HCC.out]
    · obtain rfl : i = n2 := by omega
      obtain ⟨A3, c3, rfl, hrow⟩ := BRow.of_own HO2.out
      have HROW := Lib.hid hrow
      have hB6 := hB5.trans (hb.mono (B' := w.heap.size + 3) (Nat.le_trans hs3 hB5.size))
      obtain ⟨g0, g1, g2, g3, _⟩ := HT.out _ hB6
      obtain ⟨ng, hng⟩ : ∃ ng, chosenOf op p q = ng := ⟨_, rfl⟩
      have HNG := Lib.hid hng
      clear hrow hng
      go_wp2_with fail
      refine (chosen_any op p q _ h0 h1).mono ?_
      rintro e w6 ⟨rfl, rfl⟩
      rw [HNG.out]
      go_wp2_with fail
      refine (rOf_any ng A3 i c3 bs _ HROW.out (by omega)).mono ?_
      rintro e w7 ⟨⟨ng7, A7, n7, c7, rfl, hv7⟩, hb7⟩
      have HV7 := Lib.hid (hv7.mono (show max 64 (i / 16 + 1) + 1 ≤ 30000 by omega))
      have hB7 := hB6.trans (hb7.mono (B' := w.heap.size + 3) (Nat.le_trans hs3 hB6.size))
      obtain ⟨e1, e2, f1, f2⟩ := HRM.out _ hB7
      clear hv7 g0 g1 g2 g3
      go_wp2
      refine bodyPost_ret (v := .tuple #[.agg #[.bool ng7, .slice A7 n7 c7], .int .i64 0]) (by simp [results, Try.results52, go_sem, e1, e2]) rfl ⟨⟨_, _, _, _, _, rfl, HV7.out.stored e1 e2 _ _, i, HN.out.1, HN.out.2, ?_⟩, ?_⟩
      · rw [HP.out, HQ.out, HNG.out, ← HBS.out]
      · exact ((hW.trans (hB7.mono (by omega))).setCell (by show _ ≤ _; simp; omega) _).setCell (by show _ ≤ _; simp; omega) _

end Go.Proofs.Ytoanomgdkkbbmaa

/- Boole of both, for any operation; what they come to is one number. -/
namespace Go.Proofs.Ytoanomgdkkbbmaa
open Go.RowKit LM

set_option maxRecDepth 100000 in
set_option maxHeartbeats 1000000 in
theorem rBoole_bad (p q : Bool) (A B : Option Addr) (n c m d : Nat) (op : Int) (w : World) (h : op < 0 ∨ 15 < op) :
    Calls Try.prog 52 #[.int .i64 op, .agg #[.bool p, .slice A n c], .agg #[.bool q, .slice B m d]] w fun e w' => e = .returned (.tuple #[.agg #[.bool false, .slice none 0 0], .int .i64 1]) ∧ Below w.heap.size w w' := by
  have hW : Below w.heap.size w (((w.alloc (.cells #[.bool p, .slice A n c] 31)).alloc (.cells #[.bool q, .slice B m d] 31)).alloc (.cells #[.bool false, .slice none 0 0] 31)) := (below_two w _ _).alloc (by simp; omega) _
  obtain ⟨e1, e2, f1, f2⟩ := add_room (Below.refl (w.heap.size + 3) (((w.alloc (.cells #[.bool p, .slice A n c] 31)).alloc (.cells #[.bool q, .slice B m d] 31)).alloc (.cells #[.bool false, .slice none 0 0] 31)))
  by_cases h1 : op < 0
  · go_enter Try.func52, Try.ntmps52
    go_wp2
    refine bodyPost_ret (v := .tuple #[.agg #[.bool false, .slice none 0 0], .int .i64 1]) (by simp [results, Try.results52, go_sem, e1, e2]) rfl ⟨rfl, ?_⟩
    exact hW
  · have h2 : 15 < op := by omega
    clear h
    go_enter Try.func52, Try.ntmps52
    go_wp2
    refine bodyPost_ret (v := .tuple #[.agg #[.bool false, .slice none 0 0], .int .i64 1]) (by simp [results, Try.results52, go_sem, e1, e2]) rfl ⟨rfl, ?_⟩
    exact hW

set_option maxRecDepth 100000 in
set_option maxHeartbeats 1000000 in
theorem Boole_bad (p q : Bool) (A B : Option Addr) (n c m d : Nat) (op : Int) (w : World) (h : op < 0 ∨ 15 < op) :
    Calls Try.prog 51 #[.agg #[.bool p, .slice A n c], .int .i64 op, .agg #[.bool q, .slice B m d]] w fun e w' => e = .returned (.tuple #[.agg #[.bool false, .slice none 0 0], .int .i64 1]) ∧ Below w.heap.size w w' := by
  have hW := below_boxed2 w (.cells #[.bool p, .slice A n c] 28) (.cells #[.bool q, .slice B m d] 28) (.cells #[.bool false, .slice none 0 0] 28)
  obtain ⟨e1, e2, f1, f2⟩ := room2 (Below.refl (w.heap.size + 3) (((w.alloc (.cells #[.bool p, .slice A n c] 28)).alloc (.cells #[.bool q, .slice B m d] 28)).alloc (.cells #[.bool false, .slice none 0 0] 28)))
  by_cases h1 : op < 0
  · go_enter Try.func51, Try.ntmps51
    go_wp2
    refine bodyPost_ret (v := .tuple #[.agg #[.bool false, .slice none 0 0], .int .i64 1]) (by simp [results, Try.results51, go_sem, e1, e2]) rfl ⟨rfl, ?_⟩
    exact hW
  · have h2 : 15 < op := by omega
    clear h
    go_enter Try.func51, Try.ntmps51
    go_wp2
    refine bodyPost_ret (v := .tuple #[.agg #[.bool false, .slice none 0 0], .int .i64 1]) (by simp [results, Try.results51, go_sem, e1, e2]) rfl ⟨rfl, ?_⟩
    exact hW

/-- The error of Boole. -/
def boolE (op : Int) : Int := if op < 0 ∨ 15 < op then 1 else 0

/-- What Boole comes to. -/
def BoolV (op x y z : Int) : Prop := (op < 0 ∨ 15 < op) ∧ z = 0 ∨ ¬ (op < 0 ∨ 15 < op) ∧ ∃ k, Booled op x y (k + 1) z ∧ patOf x < 2 ^ (32 * k) ∧ patOf y < 2 ^ (32 * k)

def RBoolV (op x y z : Int) : Prop := (op < 0 ∨ 15 < op) ∧ z = 0 ∨ ¬ (op < 0 ∨ 15 < op) ∧ RBooled op x y z

theorem RBoolV.same {op x y z z' : Int} (h : BoolV op x y z) (g : RBoolV op x y z') : z' = z := by
  rcases h with ⟨a, rfl⟩ | ⟨a, k, h1, h2, h3⟩
  · rcases g with ⟨_, rfl⟩ | ⟨b, _⟩
    · rfl
    · exact absurd a b
  · rcases g with ⟨b, _⟩ | ⟨_, g⟩
    · exact absurd b a
    · exact g.same h1 (by omega) h2 h3

theorem Ival.nought {w : World} {L : Nat} : Ival w (.agg #[.bool false, .slice none 0 0]) 0 L :=
  ⟨false, _, 0, rfl, ⟨none, 0, 0, [], rfl, Row.nil_, fun d h => by simp at h, .inl rfl, rfl, Nat.zero_le _⟩, by omega, by simp [withSign], by simp⟩
theorem Rval.nought {w : World} {L : Nat} : Rval w (.agg #[.bool false, .slice none 0 0]) 0 L :=
  ⟨false, none, 0, 0, [], rfl, Row.nil_, fun d h => by simp at h, .inl rfl, rfl, (fun h => by cases h), Nat.zero_le _⟩

theorem pat_row {p : Bool} {xs : List Int} {n k : Nat} (hd : Dig xs) (hl : xs.length = n) (hk : n ≤ k) : patOf (withSign p (val xs)) < 2 ^ (32 * k) := by
  have hb := val_bounds hd
  rw [hl, BB_two] at hb
  have := two_mono (show 32 * n ≤ 32 * k by omega)
  have hp := two_pos (32 * k)
  unfold patOf withSign
  cases p <;> simp <;> split <;> omega

theorem Boole_int (u v : Value) (x y op : Int) (L M : Nat) (w : World) (h : Ival w u x L) (g : Ival w v y M) (hL : L ≤ 10000) (hM : M ≤ 10000) :
    Calls Try.prog 51 #[u, .int .i64 op, v] w fun e w' => (∃ z ng A2 n2 c2, e = .returned (.tuple #[.agg #[.bool ng, .slice A2 n2 c2], .int .i64 (boolE op)]) ∧ Ival w' (.agg #[.bool ng, .slice A2 n2 c2]) z (max L M + 1) ∧ BoolV op x y z) ∧ Below w.heap.size w w' := by
  obtain ⟨p, _, a, rfl, ⟨A, n, c, xs, rfl, hr, hd, ht, hv, hn⟩, ha0, hz, hp⟩ := h
  obtain ⟨q, _, b, rfl, ⟨B, m, d, ys, rfl, gr, gd, gt, gv, gn⟩, gb0, gz, gq⟩ := g
  by_cases hop : op < 0 ∨ 15 < op
  · refine (Boole_bad p q A B n c m d op w hop).mono ?_
    rintro e w' ⟨rfl, hb⟩
    exact ⟨⟨0, false, none, 0, 0, by unfold boolE; rw [if_pos hop], Ival.nought, .inl ⟨hop, rfl⟩⟩, hb⟩
  · refine (Boole_any p q A B n c m d a b op w ⟨xs, hr, hd, hv⟩ ⟨ys, gr, gd, gv⟩ (by omega) (by omega) (by omega) (by omega)).mono ?_
    rintro e w' ⟨⟨z, ng, A2, n2, c2, rfl, hi, hbo⟩, hb⟩
    rw [← hz, ← gz] at hbo
    refine ⟨⟨z, ng, A2, n2, c2, by unfold boolE; rw [if_neg hop], hi.mono (by omega), .inr ⟨hop, _, hbo, ?_, ?_⟩⟩, hb⟩
    · rw [hz, ← hv]; exact pat_row hd hr.1 (by omega)
    · rw [gz, ← gv]; exact pat_row gd gr.1 (by omega)

theorem rBoole_int (u v : Value) (x y op : Int) (L M : Nat) (w : World) (h : Rval w u x L) (g : Rval w v y M) (hL : L ≤ 20000) (hM : M ≤ 20000) :
    Calls Try.prog 52 #[.int .i64 op, u, v] w fun e w' => (∃ z ng A2 n2 c2, e = .returned (.tuple #[.agg #[.bool ng, .slice A2 n2 c2], .int .i64 (boolE op)]) ∧ Rval w' (.agg #[.bool ng, .slice A2 n2 c2]) z 30000 ∧ RBoolV op x y z) ∧ Below w.heap.size w w' := by
  by_cases hop : op < 0 ∨ 15 < op
  · obtain ⟨p, A, n, c, rfl⟩ := h.form
    obtain ⟨q, B, m, d, rfl⟩ := g.form
    refine (rBoole_bad p q A B n c m d op w hop).mono ?_
    rintro e w' ⟨rfl, hb⟩
    exact ⟨⟨0, false, none, 0, 0, by unfold boolE; rw [if_pos hop], Rval.nought, .inl ⟨hop, rfl⟩⟩, hb⟩
  · refine (rBoole_in u v x y op L M w h g hL hM (by omega) (by omega)).mono ?_
    rintro e w' ⟨⟨z, ng, A2, n2, c2, rfl, hi, hbo⟩, hb⟩
    exact ⟨⟨z, ng, A2, n2, c2, by unfold boolE; rw [if_neg hop], hi, .inr ⟨hop, hbo⟩⟩, hb⟩

end Go.Proofs.Ytoanomgdkkbbmaa

