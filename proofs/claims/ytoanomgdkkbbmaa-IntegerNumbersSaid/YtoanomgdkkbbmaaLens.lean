/- Numbers of binary digits: length, pattern, Length. -/
import Derived.Test.YtoanomgdkkbbmaaOf
import Derived.Test.YtoanomgdkkbbmaaShelf
import Derived.Lib.ItoaNum
namespace Go.Proofs.Ytoanomgdkkbbmaa
open Go.RowKit LM

/-- z has k binary digits. -/
def IsLen (z : Int) (k : Nat) : Prop := (z = 0 ∧ k = 0) ∨ (1 ≤ k ∧ (2 : Int) ^ (k - 1) ≤ z ∧ z < 2 ^ k)

theorem two_pos (n : Nat) : (0 : Int) < 2 ^ n := Int.pow_pos (by decide)

theorem two_mono {m n : Nat} (h : m ≤ n) : (2 : Int) ^ m ≤ 2 ^ n := by
  obtain ⟨k, rfl⟩ := Nat.exists_eq_add_of_le h
  rw [Int.pow_add]
  have h1 := two_pos k
  have := Int.mul_le_mul_of_nonneg_left (show (1 : Int) ≤ 2 ^ k by omega) (Int.le_of_lt (two_pos m))
  omega

theorem two_lt {m n : Nat} (h : (2 : Int) ^ m < 2 ^ n) : m < n := by
  rcases Nat.lt_or_ge m n with h' | h'
  · exact h'
  · have := two_mono h'; omega

theorem IsLen.det {z : Int} {k m : Nat} (h : IsLen z k) (g : IsLen z m) : k = m := by
  rcases h with ⟨rfl, rfl⟩ | ⟨h1, h2, h3⟩ <;> rcases g with ⟨g0, rfl⟩ | ⟨g1, g2, g3⟩
  · rfl
  · have := two_pos (m - 1); omega
  · subst g0; have := two_pos (k - 1); omega
  · have a := two_lt (show (2 : Int) ^ (k - 1) < 2 ^ m by omega)
    have b := two_lt (show (2 : Int) ^ (m - 1) < 2 ^ k by omega)
    omega

theorem bitLen_is (x : Int) (h0 : 0 < x) (h1 : x < 4294967296) : IsLen x (Lib.bitLen x.toNat) ∧ Lib.bitLen x.toNat ≤ 32 := by
  obtain ⟨a, b, c⟩ := Lib.bitLenAux_bounds 64 x.toNat (by omega) (by omega)
  have e : Lib.bitLen x.toNat = Lib.bitLenAux 64 x.toNat := rfl
  rw [e]
  generalize Lib.bitLenAux 64 x.toNat = k at *
  have b' : (2 : Int) ^ (k - 1) ≤ x := by
    have : ((2 ^ (k - 1) : Nat) : Int) ≤ (x.toNat : Int) := by exact_mod_cast b
    rw [Int.natCast_pow] at this
    have e2 : (x.toNat : Int) = x := Int.toNat_of_nonneg (by omega)
    rw [e2] at this; exact this
  have c' : x < (2 : Int) ^ k := by
    have : (x.toNat : Int) < ((2 ^ k : Nat) : Int) := by exact_mod_cast c
    rw [Int.natCast_pow] at this
    have e2 : (x.toNat : Int) = x := Int.toNat_of_nonneg (by omega)
    rw [e2] at this; exact this
  refine ⟨.inr ⟨a, b', c'⟩, ?_⟩
  have h32 : x < (2 : Int) ^ 32 := by have : (2 : Int) ^ 32 = 4294967296 := by decide
                                      omega
  have := two_lt (show (2 : Int) ^ (k - 1) < 2 ^ 32 by omega)
  omega

theorem top_len {xs : List Int} {n : Nat} {t : Int} {b : Nat} (hd : Dig xs) (hl : xs.length = n) (hn : n ≠ 0) (ht : xs.getD (n - 1) 0 = t) (hb : IsLen t b) (ht0 : t ≠ 0) : IsLen (val xs) (32 * (n - 1) + b) := by
  rcases hb with ⟨h, _⟩ | ⟨b1, b2, b3⟩
  · exact absurd h ht0
  have e := val_take_succ xs (n - 1)
  rw [show n - 1 + 1 = n from by omega, List.take_of_length_le (by omega), ht, BB_two] at e
  have h1 := val_bounds (hd.take (n - 1))
  rw [List.length_take, hl, Nat.min_eq_left (by omega), BB_two] at h1
  generalize val (xs.take (n - 1)) = r at *
  have hp := two_pos (32 * (n - 1))
  refine .inr ⟨by omega, ?_, ?_⟩
  · rw [show 32 * (n - 1) + b - 1 = 32 * (n - 1) + (b - 1) from by omega, Int.pow_add, e]
    have := Int.mul_le_mul_of_nonneg_left b2 (Int.le_of_lt hp)
    omega
  · rw [Int.pow_add, e]
    have := Int.mul_le_mul_of_nonneg_left (show t + 1 ≤ 2 ^ b by omega) (Int.le_of_lt hp)
    rw [Int.mul_add, Int.mul_one] at this
    omega

set_option maxHeartbeats 400000 in
theorem length_num (u : Value) (z : Int) (L : Nat) (w : World) (h : Num w u z L) (hL : L ≤ 1048576) :
    Calls Try.prog 77 #[u] w fun e w' => (∃ k : Nat, e = .returned (.int .i64 k) ∧ IsLen z k ∧ k ≤ 32 * L) ∧ w = w' := by
  obtain ⟨A, n, c, xs, rfl, hr, hd, ht, hv, hn⟩ := h
  by_cases hn0 : n = 0
  · have hz : z = 0 := by
      have : xs = [] := List.eq_nil_of_length_eq_zero (by rw [hr.1]; exact hn0)
      rw [← hv, this]; rfl
    have HZ := Lib.hid hz
    subst hn0
    clear hz hv hr ht
    go_enter Try.func77, Try.ntmps77
    go_wp2_with fail
    go_ret
    exact ⟨⟨0, rfl, .inl ⟨HZ.out, rfl⟩, Nat.zero_le _⟩, rfl⟩
  · obtain ⟨b, o, rfl, hbx, hx⟩ := hr.2.2 hn0
    obtain ⟨t, et⟩ : ∃ t, xs.getD (n - 1) 0 = t := ⟨_, rfl⟩
    have hx1 : w.cell? ⟨b, o + (n - 1), none⟩ = some (.int .u32 t) := by rw [← et]; exact hx (n - 1) (by omega)
    have ht0 : t ≠ 0 := by
      rcases ht with h | h
      · rw [hr.1] at h; exact absurd h hn0
      · rw [hr.1, et] at h; exact h
    have bt := hd.getD (n - 1)
    rw [et, BB_def] at bt
    obtain ⟨hlen, hle⟩ := bitLen_is t (by omega) bt.2
    have hres := top_len hd hr.1 hn0 et hlen ht0
    rw [hv] at hres
    have HRES := Lib.hid hres
    obtain ⟨bl, hbl⟩ : ∃ bl, Lib.bitLen t.toNat = bl := ⟨_, rfl⟩
    rw [hbl] at HRES hle
    have z2 : ((n : Int) == 0) = false := by simp; omega
    have q1 : (0 : Int) ≤ (n : Int) - 1 := by omega
    have q2 : (n : Int) - 1 < (n : Int) := by omega
    have q3 : ((n : Int) - 1).toNat = n - 1 := by omega
    clear hres hlen hv ht hr hx et
    go_enter Try.func77, Try.ntmps77
    go_wp2_with fail
    refine (Try.bits_LeadingZeros32 t _ (by omega) (by omega)).mono ?_
    rintro e w' ⟨rfl, rfl⟩
    rw [hbl]
    go_wp2_with fail
    go_ret
    have e : (((32 * (n - 1) + bl : Nat)) : Int) = (n : Int) * 32 - (32 - (bl : Int)) := by omega
    exact ⟨⟨32 * (n - 1) + bl, by rw [e]; rfl, HRES.out, by omega⟩, rfl⟩

/-- What is left of a number without its sign: of x, or of -1 - x. -/
def patOf (x : Int) : Int := if x < 0 then -1 - x else x

theorem row_one (w : World) (e : TypeId) : Row .u32 (w.alloc (.cells #[.int .u32 1] e)) (some ⟨w.heap.size, 0, none⟩) 1 1 [1] := by
  refine ⟨rfl, Nat.le_refl _, fun _ => ⟨w.heap.size, 0, rfl, by simp, fun i hi => ?_⟩⟩
  obtain rfl : i = 0 := by omega
  rw [World.cell?_alloc_at _ _ _ _ rfl]; rfl

set_option maxHeartbeats 400000 in
theorem pattern_any (u : Value) (x : Int) (L : Nat) (w : World) (h : Ival w u x L) (hL : L ≤ 1048576) :
    Calls Try.prog 78 #[u] w fun e w' => (∃ v, e = .returned v ∧ Num w' v (patOf x) L) ∧ Below w.heap.size w w' := by
  obtain ⟨p, A, n, c, rfl⟩ := h.form
  obtain ⟨a, ha, ha0, rfl, ha1⟩ := h.parts
  have hW := below_alloc w (.cells #[.bool p, .slice A n c] 28)
  cases p with
  | false =>
    have HA := Lib.hid (ha.below hW)
    have hp : patOf (withSign false a) = a := by simp [patOf, withSign]; omega
    rw [hp]
    clear h ha hp
    go_enter Try.func78, Try.ntmps78
    go_wp2_with fail
    go_ret
    exact ⟨⟨_, rfl, HA.out⟩, hW⟩
  | true =>
    have hW2 := below_two w (.cells #[.bool true, .slice A n c] 28) (.cells #[.int .u32 1] 99)
    have hane := ha1 rfl
    have hp : patOf (withSign true a) = a - 1 := by simp [patOf, withSign]; omega
    have HA := Lib.hid (ha.below hW2)
    have h1 := row_one (w.alloc (.cells #[.bool true, .slice A n c] 28)) 99
    have H1 := Lib.hid (show Num ((w.alloc (.cells #[.bool true, .slice A n c] 28)).alloc (.cells #[.int .u32 1] 99)) (.slice (some ⟨(w.alloc (.cells #[.bool true, .slice A n c] 28)).heap.size, 0, none⟩) 1 1) 1 1 from
      ⟨_, _, _, _, rfl, h1, Dig.one (by decide) (by decide), .inr (by decide), by simp [val], Nat.le_refl _⟩)
    rw [hp]
    clear h ha hp h1
    go_enter Try.func78, Try.ntmps78
    go_wp2_with fail
    have H1' := H1.out
    simp at H1'
    refine (subtract_num _ _ a 1 L 1 _ HA.out H1' (by omega) (by omega)).mono ?_
    rintro e w' ⟨r, rfl, hr, hb⟩
    have HR := Lib.hid hr
    clear hr H1'
    go_wp2_with fail
    go_ret
    exact ⟨⟨_, rfl, HR.out⟩, hW2.trans (hb.mono (by simp; omega))⟩

set_option maxHeartbeats 400000 in
theorem Length_any (u : Value) (x : Int) (L : Nat) (w : World) (h : Ival w u x L) (hL : L ≤ 1048576) :
    Calls Try.prog 26 #[u] w fun e w' => (∃ k : Nat, e = .returned (.int .i64 k) ∧ IsLen (patOf x) k ∧ k ≤ 32 * L) ∧ Below w.heap.size w w' := by
  obtain ⟨p, A, n, c, rfl⟩ := h.form
  have hW := below_alloc w (.cells #[.bool p, .slice A n c] 28)
  have HH := Lib.hid (h.below hW)
  clear h
  go_enter Try.func26, Try.ntmps26
  go_wp2_with fail
  refine (pattern_any _ x L _ HH.out hL).mono ?_
  rintro e w1 ⟨⟨v, rfl, hv⟩, hb⟩
  have HV := Lib.hid hv
  clear hv
  go_wp2_with fail
  refine (length_num v _ L _ HV.out hL).mono ?_
  rintro e w2 ⟨⟨k, rfl, hk, hkl⟩, rfl⟩
  have HK := Lib.hid hk
  clear hk
  go_wp2_with fail
  go_ret
  exact ⟨⟨k, rfl, HK.out, hkl⟩, hW.trans (hb.mono (by simp))⟩

end Go.Proofs.Ytoanomgdkkbbmaa
