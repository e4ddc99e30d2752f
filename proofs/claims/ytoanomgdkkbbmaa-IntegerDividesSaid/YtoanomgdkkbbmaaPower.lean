/- power. -/
import Derived.Test.YtoanomgdkkbbmaaShift
namespace Go.Proofs.Ytoanomgdkkbbmaa
open Go.RowKit LM

theorem and_one64 (m : Nat) (hm : m < 9223372036854775808) : bits BinOp.and IntKind.i64 (m : Int) 1 = ((m % 2 : Nat) : Int) := by
  have h1 : (BitVec.ofInt 64 (m : Int)).toNat = m := by
    rw [BitVec.ofInt_natCast, BitVec.toNat_ofNat]; exact Nat.mod_eq_of_lt (by omega)
  have h2 : (BitVec.ofInt 64 (1 : Int)).toNat = 1 := by decide
  show IntKind.i64.wrap ((BitVec.ofInt 64 (m : Int) &&& BitVec.ofInt 64 (1 : Int)).toNat : Int) = _
  rw [BitVec.toNat_and, h1, h2, Nat.and_one_is_mod, IntKind.wrap_i64]
  omega

theorem half (n k : Nat) (hk : k ≠ 0) : n / 2 ^ (k - 1) / 2 = n / 2 ^ k := by
  have e : 2 ^ (k - 1) * 2 = 2 ^ k := by rw [← Nat.pow_succ]; congr 1; omega
  rw [Nat.div_div_eq_div_mul, e]

theorem top_one {n bl : Nat} (h : IsLen (n : Int) bl) (hn : n ≠ 0) : 1 ≤ bl ∧ n / 2 ^ (bl - 1) = 1 := by
  rcases h with ⟨h, _⟩ | ⟨h1, h2, h3⟩
  · omega
  refine ⟨h1, ?_⟩
  have a : 2 ^ (bl - 1) ≤ n := by exact_mod_cast h2
  have b : n < 2 ^ bl := by exact_mod_cast h3
  have e : (2 : Nat) ^ bl = 2 ^ (bl - 1) * 2 := by rw [← Nat.pow_succ]; congr 1; omega
  have hp := Nat.two_pow_pos (bl - 1)
  have := Nat.div_lt_of_lt_mul (show n < 2 ^ (bl - 1) * 2 by omega)
  have := Nat.div_pos a hp
  omega

set_option maxRecDepth 100000 in
set_option maxHeartbeats 2000000 in
theorem power_num (u : Value) (a : Int) (L n : Nat) (w : World) (h : Num w u a L) (hn0 : n ≠ 0) (hn : n ≤ 100000) (hnL : n * L ≤ 1000000) :
    Calls Try.prog 93 #[u, .int .i64 n] w fun e w' => ∃ r, e = .returned r ∧ Num w' r (a ^ n) (n * L) ∧ Below w.heap.size w w' := by
  obtain ⟨A, nn, c, xs, rfl, _⟩ := id h
  have HU := Lib.hid h
  clear h
  obtain ⟨hlen, hbl32⟩ := bitLen_is (n : Int) (by omega) (by omega)
  obtain ⟨bl, hbl⟩ : ∃ bl, Lib.bitLen ((n : Int)).toNat = bl := ⟨_, rfl⟩
  rw [hbl] at hlen hbl32
  obtain ⟨hb1, htop⟩ := top_one hlen hn0
  have HT := Lib.hid htop
  clear hlen htop
  have hcv : IntKind.u64.wrap (n : Int) = n := by rw [IntKind.wrap_u64]; omega
  go_enter Try.func93, Try.ntmps93
  go_wp2_with fail
  refine (Try.bits_Len (n : Int) _ (by omega) (by omega)).mono ?_
  rintro e w1 ⟨rfl, rfl⟩
  rw [hbl]
  go_wp2_with fail
  obtain ⟨wo, rfl⟩ : ∃ wo : World, wo = w1 := ⟨_, rfl⟩
  go_loopw [5, 6] (fun ov iv wr => ∃ k : Nat, iv = .int .i64 ((k : Int) - 1) ∧ k < bl ∧ Num wr ov (a ^ (n / 2 ^ k)) (n / 2 ^ k * L) ∧ Below wo.heap.size wo wr) (fun _ iv _ => (intOf iv + 1).toNat)
  case atStart =>
    refine ⟨bl - 1, by congr 1; omega, by omega, ?_, Below.refl _ _⟩
    rw [HT.out, Int.pow_one, Nat.one_mul]
    exact HU.out
  case round =>
    obtain ⟨k, rfl, hk, hnum, hb⟩ := hrel
    have HN := Lib.hid hnum
    have HB := Lib.hid hb
    obtain ⟨q, hq⟩ : ∃ q, n / 2 ^ k = q := ⟨_, rfl⟩
    rw [hq] at HN
    have hqn : q ≤ n := by rw [← hq]; exact Nat.div_le_self _ _
    have hql : q * L ≤ 1000000 := Nat.le_trans (Nat.mul_le_mul_right L hqn) hnL
    have hbs := hb.size
    clear hnum hb
    by_cases hk0 : k = 0
    · subst hk0
      have e : q = n := by rw [← hq]; simp
      subst e
      have HN2 := HN
      clear hq
      go_wp2_with fail
      refine (clone_num _ _ _ _ HN2.out (by omega)).mono ?_
      rintro e w2 ⟨r, rfl, hr, hb2⟩
      have HR := Lib.hid hr
      clear hr
      go_wp2
      go_ret
      exact ⟨_, rfl, HR.out, HB.out.trans (hb2.mono hbs)⟩
    · have hhalf := half n k hk0
      rw [hq] at hhalf
      obtain ⟨m, hm⟩ : ∃ m, n / 2 ^ (k - 1) = m := ⟨_, rfl⟩
      rw [hm] at hhalf
      have hmn : m ≤ n := by rw [← hm]; exact Nat.div_le_self _ _
      have q1 : (0 : Int) ≤ (k : Int) - 1 := by omega
      have q3 : ((k : Int) - 1).toNat = k - 1 := by omega
      have q4 : (n : Int) / 2 ^ (k - 1) = (m : Int) := by rw [← hm]; simp
      have hbit := and_one64 m (by omega)
      have HM := Lib.hid hm
      have hk1 : k - 1 < bl := by omega
      have hidx : (k : Int) - 1 - 1 = ((k - 1 : Nat) : Int) - 1 := by omega
      by_cases hodd : m % 2 = 1
      · have hc1 : (bits BinOp.and IntKind.i64 (m : Int) 1 == 1) = true := by rw [hbit, hodd]; rfl
        have hmq : m = q + q + 1 := by omega
        have hlq : (q + q + 1) * L = q * L + q * L + L := by rw [Nat.add_mul, Nat.add_mul, Nat.one_mul]
        have hml : m * L ≤ 1000000 := Nat.le_trans (Nat.mul_le_mul_right L hmn) hnL
        rw [hmq, hlq] at hml
        have HQ := Lib.hid hmq
        have HLQ := Lib.hid hlq
        clear hq hm hbit hmq hlq hhalf hodd
        go_wp2_with fail
        refine (multiply_num _ _ _ _ _ _ _ HN.out HN.out (by omega) (by omega)).mono ?_
        rintro e w2 ⟨r, rfl, hr, hb2⟩
        have HR := Lib.hid hr
        have HB2 := Lib.hid (HB.out.trans (hb2.mono hbs))
        clear hr
        go_wp2_with fail
        refine (multiply_num _ _ _ _ _ _ _ HR.out (HU.out.below HB2.out) (by omega) (by omega)).mono ?_
        rintro e w3 ⟨r3, rfl, hr3, hb3⟩
        have HR3 := Lib.hid hr3
        have HB3 := Lib.hid (HB2.out.trans (hb3.mono HB2.out.size))
        clear hr3
        go_wp2_with fail
        refine ⟨⟨k - 1, rfl, hk1, ?_, HB3.out⟩, by simp [intOf]; omega⟩
        rw [HM.out, HQ.out, HLQ.out, Int.pow_succ, Int.pow_add]
        exact HR3.out
      · have hc1 : (bits BinOp.and IntKind.i64 (m : Int) 1 == 1) = false := by rw [hbit, show m % 2 = 0 from by omega]; rfl
        have hmq : m = q + q := by omega
        have hlq : (q + q) * L = q * L + q * L := Nat.add_mul _ _ _
        have HQ := Lib.hid hmq
        have HLQ := Lib.hid hlq
        clear hq hm hbit hmq hlq hhalf hodd
        go_wp2_with fail
        refine (multiply_num _ _ _ _ _ _ _ HN.out HN.out (by omega) (by omega)).mono ?_
        rintro e w2 ⟨r, rfl, hr, hb2⟩
        have HR := Lib.hid hr
        have HB2 := Lib.hid (HB.out.trans (hb2.mono hbs))
        clear hr
        go_wp2_with fail
        refine ⟨⟨k - 1, rfl, hk1, ?_, HB2.out⟩, by simp [intOf]; omega⟩
        rw [HM.out, HQ.out, HLQ.out, Int.pow_add]
        exact HR.out

end Go.Proofs.Ytoanomgdkkbbmaa
