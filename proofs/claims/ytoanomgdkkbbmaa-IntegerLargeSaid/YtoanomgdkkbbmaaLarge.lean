/- IntegerLarge: the walk. -/
import Derived.Test.YtoanomgdkkbbmaaPower2
import Derived.Test.YtoanomgdkkbbmaaAwake
namespace Go.Proofs.Ytoanomgdkkbbmaa
open Go.RowKit LM

theorem len_pow (j : Nat) : IsLen ((2 : Int) ^ j) (j + 1) := by
  refine .inr ⟨by omega, by rw [Nat.add_sub_cancel]; exact Int.le_refl _, ?_⟩
  rw [Int.pow_succ]; have := two_pos j; omega

theorem len_pow_less {j : Nat} (hj : 1 ≤ j) : IsLen ((2 : Int) ^ j - 1) j := by
  have e : (2 : Int) ^ j = 2 ^ (j - 1) * 2 := by rw [← Int.pow_succ]; congr 1; omega
  have := two_pos (j - 1)
  exact .inr ⟨hj, by omega, by omega⟩

theorem large_len_even {K m : Nat} {x : Int} (hx : x ^ m = 2 ^ (K * m)) : IsLen (patOf (x ^ m)) (K * m + 1) := by
  rw [hx]
  have := two_pos (K * m)
  have e : patOf ((2 : Int) ^ (K * m)) = 2 ^ (K * m) := by unfold patOf; rw [if_neg (by omega)]
  rw [e]; exact len_pow _

theorem large_len_odd {K m : Nat} {x : Int} (hx : x ^ m = -(2 ^ (K * m))) (h : 1 ≤ K * m) : IsLen (patOf (x ^ m)) (K * m) := by
  rw [hx]
  have := two_pos (K * m)
  have e : patOf (-((2 : Int) ^ (K * m))) = 2 ^ (K * m) - 1 := by unfold patOf; rw [if_pos (by omega)]; omega
  rw [e]; exact len_pow_less h

theorem box28f {w w' : World} {p : Bool} {u : Value} (h : Below (w.heap.size + 1) (w.alloc (.cells #[.bool p, u] 28)) w') :
    w'.cell? ⟨w.heap.size, 0, none⟩ = some (.bool p) ∧ w'.cell? ⟨w.heap.size, 1, none⟩ = some u ∧ w'.frozen? ⟨w.heap.size, 0, none⟩ = false ∧ w'.frozen? ⟨w.heap.size, 1, none⟩ = false := by
  obtain ⟨a, b⟩ := box28k h
  refine ⟨a, b, ?_, ?_⟩
  · rw [h.frozen (by simp)]; exact World.frozen?_alloc_at _ _ _ _ (by simp)
  · rw [h.frozen (by simp)]; exact World.frozen?_alloc_at _ _ _ _ (by simp)

/-- What is read of a power: its length, or that it is too large. -/
theorem PowAns.two {w : World} {v : Value} {z err : Int} {l : Nat} (h : PowAns w v z err) (hl : IsLen (patOf z) l) : (65536 < l ∧ err = 14) ∨ (l ≤ 65536 ∧ err = 0 ∧ Ival w v z 200000) := by
  obtain ⟨k, hk, h⟩ := h
  obtain rfl := hk.det hl
  exact h

set_option maxRecDepth 100000 in
set_option maxHeartbeats 4000000 in
theorem large_any (b n : Int) (neg : Bool) (w : World) (hb0 : 0 ≤ b) (hb1 : b < 65536) (hn0 : 0 ≤ n) (hn1 : n < 65536) :
    Calls Try.prog 6 #[.int .u16 b, .int .u16 n, .bool neg] w fun e w' => e = .returned (.bool true) ∧ Below w.heap.size w w' := by
  obtain ⟨K, hK⟩ : ∃ K : Nat, 1 + b % 200 = (K : Int) := ⟨(1 + b % 200).toNat, by omega⟩
  obtain ⟨m, hm⟩ : ∃ m : Nat, n % 2000 = (m : Int) := ⟨(n % 2000).toNat, by omega⟩
  have hK1 : 1 ≤ K := by omega
  have hK2 : K ≤ 200 := by omega
  have hm2 : m ≤ 2000 := by omega
  have t1 : b.tmod 200 = b % 200 := Int.tmod_eq_emod_of_nonneg hb0
  have t2 : n.tmod 2000 = (m : Int) := by rw [Int.tmod_eq_emod_of_nonneg hn0, hm]
  have t3 : IntKind.i64.wrap (b % 200) = b % 200 := by rw [IntKind.wrap_i64]; omega
  have t5 : IntKind.u16.wrap (b % 200) = b % 200 := by rw [IntKind.wrap_u16]; omega
  have t4 : IntKind.i64.wrap (1 + b % 200) = (K : Int) := by rw [IntKind.wrap_i64]; omega
  have hKs : K / 32 ≤ 6 := by omega
  have hkm0 : K * m ≤ 400000 := Nat.le_trans (Nat.mul_le_mul hK2 hm2) (by decide)
  obtain ⟨j, hj⟩ : ∃ j, K * m = j := ⟨_, rfl⟩
  have hji : (K : Int) * (m : Int) = (j : Int) := by rw [← hj, Int.natCast_mul]
  have hj2 : j ≤ 400000 := by omega
  have HJ := Lib.hid hj
  obtain ⟨l1, hl1⟩ : ∃ l : Int, (j : Int) + 1 = l := ⟨_, rfl⟩
  have t6 : (m : Int).tmod 2 = ((m % 2 : Nat) : Int) := by rw [Int.tmod_eq_emod_of_nonneg (by omega)]; omega
  have h2K : (2 : Int) ≤ 2 ^ K := by have := two_mono hK1; simpa using this
  have H2K := Lib.hid h2K
  clear hkm0 hj hm h2K
  cases neg with
  | false =>
    have HL := Lib.hid (show IsLen (patOf (((2 : Int) ^ K) ^ m)) (j + 1) by
      have := large_len_even (K := K) (m := m) (x := (2 : Int) ^ K) (by rw [← Int.pow_mul]); rw [HJ.out] at this; exact this)
    go_enter Try.func6, Try.ntmps6
    go_wp2_with fail
    refine (new_int 1 _ (by omega) (by omega)).mono ?_
    rintro e w1 ⟨r, rfl, hr, hb1⟩
    have HR := Lib.hid hr
    clear hr
    go_wp2_with fail
    refine (Shift_up r 1 2 K _ HR.out (by decide) hK1 (by omega) (by decide)).mono ?_
    rintro e w2 ⟨⟨g1, A1, n1, c1, rfl, hv⟩, hb2⟩
    have hX := hb1.trans (hb2.mono hb1.size)
    have hv2 := (hv.below (below_alloc w2 (.cells #[.bool g1, .slice A1 n1 c1] 28))).mono (show 2 + K / 32 + 1 ≤ 100 by omega)
    rw [Int.one_mul] at hv2
    have HV := Lib.hid hv2
    have hal := below_alloc w2 (.cells #[.bool g1, .slice A1 n1 c1] 28)
    clear hv hv2
    go_wp2_with fail
    refine (Power_any _ (2 ^ K) 100 m _ HV.out (by decide) hm2 (.inr H2K.out)).mono ?_
    rintro e w5 ⟨⟨g5, A5, n5, c5, err, rfl, hans⟩, hb5⟩
    have hP := (hX.trans (hal.mono hX.size)).trans (hb5.mono (Nat.le_trans hX.size hal.size))
    have hz := below_alloc w5 (.cells #[.bool g5, .slice A5 n5 c5] 28)
    rcases hans.two HL.out with ⟨hl, rfl⟩ | ⟨hl, rfl, hy⟩
    · have k1 : (65536 : Int) < l1 := by omega
      have k2 : ¬ l1 ≤ (65536 : Int) := by omega
      clear hans hl
      go_wp2_with fail
      refine (awake_any _).mono ?_
      rintro e w9 ⟨rfl, hb9⟩
      go_wp2
      go_ret
      have kk : Below w5.heap.size w5 w9 := hz.trans (hb9.mono hz.size)
      exact ⟨rfl, hP.trans (kk.mono hP.size)⟩
    · have k1 : ¬ (65536 : Int) < l1 := by omega
      have k2 : l1 ≤ (65536 : Int) := by omega
      have HY := Lib.hid (hy.below hz)
      clear hans hy hl
      go_wp2_with fail
      refine (Length_any _ _ 200000 _ HY.out (by omega)).mono ?_
      rintro e w6 ⟨⟨k6, rfl, hk6, _⟩, hb6⟩
      obtain rfl := hk6.det HL.out
      clear hk6
      go_wp2_with fail
      refine (awake_any _).mono ?_
      rintro e w9 ⟨rfl, hb9⟩
      go_wp2
      go_ret
      have k0 : Below w5.heap.size w5 w6 := hz.trans (hb6.mono hz.size)
      have kk : Below w5.heap.size w5 w9 := k0.trans (hb9.mono k0.size)
      exact ⟨rfl, hP.trans (kk.mono hP.size)⟩
  | true =>
    by_cases hodd : m % 2 = 1
    · have hjm : 1 ≤ K * m := Nat.mul_pos hK1 (by omega)
      have hj1 : 1 ≤ j := by rw [← HJ.out]; exact hjm
      have HL := Lib.hid (show IsLen (patOf ((-(2 : Int) ^ K) ^ m)) j by
        have := large_len_odd (K := K) (m := m) (x := -(2 : Int) ^ K) (by rw [neg_pow, if_pos hodd, ← Int.pow_mul]) hjm; rw [HJ.out] at this; exact this)
      have z1 : (((m % 2 : Nat) : Int) == 1) = true := by rw [hodd]; rfl
      obtain ⟨l0, hl0⟩ : ∃ l : Int, l1 - 1 = l := ⟨_, rfl⟩
      clear hjm
      go_enter Try.func6, Try.ntmps6
      go_wp2_with fail
      refine (new_int 1 _ (by omega) (by omega)).mono ?_
      rintro e w1 ⟨r, rfl, hr, hb1⟩
      have HR := Lib.hid hr
      clear hr
      go_wp2_with fail
      refine (Shift_up r 1 2 K _ HR.out (by decide) hK1 (by omega) (by decide)).mono ?_
      rintro e w2 ⟨⟨g1, A1, n1, c1, rfl, hv⟩, hb2⟩
      have hX := hb1.trans (hb2.mono hb1.size)
      have hv2 := (hv.below (below_alloc w2 (.cells #[.bool g1, .slice A1 n1 c1] 28))).mono (show 2 + K / 32 + 1 ≤ 100 by omega)
      rw [Int.one_mul] at hv2
      have HV := Lib.hid hv2
      have hal := below_alloc w2 (.cells #[.bool g1, .slice A1 n1 c1] 28)
      clear hv hv2
      go_wp2_with fail
      refine (neg_int _ _ 100 _ HV.out (by decide)).mono ?_
      rintro e w3 ⟨r3, rfl, hr3, hb3⟩
      obtain ⟨g3, A3, n3, c3, rfl⟩ := hr3.form
      have hC3 := hb3.mono (B' := w2.heap.size + 1) (by simp)
      obtain ⟨e1, e2, f1, f2⟩ := box28f hC3
      have hst : Ival ((w3.setCell ⟨w2.heap.size, 0, none⟩ (.bool g3)).setCell ⟨w2.heap.size, 1, none⟩ (.slice A3 n3 c3)) (.agg #[.bool g3, .slice A3 n3 c3]) (-2 ^ K) 100 := by
        refine (hr3.setOther (fun u => by rw [e1]; simp) _).setOther (fun u => ?_) _
        rw [World.cell?_setCell_other _ _ _ _ (by simp), e2]; simp
      have HST := Lib.hid hst
      have hQ := (hX.trans (hal.mono hX.size)).trans (hb3.mono (Nat.le_trans hX.size hal.size))
      have hQ2 : Below w.heap.size w ((w3.setCell ⟨w2.heap.size, 0, none⟩ (.bool g3)).setCell ⟨w2.heap.size, 1, none⟩ (.slice A3 n3 c3)) := (hQ.setCell (by exact hX.size) _).setCell (by exact hX.size) _
      clear hr3 hst
      go_wp2_with fail
      refine (Power_any _ (-2 ^ K) 100 m _ HST.out (by decide) hm2 (.inl (by have := H2K.out; omega))).mono ?_
      rintro e w5 ⟨⟨g5, A5, n5, c5, err, rfl, hans⟩, hb5⟩
      have hP := hQ2.trans (hb5.mono hQ2.size)
      have hz := below_alloc w5 (.cells #[.bool g5, .slice A5 n5 c5] 28)
      rcases hans.two HL.out with ⟨hl, rfl⟩ | ⟨hl, rfl, hy⟩
      · have k1 : (65536 : Int) < l0 := by omega
        have k2 : ¬ l0 ≤ (65536 : Int) := by omega
        clear hans hl
        go_wp2_with fail
        refine (awake_any _).mono ?_
        rintro e w9 ⟨rfl, hb9⟩
        go_wp2
        go_ret
        have kk : Below w5.heap.size w5 w9 := hz.trans (hb9.mono hz.size)
        exact ⟨rfl, hP.trans (kk.mono hP.size)⟩
      · have k1 : ¬ (65536 : Int) < l0 := by omega
        have k2 : l0 ≤ (65536 : Int) := by omega
        have HY := Lib.hid (hy.below hz)
        clear hans hy hl
        go_wp2_with fail
        refine (Length_any _ _ 200000 _ HY.out (by omega)).mono ?_
        rintro e w6 ⟨⟨k6, rfl, hk6, _⟩, hb6⟩
        obtain rfl := hk6.det HL.out
        clear hk6
        go_wp2_with fail
        refine (awake_any _).mono ?_
        rintro e w9 ⟨rfl, hb9⟩
        go_wp2
        go_ret
        have k0 : Below w5.heap.size w5 w6 := hz.trans (hb6.mono hz.size)
        have kk : Below w5.heap.size w5 w9 := k0.trans (hb9.mono k0.size)
        exact ⟨rfl, hP.trans (kk.mono hP.size)⟩
    · have HL := Lib.hid (show IsLen (patOf ((-(2 : Int) ^ K) ^ m)) (j + 1) by
        have := large_len_even (K := K) (m := m) (x := -(2 : Int) ^ K) (by rw [neg_pow, if_neg hodd, ← Int.pow_mul]); rw [HJ.out] at this; exact this)
      have z1 : (((m % 2 : Nat) : Int) == 1) = false := by rw [show m % 2 = 0 from by omega]; rfl
      go_enter Try.func6, Try.ntmps6
      go_wp2_with fail
      refine (new_int 1 _ (by omega) (by omega)).mono ?_
      rintro e w1 ⟨r, rfl, hr, hb1⟩
      have HR := Lib.hid hr
      clear hr
      go_wp2_with fail
      refine (Shift_up r 1 2 K _ HR.out (by decide) hK1 (by omega) (by decide)).mono ?_
      rintro e w2 ⟨⟨g1, A1, n1, c1, rfl, hv⟩, hb2⟩
      have hX := hb1.trans (hb2.mono hb1.size)
      have hv2 := (hv.below (below_alloc w2 (.cells #[.bool g1, .slice A1 n1 c1] 28))).mono (show 2 + K / 32 + 1 ≤ 100 by omega)
      rw [Int.one_mul] at hv2
      have HV := Lib.hid hv2
      have hal := below_alloc w2 (.cells #[.bool g1, .slice A1 n1 c1] 28)
      clear hv hv2
      go_wp2_with fail
      refine (neg_int _ _ 100 _ HV.out (by decide)).mono ?_
      rintro e w3 ⟨r3, rfl, hr3, hb3⟩
      obtain ⟨g3, A3, n3, c3, rfl⟩ := hr3.form
      have hC3 := hb3.mono (B' := w2.heap.size + 1) (by simp)
      obtain ⟨e1, e2, f1, f2⟩ := box28f hC3
      have hst : Ival ((w3.setCell ⟨w2.heap.size, 0, none⟩ (.bool g3)).setCell ⟨w2.heap.size, 1, none⟩ (.slice A3 n3 c3)) (.agg #[.bool g3, .slice A3 n3 c3]) (-2 ^ K) 100 := by
        refine (hr3.setOther (fun u => by rw [e1]; simp) _).setOther (fun u => ?_) _
        rw [World.cell?_setCell_other _ _ _ _ (by simp), e2]; simp
      have HST := Lib.hid hst
      have hQ := (hX.trans (hal.mono hX.size)).trans (hb3.mono (Nat.le_trans hX.size hal.size))
      have hQ2 : Below w.heap.size w ((w3.setCell ⟨w2.heap.size, 0, none⟩ (.bool g3)).setCell ⟨w2.heap.size, 1, none⟩ (.slice A3 n3 c3)) := (hQ.setCell (by exact hX.size) _).setCell (by exact hX.size) _
      clear hr3 hst
      go_wp2_with fail
      refine (Power_any _ (-2 ^ K) 100 m _ HST.out (by decide) hm2 (.inl (by have := H2K.out; omega))).mono ?_
      rintro e w5 ⟨⟨g5, A5, n5, c5, err, rfl, hans⟩, hb5⟩
      have hP := hQ2.trans (hb5.mono hQ2.size)
      have hz := below_alloc w5 (.cells #[.bool g5, .slice A5 n5 c5] 28)
      rcases hans.two HL.out with ⟨hl, rfl⟩ | ⟨hl, rfl, hy⟩
      · have k1 : (65536 : Int) < l1 := by omega
        have k2 : ¬ l1 ≤ (65536 : Int) := by omega
        clear hans hl
        go_wp2_with fail
        refine (awake_any _).mono ?_
        rintro e w9 ⟨rfl, hb9⟩
        go_wp2
        go_ret
        have kk : Below w5.heap.size w5 w9 := hz.trans (hb9.mono hz.size)
        exact ⟨rfl, hP.trans (kk.mono hP.size)⟩
      · have k1 : ¬ (65536 : Int) < l1 := by omega
        have k2 : l1 ≤ (65536 : Int) := by omega
        have HY := Lib.hid (hy.below hz)
        clear hans hy hl
        go_wp2_with fail
        refine (Length_any _ _ 200000 _ HY.out (by omega)).mono ?_
        rintro e w6 ⟨⟨k6, rfl, hk6, _⟩, hb6⟩
        obtain rfl := hk6.det HL.out
        clear hk6
        go_wp2_with fail
        refine (awake_any _).mono ?_
        rintro e w9 ⟨rfl, hb9⟩
        go_wp2
        go_ret
        have k0 : Below w5.heap.size w5 w6 := hz.trans (hb6.mono hz.size)
        have kk : Below w5.heap.size w5 w9 := k0.trans (hb9.mono k0.size)
        exact ⟨rfl, hP.trans (kk.mono hP.size)⟩

end Go.Proofs.Ytoanomgdkkbbmaa
