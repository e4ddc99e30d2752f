/- Power. -/
import Derived.Test.YtoanomgdkkbbmaaPower
namespace Go.Proofs.Ytoanomgdkkbbmaa
open Go.RowKit LM

theorem exists_len {z : Int} (h : 0 ≤ z) : ∃ k, IsLen z k := by
  by_cases h0 : z = 0
  · exact ⟨0, .inl ⟨h0, rfl⟩⟩
  obtain ⟨Z, rfl⟩ := Int.eq_ofNat_of_zero_le h
  have hz : Z ≠ 0 := by omega
  refine ⟨Nat.log2 Z + 1, .inr ⟨by omega, ?_, ?_⟩⟩
  · have := Nat.log2_self_le hz
    rw [Nat.add_sub_cancel]
    exact_mod_cast this
  · have := @Nat.lt_log2_self Z
    exact_mod_cast this

theorem patOf_nonneg (x : Int) : 0 ≤ patOf x := by unfold patOf; split <;> omega

theorem neg_pow (a : Int) (n : Nat) : (-a) ^ n = if n % 2 = 1 then -(a ^ n) else a ^ n := by
  induction n with
  | zero => simp
  | succ n ih =>
    rw [Int.pow_succ, ih, Int.pow_succ]
    rcases Nat.mod_two_eq_zero_or_one n with h | h
    · rw [if_neg (by omega), if_pos (by omega)]; exact Int.mul_neg _ _
    · rw [if_pos h, if_neg (by omega)]; exact Int.neg_mul_neg _ _

theorem withSign_pow (p : Bool) (a : Int) (n : Nat) : withSign (p && decide (n % 2 = 1)) (a ^ n) = withSign p a ^ n := by
  cases p with
  | false => simp [withSign]
  | true =>
    simp only [withSign, Bool.true_and, if_true]
    rw [neg_pow]
    by_cases h : n % 2 = 1 <;> simp [h]

theorem pow_mono_base {a b : Int} (h0 : 0 ≤ a) (h : a ≤ b) (n : Nat) : a ^ n ≤ b ^ n := by
  induction n with
  | zero => simp
  | succ n ih =>
    rw [Int.pow_succ, Int.pow_succ]
    exact Int.mul_le_mul ih h h0 (Int.pow_nonneg (by omega))

/-- A power of a number with d digits is too long. -/
theorem too_large {p : Bool} {a : Int} {d n k : Nat} (hd : IsLen a d) (hd2 : 2 ≤ d) (h : 65536 < (d - 1) * n) (hk : IsLen (patOf (withSign p a ^ n)) k) : 65536 < k := by
  rcases hd with ⟨_, h'⟩ | ⟨_, h2, _⟩
  · omega
  have h3 := pow_mono_base (Int.le_of_lt (two_pos (d - 1))) h2 n
  rw [← Int.pow_mul] at h3
  have h4 := two_mono (show 65537 ≤ (d - 1) * n by omega)
  have h5 : (2 : Int) ^ 65537 = 2 ^ 65536 + 2 ^ 65536 := by rw [Int.pow_succ]; omega
  have h6 := two_pos 65536
  have hpat : (2 : Int) ^ 65536 ≤ patOf (withSign p a ^ n) := by
    rw [← withSign_pow]
    unfold patOf withSign
    split <;> split <;> omega
  rcases hk with ⟨h', _⟩ | ⟨_, _, h8⟩
  · omega
  · exact two_lt (show (2 : Int) ^ 65536 < 2 ^ k by omega)

theorem box28k {w w' : World} {p : Bool} {u : Value} (h : Below (w.heap.size + 1) (w.alloc (.cells #[.bool p, u] 28)) w') : w'.cell? ⟨w.heap.size, 0, none⟩ = some (.bool p) ∧ w'.cell? ⟨w.heap.size, 1, none⟩ = some u := by
  refine ⟨?_, ?_⟩
  · rw [h.cell (by simp), World.cell?_alloc_at _ _ _ _ (by simp)]; rfl
  · rw [h.cell (by simp), World.cell?_alloc_at _ _ _ _ (by simp)]; rfl

/-- What Power answers. -/
def PowAns (w : World) (v : Value) (z : Int) (err : Int) : Prop :=
  ∃ k, IsLen (patOf z) k ∧ ((65536 < k ∧ err = 14) ∨ (k ≤ 65536 ∧ err = 0 ∧ Ival w v z 200000))

set_option maxRecDepth 100000 in
set_option maxHeartbeats 4000000 in
theorem Power_any (u : Value) (x : Int) (L n : Nat) (w : World) (h : Ival w u x L) (hL : L ≤ 100) (hn : n ≤ 2000) (hx : x ≤ -2 ∨ 2 ≤ x) :
    Calls Try.prog 46 #[u, .int .i64 n] w fun e w' => (∃ ng A2 n2 c2 err, e = .returned (.tuple #[.agg #[.bool ng, .slice A2 n2 c2], .int .i64 err]) ∧ PowAns w' (.agg #[.bool ng, .slice A2 n2 c2]) (x ^ n) err) ∧ Below w.heap.size w w' := by
  obtain ⟨p, A, m, c, rfl⟩ := h.form
  obtain ⟨a, ha, ha0, rfl, ha1⟩ := h.parts
  have hW := below_two w (.cells #[.bool p, .slice A m c] 28) (.cells #[.bool false, .slice none 0 0] 28)
  have ha2 : 2 ≤ a := by cases p <;> simp [withSign] at hx <;> omega
  have HA := Lib.hid ha
  have hB0 := Below.refl (w.heap.size + 2) ((w.alloc (.cells #[.bool p, .slice A m c] 28)).alloc (.cells #[.bool false, .slice none 0 0] 28))
  clear h ha ha1 hx
  by_cases hn0 : n = 0
  · subst hn0
    go_enter Try.func46, Try.ntmps46
    go_wp2_with fail
    refine (new_int 1 _ (by omega) (by omega)).mono ?_
    rintro e w1 ⟨r, rfl, hr, hb1⟩
    obtain ⟨ng, A2, n2, c2, rfl⟩ := hr.form
    have hB1 := hb1.mono (B' := w.heap.size + 2) (by simp)
    obtain ⟨e1, e2, f1, f2⟩ := room1 hB1
    have HR := Lib.hid hr
    clear hr
    go_wp2
    refine bodyPost_ret (v := .tuple #[.agg #[.bool ng, .slice A2 n2 c2], .int .i64 0]) (by simp [results, Try.results46, go_sem, e1, e2]) rfl ⟨⟨_, _, _, _, 0, rfl, 1, ?_, .inr ⟨by decide, rfl, ?_⟩⟩, ?_⟩
    · exact .inr ⟨by decide, by simp [patOf], by simp [patOf]⟩
    · rw [Int.pow_zero]; exact (HR.out.stored e1 e2 _ _).mono (by decide)
    · exact ((hW.trans (hB1.mono (by omega))).setCell (by show _ ≤ _; simp) _).setCell (by show _ ≤ _; simp) _
  · have z0 : ((n : Int) == 0) = false := by simp; omega
    have z1 : ¬ (n : Int) < 0 := by omega
    obtain ⟨k, hk⟩ := exists_len (patOf_nonneg (withSign p a ^ n))
    have HK := Lib.hid hk
    have hbit := and_one64 n (by omega)
    have HSG := Lib.hid (withSign_pow p a n)
    clear hk
    go_enter Try.func46, Try.ntmps46
    go_wp2_with fail
    refine (length_num _ a L _ (HA.out.below hW) (by omega)).mono ?_
    rintro e w1 ⟨⟨d, rfl, hd, hdl⟩, rfl⟩
    have HD := Lib.hid hd
    have hd2 : 2 ≤ d := by
      rcases hd with ⟨h', _⟩ | ⟨h1, _, h3⟩
      · omega
      · have : (2 : Int) ^ 1 < 2 ^ d := by omega
        have := two_lt this
        omega
    clear hd
    obtain ⟨q, hq⟩ : ∃ q : Nat, (d - 1) * n = q := ⟨_, rfl⟩
    have hqi : ((d : Int) - 1) * (n : Int) = (q : Int) := by
      rw [← hq, Int.natCast_mul]; congr 1; omega
    have hqb : q ≤ 100000000 := by
      rw [← hq]; exact Nat.le_trans (Nat.mul_le_mul (show d - 1 ≤ 3200 by omega) hn) (by decide)
    have z2 : ¬ (d : Int) ≤ 1 := by omega
    have z3 : ¬ (65537 : Int) < (n : Int) := by omega
    have HQ := Lib.hid hq
    clear hq
    by_cases hlarge : (65536 : Int) < (q : Int)
    · have hkl : 65536 < k := too_large HD.out hd2 (by rw [HQ.out]; omega) HK.out
      obtain ⟨e1, e2, f1, f2⟩ := room1 hB0
      go_wp2
      refine bodyPost_ret (v := .tuple #[.agg #[.bool false, .slice none 0 0], .int .i64 14]) (by simp [results, Try.results46, go_sem, e1, e2]) rfl ⟨⟨_, _, _, _, 14, rfl, k, HK.out, .inl ⟨hkl, rfl⟩⟩, ?_⟩
      exact hW
    · have hnL2 : n * L ≤ 200000 := Nat.le_trans (Nat.mul_le_mul hn hL) (by decide)
      have hnL : n * L ≤ 1000000 := by omega
      cases p with
      | false =>
        have HSX := Lib.hid (show withSign false (a ^ n) = withSign false a ^ n by have := HSG.out; rw [Bool.false_and] at this; exact this)
        go_wp2_with fail
        refine (power_num _ a L n _ (HA.out.below hW) hn0 (by omega) hnL).mono ?_
        rintro e w2 ⟨r2, rfl, hr2, hb2⟩
        have hB2 := hb2.mono (B' := w.heap.size + 2) (by simp)
        have HR2 := Lib.hid hr2
        clear hr2
        go_wp2_with fail
        refine (signed_out false _ (a ^ n) (n * L) _ HR2.out (by omega)).mono ?_
        rintro e w3 ⟨ng, A2, n2, c2, rfl, hv, hb3⟩
        have hB3 := hB2.trans (hb3.mono (B' := w.heap.size + 2) (by have := hB2.size; simp at this; omega))
        have hv2 := hv.mono hnL2
        rw [HSX.out] at hv2
        have HV := Lib.hid hv2
        have hs3 : w.heap.size + 2 ≤ w3.heap.size := by have := hB3.size; simpa using this
        have hB4 := hB3.alloc hs3 (.cells #[.bool ng, .slice A2 n2 c2] 28)
        have hal := below_alloc w3 (.cells #[.bool ng, .slice A2 n2 c2] 28)
        clear hv hv2
        go_wp2_with fail
        refine (Length_any _ _ 200000 _ (HV.out.below hal) (by omega)).mono ?_
        rintro e w4 ⟨⟨k4, rfl, hk4, _⟩, hb4⟩
        obtain rfl : k = k4 := HK.out.det hk4
        have hC4 := hb4.mono (B' := w3.heap.size + 1) (by simp)
        have hB5 := hB4.trans (hb4.mono (B' := w.heap.size + 2) (by simp; omega))
        obtain ⟨e1, e2, f1, f2⟩ := room1 hB5
        obtain ⟨g1, g2⟩ := box28k hC4
        have HV4 := Lib.hid ((HV.out.below hal).below hb4)
        clear hk4
        by_cases hkl : (65536 : Int) < (k : Int)
        · go_wp2
          refine bodyPost_ret (v := .tuple #[.agg #[.bool false, .slice none 0 0], .int .i64 14]) (by simp [results, Try.results46, go_sem, e1, e2]) rfl ⟨⟨_, _, _, _, 14, rfl, k, HK.out, .inl ⟨by omega, rfl⟩⟩, ?_⟩
          exact ((hW.trans (hB5.mono (by omega))).setCell (by show _ ≤ _; simp) _).setCell (by show _ ≤ _; simp) _
        · go_wp2
          refine bodyPost_ret (v := .tuple #[.agg #[.bool ng, .slice A2 n2 c2], .int .i64 0]) (by simp [results, Try.results46, go_sem, e1, e2]) rfl ⟨⟨_, _, _, _, 0, rfl, k, HK.out, .inr ⟨by omega, rfl, ?_⟩⟩, ?_⟩
          · exact HV4.out.stored e1 e2 _ _
          · exact ((hW.trans (hB5.mono (by omega))).setCell (by show _ ≤ _; simp) _).setCell (by show _ ≤ _; simp) _
      | true =>
        by_cases hodd : n % 2 = 1
        · have hc1 : (bits BinOp.and IntKind.i64 (n : Int) 1 == 1) = true := by rw [hbit, hodd]; rfl
          have HSX := Lib.hid (show withSign true (a ^ n) = withSign true a ^ n by have := HSG.out; rw [hodd] at this; exact this)
          clear hbit
          go_wp2_with fail
          refine (power_num _ a L n _ (HA.out.below hW) hn0 (by omega) hnL).mono ?_
          rintro e w2 ⟨r2, rfl, hr2, hb2⟩
          have hB2 := hb2.mono (B' := w.heap.size + 2) (by simp)
          have HR2 := Lib.hid hr2
          clear hr2
          go_wp2_with fail
          refine (signed_out true _ (a ^ n) (n * L) _ HR2.out (by omega)).mono ?_
          rintro e w3 ⟨ng, A2, n2, c2, rfl, hv, hb3⟩
          have hB3 := hB2.trans (hb3.mono (B' := w.heap.size + 2) (by have := hB2.size; simp at this; omega))
          have hv2 := hv.mono hnL2
          rw [HSX.out] at hv2
          have HV := Lib.hid hv2
          have hs3 : w.heap.size + 2 ≤ w3.heap.size := by have := hB3.size; simpa using this
          have hB4 := hB3.alloc hs3 (.cells #[.bool ng, .slice A2 n2 c2] 28)
          have hal := below_alloc w3 (.cells #[.bool ng, .slice A2 n2 c2] 28)
          clear hv hv2
          go_wp2_with fail
          refine (Length_any _ _ 200000 _ (HV.out.below hal) (by omega)).mono ?_
          rintro e w4 ⟨⟨k4, rfl, hk4, _⟩, hb4⟩
          obtain rfl : k = k4 := HK.out.det hk4
          have hC4 := hb4.mono (B' := w3.heap.size + 1) (by simp)
          have hB5 := hB4.trans (hb4.mono (B' := w.heap.size + 2) (by simp; omega))
          obtain ⟨e1, e2, f1, f2⟩ := room1 hB5
          obtain ⟨g1, g2⟩ := box28k hC4
          have HV4 := Lib.hid ((HV.out.below hal).below hb4)
          clear hk4
          by_cases hkl : (65536 : Int) < (k : Int)
          · go_wp2
            refine bodyPost_ret (v := .tuple #[.agg #[.bool false, .slice none 0 0], .int .i64 14]) (by simp [results, Try.results46, go_sem, e1, e2]) rfl ⟨⟨_, _, _, _, 14, rfl, k, HK.out, .inl ⟨by omega, rfl⟩⟩, ?_⟩
            exact ((hW.trans (hB5.mono (by omega))).setCell (by show _ ≤ _; simp) _).setCell (by show _ ≤ _; simp) _
          · go_wp2
            refine bodyPost_ret (v := .tuple #[.agg #[.bool ng, .slice A2 n2 c2], .int .i64 0]) (by simp [results, Try.results46, go_sem, e1, e2]) rfl ⟨⟨_, _, _, _, 0, rfl, k, HK.out, .inr ⟨by omega, rfl, ?_⟩⟩, ?_⟩
            · exact HV4.out.stored e1 e2 _ _
            · exact ((hW.trans (hB5.mono (by omega))).setCell (by show _ ≤ _; simp) _).setCell (by show _ ≤ _; simp) _
        · have hc1 : (bits BinOp.and IntKind.i64 (n : Int) 1 == 1) = false := by rw [hbit, show n % 2 = 0 from by omega]; rfl
          have HSX := Lib.hid (show withSign false (a ^ n) = withSign true a ^ n by have := HSG.out; rw [decide_eq_false hodd, Bool.and_false] at this; exact this)
          clear hbit
          go_wp2_with fail
          refine (power_num _ a L n _ (HA.out.below hW) hn0 (by omega) hnL).mono ?_
          rintro e w2 ⟨r2, rfl, hr2, hb2⟩
          have hB2 := hb2.mono (B' := w.heap.size + 2) (by simp)
          have HR2 := Lib.hid hr2
          clear hr2
          go_wp2_with fail
          refine (signed_out false _ (a ^ n) (n * L) _ HR2.out (by omega)).mono ?_
          rintro e w3 ⟨ng, A2, n2, c2, rfl, hv, hb3⟩
          have hB3 := hB2.trans (hb3.mono (B' := w.heap.size + 2) (by have := hB2.size; simp at this; omega))
          have hv2 := hv.mono hnL2
          rw [HSX.out] at hv2
          have HV := Lib.hid hv2
          have hs3 : w.heap.size + 2 ≤ w3.heap.size := by have := hB3.size; simpa using this
          have hB4 := hB3.alloc hs3 (.cells #[.bool ng, .slice A2 n2 c2] 28)
          have hal := below_alloc w3 (.cells #[.bool ng, .slice A2 n2 c2] 28)
          clear hv hv2
          go_wp2_with fail
          refine (Length_any _ _ 200000 _ (HV.out.below hal) (by omega)).mono ?_
          rintro e w4 ⟨⟨k4, rfl, hk4, _⟩, hb4⟩
          obtain rfl : k = k4 := HK.out.det hk4
          have hC4 := hb4.mono (B' := w3.heap.size + 1) (by simp)
          have hB5 := hB4.trans (hb4.mono (B' := w.heap.size + 2) (by simp; omega))
          obtain ⟨e1, e2, f1, f2⟩ := room1 hB5
          obtain ⟨g1, g2⟩ := box28k hC4
          have HV4 := Lib.hid ((HV.out.below hal).below hb4)
          clear hk4
          by_cases hkl : (65536 : Int) < (k : Int)
          · go_wp2
            refine bodyPost_ret (v := .tuple #[.agg #[.bool false, .slice none 0 0], .int .i64 14]) (by simp [results, Try.results46, go_sem, e1, e2]) rfl ⟨⟨_, _, _, _, 14, rfl, k, HK.out, .inl ⟨by omega, rfl⟩⟩, ?_⟩
            exact ((hW.trans (hB5.mono (by omega))).setCell (by show _ ≤ _; simp) _).setCell (by show _ ≤ _; simp) _
          · go_wp2
            refine bodyPost_ret (v := .tuple #[.agg #[.bool ng, .slice A2 n2 c2], .int .i64 0]) (by simp [results, Try.results46, go_sem, e1, e2]) rfl ⟨⟨_, _, _, _, 0, rfl, k, HK.out, .inr ⟨by omega, rfl, ?_⟩⟩, ?_⟩
            · exact HV4.out.stored e1 e2 _ _
            · exact ((hW.trans (hB5.mono (by omega))).setCell (by show _ ≤ _; simp) _).setCell (by show _ ≤ _; simp) _

end Go.Proofs.Ytoanomgdkkbbmaa
