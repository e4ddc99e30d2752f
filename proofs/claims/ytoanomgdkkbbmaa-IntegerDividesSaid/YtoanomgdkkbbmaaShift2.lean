/- shifted and Shift, any way. -/
import Derived.Test.YtoanomgdkkbbmaaDown
import Derived.Test.YtoanomgdkkbbmaaShift
namespace Go.Proofs.Ytoanomgdkkbbmaa
open Go.RowKit LM

theorem shift_floor {a : Int} (p : Bool) (m : Nat) (_h : 0 ≤ a) : withSign p a / 2 ^ m = withSign p (a / 2 ^ m + if p && decide (a % 2 ^ m ≠ 0) then 1 else 0) := by
  have hp := two_pos m
  cases p with
  | false => simp [withSign]
  | true =>
    have h1 := Int.emod_add_mul_ediv a (2 ^ m)
    have h2 := Int.emod_nonneg a (show (2 : Int) ^ m ≠ 0 by omega)
    have h3 := Int.emod_lt_of_pos a hp
    simp only [withSign, if_true, Bool.true_and]
    by_cases h0 : a % 2 ^ m = 0
    · rw [decide_eq_false (by simpa using h0)]
      generalize a / 2 ^ m = q at *
      generalize a % 2 ^ m = r at *
      generalize (2 : Int) ^ m = P at *
      have e : -a = P * (-q) := by rw [← h1, h0, Int.mul_neg]; omega
      rw [e, Int.mul_ediv_cancel_left _ (by omega)]; simp
    · rw [decide_eq_true (by simpa using h0)]
      generalize a / 2 ^ m = q at *
      generalize a % 2 ^ m = r at *
      generalize (2 : Int) ^ m = P at *
      have e : -a = (P - r) + P * (-q - 1) := by rw [← h1, Int.mul_sub, Int.mul_neg, Int.mul_one]; omega
      rw [e, Int.add_mul_ediv_left _ _ (by omega), Int.ediv_eq_zero_of_lt (by omega) (by omega)]
      simp only [if_true]; omega

/-- A shift by more than all digits is one by all digits. -/
theorem shift_cap {a : Int} {n m k : Nat} (h0 : 0 ≤ a) (h1 : a < 2 ^ (32 * n)) (hk : k = min m (32 * n)) : a / 2 ^ k = a / 2 ^ m ∧ a % 2 ^ k = a % 2 ^ m := by
  rcases Nat.le_total m (32 * n) with h | h
  · have : k = m := by omega
    rw [this]; exact ⟨rfl, rfl⟩
  · have : k = 32 * n := by omega
    have h2 := two_mono h
    rw [this]
    exact ⟨by rw [Int.ediv_eq_zero_of_lt h0 h1, Int.ediv_eq_zero_of_lt h0 (by omega)], by rw [Int.emod_eq_of_lt h0 h1, Int.emod_eq_of_lt h0 (by omega)]⟩

theorem one_row (w : World) : Num (w.alloc (.cells #[.int .u32 1] 99)) (.slice (some ⟨w.heap.size, 0, none⟩) 1 1) 1 1 := by
  refine ⟨_, _, _, [1], rfl, ⟨rfl, Nat.le_refl _, fun _ => ⟨w.heap.size, 0, rfl, by simp, fun i hi => ?_⟩⟩, Dig.one (by decide) (by decide), .inr (by decide), by simp [val], Nat.le_refl _⟩
  obtain rfl : i = 0 := by omega
  rw [World.cell?_alloc_at _ _ _ _ rfl]; rfl

set_option maxRecDepth 100000 in
set_option maxHeartbeats 2000000 in
theorem shifted_down (u : Value) (x t : Int) (L m : Nat) (w : World) (h : Ival w u x L) (hL : L ≤ 100000) (hm : m ≤ 9223372036854775808) (hm1 : 1 ≤ m) (ht : t = -(m : Int)) :
    Calls Try.prog 96 #[u, .int .i64 t] w fun e w' => (∃ ng A2 n2 c2, e = .returned (.agg #[.bool ng, .slice A2 n2 c2]) ∧ Ival w' (.agg #[.bool ng, .slice A2 n2 c2]) (x / 2 ^ m) (L + 2)) ∧ Below w.heap.size w w' := by
  obtain ⟨p, A, n, c, rfl⟩ := h.form
  have hn : n ≤ L := by obtain ⟨neg, s, a, e, ⟨A', n', c', xs, rfl, hr, hd, htr, hv, hn⟩, r⟩ := h; simp at e; omega
  obtain ⟨a, ha, ha0, rfl, ha1⟩ := h.parts
  have hbn : a < 2 ^ (32 * n) := by
    obtain ⟨A', n', c', xs, e, hr, hd, htr, hv, hn⟩ := ha
    have hb := val_bounds hd
    simp only [Value.slice.injEq] at e
    rw [hr.1, BB_two, hv] at hb
    rw [e.2.1]; exact hb.2
  obtain ⟨k, hk⟩ : ∃ k, k = min m (32 * n) := ⟨_, rfl⟩
  obtain ⟨hq, hr⟩ := shift_cap ha0 hbn hk
  have HE := Lib.hid (shift_floor p m ha0)
  have HQ := Lib.hid (And.intro hq hr)
  have hW := below_two w (.cells #[.bool p, .slice A n c] 28) (.cells #[.bool false, .slice none 0 0] 28)
  have hD0 := (Below.refl (w.heap.size + 2) ((w.alloc (.cells #[.bool p, .slice A n c] 28)).alloc (.cells #[.bool false, .slice none 0 0] 28)))
  have hs2 : w.heap.size + 2 ≤ ((w.alloc (.cells #[.bool p, .slice A n c] 28)).alloc (.cells #[.bool false, .slice none 0 0] 28)).heap.size := by simp
  have HA := Lib.hid (ha.below hW)
  have ht0 : t < 0 := by omega
  have ht1 : -9223372036854775808 ≤ t := by omega
  have s1 : IntKind.i64.wrap (-(n : Int)) = -(n : Int) := by rw [IntKind.wrap_i64]; omega
  have s2 : IntKind.i64.wrap (-(n : Int) * 32) = -(n : Int) * 32 := by rw [IntKind.wrap_i64]; omega
  have s3 : IntKind.i64.wrap (-(max t (-(n : Int) * 32))) = (k : Int) := by rw [IntKind.wrap_i64]; omega
  have hkb : k ≤ 9223372036854775807 := by omega
  have hkL : k ≤ 32 * n := by omega
  clear h ha ha1 hbn hk hq hr ht hm hm1
  go_enter Try.func96, Try.ntmps96
  go_wp2_with fail
  clear s1 s2 s3
  refine (down_num _ a L k _ HA.out (by omega) hkb).mono ?_
  rintro e w3 ⟨v, rfl, hv, hb3⟩
  have hB3 := hD0.trans (hb3.mono (B' := w.heap.size + 2) hs2)
  have hz3 := Nat.le_trans hs2 hB3.size
  have HV := Lib.hid hv
  obtain ⟨lst, hl⟩ : ∃ lst, decide (a % 2 ^ k ≠ 0) = lst := ⟨_, rfl⟩
  have HLS := Lib.hid hl
  rw [hl]
  have ha20 : 0 ≤ a / 2 ^ k := Int.ediv_nonneg ha0 (Int.le_of_lt (two_pos k))
  clear hv hl
  obtain ⟨c0, c1, _⟩ := shift_boxes (hB3.mono (Nat.le_succ _))
  by_cases hpl : (p && lst) = true
  · obtain ⟨hp, hl⟩ := Bool.and_eq_true_iff.1 hpl
    subst hp
    subst hl
    clear hpl
    go_wp2_with fail
    have hb4 := below_alloc w3 (.cells #[.int .u32 1] 99)
    refine (add_num _ _ (a / 2 ^ k) 1 L 1 _ (HV.out.below hb4) (one_row w3) (by omega) (by decide)).mono ?_
    rintro e w5 ⟨v5, rfl, hv5, hb5⟩
    have hB5 := hB3.trans ((hb4.trans (hb5.mono hb4.size)).mono (B' := w.heap.size + 2) hz3)
    have hz5 := Nat.le_trans hs2 hB5.size
    have HV5 := Lib.hid hv5
    clear hv5 c0 c1
    obtain ⟨c0, c1, _⟩ := shift_boxes (hB5.mono (Nat.le_succ _))
    go_wp2_with fail
    refine (signed_out true _ (a / 2 ^ k + 1) (L + 2) _ (HV5.out.mono (by omega)) (by omega)).mono ?_
    rintro e w6 ⟨ng2, A2, n2, c2, rfl, hv6, hb6⟩
    have hB6 := hB5.trans (hb6.mono (B' := w.heap.size + 2) hz5)
    obtain ⟨e1, e2, f1, f2⟩ := room1 hB6
    have HV6 := Lib.hid hv6
    clear hv6 c0 c1
    go_wp2
    refine bodyPost_ret (v := .agg #[.bool ng2, .slice A2 n2 c2]) (by simp [results, Try.results96, go_sem, e1, e2]) rfl ⟨⟨_, _, _, _, rfl, ?_⟩, ?_⟩
    · rw [HE.out, ← HQ.out.1, ← HQ.out.2, HLS.out]; exact HV6.out.stored e1 e2 _ _
    · exact ((hW.trans (hB6.mono (by omega))).setCell (by show _ ≤ _; simp) _).setCell (by show _ ≤ _; simp) _
  · have hpf : (p && lst) = false := by simpa using hpl
    have HPF := Lib.hid hpf
    have hw : p = true → lst = false := by intro h; subst h; simpa using hpf
    clear hpl hpf
    cases p
    all_goals
      (try (have hlf := hw rfl; subst hlf))
      clear hw
      go_wp2_with fail
      refine (signed_out _ _ (a / 2 ^ k) L _ HV.out (by omega)).mono ?_
      rintro e w6 ⟨ng2, A2, n2, c2, rfl, hv6, hb6⟩
      have hB6 := hB3.trans (hb6.mono (B' := w.heap.size + 2) hz3)
      obtain ⟨e1, e2, f1, f2⟩ := room1 hB6
      have HV6 := Lib.hid (hv6.mono (show L ≤ L + 2 by omega))
      clear hv6 c0 c1
      go_wp2
      refine bodyPost_ret (v := .agg #[.bool ng2, .slice A2 n2 c2]) (by simp [results, Try.results96, go_sem, e1, e2]) rfl ⟨⟨_, _, _, _, rfl, ?_⟩, ?_⟩
      · rw [HE.out, ← HQ.out.1, ← HQ.out.2, HLS.out, HPF.out]; simp only [Bool.false_eq_true, if_false, Int.add_zero]; exact HV6.out.stored e1 e2 _ _
      · exact ((hW.trans (hB6.mono (by omega))).setCell (by show _ ≤ _; simp) _).setCell (by show _ ≤ _; simp) _

/-- shifted, any way. -/
def shiftOf (x t : Int) : Int := if 0 ≤ t then x * 2 ^ t.toNat else x / 2 ^ (-t).toNat

theorem shifted_any (u : Value) (x t : Int) (L : Nat) (w : World) (h : Ival w u x L) (hL : L ≤ 100000) (h0 : -9223372036854775808 ≤ t) (h1 : t ≤ 1048576) :
    Calls Try.prog 96 #[u, .int .i64 t] w fun e w' => (∃ ng A2 n2 c2, e = .returned (.agg #[.bool ng, .slice A2 n2 c2]) ∧ Ival w' (.agg #[.bool ng, .slice A2 n2 c2]) (shiftOf x t) (L + t.toNat / 32 + 2)) ∧ Below w.heap.size w w' := by
  by_cases ht : 0 ≤ t
  · obtain ⟨m, rfl⟩ := Int.eq_ofNat_of_zero_le ht
    refine (shifted_up u x L m w h (by omega) (by omega)).mono ?_
    rintro e w' ⟨⟨ng, A2, n2, c2, rfl, hv⟩, hb⟩
    refine ⟨⟨ng, A2, n2, c2, rfl, ?_⟩, hb⟩
    unfold shiftOf; rw [if_pos ht, Int.toNat_natCast]; exact hv.mono (by omega)
  · refine (shifted_down u x t L (-t).toNat w h hL (by omega) (by omega) (by omega)).mono ?_
    rintro e w' ⟨⟨ng, A2, n2, c2, rfl, hv⟩, hb⟩
    refine ⟨⟨ng, A2, n2, c2, rfl, ?_⟩, hb⟩
    unfold shiftOf; rw [if_neg ht]; exact hv.mono (by omega)

set_option maxRecDepth 100000 in
set_option maxHeartbeats 2000000 in
theorem Shift_plain (u : Value) (x t : Int) (L : Nat) (w : World) (h : Ival w u x L) (hL : L ≤ 100000) (h0 : -9223372036854775808 ≤ t) (h1 : t ≤ 0) :
    Calls Try.prog 50 #[u, .int .i64 t] w fun e w' => (∃ ng A2 n2 c2, e = .returned (.tuple #[.agg #[.bool ng, .slice A2 n2 c2], .int .i64 0]) ∧ Ival w' (.agg #[.bool ng, .slice A2 n2 c2]) (shiftOf x t) (L + t.toNat / 32 + 2)) ∧ Below w.heap.size w w' := by
  obtain ⟨p, A, n, c, rfl⟩ := h.form
  have hW := below_two w (.cells #[.bool p, .slice A n c] 28) (.cells #[.bool false, .slice none 0 0] 28)
  have hD0 := (Below.refl (w.heap.size + 2) ((w.alloc (.cells #[.bool p, .slice A n c] 28)).alloc (.cells #[.bool false, .slice none 0 0] 28)))
  have hs2 : w.heap.size + 2 ≤ ((w.alloc (.cells #[.bool p, .slice A n c] 28)).alloc (.cells #[.bool false, .slice none 0 0] 28)).heap.size := by simp
  have HH := Lib.hid (h.below hW)
  clear h
  go_enter Try.func50, Try.ntmps50
  go_wp2_with fail
  refine (shifted_any _ x t L _ HH.out hL h0 (by omega)).mono ?_
  rintro e w3 ⟨⟨ng, A2, n2, d2, rfl, hv⟩, hb3⟩
  have hB3 := hD0.trans (hb3.mono (B' := w.heap.size + 2) hs2)
  obtain ⟨e1, e2, f1, f2⟩ := room1 hB3
  have HV := Lib.hid hv
  clear hv
  go_wp2
  refine bodyPost_ret (v := .tuple #[.agg #[.bool ng, .slice A2 n2 d2], .int .i64 0]) (by simp [results, Try.results50, go_sem, e1, e2]) rfl ⟨⟨_, _, _, _, rfl, HV.out.stored e1 e2 _ _⟩, ?_⟩
  exact ((hW.trans (hB3.mono (by omega))).setCell (by show _ ≤ _; simp) _).setCell (by show _ ≤ _; simp) _

set_option maxRecDepth 100000 in
set_option maxHeartbeats 2000000 in
theorem Shift_zero (u : Value) (t : Int) (L : Nat) (w : World) (h : Ival w u 0 L) (hL : L ≤ 100000) (h0 : 0 < t) (h1 : t ≤ 1048576) :
    Calls Try.prog 50 #[u, .int .i64 t] w fun e w' => (∃ ng A2 n2 c2, e = .returned (.tuple #[.agg #[.bool ng, .slice A2 n2 c2], .int .i64 0]) ∧ Ival w' (.agg #[.bool ng, .slice A2 n2 c2]) (shiftOf 0 t) (L + t.toNat / 32 + 2)) ∧ Below w.heap.size w w' := by
  obtain ⟨p, A, n, c, rfl⟩ := h.form
  have hW := below_two w (.cells #[.bool p, .slice A n c] 28) (.cells #[.bool false, .slice none 0 0] 28)
  have hD0 := (Below.refl (w.heap.size + 2) ((w.alloc (.cells #[.bool p, .slice A n c] 28)).alloc (.cells #[.bool false, .slice none 0 0] 28)))
  have hs2 : w.heap.size + 2 ≤ ((w.alloc (.cells #[.bool p, .slice A n c] 28)).alloc (.cells #[.bool false, .slice none 0 0] 28)).heap.size := by simp
  have HH := Lib.hid (h.below hW)
  have hc0 : cmpI 0 0 = 0 := by decide
  have HC0 := Lib.hid hc0
  clear h hc0
  go_enter Try.func50, Try.ntmps50
  go_wp2_with fail
  refine (sign_int _ 0 L _ HH.out).mono ?_
  rintro e w1 ⟨rfl, hb1⟩
  rw [HC0.out]
  have hB1 := hD0.trans (hb1.mono (B' := w.heap.size + 2) hs2)
  have hz1 := Nat.le_trans hs2 hB1.size
  obtain ⟨c1, c2, _⟩ := shift_boxes (hB1.mono (Nat.le_succ _))
  go_wp2_with fail
  refine (shifted_any _ 0 t L _ (HH.out.below hb1) hL (by omega) h1).mono ?_
  rintro e w3 ⟨⟨ng, A2, n2, d2, rfl, hv⟩, hb3⟩
  have hB3 := hB1.trans (hb3.mono (B' := w.heap.size + 2) hz1)
  obtain ⟨e1, e2, f1, f2⟩ := room1 hB3
  have HV := Lib.hid hv
  clear hv c1 c2
  go_wp2
  refine bodyPost_ret (v := .tuple #[.agg #[.bool ng, .slice A2 n2 d2], .int .i64 0]) (by simp [results, Try.results50, go_sem, e1, e2]) rfl ⟨⟨_, _, _, _, rfl, HV.out.stored e1 e2 _ _⟩, ?_⟩
  exact ((hW.trans (hB3.mono (by omega))).setCell (by show _ ≤ _; simp) _).setCell (by show _ ≤ _; simp) _

/-- What a shift to the left comes to. -/
def ShiftAns (x t : Int) (L : Nat) (e : Ending) (w' : World) : Prop := ∃ (k : Nat) (ng : Bool) (A2 : Option Addr) (n2 c2 : Nat), IsLen (patOf x) k ∧ (
        (k : Int) ≤ 65536 - t ∧ e = .returned (.tuple #[.agg #[.bool ng, .slice A2 n2 c2], .int .i64 0]) ∧ Ival w' (.agg #[.bool ng, .slice A2 n2 c2]) (shiftOf x t) (L + t.toNat / 32 + 2) ∨
        ¬ (k : Int) ≤ 65536 - t ∧ e = .returned (.tuple #[.agg #[.bool false, .slice none 0 0], .int .i64 14]))

set_option maxRecDepth 100000 in
set_option maxHeartbeats 2000000 in
/-- To the left, a number other than 0: an error just where the result would be too long. -/
theorem Shift_left (u : Value) (x t : Int) (L : Nat) (w : World) (h : Ival w u x L) (hL : L ≤ 1000) (h0 : 0 < t) (h1 : t ≤ 9223372036854775807) (hx : x ≠ 0) :
    Calls Try.prog 50 #[u, .int .i64 t] w fun e w' => ShiftAns x t L e w' ∧ Below w.heap.size w w' := by
  obtain ⟨p, A, n, c, rfl⟩ := h.form
  have hW := below_two w (.cells #[.bool p, .slice A n c] 28) (.cells #[.bool false, .slice none 0 0] 28)
  have hD0 := (Below.refl (w.heap.size + 2) ((w.alloc (.cells #[.bool p, .slice A n c] 28)).alloc (.cells #[.bool false, .slice none 0 0] 28)))
  have hs2 : w.heap.size + 2 ≤ ((w.alloc (.cells #[.bool p, .slice A n c] 28)).alloc (.cells #[.bool false, .slice none 0 0] 28)).heap.size := by simp
  have HH := Lib.hid (h.below hW)
  obtain ⟨s, hs⟩ : ∃ s, cmpI x 0 = s := ⟨_, rfl⟩
  have hs0 : (s != 0) = true := by
    rcases Int.lt_or_gt_of_ne hx with h' | h'
    · rw [← hs, cmpI_lt h']; decide
    · rw [← hs, cmpI_gt h']; decide
  have HS := Lib.hid hs
  clear h hx hs
  go_enter Try.func50, Try.ntmps50
  go_wp2_with fail
  refine (sign_int _ x L _ HH.out).mono ?_
  rintro e w1 ⟨rfl, hb1⟩
  rw [HS.out]
  have hB1 := hD0.trans (hb1.mono (B' := w.heap.size + 2) hs2)
  have hz1 := Nat.le_trans hs2 hB1.size
  obtain ⟨c1, c2, _⟩ := shift_boxes (hB1.mono (Nat.le_succ _))
  go_wp2_with fail
  refine (Length_any _ x L _ (HH.out.below hb1) (by omega)).mono ?_
  rintro e w2 ⟨⟨k, rfl, hk, hkl⟩, hb2⟩
  have hB2 := hB1.trans (hb2.mono (B' := w.heap.size + 2) hz1)
  have hz2 := Nat.le_trans hs2 hB2.size
  have HK := Lib.hid hk
  clear c1 c2 hk
  obtain ⟨c1, c2, _⟩ := shift_boxes (hB2.mono (Nat.le_succ _))
  by_cases hkt : (k : Int) ≤ 65536 - t
  · have hnk : ¬ 65536 - t < (k : Int) := by omega
    have HKT := Lib.hid hkt
    clear hkt
    go_wp2_with fail
    refine (shifted_any _ x t L _ ((HH.out.below hb1).below hb2) (by omega) (by omega) (by omega)).mono ?_
    rintro e w3 ⟨⟨ng, A2, n2, d2, rfl, hv⟩, hb3⟩
    have hB3 := hB2.trans (hb3.mono (B' := w.heap.size + 2) hz2)
    obtain ⟨e1, e2, f1, f2⟩ := room1 hB3
    have HV := Lib.hid hv
    clear hv c1 c2
    go_wp2
    refine bodyPost_ret (v := .tuple #[.agg #[.bool ng, .slice A2 n2 d2], .int .i64 0]) (by simp [results, Try.results50, go_sem, e1, e2]) rfl ⟨⟨k, _, _, _, _, HK.out, .inl ⟨HKT.out, rfl, HV.out.stored e1 e2 _ _⟩⟩, ?_⟩
    exact ((hW.trans (hB3.mono (by omega))).setCell (by show _ ≤ _; simp) _).setCell (by show _ ≤ _; simp) _
  · have hnk : 65536 - t < (k : Int) := by omega
    have HKT := Lib.hid hkt
    obtain ⟨e1, e2, f1, f2⟩ := room1 hB2
    clear hkt
    go_wp2
    refine bodyPost_ret (v := .tuple #[.agg #[.bool false, .slice none 0 0], .int .i64 14]) (by simp [results, Try.results50, go_sem, e1, e2]) rfl ⟨⟨k, true, none, 0, 0, HK.out, .inr ⟨by have := HKT.out; omega, rfl⟩⟩, ?_⟩
    exact ((hW.trans (hB2.mono (by omega))).setCell (by show _ ≤ _; simp) _).setCell (by show _ ≤ _; simp) _

end Go.Proofs.Ytoanomgdkkbbmaa
