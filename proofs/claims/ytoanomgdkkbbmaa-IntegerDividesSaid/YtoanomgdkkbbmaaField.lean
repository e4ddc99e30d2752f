/- field, Field and Deposit. -/
import Derived.Test.YtoanomgdkkbbmaaShift2
import Derived.Test.YtoanomgdkkbbmaaWordsCut
import Derived.Test.YtoanomgdkkbbmaaPatMath
import Derived.RegionTactic
import Derived.ChangeAlike
namespace Go.Proofs.Ytoanomgdkkbbmaa
open Go.RowKit LM

set_option maxHeartbeats 1000000 in
theorem inField_any (n : Int) (w : World) : Calls Try.prog 105 #[.int .i64 n] w fun e w' => e = .returned (.bool (decide (0 ≤ n) && decide (n ≤ 65536))) ∧ w = w' := by
  by_cases h : 0 ≤ n
  · by_cases h2 : n ≤ 65536
    · go_enter Try.func105, Try.ntmps105
      go_wp2
      go_ret
      exact ⟨by simp; omega, rfl⟩
    · have h3 : 65536 < n := by omega
      go_enter Try.func105, Try.ntmps105
      go_wp2
      go_ret
      exact ⟨by simp; omega, rfl⟩
  · have h3 : n < 0 := by omega
    go_enter Try.func105, Try.ntmps105
    go_wp2
    go_ret
    exact ⟨by simp; omega, rfl⟩

theorem words_val (u : Value) (z : Int) (L m : Nat) (M : Int) (hM : M = (m : Int)) (w : World) (h : Ival w u z L) (_hL : L ≤ 100000) (hm : m ≤ 100000) (hm0 : m ≠ 0) :
    Calls Try.prog 98 #[u, .int .i64 M] w fun e w' => (∃ g ys, e = .returned (.slice (some ⟨g, 0, none⟩) m m) ∧ Own w' w.heap.size g m ys ∧ Dig ys ∧ val ys = z % BB ^ m) ∧ Below w.heap.size w w' := by
  subst hM
  obtain ⟨p, _, a, rfl, ⟨A, n, c, xs, rfl, hr, hd, ht, hv, hn⟩, ha0, rfl, hp⟩ := h
  by_cases hnm : n ≤ m
  · exact words_any p A n c m a w ⟨xs, hr, hd, hv⟩ hnm (by omega) hm0
  · exact words_cut p A n c m a w ⟨xs, hr, hd, hv⟩ (by omega) (by omega) hm0

theorem shiftOf_back (x : Int) (p : Nat) (t : Int) (ht : t = -(p : Int)) : shiftOf x t = x / 2 ^ p := by
  unfold shiftOf
  by_cases h : p = 0
  · have : t = 0 := by omega
    subst this; subst h; simp
  · rw [if_neg (by omega)]; congr 2; omega

theorem mask_top {ys : List Int} {q r k : Nat} (hd : Dig ys) (hl : ys.length = q + 1) (hk : k = 32 * q + r) (hr : r ≤ 32) {y : Int} (hy : ys.getD q 0 = y) :
    Dig (ys.set q (y % 2 ^ r)) ∧ val (ys.set q (y % 2 ^ r)) = val ys % 2 ^ k := by
  have hb := hd.getD q
  rw [hy] at hb
  have h0 : 0 ≤ y % 2 ^ r := Int.emod_nonneg _ (by have := two_pos r; omega)
  have h1 : y % 2 ^ r ≤ y := by
    have e1 := Int.emod_add_mul_ediv y (2 ^ r)
    have e2 := Int.mul_nonneg (Int.le_of_lt (two_pos r)) (Int.ediv_nonneg hb.1 (Int.le_of_lt (two_pos r)))
    omega
  refine ⟨hd.set q h0 (by omega), ?_⟩
  rw [(down_split hd (sk := q) (r := r) (N := k) (by omega) hk hr).2, hy]
  have e := val_split (ys.set q (y % 2 ^ r)) q (by simp; omega)
  rw [e, List.take_set_of_le (Nat.le_refl q)]
  congr 2
  rw [drop_cons _ q (by simp; omega), List.drop_of_length_le (by simp; omega)]
  simp [val, List.getD, hl]

theorem mod_mod_two (z : Int) {k m : Nat} (h : k ≤ 32 * m) : z % BB ^ m % 2 ^ k = z % 2 ^ k := by
  rw [BB_two]
  apply Int.emod_emod_of_dvd
  exact ⟨2 ^ (32 * m - k), by rw [← Int.pow_add]; congr 1; omega⟩

set_option maxRecDepth 100000 in
set_option maxHeartbeats 4000000 in
theorem field_val (u : Value) (x : Int) (L k p : Nat) (w : World) (h : Ival w u x L) (hL : L ≤ 50000) (hk : k ≤ 65536) (hp : p ≤ 65536) :
    Calls Try.prog 106 #[u, .int .i64 k, .int .i64 p] w fun e w' => (∃ ng A2 n2 c2, e = .returned (.agg #[.bool ng, .slice A2 n2 c2]) ∧ Ival w' (.agg #[.bool ng, .slice A2 n2 c2]) (fieldOf x k p) (k / 32 + 1)) ∧ Below w.heap.size w w' := by
  obtain ⟨b, A, n, c, rfl⟩ := h.form
  obtain ⟨t, ht⟩ : ∃ t : Int, t = -(p : Int) := ⟨_, rfl⟩
  obtain ⟨q, hq⟩ : ∃ q, k / 32 = q := ⟨_, rfl⟩
  obtain ⟨r, hr⟩ : ∃ r, k % 32 = r := ⟨_, rfl⟩
  have hr32 : r < 32 := by omega
  have hkq : k = 32 * q + r := by omega
  have hqb : q ≤ 2048 := by omega
  rw [hq]
  have HKQ := Lib.hid hkq
  have HSB := Lib.hid (shiftOf_back x p t ht)
  have hW := below_two w (.cells #[.bool b, .slice A n c] 28) (.cells #[.bool false, .slice none 0 0] 28)
  have hD0 := (Below.refl (w.heap.size + 2) ((w.alloc (.cells #[.bool b, .slice A n c] 28)).alloc (.cells #[.bool false, .slice none 0 0] 28)))
  have hs2 : w.heap.size + 2 ≤ ((w.alloc (.cells #[.bool b, .slice A n c] 28)).alloc (.cells #[.bool false, .slice none 0 0] 28)).heap.size := by simp
  have HH := Lib.hid (h.below hW)
  have s1 : IntKind.i64.wrap (-(p : Int)) = t := by rw [IntKind.wrap_i64]; omega
  have t1 : (k : Int).tdiv 32 = (q : Int) := by rw [Int.tdiv_eq_ediv_of_nonneg (by omega)]; omega
  have t2 : (k : Int).tmod 32 = (r : Int) := by rw [Int.tmod_eq_emod_of_nonneg (by omega)]; omega
  have ht0 : -9223372036854775808 ≤ t := by omega
  have ht1 : t ≤ 0 := by omega
  clear h ht hq hr hkq
  go_enter Try.func106, Try.ntmps106
  go_wp2_with fail
  refine (shifted_any _ x t L _ HH.out (by omega) ht0 (by omega)).mono ?_
  rintro e w1 ⟨⟨g1, A1, n1, d1, rfl, hv1⟩, hb1⟩
  have hB1 := hD0.trans (hb1.mono (B' := w.heap.size + 2) hs2)
  have hz1 := Nat.le_trans hs2 hB1.size
  rw [HSB.out] at hv1
  have HV1 := Lib.hid (hv1.mono (show L + t.toNat / 32 + 2 ≤ L + 2 by omega))
  clear hv1 s1
  go_wp2_with fail
  refine (words_val _ (x / 2 ^ p) (L + 2) (q + 1) _ (by omega) _ HV1.out (by omega) (by omega) (by omega)).mono ?_
  rintro e w2 ⟨⟨g, ys, rfl, hown, hdy, hvy⟩, hb2⟩
  have hB2 := hB1.trans (hb2.mono (B' := w.heap.size + 2) hz1)
  have hz2 := Nat.le_trans hs2 hB2.size
  have hg := hown.lt
  have hly := hown.length
  obtain ⟨y, hy⟩ : ∃ y, ys.getD q 0 = y := ⟨_, rfl⟩
  have by' := hdy.getD q
  rw [hy, BB_def] at by'
  obtain ⟨hmd, hmv⟩ := mask_top hdy hly HKQ.out (Nat.le_of_lt hr32) hy
  rw [hvy, mod_mod_two _ (show k ≤ 32 * (q + 1) by have := HKQ.out; omega)] at hmv
  have hcell : w2.cell? ⟨g, q, none⟩ = some (.int .u32 y) := by rw [← hy]; exact hown.cell (by omega)
  have hfr := hown.frozen q
  have hset := hown.set q (y % 2 ^ r)
  have HSET := Lib.hid hset
  have HMV := Lib.hid hmv
  have HMD := Lib.hid hmd
  have hand := and_low hr32 by'.1 by'.2
  have hp31 : (2 : Int) ^ r ≤ 2147483648 := by have := two_mono (show r ≤ 31 by omega); have e : (2 : Int) ^ 31 = 2147483648 := by decide
                                               omega
  have hp2 := two_pos r
  have hw1 : IntKind.u32.wrap (2 ^ r) = 2 ^ r := by rw [IntKind.wrap_u32]; exact Int.emod_eq_of_lt (by omega) (by omega)
  have hw2 : IntKind.u32.wrap (2 ^ r - 1) = 2 ^ r - 1 := by rw [IntKind.wrap_u32]; exact Int.emod_eq_of_lt (by omega) (by omega)
  have HT := Lib.hid (fun (w' : World) (e : w2.drew = w') => (show w'.cell? ⟨g, q, none⟩ = some (.int .u32 y) by rw [← e]; exact hcell))
  have hfr' : w2.drew.frozen? ⟨g, q, none⟩ = false := hfr
  have hqi : (q : Int) < (q : Int) + 1 := by omega
  have hwq : IntKind.i64.wrap (q : Int) = (q : Int) := by rw [IntKind.wrap_i64]; omega
  have hqn : q < q + 1 := by omega
  clear hset hmv hmd hvy hy hown hp31 hp2
  go_wp2_with fail
  go_region
  have hB3 := (hB2.setCell (p := ⟨g, q, none⟩) (show w.heap.size + 2 ≤ g by omega) (.int .u32 (y % 2 ^ r))).drew
  have hz3 := Nat.le_trans hs2 hB3.size
  have hrow3 : Row .u32 (w2.setCell ⟨g, q, none⟩ (.int .u32 (y % 2 ^ r))).drew (some ⟨g, 0, none⟩) (q + 1) (q + 1) (ys.set q (y % 2 ^ r)) := HSET.out.row
  have HR3 := Lib.hid hrow3
  clear hrow3 hcell hfr hand hw1 hw2
  go_wp2_with fail
  refine (signed_out_row false _ _ _ _ _ HR3.out (by omega) HMD.out).mono ?_
  rintro e w4 ⟨ng, A4, n4, d4, rfl, hv4, hb4⟩
  have hB4 := hB3.trans (hb4.mono (B' := w.heap.size + 2) hz3)
  obtain ⟨e1, e2, f1, f2⟩ := room1 hB4
  have HV4 := Lib.hid hv4
  clear hv4
  go_wp2
  refine bodyPost_ret (v := .agg #[.bool ng, .slice A4 n4 d4]) (by simp [results, Try.results106, go_sem, e1, e2]) rfl ⟨⟨_, _, _, _, rfl, ?_⟩, ?_⟩
  · have hvv : withSign false (val (ys.set q (y % 2 ^ r))) = fieldOf x k p := HMV.out
    rw [← hvv]
    exact HV4.out.stored e1 e2 _ _
  · exact ((hW.trans (hB4.mono (by omega))).setCell (by show _ ≤ _; simp) _).setCell (by show _ ≤ _; simp) _

theorem field_boxes {w w' : World} {p : Bool} {u : Value} (h : Below (w.heap.size + 2) ((w.alloc (.cells #[.bool p, u] 28)).alloc (.cells #[.bool false, .slice none 0 0] 28)) w') :
    w'.cell? ⟨w.heap.size, 0, none⟩ = some (.bool p) ∧ w'.cell? ⟨w.heap.size, 1, none⟩ = some u := by
  obtain ⟨a, b, _⟩ := shift_boxes (h.mono (Nat.le_succ _)); exact ⟨a, b⟩

set_option maxRecDepth 100000 in
set_option maxHeartbeats 2000000 in
theorem Field_val (u : Value) (x : Int) (L k p : Nat) (w : World) (h : Ival w u x L) (hL : L ≤ 50000) (hk : k ≤ 65536) (hp : p ≤ 65536) :
    Calls Try.prog 56 #[u, .int .i64 k, .int .i64 p] w fun e w' => (∃ ng A2 n2 c2, e = .returned (.tuple #[.agg #[.bool ng, .slice A2 n2 c2], .int .i64 0]) ∧ Ival w' (.agg #[.bool ng, .slice A2 n2 c2]) (fieldOf x k p) (k / 32 + 1)) ∧ Below w.heap.size w w' := by
  obtain ⟨b, A, n, c, rfl⟩ := h.form
  have hW := below_two w (.cells #[.bool b, .slice A n c] 28) (.cells #[.bool false, .slice none 0 0] 28)
  have hD0 := (Below.refl (w.heap.size + 2) ((w.alloc (.cells #[.bool b, .slice A n c] 28)).alloc (.cells #[.bool false, .slice none 0 0] 28)))
  have hs2 : w.heap.size + 2 ≤ ((w.alloc (.cells #[.bool b, .slice A n c] 28)).alloc (.cells #[.bool false, .slice none 0 0] 28)).heap.size := by simp
  have HH := Lib.hid (h.below hW)
  have yk := Lib.hid (show (decide (0 ≤ (k : Int)) && decide ((k : Int) ≤ 65536)) = true by simp; omega)
  have yp := Lib.hid (show (decide (0 ≤ (p : Int)) && decide ((p : Int) ≤ 65536)) = true by simp; omega)
  clear h
  go_enter Try.func56, Try.ntmps56
  go_wp2_with fail
  refine (inField_any _ _).mono ?_
  rintro e w1 ⟨rfl, rfl⟩
  rw [yk.out]
  go_wp2_with fail
  refine (inField_any _ _).mono ?_
  rintro e w1 ⟨rfl, rfl⟩
  rw [yp.out]
  go_wp2_with fail
  refine (field_val _ x L k p _ HH.out hL hk hp).mono ?_
  rintro e w3 ⟨⟨ng, A2, n2, d2, rfl, hv⟩, hb3⟩
  have hB3 := hD0.trans (hb3.mono (B' := w.heap.size + 2) hs2)
  obtain ⟨e1, e2, f1, f2⟩ := room1 hB3
  have HV := Lib.hid hv
  clear hv
  go_wp2
  refine bodyPost_ret (v := .tuple #[.agg #[.bool ng, .slice A2 n2 d2], .int .i64 0]) (by simp [results, Try.results56, go_sem, e1, e2]) rfl ⟨⟨_, _, _, _, rfl, HV.out.stored e1 e2 _ _⟩, ?_⟩
  exact ((hW.trans (hB3.mono (by omega))).setCell (by show _ ≤ _; simp) _).setCell (by show _ ≤ _; simp) _

end Go.Proofs.Ytoanomgdkkbbmaa
