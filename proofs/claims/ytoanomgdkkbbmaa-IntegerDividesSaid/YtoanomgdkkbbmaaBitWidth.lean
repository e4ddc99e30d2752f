import Derived.Test.YtoanomgdkkbbmaaRFour
import Derived.Test.YtoanomgdkkbbmaaLens0

/- set, and Bit of both. -/
namespace Go.Proofs.Ytoanomgdkkbbmaa
open Go.RowKit LM

theorem bit_mid {s k r : Nat} {low d rest : Int} (h0 : 0 ≤ low) (h1 : low < 2 ^ (s * k)) (hr : r < s) :
    (low + 2 ^ (s * k) * (d + 2 ^ s * rest)) / 2 ^ (s * k + r) % 2 = d / 2 ^ r % 2 := by
  have hp := two_pos (s * k)
  rw [Int.pow_add, ← Int.ediv_ediv_of_nonneg (Int.le_of_lt hp), Int.add_mul_ediv_left _ _ (by omega), Int.ediv_eq_zero_of_lt h0 h1, Int.zero_add]
  have e : (2 : Int) ^ s = 2 ^ r * (2 * 2 ^ (s - r - 1)) := by
    rw [← Int.mul_assoc, Int.mul_comm (2 ^ r) 2, Int.mul_assoc, ← Int.pow_add, Int.mul_comm, ← Int.pow_succ]; congr 1; omega
  have hq := two_pos r
  rw [e, Int.mul_assoc, Int.add_mul_ediv_left _ _ (by omega), Int.mul_assoc, Int.add_mul_emod_self_left]

theorem bit_high {z : Int} {a i : Nat} (h0 : 0 ≤ z) (h : z < 2 ^ a) (hi : a ≤ i) : z / 2 ^ i % 2 = 0 := by
  have := two_mono hi
  rw [Int.ediv_eq_zero_of_lt h0 (by omega)]; rfl

theorem bit_val {xs : List Int} (hd : Dig xs) (i : Nat) : val xs / 2 ^ i % 2 = xs.getD (i / 32) 0 / 2 ^ (i % 32) % 2 := by
  by_cases h : i / 32 < xs.length
  · have h1 := val_split xs (i / 32) (by omega)
    rw [drop_cons xs (i / 32) h, val_cons, BB_two] at h1
    have hb := val_bounds (hd.take (i / 32))
    rw [List.length_take, Nat.min_eq_left (by omega), BB_two] at hb
    have e : BB = 2 ^ 32 := by decide
    rw [e] at h1
    rw [h1, show i = 32 * (i / 32) + i % 32 from by omega]
    rw [show (32 * (i / 32) + i % 32) / 32 = i / 32 from by omega, show (32 * (i / 32) + i % 32) % 32 = i % 32 from by omega]
    exact bit_mid hb.1 hb.2 (by omega)
  · have hb := val_bounds hd
    rw [BB_two] at hb
    rw [bit_high hb.1 hb.2 (by omega), getD_out _ _ (by omega)]
    simp

theorem bit_valR {xs : List Int} (hd : DigR 65536 xs) (i : Nat) : valR 65536 xs / 2 ^ i % 2 = xs.getD (i / 16) 0 / 2 ^ (i % 16) % 2 := by
  have e16 : ∀ k : Nat, (65536 : Int) ^ k = 2 ^ (16 * k) := fun k => by rw [Int.pow_mul]; rfl
  by_cases h : i / 16 < xs.length
  · have h1 := valR_split 65536 xs (i / 16) (by omega)
    rw [drop_cons xs (i / 16) h] at h1
    simp only [valR] at h1
    have hb0 := valR_nonneg (by decide : (0 : Int) ≤ 65536) (hd.take (i / 16))
    have hb1 := valR_lt (by decide : (1 : Int) ≤ 65536) (hd.take (i / 16))
    rw [List.length_take, Nat.min_eq_left (by omega), e16] at hb1
    have e : (65536 : Int) = 2 ^ 16 := by decide
    rw [e16] at h1
    rw [h1, show i = 16 * (i / 16) + i % 16 from by omega]
    rw [show (16 * (i / 16) + i % 16) / 16 = i / 16 from by omega, show (16 * (i / 16) + i % 16) % 16 = i % 16 from by omega]
    generalize valR 65536 (List.take (i / 16) xs) = low at *
    generalize valR 65536 (List.drop (i / 16 + 1) xs) = rest at *
    rw [e]
    exact bit_mid hb0 hb1 (by omega)
  · have hb0 := valR_nonneg (by decide : (0 : Int) ≤ 65536) hd
    have hb1 := valR_lt (by decide : (1 : Int) ≤ 65536) hd
    rw [e16] at hb1
    rw [bit_high hb0 hb1 (by omega), getD_out _ _ (by omega)]
    simp

/-- Is bit i of x set, in two's complement? -/
def bitOf (x i : Int) : Bool := if i < 0 then false else (decide (patOf x / 2 ^ i.toNat % 2 = 1)) != decide (x < 0)

set_option maxRecDepth 100000 in
set_option maxHeartbeats 1000000 in
theorem rset_any (p : Bool) (A : Option Addr) (n c : Nat) (xs : List Int) (i : Nat) (w : World) (h : Row .i64 w A n c xs) (hd : DigR 65536 xs) (_hn : n ≤ 1048576) (hi : i ≤ 9223372036854775807) :
    Calls Try.prog 103 #[.agg #[.bool p, .slice A n c], .int .i64 i] w fun e w' => e = .returned (.bool (decide (valR 65536 xs / 2 ^ i % 2 = 1))) ∧ Below w.heap.size w w' := by
  have hW := below_alloc w (.cells #[.bool p, .slice A n c] 31)
  rw [bit_valR hd i]
  obtain ⟨k, hk⟩ : ∃ k, i / 16 = k := ⟨_, rfl⟩
  obtain ⟨r, hr⟩ : ∃ r, i % 16 = r := ⟨_, rfl⟩
  have t1 : (i : Int).tdiv 16 = (k : Int) := by rw [Int.tdiv_eq_ediv_of_nonneg (by omega)]; omega
  have t2 : (i : Int).tmod 16 = (r : Int) := by rw [Int.tmod_eq_emod_of_nonneg (by omega)]; omega
  have hr16 : r < 16 := by omega
  have hkb : (k : Int) ≤ 9223372036854775807 := by omega
  have HROW := Lib.hid (h.below hW)
  have hxl : xs.length = n := h.1
  rw [hk, hr]
  obtain ⟨x, ex⟩ : ∃ x, xs.getD k 0 = x := ⟨_, rfl⟩
  have bx := hd.getD k
  rw [ex] at bx ⊢
  clear h hd hk hr
  by_cases hkn : k < n
  · obtain ⟨b, o, rfl, hbx, hx⟩ := HROW.out.2.2 (by omega)
    have hx1 : (w.alloc (.cells #[.bool p, .slice (some ⟨b, o, none⟩) n c] 31)).cell? ⟨b, o + k, none⟩ = some (.int .i64 x) := by rw [← ex]; exact hx k hkn
    have hkn2 : ¬ (n : Int) ≤ (k : Int) := by omega
    obtain ⟨bx0, bx1⟩ := bx
    clear hx ex hxl
    go_enter Try.func103, Try.ntmps103
    go_wp2_with fail
    go_loopw [5, 6] (fun nv kv wr => ∃ (j : Nat) (y : Int), kv = .int .i64 j ∧ nv = .int .i64 y ∧ j ≤ r ∧ 0 ≤ y ∧ y < 65536 ∧ Hid (y / 2 ^ (r - j) = x / 2 ^ r) ∧ (w.alloc (.cells #[.bool p, .slice (some ⟨b, o, none⟩) n c] 31)) = wr) (fun _ kv _ => r - (intOf kv).toNat)
    case atStart => exact ⟨0, x, rfl, rfl, Nat.zero_le _, bx0, bx1, Lib.hid rfl, rfl⟩
    case round =>
      obtain ⟨j, y, rfl, rfl, hj, y0, y1, HY, rfl⟩ := hrel
      by_cases hjr : j < r
      · have q1 : y.tdiv 2 = y / 2 := Int.tdiv_eq_ediv_of_nonneg y0
        have q2 : IntKind.i64.wrap (y / 2) = y / 2 := by rw [IntKind.wrap_i64]; omega
        have hji : (j : Int) < (r : Int) := by omega
        go_wp2_with fail
        refine ⟨⟨j + 1, y / 2, by go_num, rfl, hjr, by omega, by omega, Lib.hid ?_, trivial⟩, by simp [intOf]; omega⟩
        rw [← HY.out, Int.ediv_ediv_of_nonneg (by decide)]
        congr 1
        rw [Int.mul_comm, ← Int.pow_succ]; congr 1; omega
      · obtain rfl : j = r := by omega
        have hy := HY.out
        rw [Nat.sub_self, Int.pow_zero, Int.ediv_one] at hy
        have q1 : y.tmod 2 = y % 2 := Int.tmod_eq_emod_of_nonneg y0
        have HYY := Lib.hid hy
        clear hy
        have hres : (y % 2 == 1) = decide (x / 2 ^ j % 2 = 1) := by rw [← HYY.out]; by_cases h : y % 2 = 1 <;> simp [h]
        have HRS := Lib.hid hres
        clear hres
        go_wp2_with fail
        go_ret
        exact ⟨by rw [← HRS.out]; rfl, hW⟩
  · obtain rfl : x = 0 := by rw [← ex]; exact getD_out _ _ (by omega)
    have hkn2 : (n : Int) ≤ (k : Int) := by omega
    clear ex hxl
    go_enter Try.func103, Try.ntmps103
    go_wp2_with fail
    go_ret
    exact ⟨by simp, hW⟩

/-- The bit of a number's value, whatever its sign. -/
theorem rset_val (v : Value) (x : Int) (L i : Nat) (w : World) (h : Rval w v x L) (hx : 0 ≤ x) (hL : L ≤ 1048576) (hi : i ≤ 9223372036854775807) :
    Calls Try.prog 103 #[v, .int .i64 i] w fun e w' => e = .returned (.bool (decide (x / 2 ^ i % 2 = 1))) ∧ Below w.heap.size w w' := by
  obtain ⟨p, A, n, c, ds, rfl, hr, hd, ht, hz, hp, hn⟩ := h
  have hp0 : p = false := by
    cases p with
    | false => rfl
    | true =>
      have h0 := valR_nonneg (by decide : (0 : Int) ≤ 65536) hd
      have := hp rfl
      simp [withSign] at hz; omega
  have hv : valR 65536 ds = x := by rw [hz, hp0]; simp [withSign]
  rw [← hv]
  exact rset_any p A n c ds i w hr hd (by omega) hi

theorem patOf_of_nonneg {x : Int} (h : 0 ≤ x) : patOf x = x := by unfold patOf; rw [if_neg (by omega)]
theorem patOf_of_neg {x : Int} (h : x < 0) : patOf x = -1 - x := by unfold patOf; rw [if_pos h]

theorem cell31 {w w' : World} {u : Value} {p : Bool} (h : Below (w.heap.size + 1) (w.alloc (.cells #[.bool p, u] 31)) w') :
    w'.cell? ⟨w.heap.size, 0, none⟩ = some (.bool p) ∧ w'.cell? ⟨w.heap.size, 1, none⟩ = some u ∧ Below (w.heap.size + 1) (w.alloc (.cells #[.bool p, u] 31)) w' :=
  ⟨(box31 h).1, (box31 h).2, h⟩

theorem cell28 {w w' : World} {p : Bool} {u : Value} (h : Below (w.heap.size + 1) (w.alloc (.cells #[.bool p, u] 28)) w') : w'.cell? ⟨w.heap.size, 0, none⟩ = some (.bool p) ∧ w'.cell? ⟨w.heap.size, 1, none⟩ = some u := by
  refine ⟨?_, ?_⟩
  · rw [h.cell (by simp), World.cell?_alloc_at _ _ _ _ (by simp)]; rfl
  · rw [h.cell (by simp), World.cell?_alloc_at _ _ _ _ (by simp)]; rfl

set_option maxRecDepth 100000 in
set_option maxHeartbeats 2000000 in
theorem Bit_any (u : Value) (x i : Int) (L : Nat) (w : World) (h : Ival w u x L) (hL : L ≤ 400000) (hi0 : -9223372036854775808 ≤ i) (hi1 : i ≤ 9223372036854775807) :
    Calls Try.prog 53 #[u, .int .i64 i] w fun e w' => e = .returned (.bool (bitOf x i)) ∧ Below w.heap.size w w' := by
  obtain ⟨p, A, n, c, rfl⟩ := h.form
  have hW := below_alloc w (.cells #[.bool p, .slice A n c] 28)
  by_cases hneg : i < 0
  · have hb : bitOf x i = false := by unfold bitOf; rw [if_pos hneg]
    rw [hb]
    clear h hb
    go_enter Try.func53, Try.ntmps53
    go_wp2_with fail
    go_ret
    exact ⟨rfl, hW⟩
  · obtain ⟨I, rfl⟩ := Int.eq_ofNat_of_zero_le (show 0 ≤ i by omega)
    obtain ⟨k, hk⟩ : ∃ k, I / 32 = k := ⟨_, rfl⟩
    obtain ⟨r, hr⟩ : ∃ r, I % 32 = r := ⟨_, rfl⟩
    have t1 : (I : Int).tdiv 32 = (k : Int) := by rw [Int.tdiv_eq_ediv_of_nonneg (by omega)]; omega
    have t2 : (I : Int).tmod 32 = (r : Int) := by rw [Int.tmod_eq_emod_of_nonneg (by omega)]; omega
    have hr32 : r < 32 := by omega
    have hkb : (k : Int) ≤ 9223372036854775807 := by omega
    have hx : decide (x < 0) = p := by
      obtain ⟨a, ha, ha0, hxa, ha1⟩ := h.parts
      rw [hxa]
      cases p with
      | false => simp [withSign] <;> omega
      | true => have := ha1 rfl; simp [withSign] <;> omega
    have HE := Lib.hid (show bitOf x (I : Int) = (decide (patOf x / 2 ^ I % 2 = 1) != p) by unfold bitOf; rw [if_neg hneg, Int.toNat_natCast, hx])
    have HH := Lib.hid (h.below hW)
    have HK := Lib.hid (And.intro hk hr)
    clear h hx hk hr
    go_enter Try.func53, Try.ntmps53
    go_wp2_with fail
    refine (pattern_any _ x L _ HH.out (by omega)).mono ?_
    rintro e w1 ⟨⟨v, rfl, hv⟩, hb⟩
    obtain ⟨c1, c2⟩ := cell28 (hb.mono (B' := w.heap.size + 1) (by simp))
    obtain ⟨A1, n1, d1, xs, rfl, hrow, hdg, _, hval, hn1⟩ := hv
    obtain ⟨y, ey⟩ : ∃ y, xs.getD k 0 = y := ⟨_, rfl⟩
    have by' := hdg.getD k
    rw [ey, BB_def] at by'
    obtain ⟨by0, by1⟩ := by'
    have hbit := bit_val hdg I
    rw [hval, HK.out.1, HK.out.2, ey] at hbit
    have HBIT := Lib.hid hbit
    have HROW := Lib.hid hrow
    have EY := Lib.hid (show xs.getD ((k : Int)).toNat 0 = y by rw [Int.toNat_natCast]; exact ey)
    have z0 : 0 ≤ y / 2 ^ r := Int.ediv_nonneg by0 (Int.le_of_lt (two_pos r))
    have z1 : y / 2 ^ r ≤ y := Int.ediv_le_self _ by0
    have hand := u32_and_one (y / 2 ^ r) z0 (by omega)
    have hres : ((y / 2 ^ r % 2 == 1) != p) = bitOf x (I : Int) := by
      rw [HE.out, hbit]; congr 1
    have HRES := Lib.hid hres
    clear hbit hrow hval ey hres
    go_wp2_with fail
    refine (at_is A1 n1 d1 xs y k _ HROW.out (by omega) (by omega) EY.out).mono ?_
    rintro e w2 ⟨rfl, rfl⟩
    go_wp2_with fail
    go_ret
    exact ⟨by rw [← HRES.out]; rfl, hW.trans (hb.mono hW.size)⟩

set_option maxRecDepth 100000 in
set_option maxHeartbeats 2000000 in
theorem rBit_any (v : Value) (x i : Int) (L : Nat) (w : World) (h : Rval w v x L) (hL : L ≤ 400000) (hi0 : -9223372036854775808 ≤ i) (hi1 : i ≤ 9223372036854775807) :
    Calls Try.prog 54 #[v, .int .i64 i] w fun e w' => e = .returned (.bool (bitOf x i)) ∧ Below w.heap.size w w' := by
  obtain ⟨p, A, n, c, rfl⟩ := h.form
  have hW := below_alloc w (.cells #[.bool p, .slice A n c] 31)
  by_cases hneg : i < 0
  · have hb : bitOf x i = false := by unfold bitOf; rw [if_pos hneg]
    rw [hb]
    clear h hb
    go_enter Try.func54, Try.ntmps54
    go_wp2_with fail
    go_ret
    exact ⟨rfl, hW⟩
  · obtain ⟨I, rfl⟩ := Int.eq_ofNat_of_zero_le (show 0 ≤ i by omega)
    have hB0 := Below.refl (w.heap.size + 1) (w.alloc (.cells #[.bool p, .slice A n c] 31))
    have HH := Lib.hid h
    cases p with
    | false =>
      have hx : 0 ≤ x := by
        obtain ⟨p', A', n', c', ds, e, hr, hd, ht, hz, hp, hn⟩ := h
        simp at e
        rw [hz, show p' = _ from by first | exact e.1 | exact e.1.symm]
        have := valR_nonneg (by decide : (0 : Int) ≤ 65536) hd
        simp [withSign]; exact this
      have HE := Lib.hid (show decide (x / 2 ^ I % 2 = 1) = bitOf x (I : Int) by unfold bitOf; rw [if_neg hneg, patOf_of_nonneg hx, Int.toNat_natCast, decide_eq_false (show ¬ x < 0 by omega)]; simp)
      clear h
      go_enter Try.func54, Try.ntmps54
      go_wp2_with fail
      refine (rset_val _ x L I _ (HH.out.below hW) hx (by omega) (by omega)).mono ?_
      rintro e w1 ⟨rfl, hb⟩
      rw [HE.out]
      go_wp2
      go_ret
      exact ⟨rfl, hW.trans (hb.mono hW.size)⟩
    | true =>
      have hx : x < 0 := by
        obtain ⟨p', A', n', c', ds, e, hr, hd, ht, hz, hp, hn⟩ := h
        simp at e
        rw [hz, show p' = _ from by first | exact e.1 | exact e.1.symm]
        have := valR_nonneg (by decide : (0 : Int) ≤ 65536) hd
        have := hp (by first | exact e.1 | exact e.1.symm)
        simp [withSign]; omega
      obtain ⟨bb, hbb⟩ : ∃ bb, decide ((-1 - x) / 2 ^ I % 2 = 1) = bb := ⟨_, rfl⟩
      have HN := Lib.hid hbb
      have HE := Lib.hid (show (!bb) = bitOf x (I : Int) by unfold bitOf; rw [if_neg hneg, patOf_of_neg hx, Int.toNat_natCast, decide_eq_true hx, hbb]; cases bb <;> rfl)
      clear hbb
      have hB0 := (Below.refl (w.heap.size + 1) (w.alloc (.cells #[.bool true, .slice A n c] 31))).drew
      clear h
      go_enter Try.func54, Try.ntmps54
      go_wp2_with fail
      go_region_held3 (fun w' => w'.cell? ⟨w.heap.size, 0, none⟩ = some (.bool true) ∧ w'.cell? ⟨w.heap.size, 1, none⟩ = some (.slice A n c) ∧ Below (w.heap.size + 1) (w.alloc (.cells #[.bool true, .slice A n c] 31)) w')
        (first | (with_reducible exact cell31 hB3) | (with_reducible exact cell31 hB2) | (with_reducible exact cell31 hB1) | (with_reducible exact cell31 hB0))
        (first
          | (go_at_call 103; have hK := hB2; clear hK; refine (rset_val _ (-1 - x) _ I _ HV2.out (by omega) (by omega) (by omega)).mono ?_; rintro e w3 ⟨rfl, hb3⟩; have hB3 := Below.trans hB2 (hb3.mono (B' := w.heap.size + 1) (by have := hB2.size; simpa using this)); rw [HN.out])
          | (go_at_call 41; have hK := hB1; clear hK; refine (rsub_any _ _ (-1) x 64 L _ HV1.out (HH.out.below (hW.trans (hB1.mono (by omega)))) (by decide) (by omega)).mono ?_; rintro e w2 ⟨⟨ng2, A2, n2, c2, rfl, hv2⟩, hb2⟩; have hB2 := Below.trans hB1 (hb2.mono (B' := w.heap.size + 1) (by have := hB1.size; simpa using this)); have HV2 := Lib.hid hv2; clear hv2)
          | (go_at_call 18; refine (rnew_any (-1) _ (by decide) (by decide)).mono ?_; rintro e w1 ⟨⟨ng1, A1, n1, c1, rfl, hv1⟩, hb1⟩; have hB1 := Below.trans hB0 (hb1.mono (B' := w.heap.size + 1) (by simp)); have HV1 := Lib.hid hv1; clear hv1))
      go_wp2
      go_ret
      exact ⟨by rw [← HE.out]; rfl, hW.trans (hB3.mono (by omega))⟩

end Go.Proofs.Ytoanomgdkkbbmaa

/- The reference's width and Length. -/
namespace Go.Proofs.Ytoanomgdkkbbmaa
open Go.RowKit LM

theorem top_lenR {xs : List Int} {n : Nat} {t : Int} {b : Nat} (hd : DigR 65536 xs) (hl : xs.length = n) (hn : n ≠ 0) (ht : xs.getD (n - 1) 0 = t) (hb : IsLen t b) (ht0 : t ≠ 0) : IsLen (valR 65536 xs) (16 * (n - 1) + b) := by
  rcases hb with ⟨h, _⟩ | ⟨b1, b2, b3⟩
  · exact absurd h ht0
  have e16 : ∀ k : Nat, (65536 : Int) ^ k = 2 ^ (16 * k) := fun k => by rw [Int.pow_mul]; rfl
  have e := valR_take_succ 65536 xs (n - 1)
  rw [show n - 1 + 1 = n from by omega, List.take_of_length_le (by omega), ht, e16] at e
  have h0 := valR_nonneg (by decide : (0 : Int) ≤ 65536) (hd.take (n - 1))
  have h1 := valR_lt (by decide : (1 : Int) ≤ 65536) (hd.take (n - 1))
  rw [List.length_take, hl, Nat.min_eq_left (by omega), e16] at h1
  generalize valR 65536 (xs.take (n - 1)) = r at *
  have hp := two_pos (16 * (n - 1))
  refine .inr ⟨by omega, ?_, ?_⟩
  · rw [show 16 * (n - 1) + b - 1 = 16 * (n - 1) + (b - 1) from by omega, Int.pow_add, e]
    have := Int.mul_le_mul_of_nonneg_left b2 (Int.le_of_lt hp)
    omega
  · rw [Int.pow_add, e]
    have := Int.mul_le_mul_of_nonneg_left (show t + 1 ≤ 2 ^ b by omega) (Int.le_of_lt hp)
    rw [Int.mul_add, Int.mul_one] at this
    omega

/-- Behind j halvings of t there is y left. -/
def HalfRel (t y : Int) (j : Nat) : Prop := 0 ≤ y ∧ y < 65536 ∧ ∀ b, IsLen y b → IsLen t (j + b) 

theorem IsLen.double {y : Int} {b : Nat} (hy : 0 < y) (h : IsLen (y / 2) b) : IsLen y (b + 1) := by
  rcases h with ⟨h, rfl⟩ | ⟨b1, b2, b3⟩
  · exact .inr ⟨by omega, by simp; omega, by simp; omega⟩
  · have e : (2 : Int) ^ b = 2 * 2 ^ (b - 1) := by rw [Int.mul_comm, ← Int.pow_succ]; congr 1; omega
    have e2 : (2 : Int) ^ (b + 1) = 2 * 2 ^ b := by rw [Int.mul_comm, ← Int.pow_succ]
    refine .inr ⟨by omega, ?_, ?_⟩
    · rw [Nat.add_sub_cancel, e]; omega
    · rw [e2]; omega

set_option maxRecDepth 100000 in
set_option maxHeartbeats 1000000 in
theorem width_any (p : Bool) (A : Option Addr) (n c : Nat) (xs : List Int) (w : World) (h : Row .i64 w A n c xs) (hd : DigR 65536 xs) (ht : Trimmed xs) (hn : n ≤ 1048576) :
    Calls Try.prog 79 #[.agg #[.bool p, .slice A n c]] w fun e w' => (∃ k : Nat, e = .returned (.int .i64 k) ∧ IsLen (valR 65536 xs) k ∧ k ≤ 16 * n) ∧ Below w.heap.size w w' := by
  have hW := below_alloc w (.cells #[.bool p, .slice A n c] 31)
  by_cases hn0 : n = 0
  · have hz : xs = [] := List.eq_nil_of_length_eq_zero (by rw [h.1]; exact hn0)
    have HZ := Lib.hid (show IsLen (valR 65536 xs) 0 from .inl ⟨by rw [hz]; rfl, rfl⟩)
    subst hn0
    clear h hd ht hz
    go_enter Try.func79, Try.ntmps79
    go_wp2_with fail
    go_ret
    exact ⟨⟨0, rfl, HZ.out, Nat.zero_le _⟩, hW⟩
  · obtain ⟨b, o, rfl, hbx, hx⟩ := (h.below hW).2.2 hn0
    obtain ⟨t, et⟩ : ∃ t, xs.getD (n - 1) 0 = t := ⟨_, rfl⟩
    have hx1 : (w.alloc (.cells #[.bool p, .slice (some ⟨b, o, none⟩) n c] 31)).cell? ⟨b, o + (n - 1), none⟩ = some (.int .i64 t) := by rw [← et]; exact hx (n - 1) (by omega)
    have ht0 : t ≠ 0 := by
      rcases ht with h' | h'
      · rw [h.1] at h'; exact absurd h' hn0
      · rw [h.1, et] at h'; exact h'
    have bt := hd.getD (n - 1)
    rw [et] at bt
    obtain ⟨bt0, bt1⟩ := bt
    have HTOP := Lib.hid (fun (k : Nat) (hk : IsLen t k) => top_lenR hd h.1 hn0 et hk ht0)
    have z2 : ((n : Int) == 0) = false := by simp; omega
    have q1 : (0 : Int) ≤ (n : Int) - 1 := by omega
    have q2 : (n : Int) - 1 < (n : Int) := by omega
    have q3 : ((n : Int) - 1).toNat = n - 1 := by omega
    obtain ⟨s, hs⟩ : ∃ s : Nat, 16 * (n - 1) = s := ⟨_, rfl⟩
    have q4 : IntKind.i64.wrap (16 * ((n : Int) - 1)) = (s : Int) := by rw [IntKind.wrap_i64]; omega
    have HS := Lib.hid hs
    have hsb : s ≤ 16777216 := by omega
    clear h hd ht hx et hs
    go_enter Try.func79, Try.ntmps79
    go_wp2_with fail
    go_loopw [3, 4] (fun nv tv wr => ∃ (j : Nat) (y : Int), nv = .int .i64 ((s : Int) + j) ∧ tv = .int .i64 y ∧ j ≤ 16 ∧ y < 2 ^ (16 - j) ∧ Hid (HalfRel t y j) ∧ (w.alloc (.cells #[.bool p, .slice (some ⟨b, o, none⟩) n c] 31)) = wr) (fun _ tv _ => (intOf tv).toNat)
    case atStart => exact ⟨0, t, by simp, rfl, by decide, by simpa using bt1, Lib.hid ⟨bt0, bt1, fun b h => by rw [Nat.zero_add]; exact h⟩, rfl⟩
    case round =>
      obtain ⟨j, y, rfl, rfl, hj, hyj, HH, rfl⟩ := hrel
      obtain ⟨y0, y1, -⟩ := HH.out
      have HYJ := Lib.hid hyj
      clear hyj
      by_cases hy : 0 < y
      · have hj16 : j < 16 := by
          rcases Nat.lt_or_ge j 16 with h' | h'
          · exact h'
          · have e := HYJ.out; rw [show 16 - j = 0 from by omega] at e; simp at e; omega
        have t1 : y.tdiv 2 = y / 2 := Int.tdiv_eq_ediv_of_nonneg y0
        have t2 : IntKind.i64.wrap (y / 2) = y / 2 := by rw [IntKind.wrap_i64]; omega
        have t3 : IntKind.i64.wrap ((s : Int) + j + 1) = (s : Int) + ((j + 1 : Nat) : Int) := by rw [IntKind.wrap_i64]; omega
        go_wp2_with fail
        refine ⟨⟨j + 1, y / 2, rfl, rfl, hj16, ?_, Lib.hid ⟨by omega, by omega, fun bb hbb => ?_⟩, trivial⟩, by simp [intOf]; omega⟩
        · have e : (2 : Int) ^ (16 - j) = 2 * 2 ^ (16 - (j + 1)) := by rw [Int.mul_comm, ← Int.pow_succ]; congr 1; omega
          have := HYJ.out
          rw [e] at this; omega
        · have := HH.out.2.2 (bb + 1) (hbb.double hy)
          rw [show j + 1 + bb = j + (bb + 1) from by omega]; exact this
      · obtain rfl : y = 0 := by omega
        have hlen := HTOP.out j (by have := HH.out.2.2 0 (.inl ⟨rfl, rfl⟩); rw [Nat.add_zero] at this; exact this)
        rw [HS.out] at hlen
        have HLEN := Lib.hid hlen
        clear hlen
        go_wp2_with fail
        go_ret
        exact ⟨⟨s + j, by rw [Int.natCast_add]; rfl, HLEN.out, by have := HS.out; omega⟩, hW⟩

theorem width_val (v : Value) (x : Int) (L : Nat) (w : World) (h : Rval w v x L) (hx : 0 ≤ x) (hL : L ≤ 1048576) :
    Calls Try.prog 79 #[v] w fun e w' => (∃ k : Nat, e = .returned (.int .i64 k) ∧ IsLen x k ∧ k ≤ 16 * L) ∧ Below w.heap.size w w' := by
  obtain ⟨p, A, n, c, ds, rfl, hr, hd, ht, hz, hp, hn⟩ := h
  have hv : valR 65536 ds = x := by
    cases p with
    | false => rw [hz]; simp [withSign]
    | true =>
      have h0 := valR_nonneg (by decide : (0 : Int) ≤ 65536) hd
      have := hp rfl
      simp [withSign] at hz; omega
  refine (width_any p A n c ds w hr hd ht (by omega)).mono ?_
  rintro e w' ⟨⟨k, he, hk, hkn⟩, hb⟩
  exact ⟨⟨k, he, by rw [← hv]; exact hk, by omega⟩, hb⟩

theorem width_abs (v : Value) (x : Int) (L : Nat) (w : World) (h : Rval w v x L) (hL : L ≤ 1048576) :
    Calls Try.prog 79 #[v] w fun e w' => (∃ k : Nat, e = .returned (.int .i64 k) ∧ IsLen (if x < 0 then -x else x) k ∧ k ≤ 16 * L) ∧ Below w.heap.size w w' := by
  obtain ⟨p, A, n, c, ds, rfl, hr, hd, ht, hz, hp, hn⟩ := h
  have h0 := valR_nonneg (by decide : (0 : Int) ≤ 65536) hd
  have hv : valR 65536 ds = if x < 0 then -x else x := by
    cases p with
    | false => simp [withSign] at hz; rw [if_neg (by omega), hz]
    | true => have := hp rfl; simp [withSign] at hz; rw [if_pos (by omega), hz]; omega
  refine (width_any p A n c ds w hr hd ht (by omega)).mono ?_
  rintro e w' ⟨⟨k, he, hk, hkn⟩, hb⟩
  exact ⟨⟨k, he, by rw [← hv]; exact hk, by omega⟩, hb⟩

theorem rval_neg {w : World} {p : Bool} {A : Option Addr} {n c L : Nat} {x : Int} (h : Rval w (.agg #[.bool p, .slice A n c]) x L) : decide (x < 0) = p := by
  obtain ⟨p', A', n', c', ds, e, hr, hd, ht, hz, hp, hn⟩ := h
  simp at e
  obtain ⟨rfl, -⟩ := e
  have h0 := valR_nonneg (by decide : (0 : Int) ≤ 65536) hd
  rw [hz]
  cases p with
  | false => simp [withSign]; omega
  | true => have := hp rfl; simp [withSign]; omega

set_option maxRecDepth 100000 in
set_option maxHeartbeats 2000000 in
theorem rLength_any (v : Value) (x : Int) (L : Nat) (w : World) (h : Rval w v x L) (hL : L ≤ 400000) :
    Calls Try.prog 27 #[v] w fun e w' => (∃ k : Nat, e = .returned (.int .i64 k) ∧ IsLen (patOf x) k ∧ k ≤ 16 * (L + 65)) ∧ Below w.heap.size w w' := by
  obtain ⟨p, A, n, c, rfl⟩ := h.form
  have hW := below_alloc w (.cells #[.bool p, .slice A n c] 31)
  have hp := rval_neg h
  have HH := Lib.hid h
  clear h
  cases p with
  | false =>
    have hx : ¬ x < 0 := by simpa using hp
    have HPAT := Lib.hid (show (if x < 0 then -x else x) = patOf x by unfold patOf; rw [if_neg hx, if_neg hx])
    go_enter Try.func27, Try.ntmps27
    go_wp2_with fail
    refine (width_abs _ x L _ (HH.out.below hW) (by omega)).mono ?_
    rintro e w1 ⟨⟨k, rfl, hk, hkl⟩, hb⟩
    have HK := Lib.hid hk
    clear hk
    go_wp2
    go_ret
    exact ⟨⟨k, rfl, by rw [← HPAT.out]; exact HK.out, by omega⟩, hW.trans (hb.mono hW.size)⟩
  | true =>
    have hx : x < 0 := by simpa using hp
    have HPAT := Lib.hid (show (if x + 1 < 0 then -(x + 1) else x + 1) = patOf x by unfold patOf; rw [if_pos hx]; split <;> omega)
    have hB0 := (Below.refl (w.heap.size + 1) (w.alloc (.cells #[.bool true, .slice A n c] 31))).drew
    go_enter Try.func27, Try.ntmps27
    go_wp2_with fail
    go_region_held3 (fun w' => w'.cell? ⟨w.heap.size, 0, none⟩ = some (.bool true) ∧ w'.cell? ⟨w.heap.size, 1, none⟩ = some (.slice A n c) ∧ Below (w.heap.size + 1) (w.alloc (.cells #[.bool true, .slice A n c] 31)) w')
      (first | (with_reducible exact cell31 hB3) | (with_reducible exact cell31 hB2) | (with_reducible exact cell31 hB1) | (with_reducible exact cell31 hB0))
      (first
        | (go_at_call 79; have hK := hB2; clear hK; refine (width_abs _ (x + 1) _ _ HV2.out (by omega)).mono ?_; rintro e w3 ⟨⟨k, rfl, hk, hkl⟩, hb3⟩; have hB3 := Below.trans hB2 (hb3.mono (B' := w.heap.size + 1) (by have := hB2.size; simpa using this)); have HK := Lib.hid hk; clear hk)
        | (go_at_call 39; have hK := hB1; clear hK; refine (radd_any _ _ x 1 L 64 _ (HH.out.below (hW.trans (hB1.mono (by omega)))) HV1.out (by omega) (by decide)).mono ?_; rintro e w2 ⟨⟨ng2, A2, n2, c2, rfl, hv2⟩, hb2⟩; have hB2 := Below.trans hB1 (hb2.mono (B' := w.heap.size + 1) (by have := hB1.size; simpa using this)); have HV2 := Lib.hid hv2; clear hv2)
        | (go_at_call 18; refine (rnew_any 1 _ (by decide) (by decide)).mono ?_; rintro e w1 ⟨⟨ng1, A1, n1, c1, rfl, hv1⟩, hb1⟩; have hB1 := Below.trans hB0 (hb1.mono (B' := w.heap.size + 1) (by simp)); have HV1 := Lib.hid hv1; clear hv1))
    go_wp2
    go_ret
    exact ⟨⟨k, rfl, by rw [← HPAT.out]; exact HK.out, by omega⟩, hW.trans (hB3.mono (by omega))⟩

end Go.Proofs.Ytoanomgdkkbbmaa

/- The reference's chosen and Bits. -/
namespace Go.Proofs.Ytoanomgdkkbbmaa
open Go.RowKit LM

/-- The bit that an operation has for two bits. -/
def chosenOf (op : Int) (a b : Bool) : Bool := decide (op / 2 ^ (2 * a.toNat + b.toNat) % 2 = 1)

set_option maxHeartbeats 1000000 in
theorem chosen_0 (op : Int) (w : World) (h0 : 0 ≤ op) (h1 : op ≤ 15) :
    Calls Try.prog 100 #[.int .i64 op, .bool false, .bool false] w fun e w' => e = .returned (.bool (chosenOf op false false)) ∧ w = w' := by
  have HR := Lib.hid (show chosenOf op false false = decide (op / 2 ^ 0 % 2 = 1) from rfl)
  go_enter Try.func100, Try.ntmps100
  go_wp2_with fail
  go_loop [0, 8] (fun ov iv => ∃ (j : Nat) (o : Int), iv = .int .i64 j ∧ ov = .int .i64 o ∧ j ≤ 0 ∧ 0 ≤ o ∧ o ≤ 15 ∧ Hid (o / 2 ^ (0 - j) = op / 2 ^ 0)) (fun _ iv => 0 - (intOf iv).toNat)
  case atStart => exact ⟨0, op, rfl, rfl, Nat.zero_le _, h0, h1, Lib.hid rfl⟩
  case round =>
    obtain ⟨j, o, rfl, rfl, hj, o0, o1, HO⟩ := hrel
    by_cases hjn : j < 0
    · have hji : (j : Int) < 0 := by omega
      have q1 : o.tdiv 2 = o / 2 := Int.tdiv_eq_ediv_of_nonneg o0
      have q2 : IntKind.i64.wrap (o / 2) = o / 2 := by rw [IntKind.wrap_i64]; omega
      go_wp2_with fail
      refine ⟨⟨j + 1, o / 2, by go_num, rfl, hjn, by omega, by omega, Lib.hid ?_⟩, by simp [intOf]; omega⟩
      rw [← HO.out, Int.ediv_ediv_of_nonneg (by decide)]
      congr 1
      rw [Int.mul_comm, ← Int.pow_succ]; congr 1; omega
    · obtain rfl : j = 0 := by omega
      have ho : o = op := by have := HO.out; simpa using this
      have q1 : o.tmod 2 = o % 2 := Int.tmod_eq_emod_of_nonneg o0
      have HRES := Lib.hid (show (o % 2 == 1) = chosenOf op false false by rw [HR.out, ho, Int.pow_zero, Int.ediv_one]; rfl)
      clear ho
      go_wp2_with fail
      go_ret
      exact ⟨by rw [← HRES.out]; rfl, rfl⟩

set_option maxHeartbeats 1000000 in
theorem chosen_1 (op : Int) (w : World) (h0 : 0 ≤ op) (h1 : op ≤ 15) :
    Calls Try.prog 100 #[.int .i64 op, .bool false, .bool true] w fun e w' => e = .returned (.bool (chosenOf op false true)) ∧ w = w' := by
  have HR := Lib.hid (show chosenOf op false true = decide (op / 2 ^ 1 % 2 = 1) from rfl)
  go_enter Try.func100, Try.ntmps100
  go_wp2_with fail
  go_loop [0, 8] (fun ov iv => ∃ (j : Nat) (o : Int), iv = .int .i64 j ∧ ov = .int .i64 o ∧ j ≤ 1 ∧ 0 ≤ o ∧ o ≤ 15 ∧ Hid (o / 2 ^ (1 - j) = op / 2 ^ 1)) (fun _ iv => 1 - (intOf iv).toNat)
  case atStart => exact ⟨0, op, rfl, rfl, Nat.zero_le _, h0, h1, Lib.hid rfl⟩
  case round =>
    obtain ⟨j, o, rfl, rfl, hj, o0, o1, HO⟩ := hrel
    by_cases hjn : j < 1
    · have hji : (j : Int) < 1 := by omega
      have q1 : o.tdiv 2 = o / 2 := Int.tdiv_eq_ediv_of_nonneg o0
      have q2 : IntKind.i64.wrap (o / 2) = o / 2 := by rw [IntKind.wrap_i64]; omega
      go_wp2_with fail
      refine ⟨⟨j + 1, o / 2, by go_num, rfl, hjn, by omega, by omega, Lib.hid ?_⟩, by simp [intOf]; omega⟩
      rw [← HO.out, Int.ediv_ediv_of_nonneg (by decide)]
      congr 1
      rw [Int.mul_comm, ← Int.pow_succ]; congr 1; omega
    · obtain rfl : j = 1 := by omega
      have ho := HO.out
      rw [Nat.sub_self, Int.pow_zero, Int.ediv_one] at ho
      have q1 : o.tmod 2 = o % 2 := Int.tmod_eq_emod_of_nonneg o0
      have HRES := Lib.hid (show (o % 2 == 1) = chosenOf op false true by rw [HR.out, ← ho]; rfl)
      clear ho
      go_wp2_with fail
      go_ret
      exact ⟨by rw [← HRES.out]; rfl, rfl⟩

set_option maxHeartbeats 1000000 in
theorem chosen_2 (op : Int) (w : World) (h0 : 0 ≤ op) (h1 : op ≤ 15) :
    Calls Try.prog 100 #[.int .i64 op, .bool true, .bool false] w fun e w' => e = .returned (.bool (chosenOf op true false)) ∧ w = w' := by
  have HR := Lib.hid (show chosenOf op true false = decide (op / 2 ^ 2 % 2 = 1) from rfl)
  go_enter Try.func100, Try.ntmps100
  go_wp2_with fail
  go_loop [0, 8] (fun ov iv => ∃ (j : Nat) (o : Int), iv = .int .i64 j ∧ ov = .int .i64 o ∧ j ≤ 2 ∧ 0 ≤ o ∧ o ≤ 15 ∧ Hid (o / 2 ^ (2 - j) = op / 2 ^ 2)) (fun _ iv => 2 - (intOf iv).toNat)
  case atStart => exact ⟨0, op, rfl, rfl, Nat.zero_le _, h0, h1, Lib.hid rfl⟩
  case round =>
    obtain ⟨j, o, rfl, rfl, hj, o0, o1, HO⟩ := hrel
    by_cases hjn : j < 2
    · have hji : (j : Int) < 2 := by omega
      have q1 : o.tdiv 2 = o / 2 := Int.tdiv_eq_ediv_of_nonneg o0
      have q2 : IntKind.i64.wrap (o / 2) = o / 2 := by rw [IntKind.wrap_i64]; omega
      go_wp2_with fail
      refine ⟨⟨j + 1, o / 2, by go_num, rfl, hjn, by omega, by omega, Lib.hid ?_⟩, by simp [intOf]; omega⟩
      rw [← HO.out, Int.ediv_ediv_of_nonneg (by decide)]
      congr 1
      rw [Int.mul_comm, ← Int.pow_succ]; congr 1; omega
    · obtain rfl : j = 2 := by omega
      have ho := HO.out
      rw [Nat.sub_self, Int.pow_zero, Int.ediv_one] at ho
      have q1 : o.tmod 2 = o % 2 := Int.tmod_eq_emod_of_nonneg o0
      have HRES := Lib.hid (show (o % 2 == 1) = chosenOf op true false by rw [HR.out, ← ho]; rfl)
      clear ho
      go_wp2_with fail
      go_ret
      exact ⟨by rw [← HRES.out]; rfl, rfl⟩

set_option maxHeartbeats 1000000 in
theorem chosen_3 (op : Int) (w : World) (h0 : 0 ≤ op) (h1 : op ≤ 15) :
    Calls Try.prog 100 #[.int .i64 op, .bool true, .bool true] w fun e w' => e = .returned (.bool (chosenOf op true true)) ∧ w = w' := by
  have HR := Lib.hid (show chosenOf op true true = decide (op / 2 ^ 3 % 2 = 1) from rfl)
  go_enter Try.func100, Try.ntmps100
  go_wp2_with fail
  go_loop [0, 8] (fun ov iv => ∃ (j : Nat) (o : Int), iv = .int .i64 j ∧ ov = .int .i64 o ∧ j ≤ 3 ∧ 0 ≤ o ∧ o ≤ 15 ∧ Hid (o / 2 ^ (3 - j) = op / 2 ^ 3)) (fun _ iv => 3 - (intOf iv).toNat)
  case atStart => exact ⟨0, op, rfl, rfl, Nat.zero_le _, h0, h1, Lib.hid rfl⟩
  case round =>
    obtain ⟨j, o, rfl, rfl, hj, o0, o1, HO⟩ := hrel
    by_cases hjn : j < 3
    · have hji : (j : Int) < 3 := by omega
      have q1 : o.tdiv 2 = o / 2 := Int.tdiv_eq_ediv_of_nonneg o0
      have q2 : IntKind.i64.wrap (o / 2) = o / 2 := by rw [IntKind.wrap_i64]; omega
      go_wp2_with fail
      refine ⟨⟨j + 1, o / 2, by go_num, rfl, hjn, by omega, by omega, Lib.hid ?_⟩, by simp [intOf]; omega⟩
      rw [← HO.out, Int.ediv_ediv_of_nonneg (by decide)]
      congr 1
      rw [Int.mul_comm, ← Int.pow_succ]; congr 1; omega
    · obtain rfl : j = 3 := by omega
      have ho := HO.out
      rw [Nat.sub_self, Int.pow_zero, Int.ediv_one] at ho
      have q1 : o.tmod 2 = o % 2 := Int.tmod_eq_emod_of_nonneg o0
      have HRES := Lib.hid (show (o % 2 == 1) = chosenOf op true true by rw [HR.out, ← ho]; rfl)
      clear ho
      go_wp2_with fail
      go_ret
      exact ⟨by rw [← HRES.out]; rfl, rfl⟩

theorem chosen_any (op : Int) (a b : Bool) (w : World) (h0 : 0 ≤ op) (h1 : op ≤ 15) :
    Calls Try.prog 100 #[.int .i64 op, .bool a, .bool b] w fun e w' => e = .returned (.bool (chosenOf op a b)) ∧ w = w' := by
  cases a <;> cases b
  · exact chosen_0 op w h0 h1
  · exact chosen_1 op w h0 h1
  · exact chosen_2 op w h0 h1
  · exact chosen_3 op w h0 h1

/-- Truth values of the call's own. -/
def Bools (w : World) (base : Nat) (v : Value) (bs : List Bool) : Prop := w.ownsRow base 4 1 v bs.length (bs.map Value.bool)

/-- A slice value that reads as a list of truth values. -/
def BRow (w : World) (A : Option Addr) (n c : Nat) (bs : List Bool) : Prop :=
  bs.length = n ∧ n ≤ c ∧ (n ≠ 0 → ∃ b o, A = some ⟨b, o, none⟩ ∧ b < w.heap.size ∧ ∀ i, i < n → w.cell? ⟨b, o + i, none⟩ = some (.bool (bs.getD i false)))

theorem BRow.below {w w' : World} {A : Option Addr} {n c : Nat} {bs : List Bool} (h : BRow w A n c bs) (hb : Below w.heap.size w w') : BRow w' A n c bs := by
  refine ⟨h.1, h.2.1, fun hn => ?_⟩
  obtain ⟨b, o, rfl, hlt, hc⟩ := h.2.2 hn
  exact ⟨b, o, rfl, Nat.lt_of_lt_of_le hlt hb.size, fun i hi => (hb.cell (p := ⟨b, o + i, none⟩) hlt).trans (hc i hi)⟩

theorem BRow.of_own {w : World} {base n : Nat} {v : Value} {bs : List Bool} (h : w.ownsRow base 4 1 v n (bs.map Value.bool)) : ∃ A c, v = .slice A n c ∧ BRow w A n c bs := by
  have hl : bs.length = n := by have := h.1; simpa using this
  have h0 := h
  rcases h.2 with ⟨h', hn0⟩ | ⟨g, cap, cur, h', hb, hg, hnc, hcm, hcs, htake⟩
  · subst hn0
    exact ⟨none, 0, h', hl, Nat.zero_le _, fun h => absurd rfl h⟩
  · subst h'
    refine ⟨_, _, rfl, hl, hnc, fun _ => ⟨g, 0, rfl, (Array.getElem?_eq_some_iff.1 hg).1, fun i hi => ?_⟩⟩
    rw [Nat.zero_add, h0.cellAt i (by omega)]
    simp [List.getD, hl, hi]

end Go.Proofs.Ytoanomgdkkbbmaa
