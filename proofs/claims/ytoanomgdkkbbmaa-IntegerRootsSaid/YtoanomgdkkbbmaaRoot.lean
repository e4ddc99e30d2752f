/- root, Root. -/
import Derived.Test.YtoanomgdkkbbmaaDivAny
import Derived.Test.YtoanomgdkkbbmaaNewton
import Derived.Deep.LoopGhost
namespace Go.Proofs.Ytoanomgdkkbbmaa
open Go.RowKit LM

/-- The room that a number takes follows from its value. -/
theorem Num.cut {w : World} {u : Value} {z : Int} {L K : Nat} (h : Num w u z L) (hz : z < BB ^ K) : Num w u z K := by
  obtain ⟨A, n, c, xs, rfl, hr, hd, ht, rfl, hn⟩ := h
  refine ⟨A, n, c, xs, rfl, hr, hd, ht, rfl, ?_⟩
  by_cases h0 : n = 0
  · omega
  · have h1 := val_ge hd ht (by rw [hr.1]; exact h0)
    by_cases h2 : n ≤ K
    · exact h2
    · exfalso
      have h3 : BB ^ K ≤ BB ^ (xs.length - 1) := pow_le (by rw [hr.1]; omega)
      omega

set_option maxRecDepth 100000 in
set_option maxHeartbeats 1000000 in
theorem root_num (u : Value) (z : Int) (L : Nat) (w : World) (h : Num w u z L) (hL : L ≤ 30000) :
    Calls Try.prog 94 #[u] w fun e w' => (∃ v r, e = .returned v ∧ Num w' v r (L + 1) ∧ IsRoot z r) ∧ Below w.heap.size w w' := by
  have hz0 := h.nonneg
  obtain ⟨A, n, c, xs, rfl, hr, hd, ht, hv, hn⟩ := id h
  have HH := Lib.hid h
  by_cases hn0 : n = 0
  · have hz : z = 0 := by rw [← hv]; exact (trimmed_zero hd ht).2 (List.eq_nil_of_length_eq_zero (by rw [hr.1]; exact hn0))
    have HZ := Lib.hid hz
    subst hn0
    clear h hr hd ht hv hz
    go_enter Try.func94, Try.ntmps94
    go_wp2_with fail
    go_ret
    refine ⟨⟨_, 0, rfl, ⟨none, 0, 0, [], rfl, Row.nil_, Dig.nil, .inl rfl, rfl, Nat.zero_le _⟩, ?_⟩, Below.refl _ _⟩
    rw [HZ.out]; exact ⟨by omega, by omega, by omega⟩
  · have hL1 : 1 ≤ L := by omega
    have h1 : ((n : Int) == 0) = false := by simp; omega
    have hzp : z ≠ 0 := by
      intro e
      rw [← hv] at e
      have := (trimmed_zero hd ht).1 e
      rw [this] at hr
      have := hr.1
      simp at this; omega
    clear h hr hd ht hv
    go_enter Try.func94, Try.ntmps94
    go_wp2_with fail
    have hA := below_alloc w (.cells #[.int .u32 1] 99)
    refine (length_num _ z L _ (HH.out.below hA) (by omega)).mono ?_
    rintro e w1 ⟨⟨k, rfl, hlen, hk⟩, rfl⟩
    obtain ⟨m, hm⟩ : ∃ m, (k + 1) / 2 = m := ⟨_, rfl⟩
    have t1 : ((k : Int) + 1).tdiv 2 = (m : Int) := by rw [Int.tdiv_eq_ediv_of_nonneg (by omega)]; omega
    have t2 : ((k : Int) + 1) / 2 = (m : Int) := by omega
    have hzk : z < 2 ^ k := by
      rcases hlen with h | h
      · exact absurd h.1 hzp
      · exact h.2.2
    have hst := newton_start hzk
    rw [hm] at hst
    have hm1 : m ≤ 16 * L := by omega
    have hX0 : (2 : Int) ^ m < BB ^ L := by
      rw [BB_two]
      have h1 := two_mono (show m + 1 ≤ 32 * L by omega)
      have h2 := two_pos m
      rw [Int.pow_succ] at h1
      omega
    have h1row : Num (w.alloc (.cells #[.int .u32 1] 99)) (.slice (some ⟨w.heap.size, 0, none⟩) 1 1) 1 1 :=
      ⟨_, _, _, [1], rfl, row_one w 99, Dig.one (by decide) (by decide), .inr (by simp), by simp [val], Nat.le_refl _⟩
    have H1 := Lib.hid h1row
    have HX0 := Lib.hid hX0
    have HST := Lib.hid hst
    clear hm hlen hzk h1row hX0 hst
    go_wp2_with fail
    refine (up_num _ 1 1 m _ H1.out (by omega) (by omega)).mono ?_
    rintro e w2 ⟨v2, rfl, hv2, hb2⟩
    have hB2 := hA.trans (hb2.mono hA.size)
    rw [Int.one_mul] at hv2
    have HV2 := Lib.hid (hv2.cut HX0.out)
    clear hv2
    go_wp2_with fail
    go_loopg [3] (2 ^ m : Int).toNat (fun g xv wr => ∃ x : Int, g = x.toNat ∧ Num wr xv x L ∧ 0 < x ∧ Hid (z < (x + 1) * (x + 1)) ∧ Hid (x ≤ 2 ^ m) ∧ Below w.heap.size w wr)
    case atStart => exact ⟨_, rfl, HV2.out, two_pos m, HST, Lib.hid (Int.le_refl _), hB2⟩
    case round =>
      obtain ⟨x, rfl, hnx, hx0, hzx, hxm, hbw⟩ := hrel
      have HNX := Lib.hid hnx
      have HZ := HH.out.below hbw
      have HZN := Lib.hid HZ
      have hq0 : 0 ≤ z / x := Int.ediv_nonneg hz0 (by omega)
      clear hnx HZ
      go_wp2_with fail
      refine (divide_any _ _ z x L L _ HZN.out HNX.out (by omega) (by omega) (by omega)).mono ?_
      rintro e w3 ⟨A1, n1, c1, B1, m1, d1, rfl, hq, hr, hb3⟩
      have HQ := Lib.hid hq
      have HNX3 := Lib.hid (HNX.out.below hb3)
      clear hq hr
      go_wp2_with fail
      refine (add_num _ _ x (z / x) L (L + 2) _ HNX3.out HQ.out (by omega) (by omega)).mono ?_
      rintro e w4 ⟨v4, rfl, hv4, hb4⟩
      have HV4 := Lib.hid hv4
      have HNX4 := Lib.hid (HNX3.out.below hb4)
      clear hv4
      go_wp2_with fail
      refine (down_num _ _ _ 1 _ HV4.out (by omega) (by omega)).mono ?_
      rintro e w5 ⟨v5, rfl, hv5, hb5⟩
      obtain ⟨lost, hlost⟩ : ∃ lost, decide ((x + z / x) % 2 ^ 1 ≠ 0) = lost := ⟨_, rfl⟩
      rw [hlost]
      clear hlost
      obtain ⟨y, hy⟩ : ∃ y, (x + z / x) / 2 = y := ⟨_, rfl⟩
      have e2 : (2 : Int) ^ 1 = 2 := by decide
      rw [e2, hy] at hv5
      have HY := Lib.hid hy
      have HV5 := Lib.hid hv5
      have HNX5 := Lib.hid (HNX4.out.below hb5)
      have hbw5 := hbw.trans ((hb3.trans ((hb4.trans (hb5.mono hb4.size)).mono hb3.size)).mono hbw.size)
      clear hv5 hy e2
      go_wp2_with fail
      refine (compare_num _ _ y x (max L (L + 2) + 1) L _ HV5.out HNX5.out (by omega) (by omega)).mono ?_
      rintro e w6 ⟨rfl, q, rfl⟩
      by_cases hge : x ≤ y
      · have hc : 0 ≤ cmpI y x := by rcases Int.lt_or_eq_of_le hge with h | h; rw [cmpI_gt h]; decide; rw [cmpI_eq h.symm]; decide
        have hdone := newton_done hz0 hx0 hzx.out (by rw [HY.out]; exact hge)
        have HD := Lib.hid hdone
        clear hdone hge
        go_wp2_with fail
        go_ret
        exact ⟨⟨_, x, rfl, (HNX5.out.mono (by omega)).below (below_drewN (Below.refl _ _) q), HD.out⟩, below_drewN hbw5 q⟩
      · have hc : ¬ 0 ≤ cmpI y x := by rw [cmpI_lt (by omega)]; decide
        have hlow := newton_low (y := y) hz0 hx0 HY.out.symm
        have hy0 : 0 < y := by
          by_cases h0 : 0 < y
          · exact h0
          · exfalso
            have h1 : 0 ≤ (x + z / x) / 2 := by omega
            rw [HY.out] at h1
            obtain rfl : y = 0 := by omega
            simp at hlow
            omega
        have hyX : y < BB ^ L := by have := hxm.out; have := HX0.out; omega
        have HL := Lib.hid hlow
        have HV6 := Lib.hid ((HV5.out.cut hyX).below (below_drewN (Below.refl _ _) q))
        have hyx : y < x := by omega
        clear hlow hyX hge
        go_wp2_with fail
        go_roundg y.toNat
        case rel => exact ⟨y, rfl, HV6.out, hy0, HL, Lib.hid (by have := hxm.out; omega), below_drewN hbw5 q⟩
        case measure => omega

/-- What Root comes to. -/
def RootOf (x r : Int) : Prop := (x < 0 ∧ r = 0) ∨ (0 ≤ x ∧ IsRoot x r)
def rootE (x : Int) : Int := if x < 0 then 1 else 0

theorem RootOf.same {x r s : Int} (h : RootOf x r) (g : RootOf x s) : r = s := by
  rcases h with ⟨h1, h2⟩ | ⟨h1, h2⟩ <;> rcases g with ⟨g1, g2⟩ | ⟨g1, g2⟩
  · omega
  · omega
  · omega
  · exact h2.same g2

set_option maxHeartbeats 1000000 in
theorem Root_int (u : Value) (x : Int) (L : Nat) (w : World) (h : Ival w u x L) (hL : L ≤ 30000) :
    Calls Try.prog 48 #[u] w fun e w' => (∃ ng A2 n2 c2 r, e = .returned (.tuple #[.agg #[.bool ng, .slice A2 n2 c2], .int .i64 (rootE x)]) ∧ Ival w' (.agg #[.bool ng, .slice A2 n2 c2]) r (L + 1) ∧ RootOf x r) ∧ Below w.heap.size w w' := by
  obtain ⟨p, A, m, c, rfl⟩ := h.form
  obtain ⟨a, ha, ha0, rfl, ha1⟩ := h.parts
  have hW := below_two w (.cells #[.bool p, .slice A m c] 28) (.cells #[.bool false, .slice none 0 0] 28)
  cases p with
  | true =>
    have hx : withSign true a < 0 := by have := ha1 rfl; simp [withSign]; omega
    have hE : rootE (withSign true a) = 1 := if_pos hx
    rw [hE]
    have HX := Lib.hid hx
    clear hx hE h ha ha1
    obtain ⟨e1, e2, f1, f2⟩ := room1 (Below.refl (w.heap.size + 2) ((w.alloc (.cells #[.bool true, .slice A m c] 28)).alloc (.cells #[.bool false, .slice none 0 0] 28)))
    go_enter Try.func48, Try.ntmps48
    go_wp2
    refine bodyPost_ret (v := .tuple #[.agg #[.bool false, .slice none 0 0], .int .i64 1]) (by simp [results, Try.results48, go_sem, e1, e2]) rfl ⟨⟨_, _, _, _, 0, rfl, Ival.nought, .inl ⟨HX.out, rfl⟩⟩, ?_⟩
    exact hW
  | false =>
    have hx : withSign false a = a := rfl
    have hE : rootE a = 0 := if_neg (by omega)
    rw [hx, hE]
    have HA := Lib.hid ha
    have hB0 := Below.refl (w.heap.size + 2) ((w.alloc (.cells #[.bool false, .slice A m c] 28)).alloc (.cells #[.bool false, .slice none 0 0] 28))
    clear hx hE h ha ha1
    go_enter Try.func48, Try.ntmps48
    go_wp2_with fail
    refine (root_num _ a L _ (HA.out.below hW) (by omega)).mono ?_
    rintro e w3 ⟨⟨v, r, rfl, hv, hroot⟩, hb3⟩
    have HR := Lib.hid hv
    have HRT := Lib.hid hroot
    have hB3 := hB0.trans (hb3.mono (B' := w.heap.size + 2) (by simp))
    clear hv hroot
    go_wp2_with fail
    refine (signed_out false _ r (L + 1) _ HR.out (by omega)).mono ?_
    rintro e w4 ⟨ng, A2, n2, c2, rfl, hv, hb4⟩
    have hB4 := hB3.trans (hb4.mono (B' := w.heap.size + 2) (by have := hB3.size; simp at this; omega))
    obtain ⟨e1, e2, f1, f2⟩ := room1 hB4
    have HV := Lib.hid (show Ival w4 (.agg #[.bool ng, .slice A2 n2 c2]) r (L + 1) from hv)
    clear hv
    go_wp2
    refine bodyPost_ret (v := .tuple #[.agg #[.bool ng, .slice A2 n2 c2], .int .i64 0]) (by simp [results, Try.results48, go_sem, e1, e2]) rfl ⟨⟨_, _, _, _, r, rfl, HV.out.stored e1 e2 _ _, .inr ⟨ha0, HRT.out⟩⟩, ?_⟩
    exact ((hW.trans (hB4.mono (by omega))).setCell (by show _ ≤ _; simp) _).setCell (by show _ ≤ _; simp) _

theorem rRoot_int (u : Value) (x : Int) (L : Nat) (w : World) (h : Rval w u x L) (hL : L ≤ 16) :
    Calls Try.prog 49 #[u] w fun e w' => (∃ ng A2 n2 c2 r, e = .returned (.tuple #[.agg #[.bool ng, .slice A2 n2 c2], .int .i64 (rootE x)]) ∧ Rval w' (.agg #[.bool ng, .slice A2 n2 c2]) r 1000 ∧ RootOf x r) ∧ Below w.heap.size w w' := by
  by_cases hx : x < 0
  · have hE : rootE x = 1 := if_pos hx
    rw [hE]
    refine (rRoot_bad u x L w h (by omega) hx).mono ?_
    rintro e w' ⟨rfl, hb⟩
    exact ⟨⟨_, _, _, _, 0, rfl, Rval.nought, .inl ⟨hx, rfl⟩⟩, hb⟩
  · have hE : rootE x = 0 := if_neg hx
    rw [hE]
    refine (rRoot_val u x L w h hL (by omega)).mono ?_
    rintro e w' ⟨⟨ng, A2, n2, c2, r, rfl, hv, hr⟩, hb⟩
    exact ⟨⟨_, _, _, _, r, rfl, hv, .inr ⟨by omega, hr⟩⟩, hb⟩

end Go.Proofs.Ytoanomgdkkbbmaa
