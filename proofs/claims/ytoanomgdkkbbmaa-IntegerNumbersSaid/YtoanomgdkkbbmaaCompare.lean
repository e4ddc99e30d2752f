/- at, compare. -/
import Derived.Test.YtoanomgdkkbbmaaTrim
namespace Go.Proofs.Ytoanomgdkkbbmaa
open Go.RowKit LM

theorem at_any (A : Option Addr) (n c : Nat) (xs : List Int) (i : Int) (w : World) (h : Row .u32 w A n c xs) (_hn : n ≤ 1073741824) (hi : 0 ≤ i) :
    Calls Try.prog 102 #[.slice A n c, .int .i64 i] w fun e w' => e = .returned (.int .u32 (xs.getD i.toNat 0)) ∧ w = w' := by
  obtain ⟨j, rfl⟩ := Int.eq_ofNat_of_zero_le hi
  obtain ⟨hl, hc, hcell⟩ := h
  rw [Int.toNat_natCast]
  by_cases hj : j < n
  · obtain ⟨b, o, rfl, hb, hx⟩ := hcell (by omega)
    have hx1 := hx j hj
    clear hx hcell hl
    go_enter Try.func102, Try.ntmps102
    go_wp2
    go_ret
    exact ⟨rfl, rfl⟩
  · clear hcell
    have H0 := Lib.hid (getD_out xs j (by omega))
    clear hl
    go_enter Try.func102, Try.ntmps102
    go_wp2
    go_ret
    exact ⟨by rw [H0.out]; rfl, rfl⟩

theorem at_is (A : Option Addr) (n c : Nat) (xs : List Int) (y i : Int) (w : World) (h : Row .u32 w A n c xs) (hn : n ≤ 1073741824) (hi : 0 ≤ i) (hy : xs.getD i.toNat 0 = y) :
    Calls Try.prog 102 #[.slice A n c, .int .i64 i] w fun e w' => e = .returned (.int .u32 y) ∧ w = w' := by
  subst hy
  exact at_any A n c xs i w h hn hi

theorem cmpInt_any (x y : Int) (w : World) : Calls Try.prog 120 #[.int .i64 x, .int .i64 y] w fun e w' => e = .returned (.int .i64 (cmpI x y)) ∧ w = w' := by
  rcases Int.lt_trichotomy x y with h | h | h
  · have H := Lib.hid (cmpI_lt h)
    have h1 : (x == y) = false := by simp; omega
    go_enter Try.func120, Try.ntmps120
    go_wp2
    go_ret
    exact ⟨by rw [H.out]; rfl, rfl⟩
  · subst h
    have H := Lib.hid (cmpI_eq (rfl : x = x))
    go_enter Try.func120, Try.ntmps120
    go_wp2
    go_ret
    exact ⟨by rw [H.out]; rfl, rfl⟩
  · have H := Lib.hid (cmpI_gt h)
    have h1 : (x == y) = false := by simp; omega
    go_enter Try.func120, Try.ntmps120
    go_wp2
    go_ret
    exact ⟨by rw [H.out]; rfl, rfl⟩

theorem cmpWord_any (x y : Int) (w : World) : Calls Try.prog 121 #[.int .u32 x, .int .u32 y] w fun e w' => e = .returned (.int .i64 (cmpI x y)) ∧ w = w' := by
  rcases Int.lt_trichotomy x y with h | h | h
  · have H := Lib.hid (cmpI_lt h)
    have h1 : (x == y) = false := by simp; omega
    go_enter Try.func121, Try.ntmps121
    go_wp2
    go_ret
    exact ⟨by rw [H.out]; rfl, rfl⟩
  · subst h
    have H := Lib.hid (cmpI_eq (rfl : x = x))
    go_enter Try.func121, Try.ntmps121
    go_wp2
    go_ret
    exact ⟨by rw [H.out]; rfl, rfl⟩
  · have H := Lib.hid (cmpI_gt h)
    have h1 : (x == y) = false := by simp; omega
    go_enter Try.func121, Try.ntmps121
    go_wp2
    go_ret
    exact ⟨by rw [H.out]; rfl, rfl⟩

theorem compare_any (A B : Option Addr) (n m c d : Nat) (xs ys : List Int) (w : World) (h : Row .u32 w A n c xs) (g : Row .u32 w B m d ys) (hn : n ≤ 1073741824) (hm : m ≤ 1073741824)
    (hdx : Dig xs) (hdy : Dig ys) (htx : Trimmed xs) (hty : Trimmed ys) :
    Calls Try.prog 84 #[.slice A n c, .slice B m d] w fun e w' => e = .returned (.int .i64 (cmpI (val xs) (val ys))) ∧ ∃ q, w' = w.drewN q := by
  obtain ⟨hl, hc, hcell⟩ := h
  obtain ⟨gl, gc, gcell⟩ := g
  by_cases hnm : n = m
  · subst hnm
    go_enter Try.func84, Try.ntmps84
    go_wp2
    go_loopw [5] (fun i wr => ∃ k q : Nat, k ≤ n ∧ i = .int .i64 ((k : Int) - 1) ∧ xs.drop k = ys.drop k ∧ wr = w.drewN q) (fun i _ => (intOf i + 1).toNat)
    case atStart => exact ⟨n, 0, Nat.le_refl _, rfl, by rw [List.drop_of_length_le (by omega), List.drop_of_length_le (by omega)], rfl⟩
    case round =>
      obtain ⟨k, q, hk, rfl, hv, rfl⟩ := hrel
      have Hv := Lib.hid hv
      clear hv
      by_cases h0 : k = 0
      · subst h0
        have HE := Lib.hid (cmpI_eq (congrArg val (by simpa using Hv.out)))
        go_wp2
        go_ret
        exact ⟨by rw [HE.out]; rfl, q, rfl⟩
      · have hn0 : n ≠ 0 := by omega
        obtain ⟨b, o, rfl, hb, hx⟩ := hcell hn0
        obtain ⟨b', o', rfl, hb', hy⟩ := gcell hn0
        have hp : (0 : Int) < (k : Int) := by omega
        have hx1 : w.cell? _ = _ := hx (k - 1) (by omega)
        have hy1 : w.cell? _ = _ := hy (k - 1) (by omega)
        clear hx hy hcell gcell
        have HL := Lib.hid hl
        have GL := Lib.hid gl
        clear hl gl
        have q1 : (0 : Int) ≤ (k : Int) - 1 := by omega
        have q2 : (k : Int) - 1 < (n : Int) := by omega
        have q3 : ((k : Int) - 1).toNat = k - 1 := by omega
        go_wp2
        go_quiet (fail)
        go_wp2
        · go_quiet ((go_at_call 121; exact quiet_same1 (cmpWord_any _ _)))
          go_wp2
          go_ret
          have hne : xs.getD (k - 1) 0 ≠ ys.getD (k - 1) 0 := bne_iff_ne.1 (by assumption : (xs[k - 1]?.getD 0 != ys[k - 1]?.getD 0) = true)
          refine ⟨?_, _, drewN_3 _ _ _ _⟩
          show Ending.returned (.int .i64 (cmpI (xs.getD (k - 1) 0) (ys.getD (k - 1) 0))) = _
          have e1 : k - 1 + 1 = k := by omega
          have hl := HL.out
          have gl := GL.out
          rcases Int.lt_or_gt_of_ne hne with hlt | hlt
          · rw [cmpI_lt hlt, cmpI_lt (val_lt_at hdx hdy (k - 1) (by omega) (by omega) (by rw [e1]; exact Hv.out) hlt)]
          · rw [cmpI_gt hlt, cmpI_gt (val_lt_at hdy hdx (k - 1) (by omega) (by omega) (by rw [e1]; exact Hv.out.symm) hlt)]
        · have heq : xs.getD (k - 1) 0 = ys.getD (k - 1) 0 := by simpa using (by assumption : (xs[k - 1]?.getD 0 != ys[k - 1]?.getD 0) = false)
          have hl := HL.out
          have gl := GL.out
          refine ⟨⟨k - 1, _, by omega, by go_num, ?_, rfl⟩, by simp [intOf]; omega⟩
          have e1 : k - 1 + 1 = k := by omega
          have ha := drop_cons xs (k - 1) (by omega)
          have hb := drop_cons ys (k - 1) (by omega)
          rw [ha, hb, heq, e1, Hv.out]
  · have h1 : (n == m) = false := by simp; omega
    have h2 : ((n : Int) == m) = false := by simp; omega
    go_enter Try.func84, Try.ntmps84
    go_wp2_with fail
    refine (cmpInt_any _ _ _).mono ?_
    rintro e w' ⟨rfl, rfl⟩
    go_wp2
    go_ret
    refine ⟨?_, 0, rfl⟩
    show Ending.returned (.int .i64 (cmpI (n : Int) (m : Int))) = _
    rcases Nat.lt_or_gt_of_ne hnm with hlt | hlt
    · rw [cmpI_lt (by omega), cmpI_lt (val_lt_of_length hdx hdy hty (by omega))]
    · rw [cmpI_gt (by omega), cmpI_gt (val_lt_of_length hdy hdx htx (by omega))]

end Go.Proofs.Ytoanomgdkkbbmaa
