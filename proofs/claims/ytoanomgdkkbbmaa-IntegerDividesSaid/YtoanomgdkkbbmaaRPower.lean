/- The reference's Power. -/
import Derived.Test.YtoanomgdkkbbmaaRShift
import Derived.Test.YtoanomgdkkbbmaaRTimes
import Derived.Test.YtoanomgdkkbbmaaPower3
namespace Go.Proofs.Ytoanomgdkkbbmaa
open Go.RowKit LM

set_option maxHeartbeats 1000000 in
theorem rPower_bad (p : Bool) (A : Option Addr) (m c : Nat) (n : Int) (w : World) (h : n < 0) :
    Calls Try.prog 47 #[.agg #[.bool p, .slice A m c], .int .i64 n] w fun e w' => e = .returned (.tuple #[.agg #[.bool false, .slice none 0 0], .int .i64 1]) ∧ Below w.heap.size w w' := by
  have hW := below_two w (.cells #[.bool p, .slice A m c] 31) (.cells #[.bool false, .slice none 0 0] 31)
  obtain ⟨-, ⟨e1, e2, f1, f2⟩⟩ := sh_hold (Below.refl (w.heap.size + 2) ((w.alloc (.cells #[.bool p, .slice A m c] 31)).alloc (.cells #[.bool false, .slice none 0 0] 31)))
  go_enter Try.func47, Try.ntmps47
  go_wp2
  refine bodyPost_ret (v := .tuple #[.agg #[.bool false, .slice none 0 0], .int .i64 1]) (by simp [results, Try.results47, go_sem, e1, e2]) rfl ⟨rfl, ?_⟩
  exact hW

theorem rbox_new {w w' : World} {p : Bool} {u : Value} {t : TypeId} (h : Below (w.heap.size + 1) (w.alloc (.cells #[.bool p, u] t)) w') : w'.cell? ⟨w.heap.size, 0, none⟩ = some (.bool p) ∧ w'.cell? ⟨w.heap.size, 1, none⟩ = some u := by
  refine ⟨?_, ?_⟩
  · rw [h.cell (by simp), World.cell?_alloc_at _ _ _ _ (by simp)]; rfl
  · rw [h.cell (by simp), World.cell?_alloc_at _ _ _ _ (by simp)]; rfl

/-- The answer of the reference's Power at 0, 1 and -1. -/
theorem small_even {x : Int} (h : x = -1) (n : Nat) (he : n % 2 = 0) : x ^ n = 1 := by
  subst h
  have := neg_pow 1 n
  rw [if_neg (by omega), Int.one_pow] at this
  exact this
theorem small_odd {x : Int} (h : x = -1) (n : Nat) (ho : n % 2 = 1) : x ^ n = x := by
  subst h
  have := neg_pow 1 n
  rw [if_pos ho, Int.one_pow] at this
  exact this

set_option maxRecDepth 100000 in
set_option maxHeartbeats 4000000 in
theorem rPower_small (u : Value) (x : Int) (L n : Nat) (w : World) (h : Rval w u x L) (hL : L ≤ 100) (hn : n ≤ 9223372036854775807) (hx : -1 ≤ x ∧ x ≤ 1) :
    Calls Try.prog 47 #[u, .int .i64 n] w fun e w' => (∃ ng A2 n2 c2, e = .returned (.tuple #[.agg #[.bool ng, .slice A2 n2 c2], .int .i64 0]) ∧ Rval w' (.agg #[.bool ng, .slice A2 n2 c2]) (x ^ n) 100) ∧ Below w.heap.size w w' := by
  obtain ⟨p, A, m, c, rfl⟩ := h.form
  have hW := below_two w (.cells #[.bool p, .slice A m c] 31) (.cells #[.bool false, .slice none 0 0] 31)
  have hs2 : w.heap.size + 2 ≤ ((w.alloc (.cells #[.bool p, .slice A m c] 31)).alloc (.cells #[.bool false, .slice none 0 0] 31)).heap.size := by simp
  have HX := Lib.hid (h.below hW)
  have HS := Lib.hid (fun (w' : World) (hb : Below (w.heap.size + 2) ((w.alloc (.cells #[.bool p, .slice A m c] 31)).alloc (.cells #[.bool false, .slice none 0 0] 31)) w') => sh_hold hb)
  have hB0 := Below.refl (w.heap.size + 2) ((w.alloc (.cells #[.bool p, .slice A m c] 31)).alloc (.cells #[.bool false, .slice none 0 0] 31))
  have z1 : ¬ (n : Int) < 0 := by omega
  clear h
  go_enter Try.func47, Try.ntmps47
  go_wp2_with fail
  refine (rnew_any 1 _ (by decide) (by decide)).mono ?_
  rintro e w1 ⟨⟨g1, A1, n1, d1, rfl, hone⟩, hb1⟩
  have hB1 := hB0.trans (hb1.mono (B' := w.heap.size + 2) hs2)
  have hN := below_alloc w1 (.cells #[.bool g1, .slice A1 n1 d1] 31)
  have hz1 : w.heap.size + 2 ≤ w1.heap.size := Nat.le_trans hs2 hB1.size
  have hB2 := hB1.trans (hN.mono hz1)
  have HONE := Lib.hid (hone.below hN)
  have HX2 := Lib.hid (HX.out.below (hb1.trans (hN.mono hb1.size)))
  have hD2 := Below.refl (w1.heap.size + 1) (w1.alloc (.cells #[.bool g1, .slice A1 n1 d1] 31))
  clear hone hN
  obtain ⟨⟨k0, k1⟩, -⟩ := HS.out _ hB2
  go_wp2_with fail
  refine (width_abs _ x L _ HX2.out (by omega)).mono ?_
  rintro e w2 ⟨⟨d, rfl, hd, hdl⟩, hb2⟩
  have hd2 : (d : Int) ≤ 1 := by
    rcases hd with ⟨h', rfl⟩ | ⟨h1, h2, h3⟩
    · decide
    · by_cases hdd : d ≤ 1
      · omega
      · have := two_mono (show 1 ≤ d - 1 by omega)
        have e2 : (2 : Int) ^ 1 = 2 := by decide
        split at h2 <;> omega
  have hB3 := hB2.trans (hb2.mono (B' := w.heap.size + 2) (by simp; omega))
  have hD3 := hD2.trans (hb2.mono (B' := w1.heap.size + 1) (by simp))
  have HONE3 := Lib.hid (HONE.out.below hb2)
  have HX3 := Lib.hid (HX2.out.below hb2)
  clear hd k0 k1
  by_cases hn0 : n = 0
  · subst hn0
    have z0 : ((((0 : Nat) : Int)) == 0) = true := by decide
    obtain ⟨c1, c2⟩ := rbox_new hD3
    have HV := Lib.hid (show x ^ 0 = 1 from Int.pow_zero x)
    obtain ⟨e1, e2, f1, f2⟩ := (HS.out _ hB3).2
    go_wp2
    refine bodyPost_ret (v := .tuple #[.agg #[.bool g1, .slice A1 n1 d1], .int .i64 0]) (by simp [results, Try.results47, go_sem, e1, e2]) rfl ⟨⟨_, _, _, _, rfl, ?_⟩, ?_⟩
    · rw [HV.out]; exact (HONE3.out.mono (by omega)).stored e1 e2 _ _
    · exact ((hW.trans (hB3.mono (by omega))).setCell (by show _ ≤ _; simp) _).setCell (by show _ ≤ _; simp) _
  · have z0 : ((n : Int) == 0) = false := by simp; omega
    obtain ⟨⟨k0, k1⟩, -⟩ := HS.out _ hB3
    go_wp2_with fail
    refine (rsign_any _ x L _ HX3.out (by omega)).mono ?_
    rintro e w3 ⟨rfl, hb3⟩
    have hB4 := hB3.trans (hb3.mono (B' := w.heap.size + 2) (Nat.le_trans hs2 hB3.size))
    have hz2 : w1.heap.size + 1 ≤ w2.heap.size := by have := hD3.size; simpa using this
    have hD4 := hD3.trans (hb3.mono (B' := w1.heap.size + 1) hz2)
    have HONE4 := Lib.hid (HONE3.out.below hb3)
    have HX4 := Lib.hid (HX3.out.below hb3)
    clear k0 k1
    obtain ⟨sg, hsg⟩ : ∃ sg, cmpI x 0 = sg := ⟨_, rfl⟩
    rw [hsg]
    by_cases hx1 : x = 1
    · have hs0 : (0 : Int) < sg := by rw [← hsg, hx1]; decide
      obtain ⟨c1, c2⟩ := rbox_new hD4
      have HV := Lib.hid (show x ^ n = 1 by rw [hx1, Int.one_pow])
      obtain ⟨e1, e2, f1, f2⟩ := (HS.out _ hB4).2
      go_wp2
      refine bodyPost_ret (v := .tuple #[.agg #[.bool g1, .slice A1 n1 d1], .int .i64 0]) (by simp [results, Try.results47, go_sem, e1, e2]) rfl ⟨⟨_, _, _, _, rfl, ?_⟩, ?_⟩
      · rw [HV.out]; exact (HONE4.out.mono (by omega)).stored e1 e2 _ _
      · exact ((hW.trans (hB4.mono (by omega))).setCell (by show _ ≤ _; simp) _).setCell (by show _ ≤ _; simp) _
    · have hs0 : ¬ (0 : Int) < sg := by
        have : x = 0 ∨ x = -1 := by omega
        rw [← hsg]
        rcases this with rfl | rfl <;> decide
      obtain ⟨⟨k0, k1⟩, -⟩ := HS.out _ hB4
      go_wp2_with fail
      refine (rsign_any _ x L _ HX4.out (by omega)).mono ?_
      rintro e w4 ⟨rfl, hb4⟩
      have hB5 := hB4.trans (hb4.mono (B' := w.heap.size + 2) (Nat.le_trans hs2 hB4.size))
      have hz3 : w1.heap.size + 1 ≤ w3.heap.size := by have := hD4.size; simpa using this
      have hD5 := hD4.trans (hb4.mono (B' := w1.heap.size + 1) hz3)
      have HONE5 := Lib.hid (HONE4.out.below hb4)
      have HX5 := Lib.hid (HX4.out.below hb4)
      clear k0 k1
      rw [hsg]
      obtain ⟨c1, c2⟩ := rbox_new hD5
      obtain ⟨⟨k0, k1⟩, -⟩ := HS.out _ hB5
      by_cases hx0 : x = 0
      · have hs1 : ¬ sg < (0 : Int) := by rw [← hsg, hx0]; decide
        have HV := Lib.hid (show x ^ n = x by rw [hx0]; exact Int.zero_pow hn0)
        clear hx0
        obtain ⟨e1, e2, f1, f2⟩ := (HS.out _ hB5).2
        have HF := Lib.hid (HX5.out.mono (show L ≤ 100 by omega) |>.stored e1 e2 (.bool p) (.slice A m c))
        go_wp2
        refine bodyPost_ret (v := .tuple #[.agg #[.bool p, .slice A m c], .int .i64 0]) (by simp [results, Try.results47, go_sem, e1, e2]) rfl ⟨?_, ?_⟩
        · rw [HV.out]
          have hf := HF.out
          clear HF HX5 HX4 HX3 HX2 HX HS
          cases p
          · exact .inl ⟨_, _, _, rfl, hf⟩
          · exact .inr ⟨_, _, _, rfl, hf⟩
        · exact ((hW.trans (hB5.mono (by omega))).setCell (by show _ ≤ _; simp) _).setCell (by show _ ≤ _; simp) _
      · have hxm : x = -1 := by omega
        have hs1 : sg < (0 : Int) := by rw [← hsg, hxm]; decide
        by_cases hodd : n % 2 = 1
        · have hr1 : ((n : Int).tmod 2 == 0) = false := by rw [Int.tmod_eq_emod_of_nonneg (by omega)]; simp; omega
          have HV := Lib.hid (small_odd hxm n hodd)
          obtain ⟨e1, e2, f1, f2⟩ := (HS.out _ hB5).2
          go_wp2
          refine bodyPost_ret (v := .tuple #[.agg #[.bool p, .slice A m c], .int .i64 0]) (by simp [results, Try.results47, go_sem, e1, e2]) rfl ⟨⟨_, _, _, _, rfl, ?_⟩, ?_⟩
          · rw [HV.out]; exact (HX5.out.mono (by omega)).stored e1 e2 _ _
          · exact ((hW.trans (hB5.mono (by omega))).setCell (by show _ ≤ _; simp) _).setCell (by show _ ≤ _; simp) _
        · have hr1 : ((n : Int).tmod 2 == 0) = true := by rw [Int.tmod_eq_emod_of_nonneg (by omega)]; simp; omega
          have HV := Lib.hid (small_even hxm n (by omega))
          obtain ⟨e1, e2, f1, f2⟩ := (HS.out _ hB5).2
          go_wp2
          refine bodyPost_ret (v := .tuple #[.agg #[.bool g1, .slice A1 n1 d1], .int .i64 0]) (by simp [results, Try.results47, go_sem, e1, e2]) rfl ⟨⟨_, _, _, _, rfl, ?_⟩, ?_⟩
          · rw [HV.out]; exact (HONE5.out.mono (by omega)).stored e1 e2 _ _
          · exact ((hW.trans (hB5.mono (by omega))).setCell (by show _ ≤ _; simp) _).setCell (by show _ ≤ _; simp) _

end Go.Proofs.Ytoanomgdkkbbmaa
