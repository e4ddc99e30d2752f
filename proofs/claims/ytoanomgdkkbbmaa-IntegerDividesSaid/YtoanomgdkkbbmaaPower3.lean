/- Power at 0, 1 and -1, and at an exponent below 0. -/
import Derived.Test.YtoanomgdkkbbmaaPower2
import Derived.Test.YtoanomgdkkbbmaaLowInt
namespace Go.Proofs.Ytoanomgdkkbbmaa
open Go.RowKit LM

set_option maxHeartbeats 1000000 in
theorem Power_bad (p : Bool) (A : Option Addr) (m c : Nat) (n : Int) (w : World) (h : n < 0) :
    Calls Try.prog 46 #[.agg #[.bool p, .slice A m c], .int .i64 n] w fun e w' => e = .returned (.tuple #[.agg #[.bool false, .slice none 0 0], .int .i64 1]) ∧ Below w.heap.size w w' := by
  have hW := below_two w (.cells #[.bool p, .slice A m c] 28) (.cells #[.bool false, .slice none 0 0] 28)
  obtain ⟨e1, e2, f1, f2⟩ := room1 (Below.refl (w.heap.size + 2) ((w.alloc (.cells #[.bool p, .slice A m c] 28)).alloc (.cells #[.bool false, .slice none 0 0] 28)))
  go_enter Try.func46, Try.ntmps46
  go_wp2
  refine bodyPost_ret (v := .tuple #[.agg #[.bool false, .slice none 0 0], .int .i64 1]) (by simp [results, Try.results46, go_sem, e1, e2]) rfl ⟨rfl, ?_⟩
  exact hW

theorem one_pow_small {a : Int} (h0 : 0 ≤ a) (h1 : a ≤ 1) {n : Nat} (hn : n ≠ 0) : a ^ n = a := by
  have : a = 0 ∨ a = 1 := by omega
  rcases this with rfl | rfl
  · exact Int.zero_pow hn
  · exact Int.one_pow

set_option maxRecDepth 100000 in
set_option maxHeartbeats 4000000 in
theorem Power_small (u : Value) (x : Int) (L n : Nat) (w : World) (h : Ival w u x L) (hL : L ≤ 100) (hn : n ≤ 9223372036854775807) (hn0 : n ≠ 0) (hx : -1 ≤ x ∧ x ≤ 1) :
    Calls Try.prog 46 #[u, .int .i64 n] w fun e w' => (∃ ng A2 n2 c2, e = .returned (.tuple #[.agg #[.bool ng, .slice A2 n2 c2], .int .i64 0]) ∧ Ival w' (.agg #[.bool ng, .slice A2 n2 c2]) (x ^ n) 2) ∧ Below w.heap.size w w' := by
  obtain ⟨p, A, m, c, rfl⟩ := h.form
  obtain ⟨a, ha, ha0, rfl, ha1⟩ := h.parts
  have hW := below_two w (.cells #[.bool p, .slice A m c] 28) (.cells #[.bool false, .slice none 0 0] 28)
  have ha2 : a ≤ 1 := by cases p <;> simp [withSign] at hx <;> omega
  have HA := Lib.hid ha
  have hB0 := Below.refl (w.heap.size + 2) ((w.alloc (.cells #[.bool p, .slice A m c] 28)).alloc (.cells #[.bool false, .slice none 0 0] 28))
  have HP := Lib.hid (withSign_pow p a n)
  rw [one_pow_small ha0 ha2 hn0] at HP
  clear h ha ha1 hx
  have z0 : ((n : Int) == 0) = false := by simp; omega
  have z1 : ¬ (n : Int) < 0 := by omega
  have hbit := and_one64 n (by omega)
  go_enter Try.func46, Try.ntmps46
  go_wp2_with fail
  refine (length_num _ a L _ (HA.out.below hW) (by omega)).mono ?_
  rintro e w1 ⟨⟨d, rfl, hd, hdl⟩, rfl⟩
  have hd2 : (d : Int) ≤ 1 := by
    rcases hd with ⟨h', rfl⟩ | ⟨h1, h2, h3⟩
    · decide
    · by_cases hdd : d ≤ 1
      · omega
      · have := two_mono (show 1 ≤ d - 1 by omega)
        have e2 : (2 : Int) ^ 1 = 2 := by decide
        omega
  clear hd
  cases p with
  | false =>
    have HSX := Lib.hid (show withSign false a = withSign false a ^ n by have := HP.out; rw [Bool.false_and] at this; exact this)
    clear HP
    go_wp2_with fail
    refine (low64_num _ a L _ (HA.out.below hW) (by omega) (by omega)).mono ?_
    rintro e w2 ⟨rfl, rfl⟩
    go_wp2_with fail
    refine (words64_any a _ ha0 (by omega)).mono ?_
    rintro e w3 ⟨r, rfl, hr, hb3⟩
    have HR := Lib.hid hr
    have hB3 := hB0.trans (hb3.mono (B' := w.heap.size + 2) (by simp))
    clear hr
    go_wp2_with fail
    refine (signed_out false _ a 2 _ HR.out (by decide)).mono ?_
    rintro e w4 ⟨ng, A2, n2, c2, rfl, hv, hb4⟩
    have hB4 := hB3.trans (hb4.mono (B' := w.heap.size + 2) (by have := hB3.size; simp at this; omega))
    obtain ⟨e1, e2, f1, f2⟩ := room1 hB4
    have HV := Lib.hid hv
    clear hv
    go_wp2
    refine bodyPost_ret (v := .tuple #[.agg #[.bool ng, .slice A2 n2 c2], .int .i64 0]) (by simp [results, Try.results46, go_sem, e1, e2]) rfl ⟨⟨_, _, _, _, rfl, ?_⟩, ?_⟩
    · rw [← HSX.out]; exact HV.out.stored e1 e2 _ _
    · exact ((hW.trans (hB4.mono (by omega))).setCell (by show _ ≤ _; simp) _).setCell (by show _ ≤ _; simp) _
  | true =>
    by_cases hodd : n % 2 = 1
    · have hc1 : (bits BinOp.and IntKind.i64 (n : Int) 1 == 1) = true := by rw [hbit, hodd]; rfl
      have HSX := Lib.hid (show withSign true a = withSign true a ^ n by have := HP.out; rw [hodd] at this; exact this)
      clear hbit HP
      go_wp2_with fail
      refine (low64_num _ a L _ (HA.out.below hW) (by omega) (by omega)).mono ?_
      rintro e w2 ⟨rfl, rfl⟩
      go_wp2_with fail
      refine (words64_any a _ ha0 (by omega)).mono ?_
      rintro e w3 ⟨r, rfl, hr, hb3⟩
      have HR := Lib.hid hr
      have hB3 := hB0.trans (hb3.mono (B' := w.heap.size + 2) (by simp))
      clear hr
      go_wp2_with fail
      refine (signed_out true _ a 2 _ HR.out (by decide)).mono ?_
      rintro e w4 ⟨ng, A2, n2, c2, rfl, hv, hb4⟩
      have hB4 := hB3.trans (hb4.mono (B' := w.heap.size + 2) (by have := hB3.size; simp at this; omega))
      obtain ⟨e1, e2, f1, f2⟩ := room1 hB4
      have HV := Lib.hid hv
      clear hv
      go_wp2
      refine bodyPost_ret (v := .tuple #[.agg #[.bool ng, .slice A2 n2 c2], .int .i64 0]) (by simp [results, Try.results46, go_sem, e1, e2]) rfl ⟨⟨_, _, _, _, rfl, ?_⟩, ?_⟩
      · rw [← HSX.out]; exact HV.out.stored e1 e2 _ _
      · exact ((hW.trans (hB4.mono (by omega))).setCell (by show _ ≤ _; simp) _).setCell (by show _ ≤ _; simp) _
    · have hc1 : (bits BinOp.and IntKind.i64 (n : Int) 1 == 1) = false := by rw [hbit, show n % 2 = 0 from by omega]; rfl
      have HSX := Lib.hid (show withSign false a = withSign true a ^ n by have := HP.out; rw [decide_eq_false hodd, Bool.and_false] at this; exact this)
      clear hbit HP
      go_wp2_with fail
      refine (low64_num _ a L _ (HA.out.below hW) (by omega) (by omega)).mono ?_
      rintro e w2 ⟨rfl, rfl⟩
      go_wp2_with fail
      refine (words64_any a _ ha0 (by omega)).mono ?_
      rintro e w3 ⟨r, rfl, hr, hb3⟩
      have HR := Lib.hid hr
      have hB3 := hB0.trans (hb3.mono (B' := w.heap.size + 2) (by simp))
      clear hr
      go_wp2_with fail
      refine (signed_out false _ a 2 _ HR.out (by decide)).mono ?_
      rintro e w4 ⟨ng, A2, n2, c2, rfl, hv, hb4⟩
      have hB4 := hB3.trans (hb4.mono (B' := w.heap.size + 2) (by have := hB3.size; simp at this; omega))
      obtain ⟨e1, e2, f1, f2⟩ := room1 hB4
      have HV := Lib.hid hv
      clear hv
      go_wp2
      refine bodyPost_ret (v := .tuple #[.agg #[.bool ng, .slice A2 n2 c2], .int .i64 0]) (by simp [results, Try.results46, go_sem, e1, e2]) rfl ⟨⟨_, _, _, _, rfl, ?_⟩, ?_⟩
      · rw [← HSX.out]; exact HV.out.stored e1 e2 _ _
      · exact ((hW.trans (hB4.mono (by omega))).setCell (by show _ ≤ _; simp) _).setCell (by show _ ≤ _; simp) _

end Go.Proofs.Ytoanomgdkkbbmaa
