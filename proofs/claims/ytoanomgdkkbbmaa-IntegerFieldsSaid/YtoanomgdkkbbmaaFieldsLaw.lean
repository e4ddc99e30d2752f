/- IntegerFields: the walk. -/
import Derived.Test.YtoanomgdkkbbmaaBitsLaw
import Derived.Test.YtoanomgdkkbbmaaShiftV
import Derived.Test.YtoanomgdkkbbmaaBadFields
namespace Go.Proofs.Ytoanomgdkkbbmaa
open Go.RowKit LM


def BoxP (w : World) (b : Nat) (v0 v1 : Value) : Prop := b < w.heap.size ∧ w.cell? ⟨b, 0, none⟩ = some v0 ∧ w.cell? ⟨b, 1, none⟩ = some v1
theorem BoxP.below {w w' : World} {b : Nat} {v0 v1 : Value} (h : BoxP w b v0 v1) (hb : Below w.heap.size w w') : BoxP w' b v0 v1 :=
  ⟨Nat.lt_of_lt_of_le h.1 hb.size, (hb.cell (p := ⟨b, 0, none⟩) h.1).trans h.2.1, (hb.cell (p := ⟨b, 1, none⟩) h.1).trans h.2.2⟩
theorem BoxP.new (w : World) (p : Bool) (u : Value) (t : TypeId) : BoxP (w.alloc (.cells #[.bool p, u] t)) w.heap.size (.bool p) u :=
  ⟨by simp, (box_gen (Below.refl _ _)).1, (box_gen (Below.refl _ _)).2⟩
theorem BoxP.new1 (w : World) (p q : Bool) (u v : Value) (t s : TypeId) : BoxP ((w.alloc (.cells #[.bool p, u] t)).alloc (.cells #[.bool q, v] s)) w.heap.size (.bool p) u :=
  ⟨by simp; omega, (boxes_gen (Below.refl _ _)).1, (boxes_gen (Below.refl _ _)).2.1⟩
theorem BoxP.new2 (w : World) (p q : Bool) (u v : Value) (t s : TypeId) : BoxP ((w.alloc (.cells #[.bool p, u] t)).alloc (.cells #[.bool q, v] s)) (w.heap.size + 1) (.bool q) v :=
  ⟨by simp, (boxes_gen (Below.refl _ _)).2.2.1, (boxes_gen (Below.refl _ _)).2.2.2⟩

set_option maxRecDepth 100000 in
set_option maxHeartbeats 80000000 in
theorem fields_any (p q : Bool) (A B : Option Addr) (n c m d : Nat) (xs ys : List Int) (nn sz ps : Int) (w : World) (h : Row .u32 w A n c xs) (hd : Dig xs) (g : Row .u32 w B m d ys) (gd : Dig ys) (hn0 : -9223372036854775808 ≤ nn) (hn1 : nn ≤ 9223372036854775807) :
    Calls Try.prog 8 #[.agg #[.bool p, .slice A n c], .agg #[.bool q, .slice B m d], .int .i64 nn, .int .i64 sz, .int .i64 ps] w fun e w' => e = .returned (.bool true) ∧ Below w.heap.size w w' := by
  have hW := below_two w (.cells #[.bool p, .slice A n c] 24) (.cells #[.bool q, .slice B m d] 24)
  have hs0 : w.heap.size + 2 ≤ ((w.alloc (.cells #[.bool p, .slice A n c] 24)).alloc (.cells #[.bool q, .slice B m d] 24)).heap.size := by simp
  have hW2 : Below (w.heap.size + 2) ((w.alloc (.cells #[.bool p, .slice A n c] 24)).alloc (.cells #[.bool q, .slice B m d] 24)) (((w.alloc (.cells #[.bool p, .slice A n c] 24)).alloc (.cells #[.bool q, .slice B m d] 24)).alloc (.cells #[.bool p, .slice A n c, .bool q, .slice B m d] 24)) := (Below.refl _ _).alloc hs0 _
  have HH := Lib.hid h
  have HD := Lib.hid hd
  have GH := Lib.hid g
  have GD := Lib.hid gd
  clear h hd g gd
  go_enter Try.func8, Try.ntmps8
  go_wp2_with fail
  refine (short_any _ 2 [n, m] 8 _ (lens_two _ (by simp) p q A B n c m d) (by omega)).mono ?_
  rintro e w1 ⟨rfl, hb1⟩
  have hB1 := hW2.trans (hb1.mono (B' := w.heap.size + 2) (by simp))
  have hw1 := hW.trans (hB1.mono (by omega))
  cases ht : tooLong [n, m] 8 with
  | true =>
    go_wp2_with fail
    refine (awake_any _).mono ?_
    rintro e w2 ⟨rfl, hb2⟩
    go_wp2
    go_ret
    exact ⟨rfl, hw1.trans (hb2.mono hw1.size)⟩
  | false =>
    have hn : n ≤ 8 ∧ m ≤ 8 := by simp [tooLong] at ht; omega
    obtain ⟨hn, hm⟩ := hn
    obtain ⟨c1, c2, c3, c4⟩ := boxes_gen hB1
    go_wp2_with fail
    all_goals first
      | (refine (awake_any _).mono ?_; rintro e w2 ⟨rfl, hb2⟩; go_wp2; go_ret; exact ⟨rfl, hw1.trans (hb2.mono hw1.size)⟩)
      | skip
    all_goals
      have h2 : nn ≤ 300 ∨ 65536 < nn := by omega
      refine (of_any p A n c xs _ (HH.out.below hw1) (by omega) HD.out).mono ?_
      rintro e w2 ⟨g1, A1, n1, d1, g2, A2, n2, d2, rfl, hv, hr, hb2⟩
      obtain ⟨x, hx⟩ : ∃ x, withSign p (val xs) = x := ⟨_, rfl⟩
      rw [hx] at hv hr
      have hX := below_two w2 (.cells #[.bool g1, .slice A1 n1 d1] 28) (.cells #[.bool g2, .slice A2 n2 d2] 31)
      have b1 := Lib.hid (BoxP.new1 w2 g1 g2 (.slice A1 n1 d1) (.slice A2 n2 d2) 28 31)
      have b2 := Lib.hid (BoxP.new2 w2 g1 g2 (.slice A1 n1 d1) (.slice A2 n2 d2) 28 31)
      have V1 := Lib.hid ((hv.mono hn).below hX)
      have V2 := Lib.hid ((hr.mono (show 2 * n ≤ 16 by omega)).below hX)
      have hk := hb2.trans (hX.mono hb2.size)
      have hw := hw1.trans (hk.mono hw1.size)
      have c5 := hk.cell (p := ⟨w.heap.size + 1, 0, none⟩) (show w.heap.size + 1 < w1.heap.size from Nat.lt_of_lt_of_le (by omega) (Nat.le_trans hs0 hB1.size))
      have c6 := hk.cell (p := ⟨w.heap.size + 1, 1, none⟩) (show w.heap.size + 1 < w1.heap.size from Nat.lt_of_lt_of_le (by omega) (Nat.le_trans hs0 hB1.size))
      rw [c3] at c5
      rw [c4] at c6
      clear hv hr c1 c2 c3 c4 hx hX hk hb2 hB1 hW hW2 hs0 hb1 hw1
      go_wp2_with fail
      refine (of_any q B m d ys _ (GH.out.below hw) (by omega) GD.out).mono ?_
      rintro e w4 ⟨g3, A3, n3, d3, g4, A4, n4, d4, rfl, hv, hr, hb⟩
      obtain ⟨y, hy⟩ : ∃ y, withSign q (val ys) = y := ⟨_, rfl⟩
      rw [hy] at hv hr
      have hX := below_two w4 (.cells #[.bool g3, .slice A3 n3 d3] 28) (.cells #[.bool g4, .slice A4 n4 d4] 31)
      have hk := hb.trans (hX.mono hb.size)
      replace hw := hw.trans (hk.mono hw.size)
      replace b1 := Lib.hid (b1.out.below hk)
      replace b2 := Lib.hid (b2.out.below hk)
      replace V1 := Lib.hid (V1.out.below hk)
      replace V2 := Lib.hid (V2.out.below hk)
      have b3 := Lib.hid (BoxP.new1 w4 g3 g4 (.slice A3 n3 d3) (.slice A4 n4 d4) 28 31)
      have b4 := Lib.hid (BoxP.new2 w4 g3 g4 (.slice A3 n3 d3) (.slice A4 n4 d4) 28 31)
      have V3 := Lib.hid ((hv.mono hm).below hX)
      have V4 := Lib.hid ((hr.mono (show 2 * m ≤ 16 by omega)).below hX)
      clear hv hr hy hX hk hb c5 c6 HH HD GH GD
      obtain ⟨-, c1a, c1b⟩ := b1.out
      go_wp2_with fail
      refine (Shift_int _ x nn 8 _ V1.out (by decide) hn0 hn1 h2).mono ?_
      rintro e w6 ⟨⟨z5, er5, g5, A5, n5, d5, rfl, hz, hsv⟩, hb⟩
      have HSV := Lib.hid hsv
      clear hsv
      have hX := below_alloc w6 (.cells #[.bool g5, .slice A5 n5 d5] 28)
      have hk := hb.trans (hX.mono hb.size)
      replace hw := hw.trans (hk.mono hw.size)
      replace b1 := Lib.hid (b1.out.below hk)
      replace V1 := Lib.hid (V1.out.below hk)
      replace b2 := Lib.hid (b2.out.below hk)
      replace V2 := Lib.hid (V2.out.below hk)
      replace b3 := Lib.hid (b3.out.below hk)
      replace V3 := Lib.hid (V3.out.below hk)
      replace b4 := Lib.hid (b4.out.below hk)
      replace V4 := Lib.hid (V4.out.below hk)
      have b5 := Lib.hid (BoxP.new w6 g5 (.slice A5 n5 d5) 28)
      have V5 := Lib.hid (hz.below hX)
      clear hz hX hk hb c1a c1b
      obtain ⟨-, c2a, c2b⟩ := b2.out
      go_wp2_with fail
      refine (rShift_int _ x nn 16 _ V2.out (by decide) hn0 hn1 h2).mono ?_
      rintro e w8 ⟨⟨z6, er6, g6, A6, n6, d6, rfl, hz, hsv⟩, hb⟩
      obtain ⟨hz6, rfl⟩ := ShiftV.same HSV.out hsv
      rw [hz6] at hz
      clear hsv HSV hz6
      have hX := below_alloc w8 (.cells #[.bool g6, .slice A6 n6 d6] 31)
      have hk := hb.trans (hX.mono hb.size)
      replace hw := hw.trans (hk.mono hw.size)
      replace b1 := Lib.hid (b1.out.below hk)
      replace V1 := Lib.hid (V1.out.below hk)
      replace b2 := Lib.hid (b2.out.below hk)
      replace V2 := Lib.hid (V2.out.below hk)
      replace b3 := Lib.hid (b3.out.below hk)
      replace V3 := Lib.hid (V3.out.below hk)
      replace b4 := Lib.hid (b4.out.below hk)
      replace V4 := Lib.hid (V4.out.below hk)
      replace b5 := Lib.hid (b5.out.below hk)
      replace V5 := Lib.hid (V5.out.below hk)
      have b6 := Lib.hid (BoxP.new w8 g6 (.slice A6 n6 d6) 31)
      have V6 := Lib.hid (hz.below hX)
      clear hz hX hk hb c2a c2b
      obtain ⟨-, c1a, c1b⟩ := b1.out
      go_wp2_with fail
      refine (FieldE_int _ x sz ps 8 _ V1.out (by decide)).mono ?_
      rintro e w10 ⟨⟨g7, A7, n7, d7, rfl, hz⟩, hb⟩
      obtain ⟨pe, hpe⟩ : ∃ pe, permE sz ps = pe := ⟨_, rfl⟩
      rw [hpe]
      obtain ⟨fv, hfv⟩ : ∃ fv, fieldV x sz ps = fv := ⟨_, rfl⟩
      rw [hfv] at hz
      have HPE := Lib.hid hpe
      have HFV := Lib.hid hfv
      clear hpe hfv
      have hX := below_alloc w10 (.cells #[.bool g7, .slice A7 n7 d7] 28)
      have hk := hb.trans (hX.mono hb.size)
      replace hw := hw.trans (hk.mono hw.size)
      replace b1 := Lib.hid (b1.out.below hk)
      replace V1 := Lib.hid (V1.out.below hk)
      replace b2 := Lib.hid (b2.out.below hk)
      replace V2 := Lib.hid (V2.out.below hk)
      replace b3 := Lib.hid (b3.out.below hk)
      replace V3 := Lib.hid (V3.out.below hk)
      replace b4 := Lib.hid (b4.out.below hk)
      replace V4 := Lib.hid (V4.out.below hk)
      replace b5 := Lib.hid (b5.out.below hk)
      replace V5 := Lib.hid (V5.out.below hk)
      replace b6 := Lib.hid (b6.out.below hk)
      replace V6 := Lib.hid (V6.out.below hk)
      have b7 := Lib.hid (BoxP.new w10 g7 (.slice A7 n7 d7) 28)
      have V7 := Lib.hid (hz.below hX)
      clear hz hX hk hb c1a c1b
      obtain ⟨-, c2a, c2b⟩ := b2.out
      go_wp2_with fail
      refine (rFieldE_int _ x sz ps 16 _ V2.out (by decide)).mono ?_
      rintro e w12 ⟨⟨g8, A8, n8, d8, rfl, hz⟩, hb⟩
      rw [HPE.out]
      rw [HFV.out] at hz
      have hX := below_alloc w12 (.cells #[.bool g8, .slice A8 n8 d8] 31)
      have hk := hb.trans (hX.mono hb.size)
      replace hw := hw.trans (hk.mono hw.size)
      replace b1 := Lib.hid (b1.out.below hk)
      replace V1 := Lib.hid (V1.out.below hk)
      replace b2 := Lib.hid (b2.out.below hk)
      replace V2 := Lib.hid (V2.out.below hk)
      replace b3 := Lib.hid (b3.out.below hk)
      replace V3 := Lib.hid (V3.out.below hk)
      replace b4 := Lib.hid (b4.out.below hk)
      replace V4 := Lib.hid (V4.out.below hk)
      replace b5 := Lib.hid (b5.out.below hk)
      replace V5 := Lib.hid (V5.out.below hk)
      replace b6 := Lib.hid (b6.out.below hk)
      replace V6 := Lib.hid (V6.out.below hk)
      replace b7 := Lib.hid (b7.out.below hk)
      replace V7 := Lib.hid (V7.out.below hk)
      have b8 := Lib.hid (BoxP.new w12 g8 (.slice A8 n8 d8) 31)
      have V8 := Lib.hid (hz.below hX)
      clear hz hX hk hb c2a c2b
      obtain ⟨-, c1a, c1b⟩ := b1.out
      obtain ⟨-, c3a, c3b⟩ := b3.out
      go_wp2_with fail
      refine (DepositE_int _ _ x y sz ps 8 8 _ V1.out V3.out (by decide) (by decide)).mono ?_
      rintro e w14 ⟨⟨g9, A9, n9, d9, rfl, hz⟩, hb⟩
      rw [HPE.out]
      obtain ⟨dv, hdv⟩ : ∃ dv, depV x y sz ps = dv := ⟨_, rfl⟩
      rw [hdv] at hz
      have HDV := Lib.hid hdv
      clear hdv
      have hX := below_alloc w14 (.cells #[.bool g9, .slice A9 n9 d9] 28)
      have hk := hb.trans (hX.mono hb.size)
      replace hw := hw.trans (hk.mono hw.size)
      clear b1 V1
      clear b3 V3
      replace b2 := Lib.hid (b2.out.below hk)
      replace V2 := Lib.hid (V2.out.below hk)
      replace b4 := Lib.hid (b4.out.below hk)
      replace V4 := Lib.hid (V4.out.below hk)
      replace b5 := Lib.hid (b5.out.below hk)
      replace V5 := Lib.hid (V5.out.below hk)
      replace b6 := Lib.hid (b6.out.below hk)
      replace V6 := Lib.hid (V6.out.below hk)
      replace b7 := Lib.hid (b7.out.below hk)
      replace V7 := Lib.hid (V7.out.below hk)
      replace b8 := Lib.hid (b8.out.below hk)
      replace V8 := Lib.hid (V8.out.below hk)
      have b9 := Lib.hid (BoxP.new w14 g9 (.slice A9 n9 d9) 28)
      have V9 := Lib.hid (hz.below hX)
      clear hz hX hk hb c1a c1b c3a c3b
      obtain ⟨-, c2a, c2b⟩ := b2.out
      obtain ⟨-, c4a, c4b⟩ := b4.out
      go_wp2_with fail
      refine (rDepositE_int _ _ x y sz ps 16 16 _ V2.out V4.out (by decide) (by decide)).mono ?_
      rintro e w16 ⟨⟨g10, A10, n10, d10, rfl, hz⟩, hb⟩
      rw [HPE.out]
      rw [HDV.out] at hz
      have hX := below_alloc w16 (.cells #[.bool g10, .slice A10 n10 d10] 31)
      have hk := hb.trans (hX.mono hb.size)
      replace hw := hw.trans (hk.mono hw.size)
      clear b2 V2
      clear b4 V4
      replace b5 := Lib.hid (b5.out.below hk)
      replace V5 := Lib.hid (V5.out.below hk)
      replace b6 := Lib.hid (b6.out.below hk)
      replace V6 := Lib.hid (V6.out.below hk)
      replace b7 := Lib.hid (b7.out.below hk)
      replace V7 := Lib.hid (V7.out.below hk)
      replace b8 := Lib.hid (b8.out.below hk)
      replace V8 := Lib.hid (V8.out.below hk)
      replace b9 := Lib.hid (b9.out.below hk)
      replace V9 := Lib.hid (V9.out.below hk)
      have b10 := Lib.hid (BoxP.new w16 g10 (.slice A10 n10 d10) 31)
      have V10 := Lib.hid (hz.below hX)
      clear hz hX hk hb c2a c2b c4a c4b
      clear HPE HFV HDV
      obtain ⟨-, c5a, c5b⟩ := b5.out
      obtain ⟨-, c6a, c6b⟩ := b6.out
      obtain ⟨-, c7a, c7b⟩ := b7.out
      obtain ⟨-, c8a, c8b⟩ := b8.out
      obtain ⟨-, c9a, c9b⟩ := b9.out
      obtain ⟨-, c10a, c10b⟩ := b10.out
      go_wp2_with fail
      refine (is_yes _ _ _ 200 1000 _ V5.out V6.out (by decide) (by decide)).mono ?_
      rintro e wy5 ⟨rfl, hb⟩
      replace hw := hw.trans (hb.mono hw.size)
      replace b7 := Lib.hid (b7.out.below hb)
      replace V7 := Lib.hid (V7.out.below hb)
      replace b8 := Lib.hid (b8.out.below hb)
      replace V8 := Lib.hid (V8.out.below hb)
      replace b9 := Lib.hid (b9.out.below hb)
      replace V9 := Lib.hid (V9.out.below hb)
      replace b10 := Lib.hid (b10.out.below hb)
      replace V10 := Lib.hid (V10.out.below hb)
      clear hb c5a c5b c6a c6b c7a c7b c8a c8b c9a c9b c10a c10b
      obtain ⟨-, c7a, c7b⟩ := b7.out
      obtain ⟨-, c8a, c8b⟩ := b8.out
      obtain ⟨-, c9a, c9b⟩ := b9.out
      obtain ⟨-, c10a, c10b⟩ := b10.out
      go_wp2_with fail
      refine (is_yes _ _ _ 5000 5000 _ V7.out V8.out (by decide) (by decide)).mono ?_
      rintro e wy7 ⟨rfl, hb⟩
      replace hw := hw.trans (hb.mono hw.size)
      replace b9 := Lib.hid (b9.out.below hb)
      replace V9 := Lib.hid (V9.out.below hb)
      replace b10 := Lib.hid (b10.out.below hb)
      replace V10 := Lib.hid (V10.out.below hb)
      clear hb c7a c7b c8a c8b c9a c9b c10a c10b
      obtain ⟨-, c9a, c9b⟩ := b9.out
      obtain ⟨-, c10a, c10b⟩ := b10.out
      go_wp2_with fail
      refine (is_yes _ _ _ 20000 30000 _ V9.out V10.out (by decide) (by decide)).mono ?_
      rintro e wy9 ⟨rfl, hb⟩
      replace hw := hw.trans (hb.mono hw.size)
      clear hb c9a c9b c10a c10b
      go_wp2_with fail
      refine (awake_any _).mono ?_
      rintro e wz ⟨rfl, hb⟩
      go_wp2
      go_ret
      exact ⟨rfl, hw.trans (hb.mono hw.size)⟩

end Go.Proofs.Ytoanomgdkkbbmaa
