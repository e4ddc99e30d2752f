/- IntegerPowers: the walk. -/
import Derived.Test.YtoanomgdkkbbmaaRoot
import Derived.Test.YtoanomgdkkbbmaaLawKit
namespace Go.Proofs.Ytoanomgdkkbbmaa
open Go.RowKit LM

/-- A number whose absolute value has at most one binary digit. -/
theorem small_len {x : Int} {k : Nat} (h : IsLen (patOf (if x < 0 then -x else x)) k) (hk : k ≤ 1) : -1 ≤ x ∧ x ≤ 1 := by
  have e : patOf (if x < 0 then -x else x) = (if x < 0 then -x else x) := by
    have hp : ∀ z : Int, 0 ≤ z → patOf z = z := fun z hz => by unfold patOf; rw [if_neg (by omega)]
    exact hp _ (by split <;> omega)
  rw [e] at h
  have h2 : (if x < 0 then -x else x) < 2 := by
    rcases h with ⟨h1, _⟩ | ⟨_, _, h1⟩
    · omega
    · have := two_mono hk
      have e1 : (2 : Int) ^ 1 = 2 := by decide
      omega
  split at h2 <;> omega

set_option maxRecDepth 100000 in
set_option maxHeartbeats 80000000 in
theorem powers_any (p q : Bool) (A B : Option Addr) (n c m d : Nat) (xs ys : List Int) (nn : Int) (w : World) (h : Row .u32 w A n c xs) (hd : Dig xs) (g : Row .u32 w B m d ys) (gd : Dig ys) (hn1 : nn ≤ 9223372036854775807) :
    Calls Try.prog 5 #[.agg #[.bool p, .slice A n c], .int .i64 nn, .agg #[.bool q, .slice B m d]] w fun e w' => e = .returned (.bool true) ∧ Below w.heap.size w w' := by
  have hW := below_two w (.cells #[.bool p, .slice A n c] 24) (.cells #[.bool q, .slice B m d] 24)
  have HH := Lib.hid h
  have HD := Lib.hid hd
  have GH := Lib.hid g
  have GD := Lib.hid gd
  clear h hd g gd
  have bx := Lib.hid (Bx.new1 w p q (.slice A n c) (.slice B m d) 24 24)
  have by_ := Lib.hid (Bx.new2 w p q (.slice A n c) (.slice B m d) 24 24)
  go_enter Try.func5, Try.ntmps5
  go_wp2_with fail
  refine (short_any _ 1 [m] 8 _ (lens1 _ (by simp) q B m d) (by omega)).mono ?_
  rintro e w1 ⟨rfl, hb⟩
  have hk := (below_alloc ((w.alloc (.cells #[.bool p, .slice A n c] 24)).alloc (.cells #[.bool q, .slice B m d] 24)) (.cells #[.bool q, .slice B m d] 24)).trans (hb.mono (by simp))
  have hw := hW.trans (hk.mono hW.size)
  replace bx := Lib.hid (bx.out.below hk)
  replace by_ := Lib.hid (by_.out.below hk)
  clear hk hb hW
  cases ht : tooLong [m] 8 with
  | true =>
    go_wp2_with fail
    refine (awake_any _).mono ?_
    rintro e wz ⟨rfl, hb⟩
    go_wp2
    go_ret
    exact ⟨rfl, hw.trans (hb.mono hw.size)⟩
  | false =>
    have hm : m ≤ 8 := by simp [tooLong] at ht; omega
    clear ht
    obtain ⟨-, cxa, cxb⟩ := bx.out
    go_wp2_with fail
    refine (short_any _ 1 [n] 2 _ (lens1 _ (by simp) p A n c) (by omega)).mono ?_
    rintro e w2 ⟨rfl, hb⟩
    have hk := (below_alloc w1 (.cells #[.bool p, .slice A n c] 24)).trans (hb.mono (by simp))
    clear cxa cxb
    replace hw := hw.trans (hk.mono hw.size)
    replace bx := Lib.hid (bx.out.below hk)
    replace by_ := Lib.hid (by_.out.below hk)
    clear hk hb
    cases ht : tooLong [n] 2 with
    | true =>
      go_wp2_with fail
      refine (awake_any _).mono ?_
      rintro e wz ⟨rfl, hb⟩
      go_wp2
      go_ret
      exact ⟨rfl, hw.trans (hb.mono hw.size)⟩
    | false =>
      have hn : n ≤ 2 := by simp [tooLong] at ht; omega
      clear ht
      obtain ⟨-, cxa, cxb⟩ := bx.out
      go_wp2_with fail
      have by0 := by_
      clear by_
      refine (of_any p A n c xs _ (HH.out.below hw) (by omega) HD.out).mono ?_
      rintro e w3 ⟨g1, A1, n1, d1, g2, A2, n2, d2, rfl, hv, hr, hb⟩
      obtain ⟨x, hx⟩ : ∃ x, withSign p (val xs) = x := ⟨_, rfl⟩
      rw [hx] at hv hr
      clear cxa cxb bx HH HD
      have hX := below_two w3 (.cells #[.bool g1, .slice A1 n1 d1] 28) (.cells #[.bool g2, .slice A2 n2 d2] 31)
      have hk := hb.trans (hX.mono hb.size)
      replace by0 := Lib.hid (by0.out.below hk)
      replace hw := hw.trans (hk.mono hw.size)
      have b1 := Lib.hid (Bx.new1 w3 g1 g2 (.slice A1 n1 d1) (.slice A2 n2 d2) 28 31)
      have b2 := Lib.hid (Bx.new2 w3 g1 g2 (.slice A1 n1 d1) (.slice A2 n2 d2) 28 31)
      have V1 := Lib.hid ((hv.mono hn).below hX)
      have V2 := Lib.hid ((hr.mono (show 2 * n ≤ 4 by omega)).below hX)
      clear hX hk hb hv hr hx
      by_cases hle : nn ≤ 40
      · have hgt : ¬ 40 < nn := by omega
        obtain ⟨-, c1a, c1b⟩ := b1.out
        go_wp2_with fail
        refine (Power_int _ x nn 2 _ V1.out (by decide) hn1 (Or.inl hle)).mono ?_
        rintro e w5 ⟨⟨g5, A5, n5, d5, rfl, hz⟩, hb⟩
        obtain ⟨pe, hpe⟩ : ∃ pe, powE nn = pe := ⟨_, rfl⟩
        rw [hpe]
        obtain ⟨pv, hpv⟩ : ∃ pv, powV x nn = pv := ⟨_, rfl⟩
        rw [hpv] at hz
        have HPE := Lib.hid hpe
        have HPV := Lib.hid hpv
        clear hpe hpv
        clear c1a c1b
        have hX := below_alloc w5 (.cells #[.bool g5, .slice A5 n5 d5] 28)
        have hk := hb.trans (hX.mono hb.size)
        replace by0 := Lib.hid (by0.out.below hk)
        clear b1 V1
        replace b2 := Lib.hid (b2.out.below hk)
        replace V2 := Lib.hid (V2.out.below hk)
        replace hw := hw.trans (hk.mono hw.size)
        have b5 := Lib.hid (Bx.new w5 g5 (.slice A5 n5 d5) 28)
        have V5 := Lib.hid (hz.below hX)
        clear hX hk hb hz
        obtain ⟨-, c2a, c2b⟩ := b2.out
        go_wp2_with fail
        refine (rPower_int _ x nn 4 _ V2.out (by decide) hn1 (Or.inl hle)).mono ?_
        rintro e w6 ⟨⟨g6, A6, n6, d6, rfl, hz⟩, hb⟩
        rw [HPE.out]
        rw [HPV.out] at hz
        clear c2a c2b
        have hX := below_alloc w6 (.cells #[.bool g6, .slice A6 n6 d6] 31)
        have hk := hb.trans (hX.mono hb.size)
        replace by0 := Lib.hid (by0.out.below hk)
        clear b2 V2
        replace b5 := Lib.hid (b5.out.below hk)
        replace V5 := Lib.hid (V5.out.below hk)
        replace hw := hw.trans (hk.mono hw.size)
        have b6 := Lib.hid (Bx.new w6 g6 (.slice A6 n6 d6) 31)
        have V6 := Lib.hid (hz.below hX)
        clear hX hk hb hz
        obtain ⟨-, cy0a, cy0b⟩ := by0.out
        go_wp2_with fail
        refine (of_any q B m d ys _ (GH.out.below hw) (by omega) GD.out).mono ?_
        rintro e w7 ⟨g7, A7, n7, d7, g8, A8, n8, d8, rfl, hv, hr, hb⟩
        obtain ⟨y, hy⟩ : ∃ y, withSign q (val ys) = y := ⟨_, rfl⟩
        rw [hy] at hv hr
        clear cy0a cy0b
        have hX := below_two w7 (.cells #[.bool g7, .slice A7 n7 d7] 28) (.cells #[.bool g8, .slice A8 n8 d8] 31)
        have hk := hb.trans (hX.mono hb.size)
        clear by0
        replace b5 := Lib.hid (b5.out.below hk)
        replace V5 := Lib.hid (V5.out.below hk)
        replace b6 := Lib.hid (b6.out.below hk)
        replace V6 := Lib.hid (V6.out.below hk)
        replace hw := hw.trans (hk.mono hw.size)
        have b7 := Lib.hid (Bx.new1 w7 g7 g8 (.slice A7 n7 d7) (.slice A8 n8 d8) 28 31)
        have b8 := Lib.hid (Bx.new2 w7 g7 g8 (.slice A7 n7 d7) (.slice A8 n8 d8) 28 31)
        have V7 := Lib.hid ((hv.mono hm).below hX)
        have V8 := Lib.hid ((hr.mono (show 2 * m ≤ 16 by omega)).below hX)
        clear hX hk hb hv hr hy
        obtain ⟨-, c7a, c7b⟩ := b7.out
        go_wp2_with fail
        refine (Root_int _ y 8 _ V7.out (by decide)).mono ?_
        rintro e w9 ⟨⟨g9, A9, n9, d9, r, rfl, hz, hroot⟩, hb⟩
        obtain ⟨re, hre⟩ : ∃ re, rootE y = re := ⟨_, rfl⟩
        rw [hre]
        have HRE := Lib.hid hre
        have HRT := Lib.hid hroot
        clear hre hroot
        clear c7a c7b
        have hX := below_alloc w9 (.cells #[.bool g9, .slice A9 n9 d9] 28)
        have hk := hb.trans (hX.mono hb.size)
        replace b5 := Lib.hid (b5.out.below hk)
        replace V5 := Lib.hid (V5.out.below hk)
        replace b6 := Lib.hid (b6.out.below hk)
        replace V6 := Lib.hid (V6.out.below hk)
        clear b7 V7
        replace b8 := Lib.hid (b8.out.below hk)
        replace V8 := Lib.hid (V8.out.below hk)
        replace hw := hw.trans (hk.mono hw.size)
        have b9 := Lib.hid (Bx.new w9 g9 (.slice A9 n9 d9) 28)
        have V9 := Lib.hid (hz.below hX)
        clear hX hk hb hz
        obtain ⟨-, c8a, c8b⟩ := b8.out
        go_wp2_with fail
        refine (rRoot_int _ y 16 _ V8.out (by decide)).mono ?_
        rintro e w10 ⟨⟨g10, A10, n10, d10, r2, rfl, hz, hroot⟩, hb⟩
        rw [HRE.out]
        obtain rfl := HRT.out.same hroot
        clear hroot HRT
        clear c8a c8b
        have hX := below_alloc w10 (.cells #[.bool g10, .slice A10 n10 d10] 31)
        have hk := hb.trans (hX.mono hb.size)
        replace b5 := Lib.hid (b5.out.below hk)
        replace V5 := Lib.hid (V5.out.below hk)
        replace b6 := Lib.hid (b6.out.below hk)
        replace V6 := Lib.hid (V6.out.below hk)
        clear b8 V8
        replace b9 := Lib.hid (b9.out.below hk)
        replace V9 := Lib.hid (V9.out.below hk)
        replace hw := hw.trans (hk.mono hw.size)
        have b10 := Lib.hid (Bx.new w10 g10 (.slice A10 n10 d10) 31)
        have V10 := Lib.hid (hz.below hX)
        clear hX hk hb hz
        clear HRE HPE HPV
        obtain ⟨-, c5a, c5b⟩ := b5.out
        obtain ⟨-, c6a, c6b⟩ := b6.out
        obtain ⟨-, c9a, c9b⟩ := b9.out
        obtain ⟨-, c10a, c10b⟩ := b10.out
        go_wp2_with fail
        refine (is_yes _ _ _ 200000 1000 _ V5.out V6.out (by decide) (by decide)).mono ?_
        rintro e w11 ⟨rfl, hb⟩
        clear c5a c5b c6a c6b c9a c9b c10a c10b
        clear b5 V5
        clear b6 V6
        replace b9 := Lib.hid (b9.out.below hb)
        replace V9 := Lib.hid (V9.out.below hb)
        replace b10 := Lib.hid (b10.out.below hb)
        replace V10 := Lib.hid (V10.out.below hb)
        replace hw := hw.trans (hb.mono hw.size)
        clear hb
        obtain ⟨-, c9a, c9b⟩ := b9.out
        obtain ⟨-, c10a, c10b⟩ := b10.out
        go_wp2_with fail
        refine (is_yes _ _ _ 9 1000 _ V9.out V10.out (by decide) (by decide)).mono ?_
        rintro e w12 ⟨rfl, hb⟩
        clear c9a c9b c10a c10b
        clear b9 V9
        clear b10 V10
        replace hw := hw.trans (hb.mono hw.size)
        clear hb
        go_wp2_with fail
        refine (awake_any _).mono ?_
        rintro e wz ⟨rfl, hb⟩
        go_wp2
        go_ret
        exact ⟨rfl, hw.trans (hb.mono hw.size)⟩
      · have hgt : 40 < nn := by omega
        obtain ⟨-, c2a, c2b⟩ := b2.out
        go_wp2_with fail
        refine (rabs_any _ x 4 _ V2.out).mono ?_
        rintro e w4 ⟨⟨g4, A4, n4, d4, rfl, hz⟩, hb⟩
        have HZ := Lib.hid hz
        clear hz
        clear c2a c2b
        replace by0 := Lib.hid (by0.out.below hb)
        replace b1 := Lib.hid (b1.out.below hb)
        replace V1 := Lib.hid (V1.out.below hb)
        replace b2 := Lib.hid (b2.out.below hb)
        replace V2 := Lib.hid (V2.out.below hb)
        replace hw := hw.trans (hb.mono hw.size)
        clear hb
        go_wp2_with fail
        refine (rLength_any _ _ 4 _ HZ.out (by decide)).mono ?_
        rintro e wl ⟨⟨k, rfl, hlen, hkl⟩, hb⟩
        have HLEN := Lib.hid hlen
        clear hlen HZ hkl
        replace by0 := Lib.hid (by0.out.below hb)
        replace b1 := Lib.hid (b1.out.below hb)
        replace V1 := Lib.hid (V1.out.below hb)
        replace b2 := Lib.hid (b2.out.below hb)
        replace V2 := Lib.hid (V2.out.below hb)
        replace hw := hw.trans (hb.mono hw.size)
        clear hb
        by_cases hk1 : 1 < k
        · have hkd : (1 : Int) < (k : Int) := by omega
          clear HLEN
          obtain ⟨-, c1a, c1b⟩ := b1.out
          go_wp2_with fail
          refine (Power_int _ x 40 2 _ V1.out (by decide) (by decide) (Or.inl (by decide))).mono ?_
          rintro e w5 ⟨⟨g5, A5, n5, d5, rfl, hz⟩, hb⟩
          obtain ⟨pe, hpe⟩ : ∃ pe, powE 40 = pe := ⟨_, rfl⟩
          rw [hpe]
          obtain ⟨pv, hpv⟩ : ∃ pv, powV x 40 = pv := ⟨_, rfl⟩
          rw [hpv] at hz
          have HPE := Lib.hid hpe
          have HPV := Lib.hid hpv
          clear hpe hpv
          clear c1a c1b
          have hX := below_alloc w5 (.cells #[.bool g5, .slice A5 n5 d5] 28)
          have hk := hb.trans (hX.mono hb.size)
          replace by0 := Lib.hid (by0.out.below hk)
          clear b1 V1
          replace b2 := Lib.hid (b2.out.below hk)
          replace V2 := Lib.hid (V2.out.below hk)
          replace hw := hw.trans (hk.mono hw.size)
          have b5 := Lib.hid (Bx.new w5 g5 (.slice A5 n5 d5) 28)
          have V5 := Lib.hid (hz.below hX)
          clear hX hk hb hz
          obtain ⟨-, c2a, c2b⟩ := b2.out
          go_wp2_with fail
          refine (rPower_int _ x 40 4 _ V2.out (by decide) (by decide) (Or.inl (by decide))).mono ?_
          rintro e w6 ⟨⟨g6, A6, n6, d6, rfl, hz⟩, hb⟩
          rw [HPE.out]
          rw [HPV.out] at hz
          clear c2a c2b
          have hX := below_alloc w6 (.cells #[.bool g6, .slice A6 n6 d6] 31)
          have hk := hb.trans (hX.mono hb.size)
          replace by0 := Lib.hid (by0.out.below hk)
          clear b2 V2
          replace b5 := Lib.hid (b5.out.below hk)
          replace V5 := Lib.hid (V5.out.below hk)
          replace hw := hw.trans (hk.mono hw.size)
          have b6 := Lib.hid (Bx.new w6 g6 (.slice A6 n6 d6) 31)
          have V6 := Lib.hid (hz.below hX)
          clear hX hk hb hz
          obtain ⟨-, cy0a, cy0b⟩ := by0.out
          go_wp2_with fail
          refine (of_any q B m d ys _ (GH.out.below hw) (by omega) GD.out).mono ?_
          rintro e w7 ⟨g7, A7, n7, d7, g8, A8, n8, d8, rfl, hv, hr, hb⟩
          obtain ⟨y, hy⟩ : ∃ y, withSign q (val ys) = y := ⟨_, rfl⟩
          rw [hy] at hv hr
          clear cy0a cy0b
          have hX := below_two w7 (.cells #[.bool g7, .slice A7 n7 d7] 28) (.cells #[.bool g8, .slice A8 n8 d8] 31)
          have hk := hb.trans (hX.mono hb.size)
          clear by0
          replace b5 := Lib.hid (b5.out.below hk)
          replace V5 := Lib.hid (V5.out.below hk)
          replace b6 := Lib.hid (b6.out.below hk)
          replace V6 := Lib.hid (V6.out.below hk)
          replace hw := hw.trans (hk.mono hw.size)
          have b7 := Lib.hid (Bx.new1 w7 g7 g8 (.slice A7 n7 d7) (.slice A8 n8 d8) 28 31)
          have b8 := Lib.hid (Bx.new2 w7 g7 g8 (.slice A7 n7 d7) (.slice A8 n8 d8) 28 31)
          have V7 := Lib.hid ((hv.mono hm).below hX)
          have V8 := Lib.hid ((hr.mono (show 2 * m ≤ 16 by omega)).below hX)
          clear hX hk hb hv hr hy
          obtain ⟨-, c7a, c7b⟩ := b7.out
          go_wp2_with fail
          refine (Root_int _ y 8 _ V7.out (by decide)).mono ?_
          rintro e w9 ⟨⟨g9, A9, n9, d9, r, rfl, hz, hroot⟩, hb⟩
          obtain ⟨re, hre⟩ : ∃ re, rootE y = re := ⟨_, rfl⟩
          rw [hre]
          have HRE := Lib.hid hre
          have HRT := Lib.hid hroot
          clear hre hroot
          clear c7a c7b
          have hX := below_alloc w9 (.cells #[.bool g9, .slice A9 n9 d9] 28)
          have hk := hb.trans (hX.mono hb.size)
          replace b5 := Lib.hid (b5.out.below hk)
          replace V5 := Lib.hid (V5.out.below hk)
          replace b6 := Lib.hid (b6.out.below hk)
          replace V6 := Lib.hid (V6.out.below hk)
          clear b7 V7
          replace b8 := Lib.hid (b8.out.below hk)
          replace V8 := Lib.hid (V8.out.below hk)
          replace hw := hw.trans (hk.mono hw.size)
          have b9 := Lib.hid (Bx.new w9 g9 (.slice A9 n9 d9) 28)
          have V9 := Lib.hid (hz.below hX)
          clear hX hk hb hz
          obtain ⟨-, c8a, c8b⟩ := b8.out
          go_wp2_with fail
          refine (rRoot_int _ y 16 _ V8.out (by decide)).mono ?_
          rintro e w10 ⟨⟨g10, A10, n10, d10, r2, rfl, hz, hroot⟩, hb⟩
          rw [HRE.out]
          obtain rfl := HRT.out.same hroot
          clear hroot HRT
          clear c8a c8b
          have hX := below_alloc w10 (.cells #[.bool g10, .slice A10 n10 d10] 31)
          have hk := hb.trans (hX.mono hb.size)
          replace b5 := Lib.hid (b5.out.below hk)
          replace V5 := Lib.hid (V5.out.below hk)
          replace b6 := Lib.hid (b6.out.below hk)
          replace V6 := Lib.hid (V6.out.below hk)
          clear b8 V8
          replace b9 := Lib.hid (b9.out.below hk)
          replace V9 := Lib.hid (V9.out.below hk)
          replace hw := hw.trans (hk.mono hw.size)
          have b10 := Lib.hid (Bx.new w10 g10 (.slice A10 n10 d10) 31)
          have V10 := Lib.hid (hz.below hX)
          clear hX hk hb hz
          clear HRE HPE HPV
          obtain ⟨-, c5a, c5b⟩ := b5.out
          obtain ⟨-, c6a, c6b⟩ := b6.out
          obtain ⟨-, c9a, c9b⟩ := b9.out
          obtain ⟨-, c10a, c10b⟩ := b10.out
          go_wp2_with fail
          refine (is_yes _ _ _ 200000 1000 _ V5.out V6.out (by decide) (by decide)).mono ?_
          rintro e w11 ⟨rfl, hb⟩
          clear c5a c5b c6a c6b c9a c9b c10a c10b
          clear b5 V5
          clear b6 V6
          replace b9 := Lib.hid (b9.out.below hb)
          replace V9 := Lib.hid (V9.out.below hb)
          replace b10 := Lib.hid (b10.out.below hb)
          replace V10 := Lib.hid (V10.out.below hb)
          replace hw := hw.trans (hb.mono hw.size)
          clear hb
          obtain ⟨-, c9a, c9b⟩ := b9.out
          obtain ⟨-, c10a, c10b⟩ := b10.out
          go_wp2_with fail
          refine (is_yes _ _ _ 9 1000 _ V9.out V10.out (by decide) (by decide)).mono ?_
          rintro e w12 ⟨rfl, hb⟩
          clear c9a c9b c10a c10b
          clear b9 V9
          clear b10 V10
          replace hw := hw.trans (hb.mono hw.size)
          clear hb
          go_wp2_with fail
          refine (awake_any _).mono ?_
          rintro e wz ⟨rfl, hb⟩
          go_wp2
          go_ret
          exact ⟨rfl, hw.trans (hb.mono hw.size)⟩
        · have hkd : ¬ (1 : Int) < (k : Int) := by omega
          have hsm : -1 ≤ x ∧ x ≤ 1 := small_len HLEN.out (by omega)
          clear HLEN
          obtain ⟨-, c1a, c1b⟩ := b1.out
          go_wp2_with fail
          refine (Power_int _ x nn 2 _ V1.out (by decide) hn1 (Or.inr hsm)).mono ?_
          rintro e w5 ⟨⟨g5, A5, n5, d5, rfl, hz⟩, hb⟩
          obtain ⟨pe, hpe⟩ : ∃ pe, powE nn = pe := ⟨_, rfl⟩
          rw [hpe]
          obtain ⟨pv, hpv⟩ : ∃ pv, powV x nn = pv := ⟨_, rfl⟩
          rw [hpv] at hz
          have HPE := Lib.hid hpe
          have HPV := Lib.hid hpv
          clear hpe hpv
          clear c1a c1b
          have hX := below_alloc w5 (.cells #[.bool g5, .slice A5 n5 d5] 28)
          have hk := hb.trans (hX.mono hb.size)
          replace by0 := Lib.hid (by0.out.below hk)
          clear b1 V1
          replace b2 := Lib.hid (b2.out.below hk)
          replace V2 := Lib.hid (V2.out.below hk)
          replace hw := hw.trans (hk.mono hw.size)
          have b5 := Lib.hid (Bx.new w5 g5 (.slice A5 n5 d5) 28)
          have V5 := Lib.hid (hz.below hX)
          clear hX hk hb hz
          obtain ⟨-, c2a, c2b⟩ := b2.out
          go_wp2_with fail
          refine (rPower_int _ x nn 4 _ V2.out (by decide) hn1 (Or.inr hsm)).mono ?_
          rintro e w6 ⟨⟨g6, A6, n6, d6, rfl, hz⟩, hb⟩
          rw [HPE.out]
          rw [HPV.out] at hz
          clear c2a c2b
          have hX := below_alloc w6 (.cells #[.bool g6, .slice A6 n6 d6] 31)
          have hk := hb.trans (hX.mono hb.size)
          replace by0 := Lib.hid (by0.out.below hk)
          clear b2 V2
          replace b5 := Lib.hid (b5.out.below hk)
          replace V5 := Lib.hid (V5.out.below hk)
          replace hw := hw.trans (hk.mono hw.size)
          have b6 := Lib.hid (Bx.new w6 g6 (.slice A6 n6 d6) 31)
          have V6 := Lib.hid (hz.below hX)
          clear hX hk hb hz
          obtain ⟨-, cy0a, cy0b⟩ := by0.out
          go_wp2_with fail
          refine (of_any q B m d ys _ (GH.out.below hw) (by omega) GD.out).mono ?_
          rintro e w7 ⟨g7, A7, n7, d7, g8, A8, n8, d8, rfl, hv, hr, hb⟩
          obtain ⟨y, hy⟩ : ∃ y, withSign q (val ys) = y := ⟨_, rfl⟩
          rw [hy] at hv hr
          clear cy0a cy0b
          have hX := below_two w7 (.cells #[.bool g7, .slice A7 n7 d7] 28) (.cells #[.bool g8, .slice A8 n8 d8] 31)
          have hk := hb.trans (hX.mono hb.size)
          clear by0
          replace b5 := Lib.hid (b5.out.below hk)
          replace V5 := Lib.hid (V5.out.below hk)
          replace b6 := Lib.hid (b6.out.below hk)
          replace V6 := Lib.hid (V6.out.below hk)
          replace hw := hw.trans (hk.mono hw.size)
          have b7 := Lib.hid (Bx.new1 w7 g7 g8 (.slice A7 n7 d7) (.slice A8 n8 d8) 28 31)
          have b8 := Lib.hid (Bx.new2 w7 g7 g8 (.slice A7 n7 d7) (.slice A8 n8 d8) 28 31)
          have V7 := Lib.hid ((hv.mono hm).below hX)
          have V8 := Lib.hid ((hr.mono (show 2 * m ≤ 16 by omega)).below hX)
          clear hX hk hb hv hr hy
          obtain ⟨-, c7a, c7b⟩ := b7.out
          go_wp2_with fail
          refine (Root_int _ y 8 _ V7.out (by decide)).mono ?_
          rintro e w9 ⟨⟨g9, A9, n9, d9, r, rfl, hz, hroot⟩, hb⟩
          obtain ⟨re, hre⟩ : ∃ re, rootE y = re := ⟨_, rfl⟩
          rw [hre]
          have HRE := Lib.hid hre
          have HRT := Lib.hid hroot
          clear hre hroot
          clear c7a c7b
          have hX := below_alloc w9 (.cells #[.bool g9, .slice A9 n9 d9] 28)
          have hk := hb.trans (hX.mono hb.size)
          replace b5 := Lib.hid (b5.out.below hk)
          replace V5 := Lib.hid (V5.out.below hk)
          replace b6 := Lib.hid (b6.out.below hk)
          replace V6 := Lib.hid (V6.out.below hk)
          clear b7 V7
          replace b8 := Lib.hid (b8.out.below hk)
          replace V8 := Lib.hid (V8.out.below hk)
          replace hw := hw.trans (hk.mono hw.size)
          have b9 := Lib.hid (Bx.new w9 g9 (.slice A9 n9 d9) 28)
          have V9 := Lib.hid (hz.below hX)
          clear hX hk hb hz
          obtain ⟨-, c8a, c8b⟩ := b8.out
          go_wp2_with fail
          refine (rRoot_int _ y 16 _ V8.out (by decide)).mono ?_
          rintro e w10 ⟨⟨g10, A10, n10, d10, r2, rfl, hz, hroot⟩, hb⟩
          rw [HRE.out]
          obtain rfl := HRT.out.same hroot
          clear hroot HRT
          clear c8a c8b
          have hX := below_alloc w10 (.cells #[.bool g10, .slice A10 n10 d10] 31)
          have hk := hb.trans (hX.mono hb.size)
          replace b5 := Lib.hid (b5.out.below hk)
          replace V5 := Lib.hid (V5.out.below hk)
          replace b6 := Lib.hid (b6.out.below hk)
          replace V6 := Lib.hid (V6.out.below hk)
          clear b8 V8
          replace b9 := Lib.hid (b9.out.below hk)
          replace V9 := Lib.hid (V9.out.below hk)
          replace hw := hw.trans (hk.mono hw.size)
          have b10 := Lib.hid (Bx.new w10 g10 (.slice A10 n10 d10) 31)
          have V10 := Lib.hid (hz.below hX)
          clear hX hk hb hz
          clear HRE HPE HPV
          obtain ⟨-, c5a, c5b⟩ := b5.out
          obtain ⟨-, c6a, c6b⟩ := b6.out
          obtain ⟨-, c9a, c9b⟩ := b9.out
          obtain ⟨-, c10a, c10b⟩ := b10.out
          go_wp2_with fail
          refine (is_yes _ _ _ 200000 1000 _ V5.out V6.out (by decide) (by decide)).mono ?_
          rintro e w11 ⟨rfl, hb⟩
          clear c5a c5b c6a c6b c9a c9b c10a c10b
          clear b5 V5
          clear b6 V6
          replace b9 := Lib.hid (b9.out.below hb)
          replace V9 := Lib.hid (V9.out.below hb)
          replace b10 := Lib.hid (b10.out.below hb)
          replace V10 := Lib.hid (V10.out.below hb)
          replace hw := hw.trans (hb.mono hw.size)
          clear hb
          obtain ⟨-, c9a, c9b⟩ := b9.out
          obtain ⟨-, c10a, c10b⟩ := b10.out
          go_wp2_with fail
          refine (is_yes _ _ _ 9 1000 _ V9.out V10.out (by decide) (by decide)).mono ?_
          rintro e w12 ⟨rfl, hb⟩
          clear c9a c9b c10a c10b
          clear b9 V9
          clear b10 V10
          replace hw := hw.trans (hb.mono hw.size)
          clear hb
          go_wp2_with fail
          refine (awake_any _).mono ?_
          rintro e wz ⟨rfl, hb⟩
          go_wp2
          go_ret
          exact ⟨rfl, hw.trans (hb.mono hw.size)⟩

end Go.Proofs.Ytoanomgdkkbbmaa
