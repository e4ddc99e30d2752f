/- Of the proof of RationalPowers: RatPw, RRoot, Newton, Root. -/
import Derived.Test.YtbajnceoolkckaaGreatPw31
import Derived.Test.YtbajnceoolkckaaGreatPw35
import Derived.Test.YtbajnceoolkckaaGreatPw19
import Derived.Test.YtbajnceoolkckaaGreatPw17
import Derived.Test.YtbajnceoolkckaaGreatPw12
import Derived.Deep.LoopGhost
/- Fractions: Power with numbers from -40 to 40. -/
namespace Go.Proofs.YtbajnceoolkckaaGreat
open Go.RowKit LM

theorem Ival.putG {w : World} {s : Value} {z : Int} {L : Nat} (h : Ival w s z L) {b : Nat} {p q : Bool} {A B : Option Addr} {n c m d : Nat} (F : Fx4 w b (.bool p) (.slice A n c) (.bool q) (.slice B m d)) (x0 x1 x2 x3 : Value) :
  Ival (Go.Proofs.YtbajnceoolkckaaGreat.put4 w b x0 x1 x2 x3) s z L := by
 refine (((h.setOther (fun u => by rw [F.c0]; simp) x0).setOther (fun u => ?_) x1).setOther (fun u => ?_) x2).setOther (fun u => ?_) x3
 ·rw [World.cell?_setCell_other _ _ _ _ (by simp), F.c1]; simp
 ·rw [World.cell?_setCell_other _ _ _ _ (by simp), World.cell?_setCell_other _ _ _ _ (by simp), F.c2]; simp
 ·rw [World.cell?_setCell_other _ _ _ _ (by simp), World.cell?_setCell_other _ _ _ _ (by simp), World.cell?_setCell_other _ _ _ _ (by simp), F.c3]; simp
theorem Rat.putG {w : World} {s : Value} {n0 d0 : Int} {L : Nat} (h : Rat w s n0 d0 L) {b : Nat} {p q : Bool} {A B : Option Addr} {n c m d : Nat} (F : Fx4 w b (.bool p) (.slice A n c) (.bool q) (.slice B m d)) (x0 x1 x2 x3 : Value) : Rat (Go.Proofs.YtbajnceoolkckaaGreat.put4 w b x0 x1 x2 x3) s n0 d0 L := by
 obtain ⟨g1, A1, n1, c1, g2, A2, n2, c2, e, h1, h2, h3⟩ := h
 exact ⟨g1, A1, n1, c1, g2, A2, n2, c2, e, h1.putG F _ _ _ _, h2.putG F _ _ _ _, h3⟩
/-- What Power answers with numbers from -40 to 40. -/
def PowQ (n d k : Int) (w : World) (e : Ending) (w' : World) : Prop :=
 (k < 0 ∧ n = 0 ∧ RatErr 2 0 1 6 w e w') ∨ ∃ a b, 0 < b ∧ Int.gcd a b = 1 ∧ ((0 ≤ k ∧ a = n ∧ b = d) ∨ (k < 0 ∧ n ≠ 0 ∧ a = upN d n ∧ b = upN n n)) ∧ RatErr 200000 (a ^ k.natAbs) (b ^ k.natAbs) 0 w e w'

theorem pow_nat {z n : Int} (h : 0 ≤ n) : powV z n = z ^ n.toNat := if_neg (by omega)
theorem pow_cop {a b : Int} {p : Nat} (h : Int.gcd a b = 1) : Int.gcd (a ^ p) (b ^ p) = 1 := by
 have hc : Nat.Coprime a.natAbs b.natAbs := h
 show Nat.Coprime (a ^ p).natAbs (b ^ p).natAbs
 rw [Int.natAbs_pow, Int.natAbs_pow]
 exact Nat.Coprime.pow _ _ hc

set_option maxRecDepth 100000 in
set_option maxHeartbeats 8000000 in
theorem Power_q (v : Value) (n d k : Int) (L : Nat) (w : World) (h : Rat w v n d L) (hL : L ≤ 16) (hL2 : 2 ≤ L) (hk1 : -40 ≤ k) (hk2 : k ≤ 40) :
  Calls Tryz.prog 32 #[v, .int .i64 k] w (PowQ n d k w) := by
 obtain ⟨g1, A1, n1, c1, e1, E1, m1, d1, rfl⟩ := h.form
 obtain ⟨hw, F0, F1, hs⟩ := two44 w (.bool g1) (.slice A1 n1 c1) (.bool e1) (.slice E1 m1 d1) (.bool false) (.slice none 0 0) (.bool false) (.slice none 0 0)
 have X := Lib.hid (h.below hw)
 obtain ⟨W0, hW0⟩ : ∃ W0, (w.alloc (.cells #[.bool g1, .slice A1 n1 c1, .bool e1, .slice E1 m1 d1] 38)).alloc (.cells #[.bool false, .slice none 0 0, .bool false, .slice none 0 0] 38) = W0 := ⟨_, rfl⟩
 rw [hW0] at hw F0 F1 hs X
 have B0 := Lib.hid F0
 have BR := Lib.hid F1
 clear F0 F1 h
 go_enter Tryz.func32, Tryz.ntmps32
 go_upto_region 1 with fail
 clear hW0
 by_cases hk : k < 0
 ·skip
  go_upto_region 2 with fail
  have HKN := Lib.hid hk
  clear hk
  obtain ⟨c00, c01, c02, c03, f00, f01, f02, f03, s0⟩ := B0.out
  go_wp2_with fail
  refine (Sign_any _ n d L _ X.out).mono ?_
  rintro e w1 ⟨rfl, hb⟩
  clear c00 c01 c02 c03 f00 f01 f02 f03 s0
  replace B0 := Lib.hid (B0.out.below hb)
  replace BR := Lib.hid (BR.out.below hb)
  replace X := Lib.hid (X.out.below hb)
  replace hw := hw.trans (hb.mono hw.size)
  clear hb
  by_cases hn : n = 0
  ·skip
   have hcm : cmpI n 0 = 0 := cmpI_eq hn
   rw [hcm]
   clear hcm
   have HN := Lib.hid hn
   clear hn
   obtain ⟨r0, r1, r2, r3, r4, r5, r6, r7, r8⟩ := BR.out
   go_wp2
   exact bodyPost_ret (v := .tuple #[.agg #[.bool false, .slice none 0 0, .bool false, .slice none 0 0], .int .i64 6]) (by simp [results, Tryz.results32, go_sem, r0, r1, r2, r3]) rfl (Or.inl ⟨HKN.out, HN.out, ⟨⟨false, none, 0, 0, false, none, 0, 0, rfl, _, _, _, _, _, _, _, _, rfl, Ival.nought, Ival.nought, by decide, by decide⟩, below_put4 hw (by omega) _ _ _ _⟩⟩)
  ·skip
   have hcm : (cmpI n 0 == 0) = false := cmp_ne hn
   have HN := Lib.hid hn
   clear hn
   go_upto_region 4 with fail
   clear hcm
   obtain ⟨c00, c01, c02, c03, f00, f01, f02, f03, s0⟩ := B0.out
   go_wp2_with fail
   refine (inverse_any _ n d L _ X.out (by omega) hL2 HN.out).mono ?_
   rintro e w2 ⟨⟨g3, A3, n3, c3, e3, E3, m3, d3, rfl, hz⟩, hb⟩
   clear c00 c01 c02 c03 f00 f01 f02 f03 s0
   clear X
   replace B0 := Lib.hid (B0.out.below hb)
   replace BR := Lib.hid (BR.out.below hb)
   replace hw := hw.trans (hb.mono hw.size)
   have XN := Lib.hid hz
   clear hb hz
   have FB := B0.out
   replace XN := Lib.hid (XN.out.putG FB (.bool g3) (.slice A3 n3 c3) (.bool e3) (.slice E3 m3 d3))
   replace BR := Lib.hid (BR.out.other4 (show w.heap.size ≠ w.heap.size + 1 by omega) (.bool g3) (.slice A3 n3 c3) (.bool e3) (.slice E3 m3 d3))
   replace hw := below_put4 hw (Nat.le_refl w.heap.size) (.bool g3) (.slice A3 n3 c3) (.bool e3) (.slice E3 m3 d3)
   replace B0 := Lib.hid (B0.out.put (.bool g3) (.slice A3 n3 c3) (.bool e3) (.slice E3 m3 d3))
   obtain ⟨x0, x1, x2, x3, x4, x5, x6, x7, x8⟩ := FB
   have hkm : ¬ k = -9223372036854775808 := by have := hk1; omega
   have hwk : IntKind.i64.wrap (-k) = -k := by rw [IntKind.wrap_i64]; omega
   obtain ⟨kk, hkk⟩ : ∃ kk, -k = kk := ⟨_, rfl⟩
   rw [hkk] at hwk
   have HK := Lib.hid (show 0 ≤ kk ∧ kk ≤ 40 by have := HKN.out; omega)
   have HKK := Lib.hid (show k.natAbs = kk.toNat by have := HKN.out; omega)
   go_upto_region 8 with fail
   have hput : (((w2.setCell ⟨w.heap.size, 0, none⟩ (.bool g3)).setCell ⟨w.heap.size, 1, none⟩ (.slice A3 n3 c3)).setCell ⟨w.heap.size, 2, none⟩ (.bool e3)).setCell ⟨w.heap.size, 3, none⟩ (.slice E3 m3 d3) = put4 w2 w.heap.size (.bool g3) (.slice A3 n3 c3) (.bool e3) (.slice E3 m3 d3) := rfl
   rw [hput]
   clear hput x0 x1 x2 x3 x4 x5 x6 x7 x8 hkm hwk hkk
   generalize put4 w2 w.heap.size (.bool g3) (.slice A3 n3 c3) (.bool e3) (.slice E3 m3 d3) = wp at *
   have X := XN
   clear XN
   have X1 := Lib.hid X.out.parts.1
   have hpe : powE kk = 0 := if_neg (by have := HK.out; omega)
   have HPE := Lib.hid hpe
   clear hpe
   obtain ⟨c00, c01, c02, c03, f00, f01, f02, f03, s0⟩ := B0.out
   go_wp2_with fail
   refine (Power_int _ (upN d n) kk L _ X1.out hL (by have := HK.out; omega) (Or.inl (by have := HK.out; omega))).mono ?_
   rintro e w4 ⟨⟨g6, A6, n6, o6, rfl, hz⟩, hb⟩
   rw [HPE.out]
   clear c00 c01 c02 c03 f00 f01 f02 f03 s0
   replace B0 := Lib.hid (B0.out.below hb)
   replace BR := Lib.hid (BR.out.below hb)
   replace X := Lib.hid (X.out.below hb)
   replace X1 := Lib.hid (X1.out.below hb)
   replace hw := hw.trans (hb.mono hw.size)
   have T1 := Lib.hid hz
   clear hb hz
   have hX := below_alloc w4 (.cells #[.bool g6, .slice A6 n6 o6] 31)
   replace B0 := Lib.hid (B0.out.below hX)
   replace BR := Lib.hid (BR.out.below hX)
   replace X := Lib.hid (X.out.below hX)
   replace X1 := Lib.hid (X1.out.below hX)
   replace T1 := Lib.hid (T1.out.below hX)
   replace hw := hw.trans (hX.mono hw.size)
   have B6 := Lib.hid (Fx.new w4 (.bool g6) (.slice A6 n6 o6) 31)
   skip
   clear hX
   go_upto_region 11 with fail
   generalize w4.alloc (.cells #[.bool g6, .slice A6 n6 o6] 31) = W6 at *
   generalize w4.heap.size = k6 at *
   obtain ⟨c00, c01, c02, c03, f00, f01, f02, f03, s0⟩ := B0.out
   go_wp2_with fail
   refine (Denominator_any _ (upN d n) (upN n n) L _ X.out hL2).mono ?_
   rintro e w5 ⟨⟨gt5, At5, nt5, ct5, rfl, hz⟩, hb⟩
   clear c00 c01 c02 c03 f00 f01 f02 f03 s0
   replace B0 := Lib.hid (B0.out.below hb)
   replace BR := Lib.hid (BR.out.below hb)
   replace B6 := Lib.hid (B6.out.below hb)
   replace X := Lib.hid (X.out.below hb)
   replace X1 := Lib.hid (X1.out.below hb)
   replace T1 := Lib.hid (T1.out.below hb)
   replace hw := hw.trans (hb.mono hw.size)
   have T2 := Lib.hid hz
   clear hb hz
   go_wp2_with fail
   refine (Power_int _ (upN n n) kk L _ T2.out hL (by have := HK.out; omega) (Or.inl (by have := HK.out; omega))).mono ?_
   rintro e w6 ⟨⟨g8, A8, n8, o8, rfl, hz⟩, hb⟩
   rw [HPE.out]
   replace B0 := Lib.hid (B0.out.below hb)
   replace BR := Lib.hid (BR.out.below hb)
   replace B6 := Lib.hid (B6.out.below hb)
   replace X := Lib.hid (X.out.below hb)
   replace X1 := Lib.hid (X1.out.below hb)
   replace T1 := Lib.hid (T1.out.below hb)
   replace T2 := Lib.hid (T2.out.below hb)
   replace hw := hw.trans (hb.mono hw.size)
   have T3 := Lib.hid hz
   clear hb hz
   have hX := below_alloc w6 (.cells #[.bool g8, .slice A8 n8 o8] 31)
   replace B0 := Lib.hid (B0.out.below hX)
   replace BR := Lib.hid (BR.out.below hX)
   replace B6 := Lib.hid (B6.out.below hX)
   replace X := Lib.hid (X.out.below hX)
   replace X1 := Lib.hid (X1.out.below hX)
   replace T1 := Lib.hid (T1.out.below hX)
   replace T2 := Lib.hid (T2.out.below hX)
   replace T3 := Lib.hid (T3.out.below hX)
   replace hw := hw.trans (hX.mono hw.size)
   have B8 := Lib.hid (Fx.new w6 (.bool g8) (.slice A8 n8 o8) 31)
   skip
   clear hX
   go_upto_region 14 with fail
   generalize w6.alloc (.cells #[.bool g8, .slice A8 n8 o8] 31) = W8 at *
   generalize w6.heap.size = k8 at *
   have hpw : ∀ z, powV z kk = z ^ k.natAbs := fun z => by rw [pow_nat (by have := HK.out; omega)]; congr 1; have := HKK.out; omega
   rw [hpw] at T1 T3
   clear hpw
   have hbp : 0 < (upN n n) ^ k.natAbs := Int.pow_pos X.out.parts.2.2.1
   have hgc : Int.gcd ((upN d n) ^ k.natAbs) ((upN n n) ^ k.natAbs) = 1 := pow_cop X.out.parts.2.2.2
   have HC := Lib.hid (And.intro hbp hgc)
   have HX0 := Lib.hid X.out.parts.2.2
   obtain ⟨P, hP⟩ : ∃ P, (upN d n) ^ k.natAbs = P := ⟨_, rfl⟩
   obtain ⟨Q, hQ⟩ : ∃ Q, (upN n n) ^ k.natAbs = Q := ⟨_, rfl⟩
   rw [hP] at T1 HC
   rw [hQ] at T3 HC
   have HP := Lib.hid hP
   have HQ := Lib.hid hQ
   clear hbp hgc hP hQ
   obtain ⟨c60, c61, f60, f61, s6⟩ := B6.out
   obtain ⟨c80, c81, f80, f81, s8⟩ := B8.out
   go_wp2_with fail
   refine (coprime_c _ _ P Q 200000 _ T1.out T3.out (by decide)).mono ?_
   rintro e w7 ⟨⟨g7, A7, n7, o7, e7, E7, m7, d7, rfl, hz, hzd⟩, hb⟩
   have e1 : upN P Q = P := if_neg (by have := HC.out.1; omega)
   have e2 : upN Q Q = Q := if_neg (by have := HC.out.1; omega)
   rw [e1] at hz
   rw [e2] at hzd
   clear e1 e2
   clear c60 c61 f60 f61 s6
   clear c80 c81 f80 f81 s8
   replace B0 := Lib.hid (B0.out.below hb)
   replace BR := Lib.hid (BR.out.below hb)
   replace B6 := Lib.hid (B6.out.below hb)
   replace B8 := Lib.hid (B8.out.below hb)
   replace X := Lib.hid (X.out.below hb)
   replace X1 := Lib.hid (X1.out.below hb)
   replace T1 := Lib.hid (T1.out.below hb)
   replace T2 := Lib.hid (T2.out.below hb)
   replace T3 := Lib.hid (T3.out.below hb)
   replace hw := hw.trans (hb.mono hw.size)
   have T4 := Lib.hid hz
   have T5 := Lib.hid hzd
   clear hb hz hzd
   obtain ⟨r0, r1, r2, r3, r4, r5, r6, r7, r8⟩ := BR.out
   go_wp2
   exact bodyPost_ret (v := .tuple #[.agg #[.bool g7, .slice A7 n7 o7, .bool e7, .slice E7 m7 d7], .int .i64 0]) (by simp [results, Tryz.results32, go_sem, r0, r1, r2, r3]) rfl (Or.inr ⟨(upN d n), (upN n n), HX0.out.1, HX0.out.2, Or.inr ⟨HKN.out, HN.out, rfl, rfl⟩, ⟨g7, A7, n7, o7, e7, E7, m7, d7, rfl, by rw [HP.out, HQ.out]; exact (Rat.mk' T4.out T5.out HC.out.1 HC.out.2).put4 BR.out _ _ _ _⟩, below_put4 hw (by omega) _ _ _ _⟩)
 ·skip
  go_upto_region 8 with fail
  have HK := Lib.hid (show 0 ≤ k ∧ k ≤ 40 by omega)
  have HKK := Lib.hid (show k.natAbs = k.toNat by omega)
  clear hk
  have X1 := Lib.hid X.out.parts.1
  have hpe : powE k = 0 := if_neg (by have := HK.out; omega)
  have HPE := Lib.hid hpe
  clear hpe
  obtain ⟨c00, c01, c02, c03, f00, f01, f02, f03, s0⟩ := B0.out
  go_wp2_with fail
  refine (Power_int _ n k L _ X1.out hL (by have := HK.out; omega) (Or.inl (by have := HK.out; omega))).mono ?_
  rintro e w4 ⟨⟨g6, A6, n6, o6, rfl, hz⟩, hb⟩
  rw [HPE.out]
  clear c00 c01 c02 c03 f00 f01 f02 f03 s0
  replace B0 := Lib.hid (B0.out.below hb)
  replace BR := Lib.hid (BR.out.below hb)
  replace X := Lib.hid (X.out.below hb)
  replace X1 := Lib.hid (X1.out.below hb)
  replace hw := hw.trans (hb.mono hw.size)
  have T1 := Lib.hid hz
  clear hb hz
  have hX := below_alloc w4 (.cells #[.bool g6, .slice A6 n6 o6] 31)
  replace B0 := Lib.hid (B0.out.below hX)
  replace BR := Lib.hid (BR.out.below hX)
  replace X := Lib.hid (X.out.below hX)
  replace X1 := Lib.hid (X1.out.below hX)
  replace T1 := Lib.hid (T1.out.below hX)
  replace hw := hw.trans (hX.mono hw.size)
  have B6 := Lib.hid (Fx.new w4 (.bool g6) (.slice A6 n6 o6) 31)
  skip
  clear hX
  go_upto_region 11 with fail
  generalize w4.alloc (.cells #[.bool g6, .slice A6 n6 o6] 31) = W6 at *
  generalize w4.heap.size = k6 at *
  obtain ⟨c00, c01, c02, c03, f00, f01, f02, f03, s0⟩ := B0.out
  go_wp2_with fail
  refine (Denominator_any _ n d L _ X.out hL2).mono ?_
  rintro e w5 ⟨⟨gt5, At5, nt5, ct5, rfl, hz⟩, hb⟩
  clear c00 c01 c02 c03 f00 f01 f02 f03 s0
  replace B0 := Lib.hid (B0.out.below hb)
  replace BR := Lib.hid (BR.out.below hb)
  replace B6 := Lib.hid (B6.out.below hb)
  replace X := Lib.hid (X.out.below hb)
  replace X1 := Lib.hid (X1.out.below hb)
  replace T1 := Lib.hid (T1.out.below hb)
  replace hw := hw.trans (hb.mono hw.size)
  have T2 := Lib.hid hz
  clear hb hz
  go_wp2_with fail
  refine (Power_int _ d k L _ T2.out hL (by have := HK.out; omega) (Or.inl (by have := HK.out; omega))).mono ?_
  rintro e w6 ⟨⟨g8, A8, n8, o8, rfl, hz⟩, hb⟩
  rw [HPE.out]
  replace B0 := Lib.hid (B0.out.below hb)
  replace BR := Lib.hid (BR.out.below hb)
  replace B6 := Lib.hid (B6.out.below hb)
  replace X := Lib.hid (X.out.below hb)
  replace X1 := Lib.hid (X1.out.below hb)
  replace T1 := Lib.hid (T1.out.below hb)
  replace T2 := Lib.hid (T2.out.below hb)
  replace hw := hw.trans (hb.mono hw.size)
  have T3 := Lib.hid hz
  clear hb hz
  have hX := below_alloc w6 (.cells #[.bool g8, .slice A8 n8 o8] 31)
  replace B0 := Lib.hid (B0.out.below hX)
  replace BR := Lib.hid (BR.out.below hX)
  replace B6 := Lib.hid (B6.out.below hX)
  replace X := Lib.hid (X.out.below hX)
  replace X1 := Lib.hid (X1.out.below hX)
  replace T1 := Lib.hid (T1.out.below hX)
  replace T2 := Lib.hid (T2.out.below hX)
  replace T3 := Lib.hid (T3.out.below hX)
  replace hw := hw.trans (hX.mono hw.size)
  have B8 := Lib.hid (Fx.new w6 (.bool g8) (.slice A8 n8 o8) 31)
  skip
  clear hX
  go_upto_region 14 with fail
  generalize w6.alloc (.cells #[.bool g8, .slice A8 n8 o8] 31) = W8 at *
  generalize w6.heap.size = k8 at *
  have hpw : ∀ z, powV z k = z ^ k.natAbs := fun z => by rw [pow_nat (by have := HK.out; omega)]; congr 1; have := HKK.out; omega
  rw [hpw] at T1 T3
  clear hpw
  have hbp : 0 < d ^ k.natAbs := Int.pow_pos X.out.parts.2.2.1
  have hgc : Int.gcd (n ^ k.natAbs) (d ^ k.natAbs) = 1 := pow_cop X.out.parts.2.2.2
  have HC := Lib.hid (And.intro hbp hgc)
  have HX0 := Lib.hid X.out.parts.2.2
  obtain ⟨P, hP⟩ : ∃ P, n ^ k.natAbs = P := ⟨_, rfl⟩
  obtain ⟨Q, hQ⟩ : ∃ Q, d ^ k.natAbs = Q := ⟨_, rfl⟩
  rw [hP] at T1 HC
  rw [hQ] at T3 HC
  have HP := Lib.hid hP
  have HQ := Lib.hid hQ
  clear hbp hgc hP hQ
  obtain ⟨c60, c61, f60, f61, s6⟩ := B6.out
  obtain ⟨c80, c81, f80, f81, s8⟩ := B8.out
  go_wp2_with fail
  refine (coprime_c _ _ P Q 200000 _ T1.out T3.out (by decide)).mono ?_
  rintro e w7 ⟨⟨g7, A7, n7, o7, e7, E7, m7, d7, rfl, hz, hzd⟩, hb⟩
  have e1 : upN P Q = P := if_neg (by have := HC.out.1; omega)
  have e2 : upN Q Q = Q := if_neg (by have := HC.out.1; omega)
  rw [e1] at hz
  rw [e2] at hzd
  clear e1 e2
  clear c60 c61 f60 f61 s6
  clear c80 c81 f80 f81 s8
  replace B0 := Lib.hid (B0.out.below hb)
  replace BR := Lib.hid (BR.out.below hb)
  replace B6 := Lib.hid (B6.out.below hb)
  replace B8 := Lib.hid (B8.out.below hb)
  replace X := Lib.hid (X.out.below hb)
  replace X1 := Lib.hid (X1.out.below hb)
  replace T1 := Lib.hid (T1.out.below hb)
  replace T2 := Lib.hid (T2.out.below hb)
  replace T3 := Lib.hid (T3.out.below hb)
  replace hw := hw.trans (hb.mono hw.size)
  have T4 := Lib.hid hz
  have T5 := Lib.hid hzd
  clear hb hz hzd
  obtain ⟨r0, r1, r2, r3, r4, r5, r6, r7, r8⟩ := BR.out
  go_wp2
  exact bodyPost_ret (v := .tuple #[.agg #[.bool g7, .slice A7 n7 o7, .bool e7, .slice E7 m7 d7], .int .i64 0]) (by simp [results, Tryz.results32, go_sem, r0, r1, r2, r3]) rfl (Or.inr ⟨n, d, HX0.out.1, HX0.out.2, Or.inl ⟨HK.out.1, rfl, rfl⟩, ⟨g7, A7, n7, o7, e7, E7, m7, d7, rfl, by rw [HP.out, HQ.out]; exact (Rat.mk' T4.out T5.out HC.out.1 HC.out.2).put4 BR.out _ _ _ _⟩, below_put4 hw (by omega) _ _ _ _⟩)

end Go.Proofs.YtbajnceoolkckaaGreat
/- The reference's Root. -/
namespace Go.Proofs.YtbajnceoolkckaaGreat
open Go.RowKit LM

/-- r is the root of x, rounded down. -/
def IsRoot (x r : Int) : Prop := 0 ≤ r ∧ r * r ≤ x ∧ x < (r + 1) * (r + 1)

theorem IsRoot.same {x r s : Int} (h : IsRoot x r) (g : IsRoot x s) : r = s := by
 obtain ⟨h0, h1, h2⟩ := h
 obtain ⟨g0, g1, g2⟩ := g
 have key : ∀ a b : Int, 0 ≤ a → 0 ≤ b → a * a ≤ x → x < (b + 1) * (b + 1) → a ≤ b := by
  intro a b ha hb h1 h2
  refine Int.not_lt.1 fun hlt => ?_
  have h3 : (b + 1) * (b + 1) ≤ a * a := Int.mul_le_mul (by omega) (by omega) (by omega) ha
  omega
 exact Int.le_antisymm (key r s h0 g0 h1 g2) (key s r g0 h0 g1 h2)

theorem RBox.mono {w : World} {b : Nat} {z : Int} {L M : Nat} (h : RBox w b z L) (hm : L ≤ M) : RBox w b z M := by
 obtain ⟨g, A, n, c, h1, h2, h3, h4, h5, h6⟩ := h
 exact ⟨g, A, n, c, h1, h2, h3, h4, h5, h6.mono hm⟩
/-- What the loop holds: j bits are left. -/
def RootAt (x : Int) (j : Nat) (r : Int) : Prop := 0 ≤ r ∧ r * r ≤ x ∧ x < (r + 2 ^ j) * (r + 2 ^ j)

theorem RootAt.start {x : Int} (h0 : 0 ≤ x) {d : Nat} (hd : x < 2 ^ d) : RootAt x (d / 2 + 1) 0 := by
 refine ⟨Int.le_refl _, by omega, ?_⟩
 have h1 := two_mono (show d ≤ (d / 2 + 1) + (d / 2 + 1) by omega)
 rw [Int.pow_add] at h1
 rw [Int.zero_add]
 omega

theorem RootAt.low {x : Int} {j : Nat} {r : Int} (h : RootAt x (j + 1) r) (hc : x < (r + 2 ^ j) * (r + 2 ^ j)) : RootAt x j r := ⟨h.1, h.2.1, hc⟩

theorem RootAt.high {x : Int} {j : Nat} {r : Int} (h : RootAt x (j + 1) r) (hc : (r + 2 ^ j) * (r + 2 ^ j) ≤ x) : RootAt x j (r + 2 ^ j) := by
 have := two_pos j
 refine ⟨by have := h.1; omega, hc, ?_⟩
 have h3 := h.2.2
 rw [Int.pow_succ] at h3
 rw [show r + 2 ^ j + 2 ^ j = r + 2 ^ j * 2 by omega]
 exact h3

theorem RootAt.done {x r : Int} (h : RootAt x 0 r) : IsRoot x r := ⟨h.1, h.2.1, by have := h.2.2; rwa [Int.pow_zero] at this⟩

end Go.Proofs.YtbajnceoolkckaaGreat
/- The mathematics of Newton's root. -/
namespace Go.Proofs.YtbajnceoolkckaaGreat
open Go.RowKit LM

theorem four_le (x m : Int) : 4 * (x * m) ≤ (x + m) * (x + m) := by
 have h : 0 ≤ (x - m) * (x - m) := by
  rcases Int.le_total 0 (x - m) with h | h
  ·exact Int.mul_nonneg h h
  ·exact Int.mul_nonneg_of_nonpos_of_nonpos h h
 simp only [Int.add_mul, Int.mul_add, Int.sub_mul, Int.mul_sub] at *
 rw [Int.mul_comm m x] at *
 generalize x * x = a at *
 generalize x * m = b at *
 generalize m * m = c at *
 omega

/-- One step of Newton stays above the root. -/
theorem newton_low {a x : Int} (ha : 0 ≤ a) (hx : 0 < x) {y : Int} (hy : y = (x + a / x) / 2) : a < (y + 1) * (y + 1) := by
 have h1 := Int.lt_ediv_add_one_mul_self a hx
 have hq : 0 ≤ a / x := Int.ediv_nonneg ha (by omega)
 obtain ⟨m, hm⟩ : ∃ m, a / x + 1 = m := ⟨_, rfl⟩
 rw [hm, Int.mul_comm] at h1
 have h2 := four_le x m
 have h3 : x + m ≤ 2 * (y + 1) := by omega
 have h4 : (x + m) * (x + m) ≤ (2 * (y + 1)) * (2 * (y + 1)) := Int.mul_le_mul h3 h3 (by omega) (by omega)
 have h5 : (2 * (y + 1)) * (2 * (y + 1)) = 4 * ((y + 1) * (y + 1)) := by
  rw [Int.mul_assoc, Int.mul_left_comm (y + 1) 2, ← Int.mul_assoc]; rfl
 rw [h5] at h4
 generalize (y + 1) * (y + 1) = s at *
 generalize x * m = u at *
 generalize (x + m) * (x + m) = v at *
 omega

/-- Where the step goes no lower, it stands at the root. -/
theorem newton_done {a x : Int} (_ha : 0 ≤ a) (hx : 0 < x) (hl : a < (x + 1) * (x + 1)) (hy : x ≤ (x + a / x) / 2) : IsRoot a x := by
 refine ⟨by omega, ?_, hl⟩
 have hq : x ≤ a / x := by omega
 have h1 : x * x ≤ a / x * x := Int.mul_le_mul_of_nonneg_right hq (by omega)
 exact Int.le_trans h1 (Int.ediv_mul_le a (by omega))

/-- The first guess. -/
theorem newton_start {a : Int} {k : Nat} (ha : a < 2 ^ k) : a < (2 ^ ((k + 1) / 2) + 1) * (2 ^ ((k + 1) / 2) + 1) := by
 have h1 := two_mono (show k ≤ (k + 1) / 2 + (k + 1) / 2 by omega)
 rw [Int.pow_add] at h1
 have h2 := two_pos ((k + 1) / 2)
 generalize (2 : Int) ^ ((k + 1) / 2) = s at *
 rw [Int.add_mul, Int.mul_add]
 omega

end Go.Proofs.YtbajnceoolkckaaGreat
/- root, Root. -/
namespace Go.Proofs.YtbajnceoolkckaaGreat
open Go.RowKit LM

/-- The room that a number takes follows from its value. -/
theorem Num.cut {w : World} {u : Value} {z : Int} {L K : Nat} (h : Num w u z L) (hz : z < BB ^ K) : Num w u z K := by
 obtain ⟨A, n, c, xs, rfl, hr, hd, ht, rfl, hn⟩ := h
 refine ⟨A, n, c, xs, rfl, hr, hd, ht, rfl, ?_⟩
 by_cases h0 : n = 0
 ·omega
 ·have h1 := val_ge hd ht (by rw [hr.1]; exact h0)
  by_cases h2 : n ≤ K
  ·exact h2
  ·exfalso
   have h3 : BB ^ K ≤ BB ^ (xs.length - 1) := pow_le (by rw [hr.1]; omega)
   omega

set_option maxRecDepth 100000 in
set_option maxHeartbeats 1000000 in
theorem root_num (u : Value) (z : Int) (L : Nat) (w : World) (h : Num w u z L) (hL : L ≤ 30000) :
  Calls Tryz.prog 163 #[u] w fun e w' => (∃ v r, e = .returned v ∧ Num w' v r (L + 1) ∧ IsRoot z r) ∧ Below w.heap.size w w' := by
 have hz0 := h.nonneg
 obtain ⟨A, n, c, xs, rfl, hr, hd, ht, hv, hn⟩ := id h
 have HH := Lib.hid h
 by_cases hn0 : n = 0
 ·have hz : z = 0 := by rw [← hv]; exact (trimmed_zero hd ht).2 (List.eq_nil_of_length_eq_zero (by rw [hr.1]; exact hn0))
  have HZ := Lib.hid hz
  subst hn0
  clear h hr hd ht hv hz
  go_enter Tryz.func163, Tryz.ntmps163
  go_wp2_with fail
  go_ret
  refine ⟨⟨_, 0, rfl, ⟨none, 0, 0, [], rfl, Row.nil_, Dig.nil, .inl rfl, rfl, Nat.zero_le _⟩, ?_⟩, Below.refl _ _⟩
  rw [HZ.out]; exact ⟨by omega, by omega, by omega⟩
 ·have hL1 : 1 ≤ L := by omega
  have h1 : ((n : Int) == 0) = false := by simp; omega
  have hzp : z ≠ 0 := by
   intro e
   rw [← hv] at e
   have := (trimmed_zero hd ht).1 e
   rw [this] at hr
   have := hr.1
   simp at this; omega
  clear h hr hd ht hv
  go_enter Tryz.func163, Tryz.ntmps163
  go_wp2_with fail
  have hA := below_alloc w (.cells #[.int .u32 1] 135)
  refine (length_num _ z L _ (HH.out.below hA) (by omega)).mono ?_
  rintro e w1 ⟨⟨k, rfl, hlen, hk⟩, rfl⟩
  obtain ⟨m, hm⟩ : ∃ m, (k + 1) / 2 = m := ⟨_, rfl⟩
  have t1 : ((k : Int) + 1).tdiv 2 = (m : Int) := by rw [Int.tdiv_eq_ediv_of_nonneg (by omega)]; omega
  have t2 : ((k : Int) + 1) / 2 = (m : Int) := by omega
  have hzk : z < 2 ^ k := by
   rcases hlen with h | h
   ·exact absurd h.1 hzp
   ·exact h.2.2
  have hst := newton_start hzk
  rw [hm] at hst
  have hm1 : m ≤ 16 * L := by omega
  have hX0 : (2 : Int) ^ m < BB ^ L := by
   rw [BB_two]
   have h1 := two_mono (show m + 1 ≤ 32 * L by omega)
   have h2 := two_pos m
   rw [Int.pow_succ] at h1
   omega
  have h1row : Num (w.alloc (.cells #[.int .u32 1] 135)) (.slice (some ⟨w.heap.size, 0, none⟩) 1 1) 1 1 :=
   ⟨_, _, _, [1], rfl, row_one w 135, Dig.one (by decide) (by decide), .inr (by simp), by simp [val], Nat.le_refl _⟩
  have H1 := Lib.hid h1row
  have HX0 := Lib.hid hX0
  have HST := Lib.hid hst
  clear hm hlen hzk h1row hX0 hst
  go_wp2_with fail
  refine (up_num _ 1 1 m _ H1.out (by omega) (by omega)).mono ?_
  rintro e w2 ⟨v2, rfl, hv2, hb2⟩
  have hB2 := hA.trans (hb2.mono hA.size)
  rw [Int.one_mul] at hv2
  have HV2 := Lib.hid (hv2.cut HX0.out)
  clear hv2
  go_wp2_with fail
  go_loopg [3] (2 ^ m : Int).toNat (fun g xv wr => ∃ x : Int, g = x.toNat ∧ Num wr xv x L ∧ 0 < x ∧ Hid (z < (x + 1) * (x + 1)) ∧ Hid (x ≤ 2 ^ m) ∧ Below w.heap.size w wr)
  case atStart => exact ⟨_, rfl, HV2.out, two_pos m, HST, Lib.hid (Int.le_refl _), hB2⟩
  case round =>
   obtain ⟨x, rfl, hnx, hx0, hzx, hxm, hbw⟩ := hrel
   have HNX := Lib.hid hnx
   have HZ := HH.out.below hbw
   have HZN := Lib.hid HZ
   have hq0 : 0 ≤ z / x := Int.ediv_nonneg hz0 (by omega)
   clear hnx HZ
   go_wp2_with fail
   refine (divide_any _ _ z x L L _ HZN.out HNX.out (by omega) (by omega) (by omega)).mono ?_
   rintro e w3 ⟨A1, n1, c1, B1, m1, d1, rfl, hq, hr, hb3⟩
   have HQ := Lib.hid hq
   have HNX3 := Lib.hid (HNX.out.below hb3)
   clear hq hr
   go_wp2_with fail
   refine (add_num _ _ x (z / x) L (L + 2) _ HNX3.out HQ.out (by omega) (by omega)).mono ?_
   rintro e w4 ⟨v4, rfl, hv4, hb4⟩
   have HV4 := Lib.hid hv4
   have HNX4 := Lib.hid (HNX3.out.below hb4)
   clear hv4
   go_wp2_with fail
   refine (down_num _ _ _ 1 _ HV4.out (by omega) (by omega)).mono ?_
   rintro e w5 ⟨v5, rfl, hv5, hb5⟩
   obtain ⟨lost, hlost⟩ : ∃ lost, decide ((x + z / x) % 2 ^ 1 ≠ 0) = lost := ⟨_, rfl⟩
   rw [hlost]
   clear hlost
   obtain ⟨y, hy⟩ : ∃ y, (x + z / x) / 2 = y := ⟨_, rfl⟩
   have e2 : (2 : Int) ^ 1 = 2 := by decide
   rw [e2, hy] at hv5
   have HY := Lib.hid hy
   have HV5 := Lib.hid hv5
   have HNX5 := Lib.hid (HNX4.out.below hb5)
   have hbw5 := hbw.trans ((hb3.trans ((hb4.trans (hb5.mono hb4.size)).mono hb3.size)).mono hbw.size)
   clear hv5 hy e2
   go_wp2_with fail
   refine (compare_num _ _ y x (max L (L + 2) + 1) L _ HV5.out HNX5.out (by omega) (by omega)).mono ?_
   rintro e w6 ⟨rfl, q, rfl⟩
   by_cases hge : x ≤ y
   ·have hc : 0 ≤ cmpI y x := by rcases Int.lt_or_eq_of_le hge with h | h; rw [cmpI_gt h]; decide; rw [cmpI_eq h.symm]; decide
    have hdone := newton_done hz0 hx0 hzx.out (by rw [HY.out]; exact hge)
    have HD := Lib.hid hdone
    clear hdone hge
    go_wp2_with fail
    go_ret
    exact ⟨⟨_, x, rfl, (HNX5.out.mono (by omega)).below (below_drewN (Below.refl _ _) q), HD.out⟩, below_drewN hbw5 q⟩
   ·have hc : ¬ 0 ≤ cmpI y x := by rw [cmpI_lt (by omega)]; decide
    have hlow := newton_low (y := y) hz0 hx0 HY.out.symm
    have hy0 : 0 < y := by
     by_cases h0 : 0 < y
     ·exact h0
     ·exfalso
      have h1 : 0 ≤ (x + z / x) / 2 := by omega
      rw [HY.out] at h1
      obtain rfl : y = 0 := by omega
      simp at hlow
      omega
    have hyX : y < BB ^ L := by have := hxm.out; have := HX0.out; omega
    have HL := Lib.hid hlow
    have HV6 := Lib.hid ((HV5.out.cut hyX).below (below_drewN (Below.refl _ _) q))
    have hyx : y < x := by omega
    clear hlow hyX hge
    go_wp2_with fail
    go_roundg y.toNat
    case rel => exact ⟨y, rfl, HV6.out, hy0, HL, Lib.hid (by have := hxm.out; omega), below_drewN hbw5 q⟩
    case measure => omega

/-- What Root comes to. -/
def RootOf (x r : Int) : Prop := (x < 0 ∧ r = 0) ∨ (0 ≤ x ∧ IsRoot x r)
def rootE (x : Int) : Int := if x < 0 then 1 else 0

theorem RootOf.same {x r s : Int} (h : RootOf x r) (g : RootOf x s) : r = s := by
 rcases h with ⟨h1, h2⟩ | ⟨h1, h2⟩ <;> rcases g with ⟨g1, g2⟩ | ⟨g1, g2⟩
 ·omega
 ·omega
 ·omega
 ·exact h2.same g2

set_option maxHeartbeats 1000000 in
theorem Root_int (u : Value) (x : Int) (L : Nat) (w : World) (h : Ival w u x L) (hL : L ≤ 30000) :
  Calls Tryz.prog 133 #[u] w fun e w' => (∃ ng A2 n2 c2 r, e = .returned (.tuple #[.agg #[.bool ng, .slice A2 n2 c2], .int .i64 (rootE x)]) ∧ Ival w' (.agg #[.bool ng, .slice A2 n2 c2]) r (L + 1) ∧ RootOf x r) ∧ Below w.heap.size w w' := by
 obtain ⟨p, A, m, c, rfl⟩ := h.form
 obtain ⟨a, ha, ha0, rfl, ha1⟩ := h.parts
 have hW := below_two w (.cells #[.bool p, .slice A m c] 31) (.cells #[.bool false, .slice none 0 0] 31)
 cases p with
 | true =>
  have hx : withSign true a < 0 := by have := ha1 rfl; simp [withSign]; omega
  have hE : rootE (withSign true a) = 1 := if_pos hx
  rw [hE]
  have HX := Lib.hid hx
  clear hx hE h ha ha1
  obtain ⟨e1, e2, f1, f2⟩ := room1 (Below.refl (w.heap.size + 2) ((w.alloc (.cells #[.bool true, .slice A m c] 31)).alloc (.cells #[.bool false, .slice none 0 0] 31)))
  go_enter Tryz.func133, Tryz.ntmps133
  go_wp2
  refine bodyPost_ret (v := .tuple #[.agg #[.bool false, .slice none 0 0], .int .i64 1]) (by simp [results, Tryz.results133, go_sem, e1, e2]) rfl ⟨⟨_, _, _, _, 0, rfl, Ival.nought, .inl ⟨HX.out, rfl⟩⟩, ?_⟩
  exact hW
 | false =>
  have hx : withSign false a = a := rfl
  have hE : rootE a = 0 := if_neg (by omega)
  rw [hx, hE]
  have HA := Lib.hid ha
  have hB0 := Below.refl (w.heap.size + 2) ((w.alloc (.cells #[.bool false, .slice A m c] 31)).alloc (.cells #[.bool false, .slice none 0 0] 31))
  clear hx hE h ha ha1
  go_enter Tryz.func133, Tryz.ntmps133
  go_wp2_with fail
  refine (root_num _ a L _ (HA.out.below hW) (by omega)).mono ?_
  rintro e w3 ⟨⟨v, r, rfl, hv, hroot⟩, hb3⟩
  have HR := Lib.hid hv
  have HRT := Lib.hid hroot
  have hB3 := hB0.trans (hb3.mono (B' := w.heap.size + 2) (by simp))
  clear hv hroot
  go_wp2_with fail
  refine (signed_out false _ r (L + 1) _ HR.out (by omega)).mono ?_
  rintro e w4 ⟨ng, A2, n2, c2, rfl, hv, hb4⟩
  have hB4 := hB3.trans (hb4.mono (B' := w.heap.size + 2) (by have := hB3.size; simp at this; omega))
  obtain ⟨e1, e2, f1, f2⟩ := room1 hB4
  have HV := Lib.hid (show Ival w4 (.agg #[.bool ng, .slice A2 n2 c2]) r (L + 1) from hv)
  clear hv
  go_wp2
  refine bodyPost_ret (v := .tuple #[.agg #[.bool ng, .slice A2 n2 c2], .int .i64 0]) (by simp [results, Tryz.results133, go_sem, e1, e2]) rfl ⟨⟨_, _, _, _, r, rfl, HV.out.stored e1 e2 _ _, .inr ⟨ha0, HRT.out⟩⟩, ?_⟩
  exact ((hW.trans (hB4.mono (by omega))).setCell (by show _ ≤ _; simp) _).setCell (by show _ ≤ _; simp) _

end Go.Proofs.YtbajnceoolkckaaGreat
