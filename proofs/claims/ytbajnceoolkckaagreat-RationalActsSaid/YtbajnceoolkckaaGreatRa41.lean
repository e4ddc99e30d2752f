/- Of the proof of RationalActs: RatAc. -/
import Derived.Test.YtbajnceoolkckaaGreatRa38
import Derived.Test.YtbajnceoolkckaaGreatRa40
open Go.Lib renaming hid → Hd
set_option maxRecDepth 100000
set_option maxHeartbeats 16000000
namespace Go.Proofs.YtbajnceoolkckaaGreat
open Go.RowKit LM
theorem p16_le {i j:Nat} (h:i <= j) : (65536:Int) ^ i <= 65536 ^ j:=by
 obtain ⟨B,hB⟩ : ∃ B:Nat,65536 = B:=⟨_,rfl⟩
 have hc:(65536:Int) = (B:Int):=by omega
 rw [hc]
 have:=Nat.pow_le_pow_right (show 0 < B by omega) h
 exact_mod_cast this
theorem Rval.tight {w:World} {v:Value} {z:Int} {L K:Nat} (h:Rval w v z L) (hz:(z.natAbs:Int) < 65536 ^ K) : Rval w v z K:=by
 obtain ⟨neg,A,n,c,ds,e,hr,hd,ht,hs,hneg,hn⟩:=h
 refine ⟨neg,A,n,c,ds,e,hr,hd,ht,hs,hneg,?_⟩
 by_cases h0:n = 0
 ·omega
 ·have h1:=valR_ge hd ht (by rw [hr.1];exact h0)
  by_cases h2:n <= K
  ·exact h2
  ·exfalso
   have h3:(65536:Int) ^ K <= 65536 ^ (ds.length - 1):=p16_le (by rw [hr.1];omega)
   have h4:0 <= valR 65536 ds:=valR_nonneg (by decide) hd
   have h5:(z.natAbs:Int) = valR 65536 ds:=by
    cases neg <;> simp [withSign] at hs <;> omega
   omega
theorem Rval.lt_pow {w:World} {v:Value} {z:Int} {L:Nat} (h:Rval w v z L) : (z.natAbs:Int) < 65536 ^ L:=by
 obtain ⟨neg,A,n,c,ds,e,hr,hd,ht,hs,hneg,hn⟩:=h
 have h1:=valR_lt (R:=65536) (by decide) hd
 have h3:(65536:Int) ^ ds.length <= 65536 ^ L:=p16_le (by rw [hr.1];exact hn)
 have h4:0 <= valR 65536 ds:=valR_nonneg (by decide) hd
 have h5:(z.natAbs:Int) = valR 65536 ds:=by
  cases neg <;> simp [withSign] at hs <;> omega
 omega
theorem RQ.tight {w:World} {v:Value} {n d:Int} {L K:Nat} (h:RQ w v n d L) (hn:(n.natAbs:Int) < 65536 ^ K) (hd:(d.natAbs:Int) < 65536 ^ K) : RQ w v n d K:=by
 obtain ⟨g1,A1,n1,c1,g2,A2,n2,c2,e,h1,h2,h3⟩:=h
 exact ⟨g1,A1,n1,c1,g2,A2,n2,c2,e,h1.tight hn,h2.tight hd,h3⟩
theorem unit_even {a:Int} (h:a = 1 \/ a = -1) {p q:Nat} (hp:p % 2 = q % 2) : a ^ p = a ^ q:=by
 have ha:a ^ 2 = 1:=by rcases h with rfl | rfl <;> rfl
 have key:∀ r:Nat,a ^ r = a ^ (r % 2):=fun r=>by
  have e:r = 2 * (r / 2) + r % 2:=by omega
  have h1:a ^ r = a ^ (2 * (r / 2) + r % 2):=congrArg (fun t=>a ^ t) e
  rw [h1,Int.pow_add,Int.pow_mul,ha,Int.one_pow,Int.one_mul]
 rw [key p,key q,hp]
def PowOk (n d k:Int) : Prop:=(-40 <= k /\ k <= 40) \/ (-1 <= n /\ n <= 1 /\ d = 1)
theorem PowOk.unit {n d k:Int} (h:PowOk n d k) (hk:¬ (-40 <= k /\ k <= 40)) (hn:n ≠ 0) : (upN d n = 1 \/ upN d n = -1) /\ upN n n = 1:=by
 rcases h with h | ⟨h1,h2,rfl⟩
 ·exact absurd h hk
 ·rcases (show n = 1 \/ n = -1 by omega) with rfl | rfl
  ·exact ⟨Or.inl rfl,rfl⟩
  ·exact ⟨Or.inr rfl,rfl⟩
theorem PowOk.up {n d k kk:Int} (h:PowOk n d k) (hn:n ≠ 0) (hkk:kk <= 40 \/ ¬ (-40 <= k /\ k <= 40)) : (kk <= 40 \/ -1 <= upN d n /\ upN d n <= 1) /\ (kk <= 40 \/ -1 <= upN n n /\ upN n n <= 1):=by
 rcases hkk with h0 | h0
 ·exact ⟨Or.inl h0,Or.inl h0⟩
 ·obtain ⟨h1,h2⟩:=h.unit h0 hn
  exact ⟨Or.inr (by omega),Or.inr (by omega)⟩
theorem PowOk.same {n d k kk:Int} (h:PowOk n d k) (hn:n ≠ 0) (h0:0 <= kk) (hkk:kk.toNat = k.natAbs \/ (¬ (-40 <= k /\ k <= 40) /\ kk.toNat % 2 = k.natAbs % 2)) : powV (upN d n) kk = upN d n ^ k.natAbs /\ powV (upN n n) kk = upN n n ^ k.natAbs:=by
 rw [pow_nat h0,pow_nat h0]
 rcases hkk with e | ⟨h1,h2⟩
 ·rw [e];exact ⟨rfl,rfl⟩
 ·obtain ⟨h3,h4⟩:=h.unit h1 hn
  exact ⟨unit_even h3 h2,unit_even (Or.inl h4) h2⟩
theorem new_cop {n d:Int} (hn:n ≠ 0) (h:Int.gcd n d = 1) : newN d n = upN d n /\ newD d n = upN n n:=by
 have hg:((Int.gcd d n:Nat) : Int) = 1:=by rw [Int.gcd_comm,h];rfl
 constructor
 ·unfold newN;rw [if_neg hn,hg,Int.tdiv_one,Int.tdiv_one]
 ·unfold newD;rw [if_neg hn,hg,Int.tdiv_one]
def RPowQ (n d k:Int) (w:World) (e:Ending) (w':World) : Prop:=
 (k < 0 /\ n = 0 /\ RQErr 64 0 1 6 w e w') \/ ∃ a b,0 < b /\ Int.gcd a b = 1 /\ ((0 <= k /\ a = n /\ b = d) \/ (k < 0 /\ n ≠ 0 /\ a = upN d n /\ b = upN n n)) /\ RQErr 1000 (a ^ k.natAbs) (b ^ k.natAbs) 0 w e w'
theorem Power_w (v:Value) (n d k:Int) (L:Nat) (w:World) (h:Rat w v n d L) (hL:L <= 16) (hL2:2 <= L) (hk1:-9223372036854775808 <= k) (hk2:k <= 9223372036854775807) (hok:PowOk n d k) :
  Calls Tryz.prog 32 #[v,.int .i64 k] w (PowQ n d k w):=by
 obtain ⟨g1,A1,n1,c1,e1,E1,m1,d1,rfl⟩:=h.form
 obtain ⟨hw,F0,F1,hs⟩:=two44 w (.bool g1) (.slice A1 n1 c1) (.bool e1) (.slice E1 m1 d1) (.bool false) (.slice none 0 0) (.bool false) (.slice none 0 0)
 have X:=Hd (h.below hw)
 obtain ⟨W0,hW0⟩ : ∃ W0,(w.alloc (.cells #[.bool g1,.slice A1 n1 c1,.bool e1,.slice E1 m1 d1] 38)).alloc (.cells #[.bool false,.slice none 0 0,.bool false,.slice none 0 0] 38) = W0:=⟨_,rfl⟩
 rw [hW0] at hw F0 F1 hs X
 have B0:=Hd F0
 have BR:=Hd F1
 clear F0 F1 h
 have HO:=Hd hok
 have HB:=Hd (And.intro hk1 hk2)
 clear hok hk1 hk2
 go_enter Tryz.func32,Tryz.ntmps32
 go_upto_region 1 with fail
 clear hW0
 by_cases hk:k < 0
 ·skip
  go_upto_region 2 with fail
  have HKN:=Hd hk
  clear hk
  obtain ⟨c00,c01,c02,c03,f00,f01,f02,f03,s0⟩:=B0.out
  go_wp2_with fail
  refine (Sign_any _ n d L _ X.out).mono ?_
  rintro e w1 ⟨rfl,hb⟩
  clear c00 c01 c02 c03 f00 f01 f02 f03 s0
  replace B0:=Hd (B0.out.below hb)
  replace BR:=Hd (BR.out.below hb)
  replace X:=Hd (X.out.below hb)
  replace hw:=hw.trans (hb.mono hw.size)
  clear hb
  by_cases hn:n = 0
  ·skip
   have hcm:cmpI n 0 = 0:=cmpI_eq hn
   rw [hcm]
   clear hcm
   have HN:=Hd hn
   clear hn
   obtain ⟨r0,r1,r2,r3,r4,r5,r6,r7,r8⟩:=BR.out
   go_wp2
   exact bodyPost_ret (v:=.tuple #[.agg #[.bool false,.slice none 0 0,.bool false,.slice none 0 0],.int .i64 6]) (by simp [results,Tryz.results32,go_sem,r0,r1,r2,r3]) rfl (Or.inl ⟨HKN.out,HN.out,⟨⟨false,none,0,0,false,none,0,0,rfl,_,_,_,_,_,_,_,_,rfl,Ival.nought,Ival.nought,by decide,by decide⟩,below_put4 hw (by omega) _ _ _ _⟩⟩)
  ·skip
   have hcm:(cmpI n 0 == 0) = false:=cmp_ne hn
   have HN:=Hd hn
   clear hn
   go_upto_region 4 with fail
   clear hcm
   obtain ⟨c00,c01,c02,c03,f00,f01,f02,f03,s0⟩:=B0.out
   go_wp2_with fail
   refine (inverse_any _ n d L _ X.out (by omega) hL2 HN.out).mono ?_
   rintro e w2 ⟨⟨g3,A3,n3,c3,e3,E3,m3,d3,rfl,hz⟩,hb⟩
   clear c00 c01 c02 c03 f00 f01 f02 f03 s0
   clear X
   replace B0:=Hd (B0.out.below hb)
   replace BR:=Hd (BR.out.below hb)
   replace hw:=hw.trans (hb.mono hw.size)
   have XN:=Hd hz
   clear hb hz
   have FB:=B0.out
   replace XN:=Hd (XN.out.putG FB (.bool g3) (.slice A3 n3 c3) (.bool e3) (.slice E3 m3 d3))
   replace BR:=Hd (BR.out.other4 (show w.heap.size ≠ w.heap.size + 1 by omega) (.bool g3) (.slice A3 n3 c3) (.bool e3) (.slice E3 m3 d3))
   replace hw:=below_put4 hw (Nat.le_refl w.heap.size) (.bool g3) (.slice A3 n3 c3) (.bool e3) (.slice E3 m3 d3)
   replace B0:=Hd (B0.out.put (.bool g3) (.slice A3 n3 c3) (.bool e3) (.slice E3 m3 d3))
   obtain ⟨x0,x1,x2,x3,x4,x5,x6,x7,x8⟩:=FB
   by_cases hm:k = -9223372036854775808
   ·skip
    have hkm:(k == -9223372036854775808) = true:=by rw [hm];rfl
    obtain ⟨k2,hk2⟩ : ∃ k2,k + 2 = k2:=⟨_,rfl⟩
    have hwa:IntKind.i64.wrap (k + 2) = k2:=by rw [IntKind.wrap_i64];omega
    obtain ⟨kk,hkk⟩ : ∃ kk,-k2 = kk:=⟨_,rfl⟩
    have hwk:IntKind.i64.wrap (-k2) = kk:=by rw [IntKind.wrap_i64];omega
    have HK:=Hd (show 0 <= kk /\ kk <= 9223372036854775807 by omega)
    have HE:=Hd (show (kk.toNat = k.natAbs \/ (¬ (-40 <= k /\ k <= 40) /\ kk.toNat % 2 = k.natAbs % 2)) /\ (kk <= 40 \/ ¬ (-40 <= k /\ k <= 40)) by omega)
    clear hm hk2 hkk
    go_upto_region 8 with fail
    have hput:(((w2.setCell ⟨w.heap.size,0,none⟩ (.bool g3)).setCell ⟨w.heap.size,1,none⟩ (.slice A3 n3 c3)).setCell ⟨w.heap.size,2,none⟩ (.bool e3)).setCell ⟨w.heap.size,3,none⟩ (.slice E3 m3 d3) = put4 w2 w.heap.size (.bool g3) (.slice A3 n3 c3) (.bool e3) (.slice E3 m3 d3):=rfl
    rw [hput]
    clear hput x0 x1 x2 x3 x4 x5 x6 x7 x8 hkm hwk
    generalize put4 w2 w.heap.size (.bool g3) (.slice A3 n3 c3) (.bool e3) (.slice E3 m3 d3) = wp at *
    have X:=XN
    clear XN
    have HC2:=Hd (PowOk.up HO.out HN.out HE.out.2)
    have HS:=Hd (PowOk.same HO.out HN.out HK.out.1 HE.out.1)
    have X1:=Hd X.out.parts.1
    have hpe:powE kk = 0:=if_neg (by have:=HK.out;omega)
    have HPE:=Hd hpe
    clear hpe
    obtain ⟨c00,c01,c02,c03,f00,f01,f02,f03,s0⟩:=B0.out
    go_wp2_with fail
    refine (Power_int _ (upN d n) kk L _ X1.out hL HK.out.2 HC2.out.1).mono ?_
    rintro e w4 ⟨⟨g6,A6,n6,o6,rfl,hz⟩,hb⟩
    rw [HPE.out]
    rw [HS.out.1] at hz
    clear c00 c01 c02 c03 f00 f01 f02 f03 s0
    replace B0:=Hd (B0.out.below hb)
    replace BR:=Hd (BR.out.below hb)
    replace X:=Hd (X.out.below hb)
    replace X1:=Hd (X1.out.below hb)
    replace hw:=hw.trans (hb.mono hw.size)
    have T1:=Hd hz
    clear hb hz
    have hX:=below_alloc w4 (.cells #[.bool g6,.slice A6 n6 o6] 31)
    replace B0:=Hd (B0.out.below hX)
    replace BR:=Hd (BR.out.below hX)
    replace X:=Hd (X.out.below hX)
    replace X1:=Hd (X1.out.below hX)
    replace T1:=Hd (T1.out.below hX)
    replace hw:=hw.trans (hX.mono hw.size)
    have B6:=Hd (Fx.new w4 (.bool g6) (.slice A6 n6 o6) 31)
    skip
    clear hX
    go_upto_region 11 with fail
    generalize w4.alloc (.cells #[.bool g6,.slice A6 n6 o6] 31) = W6 at *
    generalize w4.heap.size = k6 at *
    obtain ⟨c00,c01,c02,c03,f00,f01,f02,f03,s0⟩:=B0.out
    go_wp2_with fail
    refine (Denominator_any _ (upN d n) (upN n n) L _ X.out hL2).mono ?_
    rintro e w5 ⟨⟨gt5,At5,nt5,ct5,rfl,hz⟩,hb⟩
    clear c00 c01 c02 c03 f00 f01 f02 f03 s0
    replace B0:=Hd (B0.out.below hb)
    replace BR:=Hd (BR.out.below hb)
    replace B6:=Hd (B6.out.below hb)
    replace X:=Hd (X.out.below hb)
    replace X1:=Hd (X1.out.below hb)
    replace T1:=Hd (T1.out.below hb)
    replace hw:=hw.trans (hb.mono hw.size)
    have T2:=Hd hz
    clear hb hz
    go_wp2_with fail
    refine (Power_int _ (upN n n) kk L _ T2.out hL HK.out.2 HC2.out.2).mono ?_
    rintro e w6 ⟨⟨g8,A8,n8,o8,rfl,hz⟩,hb⟩
    rw [HPE.out]
    rw [HS.out.2] at hz
    replace B0:=Hd (B0.out.below hb)
    replace BR:=Hd (BR.out.below hb)
    replace B6:=Hd (B6.out.below hb)
    replace X:=Hd (X.out.below hb)
    replace X1:=Hd (X1.out.below hb)
    replace T1:=Hd (T1.out.below hb)
    replace T2:=Hd (T2.out.below hb)
    replace hw:=hw.trans (hb.mono hw.size)
    have T3:=Hd hz
    clear hb hz
    have hX:=below_alloc w6 (.cells #[.bool g8,.slice A8 n8 o8] 31)
    replace B0:=Hd (B0.out.below hX)
    replace BR:=Hd (BR.out.below hX)
    replace B6:=Hd (B6.out.below hX)
    replace X:=Hd (X.out.below hX)
    replace X1:=Hd (X1.out.below hX)
    replace T1:=Hd (T1.out.below hX)
    replace T2:=Hd (T2.out.below hX)
    replace T3:=Hd (T3.out.below hX)
    replace hw:=hw.trans (hX.mono hw.size)
    have B8:=Hd (Fx.new w6 (.bool g8) (.slice A8 n8 o8) 31)
    skip
    clear hX
    go_upto_region 14 with fail
    generalize w6.alloc (.cells #[.bool g8,.slice A8 n8 o8] 31) = W8 at *
    generalize w6.heap.size = k8 at *
    have hbp:0 < (upN n n) ^ k.natAbs:=Int.pow_pos X.out.parts.2.2.1
    have hgc:Int.gcd ((upN d n) ^ k.natAbs) ((upN n n) ^ k.natAbs) = 1:=pow_cop X.out.parts.2.2.2
    have HC:=Hd (And.intro hbp hgc)
    have HX0:=Hd X.out.parts.2.2
    obtain ⟨P,hP⟩ : ∃ P,(upN d n) ^ k.natAbs = P:=⟨_,rfl⟩
    obtain ⟨Q,hQ⟩ : ∃ Q,(upN n n) ^ k.natAbs = Q:=⟨_,rfl⟩
    rw [hP] at T1 HC
    rw [hQ] at T3 HC
    have HP:=Hd hP
    have HQ:=Hd hQ
    clear hbp hgc hP hQ
    obtain ⟨c60,c61,f60,f61,s6⟩:=B6.out
    obtain ⟨c80,c81,f80,f81,s8⟩:=B8.out
    go_wp2_with fail
    refine (coprime_c _ _ P Q 200000 _ T1.out T3.out (by decide)).mono ?_
    rintro e w7 ⟨⟨g7,A7,n7,o7,e7,E7,m7,d7,rfl,hz,hzd⟩,hb⟩
    have e1:upN P Q = P:=if_neg (by have:=HC.out.1;omega)
    have e2:upN Q Q = Q:=if_neg (by have:=HC.out.1;omega)
    rw [e1] at hz
    rw [e2] at hzd
    clear e1 e2
    clear c60 c61 f60 f61 s6
    clear c80 c81 f80 f81 s8
    replace B0:=Hd (B0.out.below hb)
    replace BR:=Hd (BR.out.below hb)
    replace B6:=Hd (B6.out.below hb)
    replace B8:=Hd (B8.out.below hb)
    replace X:=Hd (X.out.below hb)
    replace X1:=Hd (X1.out.below hb)
    replace T1:=Hd (T1.out.below hb)
    replace T2:=Hd (T2.out.below hb)
    replace T3:=Hd (T3.out.below hb)
    replace hw:=hw.trans (hb.mono hw.size)
    have T4:=Hd hz
    have T5:=Hd hzd
    clear hb hz hzd
    obtain ⟨r0,r1,r2,r3,r4,r5,r6,r7,r8⟩:=BR.out
    go_wp2
    exact bodyPost_ret (v:=.tuple #[.agg #[.bool g7,.slice A7 n7 o7,.bool e7,.slice E7 m7 d7],.int .i64 0]) (by simp [results,Tryz.results32,go_sem,r0,r1,r2,r3]) rfl (Or.inr ⟨(upN d n),(upN n n),HX0.out.1,HX0.out.2,Or.inr ⟨HKN.out,HN.out,rfl,rfl⟩,⟨g7,A7,n7,o7,e7,E7,m7,d7,rfl,by rw [HP.out,HQ.out];exact (Rat.mk' T4.out T5.out HC.out.1 HC.out.2).put4 BR.out _ _ _ _⟩,below_put4 hw (by omega) _ _ _ _⟩)
   ·skip
    have hkm:¬ k = -9223372036854775808:=hm
    clear hm
    have hwk:IntKind.i64.wrap (-k) = -k:=by have:=HB.out;rw [IntKind.wrap_i64];omega
    obtain ⟨kk,hkk⟩ : ∃ kk,-k = kk:=⟨_,rfl⟩
    rw [hkk] at hwk
    have HK:=Hd (show 0 <= kk /\ kk <= 9223372036854775807 by have:=HKN.out;have:=HB.out;omega)
    have HE:=Hd (show (kk.toNat = k.natAbs \/ (¬ (-40 <= k /\ k <= 40) /\ kk.toNat % 2 = k.natAbs % 2)) /\ (kk <= 40 \/ ¬ (-40 <= k /\ k <= 40)) by have:=HKN.out;omega)
    skip
    go_upto_region 8 with fail
    have hput:(((w2.setCell ⟨w.heap.size,0,none⟩ (.bool g3)).setCell ⟨w.heap.size,1,none⟩ (.slice A3 n3 c3)).setCell ⟨w.heap.size,2,none⟩ (.bool e3)).setCell ⟨w.heap.size,3,none⟩ (.slice E3 m3 d3) = put4 w2 w.heap.size (.bool g3) (.slice A3 n3 c3) (.bool e3) (.slice E3 m3 d3):=rfl
    rw [hput]
    clear hput x0 x1 x2 x3 x4 x5 x6 x7 x8 hkm hwk
    generalize put4 w2 w.heap.size (.bool g3) (.slice A3 n3 c3) (.bool e3) (.slice E3 m3 d3) = wp at *
    have X:=XN
    clear XN
    have HC2:=Hd (PowOk.up HO.out HN.out HE.out.2)
    have HS:=Hd (PowOk.same HO.out HN.out HK.out.1 HE.out.1)
    have X1:=Hd X.out.parts.1
    have hpe:powE kk = 0:=if_neg (by have:=HK.out;omega)
    have HPE:=Hd hpe
    clear hpe
    obtain ⟨c00,c01,c02,c03,f00,f01,f02,f03,s0⟩:=B0.out
    go_wp2_with fail
    refine (Power_int _ (upN d n) kk L _ X1.out hL HK.out.2 HC2.out.1).mono ?_
    rintro e w4 ⟨⟨g6,A6,n6,o6,rfl,hz⟩,hb⟩
    rw [HPE.out]
    rw [HS.out.1] at hz
    clear c00 c01 c02 c03 f00 f01 f02 f03 s0
    replace B0:=Hd (B0.out.below hb)
    replace BR:=Hd (BR.out.below hb)
    replace X:=Hd (X.out.below hb)
    replace X1:=Hd (X1.out.below hb)
    replace hw:=hw.trans (hb.mono hw.size)
    have T1:=Hd hz
    clear hb hz
    have hX:=below_alloc w4 (.cells #[.bool g6,.slice A6 n6 o6] 31)
    replace B0:=Hd (B0.out.below hX)
    replace BR:=Hd (BR.out.below hX)
    replace X:=Hd (X.out.below hX)
    replace X1:=Hd (X1.out.below hX)
    replace T1:=Hd (T1.out.below hX)
    replace hw:=hw.trans (hX.mono hw.size)
    have B6:=Hd (Fx.new w4 (.bool g6) (.slice A6 n6 o6) 31)
    skip
    clear hX
    go_upto_region 11 with fail
    generalize w4.alloc (.cells #[.bool g6,.slice A6 n6 o6] 31) = W6 at *
    generalize w4.heap.size = k6 at *
    obtain ⟨c00,c01,c02,c03,f00,f01,f02,f03,s0⟩:=B0.out
    go_wp2_with fail
    refine (Denominator_any _ (upN d n) (upN n n) L _ X.out hL2).mono ?_
    rintro e w5 ⟨⟨gt5,At5,nt5,ct5,rfl,hz⟩,hb⟩
    clear c00 c01 c02 c03 f00 f01 f02 f03 s0
    replace B0:=Hd (B0.out.below hb)
    replace BR:=Hd (BR.out.below hb)
    replace B6:=Hd (B6.out.below hb)
    replace X:=Hd (X.out.below hb)
    replace X1:=Hd (X1.out.below hb)
    replace T1:=Hd (T1.out.below hb)
    replace hw:=hw.trans (hb.mono hw.size)
    have T2:=Hd hz
    clear hb hz
    go_wp2_with fail
    refine (Power_int _ (upN n n) kk L _ T2.out hL HK.out.2 HC2.out.2).mono ?_
    rintro e w6 ⟨⟨g8,A8,n8,o8,rfl,hz⟩,hb⟩
    rw [HPE.out]
    rw [HS.out.2] at hz
    replace B0:=Hd (B0.out.below hb)
    replace BR:=Hd (BR.out.below hb)
    replace B6:=Hd (B6.out.below hb)
    replace X:=Hd (X.out.below hb)
    replace X1:=Hd (X1.out.below hb)
    replace T1:=Hd (T1.out.below hb)
    replace T2:=Hd (T2.out.below hb)
    replace hw:=hw.trans (hb.mono hw.size)
    have T3:=Hd hz
    clear hb hz
    have hX:=below_alloc w6 (.cells #[.bool g8,.slice A8 n8 o8] 31)
    replace B0:=Hd (B0.out.below hX)
    replace BR:=Hd (BR.out.below hX)
    replace B6:=Hd (B6.out.below hX)
    replace X:=Hd (X.out.below hX)
    replace X1:=Hd (X1.out.below hX)
    replace T1:=Hd (T1.out.below hX)
    replace T2:=Hd (T2.out.below hX)
    replace T3:=Hd (T3.out.below hX)
    replace hw:=hw.trans (hX.mono hw.size)
    have B8:=Hd (Fx.new w6 (.bool g8) (.slice A8 n8 o8) 31)
    skip
    clear hX
    go_upto_region 14 with fail
    generalize w6.alloc (.cells #[.bool g8,.slice A8 n8 o8] 31) = W8 at *
    generalize w6.heap.size = k8 at *
    have hbp:0 < (upN n n) ^ k.natAbs:=Int.pow_pos X.out.parts.2.2.1
    have hgc:Int.gcd ((upN d n) ^ k.natAbs) ((upN n n) ^ k.natAbs) = 1:=pow_cop X.out.parts.2.2.2
    have HC:=Hd (And.intro hbp hgc)
    have HX0:=Hd X.out.parts.2.2
    obtain ⟨P,hP⟩ : ∃ P,(upN d n) ^ k.natAbs = P:=⟨_,rfl⟩
    obtain ⟨Q,hQ⟩ : ∃ Q,(upN n n) ^ k.natAbs = Q:=⟨_,rfl⟩
    rw [hP] at T1 HC
    rw [hQ] at T3 HC
    have HP:=Hd hP
    have HQ:=Hd hQ
    clear hbp hgc hP hQ
    obtain ⟨c60,c61,f60,f61,s6⟩:=B6.out
    obtain ⟨c80,c81,f80,f81,s8⟩:=B8.out
    go_wp2_with fail
    refine (coprime_c _ _ P Q 200000 _ T1.out T3.out (by decide)).mono ?_
    rintro e w7 ⟨⟨g7,A7,n7,o7,e7,E7,m7,d7,rfl,hz,hzd⟩,hb⟩
    have e1:upN P Q = P:=if_neg (by have:=HC.out.1;omega)
    have e2:upN Q Q = Q:=if_neg (by have:=HC.out.1;omega)
    rw [e1] at hz
    rw [e2] at hzd
    clear e1 e2
    clear c60 c61 f60 f61 s6
    clear c80 c81 f80 f81 s8
    replace B0:=Hd (B0.out.below hb)
    replace BR:=Hd (BR.out.below hb)
    replace B6:=Hd (B6.out.below hb)
    replace B8:=Hd (B8.out.below hb)
    replace X:=Hd (X.out.below hb)
    replace X1:=Hd (X1.out.below hb)
    replace T1:=Hd (T1.out.below hb)
    replace T2:=Hd (T2.out.below hb)
    replace T3:=Hd (T3.out.below hb)
    replace hw:=hw.trans (hb.mono hw.size)
    have T4:=Hd hz
    have T5:=Hd hzd
    clear hb hz hzd
    obtain ⟨r0,r1,r2,r3,r4,r5,r6,r7,r8⟩:=BR.out
    go_wp2
    exact bodyPost_ret (v:=.tuple #[.agg #[.bool g7,.slice A7 n7 o7,.bool e7,.slice E7 m7 d7],.int .i64 0]) (by simp [results,Tryz.results32,go_sem,r0,r1,r2,r3]) rfl (Or.inr ⟨(upN d n),(upN n n),HX0.out.1,HX0.out.2,Or.inr ⟨HKN.out,HN.out,rfl,rfl⟩,⟨g7,A7,n7,o7,e7,E7,m7,d7,rfl,by rw [HP.out,HQ.out];exact (Rat.mk' T4.out T5.out HC.out.1 HC.out.2).put4 BR.out _ _ _ _⟩,below_put4 hw (by omega) _ _ _ _⟩)
 ·skip
  go_upto_region 8 with fail
  have HK:=Hd (show 0 <= k /\ k <= 9223372036854775807 by have:=HB.out;omega)
  have HC2:=Hd (show (k <= 40 \/ -1 <= n /\ n <= 1) /\ (k <= 40 \/ -1 <= d /\ d <= 1) by rcases HO.out with h | h <;> omega)
  have HS:=Hd (show powV n k = n ^ k.natAbs /\ powV d k = d ^ k.natAbs from by rw [pow_nat HK.out.1,pow_nat HK.out.1,show k.toNat = k.natAbs by omega];exact ⟨rfl,rfl⟩)
  clear hk
  have X1:=Hd X.out.parts.1
  have hpe:powE k = 0:=if_neg (by have:=HK.out;omega)
  have HPE:=Hd hpe
  clear hpe
  obtain ⟨c00,c01,c02,c03,f00,f01,f02,f03,s0⟩:=B0.out
  go_wp2_with fail
  refine (Power_int _ n k L _ X1.out hL HK.out.2 HC2.out.1).mono ?_
  rintro e w4 ⟨⟨g6,A6,n6,o6,rfl,hz⟩,hb⟩
  rw [HPE.out]
  rw [HS.out.1] at hz
  clear c00 c01 c02 c03 f00 f01 f02 f03 s0
  replace B0:=Hd (B0.out.below hb)
  replace BR:=Hd (BR.out.below hb)
  replace X:=Hd (X.out.below hb)
  replace X1:=Hd (X1.out.below hb)
  replace hw:=hw.trans (hb.mono hw.size)
  have T1:=Hd hz
  clear hb hz
  have hX:=below_alloc w4 (.cells #[.bool g6,.slice A6 n6 o6] 31)
  replace B0:=Hd (B0.out.below hX)
  replace BR:=Hd (BR.out.below hX)
  replace X:=Hd (X.out.below hX)
  replace X1:=Hd (X1.out.below hX)
  replace T1:=Hd (T1.out.below hX)
  replace hw:=hw.trans (hX.mono hw.size)
  have B6:=Hd (Fx.new w4 (.bool g6) (.slice A6 n6 o6) 31)
  skip
  clear hX
  go_upto_region 11 with fail
  generalize w4.alloc (.cells #[.bool g6,.slice A6 n6 o6] 31) = W6 at *
  generalize w4.heap.size = k6 at *
  obtain ⟨c00,c01,c02,c03,f00,f01,f02,f03,s0⟩:=B0.out
  go_wp2_with fail
  refine (Denominator_any _ n d L _ X.out hL2).mono ?_
  rintro e w5 ⟨⟨gt5,At5,nt5,ct5,rfl,hz⟩,hb⟩
  clear c00 c01 c02 c03 f00 f01 f02 f03 s0
  replace B0:=Hd (B0.out.below hb)
  replace BR:=Hd (BR.out.below hb)
  replace B6:=Hd (B6.out.below hb)
  replace X:=Hd (X.out.below hb)
  replace X1:=Hd (X1.out.below hb)
  replace T1:=Hd (T1.out.below hb)
  replace hw:=hw.trans (hb.mono hw.size)
  have T2:=Hd hz
  clear hb hz
  go_wp2_with fail
  refine (Power_int _ d k L _ T2.out hL HK.out.2 HC2.out.2).mono ?_
  rintro e w6 ⟨⟨g8,A8,n8,o8,rfl,hz⟩,hb⟩
  rw [HPE.out]
  rw [HS.out.2] at hz
  replace B0:=Hd (B0.out.below hb)
  replace BR:=Hd (BR.out.below hb)
  replace B6:=Hd (B6.out.below hb)
  replace X:=Hd (X.out.below hb)
  replace X1:=Hd (X1.out.below hb)
  replace T1:=Hd (T1.out.below hb)
  replace T2:=Hd (T2.out.below hb)
  replace hw:=hw.trans (hb.mono hw.size)
  have T3:=Hd hz
  clear hb hz
  have hX:=below_alloc w6 (.cells #[.bool g8,.slice A8 n8 o8] 31)
  replace B0:=Hd (B0.out.below hX)
  replace BR:=Hd (BR.out.below hX)
  replace B6:=Hd (B6.out.below hX)
  replace X:=Hd (X.out.below hX)
  replace X1:=Hd (X1.out.below hX)
  replace T1:=Hd (T1.out.below hX)
  replace T2:=Hd (T2.out.below hX)
  replace T3:=Hd (T3.out.below hX)
  replace hw:=hw.trans (hX.mono hw.size)
  have B8:=Hd (Fx.new w6 (.bool g8) (.slice A8 n8 o8) 31)
  skip
  clear hX
  go_upto_region 14 with fail
  generalize w6.alloc (.cells #[.bool g8,.slice A8 n8 o8] 31) = W8 at *
  generalize w6.heap.size = k8 at *
  have hbp:0 < d ^ k.natAbs:=Int.pow_pos X.out.parts.2.2.1
  have hgc:Int.gcd (n ^ k.natAbs) (d ^ k.natAbs) = 1:=pow_cop X.out.parts.2.2.2
  have HC:=Hd (And.intro hbp hgc)
  have HX0:=Hd X.out.parts.2.2
  obtain ⟨P,hP⟩ : ∃ P,n ^ k.natAbs = P:=⟨_,rfl⟩
  obtain ⟨Q,hQ⟩ : ∃ Q,d ^ k.natAbs = Q:=⟨_,rfl⟩
  rw [hP] at T1 HC
  rw [hQ] at T3 HC
  have HP:=Hd hP
  have HQ:=Hd hQ
  clear hbp hgc hP hQ
  obtain ⟨c60,c61,f60,f61,s6⟩:=B6.out
  obtain ⟨c80,c81,f80,f81,s8⟩:=B8.out
  go_wp2_with fail
  refine (coprime_c _ _ P Q 200000 _ T1.out T3.out (by decide)).mono ?_
  rintro e w7 ⟨⟨g7,A7,n7,o7,e7,E7,m7,d7,rfl,hz,hzd⟩,hb⟩
  have e1:upN P Q = P:=if_neg (by have:=HC.out.1;omega)
  have e2:upN Q Q = Q:=if_neg (by have:=HC.out.1;omega)
  rw [e1] at hz
  rw [e2] at hzd
  clear e1 e2
  clear c60 c61 f60 f61 s6
  clear c80 c81 f80 f81 s8
  replace B0:=Hd (B0.out.below hb)
  replace BR:=Hd (BR.out.below hb)
  replace B6:=Hd (B6.out.below hb)
  replace B8:=Hd (B8.out.below hb)
  replace X:=Hd (X.out.below hb)
  replace X1:=Hd (X1.out.below hb)
  replace T1:=Hd (T1.out.below hb)
  replace T2:=Hd (T2.out.below hb)
  replace T3:=Hd (T3.out.below hb)
  replace hw:=hw.trans (hb.mono hw.size)
  have T4:=Hd hz
  have T5:=Hd hzd
  clear hb hz hzd
  obtain ⟨r0,r1,r2,r3,r4,r5,r6,r7,r8⟩:=BR.out
  go_wp2
  exact bodyPost_ret (v:=.tuple #[.agg #[.bool g7,.slice A7 n7 o7,.bool e7,.slice E7 m7 d7],.int .i64 0]) (by simp [results,Tryz.results32,go_sem,r0,r1,r2,r3]) rfl (Or.inr ⟨n,d,HX0.out.1,HX0.out.2,Or.inl ⟨HK.out.1,rfl,rfl⟩,⟨g7,A7,n7,o7,e7,E7,m7,d7,rfl,by rw [HP.out,HQ.out];exact (Rat.mk' T4.out T5.out HC.out.1 HC.out.2).put4 BR.out _ _ _ _⟩,below_put4 hw (by omega) _ _ _ _⟩)
end Go.Proofs.YtbajnceoolkckaaGreat
