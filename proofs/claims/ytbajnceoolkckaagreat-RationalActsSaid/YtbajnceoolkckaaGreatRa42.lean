/- Of the proof of RationalActs: RatAd. -/
import Derived.Test.YtbajnceoolkckaaGreatRa41
open List renaming getElem_toArray → gA, getElem_cons_succ → gS, getElem_cons_zero → gZ, setIfInBounds_toArray → tA, set_cons_zero → cZ, set_cons_succ → cS
open Go.Lib renaming hid → Hd
set_option maxRecDepth 100000
set_option maxHeartbeats 16000000
namespace Go.Proofs.YtbajnceoolkckaaGreat
open Go.RowKit LM
theorem tmod2 (k:Int) (h:k < 0) : (k.tmod 2 = 0 \/ k.tmod 2 = -1) /\ (k.tmod 2).natAbs = k.natAbs % 2:=by
 have h1:k = -(k.natAbs:Int):=by omega
 have h2:k.tmod 2 = -((k.natAbs:Int) % 2):=by
  rw [h1,Int.neg_tmod,Int.tmod_eq_emod_of_nonneg (by omega)]
  congr 2;omega
 omega
theorem Rval.putS {w:World} {s:Value} {z:Int} {L:Nat} (h:Rval w s z L) {b:Nat} {p q:Bool} {A B:Option Addr} {n c m d:Nat} (F:Fx4 w b (.bool p) (.slice A n c) (.bool q) (.slice B m d)) (x0 x1 x2 x3:Value) :
  Rval (Go.Proofs.YtbajnceoolkckaaGreat.put4 w b x0 x1 x2 x3) s z L:=by
 obtain ⟨neg,A',n',c',ds,e,hr,t⟩:=h
 refine ⟨neg,A',n',c',ds,e,(((hr.setOther (fun u=>by rw [F.c0];simp) x0).setOther (fun u=>?_) x1).setOther (fun u=>?_) x2).setOther (fun u=>?_) x3,t⟩
 ·rw [World.cell?_setCell_other _ _ _ _ (by simp),F.c1];simp
 ·rw [World.cell?_setCell_other _ _ _ _ (by simp),World.cell?_setCell_other _ _ _ _ (by simp),F.c2];simp
 ·rw [World.cell?_setCell_other _ _ _ _ (by simp),World.cell?_setCell_other _ _ _ _ (by simp),World.cell?_setCell_other _ _ _ _ (by simp),F.c3];simp
theorem RQ.putS {w:World} {s:Value} {n0 d0:Int} {L:Nat} (h:RQ w s n0 d0 L) {b:Nat} {p q:Bool} {A B:Option Addr} {n c m d:Nat} (F:Fx4 w b (.bool p) (.slice A n c) (.bool q) (.slice B m d)) (x0 x1 x2 x3:Value) : RQ (Go.Proofs.YtbajnceoolkckaaGreat.put4 w b x0 x1 x2 x3) s n0 d0 L:=by
 obtain ⟨g1,A1,n1,c1,g2,A2,n2,c2,e,h1,h2,h3⟩:=h
 exact ⟨g1,A1,n1,c1,g2,A2,n2,c2,e,h1.putS F _ _ _ _,h2.putS F _ _ _ _,h3⟩
theorem rPower_w (v:Value) (n d k:Int) (w:World) (h:RQ w v n d 16) (hk1:-9223372036854775808 <= k) (hk2:k <= 9223372036854775807) (hok:PowOk n d k) :
  Calls Tryz.prog 33 #[v,.int .i64 k] w (RPowQ n d k w):=by
 obtain ⟨g1,A1,n1,c1,e1,E1,m1,d1,rfl⟩:=h.form
 obtain ⟨hw,F0,F1,hs⟩:=two43 w (.bool g1) (.slice A1 n1 c1) (.bool e1) (.slice E1 m1 d1)
 have X:=Hd (h.below hw)
 obtain ⟨W0,hW0⟩ : ∃ W0,(w.alloc (.cells #[.bool g1,.slice A1 n1 c1,.bool e1,.slice E1 m1 d1] 43)).alloc (.cells #[.bool false,.slice none 0 0,.bool false,.slice none 0 0] 43) = W0:=⟨_,rfl⟩
 rw [hW0] at hw F0 F1 hs X
 have B0:=Hd F0
 have BR:=Hd F1
 clear F0 F1 h
 have HO:=Hd hok
 have HB:=Hd (And.intro hk1 hk2)
 clear hok hk1 hk2
 go_enter Tryz.func33,Tryz.ntmps33
 go_upto_region 1 with fail
 clear hW0
 by_cases hk:k < 0
 ·skip
  go_upto_region 2 with fail
  have HKN:=Hd hk
  clear hk
  obtain ⟨c00,c01,c02,c03,f00,f01,f02,f03,s0⟩:=B0.out
  go_wp2_with fail
  refine (rSign_q _ n d 16 _ X.out (by decide)).mono ?_
  rintro e w1 ⟨rfl,hb⟩
  clear c00 c01 c02 c03 f00 f01 f02 f03 s0
  replace B0:=Hd (B0.out.below hb)
  replace BR:=Hd (BR.out.below hb)
  replace X:=Hd (X.out.below hb)
  replace hw:=hw.trans (hb.mono hw.size)
  clear hb
  by_cases hn:n = 0
  ·skip
   have hcm:cmpI n 0 = 0:=cmpI_eq hn
   rw [hcm]
   clear hcm
   have HN:=Hd hn
   clear hn
   go_wp2_with fail
   refine (rInt_any 0 _ (by decide) (by decide)).mono ?_
   rintro e wz ⟨⟨y1,y2,y3,y4,y5,y6,y7,y8,rfl,hz,ho⟩,hb⟩
   replace BR:=Hd (BR.out.below hb)
   replace hw:=hw.trans (hb.mono hw.size)
   have HZ:=Hd hz
   have HO1:=Hd ho
   clear hz ho hb
   obtain ⟨r0,r1,r2,r3,r4,r5,r6,r7,r8⟩:=BR.out
   go_wp2
   exact bodyPost_ret (v:=.tuple #[.agg #[.bool y1,.slice y2 y3 y4,.bool y5,.slice y6 y7 y8],.int .i64 6]) (by simp [results,Tryz.results33,go_sem,r0,r1,r2,r3]) rfl (Or.inl ⟨HKN.out,HN.out,⟨⟨y1,y2,y3,y4,y5,y6,y7,y8,rfl,(RQ.mk' (HZ.out.mono (by omega)) (HO1.out.mono (by omega)) (by decide) (by decide)).put4 BR.out _ _ _ _⟩,below_put4 hw (by omega) _ _ _ _⟩⟩)
  ·skip
   have hcm:(cmpI n 0 == 0) = false:=cmp_ne hn
   have HN:=Hd hn
   clear hn
   go_upto_region 4 with fail
   clear hcm
   have X1:=Hd X.out.parts.1
   have X2:=Hd X.out.parts.2.1
   have HX1:=Hd (And.intro X1.out.lt_pow X2.out.lt_pow)
   have HX2:=Hd X.out.parts.2.2
   obtain ⟨c00,c01,c02,c03,f00,f01,f02,f03,s0⟩:=B0.out
   go_wp2_with fail
   refine (rOver_any _ _ d n 16 _ X2.out X1.out (by decide)).mono ?_
   rintro e w2 ⟨⟨g3,A3,n3,c3,e3,E3,m3,d3,rfl,hz⟩,hb⟩
   rw [(new_cop HN.out HX2.out.2).1,(new_cop HN.out HX2.out.2).2] at hz
   replace hz:=hz.tight (K:=16) (by have:=HX1.out.2;unfold upN;split <;> omega) (by have:=HX1.out.1;unfold upN;split <;> omega)
   clear c00 c01 c02 c03 f00 f01 f02 f03 s0
   clear X
   clear X1
   clear X2
   replace B0:=Hd (B0.out.below hb)
   replace BR:=Hd (BR.out.below hb)
   replace hw:=hw.trans (hb.mono hw.size)
   have XN:=Hd hz
   clear hb hz
   have FB:=B0.out
   replace XN:=Hd (XN.out.putS FB (.bool g3) (.slice A3 n3 c3) (.bool e3) (.slice E3 m3 d3))
   replace BR:=Hd (BR.out.other4 (show w.heap.size ≠ w.heap.size + 1 by omega) (.bool g3) (.slice A3 n3 c3) (.bool e3) (.slice E3 m3 d3))
   replace hw:=below_put4 hw (Nat.le_refl w.heap.size) (.bool g3) (.slice A3 n3 c3) (.bool e3) (.slice E3 m3 d3)
   replace B0:=Hd (B0.out.put (.bool g3) (.slice A3 n3 c3) (.bool e3) (.slice E3 m3 d3))
   obtain ⟨x0,x1,x2,x3,x4,x5,x6,x7,x8⟩:=FB
   by_cases hm:k < -1099511627776
   ·skip
    have hkm:k < -1099511627776:=hm
    have hmod:=tmod2 k HKN.out
    obtain ⟨r2,hr2⟩ : ∃ r2,k.tmod 2 = r2:=⟨_,rfl⟩
    rw [hr2] at hmod
    obtain ⟨k2,hk2⟩ : ∃ k2,-1099511627776 + r2 = k2:=⟨_,rfl⟩
    have hwa:IntKind.i64.wrap (-1099511627776 + r2) = k2:=by rw [IntKind.wrap_i64];omega
    obtain ⟨kk,hkk⟩ : ∃ kk,-k2 = kk:=⟨_,rfl⟩
    have hwk:IntKind.i64.wrap (-k2) = kk:=by rw [IntKind.wrap_i64];omega
    have HK:=Hd (show 0 <= kk /\ kk <= 9223372036854775807 by omega)
    have HE:=Hd (show (kk.toNat = k.natAbs \/ (¬ (-40 <= k /\ k <= 40) /\ kk.toNat % 2 = k.natAbs % 2)) /\ (kk <= 40 \/ ¬ (-40 <= k /\ k <= 40)) by have:=HKN.out;omega)
    clear hm hmod hk2 hkk
    go_upto_region 8 with fail
    have hput:(((w2.setCell ⟨w.heap.size,0,none⟩ (.bool g3)).setCell ⟨w.heap.size,1,none⟩ (.slice A3 n3 c3)).setCell ⟨w.heap.size,2,none⟩ (.bool e3)).setCell ⟨w.heap.size,3,none⟩ (.slice E3 m3 d3) = put4 w2 w.heap.size (.bool g3) (.slice A3 n3 c3) (.bool e3) (.slice E3 m3 d3):=rfl
    rw [hput]
    clear hput x0 x1 x2 x3 x4 x5 x6 x7 x8 hkm hwk
    generalize put4 w2 w.heap.size (.bool g3) (.slice A3 n3 c3) (.bool e3) (.slice E3 m3 d3) = wp at *
    have X:=XN
    clear XN
    have HC2:=Hd (PowOk.up HO.out HN.out HE.out.2)
    have HS:=Hd (PowOk.same HO.out HN.out HK.out.1 HE.out.1)
    have X1:=Hd X.out.parts.1
    have X2:=Hd X.out.parts.2.1
    have hpe:powE kk = 0:=if_neg (by have:=HK.out;omega)
    have HPE:=Hd hpe
    clear hpe
    obtain ⟨c00,c01,c02,c03,f00,f01,f02,f03,s0⟩:=B0.out
    go_wp2_with fail
    refine (rPower_int _ (upN d n) kk 16 _ X1.out (Nat.le_refl _) HK.out.2 HC2.out.1).mono ?_
    rintro e w4 ⟨⟨g6,A6,n6,o6,rfl,hz⟩,hb⟩
    rw [HPE.out]
    rw [HS.out.1] at hz
    clear c00 c01 c02 c03 f00 f01 f02 f03 s0
    replace B0:=Hd (B0.out.below hb)
    replace BR:=Hd (BR.out.below hb)
    replace X:=Hd (X.out.below hb)
    replace X1:=Hd (X1.out.below hb)
    replace X2:=Hd (X2.out.below hb)
    replace hw:=hw.trans (hb.mono hw.size)
    have T1:=Hd hz
    clear hb hz
    have hX:=below_alloc w4 (.cells #[.bool g6,.slice A6 n6 o6] 34)
    replace B0:=Hd (B0.out.below hX)
    replace BR:=Hd (BR.out.below hX)
    replace X:=Hd (X.out.below hX)
    replace X1:=Hd (X1.out.below hX)
    replace X2:=Hd (X2.out.below hX)
    replace T1:=Hd (T1.out.below hX)
    replace hw:=hw.trans (hX.mono hw.size)
    have B6:=Hd (Fx.new w4 (.bool g6) (.slice A6 n6 o6) 34)
    skip
    clear hX
    go_upto_region 11 with fail
    generalize w4.alloc (.cells #[.bool g6,.slice A6 n6 o6] 34) = W6 at *
    generalize w4.heap.size = k6 at *
    obtain ⟨c00,c01,c02,c03,f00,f01,f02,f03,s0⟩:=B0.out
    go_wp2_with fail
    refine (rPower_int _ (upN n n) kk 16 _ X2.out (Nat.le_refl _) HK.out.2 HC2.out.2).mono ?_
    rintro e w6 ⟨⟨g8,A8,n8,o8,rfl,hz⟩,hb⟩
    rw [HPE.out]
    rw [HS.out.2] at hz
    clear c00 c01 c02 c03 f00 f01 f02 f03 s0
    replace B0:=Hd (B0.out.below hb)
    replace BR:=Hd (BR.out.below hb)
    replace B6:=Hd (B6.out.below hb)
    replace X:=Hd (X.out.below hb)
    replace X1:=Hd (X1.out.below hb)
    replace X2:=Hd (X2.out.below hb)
    replace T1:=Hd (T1.out.below hb)
    replace hw:=hw.trans (hb.mono hw.size)
    have T3:=Hd hz
    clear hb hz
    have hX:=below_alloc w6 (.cells #[.bool g8,.slice A8 n8 o8] 34)
    replace B0:=Hd (B0.out.below hX)
    replace BR:=Hd (BR.out.below hX)
    replace B6:=Hd (B6.out.below hX)
    replace X:=Hd (X.out.below hX)
    replace X1:=Hd (X1.out.below hX)
    replace X2:=Hd (X2.out.below hX)
    replace T1:=Hd (T1.out.below hX)
    replace T3:=Hd (T3.out.below hX)
    replace hw:=hw.trans (hX.mono hw.size)
    have B8:=Hd (Fx.new w6 (.bool g8) (.slice A8 n8 o8) 34)
    skip
    clear hX
    go_upto_region 14 with fail
    generalize w6.alloc (.cells #[.bool g8,.slice A8 n8 o8] 34) = W8 at *
    generalize w6.heap.size = k8 at *
    have hbp:0 < (upN n n) ^ k.natAbs:=Int.pow_pos X.out.parts.2.2.1
    have hgc:Int.gcd ((upN d n) ^ k.natAbs) ((upN n n) ^ k.natAbs) = 1:=pow_cop X.out.parts.2.2.2
    have HC:=Hd (And.intro hbp hgc)
    have HX0:=Hd X.out.parts.2.2
    obtain ⟨P,hP⟩ : ∃ P,(upN d n) ^ k.natAbs = P:=⟨_,rfl⟩
    obtain ⟨Q,hQ⟩ : ∃ Q,(upN n n) ^ k.natAbs = Q:=⟨_,rfl⟩
    rw [hP] at T1 HC
    rw [hQ] at T3 HC
    have HP:=Hd hP
    have HQ:=Hd hQ
    clear hbp hgc hP hQ
    obtain ⟨c60,c61,f60,f61,s6⟩:=B6.out
    obtain ⟨c80,c81,f80,f81,s8⟩:=B8.out
    obtain ⟨r0,r1,r2,r3,r4,r5,r6,r7,r8⟩:=BR.out
    go_wp2
    exact bodyPost_ret (v:=.tuple #[.agg #[.bool g6,.slice A6 n6 o6,.bool g8,.slice A8 n8 o8],.int .i64 0]) (by simp [results,Tryz.results33,go_sem,r0,r1,r2,r3]) rfl (Or.inr ⟨(upN d n),(upN n n),HX0.out.1,HX0.out.2,Or.inr ⟨HKN.out,HN.out,rfl,rfl⟩,⟨g6,A6,n6,o6,g8,A8,n8,o8,rfl,by rw [HP.out,HQ.out];exact (RQ.mk' T1.out T3.out HC.out.1 HC.out.2).put4 BR.out _ _ _ _⟩,below_put4 hw (by omega) _ _ _ _⟩)
   ·skip
    have hkm:¬ k < -1099511627776:=hm
    clear hm
    have hwk:IntKind.i64.wrap (-k) = -k:=by have:=HB.out;rw [IntKind.wrap_i64];omega
    obtain ⟨kk,hkk⟩ : ∃ kk,-k = kk:=⟨_,rfl⟩
    rw [hkk] at hwk
    have HK:=Hd (show 0 <= kk /\ kk <= 9223372036854775807 by have:=HKN.out;have:=HB.out;omega)
    have HE:=Hd (show (kk.toNat = k.natAbs \/ (¬ (-40 <= k /\ k <= 40) /\ kk.toNat % 2 = k.natAbs % 2)) /\ (kk <= 40 \/ ¬ (-40 <= k /\ k <= 40)) by have:=HKN.out;omega)
    go_upto_region 8 with fail
    have hput:(((w2.setCell ⟨w.heap.size,0,none⟩ (.bool g3)).setCell ⟨w.heap.size,1,none⟩ (.slice A3 n3 c3)).setCell ⟨w.heap.size,2,none⟩ (.bool e3)).setCell ⟨w.heap.size,3,none⟩ (.slice E3 m3 d3) = put4 w2 w.heap.size (.bool g3) (.slice A3 n3 c3) (.bool e3) (.slice E3 m3 d3):=rfl
    rw [hput]
    clear hput x0 x1 x2 x3 x4 x5 x6 x7 x8 hkm hwk
    generalize put4 w2 w.heap.size (.bool g3) (.slice A3 n3 c3) (.bool e3) (.slice E3 m3 d3) = wp at *
    have X:=XN
    clear XN
    have HC2:=Hd (PowOk.up HO.out HN.out HE.out.2)
    have HS:=Hd (PowOk.same HO.out HN.out HK.out.1 HE.out.1)
    have X1:=Hd X.out.parts.1
    have X2:=Hd X.out.parts.2.1
    have hpe:powE kk = 0:=if_neg (by have:=HK.out;omega)
    have HPE:=Hd hpe
    clear hpe
    obtain ⟨c00,c01,c02,c03,f00,f01,f02,f03,s0⟩:=B0.out
    go_wp2_with fail
    refine (rPower_int _ (upN d n) kk 16 _ X1.out (Nat.le_refl _) HK.out.2 HC2.out.1).mono ?_
    rintro e w4 ⟨⟨g6,A6,n6,o6,rfl,hz⟩,hb⟩
    rw [HPE.out]
    rw [HS.out.1] at hz
    clear c00 c01 c02 c03 f00 f01 f02 f03 s0
    replace B0:=Hd (B0.out.below hb)
    replace BR:=Hd (BR.out.below hb)
    replace X:=Hd (X.out.below hb)
    replace X1:=Hd (X1.out.below hb)
    replace X2:=Hd (X2.out.below hb)
    replace hw:=hw.trans (hb.mono hw.size)
    have T1:=Hd hz
    clear hb hz
    have hX:=below_alloc w4 (.cells #[.bool g6,.slice A6 n6 o6] 34)
    replace B0:=Hd (B0.out.below hX)
    replace BR:=Hd (BR.out.below hX)
    replace X:=Hd (X.out.below hX)
    replace X1:=Hd (X1.out.below hX)
    replace X2:=Hd (X2.out.below hX)
    replace T1:=Hd (T1.out.below hX)
    replace hw:=hw.trans (hX.mono hw.size)
    have B6:=Hd (Fx.new w4 (.bool g6) (.slice A6 n6 o6) 34)
    skip
    clear hX
    go_upto_region 11 with fail
    generalize w4.alloc (.cells #[.bool g6,.slice A6 n6 o6] 34) = W6 at *
    generalize w4.heap.size = k6 at *
    obtain ⟨c00,c01,c02,c03,f00,f01,f02,f03,s0⟩:=B0.out
    go_wp2_with fail
    refine (rPower_int _ (upN n n) kk 16 _ X2.out (Nat.le_refl _) HK.out.2 HC2.out.2).mono ?_
    rintro e w6 ⟨⟨g8,A8,n8,o8,rfl,hz⟩,hb⟩
    rw [HPE.out]
    rw [HS.out.2] at hz
    clear c00 c01 c02 c03 f00 f01 f02 f03 s0
    replace B0:=Hd (B0.out.below hb)
    replace BR:=Hd (BR.out.below hb)
    replace B6:=Hd (B6.out.below hb)
    replace X:=Hd (X.out.below hb)
    replace X1:=Hd (X1.out.below hb)
    replace X2:=Hd (X2.out.below hb)
    replace T1:=Hd (T1.out.below hb)
    replace hw:=hw.trans (hb.mono hw.size)
    have T3:=Hd hz
    clear hb hz
    have hX:=below_alloc w6 (.cells #[.bool g8,.slice A8 n8 o8] 34)
    replace B0:=Hd (B0.out.below hX)
    replace BR:=Hd (BR.out.below hX)
    replace B6:=Hd (B6.out.below hX)
    replace X:=Hd (X.out.below hX)
    replace X1:=Hd (X1.out.below hX)
    replace X2:=Hd (X2.out.below hX)
    replace T1:=Hd (T1.out.below hX)
    replace T3:=Hd (T3.out.below hX)
    replace hw:=hw.trans (hX.mono hw.size)
    have B8:=Hd (Fx.new w6 (.bool g8) (.slice A8 n8 o8) 34)
    skip
    clear hX
    go_upto_region 14 with fail
    generalize w6.alloc (.cells #[.bool g8,.slice A8 n8 o8] 34) = W8 at *
    generalize w6.heap.size = k8 at *
    have hbp:0 < (upN n n) ^ k.natAbs:=Int.pow_pos X.out.parts.2.2.1
    have hgc:Int.gcd ((upN d n) ^ k.natAbs) ((upN n n) ^ k.natAbs) = 1:=pow_cop X.out.parts.2.2.2
    have HC:=Hd (And.intro hbp hgc)
    have HX0:=Hd X.out.parts.2.2
    obtain ⟨P,hP⟩ : ∃ P,(upN d n) ^ k.natAbs = P:=⟨_,rfl⟩
    obtain ⟨Q,hQ⟩ : ∃ Q,(upN n n) ^ k.natAbs = Q:=⟨_,rfl⟩
    rw [hP] at T1 HC
    rw [hQ] at T3 HC
    have HP:=Hd hP
    have HQ:=Hd hQ
    clear hbp hgc hP hQ
    obtain ⟨c60,c61,f60,f61,s6⟩:=B6.out
    obtain ⟨c80,c81,f80,f81,s8⟩:=B8.out
    obtain ⟨r0,r1,r2,r3,r4,r5,r6,r7,r8⟩:=BR.out
    go_wp2
    exact bodyPost_ret (v:=.tuple #[.agg #[.bool g6,.slice A6 n6 o6,.bool g8,.slice A8 n8 o8],.int .i64 0]) (by simp [results,Tryz.results33,go_sem,r0,r1,r2,r3]) rfl (Or.inr ⟨(upN d n),(upN n n),HX0.out.1,HX0.out.2,Or.inr ⟨HKN.out,HN.out,rfl,rfl⟩,⟨g6,A6,n6,o6,g8,A8,n8,o8,rfl,by rw [HP.out,HQ.out];exact (RQ.mk' T1.out T3.out HC.out.1 HC.out.2).put4 BR.out _ _ _ _⟩,below_put4 hw (by omega) _ _ _ _⟩)
 ·skip
  go_upto_region 8 with fail
  have HK:=Hd (show 0 <= k /\ k <= 9223372036854775807 by have:=HB.out;omega)
  have HC2:=Hd (show (k <= 40 \/ -1 <= n /\ n <= 1) /\ (k <= 40 \/ -1 <= d /\ d <= 1) by rcases HO.out with h | h <;> omega)
  have HS:=Hd (show powV n k = n ^ k.natAbs /\ powV d k = d ^ k.natAbs from by rw [pow_nat HK.out.1,pow_nat HK.out.1,show k.toNat = k.natAbs by omega];exact ⟨rfl,rfl⟩)
  clear hk
  have X1:=Hd X.out.parts.1
  have X2:=Hd X.out.parts.2.1
  have hpe:powE k = 0:=if_neg (by have:=HK.out;omega)
  have HPE:=Hd hpe
  clear hpe
  obtain ⟨c00,c01,c02,c03,f00,f01,f02,f03,s0⟩:=B0.out
  go_wp2_with fail
  refine (rPower_int _ n k 16 _ X1.out (Nat.le_refl _) HK.out.2 HC2.out.1).mono ?_
  rintro e w4 ⟨⟨g6,A6,n6,o6,rfl,hz⟩,hb⟩
  rw [HPE.out]
  rw [HS.out.1] at hz
  clear c00 c01 c02 c03 f00 f01 f02 f03 s0
  replace B0:=Hd (B0.out.below hb)
  replace BR:=Hd (BR.out.below hb)
  replace X:=Hd (X.out.below hb)
  replace X1:=Hd (X1.out.below hb)
  replace X2:=Hd (X2.out.below hb)
  replace hw:=hw.trans (hb.mono hw.size)
  have T1:=Hd hz
  clear hb hz
  have hX:=below_alloc w4 (.cells #[.bool g6,.slice A6 n6 o6] 34)
  replace B0:=Hd (B0.out.below hX)
  replace BR:=Hd (BR.out.below hX)
  replace X:=Hd (X.out.below hX)
  replace X1:=Hd (X1.out.below hX)
  replace X2:=Hd (X2.out.below hX)
  replace T1:=Hd (T1.out.below hX)
  replace hw:=hw.trans (hX.mono hw.size)
  have B6:=Hd (Fx.new w4 (.bool g6) (.slice A6 n6 o6) 34)
  skip
  clear hX
  go_upto_region 11 with fail
  generalize w4.alloc (.cells #[.bool g6,.slice A6 n6 o6] 34) = W6 at *
  generalize w4.heap.size = k6 at *
  obtain ⟨c00,c01,c02,c03,f00,f01,f02,f03,s0⟩:=B0.out
  go_wp2_with fail
  refine (rPower_int _ d k 16 _ X2.out (Nat.le_refl _) HK.out.2 HC2.out.2).mono ?_
  rintro e w6 ⟨⟨g8,A8,n8,o8,rfl,hz⟩,hb⟩
  rw [HPE.out]
  rw [HS.out.2] at hz
  clear c00 c01 c02 c03 f00 f01 f02 f03 s0
  replace B0:=Hd (B0.out.below hb)
  replace BR:=Hd (BR.out.below hb)
  replace B6:=Hd (B6.out.below hb)
  replace X:=Hd (X.out.below hb)
  replace X1:=Hd (X1.out.below hb)
  replace X2:=Hd (X2.out.below hb)
  replace T1:=Hd (T1.out.below hb)
  replace hw:=hw.trans (hb.mono hw.size)
  have T3:=Hd hz
  clear hb hz
  have hX:=below_alloc w6 (.cells #[.bool g8,.slice A8 n8 o8] 34)
  replace B0:=Hd (B0.out.below hX)
  replace BR:=Hd (BR.out.below hX)
  replace B6:=Hd (B6.out.below hX)
  replace X:=Hd (X.out.below hX)
  replace X1:=Hd (X1.out.below hX)
  replace X2:=Hd (X2.out.below hX)
  replace T1:=Hd (T1.out.below hX)
  replace T3:=Hd (T3.out.below hX)
  replace hw:=hw.trans (hX.mono hw.size)
  have B8:=Hd (Fx.new w6 (.bool g8) (.slice A8 n8 o8) 34)
  skip
  clear hX
  go_upto_region 14 with fail
  generalize w6.alloc (.cells #[.bool g8,.slice A8 n8 o8] 34) = W8 at *
  generalize w6.heap.size = k8 at *
  have hbp:0 < d ^ k.natAbs:=Int.pow_pos X.out.parts.2.2.1
  have hgc:Int.gcd (n ^ k.natAbs) (d ^ k.natAbs) = 1:=pow_cop X.out.parts.2.2.2
  have HC:=Hd (And.intro hbp hgc)
  have HX0:=Hd X.out.parts.2.2
  obtain ⟨P,hP⟩ : ∃ P,n ^ k.natAbs = P:=⟨_,rfl⟩
  obtain ⟨Q,hQ⟩ : ∃ Q,d ^ k.natAbs = Q:=⟨_,rfl⟩
  rw [hP] at T1 HC
  rw [hQ] at T3 HC
  have HP:=Hd hP
  have HQ:=Hd hQ
  clear hbp hgc hP hQ
  obtain ⟨c60,c61,f60,f61,s6⟩:=B6.out
  obtain ⟨c80,c81,f80,f81,s8⟩:=B8.out
  obtain ⟨r0,r1,r2,r3,r4,r5,r6,r7,r8⟩:=BR.out
  go_wp2
  exact bodyPost_ret (v:=.tuple #[.agg #[.bool g6,.slice A6 n6 o6,.bool g8,.slice A8 n8 o8],.int .i64 0]) (by simp [results,Tryz.results33,go_sem,r0,r1,r2,r3]) rfl (Or.inr ⟨n,d,HX0.out.1,HX0.out.2,Or.inl ⟨HK.out.1,rfl,rfl⟩,⟨g6,A6,n6,o6,g8,A8,n8,o8,rfl,by rw [HP.out,HQ.out];exact (RQ.mk' T1.out T3.out HC.out.1 HC.out.2).put4 BR.out _ _ _ _⟩,below_put4 hw (by omega) _ _ _ _⟩)
def RRootAns (n d:Int) (w:World) (e:Ending) (w':World) : Prop:=
 (n < 0 /\ RQErr 64 0 1 1 w e w') \/ (0 <= n /\ (¬ ∃ r s:Int,r * r = n /\ s * s = d) /\ RQErr 64 0 1 5 w e w') \/ ∃ r s,0 <= r /\ 0 < s /\ r * r = n /\ s * s = d /\ RQErr 1000 r s 0 w e w'
theorem rRoot_w (v:Value) (n d:Int) (w:World) (h:RQ w v n d 16) :
  Calls Tryz.prog 35 #[v] w (RRootAns n d w):=by
 obtain ⟨g1,A1,n1,c1,e1,E1,m1,d1,rfl⟩:=h.form
 obtain ⟨hw,F0,F1,hs⟩:=two43 w (.bool g1) (.slice A1 n1 c1) (.bool e1) (.slice E1 m1 d1)
 have X:=Hd (h.below hw)
 obtain ⟨W0,hW0⟩ : ∃ W0,(w.alloc (.cells #[.bool g1,.slice A1 n1 c1,.bool e1,.slice E1 m1 d1] 43)).alloc (.cells #[.bool false,.slice none 0 0,.bool false,.slice none 0 0] 43) = W0:=⟨_,rfl⟩
 rw [hW0] at hw F0 F1 hs X
 have B0:=Hd F0
 have BR:=Hd F1
 clear F0 F1 h
 go_enter Tryz.func35,Tryz.ntmps35
 go_upto_region 1 with fail
 clear hW0
 have X1:=Hd X.out.parts.1
 have X2:=Hd X.out.parts.2.1
 have HX:=Hd X.out.parts.2.2
 obtain ⟨c00,c01,c02,c03,f00,f01,f02,f03,s0⟩:=B0.out
 go_wp2_with fail
 refine (rRoot_int _ n 16 _ X1.out (Nat.le_refl _)).mono ?_
 rintro e w2 ⟨⟨g4,A4,n4,o4,r,rfl,hz,hr⟩,hb⟩
 have HR:=Hd hr
 clear hr
 clear c00 c01 c02 c03 f00 f01 f02 f03 s0
 replace B0:=Hd (B0.out.below hb)
 replace BR:=Hd (BR.out.below hb)
 replace X:=Hd (X.out.below hb)
 replace X1:=Hd (X1.out.below hb)
 replace X2:=Hd (X2.out.below hb)
 replace hw:=hw.trans (hb.mono hw.size)
 have T1:=Hd hz
 clear hb hz
 have hX:=below_alloc w2 (.cells #[.bool g4,.slice A4 n4 o4] 34)
 replace B0:=Hd (B0.out.below hX)
 replace BR:=Hd (BR.out.below hX)
 replace X:=Hd (X.out.below hX)
 replace X1:=Hd (X1.out.below hX)
 replace X2:=Hd (X2.out.below hX)
 replace T1:=Hd (T1.out.below hX)
 replace hw:=hw.trans (hX.mono hw.size)
 have B4:=Hd (Fx.new w2 (.bool g4) (.slice A4 n4 o4) 34)
 skip
 clear hX
 by_cases hn:n < 0
 ·skip
  have hE:rootE n = 1:=if_pos hn
  rw [hE]
  have HN:=Hd hn
  clear hE hn
  go_upto_region 3 with fail
  generalize w2.alloc (.cells #[.bool g4,.slice A4 n4 o4] 34) = W4 at *
  generalize w2.heap.size = k4 at *
  go_wp2_with fail
  refine (rInt_any 0 _ (by decide) (by decide)).mono ?_
  rintro e wz ⟨⟨y1,y2,y3,y4,y5,y6,y7,y8,rfl,hz,ho⟩,hb⟩
  replace BR:=Hd (BR.out.below hb)
  replace hw:=hw.trans (hb.mono hw.size)
  have HZ:=Hd hz
  have HO1:=Hd ho
  clear hz ho hb
  obtain ⟨r0,r1,r2,r3,r4,r5,r6,r7,r8⟩:=BR.out
  go_wp2
  exact bodyPost_ret (v:=.tuple #[.agg #[.bool y1,.slice y2 y3 y4,.bool y5,.slice y6 y7 y8],.int .i64 1]) (by simp [results,Tryz.results35,go_sem,r0,r1,r2,r3]) rfl (Or.inl ⟨HN.out,⟨⟨y1,y2,y3,y4,y5,y6,y7,y8,rfl,(RQ.mk' (HZ.out.mono (by omega)) (HO1.out.mono (by omega)) (by decide) (by decide)).put4 BR.out _ _ _ _⟩,below_put4 hw (by omega) _ _ _ _⟩⟩)
 ·skip
  have hE:rootE n = 0:=if_neg hn
  rw [hE]
  have HN:=Hd (show 0 <= n by omega)
  clear hE hn
  go_upto_region 4 with fail
  generalize w2.alloc (.cells #[.bool g4,.slice A4 n4 o4] 34) = W4 at *
  generalize w2.heap.size = k4 at *
  obtain ⟨c00,c01,c02,c03,f00,f01,f02,f03,s0⟩:=B0.out
  go_wp2_with fail
  refine (rRoot_int _ d 16 _ X2.out (Nat.le_refl _)).mono ?_
  rintro e w4 ⟨⟨g6,A6,n6,o6,s,rfl,hz,hr⟩,hb⟩
  have HS:=Hd hr
  clear hr
  clear c00 c01 c02 c03 f00 f01 f02 f03 s0
  replace B0:=Hd (B0.out.below hb)
  replace BR:=Hd (BR.out.below hb)
  replace B4:=Hd (B4.out.below hb)
  replace X:=Hd (X.out.below hb)
  replace X1:=Hd (X1.out.below hb)
  replace X2:=Hd (X2.out.below hb)
  replace T1:=Hd (T1.out.below hb)
  replace hw:=hw.trans (hb.mono hw.size)
  have T2:=Hd hz
  clear hb hz
  have hX:=below_alloc w4 (.cells #[.bool g6,.slice A6 n6 o6] 34)
  replace B0:=Hd (B0.out.below hX)
  replace BR:=Hd (BR.out.below hX)
  replace B4:=Hd (B4.out.below hX)
  replace X:=Hd (X.out.below hX)
  replace X1:=Hd (X1.out.below hX)
  replace X2:=Hd (X2.out.below hX)
  replace T1:=Hd (T1.out.below hX)
  replace T2:=Hd (T2.out.below hX)
  replace hw:=hw.trans (hX.mono hw.size)
  have B6:=Hd (Fx.new w4 (.bool g6) (.slice A6 n6 o6) 34)
  skip
  clear hX
  have hE2:rootE d = 0:=if_neg (by have:=HX.out.1;omega)
  skip
  clear hE2
  go_upto_region 5 with fail
  generalize w4.alloc (.cells #[.bool g6,.slice A6 n6 o6] 34) = W6 at *
  generalize w4.heap.size = k6 at *
  by_cases hr:r * r = n
  ·skip
   have HRR:=Hd hr
   have HCR:=Hd (show cmpI (r * r) n = 0 from cmpI_eq hr)
   clear hr
   by_cases hq:s * s = d
   ·skip
    have HSS:=Hd hq
    have HCS:=Hd (show cmpI (s * s) d = 0 from cmpI_eq hq)
    clear hq
    have HT:=Hd (fun (w':World) (hb:Below W6.heap.size W6 w')=>(show w'.cell? ⟨w.heap.size,0,none⟩ = some (.bool g1) /\ w'.cell? ⟨w.heap.size,1,none⟩ = some (.slice A1 n1 c1) /\ w'.cell? ⟨w.heap.size,2,none⟩ = some (.bool e1) /\ w'.cell? ⟨w.heap.size,3,none⟩ = some (.slice E1 m1 d1) /\ w'.cell? ⟨k4,0,none⟩ = some (.bool g4) /\ w'.cell? ⟨k4,1,none⟩ = some (.slice A4 n4 o4) /\ w'.cell? ⟨k6,0,none⟩ = some (.bool g6) /\ w'.cell? ⟨k6,1,none⟩ = some (.slice A6 n6 o6) from ⟨(B0.out.below hb).c0,(B0.out.below hb).c1,(B0.out.below hb).c2,(B0.out.below hb).c3,(B4.out.below hb).1,(B4.out.below hb).2.1,(B6.out.below hb).1,(B6.out.below hb).2.1⟩))
    have hB:=(Below.refl W6.heap.size W6).drew
    replace X:=Hd (X.out.below hB)
    replace X1:=Hd (X1.out.below hB)
    replace X2:=Hd (X2.out.below hB)
    replace T1:=Hd (T1.out.below hB)
    replace T2:=Hd (T2.out.below hB)
    refine wp_region_held_drew (S:=fun w'=>w'.cell? ⟨w.heap.size,0,none⟩ = some (.bool g1) /\ w'.cell? ⟨w.heap.size,1,none⟩ = some (.slice A1 n1 c1) /\ w'.cell? ⟨w.heap.size,2,none⟩ = some (.bool e1) /\ w'.cell? ⟨w.heap.size,3,none⟩ = some (.slice E1 m1 d1) /\ w'.cell? ⟨k4,0,none⟩ = some (.bool g4) /\ w'.cell? ⟨k4,1,none⟩ = some (.slice A4 n4 o4) /\ w'.cell? ⟨k6,0,none⟩ = some (.bool g6) /\ w'.cell? ⟨k6,1,none⟩ = some (.slice A6 n6 o6)) (by kernel_rfl) (HT.out _ hB) (fun hH=>?_)
    clear hH
    generalize W6.drew = wr0 at *
    refine tk 0 24 (by first | assumption | exact HT.out _ hB) ?_
    try simp only [Act.put,tA,cZ,cS]
    refine tk 1 25 (by first | assumption | exact HT.out _ hB) ?_
    try simp only [Act.put,tA,cZ,cS]
    refine tk 3 27 (by first | assumption | exact HT.out _ hB) ?_
    try simp only [Act.put,tA,cZ,cS]
    refine tk 4 28 (by first | assumption | exact HT.out _ hB) ?_
    try simp only [Act.put,tA,cZ,cS]
    refine rd 2 (AllReadyH.cons rfl (fun K hK=>?_) AllReadyH.nil)
    (try simp only [gA]);(try simp only [gS]);(try simp only [gZ])
    go_simp
    (go_at_call 90;refine (rMul_any _ _ r r 1000 1000 _ T1.out T1.out (by omega) (by omega)).mono ?_;rintro e wc2 ⟨⟨gt2,At2,nt2,ct2,rfl,hz⟩,hb⟩)
    replace X:=Hd (X.out.below hb)
    replace X1:=Hd (X1.out.below hb)
    replace X2:=Hd (X2.out.below hb)
    replace T1:=Hd (T1.out.below hb)
    replace T2:=Hd (T2.out.below hb)
    replace hB:=Below.trans hB (hb.mono hB.size)
    have M1:=Hd hz
    refine hK.out _ _ (HT.out _ hB) (fun hH=>?_)
    clear hK K hH
    try simp only [Act.put,tA,cZ,cS]
    clear hb hz
    refine rd 5 (AllReadyH.cons rfl (fun K hK=>?_) AllReadyH.nil)
    (try simp only [gA]);(try simp only [gS]);(try simp only [gZ])
    go_simp
    (go_at_call 83;refine (rcmp_any _ _ (r * r) n 2001 16 _ M1.out X1.out (by omega) (by omega)).mono ?_;rintro e wc5 ⟨rfl,hb⟩)
    rw [HCR.out]
    replace X:=Hd (X.out.below hb)
    replace X1:=Hd (X1.out.below hb)
    replace X2:=Hd (X2.out.below hb)
    replace T1:=Hd (T1.out.below hb)
    replace T2:=Hd (T2.out.below hb)
    replace M1:=Hd (M1.out.below hb)
    replace hB:=Below.trans hB (hb.mono hB.size)
    refine hK.out _ _ (HT.out _ hB) (fun hH=>?_)
    clear hK K hH
    try simp only [Act.put,tA,cZ,cS]
    clear hb
    refine tk 6 30 (by first | assumption | exact HT.out _ hB) ?_
    try simp only [Act.put,tA,cZ,cS]
    refine tk 7 31 (by first | assumption | exact HT.out _ hB) ?_
    try simp only [Act.put,tA,cZ,cS]
    refine tk 8 32 (by first | assumption | exact HT.out _ hB) ?_
    try simp only [Act.put,tA,cZ,cS]
    refine tk 9 33 (by first | assumption | exact HT.out _ hB) ?_
    try simp only [Act.put,tA,cZ,cS]
    refine tk 11 35 (by first | assumption | exact HT.out _ hB) ?_
    try simp only [Act.put,tA,cZ,cS]
    refine tk 12 36 (by first | assumption | exact HT.out _ hB) ?_
    try simp only [Act.put,tA,cZ,cS]
    refine rd 10 (AllReadyH.cons rfl (fun K hK=>?_) AllReadyH.nil)
    (try simp only [gA]);(try simp only [gS]);(try simp only [gZ])
    go_simp
    (go_at_call 90;refine (rMul_any _ _ s s 1000 1000 _ T2.out T2.out (by omega) (by omega)).mono ?_;rintro e wc10 ⟨⟨gt10,At10,nt10,ct10,rfl,hz⟩,hb⟩)
    replace X:=Hd (X.out.below hb)
    replace X1:=Hd (X1.out.below hb)
    replace X2:=Hd (X2.out.below hb)
    replace T1:=Hd (T1.out.below hb)
    replace T2:=Hd (T2.out.below hb)
    replace M1:=Hd (M1.out.below hb)
    replace hB:=Below.trans hB (hb.mono hB.size)
    have M2:=Hd hz
    refine hK.out _ _ (HT.out _ hB) (fun hH=>?_)
    clear hK K hH
    try simp only [Act.put,tA,cZ,cS]
    clear hb hz
    refine rd 13 (AllReadyH.cons rfl (fun K hK=>?_) AllReadyH.nil)
    (try simp only [gA]);(try simp only [gS]);(try simp only [gZ])
    go_simp
    (go_at_call 83;refine (rcmp_any _ _ (s * s) d 2001 16 _ M2.out X2.out (by omega) (by omega)).mono ?_;rintro e wc13 ⟨rfl,hb⟩)
    rw [HCS.out]
    replace X:=Hd (X.out.below hb)
    replace X1:=Hd (X1.out.below hb)
    replace X2:=Hd (X2.out.below hb)
    replace T1:=Hd (T1.out.below hb)
    replace T2:=Hd (T2.out.below hb)
    replace M1:=Hd (M1.out.below hb)
    replace M2:=Hd (M2.out.below hb)
    replace hB:=Below.trans hB (hb.mono hB.size)
    refine hK.out _ _ (HT.out _ hB) (fun hH=>?_)
    clear hK K hH
    try simp only [Act.put,tA,cZ,cS]
    clear hb
    refine tk 14 38 (by first | assumption | exact HT.out _ hB) ?_
    try simp only [Act.put,tA,cZ,cS]
    refine tk 15 39 (by first | assumption | exact HT.out _ hB) ?_
    try simp only [Act.put,tA,cZ,cS]
    refine wpAnyH_done (by kernel_rfl) ?_ _
    replace B0:=Hd (B0.out.below hB)
    replace BR:=Hd (BR.out.below hB)
    replace B4:=Hd (B4.out.below hB)
    replace B6:=Hd (B6.out.below hB)
    replace hw:=hw.trans (hB.mono hw.size)
    go_upto_region 7 with fail
    obtain ⟨c40,c41,f40,f41,s4⟩:=B4.out
    obtain ⟨c60,c61,f60,f61,s6⟩:=B6.out
    obtain ⟨r0,r1,r2,r3,r4,r5,r6,r7,r8⟩:=BR.out
    have hp:=root_parts HR.out HS.out HRR.out HSS.out HX.out.1 HX.out.2
    go_wp2
    exact bodyPost_ret (v:=.tuple #[.agg #[.bool g4,.slice A4 n4 o4,.bool g6,.slice A6 n6 o6],.int .i64 0]) (by simp [results,Tryz.results35,go_sem,r0,r1,r2,r3]) rfl (Or.inr (Or.inr ⟨r,s,hp.2.1,hp.1,HRR.out,HSS.out,⟨_,_,_,_,_,_,_,_,rfl,(RQ.mk' T1.out T2.out hp.1 hp.2.2).put4 BR.out _ _ _ _⟩,below_put4 hw (by omega) _ _ _ _⟩))
   ·skip
    have hq1:(cmpI (s * s) d == 0) = false:=by rw [cmp_dec];exact decide_eq_false hq
    have hq2:(cmpI (s * s) d != 0) = true:=by simp [bne,hq1]
    have HSS:=Hd hq
    clear hq
    have HT:=Hd (fun (w':World) (hb:Below W6.heap.size W6 w')=>(show w'.cell? ⟨w.heap.size,0,none⟩ = some (.bool g1) /\ w'.cell? ⟨w.heap.size,1,none⟩ = some (.slice A1 n1 c1) /\ w'.cell? ⟨w.heap.size,2,none⟩ = some (.bool e1) /\ w'.cell? ⟨w.heap.size,3,none⟩ = some (.slice E1 m1 d1) /\ w'.cell? ⟨k4,0,none⟩ = some (.bool g4) /\ w'.cell? ⟨k4,1,none⟩ = some (.slice A4 n4 o4) /\ w'.cell? ⟨k6,0,none⟩ = some (.bool g6) /\ w'.cell? ⟨k6,1,none⟩ = some (.slice A6 n6 o6) from ⟨(B0.out.below hb).c0,(B0.out.below hb).c1,(B0.out.below hb).c2,(B0.out.below hb).c3,(B4.out.below hb).1,(B4.out.below hb).2.1,(B6.out.below hb).1,(B6.out.below hb).2.1⟩))
    have hB:=(Below.refl W6.heap.size W6).drew
    replace X:=Hd (X.out.below hB)
    replace X1:=Hd (X1.out.below hB)
    replace X2:=Hd (X2.out.below hB)
    replace T1:=Hd (T1.out.below hB)
    replace T2:=Hd (T2.out.below hB)
    refine wp_region_held_drew (S:=fun w'=>w'.cell? ⟨w.heap.size,0,none⟩ = some (.bool g1) /\ w'.cell? ⟨w.heap.size,1,none⟩ = some (.slice A1 n1 c1) /\ w'.cell? ⟨w.heap.size,2,none⟩ = some (.bool e1) /\ w'.cell? ⟨w.heap.size,3,none⟩ = some (.slice E1 m1 d1) /\ w'.cell? ⟨k4,0,none⟩ = some (.bool g4) /\ w'.cell? ⟨k4,1,none⟩ = some (.slice A4 n4 o4) /\ w'.cell? ⟨k6,0,none⟩ = some (.bool g6) /\ w'.cell? ⟨k6,1,none⟩ = some (.slice A6 n6 o6)) (by kernel_rfl) (HT.out _ hB) (fun hH=>?_)
    clear hH
    generalize W6.drew = wr0 at *
    refine tk 0 24 (by first | assumption | exact HT.out _ hB) ?_
    try simp only [Act.put,tA,cZ,cS]
    refine tk 1 25 (by first | assumption | exact HT.out _ hB) ?_
    try simp only [Act.put,tA,cZ,cS]
    refine tk 3 27 (by first | assumption | exact HT.out _ hB) ?_
    try simp only [Act.put,tA,cZ,cS]
    refine tk 4 28 (by first | assumption | exact HT.out _ hB) ?_
    try simp only [Act.put,tA,cZ,cS]
    refine rd 2 (AllReadyH.cons rfl (fun K hK=>?_) AllReadyH.nil)
    (try simp only [gA]);(try simp only [gS]);(try simp only [gZ])
    go_simp
    (go_at_call 90;refine (rMul_any _ _ r r 1000 1000 _ T1.out T1.out (by omega) (by omega)).mono ?_;rintro e wc2 ⟨⟨gt2,At2,nt2,ct2,rfl,hz⟩,hb⟩)
    replace X:=Hd (X.out.below hb)
    replace X1:=Hd (X1.out.below hb)
    replace X2:=Hd (X2.out.below hb)
    replace T1:=Hd (T1.out.below hb)
    replace T2:=Hd (T2.out.below hb)
    replace hB:=Below.trans hB (hb.mono hB.size)
    have M1:=Hd hz
    refine hK.out _ _ (HT.out _ hB) (fun hH=>?_)
    clear hK K hH
    try simp only [Act.put,tA,cZ,cS]
    clear hb hz
    refine rd 5 (AllReadyH.cons rfl (fun K hK=>?_) AllReadyH.nil)
    (try simp only [gA]);(try simp only [gS]);(try simp only [gZ])
    go_simp
    (go_at_call 83;refine (rcmp_any _ _ (r * r) n 2001 16 _ M1.out X1.out (by omega) (by omega)).mono ?_;rintro e wc5 ⟨rfl,hb⟩)
    rw [HCR.out]
    replace X:=Hd (X.out.below hb)
    replace X1:=Hd (X1.out.below hb)
    replace X2:=Hd (X2.out.below hb)
    replace T1:=Hd (T1.out.below hb)
    replace T2:=Hd (T2.out.below hb)
    replace M1:=Hd (M1.out.below hb)
    replace hB:=Below.trans hB (hb.mono hB.size)
    refine hK.out _ _ (HT.out _ hB) (fun hH=>?_)
    clear hK K hH
    try simp only [Act.put,tA,cZ,cS]
    clear hb
    refine tk 6 30 (by first | assumption | exact HT.out _ hB) ?_
    try simp only [Act.put,tA,cZ,cS]
    refine tk 7 31 (by first | assumption | exact HT.out _ hB) ?_
    try simp only [Act.put,tA,cZ,cS]
    refine tk 8 32 (by first | assumption | exact HT.out _ hB) ?_
    try simp only [Act.put,tA,cZ,cS]
    refine tk 9 33 (by first | assumption | exact HT.out _ hB) ?_
    try simp only [Act.put,tA,cZ,cS]
    refine tk 11 35 (by first | assumption | exact HT.out _ hB) ?_
    try simp only [Act.put,tA,cZ,cS]
    refine tk 12 36 (by first | assumption | exact HT.out _ hB) ?_
    try simp only [Act.put,tA,cZ,cS]
    refine rd 10 (AllReadyH.cons rfl (fun K hK=>?_) AllReadyH.nil)
    (try simp only [gA]);(try simp only [gS]);(try simp only [gZ])
    go_simp
    (go_at_call 90;refine (rMul_any _ _ s s 1000 1000 _ T2.out T2.out (by omega) (by omega)).mono ?_;rintro e wc10 ⟨⟨gt10,At10,nt10,ct10,rfl,hz⟩,hb⟩)
    replace X:=Hd (X.out.below hb)
    replace X1:=Hd (X1.out.below hb)
    replace X2:=Hd (X2.out.below hb)
    replace T1:=Hd (T1.out.below hb)
    replace T2:=Hd (T2.out.below hb)
    replace M1:=Hd (M1.out.below hb)
    replace hB:=Below.trans hB (hb.mono hB.size)
    have M2:=Hd hz
    refine hK.out _ _ (HT.out _ hB) (fun hH=>?_)
    clear hK K hH
    try simp only [Act.put,tA,cZ,cS]
    clear hb hz
    refine rd 13 (AllReadyH.cons rfl (fun K hK=>?_) AllReadyH.nil)
    (try simp only [gA]);(try simp only [gS]);(try simp only [gZ])
    go_simp
    (go_at_call 83;refine (rcmp_any _ _ (s * s) d 2001 16 _ M2.out X2.out (by omega) (by omega)).mono ?_;rintro e wc13 ⟨rfl,hb⟩)
    replace X:=Hd (X.out.below hb)
    replace X1:=Hd (X1.out.below hb)
    replace X2:=Hd (X2.out.below hb)
    replace T1:=Hd (T1.out.below hb)
    replace T2:=Hd (T2.out.below hb)
    replace M1:=Hd (M1.out.below hb)
    replace M2:=Hd (M2.out.below hb)
    replace hB:=Below.trans hB (hb.mono hB.size)
    refine hK.out _ _ (HT.out _ hB) (fun hH=>?_)
    clear hK K hH
    try simp only [Act.put,tA,cZ,cS]
    clear hb
    refine tk 14 38 (by first | assumption | exact HT.out _ hB) ?_
    try simp only [Act.put,tA,cZ,cS]
    refine tk 15 39 (by first | assumption | exact HT.out _ hB) ?_
    try simp only [Act.put,tA,cZ,cS]
    refine wpAnyH_done (by kernel_rfl) ?_ _
    replace B0:=Hd (B0.out.below hB)
    replace BR:=Hd (BR.out.below hB)
    replace B4:=Hd (B4.out.below hB)
    replace B6:=Hd (B6.out.below hB)
    replace hw:=hw.trans (hB.mono hw.size)
    go_wp2_with fail
    refine (rInt_any 0 _ (by decide) (by decide)).mono ?_
    rintro e wz ⟨⟨y1,y2,y3,y4,y5,y6,y7,y8,rfl,hz,ho⟩,hb⟩
    replace BR:=Hd (BR.out.below hb)
    replace hw:=hw.trans (hb.mono hw.size)
    have HZ:=Hd hz
    have HO1:=Hd ho
    clear hz ho hb
    obtain ⟨r0,r1,r2,r3,r4,r5,r6,r7,r8⟩:=BR.out
    go_wp2
    exact bodyPost_ret (v:=.tuple #[.agg #[.bool y1,.slice y2 y3 y4,.bool y5,.slice y6 y7 y8],.int .i64 5]) (by simp [results,Tryz.results35,go_sem,r0,r1,r2,r3]) rfl (Or.inr (Or.inl ⟨HN.out,no_root2 HS.out HSS.out,⟨⟨y1,y2,y3,y4,y5,y6,y7,y8,rfl,(RQ.mk' (HZ.out.mono (by omega)) (HO1.out.mono (by omega)) (by decide) (by decide)).put4 BR.out _ _ _ _⟩,below_put4 hw (by omega) _ _ _ _⟩⟩))
  ·skip
   have hr1:(cmpI (r * r) n == 0) = false:=by rw [cmp_dec];exact decide_eq_false hr
   have hr2:(cmpI (r * r) n != 0) = true:=by simp [bne,hr1]
   have HRR:=Hd hr
   clear hr
   have HT:=Hd (fun (w':World) (hb:Below W6.heap.size W6 w')=>(show w'.cell? ⟨w.heap.size,0,none⟩ = some (.bool g1) /\ w'.cell? ⟨w.heap.size,1,none⟩ = some (.slice A1 n1 c1) /\ w'.cell? ⟨w.heap.size,2,none⟩ = some (.bool e1) /\ w'.cell? ⟨w.heap.size,3,none⟩ = some (.slice E1 m1 d1) /\ w'.cell? ⟨k4,0,none⟩ = some (.bool g4) /\ w'.cell? ⟨k4,1,none⟩ = some (.slice A4 n4 o4) /\ w'.cell? ⟨k6,0,none⟩ = some (.bool g6) /\ w'.cell? ⟨k6,1,none⟩ = some (.slice A6 n6 o6) from ⟨(B0.out.below hb).c0,(B0.out.below hb).c1,(B0.out.below hb).c2,(B0.out.below hb).c3,(B4.out.below hb).1,(B4.out.below hb).2.1,(B6.out.below hb).1,(B6.out.below hb).2.1⟩))
   have hB:=(Below.refl W6.heap.size W6).drew
   replace X:=Hd (X.out.below hB)
   replace X1:=Hd (X1.out.below hB)
   replace X2:=Hd (X2.out.below hB)
   replace T1:=Hd (T1.out.below hB)
   replace T2:=Hd (T2.out.below hB)
   refine wp_region_held_drew (S:=fun w'=>w'.cell? ⟨w.heap.size,0,none⟩ = some (.bool g1) /\ w'.cell? ⟨w.heap.size,1,none⟩ = some (.slice A1 n1 c1) /\ w'.cell? ⟨w.heap.size,2,none⟩ = some (.bool e1) /\ w'.cell? ⟨w.heap.size,3,none⟩ = some (.slice E1 m1 d1) /\ w'.cell? ⟨k4,0,none⟩ = some (.bool g4) /\ w'.cell? ⟨k4,1,none⟩ = some (.slice A4 n4 o4) /\ w'.cell? ⟨k6,0,none⟩ = some (.bool g6) /\ w'.cell? ⟨k6,1,none⟩ = some (.slice A6 n6 o6)) (by kernel_rfl) (HT.out _ hB) (fun hH=>?_)
   clear hH
   generalize W6.drew = wr0 at *
   refine tk 0 24 (by first | assumption | exact HT.out _ hB) ?_
   try simp only [Act.put,tA,cZ,cS]
   refine tk 1 25 (by first | assumption | exact HT.out _ hB) ?_
   try simp only [Act.put,tA,cZ,cS]
   refine tk 3 27 (by first | assumption | exact HT.out _ hB) ?_
   try simp only [Act.put,tA,cZ,cS]
   refine tk 4 28 (by first | assumption | exact HT.out _ hB) ?_
   try simp only [Act.put,tA,cZ,cS]
   refine rd 2 (AllReadyH.cons rfl (fun K hK=>?_) AllReadyH.nil)
   (try simp only [gA]);(try simp only [gS]);(try simp only [gZ])
   go_simp
   (go_at_call 90;refine (rMul_any _ _ r r 1000 1000 _ T1.out T1.out (by omega) (by omega)).mono ?_;rintro e wc2 ⟨⟨gt2,At2,nt2,ct2,rfl,hz⟩,hb⟩)
   replace X:=Hd (X.out.below hb)
   replace X1:=Hd (X1.out.below hb)
   replace X2:=Hd (X2.out.below hb)
   replace T1:=Hd (T1.out.below hb)
   replace T2:=Hd (T2.out.below hb)
   replace hB:=Below.trans hB (hb.mono hB.size)
   have M1:=Hd hz
   refine hK.out _ _ (HT.out _ hB) (fun hH=>?_)
   clear hK K hH
   try simp only [Act.put,tA,cZ,cS]
   clear hb hz
   refine rd 5 (AllReadyH.cons rfl (fun K hK=>?_) AllReadyH.nil)
   (try simp only [gA]);(try simp only [gS]);(try simp only [gZ])
   go_simp
   (go_at_call 83;refine (rcmp_any _ _ (r * r) n 2001 16 _ M1.out X1.out (by omega) (by omega)).mono ?_;rintro e wc5 ⟨rfl,hb⟩)
   replace X:=Hd (X.out.below hb)
   replace X1:=Hd (X1.out.below hb)
   replace X2:=Hd (X2.out.below hb)
   replace T1:=Hd (T1.out.below hb)
   replace T2:=Hd (T2.out.below hb)
   replace M1:=Hd (M1.out.below hb)
   replace hB:=Below.trans hB (hb.mono hB.size)
   refine hK.out _ _ (HT.out _ hB) (fun hH=>?_)
   clear hK K hH
   try simp only [Act.put,tA,cZ,cS]
   clear hb
   refine tk 6 30 (by first | assumption | exact HT.out _ hB) ?_
   try simp only [Act.put,tA,cZ,cS]
   refine tk 7 31 (by first | assumption | exact HT.out _ hB) ?_
   try simp only [Act.put,tA,cZ,cS]
   refine wpAnyH_taken (i:=8) (d:=some 32) (v:=undef) rfl rfl (by kernel_rfl) (by kernel_rfl) (by kernel_rfl) (fun _ _ _ h=>h) (Or.inr ⟨by rfl,rfl⟩) (by first | assumption | exact HT.out _ hB) ?_
   try simp only [Act.put,tA,cZ,cS]
   refine wpAnyH_taken (i:=9) (d:=some 33) (v:=undef) rfl rfl (by kernel_rfl) (by kernel_rfl) (by kernel_rfl) (fun _ _ _ h=>h) (Or.inr ⟨by rfl,rfl⟩) (by first | assumption | exact HT.out _ hB) ?_
   try simp only [Act.put,tA,cZ,cS]
   refine wpAnyH_taken (i:=11) (d:=some 35) (v:=undef) rfl rfl (by kernel_rfl) (by kernel_rfl) (by kernel_rfl) (fun _ _ _ h=>h) (Or.inr ⟨by rfl,rfl⟩) (by first | assumption | exact HT.out _ hB) ?_
   try simp only [Act.put,tA,cZ,cS]
   refine wpAnyH_taken (i:=10) (d:=some 34) (v:=undef) rfl rfl (by kernel_rfl) (by kernel_rfl) (by kernel_rfl) (fun _ _ _ h=>h) (Or.inr ⟨by rfl,rfl⟩) (by first | assumption | exact HT.out _ hB) ?_
   try simp only [Act.put,tA,cZ,cS]
   refine wpAnyH_taken (i:=12) (d:=some 36) (v:=undef) rfl rfl (by kernel_rfl) (by kernel_rfl) (by kernel_rfl) (fun _ _ _ h=>h) (Or.inr ⟨by rfl,rfl⟩) (by first | assumption | exact HT.out _ hB) ?_
   try simp only [Act.put,tA,cZ,cS]
   refine wpAnyH_taken (i:=13) (d:=some 37) (v:=undef) rfl rfl (by kernel_rfl) (by kernel_rfl) (by kernel_rfl) (fun _ _ _ h=>h) (Or.inr ⟨by rfl,rfl⟩) (by first | assumption | exact HT.out _ hB) ?_
   try simp only [Act.put,tA,cZ,cS]
   refine wpAnyH_taken (i:=14) (d:=some 38) (v:=undef) rfl rfl (by kernel_rfl) (by kernel_rfl) (by kernel_rfl) (fun _ _ _ h=>h) (Or.inr ⟨by rfl,rfl⟩) (by first | assumption | exact HT.out _ hB) ?_
   try simp only [Act.put,tA,cZ,cS]
   refine tk 15 39 (by first | assumption | exact HT.out _ hB) ?_
   try simp only [Act.put,tA,cZ,cS]
   refine wpAnyH_done (by kernel_rfl) ?_ _
   replace B0:=Hd (B0.out.below hB)
   replace BR:=Hd (BR.out.below hB)
   replace B4:=Hd (B4.out.below hB)
   replace B6:=Hd (B6.out.below hB)
   replace hw:=hw.trans (hB.mono hw.size)
   go_wp2_with fail
   refine (rInt_any 0 _ (by decide) (by decide)).mono ?_
   rintro e wz ⟨⟨y1,y2,y3,y4,y5,y6,y7,y8,rfl,hz,ho⟩,hb⟩
   replace BR:=Hd (BR.out.below hb)
   replace hw:=hw.trans (hb.mono hw.size)
   have HZ:=Hd hz
   have HO1:=Hd ho
   clear hz ho hb
   obtain ⟨r0,r1,r2,r3,r4,r5,r6,r7,r8⟩:=BR.out
   go_wp2
   exact bodyPost_ret (v:=.tuple #[.agg #[.bool y1,.slice y2 y3 y4,.bool y5,.slice y6 y7 y8],.int .i64 5]) (by simp [results,Tryz.results35,go_sem,r0,r1,r2,r3]) rfl (Or.inr (Or.inl ⟨HN.out,no_root1 HR.out HRR.out,⟨⟨y1,y2,y3,y4,y5,y6,y7,y8,rfl,(RQ.mk' (HZ.out.mono (by omega)) (HO1.out.mono (by omega)) (by decide) (by decide)).put4 BR.out _ _ _ _⟩,below_put4 hw (by omega) _ _ _ _⟩⟩))
end Go.Proofs.YtbajnceoolkckaaGreat
