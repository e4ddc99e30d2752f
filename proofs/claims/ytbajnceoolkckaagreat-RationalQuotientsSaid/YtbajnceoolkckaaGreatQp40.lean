/- Of the proof of RationalQuotients: RatQuot. -/
import Derived.Test.YtbajnceoolkckaaGreatQp39
open Go.Lib renaming hid → Hd
set_option maxRecDepth 100000
set_option maxHeartbeats 16000000
namespace Go.Proofs.YtbajnceoolkckaaGreat
open Go.RowKit LM
theorem lensQ2 (w:World) {g:Nat} (hg:w.heap.size = g) (pa pb pc pd:Bool) (Aa Ab Ac Ad:Option Addr) (na nb nc nd ca cb cc cd:Nat) :
  LensQ (w.alloc (.cells #[.bool pa,.slice Aa na ca,.bool pb,.slice Ab nb cb,.bool pc,.slice Ac nc cc,.bool pd,.slice Ad nd cd] 26)) g 2 [(na,nb),(nc,nd)]:=by
 subst hg
 refine ⟨rfl,by simp,fun i hi=>?_⟩
 match i,hi with
 | 0,_=>exact ⟨pa,Aa,ca,pb,Ab,cb,World.cell?_alloc_at _ _ _ _ rfl,World.cell?_alloc_at _ _ _ _ rfl,World.cell?_alloc_at _ _ _ _ rfl,World.cell?_alloc_at _ _ _ _ rfl⟩
 | 1,_=>exact ⟨pc,Ac,cc,pd,Ad,cd,World.cell?_alloc_at _ _ _ _ rfl,World.cell?_alloc_at _ _ _ _ rfl,World.cell?_alloc_at _ _ _ _ rfl,World.cell?_alloc_at _ _ _ _ rfl⟩
theorem rquots_any (way:Int) (pa pb pc pd:Bool) (Aa Ab Ac Ad:Option Addr) (na ca nb cb nc cc nd cd:Nat) (xa xb xc xd:List Int) (M:Int) (w:World)
  (ha:Row .u32 w Aa na ca xa) (da:Dig xa) (hb0:Row .u32 w Ab nb cb xb) (db:Dig xb) (hc:Row .u32 w Ac nc cc xc) (dc:Dig xc) (hd:Row .u32 w Ad nd cd xd) (dd:Dig xd) (hM:MCell M w) :
  Calls Tryz.prog 5 #[.int .i64 way,.agg #[.bool pa,.slice Aa na ca,.bool pb,.slice Ab nb cb],.agg #[.bool pc,.slice Ac nc cc,.bool pd,.slice Ad nd cd]] w fun e w'=>e = .returned (.bool true) /\ Below w.heap.size w w':=by
 have hw:=below_two w (.cells #[.bool pa,.slice Aa na ca,.bool pb,.slice Ab nb cb] 26) (.cells #[.bool pc,.slice Ac nc cc,.bool pd,.slice Ad nd cd] 26)
 have F0:=Fx4.new1 w (.bool pa) (.slice Aa na ca) (.bool pb) (.slice Ab nb cb) 26 (.cells #[.bool pc,.slice Ac nc cc,.bool pd,.slice Ad nd cd] 26)
 have F1:=Fx4.new2 w (.bool pc) (.slice Ac nc cc) (.bool pd) (.slice Ad nd cd) 26 #[.bool pa,.slice Aa na ca,.bool pb,.slice Ab nb cb] 26
 obtain ⟨W0,hW0⟩ : ∃ W0,(w.alloc (.cells #[.bool pa,.slice Aa na ca,.bool pb,.slice Ab nb cb] 26)).alloc (.cells #[.bool pc,.slice Ac nc cc,.bool pd,.slice Ad nd cd] 26) = W0:=⟨_,rfl⟩
 rw [hW0] at hw F0 F1
 have B0:=Hd F0
 have B1:=Hd F1
 have HM:=Hd (MCell.below hM hw)
 have HA:=Hd (ha.below hw)
 have HB:=Hd (hb0.below hw)
 have HC:=Hd (hc.below hw)
 have HD:=Hd (hd.below hw)
 have DA:=Hd da
 have DB:=Hd db
 have DC:=Hd dc
 have DD:=Hd dd
 clear F0 F1 hM ha hb0 hc hd da db dc dd
 go_enter Tryz.func5,Tryz.ntmps5
 go_upto_region 1 with fail
 clear hW0
 obtain ⟨c00,c01,c02,c03,f00,f01,f02,f03,s0⟩:=B0.out
 obtain ⟨c10,c11,c12,c13,f10,f11,f12,f13,s1⟩:=B1.out
 go_wp2_with fail
 refine (shortQ_any _ 2 [(na,nb),(nc,nd)] 4 _ (lensQ2 W0 rfl pa pb pc pd Aa Ab Ac Ad na nb nc nd ca cb cc cd) (by omega)).mono ?_
 rintro e w2 ⟨rfl,hb⟩
 replace hb:=(below_alloc W0 (.cells #[.bool pa,.slice Aa na ca,.bool pb,.slice Ab nb cb,.bool pc,.slice Ac nc cc,.bool pd,.slice Ad nd cd] 26)).trans (hb.mono (by simp))
 clear c00 c01 c02 c03 f00 f01 f02 f03 s0
 clear c10 c11 c12 c13 f10 f11 f12 f13 s1
 replace B0:=Hd (B0.out.below hb)
 replace B1:=Hd (B1.out.below hb)
 replace HM:=Hd (HM.out.below hb)
 replace HA:=Hd (HA.out.below hb)
 replace HB:=Hd (HB.out.below hb)
 replace HC:=Hd (HC.out.below hb)
 replace HD:=Hd (HD.out.below hb)
 replace hw:=hw.trans (hb.mono hw.size)
 clear hb
 cases ht:anyLong [(na,nb),(nc,nd)] 4 with
 | true=>
  go_wp2_with fail
  refine (awake_m _ M HM.out).mono ?_
  rintro e wz ⟨rfl,hb⟩
  go_wp2
  go_ret
  exact ⟨rfl,hw.trans (hb.mono hw.size)⟩
 | false=>
  have HN:=Hd (show (na <= 4 /\ nb <= 4) /\ (nc <= 4 /\ nd <= 4) by simp [anyLong,tooLong] at ht;omega)
  clear ht
  obtain ⟨c00,c01,c02,c03,f00,f01,f02,f03,s0⟩:=B0.out
  go_wp2_with fail
  refine (ofQ_any pa pb Aa Ab na ca nb cb xa xb _ HA.out DA.out HB.out DB.out (by have:=HN.out.1;omega) (by have:=HN.out.1;omega)).mono ?_
  rintro e w3 ⟨⟨g7,A7,n7,o7,e7,E7,m7,d7,g8,A8,n8,o8,e8,E8,m8,d8,rfl,hv,hr⟩,hb⟩
  obtain ⟨z,hz⟩ : ∃ z,ofN (withSign pa (val xa)) (withSign pb (val xb)) = z:=⟨_,rfl⟩
  obtain ⟨t,ht⟩ : ∃ t,ofD (withSign pa (val xa)) (withSign pb (val xb)) = t:=⟨_,rfl⟩
  rw [hz,ht] at hv hr
  clear hz ht
  replace hv:=hv.mono (show max na nb + 4 <= 8 by have:=HN.out.1;omega)
  replace hr:=hr.tight (K:=16) hv.lt16.1 hv.lt16.2
  clear c00 c01 c02 c03 f00 f01 f02 f03 s0
  clear HA
  clear HB
  replace B0:=Hd (B0.out.below hb)
  replace B1:=Hd (B1.out.below hb)
  replace HM:=Hd (HM.out.below hb)
  replace HC:=Hd (HC.out.below hb)
  replace HD:=Hd (HD.out.below hb)
  replace hw:=hw.trans (hb.mono hw.size)
  clear hb
  have hX:=below_two w3 (.cells #[.bool g7,.slice A7 n7 o7,.bool e7,.slice E7 m7 d7] 38) (.cells #[.bool g8,.slice A8 n8 o8,.bool e8,.slice E8 m8 d8] 43)
  replace B0:=Hd (B0.out.below hX)
  replace B1:=Hd (B1.out.below hX)
  replace HM:=Hd (HM.out.below hX)
  replace HC:=Hd (HC.out.below hX)
  replace HD:=Hd (HD.out.below hX)
  replace hw:=hw.trans (hX.mono hw.size)
  have B7:=Hd (Fx4.new1 w3 (.bool g7) (.slice A7 n7 o7) (.bool e7) (.slice E7 m7 d7) 38 (.cells #[.bool g8,.slice A8 n8 o8,.bool e8,.slice E8 m8 d8] 43))
  have B8:=Hd (Fx4.new2 w3 (.bool g8) (.slice A8 n8 o8) (.bool e8) (.slice E8 m8 d8) 43 #[.bool g7,.slice A7 n7 o7,.bool e7,.slice E7 m7 d7] 38)
  have V7:=Hd (hv.below hX)
  have V8:=Hd (hr.below hX)
  clear hX hv hr DA DB
  clear B0
  go_upto_region 4 with fail
  generalize (w3.alloc (.cells #[.bool g7,.slice A7 n7 o7,.bool e7,.slice E7 m7 d7] 38)).alloc (.cells #[.bool g8,.slice A8 n8 o8,.bool e8,.slice E8 m8 d8] 43) = W3 at *
  generalize w3.heap.size = k7 at *
  obtain ⟨c10,c11,c12,c13,f10,f11,f12,f13,s1⟩:=B1.out
  go_wp2_with fail
  refine (ofQ_any pc pd Ac Ad nc cc nd cd xc xd _ HC.out DC.out HD.out DD.out (by have:=HN.out.2;omega) (by have:=HN.out.2;omega)).mono ?_
  rintro e w4 ⟨⟨g9,A9,n9,o9,e9,E9,m9,d9,g10,A10,n10,o10,e10,E10,m10,d10,rfl,hv,hr⟩,hb⟩
  obtain ⟨u,hz⟩ : ∃ u,ofN (withSign pc (val xc)) (withSign pd (val xd)) = u:=⟨_,rfl⟩
  obtain ⟨s,ht⟩ : ∃ s,ofD (withSign pc (val xc)) (withSign pd (val xd)) = s:=⟨_,rfl⟩
  rw [hz,ht] at hv hr
  clear hz ht
  replace hv:=hv.mono (show max nc nd + 4 <= 8 by have:=HN.out.2;omega)
  replace hr:=hr.tight (K:=16) hv.lt16.1 hv.lt16.2
  clear c10 c11 c12 c13 f10 f11 f12 f13 s1
  clear HC
  clear HD
  replace B1:=Hd (B1.out.below hb)
  replace B7:=Hd (B7.out.below hb)
  replace B8:=Hd (B8.out.below hb)
  replace HM:=Hd (HM.out.below hb)
  replace V7:=Hd (V7.out.below hb)
  replace V8:=Hd (V8.out.below hb)
  replace hw:=hw.trans (hb.mono hw.size)
  clear hb
  have hX:=below_two w4 (.cells #[.bool g9,.slice A9 n9 o9,.bool e9,.slice E9 m9 d9] 38) (.cells #[.bool g10,.slice A10 n10 o10,.bool e10,.slice E10 m10 d10] 43)
  replace B1:=Hd (B1.out.below hX)
  replace B7:=Hd (B7.out.below hX)
  replace B8:=Hd (B8.out.below hX)
  replace HM:=Hd (HM.out.below hX)
  replace V7:=Hd (V7.out.below hX)
  replace V8:=Hd (V8.out.below hX)
  replace hw:=hw.trans (hX.mono hw.size)
  have B9:=Hd (Fx4.new1 w4 (.bool g9) (.slice A9 n9 o9) (.bool e9) (.slice E9 m9 d9) 38 (.cells #[.bool g10,.slice A10 n10 o10,.bool e10,.slice E10 m10 d10] 43))
  have B10:=Hd (Fx4.new2 w4 (.bool g10) (.slice A10 n10 o10) (.bool e10) (.slice E10 m10 d10) 43 #[.bool g9,.slice A9 n9 o9,.bool e9,.slice E9 m9 d9] 38)
  have V9:=Hd (hv.below hX)
  have V10:=Hd (hr.below hX)
  clear hX hv hr DC DD
  clear B1
  go_upto_region 5 with fail
  generalize (w4.alloc (.cells #[.bool g9,.slice A9 n9 o9,.bool e9,.slice E9 m9 d9] 38)).alloc (.cells #[.bool g10,.slice A10 n10 o10,.bool e10,.slice E10 m10 d10] 43) = W4 at *
  generalize w4.heap.size = k9 at *
  clear HN
  obtain ⟨c70,c71,c72,c73,f70,f71,f72,f73,s7⟩:=B7.out
  obtain ⟨c90,c91,c92,c93,f90,f91,f92,f93,s9⟩:=B9.out
  go_wp2_with fail
  refine (Quotient_q way _ _ z t u s 8 _ V7.out V9.out (by decide) (by decide)).mono ?_
  rintro e w5 ⟨⟨g11,A11,n11,o11,g12,A12,n12,o12,e12,E12,m12,d12,rfl,hz,hq⟩,hb⟩
  obtain ⟨QQ,h1⟩ : ∃ QQ,quQ way z t u s = QQ:=⟨_,rfl⟩
  obtain ⟨PN,h2⟩ : ∃ PN,quN way z t u s = PN:=⟨_,rfl⟩
  obtain ⟨PD,h3⟩ : ∃ PD,quD way z t u s = PD:=⟨_,rfl⟩
  obtain ⟨er,h4⟩ : ∃ er,quE way u = er:=⟨_,rfl⟩
  rw [h1] at hz
  rw [h2,h3] at hq
  rw [h4]
  have H1:=Hd h1
  have H2:=Hd h2
  have H3:=Hd h3
  have H4:=Hd h4
  clear h1 h2 h3 h4
  clear c70 c71 c72 c73 f70 f71 f72 f73 s7
  clear c90 c91 c92 c93 f90 f91 f92 f93 s9
  replace B7:=Hd (B7.out.below hb)
  replace B8:=Hd (B8.out.below hb)
  replace B9:=Hd (B9.out.below hb)
  replace B10:=Hd (B10.out.below hb)
  replace HM:=Hd (HM.out.below hb)
  replace V7:=Hd (V7.out.below hb)
  replace V8:=Hd (V8.out.below hb)
  replace V9:=Hd (V9.out.below hb)
  replace V10:=Hd (V10.out.below hb)
  replace hw:=hw.trans (hb.mono hw.size)
  clear hb
  have hX:=below_two w5 (.cells #[.bool g11,.slice A11 n11 o11] 31) (.cells #[.bool g12,.slice A12 n12 o12,.bool e12,.slice E12 m12 d12] 38)
  replace B7:=Hd (B7.out.below hX)
  replace B8:=Hd (B8.out.below hX)
  replace B9:=Hd (B9.out.below hX)
  replace B10:=Hd (B10.out.below hX)
  replace HM:=Hd (HM.out.below hX)
  replace V7:=Hd (V7.out.below hX)
  replace V8:=Hd (V8.out.below hX)
  replace V9:=Hd (V9.out.below hX)
  replace V10:=Hd (V10.out.below hX)
  replace hw:=hw.trans (hX.mono hw.size)
  have B11:=Hd (Fx.newA w5 (.bool g11) (.slice A11 n11 o11) 31 (.cells #[.bool g12,.slice A12 n12 o12,.bool e12,.slice E12 m12 d12] 38))
  have B12:=Hd (Fx4.new2 w5 (.bool g12) (.slice A12 n12 o12) (.bool e12) (.slice E12 m12 d12) 38 #[.bool g11,.slice A11 n11 o11] 31)
  have V11:=Hd (hz.below hX)
  have V12:=Hd (hq.below hX)
  clear hX hz hq
  go_upto_region 6 with fail
  generalize (w5.alloc (.cells #[.bool g11,.slice A11 n11 o11] 31)).alloc (.cells #[.bool g12,.slice A12 n12 o12,.bool e12,.slice E12 m12 d12] 38) = W5 at *
  generalize w5.heap.size = k11 at *
  obtain ⟨c80,c81,c82,c83,f80,f81,f82,f83,s8⟩:=B8.out
  obtain ⟨c100,c101,c102,c103,f100,f101,f102,f103,s10⟩:=B10.out
  go_wp2_with fail
  refine (rQuotient_q way _ _ z t u s _ V8.out V10.out).mono ?_
  rintro e w6 ⟨⟨g14,A14,n14,o14,g15,A15,n15,o15,e15,E15,m15,d15,rfl,hz,hq⟩,hb⟩
  rw [H1.out] at hz
  rw [H2.out,H3.out] at hq
  rw [H4.out]
  clear H1 H2 H3 H4
  clear c80 c81 c82 c83 f80 f81 f82 f83 s8
  clear c100 c101 c102 c103 f100 f101 f102 f103 s10
  replace B7:=Hd (B7.out.below hb)
  replace B8:=Hd (B8.out.below hb)
  replace B9:=Hd (B9.out.below hb)
  replace B10:=Hd (B10.out.below hb)
  replace B11:=Hd (B11.out.below hb)
  replace B12:=Hd (B12.out.below hb)
  replace HM:=Hd (HM.out.below hb)
  replace V7:=Hd (V7.out.below hb)
  replace V8:=Hd (V8.out.below hb)
  replace V9:=Hd (V9.out.below hb)
  replace V10:=Hd (V10.out.below hb)
  replace V11:=Hd (V11.out.below hb)
  replace V12:=Hd (V12.out.below hb)
  replace hw:=hw.trans (hb.mono hw.size)
  clear hb
  have hX:=below_two w6 (.cells #[.bool g14,.slice A14 n14 o14] 34) (.cells #[.bool g15,.slice A15 n15 o15,.bool e15,.slice E15 m15 d15] 43)
  replace B7:=Hd (B7.out.below hX)
  replace B8:=Hd (B8.out.below hX)
  replace B9:=Hd (B9.out.below hX)
  replace B10:=Hd (B10.out.below hX)
  replace B11:=Hd (B11.out.below hX)
  replace B12:=Hd (B12.out.below hX)
  replace HM:=Hd (HM.out.below hX)
  replace V7:=Hd (V7.out.below hX)
  replace V8:=Hd (V8.out.below hX)
  replace V9:=Hd (V9.out.below hX)
  replace V10:=Hd (V10.out.below hX)
  replace V11:=Hd (V11.out.below hX)
  replace V12:=Hd (V12.out.below hX)
  replace hw:=hw.trans (hX.mono hw.size)
  have B14:=Hd (Fx.newA w6 (.bool g14) (.slice A14 n14 o14) 34 (.cells #[.bool g15,.slice A15 n15 o15,.bool e15,.slice E15 m15 d15] 43))
  have B15:=Hd (Fx4.new2 w6 (.bool g15) (.slice A15 n15 o15) (.bool e15) (.slice E15 m15 d15) 43 #[.bool g14,.slice A14 n14 o14] 34)
  have V14:=Hd (hz.below hX)
  have V15:=Hd (hq.below hX)
  clear hX hz hq
  go_upto_region 7 with fail
  generalize (w6.alloc (.cells #[.bool g14,.slice A14 n14 o14] 34)).alloc (.cells #[.bool g15,.slice A15 n15 o15,.bool e15,.slice E15 m15 d15] 43) = W6 at *
  generalize w6.heap.size = k14 at *
  clear B7
  clear B8
  clear B9
  clear B10
  clear V7
  clear V8
  clear V9
  clear V10
  obtain ⟨c110,c111,f110,f111,s11⟩:=B11.out
  obtain ⟨c140,c141,f140,f141,s14⟩:=B14.out
  go_wp2_with fail
  refine (is_yes _ _ QQ 104 600 _ V11.out V14.out (by decide) (by decide)).mono ?_
  rintro e w7 ⟨rfl,hb⟩
  clear c110 c111 f110 f111 s11
  clear c140 c141 f140 f141 s14
  replace B11:=Hd (B11.out.below hb)
  replace B12:=Hd (B12.out.below hb)
  replace B14:=Hd (B14.out.below hb)
  replace B15:=Hd (B15.out.below hb)
  replace HM:=Hd (HM.out.below hb)
  replace V11:=Hd (V11.out.below hb)
  replace V12:=Hd (V12.out.below hb)
  replace V14:=Hd (V14.out.below hb)
  replace V15:=Hd (V15.out.below hb)
  replace hw:=hw.trans (hb.mono hw.size)
  clear hb
  obtain ⟨c120,c121,c122,c123,f120,f121,f122,f123,s12⟩:=B12.out
  obtain ⟨c150,c151,c152,c153,f150,f151,f152,f153,s15⟩:=B15.out
  go_wp2_with fail
  refine (Is_q _ _ PN PD 104 600 _ V12.out V15.out (by decide) (by decide) (by decide)).mono ?_
  rintro e w8 ⟨rfl,hb⟩
  clear c120 c121 c122 c123 f120 f121 f122 f123 s12
  clear c150 c151 c152 c153 f150 f151 f152 f153 s15
  replace B11:=Hd (B11.out.below hb)
  replace B12:=Hd (B12.out.below hb)
  replace B14:=Hd (B14.out.below hb)
  replace B15:=Hd (B15.out.below hb)
  replace HM:=Hd (HM.out.below hb)
  replace V11:=Hd (V11.out.below hb)
  replace V12:=Hd (V12.out.below hb)
  replace V14:=Hd (V14.out.below hb)
  replace V15:=Hd (V15.out.below hb)
  replace hw:=hw.trans (hb.mono hw.size)
  clear hb
  go_wp2_with fail
  refine (awake_m _ M HM.out).mono ?_
  rintro e wz ⟨rfl,hb⟩
  go_wp2
  go_ret
  exact ⟨rfl,hw.trans (hb.mono hw.size)⟩
end Go.Proofs.YtbajnceoolkckaaGreat
