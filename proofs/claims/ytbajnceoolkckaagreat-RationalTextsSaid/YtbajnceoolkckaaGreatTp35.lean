/- Of the proof of RationalTexts: RatTx. -/
import Derived.Test.YtbajnceoolkckaaGreatTp34
open Go.Lib renaming hid → Hd
set_option maxRecDepth 100000
set_option maxHeartbeats 16000000
namespace Go.Proofs.YtbajnceoolkckaaGreat
open Go.RowKit LM
theorem rtexts_any (pa pb:Bool) (Aa Ab:Option Addr) (na ca nb cb:Nat) (xa xb:List Int) (S:ByteArray) (R M:Int) (w:World)
  (ha:Row .u32 w Aa na ca xa) (da:Dig xa) (hb0:Row .u32 w Ab nb cb xb) (db:Dig xb) (hM:MCell M w) :
  Calls Tryz.prog 7 #[.agg #[.bool pa,.slice Aa na ca,.bool pb,.slice Ab nb cb],.string S,.int .i64 R] w fun e w'=>e = .returned (.bool true) /\ Below w.heap.size w w':=by
 have hw:=below_alloc w (.cells #[.bool pa,.slice Aa na ca,.bool pb,.slice Ab nb cb] 26)
 have F0:=Fx4.new w (.bool pa) (.slice Aa na ca) (.bool pb) (.slice Ab nb cb) 26
 obtain ⟨W0,hW0⟩ : ∃ W0,w.alloc (.cells #[.bool pa,.slice Aa na ca,.bool pb,.slice Ab nb cb] 26) = W0:=⟨_,rfl⟩
 rw [hW0] at hw F0
 have B0:=Hd F0
 have HM:=Hd (MCell.below hM hw)
 have HA:=Hd (ha.below hw)
 have HB:=Hd (hb0.below hw)
 have DA:=Hd da
 have DB:=Hd db
 clear F0 hM ha hb0 da db
 go_enter Tryz.func7,Tryz.ntmps7
 go_upto_region 1 with fail
 clear hW0
 obtain ⟨c00,c01,c02,c03,f00,f01,f02,f03,s0⟩:=B0.out
 go_wp2_with fail
 refine (shortQ_any _ 1 [(na,nb)] 6 _ (lensQ1 _ rfl pa pb Aa Ab na nb ca cb) (by omega)).mono ?_
 rintro e w1 ⟨rfl,hb⟩
 replace hb:=(below_alloc W0 (.cells #[.bool pa,.slice Aa na ca,.bool pb,.slice Ab nb cb] 26)).trans (hb.mono (by simp))
 clear c00 c01 c02 c03 f00 f01 f02 f03 s0
 replace B0:=Hd (B0.out.below hb)
 replace HM:=Hd (HM.out.below hb)
 replace HA:=Hd (HA.out.below hb)
 replace HB:=Hd (HB.out.below hb)
 replace hw:=hw.trans (hb.mono hw.size)
 clear hb
 cases ht:anyLong [(na,nb)] 6 with
 | true=>
  go_wp2_with fail
  refine (awake_m _ M HM.out).mono ?_
  rintro e wz ⟨rfl,hb⟩
  go_wp2
  go_ret
  exact ⟨rfl,hw.trans (hb.mono hw.size)⟩
 | false=>
  have HN:=Hd (show na <= 6 /\ nb <= 6 by simp [anyLong,tooLong] at ht;omega)
  clear ht
  by_cases hs:(150:Int) < (S.size:Int)
  ·skip
   go_wp2_with fail
   refine (awake_m _ M HM.out).mono ?_
   rintro e wz ⟨rfl,hb⟩
   go_wp2
   go_ret
   exact ⟨rfl,hw.trans (hb.mono hw.size)⟩
  go_upto_region 3 with fail
  have HS:=Hd (show S.size <= 150 by omega)
  clear hs
  obtain ⟨c00,c01,c02,c03,f00,f01,f02,f03,s0⟩:=B0.out
  go_wp2_with fail
  refine (ofQ_any pa pb Aa Ab na ca nb cb xa xb _ HA.out DA.out HB.out DB.out (by have:=HN.out;omega) (by have:=HN.out;omega)).mono ?_
  rintro e w3 ⟨⟨g7,A7,n7,o7,e7,E7,m7,d7,g8,A8,n8,o8,e8,E8,m8,d8,rfl,hv,hr⟩,hb⟩
  obtain ⟨z,hz⟩ : ∃ z,ofN (withSign pa (val xa)) (withSign pb (val xb)) = z:=⟨_,rfl⟩
  obtain ⟨t,ht⟩ : ∃ t,ofD (withSign pa (val xa)) (withSign pb (val xb)) = t:=⟨_,rfl⟩
  rw [hz,ht] at hv hr
  clear hz ht
  replace hv:=hv.mono (show max na nb + 4 <= 10 by have:=HN.out;omega)
  replace hr:=hr.mono (show 2 * max na nb + 64 <= 76 by have:=HN.out;omega)
  clear c00 c01 c02 c03 f00 f01 f02 f03 s0
  clear HA
  clear HB
  replace B0:=Hd (B0.out.below hb)
  replace HM:=Hd (HM.out.below hb)
  replace hw:=hw.trans (hb.mono hw.size)
  clear hb
  have hX:=below_two w3 (.cells #[.bool g7,.slice A7 n7 o7,.bool e7,.slice E7 m7 d7] 38) (.cells #[.bool g8,.slice A8 n8 o8,.bool e8,.slice E8 m8 d8] 43)
  replace B0:=Hd (B0.out.below hX)
  replace HM:=Hd (HM.out.below hX)
  replace hw:=hw.trans (hX.mono hw.size)
  have B7:=Hd (Fx4.new1 w3 (.bool g7) (.slice A7 n7 o7) (.bool e7) (.slice E7 m7 d7) 38 (.cells #[.bool g8,.slice A8 n8 o8,.bool e8,.slice E8 m8 d8] 43))
  have B8:=Hd (Fx4.new2 w3 (.bool g8) (.slice A8 n8 o8) (.bool e8) (.slice E8 m8 d8) 43 #[.bool g7,.slice A7 n7 o7,.bool e7,.slice E7 m7 d7] 38)
  have V7:=Hd (hv.below hX)
  have V8:=Hd (hr.below hX)
  clear hX hv hr DA DB HN
  clear B0
  go_upto_region 4 with fail
  generalize (w3.alloc (.cells #[.bool g7,.slice A7 n7 o7,.bool e7,.slice E7 m7 d7] 38)).alloc (.cells #[.bool g8,.slice A8 n8 o8,.bool e8,.slice E8 m8 d8] 43) = W3 at *
  generalize w3.heap.size = k7 at *
  obtain ⟨c70,c71,c72,c73,f70,f71,f72,f73,s7⟩:=B7.out
  go_wp2_with fail
  refine (Text_q _ z t R 10 _ V7.out (by decide) (by decide)).mono ?_
  rintro e w4 ⟨⟨T,er,rfl,hT⟩,hb⟩
  have HT:=Hd hT
  clear hT
  have HBD:=Hd (V7.out.bound (by decide))
  clear c70 c71 c72 c73 f70 f71 f72 f73 s7
  replace B7:=Hd (B7.out.below hb)
  replace B8:=Hd (B8.out.below hb)
  replace HM:=Hd (HM.out.below hb)
  replace V7:=Hd (V7.out.below hb)
  replace V8:=Hd (V8.out.below hb)
  replace hw:=hw.trans (hb.mono hw.size)
  clear hb
  go_upto_region 5 with fail
  obtain ⟨c80,c81,c82,c83,f80,f81,f82,f83,s8⟩:=B8.out
  go_wp2_with fail
  refine (rText_q _ z t R 76 _ V8.out (by decide) HBD.out.1 HBD.out.2).mono ?_
  rintro e w5 ⟨⟨T2,er2,rfl,hT2⟩,hb⟩
  obtain ⟨rfl,rfl⟩:=HT.out.det2 hT2
  clear hT2 HBD HT
  clear c80 c81 c82 c83 f80 f81 f82 f83 s8
  replace B7:=Hd (B7.out.below hb)
  replace B8:=Hd (B8.out.below hb)
  replace HM:=Hd (HM.out.below hb)
  replace V7:=Hd (V7.out.below hb)
  replace V8:=Hd (V8.out.below hb)
  replace hw:=hw.trans (hb.mono hw.size)
  clear hb
  go_upto_region 6 with fail
  clear B7
  clear B8
  clear V7
  clear V8
  go_wp2_with fail
  refine (Parse_q S R M _ HM.out (by have:=HS.out;omega)).mono ?_
  rintro e w6 ⟨n1,d1,r1,hP,⟨g13,A13,n13,o13,e13,E13,m13,d13,rfl,hz⟩,hb⟩
  replace HM:=Hd (HM.out.below hb)
  replace hw:=hw.trans (hb.mono hw.size)
  have V13:=Hd hz
  have HP:=Hd hP
  clear hz hP hb
  have hX:=below_alloc w6 (.cells #[.bool g13,.slice A13 n13 o13,.bool e13,.slice E13 m13 d13] 38)
  replace HM:=Hd (HM.out.below hX)
  replace V13:=Hd (V13.out.below hX)
  replace hw:=hw.trans (hX.mono hw.size)
  have B13:=Hd (Fx4.new w6 (.bool g13) (.slice A13 n13 o13) (.bool e13) (.slice E13 m13 d13) 38)
  skip
  clear hX
  go_upto_region 7 with fail
  generalize w6.alloc (.cells #[.bool g13,.slice A13 n13 o13,.bool e13,.slice E13 m13 d13] 38) = W6 at *
  generalize w6.heap.size = k13 at *
  go_wp2_with fail
  refine (rParse_q S R _ HS.out).mono ?_
  rintro e w7 ⟨n2,d2,r2,hP,⟨g15,A15,n15,o15,e15,E15,m15,d15,rfl,hz⟩,hb⟩
  obtain ⟨rfl,rfl,rfl⟩:=HP.out.det hP
  replace B13:=Hd (B13.out.below hb)
  replace HM:=Hd (HM.out.below hb)
  replace V13:=Hd (V13.out.below hb)
  replace hw:=hw.trans (hb.mono hw.size)
  have V15:=Hd hz
  clear hz hP hb HP
  have hX:=below_alloc w7 (.cells #[.bool g15,.slice A15 n15 o15,.bool e15,.slice E15 m15 d15] 43)
  replace B13:=Hd (B13.out.below hX)
  replace HM:=Hd (HM.out.below hX)
  replace V13:=Hd (V13.out.below hX)
  replace V15:=Hd (V15.out.below hX)
  replace hw:=hw.trans (hX.mono hw.size)
  have B15:=Hd (Fx4.new w7 (.bool g15) (.slice A15 n15 o15) (.bool e15) (.slice E15 m15 d15) 43)
  skip
  clear hX
  go_upto_region 8 with fail
  generalize w7.alloc (.cells #[.bool g15,.slice A15 n15 o15,.bool e15,.slice E15 m15 d15] 43) = W7 at *
  generalize w7.heap.size = k15 at *
  obtain ⟨c130,c131,c132,c133,f130,f131,f132,f133,s13⟩:=B13.out
  obtain ⟨c150,c151,c152,c153,f150,f151,f152,f153,s15⟩:=B15.out
  go_wp2_with fail
  refine (Is_q _ _ n1 d1 20002 200 _ V13.out V15.out (by decide) (by decide) (by decide)).mono ?_
  rintro e w8 ⟨rfl,hb⟩
  clear c130 c131 c132 c133 f130 f131 f132 f133 s13
  clear c150 c151 c152 c153 f150 f151 f152 f153 s15
  replace B13:=Hd (B13.out.below hb)
  replace B15:=Hd (B15.out.below hb)
  replace HM:=Hd (HM.out.below hb)
  replace V13:=Hd (V13.out.below hb)
  replace V15:=Hd (V15.out.below hb)
  replace hw:=hw.trans (hb.mono hw.size)
  clear hb
  go_wp2_with fail
  refine (awake_m _ M HM.out).mono ?_
  rintro e wz ⟨rfl,hb⟩
  go_wp2
  go_ret
  exact ⟨rfl,hw.trans (hb.mono hw.size)⟩
end Go.Proofs.YtbajnceoolkckaaGreat
