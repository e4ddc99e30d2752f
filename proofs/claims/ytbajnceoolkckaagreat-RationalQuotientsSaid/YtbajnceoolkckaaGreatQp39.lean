/- Of the proof of RationalQuotients: RatQx. -/
import Derived.Test.YtbajnceoolkckaaGreatQp38
open List renaming getElem_toArray → gA, getElem_cons_succ → gS, getElem_cons_zero → gZ, setIfInBounds_toArray → tA, set_cons_zero → cZ, set_cons_succ → cS
open Go.Lib renaming hid → Hd
set_option maxRecDepth 100000
set_option maxHeartbeats 16000000
namespace Go.Proofs.YtbajnceoolkckaaGreat
open Go.RowKit LM
def RQuoRes (L:Nat) (z n d err:Int) (w:World) (e:Ending) (w':World) : Prop:=
 (∃ g A n0 c0 g1 A1 n1 c1 g2 A2 n2 c2,e = .returned (.tuple #[.agg #[.bool g,.slice A n0 c0],.agg #[.bool g1,.slice A1 n1 c1,.bool g2,.slice A2 n2 c2],.int .i64 err]) /\ Rval w' (.agg #[.bool g,.slice A n0 c0]) z L /\ RQ w' (.agg #[.bool g1,.slice A1 n1 c1,.bool g2,.slice A2 n2 c2]) n d L) /\ Below w.heap.size w w'
theorem rQuotient_q (way:Int) (u v:Value) (n d m c:Int) (w:World) (h:RQ w u n d 16) (g:RQ w v m c 16) :
  Calls Tryz.prog 47 #[.int .i64 way,u,v] w (RQuoRes 600 (quQ way n d m c) (quN way n d m c) (quD way n d m c) (quE way m) w):=by
 obtain ⟨g1,A1,n1,c1,e1,E1,m1,d1,rfl⟩:=h.form
 obtain ⟨g2,A2,n2,c2,e2,E2,m2,d2,rfl⟩:=g.form
 obtain ⟨hw,F3,F5,F6,F7⟩:=four_r w (.bool g1) (.slice A1 n1 c1) (.bool e1) (.slice E1 m1 d1) (.bool g2) (.slice A2 n2 c2) (.bool e2) (.slice E2 m2 d2)
 obtain ⟨W0,hW0⟩ : ∃ W0,((((w.alloc (.cells #[.bool g1,.slice A1 n1 c1,.bool e1,.slice E1 m1 d1] 43)).alloc (.cells #[.bool g2,.slice A2 n2 c2,.bool e2,.slice E2 m2 d2] 43)).alloc (.cells #[.bool false,.slice none 0 0] 34)).alloc (.cells #[.bool false,.slice none 0 0,.bool false,.slice none 0 0] 43)) = W0:=⟨_,rfl⟩
 rw [hW0] at hw F3 F5 F6 F7
 have B4:=Hd F3
 have B5:=Hd F5
 have BR:=Hd F6
 have BS:=Hd F7
 have X:=Hd (h.below hw)
 have Y:=Hd (g.below hw)
 clear F3 F5 F6 F7 h g
 go_enter Tryz.func47,Tryz.ntmps47
 go_upto_region 1 with fail
 clear hW0
 by_cases hlow:way < 0
 ·skip
  have HE:=Hd (qu_bad (n:=n) (d:=d) (c:=c) (show quE way m = 1 from if_pos (Or.inl hlow)) (by decide))
  go_upto_region 2 with fail
  clear hlow
  go_wp2_with fail
  refine (rInt_any 0 _ (by decide) (by decide)).mono ?_
  rintro e wz ⟨⟨y1,y2,y3,y4,y5,y6,y7,y8,rfl,hz,ho⟩,hb⟩
  replace BR:=Hd (BR.out.below hb)
  replace BS:=Hd (BS.out.below hb)
  replace hw:=hw.trans (hb.mono hw.size)
  have HZ1:=Hd hz
  have HO1:=Hd ho
  clear hz ho hb
  obtain ⟨r0,r1,r2,r3,r4⟩:=BR.out
  have RS:=BS.out.other2 (show w.heap.size + 1 + 1 ≠ w.heap.size + 1 + 1 + 1 by omega) (.bool false) (.slice none 0 0)
  have HRS:=Hd RS
  obtain ⟨s0,s1,s2,s3,s4,s5,s6,s7,s8⟩:=RS
  obtain ⟨u0,u1,u2,u3,u4,u5,u6,u7,u8⟩:=BS.out
  have VZ:=HZ1.out.fx BR.out (.bool false) (.slice none 0 0)
  have VO:=HO1.out.fx BR.out (.bool false) (.slice none 0 0)
  have HVZ:=Hd VZ
  have HVO:=Hd VO
  clear VZ VO
  go_wp2
  exact bodyPost_ret (v:=.tuple #[.agg #[.bool false,.slice none 0 0],.agg #[.bool y1,.slice y2 y3 y4,.bool y5,.slice y6 y7 y8],.int .i64 1]) (by simp [results,Tryz.results47,go_sem,r0,r1,s0,s1,s2,s3]) rfl ⟨⟨false,none,0,0,y1,y2,y3,y4,y5,y6,y7,y8,by rw [HE.out.1],by rw [HE.out.2.1];exact Rval.nought,by rw [HE.out.2.2.1,HE.out.2.2.2];exact (RQ.mk' (HVZ.out.mono (by omega)) (HVO.out.mono (by omega)) (by decide) (by decide)).put4 HRS.out _ _ _ _⟩,(below_put4 ((hw.setCell (p:=⟨w.heap.size + 1 + 1,0,none⟩) (by show w.heap.size <= w.heap.size + 1 + 1;omega) _).setCell (p:=⟨w.heap.size + 1 + 1,1,none⟩) (by show w.heap.size <= w.heap.size + 1 + 1;omega) _) (by omega) _ _ _ _)⟩
 by_cases hhigh:3 < way
 ·skip
  have HE:=Hd (qu_bad (n:=n) (d:=d) (c:=c) (show quE way m = 1 from if_pos (Or.inr hhigh)) (by decide))
  go_upto_region 2 with fail
  clear hlow hhigh
  go_wp2_with fail
  refine (rInt_any 0 _ (by decide) (by decide)).mono ?_
  rintro e wz ⟨⟨y1,y2,y3,y4,y5,y6,y7,y8,rfl,hz,ho⟩,hb⟩
  replace BR:=Hd (BR.out.below hb)
  replace BS:=Hd (BS.out.below hb)
  replace hw:=hw.trans (hb.mono hw.size)
  have HZ1:=Hd hz
  have HO1:=Hd ho
  clear hz ho hb
  obtain ⟨r0,r1,r2,r3,r4⟩:=BR.out
  have RS:=BS.out.other2 (show w.heap.size + 1 + 1 ≠ w.heap.size + 1 + 1 + 1 by omega) (.bool false) (.slice none 0 0)
  have HRS:=Hd RS
  obtain ⟨s0,s1,s2,s3,s4,s5,s6,s7,s8⟩:=RS
  obtain ⟨u0,u1,u2,u3,u4,u5,u6,u7,u8⟩:=BS.out
  have VZ:=HZ1.out.fx BR.out (.bool false) (.slice none 0 0)
  have VO:=HO1.out.fx BR.out (.bool false) (.slice none 0 0)
  have HVZ:=Hd VZ
  have HVO:=Hd VO
  clear VZ VO
  go_wp2
  exact bodyPost_ret (v:=.tuple #[.agg #[.bool false,.slice none 0 0],.agg #[.bool y1,.slice y2 y3 y4,.bool y5,.slice y6 y7 y8],.int .i64 1]) (by simp [results,Tryz.results47,go_sem,r0,r1,s0,s1,s2,s3]) rfl ⟨⟨false,none,0,0,y1,y2,y3,y4,y5,y6,y7,y8,by rw [HE.out.1],by rw [HE.out.2.1];exact Rval.nought,by rw [HE.out.2.2.1,HE.out.2.2.2];exact (RQ.mk' (HVZ.out.mono (by omega)) (HVO.out.mono (by omega)) (by decide) (by decide)).put4 HRS.out _ _ _ _⟩,(below_put4 ((hw.setCell (p:=⟨w.heap.size + 1 + 1,0,none⟩) (by show w.heap.size <= w.heap.size + 1 + 1;omega) _).setCell (p:=⟨w.heap.size + 1 + 1,1,none⟩) (by show w.heap.size <= w.heap.size + 1 + 1;omega) _) (by omega) _ _ _ _)⟩
 have HWY:=Hd (show 0 <= way /\ way <= 3 by omega)
 have HDP:=Hd (And.intro X.out.pos Y.out.pos)
 go_upto_region 3 with fail
 clear hlow hhigh
 obtain ⟨c40,c41,c42,c43,f40,f41,f42,f43,s4⟩:=B4.out
 obtain ⟨c50,c51,c52,c53,f50,f51,f52,f53,s5⟩:=B5.out
 go_wp2_with fail
 refine (rDiv_q _ _ n d m c 16 _ X.out Y.out (by decide)).mono ?_
 rintro e w1 ⟨⟨g9,A9,n9,o9,e9,E9,m9,d9,rfl,hz⟩,hb⟩
 clear c40 c41 c42 c43 f40 f41 f42 f43 s4
 clear c50 c51 c52 c53 f50 f51 f52 f53 s5
 replace B4:=Hd (B4.out.below hb)
 replace B5:=Hd (B5.out.below hb)
 replace BR:=Hd (BR.out.below hb)
 replace BS:=Hd (BS.out.below hb)
 replace X:=Hd (X.out.below hb)
 replace Y:=Hd (Y.out.below hb)
 replace hw:=hw.trans (hb.mono hw.size)
 have V9:=Hd hz
 clear hb hz
 have hX:=below_alloc w1 (.cells #[.bool g9,.slice A9 n9 o9,.bool e9,.slice E9 m9 d9] 43)
 replace B4:=Hd (B4.out.below hX)
 replace B5:=Hd (B5.out.below hX)
 replace BR:=Hd (BR.out.below hX)
 replace BS:=Hd (BS.out.below hX)
 replace X:=Hd (X.out.below hX)
 replace Y:=Hd (Y.out.below hX)
 replace V9:=Hd (V9.out.below hX)
 replace hw:=hw.trans (hX.mono hw.size)
 have B9:=Hd (Fx4.new w1 (.bool g9) (.slice A9 n9 o9) (.bool e9) (.slice E9 m9 d9) 43)
 skip
 clear hX
 by_cases hm:m = 0
 ·skip
  have hde:divE (d * m) = 6:=if_pos (by rw [hm,Int.mul_zero])
  rw [hde]
  have HE:=Hd (qu_bad (way:=way) (n:=n) (d:=d) (c:=c) (show quE way m = 6 from (if_neg (by have:=HWY.out;omega)).trans (if_pos hm)) (by decide))
  clear hde hm
  go_upto_region 5 with fail
  generalize w1.alloc (.cells #[.bool g9,.slice A9 n9 o9,.bool e9,.slice E9 m9 d9] 43) = W9 at *
  generalize w1.heap.size = k9 at *
  go_wp2_with fail
  refine (rInt_any 0 _ (by decide) (by decide)).mono ?_
  rintro e wz ⟨⟨y1,y2,y3,y4,y5,y6,y7,y8,rfl,hz,ho⟩,hb⟩
  replace BR:=Hd (BR.out.below hb)
  replace BS:=Hd (BS.out.below hb)
  replace hw:=hw.trans (hb.mono hw.size)
  have HZ1:=Hd hz
  have HO1:=Hd ho
  clear hz ho hb
  obtain ⟨r0,r1,r2,r3,r4⟩:=BR.out
  have RS:=BS.out.other2 (show w.heap.size + 1 + 1 ≠ w.heap.size + 1 + 1 + 1 by omega) (.bool false) (.slice none 0 0)
  have HRS:=Hd RS
  obtain ⟨s0,s1,s2,s3,s4,s5,s6,s7,s8⟩:=RS
  obtain ⟨u0,u1,u2,u3,u4,u5,u6,u7,u8⟩:=BS.out
  have VZ:=HZ1.out.fx BR.out (.bool false) (.slice none 0 0)
  have VO:=HO1.out.fx BR.out (.bool false) (.slice none 0 0)
  have HVZ:=Hd VZ
  have HVO:=Hd VO
  clear VZ VO
  go_wp2
  exact bodyPost_ret (v:=.tuple #[.agg #[.bool false,.slice none 0 0],.agg #[.bool y1,.slice y2 y3 y4,.bool y5,.slice y6 y7 y8],.int .i64 6]) (by simp [results,Tryz.results47,go_sem,r0,r1,s0,s1,s2,s3]) rfl ⟨⟨false,none,0,0,y1,y2,y3,y4,y5,y6,y7,y8,by rw [HE.out.1],by rw [HE.out.2.1];exact Rval.nought,by rw [HE.out.2.2.1,HE.out.2.2.2];exact (RQ.mk' (HVZ.out.mono (by omega)) (HVO.out.mono (by omega)) (by decide) (by decide)).put4 HRS.out _ _ _ _⟩,(below_put4 ((hw.setCell (p:=⟨w.heap.size + 1 + 1,0,none⟩) (by show w.heap.size <= w.heap.size + 1 + 1;omega) _).setCell (p:=⟨w.heap.size + 1 + 1,1,none⟩) (by show w.heap.size <= w.heap.size + 1 + 1;omega) _) (by omega) _ _ _ _)⟩
 have hmd:d * m ≠ 0:=by intro e;have:=HDP.out.1;rcases Int.mul_eq_zero.1 e with h | h <;> omega
 have hde:divE (d * m) = 0:=if_neg hmd
 rw [hde]
 have HE:=Hd (show quE way m = 0 from (if_neg (by have:=HWY.out;omega)).trans (if_neg hm))
 have HRD:=Hd (show rdI way (newN (n * c) (d * m)) (newD (n * c) (d * m)) = rdI way (upN (n * c) (m * d)) (upN (m * d) (m * d)) from by rw [Int.mul_comm m d];exact (rd_new hmd).symm)
 clear hmd hde hm
 go_upto_region 6 with fail
 generalize w1.alloc (.cells #[.bool g9,.slice A9 n9 o9,.bool e9,.slice E9 m9 d9] 43) = W9 at *
 generalize w1.heap.size = k9 at *
 obtain ⟨c90,c91,c92,c93,f90,f91,f92,f93,s9⟩:=B9.out
 go_wp2_with fail
 refine (rrounded_any way _ _ _ 97 _ V9.out (by decide) (by decide) HWY.out).mono ?_
 rintro e w3 ⟨⟨g11,A11,n11,o11,rfl,hz⟩,hb⟩
 clear c90 c91 c92 c93 f90 f91 f92 f93 s9
 replace B4:=Hd (B4.out.below hb)
 replace B5:=Hd (B5.out.below hb)
 replace BR:=Hd (BR.out.below hb)
 replace BS:=Hd (BS.out.below hb)
 replace B9:=Hd (B9.out.below hb)
 replace X:=Hd (X.out.below hb)
 replace Y:=Hd (Y.out.below hb)
 replace V9:=Hd (V9.out.below hb)
 replace hw:=hw.trans (hb.mono hw.size)
 have V11:=Hd hz
 clear hb hz
 have HZ:=Hd (show w.heap.size + 1 + 1 + 1 < w3.heap.size from BS.out.lt)
 have hX:=below_alloc w3 (.cells #[.bool g11,.slice A11 n11 o11] 34)
 replace B4:=Hd (B4.out.below hX)
 replace B5:=Hd (B5.out.below hX)
 replace BR:=Hd (BR.out.below hX)
 replace BS:=Hd (BS.out.below hX)
 replace B9:=Hd (B9.out.below hX)
 replace X:=Hd (X.out.below hX)
 replace Y:=Hd (Y.out.below hX)
 replace V9:=Hd (V9.out.below hX)
 replace V11:=Hd (V11.out.below hX)
 replace hw:=hw.trans (hX.mono hw.size)
 have B11:=Hd (Fx.new w3 (.bool g11) (.slice A11 n11 o11) 34)
 skip
 clear hX
 go_upto_region 7 with fail
 generalize w3.alloc (.cells #[.bool g11,.slice A11 n11 o11] 34) = W11 at *
 generalize w3.heap.size = k11 at *
 obtain ⟨QQ,hQQ⟩ : ∃ QQ,rdI way (newN (n * c) (d * m)) (newD (n * c) (d * m)) = QQ:=⟨_,rfl⟩
 rw [hQQ] at V11
 have HQ:=Hd (show quQ way n d m c = QQ from (if_pos HE.out).trans (HRD.out.symm.trans hQQ))
 clear hQQ HRD
 have HPB:=Hd (fun (w':World) (x0 x1 x2 x3:Value) (h:w'.cell? ⟨w.heap.size,0,none⟩ = some (.bool g1) /\ w'.cell? ⟨w.heap.size,1,none⟩ = some (.slice A1 n1 c1) /\ w'.cell? ⟨w.heap.size,2,none⟩ = some (.bool e1) /\ w'.cell? ⟨w.heap.size,3,none⟩ = some (.slice E1 m1 d1) /\ w'.cell? ⟨(w.heap.size + 1),0,none⟩ = some (.bool g2) /\ w'.cell? ⟨(w.heap.size + 1),1,none⟩ = some (.slice A2 n2 c2) /\ w'.cell? ⟨(w.heap.size + 1),2,none⟩ = some (.bool e2) /\ w'.cell? ⟨(w.heap.size + 1),3,none⟩ = some (.slice E2 m2 d2) /\ w'.cell? ⟨k11,0,none⟩ = some (.bool g11) /\ w'.cell? ⟨k11,1,none⟩ = some (.slice A11 n11 o11))=>(show (fun w'=>w'.cell? ⟨w.heap.size,0,none⟩ = some (.bool g1) /\ w'.cell? ⟨w.heap.size,1,none⟩ = some (.slice A1 n1 c1) /\ w'.cell? ⟨w.heap.size,2,none⟩ = some (.bool e1) /\ w'.cell? ⟨w.heap.size,3,none⟩ = some (.slice E1 m1 d1) /\ w'.cell? ⟨(w.heap.size + 1),0,none⟩ = some (.bool g2) /\ w'.cell? ⟨(w.heap.size + 1),1,none⟩ = some (.slice A2 n2 c2) /\ w'.cell? ⟨(w.heap.size + 1),2,none⟩ = some (.bool e2) /\ w'.cell? ⟨(w.heap.size + 1),3,none⟩ = some (.slice E2 m2 d2) /\ w'.cell? ⟨k11,0,none⟩ = some (.bool g11) /\ w'.cell? ⟨k11,1,none⟩ = some (.slice A11 n11 o11)) (put4 w' (w.heap.size + 1 + 1 + 1) x0 x1 x2 x3) from ⟨(cell_put4 (by have:=HZ.out;omega) _ _ _ _).trans h.1,(cell_put4 (by have:=HZ.out;omega) _ _ _ _).trans h.2.1,(cell_put4 (by have:=HZ.out;omega) _ _ _ _).trans h.2.2.1,(cell_put4 (by have:=HZ.out;omega) _ _ _ _).trans h.2.2.2.1,(cell_put4 (by have:=HZ.out;omega) _ _ _ _).trans h.2.2.2.2.1,(cell_put4 (by have:=HZ.out;omega) _ _ _ _).trans h.2.2.2.2.2.1,(cell_put4 (by have:=HZ.out;omega) _ _ _ _).trans h.2.2.2.2.2.2.1,(cell_put4 (by have:=HZ.out;omega) _ _ _ _).trans h.2.2.2.2.2.2.2.1,(cell_put4 (by have:=HZ.out;omega) _ _ _ _).trans h.2.2.2.2.2.2.2.2.1,(cell_put4 (by have:=HZ.out;omega) _ _ _ _).trans h.2.2.2.2.2.2.2.2.2⟩))
 have HT:=Hd (fun (w':World) (hb:Below W11.heap.size W11 w')=>(show w'.cell? ⟨w.heap.size,0,none⟩ = some (.bool g1) /\ w'.cell? ⟨w.heap.size,1,none⟩ = some (.slice A1 n1 c1) /\ w'.cell? ⟨w.heap.size,2,none⟩ = some (.bool e1) /\ w'.cell? ⟨w.heap.size,3,none⟩ = some (.slice E1 m1 d1) /\ w'.cell? ⟨(w.heap.size + 1),0,none⟩ = some (.bool g2) /\ w'.cell? ⟨(w.heap.size + 1),1,none⟩ = some (.slice A2 n2 c2) /\ w'.cell? ⟨(w.heap.size + 1),2,none⟩ = some (.bool e2) /\ w'.cell? ⟨(w.heap.size + 1),3,none⟩ = some (.slice E2 m2 d2) /\ w'.cell? ⟨k11,0,none⟩ = some (.bool g11) /\ w'.cell? ⟨k11,1,none⟩ = some (.slice A11 n11 o11) from ⟨(B4.out.below hb).c0,(B4.out.below hb).c1,(B4.out.below hb).c2,(B4.out.below hb).c3,(B5.out.below hb).c0,(B5.out.below hb).c1,(B5.out.below hb).c2,(B5.out.below hb).c3,(B11.out.below hb).1,(B11.out.below hb).2.1⟩))
 have HP:=Hd (fun (w':World) (x0 x1:Value) (h:w'.cell? ⟨w.heap.size,0,none⟩ = some (.bool g1) /\ w'.cell? ⟨w.heap.size,1,none⟩ = some (.slice A1 n1 c1) /\ w'.cell? ⟨w.heap.size,2,none⟩ = some (.bool e1) /\ w'.cell? ⟨w.heap.size,3,none⟩ = some (.slice E1 m1 d1) /\ w'.cell? ⟨(w.heap.size + 1),0,none⟩ = some (.bool g2) /\ w'.cell? ⟨(w.heap.size + 1),1,none⟩ = some (.slice A2 n2 c2) /\ w'.cell? ⟨(w.heap.size + 1),2,none⟩ = some (.bool e2) /\ w'.cell? ⟨(w.heap.size + 1),3,none⟩ = some (.slice E2 m2 d2) /\ w'.cell? ⟨k11,0,none⟩ = some (.bool g11) /\ w'.cell? ⟨k11,1,none⟩ = some (.slice A11 n11 o11))=>(show (fun w'=>w'.cell? ⟨w.heap.size,0,none⟩ = some (.bool g1) /\ w'.cell? ⟨w.heap.size,1,none⟩ = some (.slice A1 n1 c1) /\ w'.cell? ⟨w.heap.size,2,none⟩ = some (.bool e1) /\ w'.cell? ⟨w.heap.size,3,none⟩ = some (.slice E1 m1 d1) /\ w'.cell? ⟨(w.heap.size + 1),0,none⟩ = some (.bool g2) /\ w'.cell? ⟨(w.heap.size + 1),1,none⟩ = some (.slice A2 n2 c2) /\ w'.cell? ⟨(w.heap.size + 1),2,none⟩ = some (.bool e2) /\ w'.cell? ⟨(w.heap.size + 1),3,none⟩ = some (.slice E2 m2 d2) /\ w'.cell? ⟨k11,0,none⟩ = some (.bool g11) /\ w'.cell? ⟨k11,1,none⟩ = some (.slice A11 n11 o11)) (put2 w' (w.heap.size + 1 + 1) x0 x1) from ⟨(cell_put2 (by have:=HZ.out;omega) _ _).trans h.1,(cell_put2 (by have:=HZ.out;omega) _ _).trans h.2.1,(cell_put2 (by have:=HZ.out;omega) _ _).trans h.2.2.1,(cell_put2 (by have:=HZ.out;omega) _ _).trans h.2.2.2.1,(cell_put2 (by have:=HZ.out;omega) _ _).trans h.2.2.2.2.1,(cell_put2 (by have:=HZ.out;omega) _ _).trans h.2.2.2.2.2.1,(cell_put2 (by have:=HZ.out;omega) _ _).trans h.2.2.2.2.2.2.1,(cell_put2 (by have:=HZ.out;omega) _ _).trans h.2.2.2.2.2.2.2.1,(cell_put2 (by have:=HZ.out;omega) _ _).trans h.2.2.2.2.2.2.2.2.1,(cell_put2 (by have:=HZ.out;omega) _ _).trans h.2.2.2.2.2.2.2.2.2⟩))
 have hB:=(Below.refl W11.heap.size W11).drew
 replace X:=Hd (X.out.below hB)
 replace Y:=Hd (Y.out.below hB)
 replace V9:=Hd (V9.out.below hB)
 replace V11:=Hd (V11.out.below hB)
 refine wp_region_held_drew (S:=fun w'=>w'.cell? ⟨w.heap.size,0,none⟩ = some (.bool g1) /\ w'.cell? ⟨w.heap.size,1,none⟩ = some (.slice A1 n1 c1) /\ w'.cell? ⟨w.heap.size,2,none⟩ = some (.bool e1) /\ w'.cell? ⟨w.heap.size,3,none⟩ = some (.slice E1 m1 d1) /\ w'.cell? ⟨(w.heap.size + 1),0,none⟩ = some (.bool g2) /\ w'.cell? ⟨(w.heap.size + 1),1,none⟩ = some (.slice A2 n2 c2) /\ w'.cell? ⟨(w.heap.size + 1),2,none⟩ = some (.bool e2) /\ w'.cell? ⟨(w.heap.size + 1),3,none⟩ = some (.slice E2 m2 d2) /\ w'.cell? ⟨k11,0,none⟩ = some (.bool g11) /\ w'.cell? ⟨k11,1,none⟩ = some (.slice A11 n11 o11)) (by kernel_rfl) (HT.out _ hB) (fun hH=>?_)
 clear hH
 generalize W11.drew = wr0 at *
 refine tk 0 34 (by first | assumption | exact HT.out _ hB) ?_
 try simp only [Act.put,tA,cZ,cS]
 refine tk 1 35 (by first | assumption | exact HT.out _ hB) ?_
 try simp only [Act.put,tA,cZ,cS]
 refine tk 2 36 (by first | assumption | exact HT.out _ hB) ?_
 try simp only [Act.put,tA,cZ,cS]
 refine tk 4 38 (by first | assumption | exact HT.out _ hB) ?_
 try simp only [Act.put,tA,cZ,cS]
 refine rd 3 (AllReadyH.cons rfl (fun K hK=>?_) AllReadyH.nil)
 (try simp only [gA]);(try simp only [gS]);(try simp only [gZ])
 go_simp
 (go_at_call 21;refine (rOf_rq _ QQ 98 _ V11.out (by decide)).mono ?_;rintro e wc3 ⟨⟨ga,Aa,na,oa,ea,Ea,ma,da,rfl,hz⟩,hb⟩)
 replace X:=Hd (X.out.below hb)
 replace Y:=Hd (Y.out.below hb)
 replace V9:=Hd (V9.out.below hb)
 replace V11:=Hd (V11.out.below hb)
 replace hB:=Below.trans hB (hb.mono hB.size)
 have T4:=Hd hz
 refine hK.out _ _ (HT.out _ hB) (fun hH=>?_)
 clear hK K hH
 try simp only [Act.put,tA,cZ,cS]
 clear hb hz
 refine rd 5 (AllReadyH.cons rfl (fun K hK=>?_) AllReadyH.nil)
 (try simp only [gA]);(try simp only [gS]);(try simp only [gZ])
 go_simp
 (go_at_call 45;refine (rMul_q _ _ QQ 1 m c 98 _ T4.out (Y.out.mono (by decide)) (by decide)).mono ?_;rintro e wc5 ⟨⟨gb,Ab,nb,ob,eb,Eb,mb,db,rfl,hz⟩,hb⟩)
 replace X:=Hd (X.out.below hb)
 replace Y:=Hd (Y.out.below hb)
 replace V9:=Hd (V9.out.below hb)
 replace V11:=Hd (V11.out.below hb)
 replace T4:=Hd (T4.out.below hb)
 replace hB:=Below.trans hB (hb.mono hB.size)
 clear T4
 have T5:=Hd hz
 refine hK.out _ _ (HT.out _ hB) (fun hH=>?_)
 clear hK K hH
 try simp only [Act.put,tA,cZ,cS]
 clear hb hz
 refine rd 6 (AllReadyH.cons rfl (fun K hK=>?_) AllReadyH.nil)
 (try simp only [gA]);(try simp only [gS]);(try simp only [gZ])
 go_simp
 (go_at_call 43;refine (rSub_q _ _ n d _ _ 261 _ (X.out.mono (by decide)) T5.out (by decide)).mono ?_;rintro e wc6 ⟨⟨gc,Ac,nc,oc,ec,Ec,mc,dc,rfl,hz⟩,hb⟩)
 replace X:=Hd (X.out.below hb)
 replace Y:=Hd (Y.out.below hb)
 replace V9:=Hd (V9.out.below hb)
 replace V11:=Hd (V11.out.below hb)
 replace T5:=Hd (T5.out.below hb)
 replace hB:=Below.trans hB (hb.mono hB.size)
 clear T5
 have T6:=Hd hz
 refine hK.out _ _ (HT.out _ hB) (fun hH=>?_)
 clear hK K hH
 try simp only [Act.put,tA,cZ,cS]
 clear hb hz
 refine rd 7 (AllReadyH.cons rfl (fun K hK=>?_) AllReadyH.nil)
 (try simp only [gA]);(try simp only [gS]);(try simp only [gZ])
 have R4:=BR.out.below hB
 obtain ⟨r0,r1,r2,r3,r4⟩:=id R4
 go_simp
 refine hK.out _ _ (HP.out _ (.bool g11) (.slice A11 n11 o11) (HT.out _ hB)) (fun hH=>?_)
 clear hK K
 try simp only [Act.put,tA,cZ,cS]
 refine rd 8 (AllReadyH.cons rfl (fun K hK=>?_) AllReadyH.nil)
 (try simp only [gA]);(try simp only [gS]);(try simp only [gZ])
 have R5:=((BS.out.below hB).other2 (show w.heap.size + 1 + 1 ≠ w.heap.size + 1 + 1 + 1 by omega) (.bool g11) (.slice A11 n11 o11))
 obtain ⟨t0,t1,t2,t3,t4,t5,t6,t7,t8⟩:=id R5
 go_simp
 refine hK.out _ _ (HPB.out _ (.bool gc) (.slice Ac nc oc) (.bool ec) (.slice Ec mc dc) (by assumption)) (fun hH=>?_)
 clear hK K
 try simp only [Act.put,tA,cZ,cS]
 refine tk 9 8 (by first | assumption | exact HT.out _ hB) ?_
 try simp only [Act.put,tA,cZ,cS]
 refine wpAnyH_done (by kernel_rfl) ?_ _
 have hr:=rrem_math (n:=n) (m:=m) (q:=QQ) HDP.out.1 HDP.out.2
 have HXN:=Hd (show newN (n * c + -(QQ * m) * d) (d * c) = quN way n d m c from ((if_pos HE.out).trans (by rw [HQ.out])).symm)
 have HXD:=Hd (show newD (n * c + -(QQ * m) * d) (d * c) = quD way n d m c from ((if_pos HE.out).trans (by rw [HQ.out])).symm)
 have HR0:=Hd hr
 clear hr
 have V3:=V11.out.fx R4 (.bool g11) (.slice A11 n11 o11)
 have V6:=T6.out.fx R4 (.bool g11) (.slice A11 n11 o11)
 have HV3:=Hd V3
 have HV6:=Hd V6
 clear V3 V6
 go_wp2
 exact bodyPost_ret (v:=.tuple #[.agg #[.bool g11,.slice A11 n11 o11],.agg #[.bool gc,.slice Ac nc oc,.bool ec,.slice Ec mc dc],.int .i64 0]) (by simp [results,Tryz.results47,go_sem,r0,r1,t0,t1,t2,t3]) rfl ⟨⟨g11,A11,n11,o11,gc,Ac,nc,oc,ec,Ec,mc,dc,by rw [HE.out],by rw [HQ.out];exact (HV3.out.mono (by decide)).put4 R5 _ _ _ _,by rw [<- HXN.out,<- HXD.out,<- HR0.out.1,<- HR0.out.2];exact (HV6.out.mono (by decide)).put4 R5 _ _ _ _⟩,(below_put4 (((hw.trans (hB.mono hw.size)).setCell (p:=⟨w.heap.size + 1 + 1,0,none⟩) (by show w.heap.size <= w.heap.size + 1 + 1;omega) _).setCell (p:=⟨w.heap.size + 1 + 1,1,none⟩) (by show w.heap.size <= w.heap.size + 1 + 1;omega) _) (by omega) _ _ _ _)⟩
end Go.Proofs.YtbajnceoolkckaaGreat
