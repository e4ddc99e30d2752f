/- Of the proof of RationalQuotients: RatQw. -/
import Derived.Test.YtbajnceoolkckaaGreatQp37
open List renaming getElem_toArray → gA, getElem_cons_succ → gS, getElem_cons_zero → gZ, setIfInBounds_toArray → tA, set_cons_zero → cZ, set_cons_succ → cS
open Go.Lib renaming hid → Hd
set_option maxRecDepth 100000
set_option maxHeartbeats 16000000
namespace Go.Proofs.YtbajnceoolkckaaGreat
open Go.RowKit LM
def RIntRes (L:Nat) (z:Int) (w:World) (e:Ending) (w':World) : Prop:=(∃ ng A2 n2 c2,e = .returned (.agg #[.bool ng,.slice A2 n2 c2]) /\ Rval w' (.agg #[.bool ng,.slice A2 n2 c2]) z L) /\ Below w.heap.size w w'
theorem floor_abs {p q:Int} (hq:0 < q) : (p / q).natAbs <= p.natAbs:=by
 rcases Int.lt_or_le p 0 with h | h
 ·have h1:p / q < 0:=(floor_neg hq).2 h
  have h3:p * (q - 1) <= 0:=Int.mul_nonpos_of_nonpos_of_nonneg (by omega) (by omega)
  rw [Int.mul_sub,Int.mul_one] at h3
  have h2:p <= p / q:=Int.le_ediv_of_mul_le hq (by omega)
  omega
 ·have h1:=Int.ediv_nonneg h (Int.le_of_lt hq)
  have h2:=Int.ediv_le_self q h
  omega
theorem RQ.fx {w:World} {s:Value} {n0 d0:Int} {L:Nat} (h:RQ w s n0 d0 L) {b:Nat} {p:Bool} {A:Option Addr} {n c:Nat} (F:Fx w b (.bool p) (.slice A n c)) (x0 x1:Value) : RQ ((w.setCell ⟨b,0,none⟩ x0).setCell ⟨b,1,none⟩ x1) s n0 d0 L:=by
 obtain ⟨g1,A1,n1,c1,g2,A2,n2,c2,e,h1,h2,h3⟩:=h
 exact ⟨g1,A1,n1,c1,g2,A2,n2,c2,e,h1.fx F _ _,h2.fx F _ _,h3⟩
theorem two_rq (w:World) (v0 v1 v2 v3:Value) :
  Below w.heap.size w ((w.alloc (.cells #[v0,v1,v2,v3] 43)).alloc (.cells #[.bool false,.slice none 0 0] 34)) /\ Fx4 ((w.alloc (.cells #[v0,v1,v2,v3] 43)).alloc (.cells #[.bool false,.slice none 0 0] 34)) w.heap.size v0 v1 v2 v3 /\
  Fx ((w.alloc (.cells #[v0,v1,v2,v3] 43)).alloc (.cells #[.bool false,.slice none 0 0] 34)) (w.heap.size + 1) (.bool false) (.slice none 0 0):=
 ⟨below_two _ _ _,Fx4.new1 w v0 v1 v2 v3 43 _,Fx.newB w (.bool false) (.slice none 0 0) 34 _ 43⟩
theorem four_r (w:World) (v0 v1 v2 v3 u0 u1 u2 u3:Value) :
  Below w.heap.size w ((((w.alloc (.cells #[v0,v1,v2,v3] 43)).alloc (.cells #[u0,u1,u2,u3] 43)).alloc (.cells #[.bool false,.slice none 0 0] 34)).alloc (.cells #[.bool false,.slice none 0 0,.bool false,.slice none 0 0] 43)) /\
  Fx4 ((((w.alloc (.cells #[v0,v1,v2,v3] 43)).alloc (.cells #[u0,u1,u2,u3] 43)).alloc (.cells #[.bool false,.slice none 0 0] 34)).alloc (.cells #[.bool false,.slice none 0 0,.bool false,.slice none 0 0] 43)) w.heap.size v0 v1 v2 v3 /\
  Fx4 ((((w.alloc (.cells #[v0,v1,v2,v3] 43)).alloc (.cells #[u0,u1,u2,u3] 43)).alloc (.cells #[.bool false,.slice none 0 0] 34)).alloc (.cells #[.bool false,.slice none 0 0,.bool false,.slice none 0 0] 43)) (w.heap.size + 1) u0 u1 u2 u3 /\
  Fx ((((w.alloc (.cells #[v0,v1,v2,v3] 43)).alloc (.cells #[u0,u1,u2,u3] 43)).alloc (.cells #[.bool false,.slice none 0 0] 34)).alloc (.cells #[.bool false,.slice none 0 0,.bool false,.slice none 0 0] 43)) (w.heap.size + 1 + 1) (.bool false) (.slice none 0 0) /\
  Fx4 ((((w.alloc (.cells #[v0,v1,v2,v3] 43)).alloc (.cells #[u0,u1,u2,u3] 43)).alloc (.cells #[.bool false,.slice none 0 0] 34)).alloc (.cells #[.bool false,.slice none 0 0,.bool false,.slice none 0 0] 43)) (w.heap.size + 1 + 1 + 1) (.bool false) (.slice none 0 0) (.bool false) (.slice none 0 0):=by
 have h1:=Fx4.new w v0 v1 v2 v3 43
 have b1:=below_alloc w (.cells #[v0,v1,v2,v3] 43)
 have z1:(w.alloc (.cells #[v0,v1,v2,v3] 43)).heap.size = w.heap.size + 1:=by simp
 generalize w.alloc (.cells #[v0,v1,v2,v3] 43) = w1 at *
 have h2:=Fx4.new w1 u0 u1 u2 u3 43
 have b2:=below_alloc w1 (.cells #[u0,u1,u2,u3] 43)
 have z2:(w1.alloc (.cells #[u0,u1,u2,u3] 43)).heap.size = w.heap.size + 1 + 1:=by simp [z1]
 rw [z1] at h2
 generalize w1.alloc (.cells #[u0,u1,u2,u3] 43) = w2 at *
 have h3:=Fx.new w2 (.bool false) (.slice none 0 0) 34
 have b3:=below_alloc w2 (.cells #[.bool false,.slice none 0 0] 34)
 have z3:(w2.alloc (.cells #[.bool false,.slice none 0 0] 34)).heap.size = w.heap.size + 1 + 1 + 1:=by simp [z2]
 rw [z2] at h3
 generalize w2.alloc (.cells #[.bool false,.slice none 0 0] 34) = w3 at *
 have h4:=Fx4.new w3 (.bool false) (.slice none 0 0) (.bool false) (.slice none 0 0) 43
 have b4:=below_alloc w3 (.cells #[.bool false,.slice none 0 0,.bool false,.slice none 0 0] 43)
 rw [z3] at h4
 exact ⟨((b1.trans (b2.mono b1.size)).trans (b3.mono (b1.trans (b2.mono b1.size)).size)).trans (b4.mono ((b1.trans (b2.mono b1.size)).trans (b3.mono (b1.trans (b2.mono b1.size)).size)).size),((h1.below b2).below b3).below b4,(h2.below b3).below b4,h3.below b4,h4⟩
def OneR (W0:World) (x:Int) (L:Nat) (va:Value) (wx:World) : Prop:=
 ∃ b5:Nat,∃ g A n c,va = .pointer (some ⟨b5,0,none⟩) /\ Fx wx b5 (.bool g) (.slice A n c) /\ Rval wx (.agg #[.bool g,.slice A n c]) x L /\ W0.heap.size <= b5 /\ Below W0.heap.size W0 wx
theorem rOf_rq (u:Value) (x:Int) (L:Nat) (w:World) (h:Rval w u x L) (hL:64 <= L) : Calls Tryz.prog 21 #[u] w (RQRes L x 1 w):=
 (rOf_any u x L w h).mono fun _ _ ⟨⟨g1,A1,n1,c1,g2,A2,n2,c2,he,hv,ho⟩,hb⟩=>⟨⟨g1,A1,n1,c1,g2,A2,n2,c2,he,RQ.mk' hv (ho.mono hL) (by decide) (Int.gcd_one_right ..)⟩,hb⟩
theorem new_eq {x y a b:Int} (hy:y ≠ 0) (hb:b ≠ 0) (h:x * b = a * y) : newN x y = newN a b /\ newD x y = newD a b:=by
  refine new_same (newD_pos x y) (new_gcd x y) hb ?_
  have e:=new_cross (x:=x) hy
  apply Int.eq_of_mul_eq_mul_right hy
  calc newN x y * b * y = newN x y * y * b:=by grind
    _ = x * newD x y * b:=by rw [e]
    _ = x * b * newD x y:=by grind
    _ = a * newD x y * y:=by rw [h];grind
theorem rrem_math {n d m c q:Int} (hd:0 < d) (hc:0 < c) : newN (n * newD (q * m) (1 * c) + -newN (q * m) (1 * c) * d) (d * newD (q * m) (1 * c)) = newN (n * c + -(q * m) * d) (d * c) /\ newD (n * newD (q * m) (1 * c) + -newN (q * m) (1 * c) * d) (d * newD (q * m) (1 * c)) = newD (n * c + -(q * m) * d) (d * c):=by
  have h1:=new_cross (x:=q * m) (y:=1 * c) (by omega)
  have hD:=newD_pos (q * m) (1 * c)
  generalize newN (q * m) (1 * c) = A at *
  generalize newD (q * m) (1 * c) = B at *
  refine new_eq (Int.ne_of_gt (Int.mul_pos hd hD)) (Int.ne_of_gt (Int.mul_pos hd hc)) ?_
  have h2:A * c = q * m * B:=by rw [<- h1,Int.one_mul]
  calc (n * B + -A * d) * (d * c) = d * (n * B * c - (A * c) * d):=by grind
    _ = d * (n * B * c - (q * m * B) * d):=by rw [h2]
    _ = (n * c + -(q * m) * d) * (d * B):=by grind
theorem rFloor_q (v:Value) (P Q:Int) (L:Nat) (w:World) (h:RQ w v P Q L) (hL:L <= 100000) :
  Calls Tryz.prog 106 #[v] w (RIntRes L (P / Q) w):=by
 obtain ⟨g1,A1,n1,c1,e1,E1,m1,d1,rfl⟩:=h.form
 obtain ⟨hw,F0,F1⟩:=two_rq w (.bool g1) (.slice A1 n1 c1) (.bool e1) (.slice E1 m1 d1)
 have X:=Hd (h.parts.1.below hw)
 have Y:=Hd (h.parts.2.1.below hw)
 have HQ:=Hd h.parts.2.2.1
 obtain ⟨W0,hW0⟩ : ∃ W0,(w.alloc (.cells #[.bool g1,.slice A1 n1 c1,.bool e1,.slice E1 m1 d1] 43)).alloc (.cells #[.bool false,.slice none 0 0] 34) = W0:=⟨_,rfl⟩
 rw [hW0] at hw F0 F1 X Y
 have B0:=Hd F0
 have BR:=Hd F1
 clear F0 F1 h
 go_enter Tryz.func106,Tryz.ntmps106
 go_upto_region 1 with fail
 clear hW0
 obtain ⟨c00,c01,c02,c03,f00,f01,f02,f03,s0⟩:=B0.out
 go_wp2_with fail
 refine (rFloor_any _ _ P Q L L _ X.out Y.out HQ.out (by omega) (by omega)).mono ?_
 rintro e w1 ⟨⟨gt1,At1,nt1,ct1,rfl,hz⟩,hb⟩
 have hz2:=hz.tight (K:=L) (by have h1:=floor_abs (p:=P) HQ.out;have h2:=X.out.lt_pow;omega)
 clear c00 c01 c02 c03 f00 f01 f02 f03 s0
 replace B0:=Hd (B0.out.below hb)
 replace BR:=Hd (BR.out.below hb)
 replace X:=Hd (X.out.below hb)
 replace Y:=Hd (Y.out.below hb)
 replace hw:=hw.trans (hb.mono hw.size)
 have T1:=Hd hz2
 clear hb hz hz2
 obtain ⟨r0,r1,r2,r3,r4⟩:=BR.out
 go_wp2
 exact bodyPost_ret (v:=.agg #[.bool gt1,.slice At1 nt1 ct1]) (by simp [results,Tryz.results106,go_sem,r0,r1]) rfl ⟨⟨_,_,_,_,rfl,T1.out.fx BR.out _ _⟩,(hw.setCell (p:=⟨w.heap.size + 1,0,none⟩) (by show w.heap.size <= w.heap.size + 1;omega) _).setCell (p:=⟨w.heap.size + 1,1,none⟩) (by show w.heap.size <= w.heap.size + 1;omega) _⟩
theorem rrounded_any (way:Int) (v:Value) (P Q:Int) (L:Nat) (w:World) (h:RQ w v P Q L) (hL:L <= 150) (hL2:64 <= L) (hway:0 <= way /\ way <= 3) :
  Calls Tryz.prog 101 #[.int .i64 way,v] w (RIntRes (L + 1) (rdI way P Q) w):=by
 obtain ⟨g1,A1,n1,c1,e1,E1,m1,d1,rfl⟩:=h.form
 obtain ⟨hw,F0,F1⟩:=two_rq w (.bool g1) (.slice A1 n1 c1) (.bool e1) (.slice E1 m1 d1)
 have X:=Hd (h.below hw)
 have HQ:=Hd h.parts.2.2
 have HW:=Hd hway
 obtain ⟨W0,hW0⟩ : ∃ W0,(w.alloc (.cells #[.bool g1,.slice A1 n1 c1,.bool e1,.slice E1 m1 d1] 43)).alloc (.cells #[.bool false,.slice none 0 0] 34) = W0:=⟨_,rfl⟩
 rw [hW0] at hw F0 F1 X
 have B3:=Hd F0
 have BR:=Hd F1
 clear F0 F1 h hway
 go_enter Tryz.func101,Tryz.ntmps101
 go_upto_region 1 with fail
 clear hW0
 obtain ⟨c30,c31,c32,c33,f30,f31,f32,f33,s3⟩:=B3.out
 go_wp2_with fail
 refine (rFloor_q _ P Q L _ X.out (by omega)).mono ?_
 rintro e w1 ⟨⟨g5,A5,n5,o5,rfl,hz⟩,hb⟩
 clear c30 c31 c32 c33 f30 f31 f32 f33 s3
 replace B3:=Hd (B3.out.below hb)
 replace BR:=Hd (BR.out.below hb)
 replace X:=Hd (X.out.below hb)
 replace hw:=hw.trans (hb.mono hw.size)
 have V5:=Hd hz
 clear hb hz
 have hX:=below_alloc w1 (.cells #[.bool g5,.slice A5 n5 o5] 34)
 replace B3:=Hd (B3.out.below hX)
 replace BR:=Hd (BR.out.below hX)
 replace X:=Hd (X.out.below hX)
 replace V5:=Hd (V5.out.below hX)
 replace hw:=hw.trans (hX.mono hw.size)
 have B5:=Hd (Fx.new w1 (.bool g5) (.slice A5 n5 o5) 34)
 skip
 clear hX
 go_upto_region 2 with fail
 generalize w1.alloc (.cells #[.bool g5,.slice A5 n5 o5] 34) = W5 at *
 generalize w1.heap.size = k5 at *
 obtain ⟨c30,c31,c32,c33,f30,f31,f32,f33,s3⟩:=B3.out
 go_wp2_with fail
 refine (rWhole_q _ P Q L _ X.out (by omega)).mono ?_
 rintro e w2 ⟨rfl,hb⟩
 clear c30 c31 c32 c33 f30 f31 f32 f33 s3
 replace B3:=Hd (B3.out.below hb)
 replace BR:=Hd (BR.out.below hb)
 replace B5:=Hd (B5.out.below hb)
 replace X:=Hd (X.out.below hb)
 replace V5:=Hd (V5.out.below hb)
 replace hw:=hw.trans (hb.mono hw.size)
 clear hb
 by_cases hq1:Q = 1
 ·skip
  have hdt:decide (Q = 1) = true:=decide_eq_true hq1
  rw [hdt]
  have HE:=Hd ((rd_ref (way:=way) HQ.out.1 HQ.out.2).1 hq1)
  clear hdt hq1
  go_upto_region 3 with fail
  obtain ⟨c50,c51,f50,f51,s5⟩:=B5.out
  obtain ⟨r0,r1,r2,r3,r4⟩:=BR.out
  go_wp2
  exact bodyPost_ret (v:=.agg #[.bool g5,.slice A5 n5 o5]) (by simp [results,Tryz.results101,go_sem,r0,r1]) rfl ⟨⟨_,_,_,_,rfl,by rw [HE.out];exact (V5.out.mono (by omega)).fx BR.out _ _⟩,((hw.setCell (p:=⟨w.heap.size + 1,0,none⟩) (by show w.heap.size <= w.heap.size + 1;omega) _).setCell (p:=⟨w.heap.size + 1,1,none⟩) (by show w.heap.size <= w.heap.size + 1;omega) _)⟩
 have hdt:decide (Q = 1) = false:=decide_eq_false hq1
 rw [hdt]
 have HE:=Hd ((rd_ref (way:=way) HQ.out.1 HQ.out.2).2 hq1)
 clear hdt hq1
 go_upto_region 4 with fail
 go_cut [6] (fun va wx=>OneR w2 (P / Q + 1) (max L 64 + 1) va wx)
 case first=>
  have HT:=Hd (fun (w':World) (hb:Below w2.heap.size w2 w')=>(show w'.cell? ⟨k5,0,none⟩ = some (.bool g5) /\ w'.cell? ⟨k5,1,none⟩ = some (.slice A5 n5 o5) from ⟨(B5.out.below hb).1,(B5.out.below hb).2.1⟩))
  have hB:=(Below.refl w2.heap.size w2).drew
  replace X:=Hd (X.out.below hB)
  replace V5:=Hd (V5.out.below hB)
  refine wp_region_held_drew (S:=fun w'=>w'.cell? ⟨k5,0,none⟩ = some (.bool g5) /\ w'.cell? ⟨k5,1,none⟩ = some (.slice A5 n5 o5)) (by kernel_rfl) (HT.out _ hB) (fun hH=>?_)
  clear hH
  generalize w2.drew = wr0 at *
  refine tk 0 14 (by first | assumption | exact HT.out _ hB) ?_
  try simp only [Act.put,tA,cZ,cS]
  refine wpAnyH_ready (rs:=[1,3]) (by kernel_rfl) (by simp) ?_
  refine AllReadyH.cons rfl (fun K hK=>?_) (AllReadyH.cons rfl (fun K hK=>?_) AllReadyH.nil)
  ·(try simp only [gA]);(try simp only [gS]);(try simp only [gZ])
   go_simp
   (go_at_call 82;refine (one_any _).mono ?_;rintro e wc1 ⟨⟨gt1,At1,nt1,ct1,rfl,hz⟩,hb⟩)
   replace X:=Hd (X.out.below hb)
   replace V5:=Hd (V5.out.below hb)
   replace hB:=Below.trans hB (hb.mono hB.size)
   have T1:=Hd hz
   refine hK.out _ _ (HT.out _ hB) (fun hH=>?_)
   clear hK K hH
   try simp only [Act.put,tA,cZ,cS]
   clear hb hz
   refine wpAnyH_ready (rs:=[2,3]) (by kernel_rfl) (by simp) ?_
   refine AllReadyH.cons rfl (fun K hK=>?_) (AllReadyH.cons rfl (fun K hK=>?_) AllReadyH.nil)
   ·(try simp only [gA]);(try simp only [gS]);(try simp only [gZ])
    go_simp
    (go_at_call 86;refine (radd_any _ _ (P / Q) 1 L 64 _ V5.out T1.out (by omega) (by omega)).mono ?_;rintro e wc2 ⟨⟨gt2,At2,nt2,ct2,rfl,hz⟩,hb⟩)
    replace X:=Hd (X.out.below hb)
    replace V5:=Hd (V5.out.below hb)
    replace T1:=Hd (T1.out.below hb)
    replace hB:=Below.trans hB (hb.mono hB.size)
    clear T1
    have T2:=Hd hz
    refine hK.out _ _ (HT.out _ hB) (fun hH=>?_)
    clear hK K hH
    try simp only [Act.put,tA,cZ,cS]
    clear hb hz
    refine rd 3 (AllReadyH.cons rfl (fun K hK=>?_) AllReadyH.nil)
    (try simp only [gA]);(try simp only [gS]);(try simp only [gZ])
    go_simp
    have hbl:=below_alloc wc2 (.cells #[.bool false,.slice none 0 0] 34)
    replace X:=Hd (X.out.below hbl)
    replace V5:=Hd (V5.out.below hbl)
    replace T2:=Hd (T2.out.below hbl)
    have F6:=Hd (Fx.new wc2 (.bool false) (.slice none 0 0) 34)
    have hge6:=hB.size
    replace hB:=hB.alloc hB.size (.cells #[.bool false,.slice none 0 0] 34)
    refine hK.out _ _ (HT.out _ hB) (fun hH=>?_)
    clear hK K hH
    try simp only [Act.put,tA,cZ,cS]
    clear hbl
    generalize wc2.alloc (.cells #[.bool false,.slice none 0 0] 34) = wa6 at *
    generalize wc2.heap.size = ba6 at *
    refine rd 4 (AllReadyH.cons rfl (fun K hK=>?_) AllReadyH.nil)
    (try simp only [gA]);(try simp only [gS]);(try simp only [gZ])
    obtain ⟨x0,x1,x2,x3,x4⟩:=F6.out
    go_simp
    have hBs:=(hB.setCell (p:=⟨ba6,0,none⟩) hge6 (.bool gt2)).setCell (p:=⟨ba6,1,none⟩) hge6 (.slice At2 nt2 ct2)
    replace X:=Hd (X.out.fx F6.out (.bool gt2) (.slice At2 nt2 ct2))
    replace V5:=Hd (V5.out.fx F6.out (.bool gt2) (.slice At2 nt2 ct2))
    replace T2:=Hd (T2.out.fx F6.out (.bool gt2) (.slice At2 nt2 ct2))
    replace F6:=Hd (F6.out.store (.bool gt2) (.slice At2 nt2 ct2))
    clear x0 x1 x2 x3 x4 hB
    refine hK.out _ _ (HT.out _ hBs) (fun hH=>?_)
    clear hK K hH
    try simp only [Act.put,tA,cZ,cS]
    generalize (wa6.setCell ⟨ba6,0,none⟩ (.bool gt2)).setCell ⟨ba6,1,none⟩ (.slice At2 nt2 ct2) = ws6 at *
    have hB:=hBs
    clear hBs
    refine wpAnyH_done (by kernel_rfl) ?_ _
    go_wp2_with fail
    go_meet
    exact ⟨ba6,_,_,_,_,rfl,F6.out,T2.out,hge6,hB⟩
   ·(try simp only [gA]);(try simp only [gS]);(try simp only [gZ])
    go_simp
    have hbl:=below_alloc wc1 (.cells #[.bool false,.slice none 0 0] 34)
    replace X:=Hd (X.out.below hbl)
    replace V5:=Hd (V5.out.below hbl)
    replace T1:=Hd (T1.out.below hbl)
    have F6:=Hd (Fx.new wc1 (.bool false) (.slice none 0 0) 34)
    have hge6:=hB.size
    replace hB:=hB.alloc hB.size (.cells #[.bool false,.slice none 0 0] 34)
    refine hK.out _ _ (HT.out _ hB) (fun hH=>?_)
    clear hK K hH
    try simp only [Act.put,tA,cZ,cS]
    clear hbl
    generalize wc1.alloc (.cells #[.bool false,.slice none 0 0] 34) = wa6 at *
    generalize wc1.heap.size = ba6 at *
    refine rd 2 (AllReadyH.cons rfl (fun K hK=>?_) AllReadyH.nil)
    (try simp only [gA]);(try simp only [gS]);(try simp only [gZ])
    go_simp
    (go_at_call 86;refine (radd_any _ _ (P / Q) 1 L 64 _ V5.out T1.out (by omega) (by omega)).mono ?_;rintro e wc2 ⟨⟨gt2,At2,nt2,ct2,rfl,hz⟩,hb⟩)
    replace F6:=Hd (F6.out.below hb)
    replace X:=Hd (X.out.below hb)
    replace V5:=Hd (V5.out.below hb)
    replace T1:=Hd (T1.out.below hb)
    replace hB:=Below.trans hB (hb.mono hB.size)
    clear T1
    have T2:=Hd hz
    refine hK.out _ _ (HT.out _ hB) (fun hH=>?_)
    clear hK K hH
    try simp only [Act.put,tA,cZ,cS]
    clear hb hz
    refine rd 4 (AllReadyH.cons rfl (fun K hK=>?_) AllReadyH.nil)
    (try simp only [gA]);(try simp only [gS]);(try simp only [gZ])
    obtain ⟨x0,x1,x2,x3,x4⟩:=F6.out
    go_simp
    have hBs:=(hB.setCell (p:=⟨ba6,0,none⟩) hge6 (.bool gt2)).setCell (p:=⟨ba6,1,none⟩) hge6 (.slice At2 nt2 ct2)
    replace X:=Hd (X.out.fx F6.out (.bool gt2) (.slice At2 nt2 ct2))
    replace V5:=Hd (V5.out.fx F6.out (.bool gt2) (.slice At2 nt2 ct2))
    replace T2:=Hd (T2.out.fx F6.out (.bool gt2) (.slice At2 nt2 ct2))
    replace F6:=Hd (F6.out.store (.bool gt2) (.slice At2 nt2 ct2))
    clear x0 x1 x2 x3 x4 hB
    refine hK.out _ _ (HT.out _ hBs) (fun hH=>?_)
    clear hK K hH
    try simp only [Act.put,tA,cZ,cS]
    generalize (wc2.setCell ⟨ba6,0,none⟩ (.bool gt2)).setCell ⟨ba6,1,none⟩ (.slice At2 nt2 ct2) = ws6 at *
    have hB:=hBs
    clear hBs
    refine wpAnyH_done (by kernel_rfl) ?_ _
    go_wp2_with fail
    go_meet
    exact ⟨ba6,_,_,_,_,rfl,F6.out,T2.out,hge6,hB⟩
  ·(try simp only [gA]);(try simp only [gS]);(try simp only [gZ])
   go_simp
   have hbl:=below_alloc wr0 (.cells #[.bool false,.slice none 0 0] 34)
   replace X:=Hd (X.out.below hbl)
   replace V5:=Hd (V5.out.below hbl)
   have F6:=Hd (Fx.new wr0 (.bool false) (.slice none 0 0) 34)
   have hge6:=hB.size
   replace hB:=hB.alloc hB.size (.cells #[.bool false,.slice none 0 0] 34)
   refine hK.out _ _ (HT.out _ hB) (fun hH=>?_)
   clear hK K hH
   try simp only [Act.put,tA,cZ,cS]
   clear hbl
   generalize wr0.alloc (.cells #[.bool false,.slice none 0 0] 34) = wa6 at *
   generalize wr0.heap.size = ba6 at *
   refine rd 1 (AllReadyH.cons rfl (fun K hK=>?_) AllReadyH.nil)
   (try simp only [gA]);(try simp only [gS]);(try simp only [gZ])
   go_simp
   (go_at_call 82;refine (one_any _).mono ?_;rintro e wc1 ⟨⟨gt1,At1,nt1,ct1,rfl,hz⟩,hb⟩)
   replace F6:=Hd (F6.out.below hb)
   replace X:=Hd (X.out.below hb)
   replace V5:=Hd (V5.out.below hb)
   replace hB:=Below.trans hB (hb.mono hB.size)
   have T1:=Hd hz
   refine hK.out _ _ (HT.out _ hB) (fun hH=>?_)
   clear hK K hH
   try simp only [Act.put,tA,cZ,cS]
   clear hb hz
   refine rd 2 (AllReadyH.cons rfl (fun K hK=>?_) AllReadyH.nil)
   (try simp only [gA]);(try simp only [gS]);(try simp only [gZ])
   go_simp
   (go_at_call 86;refine (radd_any _ _ (P / Q) 1 L 64 _ V5.out T1.out (by omega) (by omega)).mono ?_;rintro e wc2 ⟨⟨gt2,At2,nt2,ct2,rfl,hz⟩,hb⟩)
   replace F6:=Hd (F6.out.below hb)
   replace X:=Hd (X.out.below hb)
   replace V5:=Hd (V5.out.below hb)
   replace T1:=Hd (T1.out.below hb)
   replace hB:=Below.trans hB (hb.mono hB.size)
   clear T1
   have T2:=Hd hz
   refine hK.out _ _ (HT.out _ hB) (fun hH=>?_)
   clear hK K hH
   try simp only [Act.put,tA,cZ,cS]
   clear hb hz
   refine rd 4 (AllReadyH.cons rfl (fun K hK=>?_) AllReadyH.nil)
   (try simp only [gA]);(try simp only [gS]);(try simp only [gZ])
   obtain ⟨x0,x1,x2,x3,x4⟩:=F6.out
   go_simp
   have hBs:=(hB.setCell (p:=⟨ba6,0,none⟩) hge6 (.bool gt2)).setCell (p:=⟨ba6,1,none⟩) hge6 (.slice At2 nt2 ct2)
   replace X:=Hd (X.out.fx F6.out (.bool gt2) (.slice At2 nt2 ct2))
   replace V5:=Hd (V5.out.fx F6.out (.bool gt2) (.slice At2 nt2 ct2))
   replace T2:=Hd (T2.out.fx F6.out (.bool gt2) (.slice At2 nt2 ct2))
   replace F6:=Hd (F6.out.store (.bool gt2) (.slice At2 nt2 ct2))
   clear x0 x1 x2 x3 x4 hB
   refine hK.out _ _ (HT.out _ hBs) (fun hH=>?_)
   clear hK K hH
   try simp only [Act.put,tA,cZ,cS]
   generalize (wc2.setCell ⟨ba6,0,none⟩ (.bool gt2)).setCell ⟨ba6,1,none⟩ (.slice At2 nt2 ct2) = ws6 at *
   have hB:=hBs
   clear hBs
   refine wpAnyH_done (by kernel_rfl) ?_ _
   go_wp2_with fail
   go_meet
   exact ⟨ba6,_,_,_,_,rfl,F6.out,T2.out,hge6,hB⟩
 case rest=>
  obtain ⟨k6,g6,A6,n6,o6,rfl,hf1,hv1,hq6,hb⟩:=hcut
  obtain ⟨w3,rfl⟩ : ∃ w3,w3 = wc:=⟨wc,rfl⟩
  replace B3:=Hd (B3.out.below hb)
  replace BR:=Hd (BR.out.below hb)
  replace B5:=Hd (B5.out.below hb)
  replace X:=Hd (X.out.below hb)
  replace V5:=Hd (V5.out.below hb)
  replace hw:=hw.trans (hb.mono hw.size)
  have B6:=Hd hf1
  have V6:=Hd hv1
  clear hf1 hv1 hb
  rcases (show way = 0 \/ way = 1 \/ way = 2 \/ way = 3 by have:=HW.out;omega) with rfl | rfl | rfl | rfl
  ·skip
   have HU:=Hd (show rdI 0 P Q = P / Q from HE.out)
   go_upto_region 7 with fail
   obtain ⟨c50,c51,f50,f51,s5⟩:=B5.out
   obtain ⟨r0,r1,r2,r3,r4⟩:=BR.out
   go_wp2
   exact bodyPost_ret (v:=.agg #[.bool g5,.slice A5 n5 o5]) (by simp [results,Tryz.results101,go_sem,r0,r1]) rfl ⟨⟨_,_,_,_,rfl,by rw [HU.out];exact (V5.out.mono (by omega)).fx BR.out _ _⟩,((hw.setCell (p:=⟨w.heap.size + 1,0,none⟩) (by show w.heap.size <= w.heap.size + 1;omega) _).setCell (p:=⟨w.heap.size + 1,1,none⟩) (by show w.heap.size <= w.heap.size + 1;omega) _)⟩
  ·skip
   have HU:=Hd (show rdI 1 P Q = P / Q + 1 from HE.out)
   go_upto_region 9 with fail
   obtain ⟨c60,c61,f60,f61,s6⟩:=B6.out
   obtain ⟨r0,r1,r2,r3,r4⟩:=BR.out
   go_wp2
   exact bodyPost_ret (v:=.agg #[.bool g6,.slice A6 n6 o6]) (by simp [results,Tryz.results101,go_sem,r0,r1]) rfl ⟨⟨_,_,_,_,rfl,by rw [HU.out];exact (V6.out.mono (by omega)).fx BR.out _ _⟩,((hw.setCell (p:=⟨w.heap.size + 1,0,none⟩) (by show w.heap.size <= w.heap.size + 1;omega) _).setCell (p:=⟨w.heap.size + 1,1,none⟩) (by show w.heap.size <= w.heap.size + 1;omega) _)⟩
  ·skip
   go_upto_region 11 with fail
   obtain ⟨c30,c31,c32,c33,f30,f31,f32,f33,s3⟩:=B3.out
   go_wp2_with fail
   refine (rSign_q _ P Q L _ X.out (by omega)).mono ?_
   rintro e w4 ⟨rfl,hb⟩
   clear c30 c31 c32 c33 f30 f31 f32 f33 s3
   replace B3:=Hd (B3.out.below hb)
   replace BR:=Hd (BR.out.below hb)
   replace B5:=Hd (B5.out.below hb)
   replace B6:=Hd (B6.out.below hb)
   replace X:=Hd (X.out.below hb)
   replace V5:=Hd (V5.out.below hb)
   replace V6:=Hd (V6.out.below hb)
   replace hw:=hw.trans (hb.mono hw.size)
   clear hb
   by_cases hp:P < 0
   ·skip
    have hcm:cmpI P 0 < 0:=by rw [cmpI_lt hp];decide
    have HU:=Hd (show rdI 2 P Q = P / Q + 1 from HE.out.trans (if_pos (decide_eq_true ((floor_neg HQ.out.1).2 hp))))
    clear hp
    go_upto_region 12 with fail
    obtain ⟨c60,c61,f60,f61,s6⟩:=B6.out
    obtain ⟨r0,r1,r2,r3,r4⟩:=BR.out
    go_wp2
    exact bodyPost_ret (v:=.agg #[.bool g6,.slice A6 n6 o6]) (by simp [results,Tryz.results101,go_sem,r0,r1]) rfl ⟨⟨_,_,_,_,rfl,by rw [HU.out];exact (V6.out.mono (by omega)).fx BR.out _ _⟩,((hw.setCell (p:=⟨w.heap.size + 1,0,none⟩) (by show w.heap.size <= w.heap.size + 1;omega) _).setCell (p:=⟨w.heap.size + 1,1,none⟩) (by show w.heap.size <= w.heap.size + 1;omega) _)⟩
   ·skip
    have hcm:¬ cmpI P 0 < 0:=cmp_nlt (Int.not_lt.1 hp)
    have HU:=Hd (show rdI 2 P Q = P / Q from HE.out.trans (if_neg (fun e=>hp ((floor_neg HQ.out.1).1 (of_decide_eq_true e)))))
    clear hp
    go_upto_region 13 with fail
    obtain ⟨c50,c51,f50,f51,s5⟩:=B5.out
    obtain ⟨r0,r1,r2,r3,r4⟩:=BR.out
    go_wp2
    exact bodyPost_ret (v:=.agg #[.bool g5,.slice A5 n5 o5]) (by simp [results,Tryz.results101,go_sem,r0,r1]) rfl ⟨⟨_,_,_,_,rfl,by rw [HU.out];exact (V5.out.mono (by omega)).fx BR.out _ _⟩,((hw.setCell (p:=⟨w.heap.size + 1,0,none⟩) (by show w.heap.size <= w.heap.size + 1;omega) _).setCell (p:=⟨w.heap.size + 1,1,none⟩) (by show w.heap.size <= w.heap.size + 1;omega) _)⟩
  ·skip
   go_upto_region 14 with fail
   go_wp2_with fail
   refine (one_any _).mono ?_
   rintro e w4 ⟨⟨gt1,At1,nt1,ct1,rfl,hz⟩,hb⟩
   replace B3:=Hd (B3.out.below hb)
   replace BR:=Hd (BR.out.below hb)
   replace B5:=Hd (B5.out.below hb)
   replace B6:=Hd (B6.out.below hb)
   replace X:=Hd (X.out.below hb)
   replace V5:=Hd (V5.out.below hb)
   replace V6:=Hd (V6.out.below hb)
   replace hw:=hw.trans (hb.mono hw.size)
   have T1:=Hd hz
   clear hb hz
   go_wp2_with fail
   refine (rnew_any 2 _ (by decide) (by decide)).mono ?_
   rintro e w5 ⟨⟨gt2,At2,nt2,ct2,rfl,hz⟩,hb⟩
   replace B3:=Hd (B3.out.below hb)
   replace BR:=Hd (BR.out.below hb)
   replace B5:=Hd (B5.out.below hb)
   replace B6:=Hd (B6.out.below hb)
   replace X:=Hd (X.out.below hb)
   replace V5:=Hd (V5.out.below hb)
   replace V6:=Hd (V6.out.below hb)
   replace T1:=Hd (T1.out.below hb)
   replace hw:=hw.trans (hb.mono hw.size)
   have T2:=Hd hz
   clear hb hz
   go_wp2_with fail
   refine (rOver_any _ _ 1 2 64 _ T1.out T2.out (by decide)).mono ?_
   rintro e w6 ⟨⟨g7,A7,n7,o7,e7,E7,m7,d7,rfl,hz⟩,hb⟩
   clear T1
   clear T2
   replace B3:=Hd (B3.out.below hb)
   replace BR:=Hd (BR.out.below hb)
   replace B5:=Hd (B5.out.below hb)
   replace B6:=Hd (B6.out.below hb)
   replace X:=Hd (X.out.below hb)
   replace V5:=Hd (V5.out.below hb)
   replace V6:=Hd (V6.out.below hb)
   replace hw:=hw.trans (hb.mono hw.size)
   have V7:=Hd hz
   clear hb hz
   have hX:=below_alloc w6 (.cells #[.bool g7,.slice A7 n7 o7,.bool e7,.slice E7 m7 d7] 43)
   replace B3:=Hd (B3.out.below hX)
   replace BR:=Hd (BR.out.below hX)
   replace B5:=Hd (B5.out.below hX)
   replace B6:=Hd (B6.out.below hX)
   replace X:=Hd (X.out.below hX)
   replace V5:=Hd (V5.out.below hX)
   replace V6:=Hd (V6.out.below hX)
   replace V7:=Hd (V7.out.below hX)
   replace hw:=hw.trans (hX.mono hw.size)
   have B7:=Hd (Fx4.new w6 (.bool g7) (.slice A7 n7 o7) (.bool e7) (.slice E7 m7 d7) 43)
   skip
   clear hX
   go_upto_region 15 with fail
   generalize w6.alloc (.cells #[.bool g7,.slice A7 n7 o7,.bool e7,.slice E7 m7 d7] 43) = W7 at *
   generalize w6.heap.size = k7 at *
   have HT:=Hd (fun (w':World) (hb:Below W7.heap.size W7 w')=>(show w'.cell? ⟨w.heap.size,0,none⟩ = some (.bool g1) /\ w'.cell? ⟨w.heap.size,1,none⟩ = some (.slice A1 n1 c1) /\ w'.cell? ⟨w.heap.size,2,none⟩ = some (.bool e1) /\ w'.cell? ⟨w.heap.size,3,none⟩ = some (.slice E1 m1 d1) /\ w'.cell? ⟨k5,0,none⟩ = some (.bool g5) /\ w'.cell? ⟨k5,1,none⟩ = some (.slice A5 n5 o5) /\ w'.cell? ⟨k7,0,none⟩ = some (.bool g7) /\ w'.cell? ⟨k7,1,none⟩ = some (.slice A7 n7 o7) /\ w'.cell? ⟨k7,2,none⟩ = some (.bool e7) /\ w'.cell? ⟨k7,3,none⟩ = some (.slice E7 m7 d7) from ⟨(B3.out.below hb).c0,(B3.out.below hb).c1,(B3.out.below hb).c2,(B3.out.below hb).c3,(B5.out.below hb).1,(B5.out.below hb).2.1,(B7.out.below hb).c0,(B7.out.below hb).c1,(B7.out.below hb).c2,(B7.out.below hb).c3⟩))
   have hB:=(Below.refl W7.heap.size W7).drew
   replace X:=Hd (X.out.below hB)
   replace V5:=Hd (V5.out.below hB)
   replace V6:=Hd (V6.out.below hB)
   replace V7:=Hd (V7.out.below hB)
   refine wp_region_held_drew (S:=fun w'=>w'.cell? ⟨w.heap.size,0,none⟩ = some (.bool g1) /\ w'.cell? ⟨w.heap.size,1,none⟩ = some (.slice A1 n1 c1) /\ w'.cell? ⟨w.heap.size,2,none⟩ = some (.bool e1) /\ w'.cell? ⟨w.heap.size,3,none⟩ = some (.slice E1 m1 d1) /\ w'.cell? ⟨k5,0,none⟩ = some (.bool g5) /\ w'.cell? ⟨k5,1,none⟩ = some (.slice A5 n5 o5) /\ w'.cell? ⟨k7,0,none⟩ = some (.bool g7) /\ w'.cell? ⟨k7,1,none⟩ = some (.slice A7 n7 o7) /\ w'.cell? ⟨k7,2,none⟩ = some (.bool e7) /\ w'.cell? ⟨k7,3,none⟩ = some (.slice E7 m7 d7)) (by kernel_rfl) (HT.out _ hB) (fun hH=>?_)
   clear hH
   generalize W7.drew = wr0 at *
   refine tk 0 34 (by first | assumption | exact HT.out _ hB) ?_
   try simp only [Act.put,tA,cZ,cS]
   refine tk 1 35 (by first | assumption | exact HT.out _ hB) ?_
   try simp only [Act.put,tA,cZ,cS]
   refine tk 4 38 (by first | assumption | exact HT.out _ hB) ?_
   try simp only [Act.put,tA,cZ,cS]
   refine rd 2 (AllReadyH.cons rfl (fun K hK=>?_) AllReadyH.nil)
   (try simp only [gA]);(try simp only [gS]);(try simp only [gZ])
   go_simp
   (go_at_call 21;refine (rOf_rq _ (P / Q) L _ V5.out hL2).mono ?_;rintro e wc2 ⟨⟨ga,Aa,na,oa,ea,Ea,ma,da,rfl,hz⟩,hb⟩)
   replace X:=Hd (X.out.below hb)
   replace V5:=Hd (V5.out.below hb)
   replace V6:=Hd (V6.out.below hb)
   replace V7:=Hd (V7.out.below hb)
   replace hB:=Below.trans hB (hb.mono hB.size)
   have T3:=Hd hz
   refine hK.out _ _ (HT.out _ hB) (fun hH=>?_)
   clear hK K hH
   try simp only [Act.put,tA,cZ,cS]
   clear hb hz
   refine rd 3 (AllReadyH.cons rfl (fun K hK=>?_) AllReadyH.nil)
   (try simp only [gA]);(try simp only [gS]);(try simp only [gZ])
   go_simp
   (go_at_call 43;refine (rSub_q _ _ P Q (P / Q) 1 L _ X.out T3.out (by omega)).mono ?_;rintro e wc3 ⟨⟨gb,Ab,nb,ob,eb,Eb,mb,db,rfl,hz⟩,hb⟩)
   replace X:=Hd (X.out.below hb)
   replace V5:=Hd (V5.out.below hb)
   replace V6:=Hd (V6.out.below hb)
   replace V7:=Hd (V7.out.below hb)
   replace T3:=Hd (T3.out.below hb)
   replace hB:=Below.trans hB (hb.mono hB.size)
   clear T3
   have T4:=Hd hz
   refine hK.out _ _ (HT.out _ hB) (fun hH=>?_)
   clear hK K hH
   try simp only [Act.put,tA,cZ,cS]
   clear hb hz
   refine rd 5 (AllReadyH.cons rfl (fun K hK=>?_) AllReadyH.nil)
   (try simp only [gA]);(try simp only [gS]);(try simp only [gZ])
   go_simp
   (go_at_call 27;refine (rCmp_q _ _ _ _ _ _ 400 _ (T4.out.mono (by omega)) (V7.out.mono (by omega)) (by omega)).mono ?_;rintro e wc5 ⟨rfl,hb⟩)
   rw [cmp_half HQ.out.1]
   replace X:=Hd (X.out.below hb)
   replace V5:=Hd (V5.out.below hb)
   replace V6:=Hd (V6.out.below hb)
   replace V7:=Hd (V7.out.below hb)
   replace T4:=Hd (T4.out.below hb)
   replace hB:=Below.trans hB (hb.mono hB.size)
   clear T4
   refine hK.out _ _ (HT.out _ hB) (fun hH=>?_)
   clear hK K hH
   try simp only [Act.put,tA,cZ,cS]
   clear hb
   refine tk 6 8 (by first | assumption | exact HT.out _ hB) ?_
   try simp only [Act.put,tA,cZ,cS]
   refine wpAnyH_done (by kernel_rfl) ?_ _
   replace B3:=Hd (B3.out.below hB)
   replace BR:=Hd (BR.out.below hB)
   replace B5:=Hd (B5.out.below hB)
   replace B6:=Hd (B6.out.below hB)
   replace B7:=Hd (B7.out.below hB)
   replace hw:=hw.trans (hB.mono hw.size)
   obtain ⟨hh,hhh⟩ : ∃ hh,cmpI (P % Q + P % Q) Q = hh:=⟨_,rfl⟩
   rw [hhh]
   have HU:=Hd (show rdI 3 P Q = if (decide (0 < hh) || (decide (hh = 0) && decide (P / Q % 2 = 1))) = true then P / Q + 1 else P / Q from by rw [<- hhh];exact HE.out)
   clear hhh
   by_cases h1:0 < hh
   ·skip
    have HV:=Hd (show rdI 3 P Q = P / Q + 1 from HU.out.trans (if_pos (by rw [decide_eq_true h1];rfl)))
    go_upto_region 17 with fail
    obtain ⟨c60,c61,f60,f61,s6⟩:=B6.out
    obtain ⟨r0,r1,r2,r3,r4⟩:=BR.out
    go_wp2
    exact bodyPost_ret (v:=.agg #[.bool g6,.slice A6 n6 o6]) (by simp [results,Tryz.results101,go_sem,r0,r1]) rfl ⟨⟨_,_,_,_,rfl,by rw [HV.out];exact (V6.out.mono (by omega)).fx BR.out _ _⟩,((hw.setCell (p:=⟨w.heap.size + 1,0,none⟩) (by show w.heap.size <= w.heap.size + 1;omega) _).setCell (p:=⟨w.heap.size + 1,1,none⟩) (by show w.heap.size <= w.heap.size + 1;omega) _)⟩
   have e1:decide (0 < hh) = false:=decide_eq_false h1
   have E1:=Hd e1
   clear e1
   by_cases h2:hh = 0
   ·skip
    have h3:(hh == 0) = true:=by rw [h2];rfl
    have E2:=Hd (show decide (hh = 0) = true from decide_eq_true h2)
    clear h2
    obtain ⟨c50,c51,f50,f51,s5⟩:=B5.out
    go_wp2_with fail
    refine (rodd_any _ (P / Q) L _ V5.out (by omega)).mono ?_
    rintro e w8 ⟨rfl,hb⟩
    clear c50 c51 f50 f51 s5
    replace B3:=Hd (B3.out.below hb)
    replace BR:=Hd (BR.out.below hb)
    replace B5:=Hd (B5.out.below hb)
    replace B6:=Hd (B6.out.below hb)
    replace B7:=Hd (B7.out.below hb)
    replace X:=Hd (X.out.below hb)
    replace V5:=Hd (V5.out.below hb)
    replace V6:=Hd (V6.out.below hb)
    replace V7:=Hd (V7.out.below hb)
    replace hw:=hw.trans (hb.mono hw.size)
    clear hb
    cases ho:decide (P / Q % 2 = 1) with
    | true=>
     have HV:=Hd (show rdI 3 P Q = P / Q + 1 from HU.out.trans (if_pos (by rw [E1.out,E2.out,ho];rfl)))
     clear ho
     go_upto_region 17 with fail
     obtain ⟨c60,c61,f60,f61,s6⟩:=B6.out
     obtain ⟨r0,r1,r2,r3,r4⟩:=BR.out
     go_wp2
     exact bodyPost_ret (v:=.agg #[.bool g6,.slice A6 n6 o6]) (by simp [results,Tryz.results101,go_sem,r0,r1]) rfl ⟨⟨_,_,_,_,rfl,by rw [HV.out];exact (V6.out.mono (by omega)).fx BR.out _ _⟩,((hw.setCell (p:=⟨w.heap.size + 1,0,none⟩) (by show w.heap.size <= w.heap.size + 1;omega) _).setCell (p:=⟨w.heap.size + 1,1,none⟩) (by show w.heap.size <= w.heap.size + 1;omega) _)⟩
    | false=>
     have HV:=Hd (show rdI 3 P Q = P / Q from HU.out.trans (if_neg (by rw [E1.out,E2.out,ho];simp)))
     clear ho
     go_upto_region 18 with fail
     obtain ⟨c50,c51,f50,f51,s5⟩:=B5.out
     obtain ⟨r0,r1,r2,r3,r4⟩:=BR.out
     go_wp2
     exact bodyPost_ret (v:=.agg #[.bool g5,.slice A5 n5 o5]) (by simp [results,Tryz.results101,go_sem,r0,r1]) rfl ⟨⟨_,_,_,_,rfl,by rw [HV.out];exact (V5.out.mono (by omega)).fx BR.out _ _⟩,((hw.setCell (p:=⟨w.heap.size + 1,0,none⟩) (by show w.heap.size <= w.heap.size + 1;omega) _).setCell (p:=⟨w.heap.size + 1,1,none⟩) (by show w.heap.size <= w.heap.size + 1;omega) _)⟩
   ·skip
    have h3:(hh == 0) = false:=by simpa using h2
    have E2:=Hd (show decide (hh = 0) = false from decide_eq_false h2)
    clear h2
    have HV:=Hd (show rdI 3 P Q = P / Q from HU.out.trans (if_neg (by rw [E1.out,E2.out];simp)))
    go_upto_region 18 with fail
    obtain ⟨c50,c51,f50,f51,s5⟩:=B5.out
    obtain ⟨r0,r1,r2,r3,r4⟩:=BR.out
    go_wp2
    exact bodyPost_ret (v:=.agg #[.bool g5,.slice A5 n5 o5]) (by simp [results,Tryz.results101,go_sem,r0,r1]) rfl ⟨⟨_,_,_,_,rfl,by rw [HV.out];exact (V5.out.mono (by omega)).fx BR.out _ _⟩,((hw.setCell (p:=⟨w.heap.size + 1,0,none⟩) (by show w.heap.size <= w.heap.size + 1;omega) _).setCell (p:=⟨w.heap.size + 1,1,none⟩) (by show w.heap.size <= w.heap.size + 1;omega) _)⟩
end Go.Proofs.YtbajnceoolkckaaGreat
