/- Of the proof of RationalRounds: RatQu. -/
import Derived.Laws.EntriesVeiled
import Derived.Test.YtbajnceoolkckaaGreatRd33
open List renaming getElem_toArray → gA, getElem_cons_succ → gS, getElem_cons_zero → gZ, setIfInBounds_toArray → tA, set_cons_zero → cZ, set_cons_succ → cS
open Go.Lib renaming hid → Hd
set_option maxRecDepth 100000
set_option maxHeartbeats 16000000
namespace Go.Proofs.YtbajnceoolkckaaGreat
open Go.RowKit LM
theorem goes0 (q h:Int) (v:Value) (L:Nat) (w:World) (hv:Ival w v q L) : Calls Tryz.prog 140 #[v,.int .i64 h] w fun e w'=>e = .returned (.bool false) /\ Below w.heap.size w w':=by
 obtain ⟨p,A,n,c,rfl⟩:=hv.form
 have hb:=below_alloc w (.cells #[.bool p,.slice A n c] 31)
 go_enter Tryz.func140,Tryz.ntmps140
 go_wp2
 go_ret
 exact ⟨rfl,hb⟩
theorem goes1 (q h:Int) (v:Value) (L:Nat) (w:World) (hv:Ival w v q L) : Calls Tryz.prog 141 #[v,.int .i64 h] w fun e w'=>e = .returned (.bool true) /\ Below w.heap.size w w':=by
 obtain ⟨p,A,n,c,rfl⟩:=hv.form
 have hb:=below_alloc w (.cells #[.bool p,.slice A n c] 31)
 go_enter Tryz.func141,Tryz.ntmps141
 go_wp2
 go_ret
 exact ⟨rfl,hb⟩
theorem cmp_lt0 (q:Int) : decide (cmpI q 0 < 0) = decide (q < 0):=by
 rcases Int.lt_trichotomy q 0 with h | h | h
 ·rw [cmpI_lt h,decide_eq_true h];rfl
 ·rw [cmpI_eq h];exact (decide_eq_false (by omega)).symm
 ·rw [cmpI_gt h];exact (decide_eq_false (by omega)).symm
theorem goes2 (q h:Int) (v:Value) (L:Nat) (w:World) (hv:Ival w v q L) : Calls Tryz.prog 142 #[v,.int .i64 h] w fun e w'=>e = .returned (.bool (decide (q < 0))) /\ Below w.heap.size w w':=by
 obtain ⟨p,A,n,c,rfl⟩:=hv.form
 have hb0:=below_alloc w (.cells #[.bool p,.slice A n c] 31)
 have F:=Fx.new w (.bool p) (.slice A n c) 31
 have X:=Hd (hv.below hb0)
 have HB:=Hd hb0
 clear hb0 hv
 go_enter Tryz.func142,Tryz.ntmps142
 go_upto_region 1 with fail
 generalize w.alloc (.cells #[.bool p,.slice A n c] 31) = W0 at *
 obtain ⟨c0,c1,f0,f1,s0⟩:=F
 go_wp2_with fail
 refine (sign_int _ q L _ X.out).mono ?_
 rintro e w1 ⟨rfl,hb⟩
 go_wp2
 go_ret
 exact ⟨congrArg (fun b=>Ending.returned (.bool b)) (cmp_lt0 q),HB.out.trans (hb.mono HB.out.size)⟩
theorem goes3 (q h:Int) (v:Value) (L:Nat) (w:World) (hv:Ival w v q L) (hL:L <= 1073741824) : Calls Tryz.prog 143 #[v,.int .i64 h] w fun e w'=>e = .returned (.bool (decide (0 < h) || (decide (h = 0) && decide (q % 2 = 1)))) /\ Below w.heap.size w w':=by
 obtain ⟨p,A,n,c,rfl⟩:=hv.form
 have hb0:=below_alloc w (.cells #[.bool p,.slice A n c] 31)
 have F:=Fx.new w (.bool p) (.slice A n c) 31
 have X:=Hd (hv.below hb0)
 have HB:=Hd hb0
 clear hb0 hv
 go_enter Tryz.func143,Tryz.ntmps143
 go_upto_region 1 with fail
 generalize w.alloc (.cells #[.bool p,.slice A n c] 31) = W0 at *
 obtain ⟨c0,c1,f0,f1,s0⟩:=F
 by_cases h1:0 < h
 ·have hd1:decide (0 < h) = true:=decide_eq_true h1
  have HD:=Hd hd1
  clear hd1
  go_wp2
  go_ret
  exact ⟨by first | rfl | (rw [HD.out];rfl),HB.out⟩
 ·have hd1:decide (0 < h) = false:=decide_eq_false h1
  have HD:=Hd hd1
  clear hd1
  by_cases h2:h = 0
  ·have hd2:decide (h = 0) = true:=decide_eq_true h2
   have HE:=Hd hd2
   clear hd2
   have h3:(h == 0) = true:=by rw [h2];rfl
   clear h2
   go_wp2_with fail
   refine (odd_int _ q L _ X.out hL).mono ?_
   rintro e w1 ⟨rfl,hb⟩
   go_wp2
   go_ret
   exact ⟨by first | rfl | (rw [HD.out,HE.out];rfl),HB.out.trans (hb.mono HB.out.size)⟩
  ·have hd2:decide (h = 0) = false:=decide_eq_false h2
   have HE:=Hd hd2
   clear hd2
   have h3:(h == 0) = false:=by simpa using h2
   go_wp2
   go_ret
   exact ⟨by first | rfl | (rw [HD.out];rfl) | (rw [HD.out,HE.out];rfl),HB.out⟩
def IntRes (L:Nat) (z:Int) (w:World) (e:Ending) (w':World) : Prop:=(∃ ng A2 n2 c2,e = .returned (.agg #[.bool ng,.slice A2 n2 c2]) /\ Ival w' (.agg #[.bool ng,.slice A2 n2 c2]) z L) /\ Below w.heap.size w w'
def NegAns (b:Nat) (n d:Int) (L:Nat) (w:World) (wx:World) : Prop:=IBox wx b (upN n d) L /\ IBox wx (b + 1) (upN d d) L /\ IBox wx (b + 1 + 1) 0 L /\ Below w.heap.size w wx
theorem rounded_any (way:Int) (u v:Value) (n d:Int) (L:Nat) (w:World) (h:Ival w u n L) (g:Ival w v d L) (hL:L <= 400000) (hL2:2 <= L) (hd:d ≠ 0) (hway:0 <= way /\ way <= 3) :
  Calls Tryz.prog 100 #[.int .i64 way,u,v] w (IntRes (L + 5) (rdI way (upN n d) (upN d d)) w):=by
 obtain ⟨p1,A1,n1,c1,rfl⟩:=h.form
 obtain ⟨p2,A2,n2,c2,rfl⟩:=g.form
 have t3:=three w p1 p2 A1 A2 n1 c1 n2 c2
 obtain ⟨W0,hW0⟩ : ∃ W0,((w.alloc (.cells #[.bool p1,.slice A1 n1 c1] 31)).alloc (.cells #[.bool p2,.slice A2 n2 c2] 31)).alloc (.cells #[.bool false,.slice none 0 0] 31) = W0:=⟨_,rfl⟩
 rw [hW0] at t3
 have hw:=t3.below
 have X:=Hd (h.below hw)
 have Y:=Hd (g.below hw)
 have B4:=Hd t3.b0
 have B5:=Hd t3.b1
 have BR:=Hd t3.b2
 have HD0:=Hd hd
 have HW:=Hd hway
 clear t3 h g hd hway
 go_enter Tryz.func100,Tryz.ntmps100
 go_upto_region 1 with fail
 clear hW0
 obtain ⟨c50,c51,f50,f51,s5⟩:=B5.out
 go_wp2_with fail
 refine (sign_int _ d L _ Y.out).mono ?_
 rintro e w1 ⟨rfl,hb⟩
 clear c50 c51 f50 f51 s5
 replace B4:=Hd (B4.out.below hb)
 replace B5:=Hd (B5.out.below hb)
 replace BR:=Hd (BR.out.below hb)
 replace X:=Hd (X.out.below hb)
 replace Y:=Hd (Y.out.below hb)
 replace hw:=hw.trans (hb.mono hw.size)
 clear hb
 go_upto_if 12 with fail
 go_cut [12] (fun _ wx=>NegAns w.heap.size n d L w wx)
 case first=>
  have I4:=Hd (IBox.mk B4.out X.out)
  have I5:=Hd (IBox.mk B5.out Y.out)
  have I6:=Hd (IBox.mk (L:=L) BR.out Ival.nought)
  clear B4 B5 BR X Y
  cases htb:decide (cmpI d 0 < 0) with
  | true=>
   have hd0:d < 0:=of_decide_eq_true ((cmp_lt0 d).symm.trans htb)
   have e1:-n = upN n d:=(if_pos hd0).symm
   have e2:-d = upN d d:=(if_pos hd0).symm
   clear hd0 htb
   go_upto_region 2 with fail
   obtain ⟨Inv,hInv⟩ : ∃ J:(Nat -> Bool) -> (Value × Value × Value × Value) -> World -> Prop,J = fun b v w'=>(Below w.heap.size w w') /\ (b 4 = false -> Below w1.heap.size w1 w') /\ (IBox w' (w.heap.size + 1 + 1) 0 L) /\ (b 0 = true -> Ival w' v.1 (n) (L)) /\ (b 2 = true -> Ival w' v.2.2.1 (d) (L)) /\ (b 1 = true -> Ival w' v.2.1 (-n) (L)) /\ (b 3 = true -> Ival w' v.2.2.2 (-d) (L)) /\ (b 4 = true -> IBox w' (w.heap.size) (-n) (L)) /\ (b 4 = true -> b 5 = false -> IBox w' (w.heap.size + 1) (d) (L)) /\ (b 5 = true -> IBox w' (w.heap.size + 1) (-d) (L)):=⟨_,rfl⟩
   have hB:=(Below.refl w1.heap.size w1).drew
   refine wp_region_held_drew (S:=fun w'=>True) (by kernel_rfl) (trivial) (fun hH=>?_)
   clear hH
   generalize w1.drew = wr0 at *
   refine wpAnyH_begin (V:=Value × Value × Value × Value) (I:=Inv) (A:=?_) [false,false,false,false,false,false] [13,14,15,16] (fun v=>[v.1,v.2.1,v.2.2.1,v.2.2.2]) (fun a=>(a.tmps.getD 13 undef,a.tmps.getD 14 undef,a.tmps.getD 15 undef,a.tmps.getD 16 undef)) ?_ ?_ (by kernel_rfl) (by kernel_rfl) (by kernel_rfl) (by kernel_rfl) (by kernel_rfl) ?_ ?_ ?_
   rotate_left 1
   ·intro v;simp only [fillA,Act.put,tA,cZ,cS];rfl
   ·rfl
   ·rw [hInv]
    exact ⟨(hw.trans (hB.mono hw.size)),(fun _=>hB),(I6.out.below hB),(fun h=>absurd h (by decide)),(fun h=>absurd h (by decide)),(fun h=>absurd h (by decide)),(fun h=>absurd h (by decide)),(fun h=>absurd h (by decide)),(fun h _=>absurd h (by decide)),(fun h=>absurd h (by decide))⟩
   ·skip
    refine EachFrom.cons (k:=0) rfl rfl (ds:=[]) (by kernel_rfl) (fun v x=>(x,v.2.1,v.2.2.1,v.2.2.2)) (fun v x=>by rfl) (fun b v wz hb0 hcl hbk hdep hI Kc hK=>?_) ?_
    ·skip
     rw [hInv] at hI
     obtain ⟨x13,x14,x15,x16⟩:=v
     dsimp only at hI hK ⊢
     (try simp only [Act.put] at hK);(try simp only [tA] at hK);(try simp only [cS] at hK);(try simp only [cZ] at hK)
     obtain ⟨fn,famb,fR0,f13,f15,f14,f16,fq4,fr5,fr6⟩:=hI
     (try simp only [gA]);(try simp only [gS]);(try simp only [gZ])
     have hA:=famb (by cases h:b 4 with | false=>rfl | true=>exact absurd ((show AllT b [1,3,0,1] from hcl 4 _ rfl h).2.2.1) (by rw [hbk];decide))
     obtain ⟨g,A,n,c,Fq,Z13⟩:=I4.out.below hA
     obtain ⟨c0,c1,-,-,-⟩:=Fq
     go_simp
     refine hK.out _ _ trivial ?_
     rw [hInv]
     exact ⟨(fn),(fun h0=>famb h0),(fR0),(fun h0=>Z13),(fun h0=>f15 h0),(fun h=>absurd ((show AllT b [0] from hcl 1 _ rfl h).1) (by rw [hbk];decide)),(fun h=>absurd ((show AllT b [0] from hcl 1 _ rfl ((show AllT b [2,1] from hcl 3 _ rfl h).2.1)).1) (by rw [hbk];decide)),(fun h=>absurd ((show AllT b [1,3,0,1] from hcl 4 _ rfl h).2.2.1) (by rw [hbk];decide)),(fun h _=>absurd ((show AllT b [1,3,0,1] from hcl 4 _ rfl h).2.2.1) (by rw [hbk];decide)),(fun h=>absurd ((show AllT b [3,4,0,1,2,3,4] from hcl 5 _ rfl h).2.2.1) (by rw [hbk];decide))⟩
    refine EachFrom.cons (k:=1) rfl rfl (ds:=[0]) (by kernel_rfl) (fun v x=>(v.1,x,v.2.2.1,v.2.2.2)) (fun v x=>by rfl) (fun b v wz hb0 hcl hbk hdep hI Kc hK=>?_) ?_
    ·skip
     rw [hInv] at hI
     obtain ⟨x13,x14,x15,x16⟩:=v
     dsimp only at hI hK ⊢
     (try simp only [Act.put] at hK);(try simp only [tA] at hK);(try simp only [cS] at hK);(try simp only [cZ] at hK)
     obtain ⟨fn,famb,fR0,f13,f15,f14,f16,fq4,fr5,fr6⟩:=hI
     obtain ⟨d0,-⟩:=hdep
     (try simp only [gA]);(try simp only [gS]);(try simp only [gZ])
     go_simp
     (go_at_call 62;refine (neg_t _ n L _ (f13 d0) (by omega)).mono ?_;rintro e w1 ⟨⟨g14,A14,n14,c14,rfl,hz⟩,hb⟩)
     refine hK.out _ _ trivial ?_
     rw [hInv]
     exact ⟨((fn).trans (hb.mono (fn).size)),(fun h0=>(famb h0).trans (hb.mono (famb h0).size)),((fR0).below hb),(fun h0=>(f13 h0).below hb),(fun h0=>(f15 h0).below hb),(fun h0=>hz),(fun h=>absurd ((show AllT b [2,1] from hcl 3 _ rfl h).2.1) (by rw [hbk];decide)),(fun h=>absurd ((show AllT b [1,3,0,1] from hcl 4 _ rfl h).1) (by rw [hbk];decide)),(fun h _=>absurd ((show AllT b [1,3,0,1] from hcl 4 _ rfl h).1) (by rw [hbk];decide)),(fun h=>absurd ((show AllT b [3,4,0,1,2,3,4] from hcl 5 _ rfl h).2.2.2.1) (by rw [hbk];decide))⟩
    refine EachFrom.cons (k:=2) rfl rfl (ds:=[]) (by kernel_rfl) (fun v x=>(v.1,v.2.1,x,v.2.2.2)) (fun v x=>by rfl) (fun b v wz hb0 hcl hbk hdep hI Kc hK=>?_) ?_
    ·skip
     rw [hInv] at hI
     obtain ⟨x13,x14,x15,x16⟩:=v
     dsimp only at hI hK ⊢
     (try simp only [Act.put] at hK);(try simp only [tA] at hK);(try simp only [cS] at hK);(try simp only [cZ] at hK)
     obtain ⟨fn,famb,fR0,f13,f15,f14,f16,fq4,fr5,fr6⟩:=hI
     (try simp only [gA]);(try simp only [gS]);(try simp only [gZ])
     have hA:=famb (by cases h:b 4 with | false=>rfl | true=>exact absurd ((show AllT b [2,1] from hcl 3 _ rfl ((show AllT b [1,3,0,1] from hcl 4 _ rfl h).2.1)).1) (by rw [hbk];decide))
     obtain ⟨g,A,n,c,Fq,Z15⟩:=I5.out.below hA
     obtain ⟨c0,c1,-,-,-⟩:=Fq
     go_simp
     refine hK.out _ _ trivial ?_
     rw [hInv]
     exact ⟨(fn),(fun h0=>famb h0),(fR0),(fun h0=>f13 h0),(fun h0=>Z15),(fun h0=>f14 h0),(fun h=>absurd ((show AllT b [2,1] from hcl 3 _ rfl h).1) (by rw [hbk];decide)),(fun h=>absurd ((show AllT b [2,1] from hcl 3 _ rfl ((show AllT b [1,3,0,1] from hcl 4 _ rfl h).2.1)).1) (by rw [hbk];decide)),(fun h _=>absurd ((show AllT b [2,1] from hcl 3 _ rfl ((show AllT b [1,3,0,1] from hcl 4 _ rfl h).2.1)).1) (by rw [hbk];decide)),(fun h=>absurd ((show AllT b [3,4,0,1,2,3,4] from hcl 5 _ rfl h).2.2.2.2.1) (by rw [hbk];decide))⟩
    refine EachFrom.cons (k:=3) rfl rfl (ds:=[2,1]) (by kernel_rfl) (fun v x=>(v.1,v.2.1,v.2.2.1,x)) (fun v x=>by rfl) (fun b v wz hb0 hcl hbk hdep hI Kc hK=>?_) ?_
    ·skip
     rw [hInv] at hI
     obtain ⟨x13,x14,x15,x16⟩:=v
     dsimp only at hI hK ⊢
     (try simp only [Act.put] at hK);(try simp only [tA] at hK);(try simp only [cS] at hK);(try simp only [cZ] at hK)
     obtain ⟨fn,famb,fR0,f13,f15,f14,f16,fq4,fr5,fr6⟩:=hI
     obtain ⟨d2,d1,-⟩:=hdep
     (try simp only [gA]);(try simp only [gS]);(try simp only [gZ])
     go_simp
     (go_at_call 62;refine (neg_t _ d L _ (f15 d2) (by omega)).mono ?_;rintro e w1 ⟨⟨g16,A16,n16,c16,rfl,hz⟩,hb⟩)
     refine hK.out _ _ trivial ?_
     rw [hInv]
     exact ⟨((fn).trans (hb.mono (fn).size)),(fun h0=>(famb h0).trans (hb.mono (famb h0).size)),((fR0).below hb),(fun h0=>(f13 h0).below hb),(fun h0=>(f15 h0).below hb),(fun h0=>(f14 h0).below hb),(fun h0=>hz),(fun h=>absurd ((show AllT b [1,3,0,1] from hcl 4 _ rfl h).2.1) (by rw [hbk];decide)),(fun h _=>absurd ((show AllT b [1,3,0,1] from hcl 4 _ rfl h).2.1) (by rw [hbk];decide)),(fun h=>absurd ((show AllT b [3,4,0,1,2,3,4] from hcl 5 _ rfl h).1) (by rw [hbk];decide))⟩
    refine EachFrom.cons (k:=4) rfl rfl (ds:=[1,3,0,1]) (by kernel_rfl) (fun v _=>v) (fun v x=>by rfl) (fun b v wz hb0 hcl hbk hdep hI Kc hK=>?_) ?_
    ·skip
     rw [hInv] at hI
     obtain ⟨x13,x14,x15,x16⟩:=v
     dsimp only at hI hK ⊢
     (try simp only [Act.put] at hK);(try simp only [tA] at hK);(try simp only [cS] at hK);(try simp only [cZ] at hK)
     obtain ⟨fn,famb,fR0,f13,f15,f14,f16,fq4,fr5,fr6⟩:=hI
     obtain ⟨d1,d3,d0,-,-⟩:=hdep
     (try simp only [gA]);(try simp only [gS]);(try simp only [gZ])
     have hA:=famb hbk
     have FB:=I4.out.below hA
     obtain ⟨g14,A14,n14,c14,rfl⟩:=(f14 d1).form
     obtain ⟨g,A,n,c,Fq,-⟩:=id FB
     obtain ⟨c0,c1,c2,c3,c4⟩:=Fq
     go_simp
     refine hK.out (undef) _ trivial ?_
     rw [hInv]
     exact ⟨(((fn).setCell (p:=⟨w.heap.size,0,none⟩) (by show w.heap.size <= w.heap.size;omega) _).setCell (p:=⟨w.heap.size,1,none⟩) (by show w.heap.size <= w.heap.size;omega) _),(fun h=>absurd (show true = false from h) (by decide)),((fR0).other FB (by omega) _ _),(fun h0=>(f13 h0).at FB _ _),(fun h0=>(f15 h0).at FB _ _),(fun h0=>(f14 h0).at FB _ _),(fun h0=>(f16 h0).at FB _ _),(fun h0=>(FB.store (f14 d1))),(fun h0 h1=>((I5.out.below hA).other FB (by omega) _ _)),(fun h=>absurd ((show AllT b [3,4,0,1,2,3,4] from hcl 5 _ rfl h).2.1) (by rw [hbk];decide))⟩
    refine EachFrom.cons (k:=5) rfl rfl (ds:=[3,4,0,1,2,3,4]) (by kernel_rfl) (fun v _=>v) (fun v x=>by rfl) (fun b v wz hb0 hcl hbk hdep hI Kc hK=>?_) ?_
    ·skip
     rw [hInv] at hI
     obtain ⟨x13,x14,x15,x16⟩:=v
     dsimp only at hI hK ⊢
     (try simp only [Act.put] at hK);(try simp only [tA] at hK);(try simp only [cS] at hK);(try simp only [cZ] at hK)
     obtain ⟨fn,famb,fR0,f13,f15,f14,f16,fq4,fr5,fr6⟩:=hI
     obtain ⟨d3,d4,d0,d1,d2,-,-,-⟩:=hdep
     (try simp only [gA]);(try simp only [gS]);(try simp only [gZ])
     have FB:=fr5 d4 hbk
     obtain ⟨g16,A16,n16,c16,rfl⟩:=(f16 d3).form
     obtain ⟨g,A,n,c,Fq,-⟩:=id FB
     obtain ⟨c0,c1,c2,c3,c4⟩:=Fq
     go_simp
     refine hK.out (undef) _ trivial ?_
     rw [hInv]
     exact ⟨(((fn).setCell (p:=⟨w.heap.size + 1,0,none⟩) (by show w.heap.size <= w.heap.size + 1;omega) _).setCell (p:=⟨w.heap.size + 1,1,none⟩) (by show w.heap.size <= w.heap.size + 1;omega) _),(fun h=>absurd (show b 4 = false from h) (by rw [d4];decide)),((fR0).other FB (by omega) _ _),(fun h0=>(f13 h0).at FB _ _),(fun h0=>(f15 h0).at FB _ _),(fun h0=>(f14 h0).at FB _ _),(fun h0=>(f16 h0).at FB _ _),(fun h0=>(fq4 h0).other FB (by omega) _ _),(fun _ h=>absurd (show true = false from h) (by decide)),(fun h0=>(FB.store (f16 d3)))⟩
    exact EachFrom.nil (by kernel_rfl)
   ·intro v wE hI
    rw [hInv] at hI
    obtain ⟨x13,x14,x15,x16⟩:=v
    dsimp only at hI ⊢
    obtain ⟨fn,famb,fR0,f13,f15,f14,f16,fq4,fr5,fr6⟩:=hI
    clear famb
    replace f13:=f13 rfl
    replace f15:=f15 rfl
    replace f14:=f14 rfl
    replace f16:=f16 rfl
    replace fq4:=fq4 rfl
    clear fr5
    replace fr6:=fr6 rfl
    clear hInv hB
    rw [e1] at fq4
    rw [e2] at fr6
    have HQ4:=Hd fq4
    have HR6:=Hd fr6
    have HR0:=Hd fR0
    have HFN:=Hd fn
    clear fq4 fr6 fR0 fn f13 f14 f15 f16 e1 e2
    go_wp2_with fail
    go_meet
    exact ⟨HQ4.out,HR6.out,HR0.out,HFN.out⟩
  | false=>
   have hd0:¬ d < 0:=of_decide_eq_false ((cmp_lt0 d).symm.trans htb)
   have e1:upN n d = n:=if_neg hd0
   have e2:upN d d = d:=if_neg hd0
   have HE:=Hd (And.intro e1 e2)
   clear hd0 e1 e2 htb
   go_wp2_with fail
   go_meet
   exact ⟨by rw [HE.out.1];exact I4.out,by rw [HE.out.2];exact I5.out,I6.out,hw⟩
 case rest=>
  clear B4 B5 BR X Y hw
  obtain ⟨i4,i5,i6,hw⟩:=hcut
  obtain ⟨w2,rfl⟩ : ∃ w2,w2 = wc:=⟨wc,rfl⟩
  obtain ⟨NN,hNN⟩ : ∃ NN,upN n d = NN:=⟨_,rfl⟩
  obtain ⟨DD,hDD⟩ : ∃ DD,upN d d = DD:=⟨_,rfl⟩
  have hdp:0 < DD:=by rw [<- hDD];exact up_pos HD0.out
  rw [hNN] at i4
  rw [hDD] at i5
  have HDP:=Hd hdp
  have HNN:=Hd (And.intro hNN hDD)
  clear hNN hDD hdp
  obtain ⟨g4,A4,n4,o4,f4,v4⟩:=i4
  obtain ⟨g5,A5,n5,o5,f5,v5⟩:=i5
  obtain ⟨g6,A6,n6,o6,f6,v6⟩:=i6
  have B4:=Hd f4
  have B5:=Hd f5
  have BR:=Hd f6
  have X:=Hd v4
  have Y:=Hd v5
  clear f4 f5 f6 v4 v5 v6
  go_upto_region 3 with fail
  obtain ⟨c40,c41,f40,f41,s4⟩:=B4.out
  obtain ⟨c50,c51,f50,f51,s5⟩:=B5.out
  go_wp2_with fail
  refine (floor_any _ _ NN DD L _ X.out Y.out (by omega) hL2 HDP.out).mono ?_
  rintro e w3 ⟨⟨g7,A7,n7,o7,g8,A8,n8,o8,rfl,hq,hr⟩,hb⟩
  clear c40 c41 f40 f41 s4
  clear c50 c51 f50 f51 s5
  replace B4:=Hd (B4.out.below hb)
  replace B5:=Hd (B5.out.below hb)
  replace BR:=Hd (BR.out.below hb)
  replace X:=Hd (X.out.below hb)
  replace Y:=Hd (Y.out.below hb)
  replace hw:=hw.trans (hb.mono hw.size)
  clear hb
  have HK7:=Hd (show w.heap.size + 1 + 1 < w3.heap.size from BR.out.2.2.2.2)
  have hX:=below_two w3 (.cells #[.bool g7,.slice A7 n7 o7] 31) (.cells #[.bool g8,.slice A8 n8 o8] 31)
  replace B4:=Hd (B4.out.below hX)
  replace B5:=Hd (B5.out.below hX)
  replace BR:=Hd (BR.out.below hX)
  replace X:=Hd (X.out.below hX)
  replace Y:=Hd (Y.out.below hX)
  replace hw:=hw.trans (hX.mono hw.size)
  have B7:=Hd (Fx.newA w3 (.bool g7) (.slice A7 n7 o7) 31 (.cells #[.bool g8,.slice A8 n8 o8] 31))
  have B8:=Hd (Fx.newB w3 (.bool g8) (.slice A8 n8 o8) 31 #[.bool g7,.slice A7 n7 o7] 31)
  have V7:=Hd (hq.below hX)
  have V8:=Hd (hr.below hX)
  clear hX hq hr
  go_upto_region 4 with fail
  generalize (w3.alloc (.cells #[.bool g7,.slice A7 n7 o7] 31)).alloc (.cells #[.bool g8,.slice A8 n8 o8] 31) = W3 at *
  generalize w3.heap.size = k7 at *
  obtain ⟨QQ,hQQ⟩ : ∃ QQ,NN / DD = QQ:=⟨_,rfl⟩
  obtain ⟨MM,hMM⟩ : ∃ MM,NN % DD = MM:=⟨_,rfl⟩
  rw [hQQ] at V7
  rw [hMM] at V8
  have HR:=Hd (show rdI way (upN n d) (upN d d) = if MM = 0 then QQ else if goesUp way QQ (cmpI (MM + MM) DD) = true then QQ + 1 else QQ from by rw [HNN.out.1,HNN.out.2];unfold rdI;rw [hQQ,hMM])
  clear hQQ hMM HNN
  obtain ⟨c80,c81,f80,f81,s8⟩:=B8.out
  go_wp2_with fail
  refine (sign_int _ MM (L + 3) _ V8.out).mono ?_
  rintro e w4 ⟨rfl,hb⟩
  clear c80 c81 f80 f81 s8
  replace B4:=Hd (B4.out.below hb)
  replace B5:=Hd (B5.out.below hb)
  replace BR:=Hd (BR.out.below hb)
  replace B7:=Hd (B7.out.below hb)
  replace B8:=Hd (B8.out.below hb)
  replace X:=Hd (X.out.below hb)
  replace Y:=Hd (Y.out.below hb)
  replace V7:=Hd (V7.out.below hb)
  replace V8:=Hd (V8.out.below hb)
  replace hw:=hw.trans (hb.mono hw.size)
  clear hb
  by_cases hm:MM = 0
  ·skip
   have hcm:cmpI MM 0 = 0:=cmpI_eq hm
   rw [hcm]
   have HE:=Hd (HR.out.trans (if_pos hm))
   clear hcm hm
   go_upto_region 5 with fail
   obtain ⟨c70,c71,f70,f71,s7⟩:=B7.out
   obtain ⟨r0,r1,r2,r3,r4⟩:=BR.out
   go_wp2
   exact bodyPost_ret (v:=.agg #[.bool g7,.slice A7 n7 o7]) (by simp [results,Tryz.results100,go_sem,r0,r1]) rfl ⟨⟨_,_,_,_,rfl,by rw [HE.out];exact (V7.out.mono (by omega)).fx BR.out _ _⟩,((hw.setCell (p:=⟨w.heap.size + 1 + 1,0,none⟩) (by show w.heap.size <= w.heap.size + 1 + 1;omega) _).setCell (p:=⟨w.heap.size + 1 + 1,1,none⟩) (by show w.heap.size <= w.heap.size + 1 + 1;omega) _)⟩
  ·skip
   have hcm:(cmpI MM 0 == 0) = false:=cmp_ne hm
   have HRN:=Hd (HR.out.trans (if_neg hm))
   clear hm HR
   go_upto_region 6 with fail
   clear hcm
   obtain ⟨w5,hw5⟩ : ∃ w5,w4 = w5:=⟨_,rfl⟩
   subst hw5
   have hX:=below_alloc w4 (.cells #[.func (.func 140) #[] #[],.func (.func 141) #[] #[],.func (.func 142) #[] #[],.func (.func 143) #[] #[]] 173)
   replace B4:=Hd (B4.out.below hX)
   replace B5:=Hd (B5.out.below hX)
   replace BR:=Hd (BR.out.below hX)
   replace B7:=Hd (B7.out.below hX)
   replace B8:=Hd (B8.out.below hX)
   replace X:=Hd (X.out.below hX)
   replace Y:=Hd (Y.out.below hX)
   replace V7:=Hd (V7.out.below hX)
   replace V8:=Hd (V8.out.below hX)
   replace hw:=hw.trans (hX.mono hw.size)
   have B9:=Hd (Fx4.new w4 (.func (.func 140) #[] #[]) (.func (.func 141) #[] #[]) (.func (.func 142) #[] #[]) (.func (.func 143) #[] #[]) 173)
   skip
   clear hX
   go_upto_region 7 with fail
   generalize w4.alloc (.cells #[.func (.func 140) #[] #[],.func (.func 141) #[] #[],.func (.func 142) #[] #[],.func (.func 143) #[] #[]] 173) = W9 at *
   generalize w4.heap.size = k9 at *
   go_cut [37] (fun va wx=>va = .bool (goesUp way QQ (cmpI (MM + MM) DD)) /\ Below W9.heap.size W9 wx)
   case first=>
    rcases (show way = 0 \/ way = 1 \/ way = 2 \/ way = 3 by have:=HW.out;omega) with rfl | rfl | rfl | rfl
    ·skip
     have HT:=Hd (fun (w':World) (hb:Below W9.heap.size W9 w')=>(show w'.cell? ⟨(w.heap.size + 1),0,none⟩ = some (.bool g5) /\ w'.cell? ⟨(w.heap.size + 1),1,none⟩ = some (.slice A5 n5 o5) /\ w'.cell? ⟨k7,0,none⟩ = some (.bool g7) /\ w'.cell? ⟨k7,1,none⟩ = some (.slice A7 n7 o7) /\ w'.cell? ⟨(k7 + 1),0,none⟩ = some (.bool g8) /\ w'.cell? ⟨(k7 + 1),1,none⟩ = some (.slice A8 n8 o8) /\ w'.cell? ⟨k9,0,none⟩ = some (.func (.func 140) #[] #[]) /\ w'.cell? ⟨k9,1,none⟩ = some (.func (.func 141) #[] #[]) /\ w'.cell? ⟨k9,2,none⟩ = some (.func (.func 142) #[] #[]) /\ w'.cell? ⟨k9,3,none⟩ = some (.func (.func 143) #[] #[]) from ⟨(B5.out.below hb).1,(B5.out.below hb).2.1,(B7.out.below hb).1,(B7.out.below hb).2.1,(B8.out.below hb).1,(B8.out.below hb).2.1,(B9.out.below hb).c0,(B9.out.below hb).c1,(B9.out.below hb).c2,(B9.out.below hb).c3⟩))
     have hB:=(Below.refl W9.heap.size W9).drew
     replace X:=Hd (X.out.below hB)
     replace Y:=Hd (Y.out.below hB)
     replace V7:=Hd (V7.out.below hB)
     replace V8:=Hd (V8.out.below hB)
     refine wp_region_held_drew (S:=fun w'=>w'.cell? ⟨(w.heap.size + 1),0,none⟩ = some (.bool g5) /\ w'.cell? ⟨(w.heap.size + 1),1,none⟩ = some (.slice A5 n5 o5) /\ w'.cell? ⟨k7,0,none⟩ = some (.bool g7) /\ w'.cell? ⟨k7,1,none⟩ = some (.slice A7 n7 o7) /\ w'.cell? ⟨(k7 + 1),0,none⟩ = some (.bool g8) /\ w'.cell? ⟨(k7 + 1),1,none⟩ = some (.slice A8 n8 o8) /\ w'.cell? ⟨k9,0,none⟩ = some (.func (.func 140) #[] #[]) /\ w'.cell? ⟨k9,1,none⟩ = some (.func (.func 141) #[] #[]) /\ w'.cell? ⟨k9,2,none⟩ = some (.func (.func 142) #[] #[]) /\ w'.cell? ⟨k9,3,none⟩ = some (.func (.func 143) #[] #[])) (by kernel_rfl) (HT.out _ hB) (fun hH=>?_)
     clear hH
     generalize W9.drew = wr0 at *
     refine tk 0 28 (by first | assumption | exact HT.out _ hB) ?_
     try simp only [Act.put,tA,cZ,cS]
     refine tk 3 31 (by first | assumption | exact HT.out _ hB) ?_
     try simp only [Act.put,tA,cZ,cS]
     refine tk 4 32 (by first | assumption | exact HT.out _ hB) ?_
     try simp only [Act.put,tA,cZ,cS]
     refine tk 5 33 (by first | assumption | exact HT.out _ hB) ?_
     try simp only [Act.put,tA,cZ,cS]
     refine tk 7 35 (by first | assumption | exact HT.out _ hB) ?_
     try simp only [Act.put,tA,cZ,cS]
     refine tk 1 29 (by first | assumption | exact HT.out _ hB) ?_
     try simp only [Act.put,tA,cZ,cS]
     refine tk 2 30 (by first | assumption | exact HT.out _ hB) ?_
     try simp only [Act.put,tA,cZ,cS]
     refine rd 6 (AllReadyH.cons rfl (fun K hK=>?_) AllReadyH.nil)
     (try simp only [gA]);(try simp only [gS]);(try simp only [gZ])
     go_simp
     (go_at_call 99;refine (add_t _ _ MM MM (L + 3) (L + 3) _ V8.out V8.out (by omega) (by omega)).mono ?_;rintro e wc34 ⟨⟨gs,As,ns,cs,rfl,hz⟩,hb⟩)
     replace X:=Hd (X.out.below hb)
     replace Y:=Hd (Y.out.below hb)
     replace V7:=Hd (V7.out.below hb)
     replace V8:=Hd (V8.out.below hb)
     replace hB:=Below.trans hB (hb.mono hB.size)
     have T1:=Hd hz
     refine hK.out _ _ (HT.out _ hB) (fun hH=>?_)
     clear hK K hH
     try simp only [Act.put,tA,cZ,cS]
     clear hb hz
     refine rd 8 (AllReadyH.cons rfl (fun K hK=>?_) AllReadyH.nil)
     (try simp only [gA]);(try simp only [gS]);(try simp only [gZ])
     go_simp
     (go_at_call 63;refine (cmp_int _ _ (MM + MM) DD (L + 4) L _ (T1.out.mono (by omega)) Y.out (by omega) (by omega)).mono ?_;rintro e wc36 ⟨rfl,hb⟩)
     replace X:=Hd (X.out.below hb)
     replace Y:=Hd (Y.out.below hb)
     replace V7:=Hd (V7.out.below hb)
     replace V8:=Hd (V8.out.below hb)
     replace T1:=Hd (T1.out.below hb)
     replace hB:=Below.trans hB (hb.mono hB.size)
     clear T1
     refine hK.out _ _ (HT.out _ hB) (fun hH=>?_)
     clear hK K hH
     try simp only [Act.put,tA,cZ,cS]
     clear hb
     refine rd 9 (AllReadyH.cons rfl (fun K hK=>?_) AllReadyH.nil)
     (try simp only [gA]);(try simp only [gS]);(try simp only [gZ])
     go_simp
     (go_at_call 140;refine (goes0 QQ (cmpI (MM + MM) DD) _ (L + 3) _ V7.out).mono ?_;rintro e wc37 ⟨rfl,hb⟩)
     replace X:=Hd (X.out.below hb)
     replace Y:=Hd (Y.out.below hb)
     replace V7:=Hd (V7.out.below hb)
     replace V8:=Hd (V8.out.below hb)
     replace hB:=Below.trans hB (hb.mono hB.size)
     refine hK.out _ _ (HT.out _ hB) (fun hH=>?_)
     clear hK K hH
     try simp only [Act.put,tA,cZ,cS]
     clear hb
     refine wpAnyH_done (by kernel_rfl) ?_ _
     go_wp2_with fail
     go_meet
     exact ⟨rfl,hB⟩
    ·skip
     have HT:=Hd (fun (w':World) (hb:Below W9.heap.size W9 w')=>(show w'.cell? ⟨(w.heap.size + 1),0,none⟩ = some (.bool g5) /\ w'.cell? ⟨(w.heap.size + 1),1,none⟩ = some (.slice A5 n5 o5) /\ w'.cell? ⟨k7,0,none⟩ = some (.bool g7) /\ w'.cell? ⟨k7,1,none⟩ = some (.slice A7 n7 o7) /\ w'.cell? ⟨(k7 + 1),0,none⟩ = some (.bool g8) /\ w'.cell? ⟨(k7 + 1),1,none⟩ = some (.slice A8 n8 o8) /\ w'.cell? ⟨k9,0,none⟩ = some (.func (.func 140) #[] #[]) /\ w'.cell? ⟨k9,1,none⟩ = some (.func (.func 141) #[] #[]) /\ w'.cell? ⟨k9,2,none⟩ = some (.func (.func 142) #[] #[]) /\ w'.cell? ⟨k9,3,none⟩ = some (.func (.func 143) #[] #[]) from ⟨(B5.out.below hb).1,(B5.out.below hb).2.1,(B7.out.below hb).1,(B7.out.below hb).2.1,(B8.out.below hb).1,(B8.out.below hb).2.1,(B9.out.below hb).c0,(B9.out.below hb).c1,(B9.out.below hb).c2,(B9.out.below hb).c3⟩))
     have hB:=(Below.refl W9.heap.size W9).drew
     replace X:=Hd (X.out.below hB)
     replace Y:=Hd (Y.out.below hB)
     replace V7:=Hd (V7.out.below hB)
     replace V8:=Hd (V8.out.below hB)
     refine wp_region_held_drew (S:=fun w'=>w'.cell? ⟨(w.heap.size + 1),0,none⟩ = some (.bool g5) /\ w'.cell? ⟨(w.heap.size + 1),1,none⟩ = some (.slice A5 n5 o5) /\ w'.cell? ⟨k7,0,none⟩ = some (.bool g7) /\ w'.cell? ⟨k7,1,none⟩ = some (.slice A7 n7 o7) /\ w'.cell? ⟨(k7 + 1),0,none⟩ = some (.bool g8) /\ w'.cell? ⟨(k7 + 1),1,none⟩ = some (.slice A8 n8 o8) /\ w'.cell? ⟨k9,0,none⟩ = some (.func (.func 140) #[] #[]) /\ w'.cell? ⟨k9,1,none⟩ = some (.func (.func 141) #[] #[]) /\ w'.cell? ⟨k9,2,none⟩ = some (.func (.func 142) #[] #[]) /\ w'.cell? ⟨k9,3,none⟩ = some (.func (.func 143) #[] #[])) (by kernel_rfl) (HT.out _ hB) (fun hH=>?_)
     clear hH
     generalize W9.drew = wr0 at *
     refine tk 0 28 (by first | assumption | exact HT.out _ hB) ?_
     try simp only [Act.put,tA,cZ,cS]
     refine tk 3 31 (by first | assumption | exact HT.out _ hB) ?_
     try simp only [Act.put,tA,cZ,cS]
     refine tk 4 32 (by first | assumption | exact HT.out _ hB) ?_
     try simp only [Act.put,tA,cZ,cS]
     refine tk 5 33 (by first | assumption | exact HT.out _ hB) ?_
     try simp only [Act.put,tA,cZ,cS]
     refine tk 7 35 (by first | assumption | exact HT.out _ hB) ?_
     try simp only [Act.put,tA,cZ,cS]
     refine tk 1 29 (by first | assumption | exact HT.out _ hB) ?_
     try simp only [Act.put,tA,cZ,cS]
     refine tk 2 30 (by first | assumption | exact HT.out _ hB) ?_
     try simp only [Act.put,tA,cZ,cS]
     refine rd 6 (AllReadyH.cons rfl (fun K hK=>?_) AllReadyH.nil)
     (try simp only [gA]);(try simp only [gS]);(try simp only [gZ])
     go_simp
     (go_at_call 99;refine (add_t _ _ MM MM (L + 3) (L + 3) _ V8.out V8.out (by omega) (by omega)).mono ?_;rintro e wc34 ⟨⟨gs,As,ns,cs,rfl,hz⟩,hb⟩)
     replace X:=Hd (X.out.below hb)
     replace Y:=Hd (Y.out.below hb)
     replace V7:=Hd (V7.out.below hb)
     replace V8:=Hd (V8.out.below hb)
     replace hB:=Below.trans hB (hb.mono hB.size)
     have T1:=Hd hz
     refine hK.out _ _ (HT.out _ hB) (fun hH=>?_)
     clear hK K hH
     try simp only [Act.put,tA,cZ,cS]
     clear hb hz
     refine rd 8 (AllReadyH.cons rfl (fun K hK=>?_) AllReadyH.nil)
     (try simp only [gA]);(try simp only [gS]);(try simp only [gZ])
     go_simp
     (go_at_call 63;refine (cmp_int _ _ (MM + MM) DD (L + 4) L _ (T1.out.mono (by omega)) Y.out (by omega) (by omega)).mono ?_;rintro e wc36 ⟨rfl,hb⟩)
     replace X:=Hd (X.out.below hb)
     replace Y:=Hd (Y.out.below hb)
     replace V7:=Hd (V7.out.below hb)
     replace V8:=Hd (V8.out.below hb)
     replace T1:=Hd (T1.out.below hb)
     replace hB:=Below.trans hB (hb.mono hB.size)
     clear T1
     refine hK.out _ _ (HT.out _ hB) (fun hH=>?_)
     clear hK K hH
     try simp only [Act.put,tA,cZ,cS]
     clear hb
     refine rd 9 (AllReadyH.cons rfl (fun K hK=>?_) AllReadyH.nil)
     (try simp only [gA]);(try simp only [gS]);(try simp only [gZ])
     go_simp
     (go_at_call 141;refine (goes1 QQ (cmpI (MM + MM) DD) _ (L + 3) _ V7.out).mono ?_;rintro e wc37 ⟨rfl,hb⟩)
     replace X:=Hd (X.out.below hb)
     replace Y:=Hd (Y.out.below hb)
     replace V7:=Hd (V7.out.below hb)
     replace V8:=Hd (V8.out.below hb)
     replace hB:=Below.trans hB (hb.mono hB.size)
     refine hK.out _ _ (HT.out _ hB) (fun hH=>?_)
     clear hK K hH
     try simp only [Act.put,tA,cZ,cS]
     clear hb
     refine wpAnyH_done (by kernel_rfl) ?_ _
     go_wp2_with fail
     go_meet
     exact ⟨rfl,hB⟩
    ·skip
     have HT:=Hd (fun (w':World) (hb:Below W9.heap.size W9 w')=>(show w'.cell? ⟨(w.heap.size + 1),0,none⟩ = some (.bool g5) /\ w'.cell? ⟨(w.heap.size + 1),1,none⟩ = some (.slice A5 n5 o5) /\ w'.cell? ⟨k7,0,none⟩ = some (.bool g7) /\ w'.cell? ⟨k7,1,none⟩ = some (.slice A7 n7 o7) /\ w'.cell? ⟨(k7 + 1),0,none⟩ = some (.bool g8) /\ w'.cell? ⟨(k7 + 1),1,none⟩ = some (.slice A8 n8 o8) /\ w'.cell? ⟨k9,0,none⟩ = some (.func (.func 140) #[] #[]) /\ w'.cell? ⟨k9,1,none⟩ = some (.func (.func 141) #[] #[]) /\ w'.cell? ⟨k9,2,none⟩ = some (.func (.func 142) #[] #[]) /\ w'.cell? ⟨k9,3,none⟩ = some (.func (.func 143) #[] #[]) from ⟨(B5.out.below hb).1,(B5.out.below hb).2.1,(B7.out.below hb).1,(B7.out.below hb).2.1,(B8.out.below hb).1,(B8.out.below hb).2.1,(B9.out.below hb).c0,(B9.out.below hb).c1,(B9.out.below hb).c2,(B9.out.below hb).c3⟩))
     have hB:=(Below.refl W9.heap.size W9).drew
     replace X:=Hd (X.out.below hB)
     replace Y:=Hd (Y.out.below hB)
     replace V7:=Hd (V7.out.below hB)
     replace V8:=Hd (V8.out.below hB)
     refine wp_region_held_drew (S:=fun w'=>w'.cell? ⟨(w.heap.size + 1),0,none⟩ = some (.bool g5) /\ w'.cell? ⟨(w.heap.size + 1),1,none⟩ = some (.slice A5 n5 o5) /\ w'.cell? ⟨k7,0,none⟩ = some (.bool g7) /\ w'.cell? ⟨k7,1,none⟩ = some (.slice A7 n7 o7) /\ w'.cell? ⟨(k7 + 1),0,none⟩ = some (.bool g8) /\ w'.cell? ⟨(k7 + 1),1,none⟩ = some (.slice A8 n8 o8) /\ w'.cell? ⟨k9,0,none⟩ = some (.func (.func 140) #[] #[]) /\ w'.cell? ⟨k9,1,none⟩ = some (.func (.func 141) #[] #[]) /\ w'.cell? ⟨k9,2,none⟩ = some (.func (.func 142) #[] #[]) /\ w'.cell? ⟨k9,3,none⟩ = some (.func (.func 143) #[] #[])) (by kernel_rfl) (HT.out _ hB) (fun hH=>?_)
     clear hH
     generalize W9.drew = wr0 at *
     refine tk 0 28 (by first | assumption | exact HT.out _ hB) ?_
     try simp only [Act.put,tA,cZ,cS]
     refine tk 3 31 (by first | assumption | exact HT.out _ hB) ?_
     try simp only [Act.put,tA,cZ,cS]
     refine tk 4 32 (by first | assumption | exact HT.out _ hB) ?_
     try simp only [Act.put,tA,cZ,cS]
     refine tk 5 33 (by first | assumption | exact HT.out _ hB) ?_
     try simp only [Act.put,tA,cZ,cS]
     refine tk 7 35 (by first | assumption | exact HT.out _ hB) ?_
     try simp only [Act.put,tA,cZ,cS]
     refine tk 1 29 (by first | assumption | exact HT.out _ hB) ?_
     try simp only [Act.put,tA,cZ,cS]
     refine tk 2 30 (by first | assumption | exact HT.out _ hB) ?_
     try simp only [Act.put,tA,cZ,cS]
     refine rd 6 (AllReadyH.cons rfl (fun K hK=>?_) AllReadyH.nil)
     (try simp only [gA]);(try simp only [gS]);(try simp only [gZ])
     go_simp
     (go_at_call 99;refine (add_t _ _ MM MM (L + 3) (L + 3) _ V8.out V8.out (by omega) (by omega)).mono ?_;rintro e wc34 ⟨⟨gs,As,ns,cs,rfl,hz⟩,hb⟩)
     replace X:=Hd (X.out.below hb)
     replace Y:=Hd (Y.out.below hb)
     replace V7:=Hd (V7.out.below hb)
     replace V8:=Hd (V8.out.below hb)
     replace hB:=Below.trans hB (hb.mono hB.size)
     have T1:=Hd hz
     refine hK.out _ _ (HT.out _ hB) (fun hH=>?_)
     clear hK K hH
     try simp only [Act.put,tA,cZ,cS]
     clear hb hz
     refine rd 8 (AllReadyH.cons rfl (fun K hK=>?_) AllReadyH.nil)
     (try simp only [gA]);(try simp only [gS]);(try simp only [gZ])
     go_simp
     (go_at_call 63;refine (cmp_int _ _ (MM + MM) DD (L + 4) L _ (T1.out.mono (by omega)) Y.out (by omega) (by omega)).mono ?_;rintro e wc36 ⟨rfl,hb⟩)
     replace X:=Hd (X.out.below hb)
     replace Y:=Hd (Y.out.below hb)
     replace V7:=Hd (V7.out.below hb)
     replace V8:=Hd (V8.out.below hb)
     replace T1:=Hd (T1.out.below hb)
     replace hB:=Below.trans hB (hb.mono hB.size)
     clear T1
     refine hK.out _ _ (HT.out _ hB) (fun hH=>?_)
     clear hK K hH
     try simp only [Act.put,tA,cZ,cS]
     clear hb
     refine rd 9 (AllReadyH.cons rfl (fun K hK=>?_) AllReadyH.nil)
     (try simp only [gA]);(try simp only [gS]);(try simp only [gZ])
     go_simp
     (go_at_call 142;refine (goes2 QQ (cmpI (MM + MM) DD) _ (L + 3) _ V7.out).mono ?_;rintro e wc37 ⟨rfl,hb⟩)
     replace X:=Hd (X.out.below hb)
     replace Y:=Hd (Y.out.below hb)
     replace V7:=Hd (V7.out.below hb)
     replace V8:=Hd (V8.out.below hb)
     replace hB:=Below.trans hB (hb.mono hB.size)
     refine hK.out _ _ (HT.out _ hB) (fun hH=>?_)
     clear hK K hH
     try simp only [Act.put,tA,cZ,cS]
     clear hb
     refine wpAnyH_done (by kernel_rfl) ?_ _
     go_wp2_with fail
     go_meet
     exact ⟨rfl,hB⟩
    ·skip
     have HT:=Hd (fun (w':World) (hb:Below W9.heap.size W9 w')=>(show w'.cell? ⟨(w.heap.size + 1),0,none⟩ = some (.bool g5) /\ w'.cell? ⟨(w.heap.size + 1),1,none⟩ = some (.slice A5 n5 o5) /\ w'.cell? ⟨k7,0,none⟩ = some (.bool g7) /\ w'.cell? ⟨k7,1,none⟩ = some (.slice A7 n7 o7) /\ w'.cell? ⟨(k7 + 1),0,none⟩ = some (.bool g8) /\ w'.cell? ⟨(k7 + 1),1,none⟩ = some (.slice A8 n8 o8) /\ w'.cell? ⟨k9,0,none⟩ = some (.func (.func 140) #[] #[]) /\ w'.cell? ⟨k9,1,none⟩ = some (.func (.func 141) #[] #[]) /\ w'.cell? ⟨k9,2,none⟩ = some (.func (.func 142) #[] #[]) /\ w'.cell? ⟨k9,3,none⟩ = some (.func (.func 143) #[] #[]) from ⟨(B5.out.below hb).1,(B5.out.below hb).2.1,(B7.out.below hb).1,(B7.out.below hb).2.1,(B8.out.below hb).1,(B8.out.below hb).2.1,(B9.out.below hb).c0,(B9.out.below hb).c1,(B9.out.below hb).c2,(B9.out.below hb).c3⟩))
     have hB:=(Below.refl W9.heap.size W9).drew
     replace X:=Hd (X.out.below hB)
     replace Y:=Hd (Y.out.below hB)
     replace V7:=Hd (V7.out.below hB)
     replace V8:=Hd (V8.out.below hB)
     refine wp_region_held_drew (S:=fun w'=>w'.cell? ⟨(w.heap.size + 1),0,none⟩ = some (.bool g5) /\ w'.cell? ⟨(w.heap.size + 1),1,none⟩ = some (.slice A5 n5 o5) /\ w'.cell? ⟨k7,0,none⟩ = some (.bool g7) /\ w'.cell? ⟨k7,1,none⟩ = some (.slice A7 n7 o7) /\ w'.cell? ⟨(k7 + 1),0,none⟩ = some (.bool g8) /\ w'.cell? ⟨(k7 + 1),1,none⟩ = some (.slice A8 n8 o8) /\ w'.cell? ⟨k9,0,none⟩ = some (.func (.func 140) #[] #[]) /\ w'.cell? ⟨k9,1,none⟩ = some (.func (.func 141) #[] #[]) /\ w'.cell? ⟨k9,2,none⟩ = some (.func (.func 142) #[] #[]) /\ w'.cell? ⟨k9,3,none⟩ = some (.func (.func 143) #[] #[])) (by kernel_rfl) (HT.out _ hB) (fun hH=>?_)
     clear hH
     generalize W9.drew = wr0 at *
     refine tk 0 28 (by first | assumption | exact HT.out _ hB) ?_
     try simp only [Act.put,tA,cZ,cS]
     refine tk 3 31 (by first | assumption | exact HT.out _ hB) ?_
     try simp only [Act.put,tA,cZ,cS]
     refine tk 4 32 (by first | assumption | exact HT.out _ hB) ?_
     try simp only [Act.put,tA,cZ,cS]
     refine tk 5 33 (by first | assumption | exact HT.out _ hB) ?_
     try simp only [Act.put,tA,cZ,cS]
     refine tk 7 35 (by first | assumption | exact HT.out _ hB) ?_
     try simp only [Act.put,tA,cZ,cS]
     refine tk 1 29 (by first | assumption | exact HT.out _ hB) ?_
     try simp only [Act.put,tA,cZ,cS]
     refine tk 2 30 (by first | assumption | exact HT.out _ hB) ?_
     try simp only [Act.put,tA,cZ,cS]
     refine rd 6 (AllReadyH.cons rfl (fun K hK=>?_) AllReadyH.nil)
     (try simp only [gA]);(try simp only [gS]);(try simp only [gZ])
     go_simp
     (go_at_call 99;refine (add_t _ _ MM MM (L + 3) (L + 3) _ V8.out V8.out (by omega) (by omega)).mono ?_;rintro e wc34 ⟨⟨gs,As,ns,cs,rfl,hz⟩,hb⟩)
     replace X:=Hd (X.out.below hb)
     replace Y:=Hd (Y.out.below hb)
     replace V7:=Hd (V7.out.below hb)
     replace V8:=Hd (V8.out.below hb)
     replace hB:=Below.trans hB (hb.mono hB.size)
     have T1:=Hd hz
     refine hK.out _ _ (HT.out _ hB) (fun hH=>?_)
     clear hK K hH
     try simp only [Act.put,tA,cZ,cS]
     clear hb hz
     refine rd 8 (AllReadyH.cons rfl (fun K hK=>?_) AllReadyH.nil)
     (try simp only [gA]);(try simp only [gS]);(try simp only [gZ])
     go_simp
     (go_at_call 63;refine (cmp_int _ _ (MM + MM) DD (L + 4) L _ (T1.out.mono (by omega)) Y.out (by omega) (by omega)).mono ?_;rintro e wc36 ⟨rfl,hb⟩)
     replace X:=Hd (X.out.below hb)
     replace Y:=Hd (Y.out.below hb)
     replace V7:=Hd (V7.out.below hb)
     replace V8:=Hd (V8.out.below hb)
     replace T1:=Hd (T1.out.below hb)
     replace hB:=Below.trans hB (hb.mono hB.size)
     clear T1
     refine hK.out _ _ (HT.out _ hB) (fun hH=>?_)
     clear hK K hH
     try simp only [Act.put,tA,cZ,cS]
     clear hb
     refine rd 9 (AllReadyH.cons rfl (fun K hK=>?_) AllReadyH.nil)
     (try simp only [gA]);(try simp only [gS]);(try simp only [gZ])
     go_simp
     (go_at_call 143;refine (goes3 QQ (cmpI (MM + MM) DD) _ (L + 3) _ V7.out (by omega)).mono ?_;rintro e wc37 ⟨rfl,hb⟩)
     replace X:=Hd (X.out.below hb)
     replace Y:=Hd (Y.out.below hb)
     replace V7:=Hd (V7.out.below hb)
     replace V8:=Hd (V8.out.below hb)
     replace hB:=Below.trans hB (hb.mono hB.size)
     refine hK.out _ _ (HT.out _ hB) (fun hH=>?_)
     clear hK K hH
     try simp only [Act.put,tA,cZ,cS]
     clear hb
     refine wpAnyH_done (by kernel_rfl) ?_ _
     go_wp2_with fail
     go_meet
     exact ⟨rfl,hB⟩
   case rest=>
    obtain ⟨rfl,hb⟩:=hcut
    obtain ⟨w6,rfl⟩ : ∃ w6,w6 = wc:=⟨wc,rfl⟩
    replace B4:=Hd (B4.out.below hb)
    replace B5:=Hd (B5.out.below hb)
    replace BR:=Hd (BR.out.below hb)
    replace B7:=Hd (B7.out.below hb)
    replace B8:=Hd (B8.out.below hb)
    replace B9:=Hd (B9.out.below hb)
    replace X:=Hd (X.out.below hb)
    replace Y:=Hd (Y.out.below hb)
    replace V7:=Hd (V7.out.below hb)
    replace V8:=Hd (V8.out.below hb)
    replace hw:=hw.trans (hb.mono hw.size)
    clear hb
    cases hu:goesUp way QQ (cmpI (MM + MM) DD) with
    | false=>
     have HU:=Hd (show rdI way (upN n d) (upN d d) = QQ from by rw [HRN.out,hu];rfl)
     clear hu
     go_upto_region 9 with fail
     obtain ⟨c70,c71,f70,f71,s7⟩:=B7.out
     obtain ⟨r0,r1,r2,r3,r4⟩:=BR.out
     go_wp2
     exact bodyPost_ret (v:=.agg #[.bool g7,.slice A7 n7 o7]) (by simp [results,Tryz.results100,go_sem,r0,r1]) rfl ⟨⟨_,_,_,_,rfl,by rw [HU.out];exact (V7.out.mono (by omega)).fx BR.out _ _⟩,((hw.setCell (p:=⟨w.heap.size + 1 + 1,0,none⟩) (by show w.heap.size <= w.heap.size + 1 + 1;omega) _).setCell (p:=⟨w.heap.size + 1 + 1,1,none⟩) (by show w.heap.size <= w.heap.size + 1 + 1;omega) _)⟩
    | true=>
     have HU:=Hd (show rdI way (upN n d) (upN d d) = QQ + 1 from by rw [HRN.out,hu];rfl)
     clear hu
     go_upto_region 8 with fail
     have HT:=Hd (fun (w':World) (hb:Below w6.heap.size w6 w')=>(show w'.cell? ⟨k7,0,none⟩ = some (.bool g7) /\ w'.cell? ⟨k7,1,none⟩ = some (.slice A7 n7 o7) from ⟨(B7.out.below hb).1,(B7.out.below hb).2.1⟩))
     have HP:=Hd (fun (w':World) (x0 x1:Value) (h:w'.cell? ⟨k7,0,none⟩ = some (.bool g7) /\ w'.cell? ⟨k7,1,none⟩ = some (.slice A7 n7 o7))=>(show (fun w'=>w'.cell? ⟨k7,0,none⟩ = some (.bool g7) /\ w'.cell? ⟨k7,1,none⟩ = some (.slice A7 n7 o7)) (put2 w' (w.heap.size + 1 + 1) x0 x1) from ⟨(cell_put2 (by have:=HK7.out;omega) _ _).trans h.1,(cell_put2 (by have:=HK7.out;omega) _ _).trans h.2⟩))
     have hB:=(Below.refl w6.heap.size w6).drew
     replace X:=Hd (X.out.below hB)
     replace Y:=Hd (Y.out.below hB)
     replace V7:=Hd (V7.out.below hB)
     replace V8:=Hd (V8.out.below hB)
     refine wp_region_held_drew (S:=fun w'=>w'.cell? ⟨k7,0,none⟩ = some (.bool g7) /\ w'.cell? ⟨k7,1,none⟩ = some (.slice A7 n7 o7)) (by kernel_rfl) (HT.out _ hB) (fun hH=>?_)
     clear hH
     generalize w6.drew = wr0 at *
     refine tk 0 38 (by first | assumption | exact HT.out _ hB) ?_
     try simp only [Act.put,tA,cZ,cS]
     refine rd 1 (AllReadyH.cons rfl (fun K hK=>?_) AllReadyH.nil)
     (try simp only [gA]);(try simp only [gS]);(try simp only [gZ])
     go_simp
     (go_at_call 65;refine (new_q 1 _ (by decide) (by decide)).mono ?_;rintro e wc39 ⟨⟨g1x,A1x,n1x,c1x,rfl,hz⟩,hb⟩)
     replace X:=Hd (X.out.below hb)
     replace Y:=Hd (Y.out.below hb)
     replace V7:=Hd (V7.out.below hb)
     replace V8:=Hd (V8.out.below hb)
     replace hB:=Below.trans hB (hb.mono hB.size)
     have T1:=Hd hz
     refine hK.out _ _ (HT.out _ hB) (fun hH=>?_)
     clear hK K hH
     try simp only [Act.put,tA,cZ,cS]
     clear hb hz
     refine rd 2 (AllReadyH.cons rfl (fun K hK=>?_) AllReadyH.nil)
     (try simp only [gA]);(try simp only [gS]);(try simp only [gZ])
     go_simp
     (go_at_call 99;refine (add_t _ _ QQ 1 (L + 3) 2 _ V7.out T1.out (by omega) (by omega)).mono ?_;rintro e wc40 ⟨⟨g2x,A2x,n2x,c2x,rfl,hz⟩,hb⟩)
     replace X:=Hd (X.out.below hb)
     replace Y:=Hd (Y.out.below hb)
     replace V7:=Hd (V7.out.below hb)
     replace V8:=Hd (V8.out.below hb)
     replace T1:=Hd (T1.out.below hb)
     replace hB:=Below.trans hB (hb.mono hB.size)
     clear T1
     have T2:=Hd hz
     refine hK.out _ _ (HT.out _ hB) (fun hH=>?_)
     clear hK K hH
     try simp only [Act.put,tA,cZ,cS]
     clear hb hz
     refine rd 3 (AllReadyH.cons rfl (fun K hK=>?_) AllReadyH.nil)
     (try simp only [gA]);(try simp only [gS]);(try simp only [gZ])
     have R4:=BR.out.below hB
     obtain ⟨r0,r1,r2,r3,r4⟩:=id R4
     go_simp
     refine hK.out _ _ (HP.out _ (.bool g2x) (.slice A2x n2x c2x) (HT.out _ hB)) (fun hH=>?_)
     clear hK K
     try simp only [Act.put,tA,cZ,cS]
     refine wpAnyH_done (by kernel_rfl) ?_ _
     go_wp2
     exact bodyPost_ret (v:=.agg #[.bool g2x,.slice A2x n2x c2x]) (by simp [results,Tryz.results100,go_sem,r0,r1]) rfl ⟨⟨_,_,_,_,rfl,by rw [HU.out];exact (T2.out.mono (by omega)).fx R4 _ _⟩,(((hw.trans (hB.mono hw.size)).setCell (p:=⟨w.heap.size + 1 + 1,0,none⟩) (by show w.heap.size <= w.heap.size + 1 + 1;omega) _).setCell (p:=⟨w.heap.size + 1 + 1,1,none⟩) (by show w.heap.size <= w.heap.size + 1 + 1;omega) _)⟩
end Go.Proofs.YtbajnceoolkckaaGreat
