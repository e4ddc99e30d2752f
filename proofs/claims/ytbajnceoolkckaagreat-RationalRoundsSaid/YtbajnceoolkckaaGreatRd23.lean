/- Of the proof of RationalRounds: RatL. -/
import Derived.Test.YtbajnceoolkckaaGreatRd22
open List renaming getElem_toArray → gA, getElem_cons_succ → gS, getElem_cons_zero → gZ, setIfInBounds_toArray → tA, set_cons_zero → cZ, set_cons_succ → cS
open Go.Lib renaming hid → Hd
set_option maxRecDepth 100000
set_option maxHeartbeats 16000000
namespace Go.Proofs.YtbajnceoolkckaaGreat
open Go.RowKit LM
theorem four31 (w:World) (p q:Bool) (A B:Option Addr) (n c m d:Nat) :
  Below w.heap.size w ((((w.alloc (.cells #[.bool p,.slice A n c] 31)).alloc (.cells #[.bool q,.slice B m d] 31)).alloc (.cells #[.bool false,.slice none 0 0] 31)).alloc (.cells #[.bool false,.slice none 0 0] 31)) /\
  Fx ((((w.alloc (.cells #[.bool p,.slice A n c] 31)).alloc (.cells #[.bool q,.slice B m d] 31)).alloc (.cells #[.bool false,.slice none 0 0] 31)).alloc (.cells #[.bool false,.slice none 0 0] 31)) w.heap.size (.bool p) (.slice A n c) /\
  Fx ((((w.alloc (.cells #[.bool p,.slice A n c] 31)).alloc (.cells #[.bool q,.slice B m d] 31)).alloc (.cells #[.bool false,.slice none 0 0] 31)).alloc (.cells #[.bool false,.slice none 0 0] 31)) (w.heap.size + 1) (.bool q) (.slice B m d) /\
  Fx ((((w.alloc (.cells #[.bool p,.slice A n c] 31)).alloc (.cells #[.bool q,.slice B m d] 31)).alloc (.cells #[.bool false,.slice none 0 0] 31)).alloc (.cells #[.bool false,.slice none 0 0] 31)) (w.heap.size + 1 + 1) (.bool false) (.slice none 0 0) /\
  Fx ((((w.alloc (.cells #[.bool p,.slice A n c] 31)).alloc (.cells #[.bool q,.slice B m d] 31)).alloc (.cells #[.bool false,.slice none 0 0] 31)).alloc (.cells #[.bool false,.slice none 0 0] 31)) (w.heap.size + 1 + 1 + 1) (.bool false) (.slice none 0 0) /\
  ((((w.alloc (.cells #[.bool p,.slice A n c] 31)).alloc (.cells #[.bool q,.slice B m d] 31)).alloc (.cells #[.bool false,.slice none 0 0] 31)).alloc (.cells #[.bool false,.slice none 0 0] 31)).heap.size = w.heap.size + 1 + 1 + 1 + 1:=by
 have t:=three w p q A B n c m d
 obtain ⟨W,hW⟩ : ∃ W,(((w.alloc (.cells #[.bool p,.slice A n c] 31)).alloc (.cells #[.bool q,.slice B m d] 31)).alloc (.cells #[.bool false,.slice none 0 0] 31)) = W:=⟨_,rfl⟩
 rw [hW] at t ⊢
 have hX:=below_alloc W (.cells #[.bool false,.slice none 0 0] 31)
 have F:=Fx.new W (.bool false) (.slice none 0 0) 31
 rw [t.size] at F
 exact ⟨t.below.trans (hX.mono t.below.size),t.b0.below hX,t.b1.below hX,t.b2.below hX,F,by simp [t.size]⟩
theorem floor_math {n d:Int} (hd:0 < d) : (n.tmod d < 0 -> n.tdiv d - 1 = n / d /\ n.tmod d + d = n % d) /\ (¬ n.tmod d < 0 -> n.tdiv d = n / d /\ n.tmod d = n % d):=by
 have h1:=Int.mul_tdiv_add_tmod n d
 have h2:n.tmod d < d:=Int.tmod_lt_of_pos n hd
 have h3:-d < n.tmod d:=by have:=Int.lt_tmod_of_pos n hd;omega
 refine ⟨fun h=>?_,fun h=>?_⟩
 ·have:=(Int.ediv_emod_unique (a:=n) (r:=n.tmod d + d) (q:=n.tdiv d - 1) hd).2 ⟨by rw [Int.mul_sub];omega,by omega,by omega⟩
  exact ⟨this.1.symm,this.2.symm⟩
 ·have:=(Int.ediv_emod_unique (a:=n) (r:=n.tmod d) (q:=n.tdiv d) hd).2 ⟨by omega,by omega,by omega⟩
  exact ⟨this.1.symm,this.2.symm⟩
theorem two_stores {w:World} {a b:Nat} {u0 u1 v0 v1:Value} (Fa:Fx w a u0 u1) (Fb:Fx w b v0 v1) (hab:a ≠ b) (x0 x1 y0 y1:Value) :
  Fx ((((w.setCell ⟨a,0,none⟩ x0).setCell ⟨a,1,none⟩ x1).setCell ⟨b,0,none⟩ y0).setCell ⟨b,1,none⟩ y1) a x0 x1 /\ Fx ((((w.setCell ⟨a,0,none⟩ x0).setCell ⟨a,1,none⟩ x1).setCell ⟨b,0,none⟩ y0).setCell ⟨b,1,none⟩ y1) b y0 y1:=
 ⟨(Fa.store x0 x1).other hab.symm y0 y1,(Fb.other hab x0 x1).store y0 y1⟩
theorem Ival.fx2 {w:World} {s:Value} {z:Int} {L:Nat} (h:Ival w s z L) {a b:Nat} {g g':Bool} {A A':Option Addr} {k c k' c':Nat} (Fa:Fx w a (.bool g) (.slice A k c)) (Fb:Fx w b (.bool g') (.slice A' k' c')) (hab:a ≠ b) (x0 x1 y0 y1:Value) :
  Ival ((((w.setCell ⟨a,0,none⟩ x0).setCell ⟨a,1,none⟩ x1).setCell ⟨b,0,none⟩ y0).setCell ⟨b,1,none⟩ y1) s z L:=(h.fx Fa x0 x1).fx (Fb.other hab x0 x1) y0 y1
def FloorAns (L:Nat) (x y:Int) (w:World) (e:Ending) (w':World) : Prop:=
 (∃ g1 A1 n1 c1 g2 A2 n2 c2,e = .returned (.tuple #[.agg #[.bool g1,.slice A1 n1 c1],.agg #[.bool g2,.slice A2 n2 c2]]) /\ Ival w' (.agg #[.bool g1,.slice A1 n1 c1]) x L /\ Ival w' (.agg #[.bool g2,.slice A2 n2 c2]) y L) /\ Below w.heap.size w w'
theorem floor_any (u v:Value) (x y:Int) (L:Nat) (w:World) (h:Ival w u x L) (g:Ival w v y L) (hL:L <= 900000) (hL2:2 <= L) (hy:0 < y) :
  Calls Tryz.prog 139 #[u,v] w (FloorAns (L + 3) (x / y) (x % y) w):=by
 obtain ⟨p,A,n,c,rfl⟩:=h.form
 obtain ⟨q,B,m,d,rfl⟩:=g.form
 obtain ⟨hw,F0,F1,F4,F5,hs⟩:=four31 w p q A B n c m d
 obtain ⟨W0,hW0⟩ : ∃ W0,(((w.alloc (.cells #[.bool p,.slice A n c] 31)).alloc (.cells #[.bool q,.slice B m d] 31)).alloc (.cells #[.bool false,.slice none 0 0] 31)).alloc (.cells #[.bool false,.slice none 0 0] 31) = W0:=⟨_,rfl⟩
 rw [hW0] at hw F0 F1 F4 F5 hs
 have X:=Hd (h.below hw)
 have Y:=Hd (g.below hw)
 replace F0:=Hd F0
 replace F1:=Hd F1
 replace F4:=Hd F4
 replace F5:=Hd F5
 clear h g
 have HM:=Hd (floor_math (n:=x) hy)
 obtain ⟨Q,hQ⟩ : ∃ Q,x / y = Q:=⟨_,rfl⟩
 obtain ⟨M,hM⟩ : ∃ M,x % y = M:=⟨_,rfl⟩
 rw [hQ,hM] at HM
 rw [hQ,hM]
 clear hQ hM
 go_enter Tryz.func139,Tryz.ntmps139
 go_upto_region 1 with fail
 clear hW0
 obtain ⟨a0,a1,-,-,-⟩:=F0.out
 obtain ⟨b0,b1,-,-,-⟩:=F1.out
 go_wp2_with fail
 refine (Divide_int _ _ x y L L _ X.out Y.out (by omega) (by omega) (by omega)).mono ?_
 rintro e w1 ⟨n1,A1,l1,k1,n2,A2,l2,k2,rfl,h1,h2,hb⟩
 have Z1:=Hd h1
 have Z2:=Hd h2
 replace hw:=hw.trans (hb.mono hw.size)
 replace F1:=Hd (F1.out.below hb)
 replace F4:=Hd (F4.out.below hb)
 replace F5:=Hd (F5.out.below hb)
 replace Y:=Hd (Y.out.below hb)
 have hs1:=hb.size
 clear h1 h2 hb a0 a1 b0 b1 F0 X
 obtain ⟨a0,a1,a2,a3,a4⟩:=F4.out
 obtain ⟨b0,b1,b2,b3,b4⟩:=F5.out
 go_upto_region 2 with fail
 clear a0 a1 a2 a3 a4 b0 b1 b2 b3 b4
 have hne:w.heap.size + 1 + 1 ≠ w.heap.size + 1 + 1 + 1:=by omega
 replace Z1:=Hd (Z1.out.fx2 F4.out F5.out hne (.bool n1) (.slice A1 l1 k1) (.bool n2) (.slice A2 l2 k2))
 replace Z2:=Hd (Z2.out.fx2 F4.out F5.out hne (.bool n1) (.slice A1 l1 k1) (.bool n2) (.slice A2 l2 k2))
 replace Y:=Hd (Y.out.fx2 F4.out F5.out hne (.bool n1) (.slice A1 l1 k1) (.bool n2) (.slice A2 l2 k2))
 replace F1:=Hd ((F1.out.other (by omega:w.heap.size + 1 + 1 ≠ w.heap.size + 1) (.bool n1) (.slice A1 l1 k1)).other (by omega:w.heap.size + 1 + 1 + 1 ≠ w.heap.size + 1) (.bool n2) (.slice A2 l2 k2))
 obtain ⟨G4,G5⟩:=two_stores F4.out F5.out hne (.bool n1) (.slice A1 l1 k1) (.bool n2) (.slice A2 l2 k2)
 replace hw:=(((hw.setCell (p:=⟨w.heap.size + 1 + 1,0,none⟩) (by show w.heap.size <= w.heap.size + 1 + 1;omega) (.bool n1)).setCell (p:=⟨w.heap.size + 1 + 1,1,none⟩) (by show w.heap.size <= w.heap.size + 1 + 1;omega) (.slice A1 l1 k1)).setCell (p:=⟨w.heap.size + 1 + 1 + 1,0,none⟩) (by show w.heap.size <= w.heap.size + 1 + 1 + 1;omega) (.bool n2)).setCell (p:=⟨w.heap.size + 1 + 1 + 1,1,none⟩) (by show w.heap.size <= w.heap.size + 1 + 1 + 1;omega) (.slice A2 l2 k2)
 clear F4 F5
 generalize (((w1.setCell ⟨w.heap.size + 1 + 1,0,none⟩ (.bool n1)).setCell ⟨w.heap.size + 1 + 1,1,none⟩ (.slice A1 l1 k1)).setCell ⟨w.heap.size + 1 + 1 + 1,0,none⟩ (.bool n2)).setCell ⟨w.heap.size + 1 + 1 + 1,1,none⟩ (.slice A2 l2 k2) = W2 at *
 have F4:=Hd G4
 have F5:=Hd G5
 clear G4 G5 hne
 have hs2:w.heap.size + 1 + 1 + 1 < W2.heap.size:=F5.out.2.2.2.2
 obtain ⟨b0,b1,b2,b3,b4⟩:=F5.out
 go_wp2_with fail
 refine (sign_int _ (x.tmod y) (L + 2) _ Z2.out).mono ?_
 rintro e w3 ⟨rfl,hb⟩
 replace hw:=hw.trans (hb.mono hw.size)
 replace F1:=Hd (F1.out.below hb)
 replace F4:=Hd (F4.out.below hb)
 replace F5:=Hd (F5.out.below hb)
 replace Y:=Hd (Y.out.below hb)
 replace Z1:=Hd (Z1.out.below hb)
 replace Z2:=Hd (Z2.out.below hb)
 have hs3:=hb.size
 clear b0 b1 b2 b3 b4 hb
 by_cases hneg:x.tmod y < 0
 ·have hcm:cmpI (x.tmod y) 0 < 0:=by rw [cmpI_lt hneg];decide
  obtain ⟨eq,em⟩:=HM.out.1 hneg
  go_upto_region 3 with fail
  clear hcm HM
  have I4:=Hd (IBox.mk F4.out Z1.out)
  have I5:=Hd (IBox.mk F5.out Z2.out)
  have I1:=Hd (IBox.mk F1.out Y.out)
  obtain ⟨Inv,hInv⟩ : ∃ J:(Nat -> Bool) -> (Value × Value × Value × Value × Value × Value) -> World -> Prop,J = fun b v w'=>(Below w.heap.size w w') /\ (b 6 = false -> Below w3.heap.size w3 w') /\ (b 0 = true -> Ival w' v.1 (x.tdiv y) (L + 2)) /\ (b 3 = true -> Ival w' v.2.2.2.1 (x.tmod y) (L + 2)) /\ (b 4 = true -> Ival w' v.2.2.2.2.1 (y) (L)) /\ (b 1 = true -> Ival w' v.2.1 (1) (2)) /\ (b 2 = true -> Ival w' v.2.2.1 (x.tdiv y - 1) (max (L + 2) 2 + 1)) /\ (b 5 = true -> Ival w' v.2.2.2.2.2 (x.tmod y + y) (max (L + 2) L + 1)) /\ (b 6 = true -> IBox w' (w.heap.size + 1 + 1) (x.tdiv y - 1) (L + 3)) /\ (b 6 = true -> b 7 = false -> IBox w' (w.heap.size + 1 + 1 + 1) (x.tmod y) (L + 2)) /\ (b 7 = true -> IBox w' (w.heap.size + 1 + 1 + 1) (x.tmod y + y) (L + 3)):=⟨_,rfl⟩
  have hB:=(Below.refl w3.heap.size w3).drew
  refine wp_region_held_drew (S:=fun w'=>True) (by kernel_rfl) (trivial) (fun hH=>?_)
  clear hH
  generalize w3.drew = wr0 at *
  refine wpAnyH_begin (V:=Value × Value × Value × Value × Value × Value) (I:=Inv) (A:=?_) [false,false,false,false,false,false,false,false] [16,17,18,19,20,21] (fun v=>[v.1,v.2.1,v.2.2.1,v.2.2.2.1,v.2.2.2.2.1,v.2.2.2.2.2]) (fun a=>(a.tmps.getD 16 undef,a.tmps.getD 17 undef,a.tmps.getD 18 undef,a.tmps.getD 19 undef,a.tmps.getD 20 undef,a.tmps.getD 21 undef)) ?_ ?_ (by kernel_rfl) (by kernel_rfl) (by kernel_rfl) (by kernel_rfl) (by kernel_rfl) ?_ ?_ ?_
  rotate_left 1
  ·intro v;simp only [fillA,Act.put,tA,cZ,cS];rfl
  ·rfl
  ·rw [hInv]
   exact ⟨(hw.trans (hB.mono hw.size)),(fun _=>hB),(fun h=>absurd h (by decide)),(fun h=>absurd h (by decide)),(fun h=>absurd h (by decide)),(fun h=>absurd h (by decide)),(fun h=>absurd h (by decide)),(fun h=>absurd h (by decide)),(fun h=>absurd h (by decide)),(fun h _=>absurd h (by decide)),(fun h=>absurd h (by decide))⟩
  ·skip
   refine EachFrom.cons (k:=0) rfl rfl (ds:=[]) (by kernel_rfl) (fun v x=>(x,v.2.1,v.2.2.1,v.2.2.2.1,v.2.2.2.2.1,v.2.2.2.2.2)) (fun v x=>by rfl) (fun b v wz hb0 hcl hbk hdep hI Kc hK=>?_) ?_
   ·skip
    rw [hInv] at hI
    obtain ⟨x16,x17,x18,x19,x20,x21⟩:=v
    dsimp only at hI hK ⊢
    try simp only [Act.put,tA] at hK
    obtain ⟨fn,famb,f16,f19,f20,f17,f18,f21,fq4,fr5,fr6⟩:=hI
    (try simp only [gA]);(try simp only [gS]);(try simp only [gZ])
    have hA:=famb (by cases h:b 6 with | false=>rfl | true=>exact absurd ((show AllT b [2,5,0,1,2] from hcl 6 _ rfl h).2.2.1) (by rw [hbk];decide))
    obtain ⟨g,A,n,c,Fq,Z16⟩:=I4.out.below hA
    obtain ⟨c0,c1,-,-,-⟩:=Fq
    go_simp
    refine hK.out _ _ trivial ?_
    rw [hInv]
    exact ⟨(fn),(fun h0=>famb h0),(fun h0=>Z16),(fun h0=>f19 h0),(fun h0=>f20 h0),(fun h0=>f17 h0),(fun h=>absurd ((show AllT b [0,1,1] from hcl 2 _ rfl h).1) (by rw [hbk];decide)),(fun h=>absurd ((show AllT b [0,1,1] from hcl 2 _ rfl ((show AllT b [3,4,2] from hcl 5 _ rfl h).2.2.1)).1) (by rw [hbk];decide)),(fun h=>absurd ((show AllT b [2,5,0,1,2] from hcl 6 _ rfl h).2.2.1) (by rw [hbk];decide)),(fun h _=>absurd ((show AllT b [2,5,0,1,2] from hcl 6 _ rfl h).2.2.1) (by rw [hbk];decide)),(fun h=>absurd ((show AllT b [5,6,0,1,2,3,4,5,6] from hcl 7 _ rfl h).2.2.1) (by rw [hbk];decide))⟩
   refine EachFrom.cons (k:=1) rfl rfl (ds:=[]) (by kernel_rfl) (fun v x=>(v.1,x,v.2.2.1,v.2.2.2.1,v.2.2.2.2.1,v.2.2.2.2.2)) (fun v x=>by rfl) (fun b v wz hb0 hcl hbk hdep hI Kc hK=>?_) ?_
   ·skip
    rw [hInv] at hI
    obtain ⟨x16,x17,x18,x19,x20,x21⟩:=v
    dsimp only at hI hK ⊢
    try simp only [Act.put,tA] at hK
    obtain ⟨fn,famb,f16,f19,f20,f17,f18,f21,fq4,fr5,fr6⟩:=hI
    (try simp only [gA]);(try simp only [gS]);(try simp only [gZ])
    go_simp
    (go_at_call 65;refine (new_q 1 _ (by decide) (by decide)).mono ?_;rintro e w1 ⟨⟨g17,A17,n17,c17,rfl,hz⟩,hb⟩)
    refine hK.out _ _ trivial ?_
    rw [hInv]
    exact ⟨((fn).trans (hb.mono (fn).size)),(fun h0=>(famb h0).trans (hb.mono (famb h0).size)),(fun h0=>(f16 h0).below hb),(fun h0=>(f19 h0).below hb),(fun h0=>(f20 h0).below hb),(fun h0=>hz),(fun h=>absurd ((show AllT b [0,1,1] from hcl 2 _ rfl h).2.1) (by rw [hbk];decide)),(fun h=>absurd ((show AllT b [0,1,1] from hcl 2 _ rfl ((show AllT b [3,4,2] from hcl 5 _ rfl h).2.2.1)).2.1) (by rw [hbk];decide)),(fun h=>absurd ((show AllT b [2,5,0,1,2] from hcl 6 _ rfl h).2.2.2.1) (by rw [hbk];decide)),(fun h _=>absurd ((show AllT b [2,5,0,1,2] from hcl 6 _ rfl h).2.2.2.1) (by rw [hbk];decide)),(fun h=>absurd ((show AllT b [5,6,0,1,2,3,4,5,6] from hcl 7 _ rfl h).2.2.2.1) (by rw [hbk];decide))⟩
   refine EachFrom.cons (k:=2) rfl rfl (ds:=[0,1,1]) (by kernel_rfl) (fun v x=>(v.1,v.2.1,x,v.2.2.2.1,v.2.2.2.2.1,v.2.2.2.2.2)) (fun v x=>by rfl) (fun b v wz hb0 hcl hbk hdep hI Kc hK=>?_) ?_
   ·skip
    rw [hInv] at hI
    obtain ⟨x16,x17,x18,x19,x20,x21⟩:=v
    dsimp only at hI hK ⊢
    try simp only [Act.put,tA] at hK
    obtain ⟨fn,famb,f16,f19,f20,f17,f18,f21,fq4,fr5,fr6⟩:=hI
    obtain ⟨d0,d1,-,-⟩:=hdep
    (try simp only [gA]);(try simp only [gS]);(try simp only [gZ])
    go_simp
    (go_at_call 169;refine (sub_t _ _ (x.tdiv y) 1 (L + 2) 2 _ (f16 d0) (f17 d1) (by omega) (by decide)).mono ?_;rintro e w1 ⟨⟨g18,A18,n18,c18,rfl,hz⟩,hb⟩)
    refine hK.out _ _ trivial ?_
    rw [hInv]
    exact ⟨((fn).trans (hb.mono (fn).size)),(fun h0=>(famb h0).trans (hb.mono (famb h0).size)),(fun h0=>(f16 h0).below hb),(fun h0=>(f19 h0).below hb),(fun h0=>(f20 h0).below hb),(fun h0=>(f17 h0).below hb),(fun h0=>hz),(fun h=>absurd ((show AllT b [3,4,2] from hcl 5 _ rfl h).2.2.1) (by rw [hbk];decide)),(fun h=>absurd ((show AllT b [2,5,0,1,2] from hcl 6 _ rfl h).1) (by rw [hbk];decide)),(fun h _=>absurd ((show AllT b [2,5,0,1,2] from hcl 6 _ rfl h).1) (by rw [hbk];decide)),(fun h=>absurd ((show AllT b [5,6,0,1,2,3,4,5,6] from hcl 7 _ rfl h).2.2.2.2.1) (by rw [hbk];decide))⟩
   refine EachFrom.cons (k:=3) rfl rfl (ds:=[]) (by kernel_rfl) (fun v x=>(v.1,v.2.1,v.2.2.1,x,v.2.2.2.2.1,v.2.2.2.2.2)) (fun v x=>by rfl) (fun b v wz hb0 hcl hbk hdep hI Kc hK=>?_) ?_
   ·skip
    rw [hInv] at hI
    obtain ⟨x16,x17,x18,x19,x20,x21⟩:=v
    dsimp only at hI hK ⊢
    try simp only [Act.put,tA] at hK
    obtain ⟨fn,famb,f16,f19,f20,f17,f18,f21,fq4,fr5,fr6⟩:=hI
    (try simp only [gA]);(try simp only [gS]);(try simp only [gZ])
    have hA:=famb (by cases h:b 6 with | false=>rfl | true=>exact absurd ((show AllT b [3,4,2] from hcl 5 _ rfl ((show AllT b [2,5,0,1,2] from hcl 6 _ rfl h).2.1)).1) (by rw [hbk];decide))
    obtain ⟨g,A,n,c,Fq,Z19⟩:=I5.out.below hA
    obtain ⟨c0,c1,-,-,-⟩:=Fq
    go_simp
    refine hK.out _ _ trivial ?_
    rw [hInv]
    exact ⟨(fn),(fun h0=>famb h0),(fun h0=>f16 h0),(fun h0=>Z19),(fun h0=>f20 h0),(fun h0=>f17 h0),(fun h0=>f18 h0),(fun h=>absurd ((show AllT b [3,4,2] from hcl 5 _ rfl h).1) (by rw [hbk];decide)),(fun h=>absurd ((show AllT b [3,4,2] from hcl 5 _ rfl ((show AllT b [2,5,0,1,2] from hcl 6 _ rfl h).2.1)).1) (by rw [hbk];decide)),(fun h _=>absurd ((show AllT b [3,4,2] from hcl 5 _ rfl ((show AllT b [2,5,0,1,2] from hcl 6 _ rfl h).2.1)).1) (by rw [hbk];decide)),(fun h=>absurd ((show AllT b [5,6,0,1,2,3,4,5,6] from hcl 7 _ rfl h).2.2.2.2.2.1) (by rw [hbk];decide))⟩
   refine EachFrom.cons (k:=4) rfl rfl (ds:=[]) (by kernel_rfl) (fun v x=>(v.1,v.2.1,v.2.2.1,v.2.2.2.1,x,v.2.2.2.2.2)) (fun v x=>by rfl) (fun b v wz hb0 hcl hbk hdep hI Kc hK=>?_) ?_
   ·skip
    rw [hInv] at hI
    obtain ⟨x16,x17,x18,x19,x20,x21⟩:=v
    dsimp only at hI hK ⊢
    try simp only [Act.put,tA] at hK
    obtain ⟨fn,famb,f16,f19,f20,f17,f18,f21,fq4,fr5,fr6⟩:=hI
    (try simp only [gA]);(try simp only [gS]);(try simp only [gZ])
    have hA:=famb (by cases h:b 6 with | false=>rfl | true=>exact absurd ((show AllT b [3,4,2] from hcl 5 _ rfl ((show AllT b [2,5,0,1,2] from hcl 6 _ rfl h).2.1)).2.1) (by rw [hbk];decide))
    obtain ⟨g,A,n,c,Fq,Z20⟩:=I1.out.below hA
    obtain ⟨c0,c1,-,-,-⟩:=Fq
    go_simp
    refine hK.out _ _ trivial ?_
    rw [hInv]
    exact ⟨(fn),(fun h0=>famb h0),(fun h0=>f16 h0),(fun h0=>f19 h0),(fun h0=>Z20),(fun h0=>f17 h0),(fun h0=>f18 h0),(fun h=>absurd ((show AllT b [3,4,2] from hcl 5 _ rfl h).2.1) (by rw [hbk];decide)),(fun h=>absurd ((show AllT b [3,4,2] from hcl 5 _ rfl ((show AllT b [2,5,0,1,2] from hcl 6 _ rfl h).2.1)).2.1) (by rw [hbk];decide)),(fun h _=>absurd ((show AllT b [3,4,2] from hcl 5 _ rfl ((show AllT b [2,5,0,1,2] from hcl 6 _ rfl h).2.1)).2.1) (by rw [hbk];decide)),(fun h=>absurd ((show AllT b [5,6,0,1,2,3,4,5,6] from hcl 7 _ rfl h).2.2.2.2.2.2.1) (by rw [hbk];decide))⟩
   refine EachFrom.cons (k:=5) rfl rfl (ds:=[3,4,2]) (by kernel_rfl) (fun v x=>(v.1,v.2.1,v.2.2.1,v.2.2.2.1,v.2.2.2.2.1,x)) (fun v x=>by rfl) (fun b v wz hb0 hcl hbk hdep hI Kc hK=>?_) ?_
   ·skip
    rw [hInv] at hI
    obtain ⟨x16,x17,x18,x19,x20,x21⟩:=v
    dsimp only at hI hK ⊢
    try simp only [Act.put,tA] at hK
    obtain ⟨fn,famb,f16,f19,f20,f17,f18,f21,fq4,fr5,fr6⟩:=hI
    obtain ⟨d3,d4,d2,-⟩:=hdep
    (try simp only [gA]);(try simp only [gS]);(try simp only [gZ])
    go_simp
    (go_at_call 99;refine (add_t _ _ (x.tmod y) y (L + 2) L _ (f19 d3) (f20 d4) (by omega) (by omega)).mono ?_;rintro e w1 ⟨⟨g21,A21,n21,c21,rfl,hz⟩,hb⟩)
    refine hK.out _ _ trivial ?_
    rw [hInv]
    exact ⟨((fn).trans (hb.mono (fn).size)),(fun h0=>(famb h0).trans (hb.mono (famb h0).size)),(fun h0=>(f16 h0).below hb),(fun h0=>(f19 h0).below hb),(fun h0=>(f20 h0).below hb),(fun h0=>(f17 h0).below hb),(fun h0=>(f18 h0).below hb),(fun h0=>hz),(fun h=>absurd ((show AllT b [2,5,0,1,2] from hcl 6 _ rfl h).2.1) (by rw [hbk];decide)),(fun h _=>absurd ((show AllT b [2,5,0,1,2] from hcl 6 _ rfl h).2.1) (by rw [hbk];decide)),(fun h=>absurd ((show AllT b [5,6,0,1,2,3,4,5,6] from hcl 7 _ rfl h).1) (by rw [hbk];decide))⟩
   refine EachFrom.cons (k:=6) rfl rfl (ds:=[2,5,0,1,2]) (by kernel_rfl) (fun v _=>v) (fun v x=>by rfl) (fun b v wz hb0 hcl hbk hdep hI Kc hK=>?_) ?_
   ·skip
    rw [hInv] at hI
    obtain ⟨x16,x17,x18,x19,x20,x21⟩:=v
    dsimp only at hI hK ⊢
    try simp only [Act.put,tA] at hK
    obtain ⟨fn,famb,f16,f19,f20,f17,f18,f21,fq4,fr5,fr6⟩:=hI
    obtain ⟨d2,d5,d0,d1,-,-⟩:=hdep
    (try simp only [gA]);(try simp only [gS]);(try simp only [gZ])
    have hA:=famb hbk
    have FB:=I4.out.below hA
    obtain ⟨g18,A18,n18,c18,rfl⟩:=(f18 d2).form
    obtain ⟨g,A,n,c,Fq,-⟩:=id FB
    obtain ⟨c0,c1,c2,c3,c4⟩:=Fq
    go_simp
    refine hK.out (undef) _ trivial ?_
    rw [hInv]
    exact ⟨(((fn).setCell (p:=⟨w.heap.size + 1 + 1,0,none⟩) (by show w.heap.size <= w.heap.size + 1 + 1;omega) _).setCell (p:=⟨w.heap.size + 1 + 1,1,none⟩) (by show w.heap.size <= w.heap.size + 1 + 1;omega) _),(fun h=>absurd (show true = false from h) (by decide)),(fun h0=>(f16 h0).at FB _ _),(fun h0=>(f19 h0).at FB _ _),(fun h0=>(f20 h0).at FB _ _),(fun h0=>(f17 h0).at FB _ _),(fun h0=>(f18 h0).at FB _ _),(fun h0=>(f21 h0).at FB _ _),(fun h0=>(FB.store ((f18 d2).mono (by omega)))),(fun h0 h1=>((I5.out.below hA).other FB (by omega) _ _)),(fun h=>absurd ((show AllT b [5,6,0,1,2,3,4,5,6] from hcl 7 _ rfl h).2.1) (by rw [hbk];decide))⟩
   refine EachFrom.cons (k:=7) rfl rfl (ds:=[5,6,0,1,2,3,4,5,6]) (by kernel_rfl) (fun v _=>v) (fun v x=>by rfl) (fun b v wz hb0 hcl hbk hdep hI Kc hK=>?_) ?_
   ·skip
    rw [hInv] at hI
    obtain ⟨x16,x17,x18,x19,x20,x21⟩:=v
    dsimp only at hI hK ⊢
    try simp only [Act.put,tA] at hK
    obtain ⟨fn,famb,f16,f19,f20,f17,f18,f21,fq4,fr5,fr6⟩:=hI
    obtain ⟨d5,d6,d0,d1,d2,d3,d4,-,-,-⟩:=hdep
    (try simp only [gA]);(try simp only [gS]);(try simp only [gZ])
    have FB:=fr5 d6 hbk
    obtain ⟨g21,A21,n21,c21,rfl⟩:=(f21 d5).form
    obtain ⟨g,A,n,c,Fq,-⟩:=id FB
    obtain ⟨c0,c1,c2,c3,c4⟩:=Fq
    go_simp
    refine hK.out (undef) _ trivial ?_
    rw [hInv]
    exact ⟨(((fn).setCell (p:=⟨w.heap.size + 1 + 1 + 1,0,none⟩) (by show w.heap.size <= w.heap.size + 1 + 1 + 1;omega) _).setCell (p:=⟨w.heap.size + 1 + 1 + 1,1,none⟩) (by show w.heap.size <= w.heap.size + 1 + 1 + 1;omega) _),(fun h=>absurd (show b 6 = false from h) (by rw [d6];decide)),(fun h0=>(f16 h0).at FB _ _),(fun h0=>(f19 h0).at FB _ _),(fun h0=>(f20 h0).at FB _ _),(fun h0=>(f17 h0).at FB _ _),(fun h0=>(f18 h0).at FB _ _),(fun h0=>(f21 h0).at FB _ _),(fun h0=>(fq4 h0).other FB (by omega) _ _),(fun _ h=>absurd (show true = false from h) (by decide)),(fun h0=>(FB.store ((f21 d5).mono (by omega))))⟩
   exact EachFrom.nil (by kernel_rfl)
  ·intro v wE hI
   rw [hInv] at hI
   obtain ⟨x16,x17,x18,x19,x20,x21⟩:=v
   dsimp only at hI ⊢
   obtain ⟨fn,famb,f16,f19,f20,f17,f18,f21,fq4,fr5,fr6⟩:=hI
   clear famb
   replace f16:=f16 rfl
   replace f19:=f19 rfl
   replace f20:=f20 rfl
   replace f17:=f17 rfl
   replace f18:=f18 rfl
   replace f21:=f21 rfl
   replace fq4:=fq4 rfl
   clear fr5
   replace fr6:=fr6 rfl
   clear hInv hB
   rw [eq] at fq4
   rw [em] at fr6
   clear f16 f17 f18 f19 f20 f21 eq em
   have I4:=Hd fq4
   have I5:=Hd fr6
   clear fq4 fr6 I1 F1 F4 F5 Y Z1 Z2 hw
   have hw:=fn
   clear fn
   go_upto_region 4 with fail
   generalize wE = w4 at *
   obtain ⟨Inv,hInv⟩ : ∃ J:(Nat -> Bool) -> (Value × Value) -> World -> Prop,J = fun b v w'=>(Below w.heap.size w w') /\ (IBox w' (w.heap.size + 1 + 1) Q (L + 3)) /\ (IBox w' (w.heap.size + 1 + 1 + 1) M (L + 3)) /\ (b 0 = true -> Ival w' v.1 Q (L + 3)) /\ (b 1 = true -> Ival w' v.2 M (L + 3)):=⟨_,rfl⟩
   have hB:=(Below.refl w4.heap.size w4).drew
   refine wp_region_held_drew (S:=fun w'=>True) (by kernel_rfl) (trivial) (fun hH=>?_)
   clear hH
   generalize w4.drew = wr0 at *
   refine wpAnyH_begin (V:=Value × Value) (I:=Inv) (A:=?_) [false,false,false,false] [22,23] (fun v=>[v.1,v.2]) (fun a=>(a.tmps.getD 22 undef,a.tmps.getD 23 undef)) ?_ ?_ (by kernel_rfl) (by kernel_rfl) (by kernel_rfl) (by kernel_rfl) (by kernel_rfl) ?_ ?_ ?_
   rotate_left 1
   ·intro v;simp only [fillA,Act.put,tA,cZ,cS];rfl
   ·rfl
   ·rw [hInv]
    exact ⟨(hw.trans (hB.mono hw.size)),(I4.out.below hB),(I5.out.below hB),(fun h=>absurd h (by decide)),(fun h=>absurd h (by decide))⟩
   ·skip
    refine EachFrom.cons (k:=0) rfl rfl (ds:=[]) (by kernel_rfl) (fun v x=>(x,v.2)) (fun v x=>by rfl) (fun b v wz hb0 hcl hbk hdep hI Kc hK=>?_) ?_
    ·skip
     rw [hInv] at hI
     obtain ⟨x22,x23⟩:=v
     dsimp only at hI hK ⊢
     try simp only [Act.put,tA] at hK
     obtain ⟨fn,fq,fr,f22,f23⟩:=hI
     (try simp only [gA]);(try simp only [gS]);(try simp only [gZ])
     obtain ⟨g,A,n,c,Fq,Z22⟩:=id fq
     obtain ⟨c0,c1,-,-,-⟩:=Fq
     go_simp
     refine hK.out _ _ trivial ?_
     rw [hInv]
     exact ⟨(fn),(fq),(fr),(fun h0=>Z22),(fun h0=>f23 h0)⟩
    refine EachFrom.cons (k:=1) rfl rfl (ds:=[]) (by kernel_rfl) (fun v x=>(v.1,x)) (fun v x=>by rfl) (fun b v wz hb0 hcl hbk hdep hI Kc hK=>?_) ?_
    ·skip
     rw [hInv] at hI
     obtain ⟨x22,x23⟩:=v
     dsimp only at hI hK ⊢
     try simp only [Act.put,tA] at hK
     obtain ⟨fn,fq,fr,f22,f23⟩:=hI
     (try simp only [gA]);(try simp only [gS]);(try simp only [gZ])
     obtain ⟨g,A,n,c,Fq,Z23⟩:=id fr
     obtain ⟨c0,c1,-,-,-⟩:=Fq
     go_simp
     refine hK.out _ _ trivial ?_
     rw [hInv]
     exact ⟨(fn),(fq),(fr),(fun h0=>f22 h0),(fun h0=>Z23)⟩
    refine EachFrom.cons (k:=2) rfl rfl (ds:=[0,0]) (by kernel_rfl) (fun v _=>v) (fun v x=>by rfl) (fun b v wz hb0 hcl hbk hdep hI Kc hK=>?_) ?_
    ·skip
     rw [hInv] at hI
     obtain ⟨x22,x23⟩:=v
     dsimp only at hI hK ⊢
     try simp only [Act.put,tA] at hK
     obtain ⟨fn,fq,fr,f22,f23⟩:=hI
     obtain ⟨d0,-,-⟩:=hdep
     (try simp only [gA]);(try simp only [gS]);(try simp only [gZ])
     obtain ⟨g22,A22,n22,c22,rfl⟩:=(f22 d0).form
     obtain ⟨g,A,n,c,Fq,-⟩:=id fq
     obtain ⟨c0,c1,c2,c3,c4⟩:=Fq
     go_simp
     refine hK.out (undef) _ trivial ?_
     rw [hInv]
     exact ⟨(((fn).setCell (p:=⟨w.heap.size + 1 + 1,0,none⟩) (by show w.heap.size <= w.heap.size + 1 + 1;omega) _).setCell (p:=⟨w.heap.size + 1 + 1,1,none⟩) (by show w.heap.size <= w.heap.size + 1 + 1;omega) _),(fq.store (f22 d0)),((fr).other fq (by omega) _ _),(fun h0=>(f22 h0).at fq _ _),(fun h0=>(f23 h0).at fq _ _)⟩
    refine EachFrom.cons (k:=3) rfl rfl (ds:=[1,2,0,1,2]) (by kernel_rfl) (fun v _=>v) (fun v x=>by rfl) (fun b v wz hb0 hcl hbk hdep hI Kc hK=>?_) ?_
    ·skip
     rw [hInv] at hI
     obtain ⟨x22,x23⟩:=v
     dsimp only at hI hK ⊢
     try simp only [Act.put,tA] at hK
     obtain ⟨fn,fq,fr,f22,f23⟩:=hI
     obtain ⟨d1,d2,d0,-,-,-⟩:=hdep
     (try simp only [gA]);(try simp only [gS]);(try simp only [gZ])
     obtain ⟨g23,A23,n23,c23,rfl⟩:=(f23 d1).form
     obtain ⟨g,A,n,c,Fq,-⟩:=id fr
     obtain ⟨c0,c1,c2,c3,c4⟩:=Fq
     go_simp
     refine hK.out (undef) _ trivial ?_
     rw [hInv]
     exact ⟨(((fn).setCell (p:=⟨w.heap.size + 1 + 1 + 1,0,none⟩) (by show w.heap.size <= w.heap.size + 1 + 1 + 1;omega) _).setCell (p:=⟨w.heap.size + 1 + 1 + 1,1,none⟩) (by show w.heap.size <= w.heap.size + 1 + 1 + 1;omega) _),((fq).other fr (by omega) _ _),(fr.store (f23 d1)),(fun h0=>(f22 h0).at fr _ _),(fun h0=>(f23 h0).at fr _ _)⟩
    exact EachFrom.nil (by kernel_rfl)
   ·intro v wE hI
    rw [hInv] at hI
    obtain ⟨x22,x23⟩:=v
    dsimp only at hI ⊢
    obtain ⟨fn,fq,fr,f22,f23⟩:=hI
    replace f22:=f22 rfl
    replace f23:=f23 rfl
    clear hInv hB
    obtain ⟨ga,Aa,na,ca,Fa,Va⟩:=fq
    obtain ⟨gb,Ab,nb,cb,Fb,Vb⟩:=fr
    obtain ⟨r0,r1,-,-,-⟩:=Fa
    obtain ⟨r2,r3,-,-,-⟩:=Fb
    go_wp2
    exact bodyPost_ret (v:=.tuple #[.agg #[.bool ga,.slice Aa na ca],.agg #[.bool gb,.slice Ab nb cb]]) (by simp [results,Tryz.results139,go_sem,r0,r1,r2,r3]) rfl ⟨⟨_,_,_,_,_,_,_,_,rfl,Va,Vb⟩,fn⟩
 ·have hcm:¬ cmpI (x.tmod y) 0 < 0:=by unfold cmpI;rw [if_neg hneg];split <;> decide
  obtain ⟨eq,em⟩:=HM.out.2 (by omega)
  rw [eq] at Z1
  rw [em] at Z2
  clear eq em
  obtain ⟨a0,a1,a2,a3,a4⟩:=F4.out
  obtain ⟨b0,b1,b2,b3,b4⟩:=F5.out
  go_upto_region 4 with fail
  clear hcm HM
  have I4:=Hd ((IBox.mk F4.out Z1.out).mono (by omega:L + 2 <= L + 3))
  have I5:=Hd ((IBox.mk F5.out Z2.out).mono (by omega:L + 2 <= L + 3))
  clear F1 F4 F5 Y Z1 Z2 a0 a1 a2 a3 a4 b0 b1 b2 b3 b4
  obtain ⟨Inv,hInv⟩ : ∃ J:(Nat -> Bool) -> (Value × Value) -> World -> Prop,J = fun b v w'=>(Below w.heap.size w w') /\ (IBox w' (w.heap.size + 1 + 1) Q (L + 3)) /\ (IBox w' (w.heap.size + 1 + 1 + 1) M (L + 3)) /\ (b 0 = true -> Ival w' v.1 Q (L + 3)) /\ (b 1 = true -> Ival w' v.2 M (L + 3)):=⟨_,rfl⟩
  have hB:=(Below.refl w3.heap.size w3).drew
  refine wp_region_held_drew (S:=fun w'=>True) (by kernel_rfl) (trivial) (fun hH=>?_)
  clear hH
  generalize w3.drew = wr0 at *
  refine wpAnyH_begin (V:=Value × Value) (I:=Inv) (A:=?_) [false,false,false,false] [22,23] (fun v=>[v.1,v.2]) (fun a=>(a.tmps.getD 22 undef,a.tmps.getD 23 undef)) ?_ ?_ (by kernel_rfl) (by kernel_rfl) (by kernel_rfl) (by kernel_rfl) (by kernel_rfl) ?_ ?_ ?_
  rotate_left 1
  ·intro v;simp only [fillA,Act.put,tA,cZ,cS];rfl
  ·rfl
  ·rw [hInv]
   exact ⟨(hw.trans (hB.mono hw.size)),(I4.out.below hB),(I5.out.below hB),(fun h=>absurd h (by decide)),(fun h=>absurd h (by decide))⟩
  ·skip
   refine EachFrom.cons (k:=0) rfl rfl (ds:=[]) (by kernel_rfl) (fun v x=>(x,v.2)) (fun v x=>by rfl) (fun b v wz hb0 hcl hbk hdep hI Kc hK=>?_) ?_
   ·skip
    rw [hInv] at hI
    obtain ⟨x22,x23⟩:=v
    dsimp only at hI hK ⊢
    try simp only [Act.put,tA] at hK
    obtain ⟨fn,fq,fr,f22,f23⟩:=hI
    (try simp only [gA]);(try simp only [gS]);(try simp only [gZ])
    obtain ⟨g,A,n,c,Fq,Z22⟩:=id fq
    obtain ⟨c0,c1,-,-,-⟩:=Fq
    go_simp
    refine hK.out _ _ trivial ?_
    rw [hInv]
    exact ⟨(fn),(fq),(fr),(fun h0=>Z22),(fun h0=>f23 h0)⟩
   refine EachFrom.cons (k:=1) rfl rfl (ds:=[]) (by kernel_rfl) (fun v x=>(v.1,x)) (fun v x=>by rfl) (fun b v wz hb0 hcl hbk hdep hI Kc hK=>?_) ?_
   ·skip
    rw [hInv] at hI
    obtain ⟨x22,x23⟩:=v
    dsimp only at hI hK ⊢
    try simp only [Act.put,tA] at hK
    obtain ⟨fn,fq,fr,f22,f23⟩:=hI
    (try simp only [gA]);(try simp only [gS]);(try simp only [gZ])
    obtain ⟨g,A,n,c,Fq,Z23⟩:=id fr
    obtain ⟨c0,c1,-,-,-⟩:=Fq
    go_simp
    refine hK.out _ _ trivial ?_
    rw [hInv]
    exact ⟨(fn),(fq),(fr),(fun h0=>f22 h0),(fun h0=>Z23)⟩
   refine EachFrom.cons (k:=2) rfl rfl (ds:=[0,0]) (by kernel_rfl) (fun v _=>v) (fun v x=>by rfl) (fun b v wz hb0 hcl hbk hdep hI Kc hK=>?_) ?_
   ·skip
    rw [hInv] at hI
    obtain ⟨x22,x23⟩:=v
    dsimp only at hI hK ⊢
    try simp only [Act.put,tA] at hK
    obtain ⟨fn,fq,fr,f22,f23⟩:=hI
    obtain ⟨d0,-,-⟩:=hdep
    (try simp only [gA]);(try simp only [gS]);(try simp only [gZ])
    obtain ⟨g22,A22,n22,c22,rfl⟩:=(f22 d0).form
    obtain ⟨g,A,n,c,Fq,-⟩:=id fq
    obtain ⟨c0,c1,c2,c3,c4⟩:=Fq
    go_simp
    refine hK.out (undef) _ trivial ?_
    rw [hInv]
    exact ⟨(((fn).setCell (p:=⟨w.heap.size + 1 + 1,0,none⟩) (by show w.heap.size <= w.heap.size + 1 + 1;omega) _).setCell (p:=⟨w.heap.size + 1 + 1,1,none⟩) (by show w.heap.size <= w.heap.size + 1 + 1;omega) _),(fq.store (f22 d0)),((fr).other fq (by omega) _ _),(fun h0=>(f22 h0).at fq _ _),(fun h0=>(f23 h0).at fq _ _)⟩
   refine EachFrom.cons (k:=3) rfl rfl (ds:=[1,2,0,1,2]) (by kernel_rfl) (fun v _=>v) (fun v x=>by rfl) (fun b v wz hb0 hcl hbk hdep hI Kc hK=>?_) ?_
   ·skip
    rw [hInv] at hI
    obtain ⟨x22,x23⟩:=v
    dsimp only at hI hK ⊢
    try simp only [Act.put,tA] at hK
    obtain ⟨fn,fq,fr,f22,f23⟩:=hI
    obtain ⟨d1,d2,d0,-,-,-⟩:=hdep
    (try simp only [gA]);(try simp only [gS]);(try simp only [gZ])
    obtain ⟨g23,A23,n23,c23,rfl⟩:=(f23 d1).form
    obtain ⟨g,A,n,c,Fq,-⟩:=id fr
    obtain ⟨c0,c1,c2,c3,c4⟩:=Fq
    go_simp
    refine hK.out (undef) _ trivial ?_
    rw [hInv]
    exact ⟨(((fn).setCell (p:=⟨w.heap.size + 1 + 1 + 1,0,none⟩) (by show w.heap.size <= w.heap.size + 1 + 1 + 1;omega) _).setCell (p:=⟨w.heap.size + 1 + 1 + 1,1,none⟩) (by show w.heap.size <= w.heap.size + 1 + 1 + 1;omega) _),((fq).other fr (by omega) _ _),(fr.store (f23 d1)),(fun h0=>(f22 h0).at fr _ _),(fun h0=>(f23 h0).at fr _ _)⟩
   exact EachFrom.nil (by kernel_rfl)
  ·intro v wE hI
   rw [hInv] at hI
   obtain ⟨x22,x23⟩:=v
   dsimp only at hI ⊢
   obtain ⟨fn,fq,fr,f22,f23⟩:=hI
   replace f22:=f22 rfl
   replace f23:=f23 rfl
   clear hInv hB
   obtain ⟨ga,Aa,na,ca,Fa,Va⟩:=fq
   obtain ⟨gb,Ab,nb,cb,Fb,Vb⟩:=fr
   obtain ⟨r0,r1,-,-,-⟩:=Fa
   obtain ⟨r2,r3,-,-,-⟩:=Fb
   go_wp2
   exact bodyPost_ret (v:=.tuple #[.agg #[.bool ga,.slice Aa na ca],.agg #[.bool gb,.slice Ab nb cb]]) (by simp [results,Tryz.results139,go_sem,r0,r1,r2,r3]) rfl ⟨⟨_,_,_,_,_,_,_,_,rfl,Va,Vb⟩,fn⟩
end Go.Proofs.YtbajnceoolkckaaGreat
