/- Of the proof of RationalRounds: RatQ, Texts, DigMath, RatJ. -/
import Derived.Test.YtbajnceoolkckaaGreatRd27
import Derived.Lib.Repeat
import Derived.Lib.Case
open List renaming getElem_toArray → gA, getElem_cons_succ → gS, getElem_cons_zero → gZ, setIfInBounds_toArray → tA, set_cons_zero → cZ, set_cons_succ → cS
open Go.Lib renaming hid → Hd
set_option maxRecDepth 100000
set_option maxHeartbeats 16000000
namespace Go.Proofs.YtbajnceoolkckaaGreat
open Go.RowKit LM
structure SimpZ (n d m c N D:Int) : Prop where
 D0:0 < D
 lo:n * D <= N * d
 hi:N * c <= m * D
 min:∀ p q,0 < q -> n * q <= p * d -> p * c <= m * q -> D <= q /\ N.natAbs <= p.natAbs
theorem Simp.abs {n d m c N D:Int} (h:Simp n d m c N D) : SimpZ n d m c N D:=
 ⟨h.D0,h.lo,h.hi,fun p q h1 h2 h3=>by have:=h.min p q h1 h2 h3;have:=h.N0;exact ⟨by omega,by omega⟩⟩
theorem Simp.neg {n d m c N D:Int} (h:Simp (-m) c (-n) d N D) : SimpZ n d m c (-N) D:=by
 have h1:=h.lo
 have h2:=h.hi
 rw [Int.neg_mul] at h1 h2
 refine ⟨h.D0,by rw [Int.neg_mul];omega,by rw [Int.neg_mul];omega,fun p q k1 k2 k3=>?_⟩
 have:=h.min (-p) q k1 (by rw [Int.neg_mul,Int.neg_mul];omega) (by rw [Int.neg_mul,Int.neg_mul];omega)
 have:=h.N0
 exact ⟨by omega,by omega⟩
theorem SimpZ.zero {n d m c:Int} (hm:0 <= m) (hn:n <= 0) : SimpZ n d m c 0 1:=
 ⟨by decide,by omega,by omega,fun p q k1 _ _=>⟨by omega,by simp⟩⟩
theorem range_neg {n d m c:Int} (h:n * c <= m * d) : -m * d <= -n * c:=by rw [Int.neg_mul,Int.neg_mul];omega
theorem cmp_leq {a b:Int} (h:a <= b) : ¬ cmpI a b > 0:=by
 rcases Int.lt_or_eq_of_le h with h | h
 ·rw [cmpI_lt h];decide
 ·rw [cmpI_eq h];decide
def SimplestAns (L:Nat) (n d m c:Int) (w:World) (e:Ending) (w':World) : Prop:=
 (m * d < n * c /\ RatErr L 0 1 7 w e w') \/ (n * c <= m * d /\ ∃ N D,SimpZ n d m c N D /\ RatErr L N D 0 w e w')
theorem Simplest_any (u v:Value) (n d m c:Int) (L:Nat) (w:World) (h:Rat w u n d L) (g:Rat w v m c L) (hL:L <= 100) (hL2:2 <= L) :
  Calls Tryz.prog 54 #[u,v] w (SimplestAns L n d m c w):=by
 obtain ⟨g1,A1,n1,c1,e1,E1,m1,d1,rfl⟩:=h.form
 obtain ⟨g2,A2,n2,c2,e2,E2,m2,d2,rfl⟩:=g.form
 obtain ⟨hw,F0,F1,F2,hs⟩:=three444 w (.bool g1) (.slice A1 n1 c1) (.bool e1) (.slice E1 m1 d1) (.bool g2) (.slice A2 n2 c2) (.bool e2) (.slice E2 m2 d2)
 have X:=Hd (h.below hw)
 have Y:=Hd (g.below hw)
 obtain ⟨W0,hW0⟩ : ∃ W0,((w.alloc (.cells #[.bool g1,.slice A1 n1 c1,.bool e1,.slice E1 m1 d1] 38)).alloc (.cells #[.bool g2,.slice A2 n2 c2,.bool e2,.slice E2 m2 d2] 38)).alloc (.cells #[.bool false,.slice none 0 0,.bool false,.slice none 0 0] 38) = W0:=⟨_,rfl⟩
 rw [hW0] at hw F0 F1 F2 hs X Y
 have B0:=Hd F0
 have B1:=Hd F1
 have BR:=Hd F2
 clear F0 F1 F2 h g hs
 replace hw:=Hd hw
 have hdc:=Hd (And.intro X.out.parts.2.2.1 Y.out.parts.2.2.1)
 go_enter Tryz.func54,Tryz.ntmps54
 go_upto_region 1 with fail
 clear hW0
 obtain ⟨a00,a01,a02,a03,-,-,-,-,-⟩:=B0.out
 obtain ⟨a10,a11,a12,a13,-,-,-,-,-⟩:=B1.out
 go_wp2_with fail
 refine (Cmp_q _ _ n d m c L _ X.out Y.out (by omega)).mono ?_
 rintro e w1 ⟨rfl,hb1⟩
 clear a00 a01 a02 a03
 clear a10 a11 a12 a13
 replace B0:=Hd (B0.out.below hb1)
 replace B1:=Hd (B1.out.below hb1)
 replace BR:=Hd (BR.out.below hb1)
 replace X:=Hd (X.out.below hb1)
 replace Y:=Hd (Y.out.below hb1)
 replace hw:=Hd (hw.out.trans (hb1.mono hw.out.size))
 clear hb1
 by_cases ho:m * d < n * c
 ·have hcm:cmpI (n * c) (m * d) > 0:=by rw [cmpI_gt ho];decide
  have HO:=Hd ho
  clear ho
  obtain ⟨r0,r1,r2,r3,r4,r5,r6,r7,r8⟩:=BR.out
  go_wp2
  refine bodyPost_ret (v:=.tuple #[.agg #[.bool false,.slice none 0 0,.bool false,.slice none 0 0],.int .i64 7]) (by simp [results,Tryz.results54,go_sem,r0,r1,r2,r3]) rfl (Or.inl ⟨HO.out,⟨⟨false,none,0,0,false,none,0,0,rfl,_,_,_,_,_,_,_,_,rfl,Ival.nought,Ival.nought,by decide,by decide⟩,below_put4 hw.out (by omega) _ _ _ _⟩⟩)
 have hcm:¬ cmpI (n * c) (m * d) > 0:=cmp_leq (Int.not_lt.1 ho)
 have HO:=Hd (Int.not_lt.1 ho)
 clear ho
 obtain ⟨a10,a11,a12,a13,-,-,-,-,-⟩:=B1.out
 go_wp2_with fail
 refine (Sign_any _ m c L _ Y.out).mono ?_
 rintro e w2 ⟨rfl,hb1⟩
 clear a10 a11 a12 a13
 replace B0:=Hd (B0.out.below hb1)
 replace B1:=Hd (B1.out.below hb1)
 replace BR:=Hd (BR.out.below hb1)
 replace X:=Hd (X.out.below hb1)
 replace Y:=Hd (Y.out.below hb1)
 replace hw:=Hd (hw.out.trans (hb1.mono hw.out.size))
 clear hb1 hcm
 by_cases hm:m < 0
 ·skip
  have hcm:cmpI m 0 < 0:=by rw [cmpI_lt hm];decide
  have HM:=Hd hm
  clear hm
  go_upto_region 4 with fail
  clear hcm
  have HT:=Hd (fun (w':World) (hb:Below w2.heap.size w2 w')=>(show w'.cell? ⟨w.heap.size,0,none⟩ = some (.bool g1) /\ w'.cell? ⟨w.heap.size,1,none⟩ = some (.slice A1 n1 c1) /\ w'.cell? ⟨w.heap.size,2,none⟩ = some (.bool e1) /\ w'.cell? ⟨w.heap.size,3,none⟩ = some (.slice E1 m1 d1) /\ w'.cell? ⟨w.heap.size + 1,0,none⟩ = some (.bool g2) /\ w'.cell? ⟨w.heap.size + 1,1,none⟩ = some (.slice A2 n2 c2) /\ w'.cell? ⟨w.heap.size + 1,2,none⟩ = some (.bool e2) /\ w'.cell? ⟨w.heap.size + 1,3,none⟩ = some (.slice E2 m2 d2) from ⟨(B0.out.below hb).c0,(B0.out.below hb).c1,(B0.out.below hb).c2,(B0.out.below hb).c3,(B1.out.below hb).c0,(B1.out.below hb).c1,(B1.out.below hb).c2,(B1.out.below hb).c3⟩))
  obtain ⟨Inv,hInv⟩ : ∃ J:(Nat -> Bool) -> (Value × Value × Value × Value × Value × Value × Value) -> World -> Prop,J = fun b v w'=>(Below w.heap.size w w') /\ (b 6 = false -> Below w2.heap.size w2 w') /\ (b 0 = true -> v.1 = .agg #[.bool g2,.slice A2 n2 c2,.bool e2,.slice E2 m2 d2]) /\ (b 2 = true -> v.2.2.1 = .agg #[.bool g1,.slice A1 n1 c1,.bool e1,.slice E1 m1 d1]) /\ (b 1 = true -> b 6 = false -> Rat w' v.2.1 (-m) c L) /\ (b 3 = true -> b 6 = false -> Rat w' v.2.2.2.1 (-n) d L) /\ (b 4 = true -> b 6 = false -> ∃ N D,Simp (-m) c (-n) d N D /\ Rat w' v.2.2.2.2.1 N D L) /\ (b 5 = true -> b 6 = false -> ∃ N D,Simp (-m) c (-n) d N D /\ Rat w' v.2.2.2.2.2.1 (-N) D L) /\ (∃ v0 v1 v2 v3,Fx4 w' (w.heap.size + 1 + 1) v0 v1 v2 v3) /\ (b 6 = true -> ∃ N D,Simp (-m) c (-n) d N D /\ ∃ u1 K1 l1 o1 u2 K2 l2 o2,Fx4 w' (w.heap.size + 1 + 1) (.bool u1) (.slice K1 l1 o1) (.bool u2) (.slice K2 l2 o2) /\ Rat w' (.agg #[.bool u1,.slice K1 l1 o1,.bool u2,.slice K2 l2 o2]) (-N) D L) /\ (b 7 = true -> v.2.2.2.2.2.2 = .int .i64 0):=⟨_,rfl⟩
  have hB:=(Below.refl w2.heap.size w2).drew
  refine wp_region_held_drew (S:=fun w'=>True) (by kernel_rfl) (trivial) (fun hH=>?_)
  clear hH
  generalize w2.drew = wr0 at *
  refine wpAnyH_begin (V:=Value × Value × Value × Value × Value × Value × Value) (I:=Inv) (A:=?_) [false,false,false,false,false,false,false,false] [16,17,18,19,20,21,5] (fun v=>[v.1,v.2.1,v.2.2.1,v.2.2.2.1,v.2.2.2.2.1,v.2.2.2.2.2.1,v.2.2.2.2.2.2]) (fun a=>(a.tmps.getD 16 undef,a.tmps.getD 17 undef,a.tmps.getD 18 undef,a.tmps.getD 19 undef,a.tmps.getD 20 undef,a.tmps.getD 21 undef,a.tmps.getD 5 undef)) ?_ ?_ (by kernel_rfl) (by kernel_rfl) (by kernel_rfl) (by kernel_rfl) (by kernel_rfl) ?_ ?_ ?_
  rotate_left 1
  ·intro v;simp only [fillA,Act.put,tA,cZ,cS];rfl
  ·rfl
  ·rw [hInv]
   exact ⟨(hw.out.trans (hB.mono hw.out.size)),(fun _=>hB),(fun h=>absurd h (by decide)),(fun h=>absurd h (by decide)),(fun h _=>absurd h (by decide)),(fun h _=>absurd h (by decide)),(fun h _=>absurd h (by decide)),(fun h _=>absurd h (by decide)),(⟨_,_,_,_,BR.out.below hB⟩),(fun h=>absurd h (by decide)),(fun h=>absurd h (by decide))⟩
  ·skip
   refine EachFrom.cons (k:=0) rfl rfl (ds:=[]) (by kernel_rfl) (fun v x=>(x,v.2.1,v.2.2.1,v.2.2.2.1,v.2.2.2.2.1,v.2.2.2.2.2.1,v.2.2.2.2.2.2)) (fun v x=>by rfl) (fun b v wz hb0 hcl hbk hdep hI Kc hK=>?_) ?_
   ·skip
    rw [hInv] at hI
    obtain ⟨x16,x17,x18,x19,x20,x21,x5⟩:=v
    dsimp only at hI hK ⊢
    (try simp only [Act.put] at hK);(try simp only [tA] at hK);(try simp only [cS] at hK);(try simp only [cZ] at hK)
    obtain ⟨fn,famb,f16,f18,f17,f19,f20,f21,fbr,fres,f5⟩:=hI
    (try simp only [gA]);(try simp only [gS]);(try simp only [gZ])
    have hA:=famb (by cases h:b 6 with | false=>rfl | true=>exact absurd ((show AllT b [5,5,0,1,2,3,4,5] from hcl 6 _ rfl h).2.2.1) (by rw [hbk];decide))
    obtain ⟨a0,a1,a2,a3,-,-,-,-,-⟩:=B1.out.below hA
    go_simp
    refine hK.out _ _ trivial ?_
    rw [hInv]
    exact ⟨(fn),(fun h0=>famb h0),(fun h0=>rfl),(fun h0=>f18 h0),(fun h _=>absurd ((show AllT b [0] from hcl 1 _ rfl h).1) (by rw [hbk];decide)),(fun h _=>absurd ((show AllT b [0] from hcl 1 _ rfl ((show AllT b [2,1] from hcl 3 _ rfl h).2.1)).1) (by rw [hbk];decide)),(fun h _=>absurd ((show AllT b [0] from hcl 1 _ rfl ((show AllT b [1,3,3] from hcl 4 _ rfl h).1)).1) (by rw [hbk];decide)),(fun h _=>absurd ((show AllT b [0] from hcl 1 _ rfl ((show AllT b [1,3,3] from hcl 4 _ rfl ((show AllT b [4,4] from hcl 5 _ rfl h).1)).1)).1) (by rw [hbk];decide)),(fbr),(fun h=>absurd ((show AllT b [5,5,0,1,2,3,4,5] from hcl 6 _ rfl h).2.2.1) (by rw [hbk];decide)),(fun h=>absurd ((show AllT b [6,0,1,2,3,4,5,6] from hcl 7 _ rfl h).2.1) (by rw [hbk];decide))⟩
   refine EachFrom.cons (k:=1) rfl rfl (ds:=[0]) (by kernel_rfl) (fun v x=>(v.1,x,v.2.2.1,v.2.2.2.1,v.2.2.2.2.1,v.2.2.2.2.2.1,v.2.2.2.2.2.2)) (fun v x=>by rfl) (fun b v wz hb0 hcl hbk hdep hI Kc hK=>?_) ?_
   ·skip
    rw [hInv] at hI
    obtain ⟨x16,x17,x18,x19,x20,x21,x5⟩:=v
    dsimp only at hI hK ⊢
    (try simp only [Act.put] at hK);(try simp only [tA] at hK);(try simp only [cS] at hK);(try simp only [cZ] at hK)
    obtain ⟨fn,famb,f16,f18,f17,f19,f20,f21,fbr,fres,f5⟩:=hI
    obtain ⟨d0,-⟩:=hdep
    (try simp only [gA]);(try simp only [gS]);(try simp only [gZ])
    obtain rfl:=f16 d0
    have hA:=famb (by cases h:b 6 with | false=>rfl | true=>exact absurd ((show AllT b [5,5,0,1,2,3,4,5] from hcl 6 _ rfl h).2.2.2.1) (by rw [hbk];decide))
    go_simp
    (go_at_call 36;refine (Neg_any _ m c L _ (Y.out.below hA) (by omega)).mono ?_;rintro e w1 ⟨⟨y1,y2,y3,y4,y5,y6,y7,y8,rfl,hz⟩,hb⟩)
    refine hK.out _ _ trivial ?_
    rw [hInv]
    exact ⟨((fn).trans (hb.mono (fn).size)),(fun h0=>(famb h0).trans (hb.mono (famb h0).size)),(fun h0=>f16 h0),(fun h0=>f18 h0),(fun h0 h1=>hz),(fun h _=>absurd ((show AllT b [2,1] from hcl 3 _ rfl h).2.1) (by rw [hbk];decide)),(fun h _=>absurd ((show AllT b [1,3,3] from hcl 4 _ rfl h).1) (by rw [hbk];decide)),(fun h _=>absurd ((show AllT b [1,3,3] from hcl 4 _ rfl ((show AllT b [4,4] from hcl 5 _ rfl h).1)).1) (by rw [hbk];decide)),(let ⟨v0,v1,v2,v3,hz⟩:=fbr;⟨v0,v1,v2,v3,hz.below hb⟩),(fun h=>absurd ((show AllT b [5,5,0,1,2,3,4,5] from hcl 6 _ rfl h).2.2.2.1) (by rw [hbk];decide)),(fun h=>absurd ((show AllT b [6,0,1,2,3,4,5,6] from hcl 7 _ rfl h).2.2.1) (by rw [hbk];decide))⟩
   refine EachFrom.cons (k:=2) rfl rfl (ds:=[]) (by kernel_rfl) (fun v x=>(v.1,v.2.1,x,v.2.2.2.1,v.2.2.2.2.1,v.2.2.2.2.2.1,v.2.2.2.2.2.2)) (fun v x=>by rfl) (fun b v wz hb0 hcl hbk hdep hI Kc hK=>?_) ?_
   ·skip
    rw [hInv] at hI
    obtain ⟨x16,x17,x18,x19,x20,x21,x5⟩:=v
    dsimp only at hI hK ⊢
    (try simp only [Act.put] at hK);(try simp only [tA] at hK);(try simp only [cS] at hK);(try simp only [cZ] at hK)
    obtain ⟨fn,famb,f16,f18,f17,f19,f20,f21,fbr,fres,f5⟩:=hI
    (try simp only [gA]);(try simp only [gS]);(try simp only [gZ])
    have hA:=famb (by cases h:b 6 with | false=>rfl | true=>exact absurd ((show AllT b [5,5,0,1,2,3,4,5] from hcl 6 _ rfl h).2.2.2.2.1) (by rw [hbk];decide))
    obtain ⟨a0,a1,a2,a3,-,-,-,-,-⟩:=B0.out.below hA
    go_simp
    refine hK.out _ _ trivial ?_
    rw [hInv]
    exact ⟨(fn),(fun h0=>famb h0),(fun h0=>f16 h0),(fun h0=>rfl),(fun h0 h1=>f17 h0 h1),(fun h _=>absurd ((show AllT b [2,1] from hcl 3 _ rfl h).1) (by rw [hbk];decide)),(fun h _=>absurd ((show AllT b [2,1] from hcl 3 _ rfl ((show AllT b [1,3,3] from hcl 4 _ rfl h).2.1)).1) (by rw [hbk];decide)),(fun h _=>absurd ((show AllT b [2,1] from hcl 3 _ rfl ((show AllT b [1,3,3] from hcl 4 _ rfl ((show AllT b [4,4] from hcl 5 _ rfl h).1)).2.1)).1) (by rw [hbk];decide)),(fbr),(fun h=>absurd ((show AllT b [5,5,0,1,2,3,4,5] from hcl 6 _ rfl h).2.2.2.2.1) (by rw [hbk];decide)),(fun h=>absurd ((show AllT b [6,0,1,2,3,4,5,6] from hcl 7 _ rfl h).2.2.2.1) (by rw [hbk];decide))⟩
   refine EachFrom.cons (k:=3) rfl rfl (ds:=[2,1]) (by kernel_rfl) (fun v x=>(v.1,v.2.1,v.2.2.1,x,v.2.2.2.2.1,v.2.2.2.2.2.1,v.2.2.2.2.2.2)) (fun v x=>by rfl) (fun b v wz hb0 hcl hbk hdep hI Kc hK=>?_) ?_
   ·skip
    rw [hInv] at hI
    obtain ⟨x16,x17,x18,x19,x20,x21,x5⟩:=v
    dsimp only at hI hK ⊢
    (try simp only [Act.put] at hK);(try simp only [tA] at hK);(try simp only [cS] at hK);(try simp only [cZ] at hK)
    obtain ⟨fn,famb,f16,f18,f17,f19,f20,f21,fbr,fres,f5⟩:=hI
    obtain ⟨d2,d1,-⟩:=hdep
    (try simp only [gA]);(try simp only [gS]);(try simp only [gZ])
    obtain rfl:=f18 d2
    have hA:=famb (by cases h:b 6 with | false=>rfl | true=>exact absurd ((show AllT b [5,5,0,1,2,3,4,5] from hcl 6 _ rfl h).2.2.2.2.2.1) (by rw [hbk];decide))
    go_simp
    (go_at_call 36;refine (Neg_any _ n d L _ (X.out.below hA) (by omega)).mono ?_;rintro e w1 ⟨⟨y1,y2,y3,y4,y5,y6,y7,y8,rfl,hz⟩,hb⟩)
    refine hK.out _ _ trivial ?_
    rw [hInv]
    exact ⟨((fn).trans (hb.mono (fn).size)),(fun h0=>(famb h0).trans (hb.mono (famb h0).size)),(fun h0=>f16 h0),(fun h0=>f18 h0),(fun h0 h1=>(f17 h0 h1).below hb),(fun h0 h1=>hz),(fun h _=>absurd ((show AllT b [1,3,3] from hcl 4 _ rfl h).2.1) (by rw [hbk];decide)),(fun h _=>absurd ((show AllT b [1,3,3] from hcl 4 _ rfl ((show AllT b [4,4] from hcl 5 _ rfl h).1)).2.1) (by rw [hbk];decide)),(let ⟨v0,v1,v2,v3,hz⟩:=fbr;⟨v0,v1,v2,v3,hz.below hb⟩),(fun h=>absurd ((show AllT b [5,5,0,1,2,3,4,5] from hcl 6 _ rfl h).2.2.2.2.2.1) (by rw [hbk];decide)),(fun h=>absurd ((show AllT b [6,0,1,2,3,4,5,6] from hcl 7 _ rfl h).2.2.2.2.1) (by rw [hbk];decide))⟩
   refine EachFrom.cons (k:=4) rfl rfl (ds:=[1,3,3]) (by kernel_rfl) (fun v x=>(v.1,v.2.1,v.2.2.1,v.2.2.2.1,x,v.2.2.2.2.2.1,v.2.2.2.2.2.2)) (fun v x=>by rfl) (fun b v wz hb0 hcl hbk hdep hI Kc hK=>?_) ?_
   ·skip
    rw [hInv] at hI
    obtain ⟨x16,x17,x18,x19,x20,x21,x5⟩:=v
    dsimp only at hI hK ⊢
    (try simp only [Act.put] at hK);(try simp only [tA] at hK);(try simp only [cS] at hK);(try simp only [cZ] at hK)
    obtain ⟨fn,famb,f16,f18,f17,f19,f20,f21,fbr,fres,f5⟩:=hI
    obtain ⟨d1,d3,-,-⟩:=hdep
    (try simp only [gA]);(try simp only [gS]);(try simp only [gZ])
    go_simp
    (go_at_call 107;refine (between_any _ _ (-m) c (-n) d L _ (f17 d1 (by cases h:b 6 with | false=>rfl | true=>exact absurd ((show AllT b [5,5,0,1,2,3,4,5] from hcl 6 _ rfl h).2.2.2.2.2.2.1) (by rw [hbk];decide))) (f19 d3 (by cases h:b 6 with | false=>rfl | true=>exact absurd ((show AllT b [5,5,0,1,2,3,4,5] from hcl 6 _ rfl h).2.2.2.2.2.2.1) (by rw [hbk];decide))) hL hL2 ⟨by have:=HM.out;omega,hdc.out.2,hdc.out.1,range_neg HO.out⟩).mono ?_;rintro e w1 ⟨N,D,hsim,⟨y1,y2,y3,y4,y5,y6,y7,y8,rfl,hz⟩,hb⟩)
    refine hK.out _ _ trivial ?_
    rw [hInv]
    exact ⟨((fn).trans (hb.mono (fn).size)),(fun h0=>(famb h0).trans (hb.mono (famb h0).size)),(fun h0=>f16 h0),(fun h0=>f18 h0),(fun h0 h1=>(f17 h0 h1).below hb),(fun h0 h1=>(f19 h0 h1).below hb),(fun h0 h1=>⟨_,_,hsim,hz⟩),(fun h _=>absurd ((show AllT b [4,4] from hcl 5 _ rfl h).1) (by rw [hbk];decide)),(let ⟨v0,v1,v2,v3,hz⟩:=fbr;⟨v0,v1,v2,v3,hz.below hb⟩),(fun h=>absurd ((show AllT b [5,5,0,1,2,3,4,5] from hcl 6 _ rfl h).2.2.2.2.2.2.1) (by rw [hbk];decide)),(fun h=>absurd ((show AllT b [6,0,1,2,3,4,5,6] from hcl 7 _ rfl h).2.2.2.2.2.1) (by rw [hbk];decide))⟩
   refine EachFrom.cons (k:=5) rfl rfl (ds:=[4,4]) (by kernel_rfl) (fun v x=>(v.1,v.2.1,v.2.2.1,v.2.2.2.1,v.2.2.2.2.1,x,v.2.2.2.2.2.2)) (fun v x=>by rfl) (fun b v wz hb0 hcl hbk hdep hI Kc hK=>?_) ?_
   ·skip
    rw [hInv] at hI
    obtain ⟨x16,x17,x18,x19,x20,x21,x5⟩:=v
    dsimp only at hI hK ⊢
    (try simp only [Act.put] at hK);(try simp only [tA] at hK);(try simp only [cS] at hK);(try simp only [cZ] at hK)
    obtain ⟨fn,famb,f16,f18,f17,f19,f20,f21,fbr,fres,f5⟩:=hI
    obtain ⟨d4,-,-⟩:=hdep
    (try simp only [gA]);(try simp only [gS]);(try simp only [gZ])
    obtain ⟨N,D,hsim,hN⟩:=f20 d4 (by cases h:b 6 with | false=>rfl | true=>exact absurd ((show AllT b [5,5,0,1,2,3,4,5] from hcl 6 _ rfl h).1) (by rw [hbk];decide))
    go_simp
    (go_at_call 36;refine (Neg_any _ N D L _ hN (by omega)).mono ?_;rintro e w1 ⟨⟨y1,y2,y3,y4,y5,y6,y7,y8,rfl,hz⟩,hb⟩)
    refine hK.out _ _ trivial ?_
    rw [hInv]
    exact ⟨((fn).trans (hb.mono (fn).size)),(fun h0=>(famb h0).trans (hb.mono (famb h0).size)),(fun h0=>f16 h0),(fun h0=>f18 h0),(fun h0 h1=>(f17 h0 h1).below hb),(fun h0 h1=>(f19 h0 h1).below hb),(fun h0 h1=>let ⟨N,D,hs,hz⟩:=f20 h0 h1;⟨N,D,hs,hz.below hb⟩),(fun h0 h1=>⟨N,D,hsim,hz⟩),(let ⟨v0,v1,v2,v3,hz⟩:=fbr;⟨v0,v1,v2,v3,hz.below hb⟩),(fun h=>absurd ((show AllT b [5,5,0,1,2,3,4,5] from hcl 6 _ rfl h).1) (by rw [hbk];decide)),(fun h=>absurd ((show AllT b [6,0,1,2,3,4,5,6] from hcl 7 _ rfl h).2.2.2.2.2.2.1) (by rw [hbk];decide))⟩
   refine EachFrom.cons (k:=6) rfl rfl (ds:=[5,5,0,1,2,3,4,5]) (by kernel_rfl) (fun v _=>v) (fun v x=>by rfl) (fun b v wz hb0 hcl hbk hdep hI Kc hK=>?_) ?_
   ·skip
    rw [hInv] at hI
    obtain ⟨x16,x17,x18,x19,x20,x21,x5⟩:=v
    dsimp only at hI hK ⊢
    (try simp only [Act.put] at hK);(try simp only [tA] at hK);(try simp only [cS] at hK);(try simp only [cZ] at hK)
    obtain ⟨fn,famb,f16,f18,f17,f19,f20,f21,fbr,fres,f5⟩:=hI
    obtain ⟨d5,-,d0,d1,d2,d3,d4,-,-⟩:=hdep
    (try simp only [gA]);(try simp only [gS]);(try simp only [gZ])
    obtain rfl:=f16 d0
    obtain rfl:=f18 d2
    have FB:=BR.out.below (famb hbk)
    obtain ⟨N,D,hsim,hN⟩:=f21 d5 hbk
    obtain ⟨u1,K1,l1,o1,u2,K2,l2,o2,rfl⟩:=hN.form
    obtain ⟨r0,r1,r2,r3,r4,r5,r6,r7,r8⟩:=id FB
    go_simp
    refine hK.out (undef) _ trivial ?_
    rw [hInv]
    exact ⟨((below_put4 fn (by omega) _ _ _ _)),(fun h=>absurd (show true = false from h) (by decide)),(fun h0=>f16 h0),(fun h0=>f18 h0),(fun _ h=>absurd (show true = false from h) (by decide)),(fun _ h=>absurd (show true = false from h) (by decide)),(fun _ h=>absurd (show true = false from h) (by decide)),(fun _ h=>absurd (show true = false from h) (by decide)),⟨_,_,_,_,FB.put _ _ _ _⟩,(fun h0=>⟨N,D,hsim,_,_,_,_,_,_,_,_,FB.put _ _ _ _,hN.put4 FB _ _ _ _⟩),(fun h=>absurd ((show AllT b [6,0,1,2,3,4,5,6] from hcl 7 _ rfl h).1) (by rw [hbk];decide))⟩
   refine EachFrom.cons (k:=7) rfl rfl (ds:=[6,0,1,2,3,4,5,6]) (by kernel_rfl) (fun v x=>(v.1,v.2.1,v.2.2.1,v.2.2.2.1,v.2.2.2.2.1,v.2.2.2.2.2.1,x)) (fun v x=>by rfl) (fun b v wz hb0 hcl hbk hdep hI Kc hK=>?_) ?_
   ·skip
    rw [hInv] at hI
    obtain ⟨x16,x17,x18,x19,x20,x21,x5⟩:=v
    dsimp only at hI hK ⊢
    (try simp only [Act.put] at hK);(try simp only [tA] at hK);(try simp only [cS] at hK);(try simp only [cZ] at hK)
    obtain ⟨fn,famb,f16,f18,f17,f19,f20,f21,fbr,fres,f5⟩:=hI
    obtain ⟨d6,d0,d1,d2,d3,d4,d5,-,-⟩:=hdep
    (try simp only [gA]);(try simp only [gS]);(try simp only [gZ])
    obtain rfl:=f16 d0
    obtain rfl:=f18 d2
    go_simp
    refine hK.out _ _ trivial ?_
    rw [hInv]
    exact ⟨(fn),(fun h=>absurd (show b 6 = false from h) (by rw [d6];decide)),(fun h0=>f16 h0),(fun h0=>f18 h0),(fun _ h=>absurd (show b 6 = false from h) (by rw [d6];decide)),(fun _ h=>absurd (show b 6 = false from h) (by rw [d6];decide)),(fun _ h=>absurd (show b 6 = false from h) (by rw [d6];decide)),(fun _ h=>absurd (show b 6 = false from h) (by rw [d6];decide)),(fbr),fres,(fun h0=>rfl)⟩
   exact EachFrom.nil (by kernel_rfl)
  ·intro v wF hI
   rw [hInv] at hI
   obtain ⟨x16,x17,x18,x19,x20,x21,x5⟩:=v
   dsimp only at hI ⊢
   obtain ⟨fn,famb,f16,f18,f17,f19,f20,f21,fbr,fres,f5⟩:=hI
   clear famb
   replace f16:=f16 rfl
   replace f18:=f18 rfl
   clear f17
   clear f19
   clear f20
   clear f21
   replace fres:=fres rfl
   replace f5:=f5 rfl
   clear hInv hB
   obtain rfl:=f5
   obtain ⟨N,D,hsim,u1,K1,l1,o1,u2,K2,l2,o2,FB,hN⟩:=fres
   have HS:=Hd hsim
   have HN:=Hd hN
   have HFN:=Hd fn
   clear hsim hN fn f16 f18
   obtain ⟨r0,r1,r2,r3,-,-,-,-,-⟩:=FB
   go_wp2
   exact bodyPost_ret (v:=.tuple #[.agg #[.bool u1,.slice K1 l1 o1,.bool u2,.slice K2 l2 o2],.int .i64 0]) (by simp [results,Tryz.results54,go_sem,r0,r1,r2,r3]) rfl (Or.inr ⟨HO.out,-N,D,HS.out.neg,⟨_,_,_,_,_,_,_,_,rfl,HN.out⟩,HFN.out⟩)
 have hcm:¬ cmpI m 0 < 0:=by unfold cmpI;rw [if_neg hm];split <;> decide
 have HM:=Hd (Int.not_lt.1 hm)
 clear hm
 obtain ⟨a00,a01,a02,a03,-,-,-,-,-⟩:=B0.out
 go_wp2_with fail
 refine (Sign_any _ n d L _ X.out).mono ?_
 rintro e w3 ⟨rfl,hb1⟩
 clear a00 a01 a02 a03
 replace B0:=Hd (B0.out.below hb1)
 replace B1:=Hd (B1.out.below hb1)
 replace BR:=Hd (BR.out.below hb1)
 replace X:=Hd (X.out.below hb1)
 replace Y:=Hd (Y.out.below hb1)
 replace hw:=Hd (hw.out.trans (hb1.mono hw.out.size))
 clear hb1 hcm
 by_cases hn:0 < n
 ·skip
  have hcm:cmpI n 0 > 0:=by rw [cmpI_gt hn];decide
  have HN:=Hd hn
  clear hn
  obtain ⟨a00,a01,a02,a03,-,-,-,-,-⟩:=B0.out
  obtain ⟨a10,a11,a12,a13,-,-,-,-,-⟩:=B1.out
  go_wp2_with fail
  refine (between_any _ _ n d m c L _ X.out Y.out hL hL2 ⟨HN.out,hdc.out.1,hdc.out.2,HO.out⟩).mono ?_
  rintro e w4 ⟨N,D,hsim,⟨u1,K1,l1,o1,u2,K2,l2,o2,rfl,hz⟩,hb1⟩
  have HZ:=Hd hz
  have HS:=Hd hsim
  clear hz hsim
  clear a00 a01 a02 a03
  clear a10 a11 a12 a13
  replace B0:=Hd (B0.out.below hb1)
  replace B1:=Hd (B1.out.below hb1)
  replace BR:=Hd (BR.out.below hb1)
  replace X:=Hd (X.out.below hb1)
  replace Y:=Hd (Y.out.below hb1)
  replace hw:=Hd (hw.out.trans (hb1.mono hw.out.size))
  clear hb1 hcm
  obtain ⟨r0,r1,r2,r3,r4,r5,r6,r7,r8⟩:=BR.out
  go_wp2
  exact bodyPost_ret (v:=.tuple #[.agg #[.bool u1,.slice K1 l1 o1,.bool u2,.slice K2 l2 o2],.int .i64 0]) (by simp [results,Tryz.results54,go_sem,r0,r1,r2,r3]) rfl (Or.inr ⟨HO.out,N,D,HS.out.abs,⟨_,_,_,_,_,_,_,_,rfl,HZ.out.put4 BR.out _ _ _ _⟩,below_put4 hw.out (by omega) _ _ _ _⟩)
 have hcm:¬ cmpI n 0 > 0:=cmp_leq (Int.not_lt.1 hn)
 have HN:=Hd (Int.not_lt.1 hn)
 clear hn
 obtain ⟨r0,r1,r2,r3,r4,r5,r6,r7,r8⟩:=BR.out
 go_wp2
 refine bodyPost_ret (v:=.tuple #[.agg #[.bool false,.slice none 0 0,.bool false,.slice none 0 0],.int .i64 0]) (by simp [results,Tryz.results54,go_sem,r0,r1,r2,r3]) rfl (Or.inr ⟨HO.out,0,1,SimpZ.zero HM.out HN.out,⟨⟨false,none,0,0,false,none,0,0,rfl,_,_,_,_,_,_,_,_,rfl,Ival.nought,Ival.nought,by decide,by decide⟩,below_put4 hw.out (by omega) _ _ _ _⟩⟩)
def TextRel (R x:Int) (T:ByteArray) (err:Int) : Prop:=
 ((R < 2 \/ 36 < R) /\ T = ⟨#[]⟩ /\ err = 1) \/ (2 <= R /\ R <= 36 /\ x = 0 /\ T = ⟨#[48]⟩ /\ err = 0) \/
 (2 <= R /\ R <= 36 /\ x ≠ 0 /\ err = 0 /\ ∃ ds,DigitsOf R (if x < 0 then -x else x) ds /\ bs T = textBytes (decide (x < 0)) ds)
theorem TextRel.det {R x:Int} {T T':ByteArray} {r r':Int} (h:TextRel R x T r) (g:TextRel R x T' r') : T = T' /\ r = r':=by
 unfold TextRel at h g
 rcases h with h | h | h <;> rcases g with g | g | g
 ·exact ⟨h.2.1.trans g.2.1.symm,h.2.2.trans g.2.2.symm⟩
 ·exfalso;have:=h.1;have:=g.1;have:=g.2.1;omega
 ·exfalso;have:=h.1;have:=g.1;have:=g.2.1;omega
 ·exfalso;have:=g.1;have:=h.1;have:=h.2.1;omega
 ·exact ⟨h.2.2.2.1.trans g.2.2.2.1.symm,h.2.2.2.2.trans g.2.2.2.2.symm⟩
 ·exact absurd h.2.2.1 g.2.2.1
 ·exfalso;have:=g.1;have:=h.1;have:=h.2.1;omega
 ·exact absurd g.2.2.1 h.2.2.1
 ·obtain ⟨hR,_,_,he,ds,hd,hb⟩:=h
  obtain ⟨_,_,_,ge,es,gd,gb⟩:=g
  have:=digits_unique hR hd gd
  subst this
  exact ⟨bs_inj (hb.trans gb.symm),he.trans ge.symm⟩
theorem textBytes_ok {R z:Int} {ds:List Int} {neg:Bool} (h:DigitsOf R z ds) (hR:R <= 36) : ∀ x ∈ textBytes neg ds,0 <= x /\ x < 256:=by
 intro x hx
 unfold textBytes at hx
 rcases List.mem_append.1 hx with hx | hx
 ·cases neg with
  | false=>simp at hx
  | true=>simp at hx;subst hx;decide
 ·rw [List.mem_reverse] at hx
  obtain ⟨d,hd,rfl⟩:=List.mem_map.1 hx
  have:=h.1 d hd
  exact nameOf_byte this.1 (by omega)
theorem Text_all (u:Value) (x R:Int) (L:Nat) (w:World) (h:Ival w u x L) (hL:L <= 1048576) :
  Calls Tryz.prog 109 #[u,.int .i64 R] w fun e w'=>(∃ T err,e = .returned (.tuple #[.string T,.int .i64 err]) /\ TextRel R x T err) /\ Below w.heap.size w w':=by
 by_cases hR:R < 2 \/ 36 < R
 ·refine (Text_bad u x R L w h hR).mono ?_
  rintro e w' ⟨rfl,hb⟩
  exact ⟨⟨_,_,rfl,.inl ⟨hR,rfl,rfl⟩⟩,hb⟩
 have h0:2 <= R:=by omega
 have h1:R <= 36:=by omega
 by_cases hx:x = 0
 ·subst hx
  refine (Text_zero u R L w h h0 h1).mono ?_
  rintro e w' ⟨rfl,hb⟩
  exact ⟨⟨_,_,rfl,.inr (.inl ⟨h0,h1,rfl,rfl,rfl⟩)⟩,hb⟩
 ·refine (Text_some u x R L w h hL h0 h1 hx).mono ?_
  rintro e w' ⟨⟨ds,hd,rfl⟩,hb⟩
  exact ⟨⟨_,_,rfl,.inr (.inr ⟨h0,h1,hx,rfl,ds,hd,bs_strOf (textBytes_ok hd h1)⟩)⟩,hb⟩
def TextOf (R x:Int) (ds:List Int) (T:ByteArray) : Prop:=
 DigR R ds /\ valR R ds = (if x < 0 then -x else x) /\ ds ≠ [] /\ (ds.getLastD 0 ≠ 0 \/ x = 0 /\ ds = [0]) /\ bs T = textBytes (decide (x < 0)) ds
theorem TextRel.of {R x:Int} {T:ByteArray} {r:Int} (h:TextRel R x T r) (h0:2 <= R) (h1:R <= 36) : r = 0 /\ ∃ ds,TextOf R x ds T:=by
 rcases h with ⟨h,_⟩ | ⟨_,_,rfl,rfl,rfl⟩ | ⟨_,_,hx,rfl,ds,⟨a,b,c,d⟩,e⟩
 ·omega
 ·exact ⟨rfl,[0],fun d hd=>by simp at hd;omega,by simp [valR],by simp,.inr ⟨rfl,rfl⟩,rfl⟩
 ·exact ⟨rfl,ds,a,b,c,.inl d,e⟩
theorem head_name {f:Int -> Int} {ds:List Int} (h:ds ≠ []) (a:Int) : ((ds.map f).reverse).headD a = f (ds.getLastD 0):=by
 obtain ⟨l,d,rfl⟩ : ∃ l d,ds = l ++ [d]:=⟨ds.dropLast,ds.getLast h,(List.dropLast_concat_getLast h).symm⟩
 simp
theorem lastD_mem {ds:List Int} (h:ds ≠ []) : ds.getLastD 0 ∈ ds:=by
 rw [List.getLastD_eq_getLast?,List.getLast?_eq_some_getLast h];exact List.getLast_mem h
theorem bs_mk (l:List UInt8) : bs ⟨l.toArray⟩ = l.map fun b=>(b.toNat:Int):=by
 unfold bs;simp
theorem prefix_is (T:ByteArray) (c:UInt8) (hc:c.toNat ≠ 0) : Lib.hasPrefix T.data.toList [c] = decide ((bs T).headD 0 = (c.toNat:Int)):=by
 unfold Lib.hasPrefix bs
 cases h:T.data.toList with
 | nil=>
  rw [List.map_nil,decide_eq_false (by simp;omega)];rfl
 | cons a r=>
  simp only [List.isPrefixOf,List.map_cons,List.headD_cons,Bool.and_true]
  by_cases e:c = a
  ·subst e;simp
  ·have e2:¬ ((a.toNat:Int) = (c.toNat:Int)):=fun h=>e (UInt8.toNat_inj.1 (by omega))
   rw [decide_eq_false e2];simpa using e
theorem trim_bs (T:ByteArray) : bs ⟨(Lib.trimPrefix T.data.toList [45]).toArray⟩ = if (bs T).headD 0 = 45 then (bs T).tail else bs T:=by
 unfold Lib.trimPrefix
 rw [prefix_is T 45 (by decide),bs_mk]
 by_cases h:(bs T).headD 0 = 45
 ·rw [if_pos (by simpa using h),if_pos h]
  unfold bs
  cases T.data.toList <;> simp
 ·rw [if_neg (by simpa using h),if_neg h]
  rfl
theorem valR_last_ge {R:Int} (hR:2 <= R) {ds:List Int} (hd:DigR R ds) (hne:ds ≠ []) (hl:ds.getLastD 0 ≠ 0) : R ^ (ds.length - 1) <= valR R ds:=by
 obtain ⟨l,d,rfl⟩ : ∃ l d,ds = l ++ [d]:=⟨ds.dropLast,ds.getLast hne,(List.dropLast_concat_getLast hne).symm⟩
 have hd0:=(hd d (by simp)).1
 have hl0:d ≠ 0:=by simpa [List.getLastD_concat] using hl
 have h1:=valR_nonneg (by omega:(0:Int) <= R) (fun x hx=>hd x (by simp [hx]) : DigR R l)
 rw [valR_append]
 have e:(l ++ [d]).length - 1 = l.length:=by simp
 rw [e]
 have h2:(0:Int) <= R ^ l.length:=Int.pow_nonneg (by omega)
 have h3:R ^ l.length * 1 <= R ^ l.length * d:=Int.mul_le_mul_of_nonneg_left (by omega) h2
 have h4:valR R [d] = d:=by simp [valR]
 rw [h4];omega
theorem body_head {R:Int} {ds:List Int} (hR:R <= 36) (hd:DigR R ds) (hne:ds ≠ []) (a:Int) : 48 <= ((ds.map nameOf).reverse).headD a /\ ((ds.map nameOf).reverse).headD a <= 90:=by
 rw [head_name hne]
 have:=hd _ (lastD_mem hne)
 unfold nameOf;split <;> omega
theorem TextOf.parts {R x:Int} {ds:List Int} {T:ByteArray} (h:TextOf R x ds T) (hR:R <= 36) :
  bs ⟨(Lib.trimPrefix T.data.toList [45]).toArray⟩ = (ds.map nameOf).reverse /\ Lib.hasPrefix T.data.toList [45] = decide (x < 0):=by
 obtain ⟨hd,hv,hne,hl,ht⟩:=h
 have hh:=body_head hR hd hne 0
 have e:(bs T).headD 0 = 45 ↔ x < 0:=by
  rw [ht]
  by_cases hx:x < 0
  ·simp [textBytes,hx]
  ·have e2:textBytes (decide (x < 0)) ds = (ds.map nameOf).reverse:=by rw [decide_eq_false hx];rfl
   rw [e2]
   exact ⟨fun h=>by omega,fun h=>absurd h hx⟩
 refine ⟨?_,?_⟩
 ·rw [trim_bs]
  by_cases hx:x < 0
  ·rw [if_pos (e.2 hx),ht,decide_eq_true hx];rfl
  ·rw [if_neg (fun h=>hx (e.1 h)),ht,decide_eq_false hx];rfl
 ·rw [prefix_is T 45 (by decide)]
  exact decide_eq_decide.2 e
theorem TextOf.len {R x:Int} {ds:List Int} {T:ByteArray} {L:Nat} (h:TextOf R x ds T) (hR:2 <= R) (hx:(if x < 0 then -x else x) < BB ^ L) (_:1 <= L) : ds.length <= 32 * L + 1:=by
 obtain ⟨hd,hv,hne,hl,ht⟩:=h
 rcases hl with hl | ⟨_,rfl⟩
 ·have h1:=valR_last_ge hR hd hne hl
  rw [hv] at h1
  have:=len_bound hR h1 hx
  omega
 ·simp
theorem ival_lt {w:World} {u:Value} {x:Int} {L:Nat} (h:Ival w u x L) : (if x < 0 then -x else x) < BB ^ L:=by
 obtain ⟨neg,s,a,rfl,hn,h0,rfl,hz⟩:=h
 have h1:=hn.lt
 cases neg with
 | true=>have:=hz rfl;simp only [withSign,if_true];rw [if_pos (by omega)];omega
 | false=>simp only [withSign,Bool.false_eq_true,if_false];rw [if_neg (by omega)];exact h1
theorem TextRel.size {R x:Int} {T:ByteArray} {r:Int} {L:Nat} (h:TextRel R x T r) (hx:(if x < 0 then -x else x) < BB ^ L) (hL:1 <= L) : T.size <= 32 * L + 2:=by
 by_cases hR:2 <= R /\ R <= 36
 ·obtain ⟨_,ds,ho⟩:=h.of hR.1 hR.2
  have h1:=ho.len hR.1 hx hL
  have h2:=ho.2.2.2.2
  rw [<- bs_length,h2]
  unfold textBytes
  rw [List.length_append,List.length_reverse,List.length_map]
  split <;> simp <;> omega
 ·rcases h with ⟨_,rfl,_⟩ | ⟨a,b,_⟩ | ⟨a,b,_⟩
  ·show 0 <= _;omega
  ·exact absurd ⟨a,b⟩ hR
  ·exact absurd ⟨a,b⟩ hR
def QText (R n d:Int) (T:ByteArray) (err:Int) : Prop:=
 ∃ T1,TextRel R n T1 err /\ ((err ≠ 0 \/ d = 1) /\ T = T1 \/ err = 0 /\ d ≠ 1 /\ ∃ T2,TextRel R d T2 0 /\ T = T1 ++ ⟨#[47]⟩ ++ T2)
theorem TextRel.err {R x:Int} {T:ByteArray} {r:Int} (h:TextRel R x T r) : r = 0 /\ 2 <= R /\ R <= 36 \/ r = 1 /\ (R < 2 \/ 36 < R):=by
 rcases h with ⟨a,_,b⟩ | ⟨a,b,_,_,c⟩ | ⟨a,b,_,c,_⟩
 ·exact .inr ⟨b,a⟩
 ·exact .inl ⟨c,a,b⟩
 ·exact .inl ⟨c,a,b⟩
theorem Text_q (v:Value) (n d R:Int) (L:Nat) (w:World) (h:Rat w v n d L) (hL:L <= 400000) (hL2:2 <= L) :
  Calls Tryz.prog 56 #[v,.int .i64 R] w fun e w'=>(∃ T err,e = .returned (.tuple #[.string T,.int .i64 err]) /\ QText R n d T err) /\ Below w.heap.size w w':=by
 obtain ⟨g1,A1,n1,c1,e1,E1,m1,d1,rfl⟩:=h.form
 have hW:=below_alloc w (.cells #[.bool g1,.slice A1 n1 c1,.bool e1,.slice E1 m1 d1] 38)
 have X:=Hd (h.below hW)
 have B0:=Hd (Fx4.new w (.bool g1) (.slice A1 n1 c1) (.bool e1) (.slice E1 m1 d1) 38)
 have hd:=X.out.parts.2.2.1
 clear h
 go_enter Tryz.func56,Tryz.ntmps56
 go_wp2_with fail
 refine (Text_all _ n R L _ X.out.parts.1 (by omega)).mono ?_
 rintro e w1 ⟨⟨T1,r1,rfl,ht1⟩,hb⟩
 have hw:=hW.trans (hb.mono hW.size)
 have HT1:=Hd ht1
 have hsz:=ht1.size (ival_lt X.out.parts.1) (by omega)
 replace X:=Hd (X.out.below hb)
 replace B0:=Hd (B0.out.below hb)
 clear hb ht1 hW
 rcases HT1.out.err with ⟨rfl,hR1,hR2⟩ | ⟨rfl,hR⟩
 ·obtain ⟨a0,a1,a2,a3,-,-,-,-,-⟩:=B0.out
  go_wp2_with fail
  refine (Whole_any _ n d L _ X.out).mono ?_
  rintro e w2 ⟨rfl,hb⟩
  replace hw:=hw.trans (hb.mono hw.size)
  replace X:=Hd (X.out.below hb)
  replace B0:=Hd (B0.out.below hb)
  clear a0 a1 a2 a3 hb
  by_cases hd1:d = 1
  ·simp only [decide_eq_true hd1]
   go_wp2
   go_ret2
   exact ⟨⟨_,_,rfl,T1,HT1.out,.inl ⟨.inr hd1,rfl⟩⟩,hw⟩
  ·have e2:decide (d = 1) = false:=decide_eq_false hd1
   have e3:dn d = d:=if_neg hd1
   have X2:=X.out.parts.2.1
   rw [e3] at X2
   have HX2:=Hd X2
   rw [e2]
   clear e2 e3 X2
   obtain ⟨a0,a1,a2,a3,-,-,-,-,-⟩:=B0.out
   go_wp2_with fail
   refine (Text_all _ d R L _ HX2.out (by omega)).mono ?_
   rintro e w3 ⟨⟨T2,r2,rfl,ht2⟩,hb⟩
   replace hw:=hw.trans (hb.mono hw.size)
   have hsz2:=ht2.size (ival_lt HX2.out) (by omega)
   rcases ht2.err with ⟨rfl,_⟩ | ⟨_,hh⟩
   ·have HT2:=Hd ht2
    have s1:∀ w0:World,(Op.stringOp .add T1 ⟨#[47]⟩).run Tryz.prog w0 = _:=fun w0=>run_string_add_sum (P:=Tryz.prog) w0 T1 ⟨#[47]⟩ (by show _ + 1 <= _;omega)
    have s2:∀ w0:World,(Op.stringOp .add (T1 ++ ⟨#[47]⟩) T2).run Tryz.prog w0 = _:=fun w0=>run_string_add_sum (P:=Tryz.prog) w0 (T1 ++ ⟨#[47]⟩) T2 (by rw [ByteArray.size_append];show _ + 1 + _ <= _;omega)
    clear ht2 hb a0 a1 a2 a3
    go_wp2
    go_ret2
    exact ⟨⟨_,_,rfl,T1,HT1.out,.inr ⟨rfl,hd1,T2,HT2.out,rfl⟩⟩,hw⟩
   ·exfalso;omega
 ·go_wp2
  go_ret2
  exact ⟨⟨_,_,rfl,T1,HT1.out,.inl ⟨.inl (by decide),rfl⟩⟩,hw⟩
end Go.Proofs.YtbajnceoolkckaaGreat
