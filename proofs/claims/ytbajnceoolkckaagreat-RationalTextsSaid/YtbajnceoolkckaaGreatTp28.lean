/- Of the proof of RationalTexts: RatQ, RText. -/
import Derived.Test.YtbajnceoolkckaaGreatTp27
open List renaming getElem_toArray → gA, getElem_cons_succ → gS, getElem_cons_zero → gZ, setIfInBounds_toArray → tA, set_cons_zero → cZ, set_cons_succ → cS
open Go.Lib renaming hid → Hd
set_option maxRecDepth 100000
set_option maxHeartbeats 16000000
namespace Go.Proofs.YtbajnceoolkckaaGreat
open Go.RowKit LM
structure SimpZ (n d m c N D:Int) : Prop where
 D0:0 < D
 lo:n * D <= N * d
 hi:N * c <= m * D
 min:∀ p q,0 < q -> n * q <= p * d -> p * c <= m * q -> D <= q /\ N.natAbs <= p.natAbs
theorem Simp.abs {n d m c N D:Int} (h:Simp n d m c N D) : SimpZ n d m c N D:=
 ⟨h.D0,h.lo,h.hi,fun p q h1 h2 h3=>by have:=h.min p q h1 h2 h3;have:=h.N0;exact ⟨by omega,by omega⟩⟩
theorem Simp.neg {n d m c N D:Int} (h:Simp (-m) c (-n) d N D) : SimpZ n d m c (-N) D:=by
 have h1:=h.lo
 have h2:=h.hi
 rw [Int.neg_mul] at h1 h2
 refine ⟨h.D0,by rw [Int.neg_mul];omega,by rw [Int.neg_mul];omega,fun p q k1 k2 k3=>?_⟩
 have:=h.min (-p) q k1 (by rw [Int.neg_mul,Int.neg_mul];omega) (by rw [Int.neg_mul,Int.neg_mul];omega)
 have:=h.N0
 exact ⟨by omega,by omega⟩
theorem SimpZ.zero {n d m c:Int} (hm:0 <= m) (hn:n <= 0) : SimpZ n d m c 0 1:=
 ⟨by decide,by omega,by omega,fun p q k1 _ _=>⟨by omega,by simp⟩⟩
theorem range_neg {n d m c:Int} (h:n * c <= m * d) : -m * d <= -n * c:=by rw [Int.neg_mul,Int.neg_mul];omega
theorem cmp_leq {a b:Int} (h:a <= b) : ¬ cmpI a b > 0:=by
 rcases Int.lt_or_eq_of_le h with h | h
 ·rw [cmpI_lt h];decide
 ·rw [cmpI_eq h];decide
def SimplestAns (L:Nat) (n d m c:Int) (w:World) (e:Ending) (w':World) : Prop:=
 (m * d < n * c /\ RatErr L 0 1 7 w e w') \/ (n * c <= m * d /\ ∃ N D,SimpZ n d m c N D /\ RatErr L N D 0 w e w')
theorem Simplest_any (u v:Value) (n d m c:Int) (L:Nat) (w:World) (h:Rat w u n d L) (g:Rat w v m c L) (hL:L <= 100) (hL2:2 <= L) :
  Calls Tryz.prog 54 #[u,v] w (SimplestAns L n d m c w):=by
 obtain ⟨g1,A1,n1,c1,e1,E1,m1,d1,rfl⟩:=h.form
 obtain ⟨g2,A2,n2,c2,e2,E2,m2,d2,rfl⟩:=g.form
 obtain ⟨hw,F0,F1,F2,hs⟩:=three444 w (.bool g1) (.slice A1 n1 c1) (.bool e1) (.slice E1 m1 d1) (.bool g2) (.slice A2 n2 c2) (.bool e2) (.slice E2 m2 d2)
 have X:=Hd (h.below hw)
 have Y:=Hd (g.below hw)
 obtain ⟨W0,hW0⟩ : ∃ W0,((w.alloc (.cells #[.bool g1,.slice A1 n1 c1,.bool e1,.slice E1 m1 d1] 38)).alloc (.cells #[.bool g2,.slice A2 n2 c2,.bool e2,.slice E2 m2 d2] 38)).alloc (.cells #[.bool false,.slice none 0 0,.bool false,.slice none 0 0] 38) = W0:=⟨_,rfl⟩
 rw [hW0] at hw F0 F1 F2 hs X Y
 have B0:=Hd F0
 have B1:=Hd F1
 have BR:=Hd F2
 clear F0 F1 F2 h g hs
 replace hw:=Hd hw
 have hdc:=Hd (And.intro X.out.parts.2.2.1 Y.out.parts.2.2.1)
 go_enter Tryz.func54,Tryz.ntmps54
 go_upto_region 1 with fail
 clear hW0
 obtain ⟨a00,a01,a02,a03,-,-,-,-,-⟩:=B0.out
 obtain ⟨a10,a11,a12,a13,-,-,-,-,-⟩:=B1.out
 go_wp2_with fail
 refine (Cmp_q _ _ n d m c L _ X.out Y.out (by omega)).mono ?_
 rintro e w1 ⟨rfl,hb1⟩
 clear a00 a01 a02 a03
 clear a10 a11 a12 a13
 replace B0:=Hd (B0.out.below hb1)
 replace B1:=Hd (B1.out.below hb1)
 replace BR:=Hd (BR.out.below hb1)
 replace X:=Hd (X.out.below hb1)
 replace Y:=Hd (Y.out.below hb1)
 replace hw:=Hd (hw.out.trans (hb1.mono hw.out.size))
 clear hb1
 by_cases ho:m * d < n * c
 ·have hcm:cmpI (n * c) (m * d) > 0:=by rw [cmpI_gt ho];decide
  have HO:=Hd ho
  clear ho
  obtain ⟨r0,r1,r2,r3,r4,r5,r6,r7,r8⟩:=BR.out
  go_wp2
  refine bodyPost_ret (v:=.tuple #[.agg #[.bool false,.slice none 0 0,.bool false,.slice none 0 0],.int .i64 7]) (by simp [results,Tryz.results54,go_sem,r0,r1,r2,r3]) rfl (Or.inl ⟨HO.out,⟨⟨false,none,0,0,false,none,0,0,rfl,_,_,_,_,_,_,_,_,rfl,Ival.nought,Ival.nought,by decide,by decide⟩,below_put4 hw.out (by omega) _ _ _ _⟩⟩)
 have hcm:¬ cmpI (n * c) (m * d) > 0:=cmp_leq (Int.not_lt.1 ho)
 have HO:=Hd (Int.not_lt.1 ho)
 clear ho
 obtain ⟨a10,a11,a12,a13,-,-,-,-,-⟩:=B1.out
 go_wp2_with fail
 refine (Sign_any _ m c L _ Y.out).mono ?_
 rintro e w2 ⟨rfl,hb1⟩
 clear a10 a11 a12 a13
 replace B0:=Hd (B0.out.below hb1)
 replace B1:=Hd (B1.out.below hb1)
 replace BR:=Hd (BR.out.below hb1)
 replace X:=Hd (X.out.below hb1)
 replace Y:=Hd (Y.out.below hb1)
 replace hw:=Hd (hw.out.trans (hb1.mono hw.out.size))
 clear hb1 hcm
 by_cases hm:m < 0
 ·skip
  have hcm:cmpI m 0 < 0:=by rw [cmpI_lt hm];decide
  have HM:=Hd hm
  clear hm
  go_upto_region 4 with fail
  clear hcm
  have HT:=Hd (fun (w':World) (hb:Below w2.heap.size w2 w')=>(show w'.cell? ⟨w.heap.size,0,none⟩ = some (.bool g1) /\ w'.cell? ⟨w.heap.size,1,none⟩ = some (.slice A1 n1 c1) /\ w'.cell? ⟨w.heap.size,2,none⟩ = some (.bool e1) /\ w'.cell? ⟨w.heap.size,3,none⟩ = some (.slice E1 m1 d1) /\ w'.cell? ⟨w.heap.size + 1,0,none⟩ = some (.bool g2) /\ w'.cell? ⟨w.heap.size + 1,1,none⟩ = some (.slice A2 n2 c2) /\ w'.cell? ⟨w.heap.size + 1,2,none⟩ = some (.bool e2) /\ w'.cell? ⟨w.heap.size + 1,3,none⟩ = some (.slice E2 m2 d2) from ⟨(B0.out.below hb).c0,(B0.out.below hb).c1,(B0.out.below hb).c2,(B0.out.below hb).c3,(B1.out.below hb).c0,(B1.out.below hb).c1,(B1.out.below hb).c2,(B1.out.below hb).c3⟩))
  obtain ⟨Inv,hInv⟩ : ∃ J:(Nat -> Bool) -> (Value × Value × Value × Value × Value × Value × Value) -> World -> Prop,J = fun b v w'=>(Below w.heap.size w w') /\ (b 6 = false -> Below w2.heap.size w2 w') /\ (b 0 = true -> v.1 = .agg #[.bool g2,.slice A2 n2 c2,.bool e2,.slice E2 m2 d2]) /\ (b 2 = true -> v.2.2.1 = .agg #[.bool g1,.slice A1 n1 c1,.bool e1,.slice E1 m1 d1]) /\ (b 1 = true -> b 6 = false -> Rat w' v.2.1 (-m) c L) /\ (b 3 = true -> b 6 = false -> Rat w' v.2.2.2.1 (-n) d L) /\ (b 4 = true -> b 6 = false -> ∃ N D,Simp (-m) c (-n) d N D /\ Rat w' v.2.2.2.2.1 N D L) /\ (b 5 = true -> b 6 = false -> ∃ N D,Simp (-m) c (-n) d N D /\ Rat w' v.2.2.2.2.2.1 (-N) D L) /\ (∃ v0 v1 v2 v3,Fx4 w' (w.heap.size + 1 + 1) v0 v1 v2 v3) /\ (b 6 = true -> ∃ N D,Simp (-m) c (-n) d N D /\ ∃ u1 K1 l1 o1 u2 K2 l2 o2,Fx4 w' (w.heap.size + 1 + 1) (.bool u1) (.slice K1 l1 o1) (.bool u2) (.slice K2 l2 o2) /\ Rat w' (.agg #[.bool u1,.slice K1 l1 o1,.bool u2,.slice K2 l2 o2]) (-N) D L) /\ (b 7 = true -> v.2.2.2.2.2.2 = .int .i64 0):=⟨_,rfl⟩
  have hB:=(Below.refl w2.heap.size w2).drew
  refine wp_region_held_drew (S:=fun w'=>True) (by kernel_rfl) (trivial) (fun hH=>?_)
  clear hH
  generalize w2.drew = wr0 at *
  refine wpAnyH_begin (V:=Value × Value × Value × Value × Value × Value × Value) (I:=Inv) (A:=?_) [false,false,false,false,false,false,false,false] [16,17,18,19,20,21,5] (fun v=>[v.1,v.2.1,v.2.2.1,v.2.2.2.1,v.2.2.2.2.1,v.2.2.2.2.2.1,v.2.2.2.2.2.2]) (fun a=>(a.tmps.getD 16 undef,a.tmps.getD 17 undef,a.tmps.getD 18 undef,a.tmps.getD 19 undef,a.tmps.getD 20 undef,a.tmps.getD 21 undef,a.tmps.getD 5 undef)) ?_ ?_ (by kernel_rfl) (by kernel_rfl) (by kernel_rfl) (by kernel_rfl) (by kernel_rfl) ?_ ?_ ?_
  rotate_left 1
  ·intro v;simp only [fillA,Act.put,tA,cZ,cS];rfl
  ·rfl
  ·rw [hInv]
   exact ⟨(hw.out.trans (hB.mono hw.out.size)),(fun _=>hB),(fun h=>absurd h (by decide)),(fun h=>absurd h (by decide)),(fun h _=>absurd h (by decide)),(fun h _=>absurd h (by decide)),(fun h _=>absurd h (by decide)),(fun h _=>absurd h (by decide)),(⟨_,_,_,_,BR.out.below hB⟩),(fun h=>absurd h (by decide)),(fun h=>absurd h (by decide))⟩
  ·skip
   refine EachFrom.cons (k:=0) rfl rfl (ds:=[]) (by kernel_rfl) (fun v x=>(x,v.2.1,v.2.2.1,v.2.2.2.1,v.2.2.2.2.1,v.2.2.2.2.2.1,v.2.2.2.2.2.2)) (fun v x=>by rfl) (fun b v wz hb0 hcl hbk hdep hI Kc hK=>?_) ?_
   ·skip
    rw [hInv] at hI
    obtain ⟨x16,x17,x18,x19,x20,x21,x5⟩:=v
    dsimp only at hI hK ⊢
    (try simp only [Act.put] at hK);(try simp only [tA] at hK);(try simp only [cS] at hK);(try simp only [cZ] at hK)
    obtain ⟨fn,famb,f16,f18,f17,f19,f20,f21,fbr,fres,f5⟩:=hI
    (try simp only [gA]);(try simp only [gS]);(try simp only [gZ])
    have hA:=famb (by cases h:b 6 with | false=>rfl | true=>exact absurd ((show AllT b [5,5,0,1,2,3,4,5] from hcl 6 _ rfl h).2.2.1) (by rw [hbk];decide))
    obtain ⟨a0,a1,a2,a3,-,-,-,-,-⟩:=B1.out.below hA
    go_simp
    refine hK.out _ _ trivial ?_
    rw [hInv]
    exact ⟨(fn),(fun h0=>famb h0),(fun h0=>rfl),(fun h0=>f18 h0),(fun h _=>absurd ((show AllT b [0] from hcl 1 _ rfl h).1) (by rw [hbk];decide)),(fun h _=>absurd ((show AllT b [0] from hcl 1 _ rfl ((show AllT b [2,1] from hcl 3 _ rfl h).2.1)).1) (by rw [hbk];decide)),(fun h _=>absurd ((show AllT b [0] from hcl 1 _ rfl ((show AllT b [1,3,3] from hcl 4 _ rfl h).1)).1) (by rw [hbk];decide)),(fun h _=>absurd ((show AllT b [0] from hcl 1 _ rfl ((show AllT b [1,3,3] from hcl 4 _ rfl ((show AllT b [4,4] from hcl 5 _ rfl h).1)).1)).1) (by rw [hbk];decide)),(fbr),(fun h=>absurd ((show AllT b [5,5,0,1,2,3,4,5] from hcl 6 _ rfl h).2.2.1) (by rw [hbk];decide)),(fun h=>absurd ((show AllT b [6,0,1,2,3,4,5,6] from hcl 7 _ rfl h).2.1) (by rw [hbk];decide))⟩
   refine EachFrom.cons (k:=1) rfl rfl (ds:=[0]) (by kernel_rfl) (fun v x=>(v.1,x,v.2.2.1,v.2.2.2.1,v.2.2.2.2.1,v.2.2.2.2.2.1,v.2.2.2.2.2.2)) (fun v x=>by rfl) (fun b v wz hb0 hcl hbk hdep hI Kc hK=>?_) ?_
   ·skip
    rw [hInv] at hI
    obtain ⟨x16,x17,x18,x19,x20,x21,x5⟩:=v
    dsimp only at hI hK ⊢
    (try simp only [Act.put] at hK);(try simp only [tA] at hK);(try simp only [cS] at hK);(try simp only [cZ] at hK)
    obtain ⟨fn,famb,f16,f18,f17,f19,f20,f21,fbr,fres,f5⟩:=hI
    obtain ⟨d0,-⟩:=hdep
    (try simp only [gA]);(try simp only [gS]);(try simp only [gZ])
    obtain rfl:=f16 d0
    have hA:=famb (by cases h:b 6 with | false=>rfl | true=>exact absurd ((show AllT b [5,5,0,1,2,3,4,5] from hcl 6 _ rfl h).2.2.2.1) (by rw [hbk];decide))
    go_simp
    (go_at_call 36;refine (Neg_any _ m c L _ (Y.out.below hA) (by omega)).mono ?_;rintro e w1 ⟨⟨y1,y2,y3,y4,y5,y6,y7,y8,rfl,hz⟩,hb⟩)
    refine hK.out _ _ trivial ?_
    rw [hInv]
    exact ⟨((fn).trans (hb.mono (fn).size)),(fun h0=>(famb h0).trans (hb.mono (famb h0).size)),(fun h0=>f16 h0),(fun h0=>f18 h0),(fun h0 h1=>hz),(fun h _=>absurd ((show AllT b [2,1] from hcl 3 _ rfl h).2.1) (by rw [hbk];decide)),(fun h _=>absurd ((show AllT b [1,3,3] from hcl 4 _ rfl h).1) (by rw [hbk];decide)),(fun h _=>absurd ((show AllT b [1,3,3] from hcl 4 _ rfl ((show AllT b [4,4] from hcl 5 _ rfl h).1)).1) (by rw [hbk];decide)),(let ⟨v0,v1,v2,v3,hz⟩:=fbr;⟨v0,v1,v2,v3,hz.below hb⟩),(fun h=>absurd ((show AllT b [5,5,0,1,2,3,4,5] from hcl 6 _ rfl h).2.2.2.1) (by rw [hbk];decide)),(fun h=>absurd ((show AllT b [6,0,1,2,3,4,5,6] from hcl 7 _ rfl h).2.2.1) (by rw [hbk];decide))⟩
   refine EachFrom.cons (k:=2) rfl rfl (ds:=[]) (by kernel_rfl) (fun v x=>(v.1,v.2.1,x,v.2.2.2.1,v.2.2.2.2.1,v.2.2.2.2.2.1,v.2.2.2.2.2.2)) (fun v x=>by rfl) (fun b v wz hb0 hcl hbk hdep hI Kc hK=>?_) ?_
   ·skip
    rw [hInv] at hI
    obtain ⟨x16,x17,x18,x19,x20,x21,x5⟩:=v
    dsimp only at hI hK ⊢
    (try simp only [Act.put] at hK);(try simp only [tA] at hK);(try simp only [cS] at hK);(try simp only [cZ] at hK)
    obtain ⟨fn,famb,f16,f18,f17,f19,f20,f21,fbr,fres,f5⟩:=hI
    (try simp only [gA]);(try simp only [gS]);(try simp only [gZ])
    have hA:=famb (by cases h:b 6 with | false=>rfl | true=>exact absurd ((show AllT b [5,5,0,1,2,3,4,5] from hcl 6 _ rfl h).2.2.2.2.1) (by rw [hbk];decide))
    obtain ⟨a0,a1,a2,a3,-,-,-,-,-⟩:=B0.out.below hA
    go_simp
    refine hK.out _ _ trivial ?_
    rw [hInv]
    exact ⟨(fn),(fun h0=>famb h0),(fun h0=>f16 h0),(fun h0=>rfl),(fun h0 h1=>f17 h0 h1),(fun h _=>absurd ((show AllT b [2,1] from hcl 3 _ rfl h).1) (by rw [hbk];decide)),(fun h _=>absurd ((show AllT b [2,1] from hcl 3 _ rfl ((show AllT b [1,3,3] from hcl 4 _ rfl h).2.1)).1) (by rw [hbk];decide)),(fun h _=>absurd ((show AllT b [2,1] from hcl 3 _ rfl ((show AllT b [1,3,3] from hcl 4 _ rfl ((show AllT b [4,4] from hcl 5 _ rfl h).1)).2.1)).1) (by rw [hbk];decide)),(fbr),(fun h=>absurd ((show AllT b [5,5,0,1,2,3,4,5] from hcl 6 _ rfl h).2.2.2.2.1) (by rw [hbk];decide)),(fun h=>absurd ((show AllT b [6,0,1,2,3,4,5,6] from hcl 7 _ rfl h).2.2.2.1) (by rw [hbk];decide))⟩
   refine EachFrom.cons (k:=3) rfl rfl (ds:=[2,1]) (by kernel_rfl) (fun v x=>(v.1,v.2.1,v.2.2.1,x,v.2.2.2.2.1,v.2.2.2.2.2.1,v.2.2.2.2.2.2)) (fun v x=>by rfl) (fun b v wz hb0 hcl hbk hdep hI Kc hK=>?_) ?_
   ·skip
    rw [hInv] at hI
    obtain ⟨x16,x17,x18,x19,x20,x21,x5⟩:=v
    dsimp only at hI hK ⊢
    (try simp only [Act.put] at hK);(try simp only [tA] at hK);(try simp only [cS] at hK);(try simp only [cZ] at hK)
    obtain ⟨fn,famb,f16,f18,f17,f19,f20,f21,fbr,fres,f5⟩:=hI
    obtain ⟨d2,d1,-⟩:=hdep
    (try simp only [gA]);(try simp only [gS]);(try simp only [gZ])
    obtain rfl:=f18 d2
    have hA:=famb (by cases h:b 6 with | false=>rfl | true=>exact absurd ((show AllT b [5,5,0,1,2,3,4,5] from hcl 6 _ rfl h).2.2.2.2.2.1) (by rw [hbk];decide))
    go_simp
    (go_at_call 36;refine (Neg_any _ n d L _ (X.out.below hA) (by omega)).mono ?_;rintro e w1 ⟨⟨y1,y2,y3,y4,y5,y6,y7,y8,rfl,hz⟩,hb⟩)
    refine hK.out _ _ trivial ?_
    rw [hInv]
    exact ⟨((fn).trans (hb.mono (fn).size)),(fun h0=>(famb h0).trans (hb.mono (famb h0).size)),(fun h0=>f16 h0),(fun h0=>f18 h0),(fun h0 h1=>(f17 h0 h1).below hb),(fun h0 h1=>hz),(fun h _=>absurd ((show AllT b [1,3,3] from hcl 4 _ rfl h).2.1) (by rw [hbk];decide)),(fun h _=>absurd ((show AllT b [1,3,3] from hcl 4 _ rfl ((show AllT b [4,4] from hcl 5 _ rfl h).1)).2.1) (by rw [hbk];decide)),(let ⟨v0,v1,v2,v3,hz⟩:=fbr;⟨v0,v1,v2,v3,hz.below hb⟩),(fun h=>absurd ((show AllT b [5,5,0,1,2,3,4,5] from hcl 6 _ rfl h).2.2.2.2.2.1) (by rw [hbk];decide)),(fun h=>absurd ((show AllT b [6,0,1,2,3,4,5,6] from hcl 7 _ rfl h).2.2.2.2.1) (by rw [hbk];decide))⟩
   refine EachFrom.cons (k:=4) rfl rfl (ds:=[1,3,3]) (by kernel_rfl) (fun v x=>(v.1,v.2.1,v.2.2.1,v.2.2.2.1,x,v.2.2.2.2.2.1,v.2.2.2.2.2.2)) (fun v x=>by rfl) (fun b v wz hb0 hcl hbk hdep hI Kc hK=>?_) ?_
   ·skip
    rw [hInv] at hI
    obtain ⟨x16,x17,x18,x19,x20,x21,x5⟩:=v
    dsimp only at hI hK ⊢
    (try simp only [Act.put] at hK);(try simp only [tA] at hK);(try simp only [cS] at hK);(try simp only [cZ] at hK)
    obtain ⟨fn,famb,f16,f18,f17,f19,f20,f21,fbr,fres,f5⟩:=hI
    obtain ⟨d1,d3,-,-⟩:=hdep
    (try simp only [gA]);(try simp only [gS]);(try simp only [gZ])
    go_simp
    (go_at_call 107;refine (between_any _ _ (-m) c (-n) d L _ (f17 d1 (by cases h:b 6 with | false=>rfl | true=>exact absurd ((show AllT b [5,5,0,1,2,3,4,5] from hcl 6 _ rfl h).2.2.2.2.2.2.1) (by rw [hbk];decide))) (f19 d3 (by cases h:b 6 with | false=>rfl | true=>exact absurd ((show AllT b [5,5,0,1,2,3,4,5] from hcl 6 _ rfl h).2.2.2.2.2.2.1) (by rw [hbk];decide))) hL hL2 ⟨by have:=HM.out;omega,hdc.out.2,hdc.out.1,range_neg HO.out⟩).mono ?_;rintro e w1 ⟨N,D,hsim,⟨y1,y2,y3,y4,y5,y6,y7,y8,rfl,hz⟩,hb⟩)
    refine hK.out _ _ trivial ?_
    rw [hInv]
    exact ⟨((fn).trans (hb.mono (fn).size)),(fun h0=>(famb h0).trans (hb.mono (famb h0).size)),(fun h0=>f16 h0),(fun h0=>f18 h0),(fun h0 h1=>(f17 h0 h1).below hb),(fun h0 h1=>(f19 h0 h1).below hb),(fun h0 h1=>⟨_,_,hsim,hz⟩),(fun h _=>absurd ((show AllT b [4,4] from hcl 5 _ rfl h).1) (by rw [hbk];decide)),(let ⟨v0,v1,v2,v3,hz⟩:=fbr;⟨v0,v1,v2,v3,hz.below hb⟩),(fun h=>absurd ((show AllT b [5,5,0,1,2,3,4,5] from hcl 6 _ rfl h).2.2.2.2.2.2.1) (by rw [hbk];decide)),(fun h=>absurd ((show AllT b [6,0,1,2,3,4,5,6] from hcl 7 _ rfl h).2.2.2.2.2.1) (by rw [hbk];decide))⟩
   refine EachFrom.cons (k:=5) rfl rfl (ds:=[4,4]) (by kernel_rfl) (fun v x=>(v.1,v.2.1,v.2.2.1,v.2.2.2.1,v.2.2.2.2.1,x,v.2.2.2.2.2.2)) (fun v x=>by rfl) (fun b v wz hb0 hcl hbk hdep hI Kc hK=>?_) ?_
   ·skip
    rw [hInv] at hI
    obtain ⟨x16,x17,x18,x19,x20,x21,x5⟩:=v
    dsimp only at hI hK ⊢
    (try simp only [Act.put] at hK);(try simp only [tA] at hK);(try simp only [cS] at hK);(try simp only [cZ] at hK)
    obtain ⟨fn,famb,f16,f18,f17,f19,f20,f21,fbr,fres,f5⟩:=hI
    obtain ⟨d4,-,-⟩:=hdep
    (try simp only [gA]);(try simp only [gS]);(try simp only [gZ])
    obtain ⟨N,D,hsim,hN⟩:=f20 d4 (by cases h:b 6 with | false=>rfl | true=>exact absurd ((show AllT b [5,5,0,1,2,3,4,5] from hcl 6 _ rfl h).1) (by rw [hbk];decide))
    go_simp
    (go_at_call 36;refine (Neg_any _ N D L _ hN (by omega)).mono ?_;rintro e w1 ⟨⟨y1,y2,y3,y4,y5,y6,y7,y8,rfl,hz⟩,hb⟩)
    refine hK.out _ _ trivial ?_
    rw [hInv]
    exact ⟨((fn).trans (hb.mono (fn).size)),(fun h0=>(famb h0).trans (hb.mono (famb h0).size)),(fun h0=>f16 h0),(fun h0=>f18 h0),(fun h0 h1=>(f17 h0 h1).below hb),(fun h0 h1=>(f19 h0 h1).below hb),(fun h0 h1=>let ⟨N,D,hs,hz⟩:=f20 h0 h1;⟨N,D,hs,hz.below hb⟩),(fun h0 h1=>⟨N,D,hsim,hz⟩),(let ⟨v0,v1,v2,v3,hz⟩:=fbr;⟨v0,v1,v2,v3,hz.below hb⟩),(fun h=>absurd ((show AllT b [5,5,0,1,2,3,4,5] from hcl 6 _ rfl h).1) (by rw [hbk];decide)),(fun h=>absurd ((show AllT b [6,0,1,2,3,4,5,6] from hcl 7 _ rfl h).2.2.2.2.2.2.1) (by rw [hbk];decide))⟩
   refine EachFrom.cons (k:=6) rfl rfl (ds:=[5,5,0,1,2,3,4,5]) (by kernel_rfl) (fun v _=>v) (fun v x=>by rfl) (fun b v wz hb0 hcl hbk hdep hI Kc hK=>?_) ?_
   ·skip
    rw [hInv] at hI
    obtain ⟨x16,x17,x18,x19,x20,x21,x5⟩:=v
    dsimp only at hI hK ⊢
    (try simp only [Act.put] at hK);(try simp only [tA] at hK);(try simp only [cS] at hK);(try simp only [cZ] at hK)
    obtain ⟨fn,famb,f16,f18,f17,f19,f20,f21,fbr,fres,f5⟩:=hI
    obtain ⟨d5,-,d0,d1,d2,d3,d4,-,-⟩:=hdep
    (try simp only [gA]);(try simp only [gS]);(try simp only [gZ])
    obtain rfl:=f16 d0
    obtain rfl:=f18 d2
    have FB:=BR.out.below (famb hbk)
    obtain ⟨N,D,hsim,hN⟩:=f21 d5 hbk
    obtain ⟨u1,K1,l1,o1,u2,K2,l2,o2,rfl⟩:=hN.form
    obtain ⟨r0,r1,r2,r3,r4,r5,r6,r7,r8⟩:=id FB
    go_simp
    refine hK.out (undef) _ trivial ?_
    rw [hInv]
    exact ⟨((below_put4 fn (by omega) _ _ _ _)),(fun h=>absurd (show true = false from h) (by decide)),(fun h0=>f16 h0),(fun h0=>f18 h0),(fun _ h=>absurd (show true = false from h) (by decide)),(fun _ h=>absurd (show true = false from h) (by decide)),(fun _ h=>absurd (show true = false from h) (by decide)),(fun _ h=>absurd (show true = false from h) (by decide)),⟨_,_,_,_,FB.put _ _ _ _⟩,(fun h0=>⟨N,D,hsim,_,_,_,_,_,_,_,_,FB.put _ _ _ _,hN.put4 FB _ _ _ _⟩),(fun h=>absurd ((show AllT b [6,0,1,2,3,4,5,6] from hcl 7 _ rfl h).1) (by rw [hbk];decide))⟩
   refine EachFrom.cons (k:=7) rfl rfl (ds:=[6,0,1,2,3,4,5,6]) (by kernel_rfl) (fun v x=>(v.1,v.2.1,v.2.2.1,v.2.2.2.1,v.2.2.2.2.1,v.2.2.2.2.2.1,x)) (fun v x=>by rfl) (fun b v wz hb0 hcl hbk hdep hI Kc hK=>?_) ?_
   ·skip
    rw [hInv] at hI
    obtain ⟨x16,x17,x18,x19,x20,x21,x5⟩:=v
    dsimp only at hI hK ⊢
    (try simp only [Act.put] at hK);(try simp only [tA] at hK);(try simp only [cS] at hK);(try simp only [cZ] at hK)
    obtain ⟨fn,famb,f16,f18,f17,f19,f20,f21,fbr,fres,f5⟩:=hI
    obtain ⟨d6,d0,d1,d2,d3,d4,d5,-,-⟩:=hdep
    (try simp only [gA]);(try simp only [gS]);(try simp only [gZ])
    obtain rfl:=f16 d0
    obtain rfl:=f18 d2
    go_simp
    refine hK.out _ _ trivial ?_
    rw [hInv]
    exact ⟨(fn),(fun h=>absurd (show b 6 = false from h) (by rw [d6];decide)),(fun h0=>f16 h0),(fun h0=>f18 h0),(fun _ h=>absurd (show b 6 = false from h) (by rw [d6];decide)),(fun _ h=>absurd (show b 6 = false from h) (by rw [d6];decide)),(fun _ h=>absurd (show b 6 = false from h) (by rw [d6];decide)),(fun _ h=>absurd (show b 6 = false from h) (by rw [d6];decide)),(fbr),fres,(fun h0=>rfl)⟩
   exact EachFrom.nil (by kernel_rfl)
  ·intro v wF hI
   rw [hInv] at hI
   obtain ⟨x16,x17,x18,x19,x20,x21,x5⟩:=v
   dsimp only at hI ⊢
   obtain ⟨fn,famb,f16,f18,f17,f19,f20,f21,fbr,fres,f5⟩:=hI
   clear famb
   replace f16:=f16 rfl
   replace f18:=f18 rfl
   clear f17
   clear f19
   clear f20
   clear f21
   replace fres:=fres rfl
   replace f5:=f5 rfl
   clear hInv hB
   obtain rfl:=f5
   obtain ⟨N,D,hsim,u1,K1,l1,o1,u2,K2,l2,o2,FB,hN⟩:=fres
   have HS:=Hd hsim
   have HN:=Hd hN
   have HFN:=Hd fn
   clear hsim hN fn f16 f18
   obtain ⟨r0,r1,r2,r3,-,-,-,-,-⟩:=FB
   go_wp2
   exact bodyPost_ret (v:=.tuple #[.agg #[.bool u1,.slice K1 l1 o1,.bool u2,.slice K2 l2 o2],.int .i64 0]) (by simp [results,Tryz.results54,go_sem,r0,r1,r2,r3]) rfl (Or.inr ⟨HO.out,-N,D,HS.out.neg,⟨_,_,_,_,_,_,_,_,rfl,HN.out⟩,HFN.out⟩)
 have hcm:¬ cmpI m 0 < 0:=by unfold cmpI;rw [if_neg hm];split <;> decide
 have HM:=Hd (Int.not_lt.1 hm)
 clear hm
 obtain ⟨a00,a01,a02,a03,-,-,-,-,-⟩:=B0.out
 go_wp2_with fail
 refine (Sign_any _ n d L _ X.out).mono ?_
 rintro e w3 ⟨rfl,hb1⟩
 clear a00 a01 a02 a03
 replace B0:=Hd (B0.out.below hb1)
 replace B1:=Hd (B1.out.below hb1)
 replace BR:=Hd (BR.out.below hb1)
 replace X:=Hd (X.out.below hb1)
 replace Y:=Hd (Y.out.below hb1)
 replace hw:=Hd (hw.out.trans (hb1.mono hw.out.size))
 clear hb1 hcm
 by_cases hn:0 < n
 ·skip
  have hcm:cmpI n 0 > 0:=by rw [cmpI_gt hn];decide
  have HN:=Hd hn
  clear hn
  obtain ⟨a00,a01,a02,a03,-,-,-,-,-⟩:=B0.out
  obtain ⟨a10,a11,a12,a13,-,-,-,-,-⟩:=B1.out
  go_wp2_with fail
  refine (between_any _ _ n d m c L _ X.out Y.out hL hL2 ⟨HN.out,hdc.out.1,hdc.out.2,HO.out⟩).mono ?_
  rintro e w4 ⟨N,D,hsim,⟨u1,K1,l1,o1,u2,K2,l2,o2,rfl,hz⟩,hb1⟩
  have HZ:=Hd hz
  have HS:=Hd hsim
  clear hz hsim
  clear a00 a01 a02 a03
  clear a10 a11 a12 a13
  replace B0:=Hd (B0.out.below hb1)
  replace B1:=Hd (B1.out.below hb1)
  replace BR:=Hd (BR.out.below hb1)
  replace X:=Hd (X.out.below hb1)
  replace Y:=Hd (Y.out.below hb1)
  replace hw:=Hd (hw.out.trans (hb1.mono hw.out.size))
  clear hb1 hcm
  obtain ⟨r0,r1,r2,r3,r4,r5,r6,r7,r8⟩:=BR.out
  go_wp2
  exact bodyPost_ret (v:=.tuple #[.agg #[.bool u1,.slice K1 l1 o1,.bool u2,.slice K2 l2 o2],.int .i64 0]) (by simp [results,Tryz.results54,go_sem,r0,r1,r2,r3]) rfl (Or.inr ⟨HO.out,N,D,HS.out.abs,⟨_,_,_,_,_,_,_,_,rfl,HZ.out.put4 BR.out _ _ _ _⟩,below_put4 hw.out (by omega) _ _ _ _⟩)
 have hcm:¬ cmpI n 0 > 0:=cmp_leq (Int.not_lt.1 hn)
 have HN:=Hd (Int.not_lt.1 hn)
 clear hn
 obtain ⟨r0,r1,r2,r3,r4,r5,r6,r7,r8⟩:=BR.out
 go_wp2
 refine bodyPost_ret (v:=.tuple #[.agg #[.bool false,.slice none 0 0,.bool false,.slice none 0 0],.int .i64 0]) (by simp [results,Tryz.results54,go_sem,r0,r1,r2,r3]) rfl (Or.inr ⟨HO.out,0,1,SimpZ.zero HM.out HN.out,⟨⟨false,none,0,0,false,none,0,0,rfl,_,_,_,_,_,_,_,_,rfl,Ival.nought,Ival.nought,by decide,by decide⟩,below_put4 hw.out (by omega) _ _ _ _⟩⟩)
theorem rText_bad (p:Bool) (A:Option Addr) (n c:Nat) (R:Int) (w:World) (hR:R < 2 \/ 36 < R) :
  Calls Tryz.prog 110 #[.agg #[.bool p,.slice A n c],.int .i64 R] w fun e w'=>e = .returned (.tuple #[.string ⟨#[]⟩,.int .i64 1]) /\ Below w.heap.size w w':=by
 by_cases hR2:R < 2
 ·go_enter Tryz.func110,Tryz.ntmps110
  go_wp2
  go_ret2
  exact ⟨rfl,below_alloc _ _⟩
 ·have hR3:36 < R:=by omega
  clear hR
  go_enter Tryz.func110,Tryz.ntmps110
  go_wp2
  go_ret2
  exact ⟨rfl,below_alloc _ _⟩
theorem rText_zero (A:Option Addr) (c:Nat) (R:Int) (w:World) (hR:2 <= R) (hR2:R <= 36) :
  Calls Tryz.prog 110 #[.agg #[.bool false,.slice A 0 c],.int .i64 R] w fun e w'=>e = .returned (.tuple #[.string ⟨#[48]⟩,.int .i64 0]) /\ Below w.heap.size w w':=by
 have hW:=below_alloc w (.cells #[.bool false,.slice A 0 c] 34)
 go_enter Tryz.func110,Tryz.ntmps110
 go_wp2_with fail
 go_loopw [6,7,9] (fun sv dv _ wr=>sv = .string ⟨#[]⟩ /\ dv = .slice A 0 c /\ w.alloc (.cells #[.bool false,.slice A 0 c] 34) = wr) (fun _ _ _ _=>0)
 case atStart=>exact ⟨rfl,rfl,rfl⟩
 case round=>
  obtain ⟨rfl,rfl,rfl⟩:=hrel
  go_wp2_with fail
  go_ret2
  exact ⟨rfl,hW⟩
theorem rText_some (p:Bool) (A:Option Addr) (n c:Nat) (xs:List Int) (R:Int) (w:World) (h:Row .i64 w A n c xs) (hd:DigR 65536 xs) (ht:Trimmed xs) (hn:n <= 1000) (hR:2 <= R) (hR2:R <= 36) (hz:valR 65536 xs ≠ 0) :
  Calls Tryz.prog 110 #[.agg #[.bool p,.slice A n c],.int .i64 R] w fun e w'=>(∃ S ds,DigitsOf R (valR 65536 xs) ds /\ bs S = textBytes p ds /\ e = .returned (.tuple #[.string S,.int .i64 0])) /\ Below w.heap.size w w':=by
 obtain ⟨i0,hi,hz0,hz1,hz2⟩:=info_parts Tryz.info3
 have hW:=below_alloc w (.cells #[.bool p,.slice A n c] 34)
 have h0:=h.below hW
 have hzp:0 < valR 65536 xs:=by have:=valR_nonneg (by decide:(0:Int) <= 65536) hd;omega
 have HZ:=Hd hzp
 have HROW:=Hd h0
 have HDT:=Hd (And.intro hd ht)
 have hxl:xs.length = n:=h.1
 have HLT:=Hd (show valR 65536 xs < BB ^ n by
  have e:=valR_lt (R:=65536) (by decide) hd
  have e2:(65536:Int) ^ xs.length <= BB ^ n:=by
   rw [hxl]
   exact pow_mono65 n
  omega)
 clear h h0 hd ht hz hzp hxl
 go_enter Tryz.func110,Tryz.ntmps110
 go_wp2_with fail
 go_loopw [6,7,9] (fun sv dv _ wr=>∃ (S:ByteArray) (A':Option Addr) (n' c':Nat) (ys ds:List Int),sv = .string S /\ dv = .slice A' n' c' /\ n' <= n /\ Row .i64 wr A' n' c' ys /\ Hid (DigR 65536 ys /\ Trimmed ys) /\ Hid (TxRel R (valR 65536 xs) ds (valR 65536 ys)) /\ Hid (bs S = (ds.map nameOf).reverse) /\ S.size = ds.length /\ ds.length <= 32 * n /\ Below (w.heap.size + 1) (w.alloc (.cells #[.bool p,.slice A n c] 34)) wr) (fun sv _ _ _=>match sv with | .string S=>32 * n - S.size | _=>0)
 case atStart=>exact ⟨ByteArray.empty,A,n,c,xs,[],rfl,rfl,Nat.le_refl _,HROW.out,HDT,Hd (TxRel.start HZ.out),Hd rfl,rfl,Nat.zero_le _,Below.refl _ _⟩
 case round=>
  obtain ⟨S,A',n',c',ys,ds,rfl,rfl,hn',hrow,HY,HX,HS,hsz,hdl,hb⟩:=hrel
  have HB:=Hd hb
  have HR:=Hd hrow
  have hyl:ys.length = n':=hrow.1
  have HYL:=Hd hyl
  have hbs:w.heap.size + 1 <= wr.heap.size:=by have:=hb.size;simpa using this
  clear hrow hb hyl
  by_cases hlt:0 < n'
  ·have hyp:0 < valR 65536 ys:=by
    have h1:=valR_nonneg (by decide:(0:Int) <= 65536) HY.out.1
    have h2:=valR_zero_iff HY.out.1 HY.out.2
    rcases Int.lt_or_eq_of_le h1 with h | h
    ·exact h
    ·have:=congrArg List.length (h2.1 h.symm);rw [HYL.out] at this;simp at this;omega
   have hlen:ds.length < 32 * n:=len_bound hR (HX.out.len hR hyp) HLT.out
   have HXN:=Hd (HX.out.step hR hyp)
   have HYP:=Hd hyp
   clear hyp
   go_wp2_with (at_make;refine wpList_make_full _ rfl _ _ 32 rfl wr.heap.size 3 i0 (.int .i64 0) 1 Tryz.underlying32 hi hz0 hz1 _ _ _ _ n' rfl rfl (by omega) (by omega) (by rw [hz2];omega) (by unfold maxLen;omega) (Nat.le_refl _) ?_;intro w1 hown hgrow)
   obtain ⟨wo,rfl⟩ : ∃ wo:World,wo = wr:=⟨_,rfl⟩
   go_loopw [9,10] (fun rv iv wx=>∃ (k:Nat) (r:Nat) (qs:List Int),iv = .int .i64 ((k:Int) - 1) /\ rv = .int .i64 r /\ k <= n' /\ Hid (RDiv R ys qs k r) /\ Ints64 wx wo.heap.size (.slice (some ⟨wo.heap.size,0,none⟩) n' n') (List.replicate k 0 ++ qs) /\ Below wo.heap.size wo wx) (fun _ iv _=>(intOf iv + 1).toNat)
   case atStart=>
    refine ⟨n',0,[],rfl,rfl,Nat.le_refl _,Hd (by have:=RDiv.start (R:=R) ys hR;rw [HYL.out] at this;exact this),?_,(Below.refl _ _).grown hgrow (Nat.le_refl _) (fun _ h=>by cases h)⟩
    rw [zeros_made64] at hown
    unfold Ints64
    rw [List.append_nil,List.length_replicate]
    exact hown
   case round=>
    obtain ⟨k,r,qs,rfl,rfl,hk,HV,hown,hbx⟩:=hrel
    have HO:=Hd hown
    have HBX:=Hd hbx
    clear hown hbx
    have hql:qs.length = n' - k:=by have:=HV.out.2.2.2.1;rw [HYL.out] at this;exact this
    have hr36:(r:Int) < 36:=by have:=HV.out.2.2.1;omega
    have HQL:=Hd (show (List.replicate k 0 ++ qs).length = n' by simp [hql];omega)
    clear hql
    by_cases hk0:k = 0
    ·subst hk0
     obtain ⟨v1,v2,v3,v4⟩:=HV.out.done hR
     have HD1:=Hd v1
     have HD2:=Hd v2
     have HD3:=Hd v3
     have hrowq:Row .i64 wr (some ⟨wo.heap.size,0,none⟩) n' n' qs:=by
      have:=HO.out
      unfold Ints64 at this
      rw [HQL.out] at this
      exact Row.of_own this
     have HRQ:=Hd hrowq
     clear v1 v2 v3 v4 hrowq
     go_wp2_with fail
     refine (rtrim_any _ n' n' qs _ HRQ.out (by omega)).mono ?_
     rintro e w' ⟨A2,k2,c2,hk2,rfl,rfl,hrow2,hv2,ht2⟩
     have HROW2:=Hd hrow2
     have HV2:=Hd hv2
     have HT2:=Hd ht2
     clear hrow2 hv2 ht2
     obtain ⟨D,hD⟩ : ∃ D,DIG.extract r (r + 1) = D:=⟨_,rfl⟩
     have HDN:=Hd (show bs D = [nameOf r] by rw [<- hD];exact dig_name r (by omega))
     have hDs:D.size = 1:=by rw [<- bs_length,HDN.out];rfl
     have HDS:=Hd hDs
     clear hDs
     unfold DIG at hD
     have q1:IntKind.i64.wrap ((r:Int) + 1) = (r:Int) + 1:=by rw [IntKind.wrap_i64];omega
     have q2:((r:Int) + 1).toNat = r + 1:=by omega
     have hno:¬ 9223372036854775807 < D.size + ds.length:=by rw [HDS.out];omega
     have HSZ:=Hd hsz
     go_wp2_with fail
     refine ⟨⟨D ++ S,A2,k2,c2,qs.take k2,ds ++ [valR 65536 ys % R],rfl,rfl,by omega,HROW2.out,Hd ⟨HD3.out.take _,HT2.out⟩,Hd ?_,Hd ?_,?_,?_,HB.out.trans (HBX.out.mono (B':=w.heap.size + 1) hbs)⟩,?_⟩
     ·rw [HV2.out,HD1.out];exact HXN.out
     ·rw [bs_append,HDN.out,HS.out,HD2.out];simp
     ·rw [ByteArray.size_append,HDS.out,HSZ.out];simp;omega
     ·simp;omega
     ·simp only [ByteArray.size_append,HDS.out,HSZ.out];omega
    ·obtain ⟨b,o,rfl,hbx,hx⟩:=HR.out.2.2 (by omega)
     obtain ⟨x,ex⟩ : ∃ x,ys.getD (k - 1) 0 = x:=⟨_,rfl⟩
     have hx1:wr.cell? ⟨b,o + (k - 1),none⟩ = some (.int .i64 x):=by rw [<- ex];exact (HBX.out.cell (p:=⟨b,o + (k - 1),none⟩) hbx).trans (hx (k - 1) (by omega))
     obtain ⟨x0,x1,hstep⟩:=HV.out.step hR hR2 hk0 HY.out.1 ex
     obtain ⟨g,hg,_,hcell,hfr,hset⟩:=HO.out.at HQL.out (show k - 1 < n' by omega)
     obtain rfl:wo.heap.size = g:=by simpa using hg
     have hr0:0 <= (r:Int):=by omega
     obtain ⟨m,hm⟩ : ∃ m:Nat,((r:Int) * 65536 + x) % R = (m:Int):=⟨(((r:Int) * 65536 + x) % R).toNat,by have:=Int.emod_nonneg ((r:Int) * 65536 + x) (show R ≠ 0 by omega);omega⟩
     have hown':=hset (((r:Int) * 65536 + x) / R)
     rw [zeros_set qs k hk0] at hown'
     rw [hm] at hstep
     have HST:=Hd hstep
     have HOW:=Hd hown'
     have HBN:=Hd (HBX.out.setCell (p:=⟨wo.heap.size,k - 1,none⟩) (Nat.le_refl _) (.int .i64 (((r:Int) * 65536 + x) / R)))
     have dq:0 <= ((r:Int) * 65536 + x) / R /\ ((r:Int) * 65536 + x) / R <= (r:Int) * 65536 + x:=⟨Int.ediv_nonneg (by omega) (by omega),Int.ediv_le_self _ (by omega)⟩
     clear ex hx hg hset hstep hown'
     have q1:(0:Int) <= (k:Int) - 1:=by omega
     have q2:(k:Int) - 1 < (n':Int):=by omega
     have q3:((k:Int) - 1).toNat = k - 1:=by omega
     have q4:IntKind.i64.wrap ((r:Int) * 65536) = (r:Int) * 65536:=by rw [IntKind.wrap_i64];omega
     have q5:IntKind.i64.wrap ((r:Int) * 65536 + x) = (r:Int) * 65536 + x:=by rw [IntKind.wrap_i64];omega
     have q6:((r:Int) * 65536 + x).tdiv R = ((r:Int) * 65536 + x) / R:=Int.tdiv_eq_ediv_of_nonneg (by omega)
     have q7:((r:Int) * 65536 + x).tmod R = (m:Int):=by rw [<- hm];exact Int.tmod_eq_emod_of_nonneg (by omega)
     have q8:IntKind.i64.wrap (((r:Int) * 65536 + x) / R) = ((r:Int) * 65536 + x) / R:=by rw [IntKind.wrap_i64];omega
     have q9:R ≠ 0:=by omega
     have q10:R ≠ -1:=by omega
     clear dq hm
     go_wp2_with fail
     exact ⟨⟨k - 1,m,_,by go_num,rfl,by omega,HST,HOW.out,HBN.out⟩,by simp [intOf];omega⟩
  ·obtain rfl:n' = 0:=by omega
   have hy0:ys = []:=List.eq_nil_of_length_eq_zero HYL.out
   have HDG:=Hd (show DigitsOf R (valR 65536 xs) ds by have:=HX.out;rw [hy0] at this;exact this.done)
   have hse:S.size ≠ 0:=by
    rw [hsz];intro h;exact HDG.out.2.2.1 (List.eq_nil_of_length_eq_zero h)
   have hem:=isEmpty_size hse
   have hno:¬ 9223372036854775807 < 1 + ds.length:=by omega
   have HSZ:=Hd hsz
   obtain ⟨e1,e2⟩:=box31 HB.out
   clear hse hy0
   cases p with
   | false=>
    go_wp2_with fail
    go_ret2
    exact ⟨⟨S,ds,HDG.out,by rw [HS.out];rfl,rfl⟩,hW.trans (HB.out.mono (by omega))⟩
   | true=>
    go_wp2_with fail
    go_ret2
    refine ⟨⟨_,ds,HDG.out,?_,rfl⟩,hW.trans (HB.out.mono (by omega))⟩
    rw [bs_append,HS.out];rfl
end Go.Proofs.YtbajnceoolkckaaGreat
