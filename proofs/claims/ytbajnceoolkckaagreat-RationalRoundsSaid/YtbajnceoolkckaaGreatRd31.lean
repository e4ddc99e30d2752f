/- Of the proof of RationalRounds: RatU, RatPw, RRoot. -/
import Derived.Test.YtbajnceoolkckaaGreatRd30
open List renaming getElem_toArray → gA, getElem_cons_succ → gS, getElem_cons_zero → gZ, setIfInBounds_toArray → tA, set_cons_zero → cZ, set_cons_succ → cS
open Go.Lib renaming hid → Hd
set_option maxRecDepth 100000
set_option maxHeartbeats 16000000
namespace Go.Proofs.YtbajnceoolkckaaGreat
open Go.RowKit LM
def KBox (w:World) (b:Nat) (n d:Int) (L:Nat) : Prop:=
 ∃ g1 A1 n1 c1 g2 A2 n2 c2,Fx4 w b (.bool g1) (.slice A1 n1 c1) (.bool g2) (.slice A2 n2 c2) /\ RQ w (.agg #[.bool g1,.slice A1 n1 c1,.bool g2,.slice A2 n2 c2]) n d L
theorem KBox.below {w w':World} {b:Nat} {n d:Int} {L:Nat} (h:KBox w b n d L) (hb:Below w.heap.size w w') : KBox w' b n d L:=by
 obtain ⟨g1,A1,n1,c1,g2,A2,n2,c2,F,V⟩:=h
 exact ⟨g1,A1,n1,c1,g2,A2,n2,c2,F.below hb,V.below hb⟩
theorem KBox.new (w:World) {g1 g2:Bool} {A1 A2:Option Addr} {n1 c1 n2 c2:Nat} {n d:Int} {L:Nat} (t:TypeId) (V:RQ w (.agg #[.bool g1,.slice A1 n1 c1,.bool g2,.slice A2 n2 c2]) n d L) : KBox (w.alloc (.cells #[.bool g1,.slice A1 n1 c1,.bool g2,.slice A2 n2 c2] t)) w.heap.size n d L:=
 ⟨g1,A1,n1,c1,g2,A2,n2,c2,Fx4.new w _ _ _ _ t,V.below (below_alloc _ _)⟩
theorem Fx4.other4 {w:World} {b c:Nat} {u0 u1 u2 u3:Value} (h:Fx4 w b u0 u1 u2 u3) (hne:c ≠ b) (v0 v1 v2 v3:Value) : Fx4 (put4 w c v0 v1 v2 v3) b u0 u1 u2 u3:=by
 refine ⟨(cell_put4 hne _ _ _ _).trans h.c0,(cell_put4 hne _ _ _ _).trans h.c1,(cell_put4 hne _ _ _ _).trans h.c2,(cell_put4 hne _ _ _ _).trans h.c3,?_,?_,?_,?_,?_⟩
 ·unfold Go.Proofs.YtbajnceoolkckaaGreat.put4;simpa using h.f0
 ·unfold Go.Proofs.YtbajnceoolkckaaGreat.put4;simpa using h.f1
 ·unfold Go.Proofs.YtbajnceoolkckaaGreat.put4;simpa using h.f2
 ·unfold Go.Proofs.YtbajnceoolkckaaGreat.put4;simpa using h.f3
 ·unfold Go.Proofs.YtbajnceoolkckaaGreat.put4;simpa using h.lt
theorem QBox.other4 {w:World} {b c:Nat} {n d:Int} {L:Nat} (h:QBox w b n d L) (F:Fx4 w c (.bool false) (.slice none 0 0) (.bool false) (.slice none 0 0)) (hne:b ≠ c) (v0 v1 v2 v3:Value) : QBox (put4 w c v0 v1 v2 v3) b n d L:=by
 obtain ⟨g1,A1,n1,c1,g2,A2,n2,c2,G,V⟩:=h
 exact ⟨g1,A1,n1,c1,g2,A2,n2,c2,G.other4 (Ne.symm hne) _ _ _ _,V.put4 F _ _ _ _⟩
theorem KBox.other4 {w:World} {b c:Nat} {n d:Int} {L:Nat} (h:KBox w b n d L) (F:Fx4 w c (.bool false) (.slice none 0 0) (.bool false) (.slice none 0 0)) (hne:b ≠ c) (v0 v1 v2 v3:Value) : KBox (put4 w c v0 v1 v2 v3) b n d L:=by
 obtain ⟨g1,A1,n1,c1,g2,A2,n2,c2,G,V⟩:=h
 exact ⟨g1,A1,n1,c1,g2,A2,n2,c2,G.other4 (Ne.symm hne) _ _ _ _,V.put4 F _ _ _ _⟩
theorem Rat.mono {w:World} {v:Value} {n d:Int} {L M:Nat} (h:Rat w v n d L) (hl:L <= M) : Rat w v n d M:=by
 obtain ⟨g1,A1,n1,c1,g2,A2,n2,c2,e,h1,h2,h3⟩:=h
 exact ⟨g1,A1,n1,c1,g2,A2,n2,c2,e,h1.mono hl,h2.mono hl,h3⟩
theorem RQ.mono {w:World} {v:Value} {n d:Int} {L M:Nat} (h:RQ w v n d L) (hl:L <= M) : RQ w v n d M:=by
 obtain ⟨g1,A1,n1,c1,g2,A2,n2,c2,e,h1,h2,h3⟩:=h
 exact ⟨g1,A1,n1,c1,g2,A2,n2,c2,e,h1.mono hl,h2.mono hl,h3⟩
theorem three4x (w:World) (v0 v1 v2 v3:Value) :
  Below w.heap.size w (((w.alloc (.cells #[v0,v1,v2,v3] 26)).alloc (.cells #[.bool false,.slice none 0 0,.bool false,.slice none 0 0] 38)).alloc (.cells #[.bool false,.slice none 0 0,.bool false,.slice none 0 0] 43)) /\
  Fx4 (((w.alloc (.cells #[v0,v1,v2,v3] 26)).alloc (.cells #[.bool false,.slice none 0 0,.bool false,.slice none 0 0] 38)).alloc (.cells #[.bool false,.slice none 0 0,.bool false,.slice none 0 0] 43)) w.heap.size v0 v1 v2 v3 /\
  Fx4 (((w.alloc (.cells #[v0,v1,v2,v3] 26)).alloc (.cells #[.bool false,.slice none 0 0,.bool false,.slice none 0 0] 38)).alloc (.cells #[.bool false,.slice none 0 0,.bool false,.slice none 0 0] 43)) (w.heap.size + 1) (.bool false) (.slice none 0 0) (.bool false) (.slice none 0 0) /\
  Fx4 (((w.alloc (.cells #[v0,v1,v2,v3] 26)).alloc (.cells #[.bool false,.slice none 0 0,.bool false,.slice none 0 0] 38)).alloc (.cells #[.bool false,.slice none 0 0,.bool false,.slice none 0 0] 43)) (w.heap.size + 1 + 1) (.bool false) (.slice none 0 0) (.bool false) (.slice none 0 0) /\
  (((w.alloc (.cells #[v0,v1,v2,v3] 26)).alloc (.cells #[.bool false,.slice none 0 0,.bool false,.slice none 0 0] 38)).alloc (.cells #[.bool false,.slice none 0 0,.bool false,.slice none 0 0] 43)).heap.size = w.heap.size + 1 + 1 + 1:=by
 have F1:=((Fx4.new w v0 v1 v2 v3 26).below (below_alloc _ (.cells #[.bool false,.slice none 0 0,.bool false,.slice none 0 0] 38))).below (below_alloc _ (.cells #[.bool false,.slice none 0 0,.bool false,.slice none 0 0] 43))
 have F2:=(Fx4.new (w.alloc (.cells #[v0,v1,v2,v3] 26)) (.bool false) (.slice none 0 0) (.bool false) (.slice none 0 0) 38).below (below_alloc _ (.cells #[.bool false,.slice none 0 0,.bool false,.slice none 0 0] 43))
 rw [show (w.alloc (.cells #[v0,v1,v2,v3] 26)).heap.size = w.heap.size + 1 from by simp] at F2
 have F3:=Fx4.new ((w.alloc (.cells #[v0,v1,v2,v3] 26)).alloc (.cells #[.bool false,.slice none 0 0,.bool false,.slice none 0 0] 38)) (.bool false) (.slice none 0 0) (.bool false) (.slice none 0 0) 43
 rw [show ((w.alloc (.cells #[v0,v1,v2,v3] 26)).alloc (.cells #[.bool false,.slice none 0 0,.bool false,.slice none 0 0] 38)).heap.size = w.heap.size + 1 + 1 from by simp] at F3
 exact ⟨below_boxed2 _ _ _ _,F1,F2,F3,by simp⟩
def ofN (x y:Int) : Int:=if y = 0 then x else newN x y
def ofD (x y:Int) : Int:=if y = 0 then 1 else newD x y
theorem ofQ_any (p0 p1:Bool) (A0 A1:Option Addr) (n0 c0 n1 c1:Nat) (xs0 xs1:List Int) (w:World) (h0:Row .u32 w A0 n0 c0 xs0) (d0:Dig xs0) (h1:Row .u32 w A1 n1 c1 xs1) (d1:Dig xs1) (hn0:n0 <= 400) (hn1:n1 <= 400) :
  Calls Tryz.prog 18 #[.agg #[.bool p0,.slice A0 n0 c0,.bool p1,.slice A1 n1 c1]] w fun e w'=>(∃ q1 K1 m1 d1 q2 K2 m2 d2 q3 K3 m3 d3 q4 K4 m4 d4,e = .returned (.tuple #[.agg #[.bool q1,.slice K1 m1 d1,.bool q2,.slice K2 m2 d2],.agg #[.bool q3,.slice K3 m3 d3,.bool q4,.slice K4 m4 d4]]) /\
   Rat w' (.agg #[.bool q1,.slice K1 m1 d1,.bool q2,.slice K2 m2 d2]) (ofN (withSign p0 (val xs0)) (withSign p1 (val xs1))) (ofD (withSign p0 (val xs0)) (withSign p1 (val xs1))) (max n0 n1 + 4) /\
   RQ w' (.agg #[.bool q3,.slice K3 m3 d3,.bool q4,.slice K4 m4 d4]) (ofN (withSign p0 (val xs0)) (withSign p1 (val xs1))) (ofD (withSign p0 (val xs0)) (withSign p1 (val xs1))) (2 * max n0 n1 + 64)) /\ Below w.heap.size w w':=by
 obtain ⟨hw,B1,B2,B3,hs⟩:=three4x w (.bool p0) (.slice A0 n0 c0) (.bool p1) (.slice A1 n1 c1)
 obtain ⟨W0,hW0⟩ : ∃ W0,((w.alloc (.cells #[.bool p0,.slice A0 n0 c0,.bool p1,.slice A1 n1 c1] 26)).alloc (.cells #[.bool false,.slice none 0 0,.bool false,.slice none 0 0] 38)).alloc (.cells #[.bool false,.slice none 0 0,.bool false,.slice none 0 0] 43) = W0:=⟨_,rfl⟩
 rw [hW0] at hw B1 B2 B3 hs
 have R0:=Hd (h0.below hw)
 have R1:=Hd (h1.below hw)
 replace B1:=Hd B1
 replace B2:=Hd B2
 replace B3:=Hd B3
 replace hw:=Hd hw
 clear h0 h1 hs
 obtain ⟨x,hx⟩ : ∃ x,withSign p0 (val xs0) = x:=⟨_,rfl⟩
 obtain ⟨y,hy⟩ : ∃ y,withSign p1 (val xs1) = y:=⟨_,rfl⟩
 rw [hx,hy]
 have HX:=Hd hx
 have HYY:=Hd hy
 clear hx hy
 go_enter Tryz.func18,Tryz.ntmps18
 go_upto_region 1 with fail
 clear hW0
 obtain ⟨a0,a1,a2,a3,-,-,-,-,-⟩:=B1.out
 go_wp2_with fail
 refine (of_any p0 A0 n0 c0 xs0 _ R0.out (by omega) d0).mono ?_
 rintro e w1 ⟨g4,A4,n4,c4,g5,A5,n5,c5,rfl,hi,hr,hb1⟩
 rw [HX.out] at hi hr
 clear a0 a1 a2 a3
 replace R0:=Hd (R0.out.below hb1)
 replace R1:=Hd (R1.out.below hb1)
 replace B1:=Hd (B1.out.below hb1)
 replace B2:=Hd (B2.out.below hb1)
 replace B3:=Hd (B3.out.below hb1)
 replace hw:=Hd (hw.out.trans (hb1.mono hw.out.size))
 have hb2:=below_two w1 (.cells #[.bool g4,.slice A4 n4 c4] 31) (.cells #[.bool g5,.slice A5 n5 c5] 34)
 replace R0:=Hd (R0.out.below hb2)
 replace R1:=Hd (R1.out.below hb2)
 replace B1:=Hd (B1.out.below hb2)
 replace B2:=Hd (B2.out.below hb2)
 replace B3:=Hd (B3.out.below hb2)
 replace hw:=Hd (hw.out.trans (hb2.mono hw.out.size))
 have I4:=Hd (IBox.mk (Fx.new1 w1 g4 g5 (.slice A4 n4 c4) (.slice A5 n5 c5) 31 34) (hi.below hb2))
 have J5:=Hd (JBox.mk (Fx.new2 w1 g4 g5 (.slice A4 n4 c4) (.slice A5 n5 c5) 31 34) (hr.below hb2))
 clear hb1 hb2 hi hr
 go_upto_region 2 with fail
 generalize (w1.alloc (.cells #[.bool g4,.slice A4 n4 c4] 31)).alloc (.cells #[.bool g5,.slice A5 n5 c5] 34) = W1 at *
 generalize w1.heap.size = j4 at *
 obtain ⟨j5,hj⟩ : ∃ j,j4 + 1 = j:=⟨_,rfl⟩
 rw [hj] at J5 ⊢
 clear hj
 obtain ⟨a0,a1,a2,a3,-,-,-,-,-⟩:=B1.out
 go_wp2_with fail
 refine (of_any p1 A1 n1 c1 xs1 _ R1.out (by omega) d1).mono ?_
 rintro e w2 ⟨g6,A6,n6,c6,g7,A7,n7,c7,rfl,hi,hr,hb1⟩
 rw [HYY.out] at hi hr
 clear a0 a1 a2 a3
 replace R0:=Hd (R0.out.below hb1)
 replace R1:=Hd (R1.out.below hb1)
 replace B1:=Hd (B1.out.below hb1)
 replace B2:=Hd (B2.out.below hb1)
 replace B3:=Hd (B3.out.below hb1)
 replace I4:=Hd (I4.out.below hb1)
 replace J5:=Hd (J5.out.below hb1)
 replace hw:=Hd (hw.out.trans (hb1.mono hw.out.size))
 have hb2:=below_two w2 (.cells #[.bool g6,.slice A6 n6 c6] 31) (.cells #[.bool g7,.slice A7 n7 c7] 34)
 replace R0:=Hd (R0.out.below hb2)
 replace R1:=Hd (R1.out.below hb2)
 replace B1:=Hd (B1.out.below hb2)
 replace B2:=Hd (B2.out.below hb2)
 replace B3:=Hd (B3.out.below hb2)
 replace I4:=Hd (I4.out.below hb2)
 replace J5:=Hd (J5.out.below hb2)
 replace hw:=Hd (hw.out.trans (hb2.mono hw.out.size))
 have I6:=Hd (IBox.mk (Fx.new1 w2 g6 g7 (.slice A6 n6 c6) (.slice A7 n7 c7) 31 34) (hi.below hb2))
 have J7:=Hd (JBox.mk (Fx.new2 w2 g6 g7 (.slice A6 n6 c6) (.slice A7 n7 c7) 31 34) (hr.below hb2))
 clear hb1 hb2 hi hr
 go_upto_region 3 with fail
 generalize (w2.alloc (.cells #[.bool g6,.slice A6 n6 c6] 31)).alloc (.cells #[.bool g7,.slice A7 n7 c7] 34) = W2 at *
 generalize w2.heap.size = j6 at *
 obtain ⟨j7,hj⟩ : ∃ j,j6 + 1 = j:=⟨_,rfl⟩
 rw [hj] at J7 ⊢
 clear hj
 obtain ⟨gxs,Axs,nxs,cxs,Fxs,Vxs⟩:=J7.out
 obtain ⟨yas,ybs,-,-,-⟩:=Fxs
 replace Vxs:=Hd Vxs
 go_wp2_with fail
 refine (rsign_any _ y (2 * n1) _ Vxs.out (by omega)).mono ?_
 rintro e w3 ⟨rfl,hb1⟩
 clear yas ybs Vxs
 replace R0:=Hd (R0.out.below hb1)
 replace R1:=Hd (R1.out.below hb1)
 replace B1:=Hd (B1.out.below hb1)
 replace B2:=Hd (B2.out.below hb1)
 replace B3:=Hd (B3.out.below hb1)
 replace I4:=Hd (I4.out.below hb1)
 replace J5:=Hd (J5.out.below hb1)
 replace I6:=Hd (I6.out.below hb1)
 replace J7:=Hd (J7.out.below hb1)
 replace hw:=Hd (hw.out.trans (hb1.mono hw.out.size))
 clear hb1 R0 R1 B1
 by_cases hy:y = 0
 ·skip
  have hcm:cmpI y 0 = 0:=cmpI_eq hy
  have HY:=Hd hy
  clear hy
  go_upto_region 4 with fail
  clear hcm
  obtain ⟨Inv,hInv⟩ : ∃ J:(Nat -> Bool) -> (Value × Value × Value × Value) -> World -> Prop,J = fun b v w'=>(Below w.heap.size w w') /\ (b 4 = false -> Below w3.heap.size w3 w') /\ (b 0 = true -> b 4 = false -> Ival w' v.1 x (n0)) /\ (b 2 = true -> b 4 = false -> Rval w' v.2.2.1 x (2 * n0)) /\ (b 1 = true -> Rat w' v.2.1 x 1 (n0 + 2)) /\ (b 3 = true -> RQ w' v.2.2.2 x 1 (2 * n0 + 64)) /\ (b 4 = false -> Fx4 w' (w.heap.size + 1) (.bool false) (.slice none 0 0) (.bool false) (.slice none 0 0)) /\ (b 5 = false -> Fx4 w' (w.heap.size + 1 + 1) (.bool false) (.slice none 0 0) (.bool false) (.slice none 0 0)) /\ (b 4 = true -> QBox w' (w.heap.size + 1) x 1 (n0 + 2)) /\ (b 5 = true -> KBox w' (w.heap.size + 1 + 1) x 1 (2 * n0 + 64)):=⟨_,rfl⟩
  have hB:=(Below.refl w3.heap.size w3).drew
  refine wp_region_held_drew (S:=fun w'=>True) (by kernel_rfl) (trivial) (fun hH=>?_)
  clear hH
  generalize w3.drew = wr0 at *
  refine wpAnyH_begin (V:=Value × Value × Value × Value) (I:=Inv) (A:=?_) [false,false,false,false,false,false] [27,28,29,30] (fun v=>[v.1,v.2.1,v.2.2.1,v.2.2.2]) (fun a=>(a.tmps.getD 27 undef,a.tmps.getD 28 undef,a.tmps.getD 29 undef,a.tmps.getD 30 undef)) ?_ ?_ (by kernel_rfl) (by kernel_rfl) (by kernel_rfl) (by kernel_rfl) (by kernel_rfl) ?_ ?_ ?_
  rotate_left 1
  ·intro v;simp only [fillA,Act.put,tA,cZ,cS];rfl
  ·rfl
  ·rw [hInv]
   exact ⟨(hw.out.trans (hB.mono hw.out.size)),(fun _=>hB),(fun h _=>absurd h (by decide)),(fun h _=>absurd h (by decide)),(fun h=>absurd h (by decide)),(fun h=>absurd h (by decide)),(fun _=>B2.out.below hB),(fun _=>B3.out.below hB),(fun h=>absurd h (by decide)),(fun h=>absurd h (by decide))⟩
  ·skip
   refine EachFrom.cons (k:=0) rfl rfl (ds:=[]) (by kernel_rfl) (fun v x=>(x,v.2.1,v.2.2.1,v.2.2.2)) (fun v x=>by rfl) (fun b v wz hb0 hcl hbk hdep hI Kc hK=>?_) ?_
   ·skip
    rw [hInv] at hI
    obtain ⟨x27,x28,x29,x30⟩:=v
    dsimp only at hI hK ⊢
    (try simp only [Act.put] at hK);(try simp only [tA] at hK);(try simp only [cS] at hK);(try simp only [cZ] at hK)
    obtain ⟨fn,famb,f27,f29,f28,f30,fo2,fo3,fq2,fq3⟩:=hI
    (try simp only [gA]);(try simp only [gS]);(try simp only [gZ])
    have hA:=famb (by cases h:b 4 with | false=>rfl | true=>exact absurd ((show AllT b [1,3,0,1] from hcl 4 _ rfl h).2.2.1) (by rw [hbk];decide))
    obtain ⟨g,A,n,c,Fq,Z27⟩:=I4.out.below hA
    obtain ⟨c0,c1,-,-,-⟩:=Fq
    go_simp
    refine hK.out _ _ trivial ?_
    rw [hInv]
    exact ⟨(fn),(fun h0=>famb h0),(fun h0 h1=>Z27),(fun h0 h1=>f29 h0 h1),(fun h=>absurd ((show AllT b [0] from hcl 1 _ rfl h).1) (by rw [hbk];decide)),(fun h=>absurd ((show AllT b [0] from hcl 1 _ rfl ((show AllT b [2,1] from hcl 3 _ rfl h).2.1)).1) (by rw [hbk];decide)),(fun h0=>fo2 h0),(fun h0=>fo3 h0),(fun h=>absurd ((show AllT b [1,3,0,1] from hcl 4 _ rfl h).2.2.1) (by rw [hbk];decide)),(fun h=>absurd ((show AllT b [3,4,0,1,2,3,4] from hcl 5 _ rfl h).2.2.1) (by rw [hbk];decide))⟩
   refine EachFrom.cons (k:=1) rfl rfl (ds:=[0]) (by kernel_rfl) (fun v x=>(v.1,x,v.2.2.1,v.2.2.2)) (fun v x=>by rfl) (fun b v wz hb0 hcl hbk hdep hI Kc hK=>?_) ?_
   ·skip
    rw [hInv] at hI
    obtain ⟨x27,x28,x29,x30⟩:=v
    dsimp only at hI hK ⊢
    (try simp only [Act.put] at hK);(try simp only [tA] at hK);(try simp only [cS] at hK);(try simp only [cZ] at hK)
    obtain ⟨fn,famb,f27,f29,f28,f30,fo2,fo3,fq2,fq3⟩:=hI
    obtain ⟨d0,-⟩:=hdep
    (try simp only [gA]);(try simp only [gS]);(try simp only [gZ])
    go_simp
    (go_at_call 20;refine (Of_any _ x n0 _ (f27 d0 (by cases h:b 4 with | false=>rfl | true=>exact absurd ((show AllT b [1,3,0,1] from hcl 4 _ rfl h).1) (by rw [hbk];decide)))).mono ?_;rintro e w1 ⟨⟨g28,A28,n28,c28,rfl,hz⟩,hb⟩)
    refine hK.out _ _ trivial ?_
    rw [hInv]
    exact ⟨((fn).trans (hb.mono (fn).size)),(fun h0=>(famb h0).trans (hb.mono (famb h0).size)),(fun h0 h1=>(f27 h0 h1).below hb),(fun h0 h1=>(f29 h0 h1).below hb),(fun h0=>(Rat.mk' (hz.mono (by omega)) Ival.nought (by decide) (Int.gcd_one))),(fun h=>absurd ((show AllT b [2,1] from hcl 3 _ rfl h).2.1) (by rw [hbk];decide)),(fun h0=>(fo2 h0).below hb),(fun h0=>(fo3 h0).below hb),(fun h=>absurd ((show AllT b [1,3,0,1] from hcl 4 _ rfl h).1) (by rw [hbk];decide)),(fun h=>absurd ((show AllT b [3,4,0,1,2,3,4] from hcl 5 _ rfl h).2.2.2.1) (by rw [hbk];decide))⟩
   refine EachFrom.cons (k:=2) rfl rfl (ds:=[]) (by kernel_rfl) (fun v x=>(v.1,v.2.1,x,v.2.2.2)) (fun v x=>by rfl) (fun b v wz hb0 hcl hbk hdep hI Kc hK=>?_) ?_
   ·skip
    rw [hInv] at hI
    obtain ⟨x27,x28,x29,x30⟩:=v
    dsimp only at hI hK ⊢
    (try simp only [Act.put] at hK);(try simp only [tA] at hK);(try simp only [cS] at hK);(try simp only [cZ] at hK)
    obtain ⟨fn,famb,f27,f29,f28,f30,fo2,fo3,fq2,fq3⟩:=hI
    (try simp only [gA]);(try simp only [gS]);(try simp only [gZ])
    have hA:=famb (by cases h:b 4 with | false=>rfl | true=>exact absurd ((show AllT b [2,1] from hcl 3 _ rfl ((show AllT b [1,3,0,1] from hcl 4 _ rfl h).2.1)).1) (by rw [hbk];decide))
    obtain ⟨g,A,n,c,Fq,Z29⟩:=J5.out.below hA
    obtain ⟨c0,c1,-,-,-⟩:=Fq
    go_simp
    refine hK.out _ _ trivial ?_
    rw [hInv]
    exact ⟨(fn),(fun h0=>famb h0),(fun h0 h1=>f27 h0 h1),(fun h0 h1=>Z29),(fun h0=>f28 h0),(fun h=>absurd ((show AllT b [2,1] from hcl 3 _ rfl h).1) (by rw [hbk];decide)),(fun h0=>fo2 h0),(fun h0=>fo3 h0),(fun h=>absurd ((show AllT b [2,1] from hcl 3 _ rfl ((show AllT b [1,3,0,1] from hcl 4 _ rfl h).2.1)).1) (by rw [hbk];decide)),(fun h=>absurd ((show AllT b [3,4,0,1,2,3,4] from hcl 5 _ rfl h).2.2.2.2.1) (by rw [hbk];decide))⟩
   refine EachFrom.cons (k:=3) rfl rfl (ds:=[2,1]) (by kernel_rfl) (fun v x=>(v.1,v.2.1,v.2.2.1,x)) (fun v x=>by rfl) (fun b v wz hb0 hcl hbk hdep hI Kc hK=>?_) ?_
   ·skip
    rw [hInv] at hI
    obtain ⟨x27,x28,x29,x30⟩:=v
    dsimp only at hI hK ⊢
    (try simp only [Act.put] at hK);(try simp only [tA] at hK);(try simp only [cS] at hK);(try simp only [cZ] at hK)
    obtain ⟨fn,famb,f27,f29,f28,f30,fo2,fo3,fq2,fq3⟩:=hI
    obtain ⟨d2,d1,-⟩:=hdep
    (try simp only [gA]);(try simp only [gS]);(try simp only [gZ])
    go_simp
    (go_at_call 21;refine (rOf_any _ x (2 * n0) _ (f29 d2 (by cases h:b 4 with | false=>rfl | true=>exact absurd ((show AllT b [1,3,0,1] from hcl 4 _ rfl h).2.1) (by rw [hbk];decide)))).mono ?_;rintro e w1 ⟨⟨g1,B1,m1,d1x,g2,B2x,m2,d2x,rfl,hz,ho⟩,hb⟩)
    refine hK.out _ _ trivial ?_
    rw [hInv]
    exact ⟨((fn).trans (hb.mono (fn).size)),(fun h0=>(famb h0).trans (hb.mono (famb h0).size)),(fun h0 h1=>(f27 h0 h1).below hb),(fun h0 h1=>(f29 h0 h1).below hb),(fun h0=>(f28 h0).below hb),(fun h0=>(RQ.mk' (hz.mono (by omega)) (ho.mono (by omega)) (by decide) (Int.gcd_one))),(fun h0=>(fo2 h0).below hb),(fun h0=>(fo3 h0).below hb),(fun h=>absurd ((show AllT b [1,3,0,1] from hcl 4 _ rfl h).2.1) (by rw [hbk];decide)),(fun h=>absurd ((show AllT b [3,4,0,1,2,3,4] from hcl 5 _ rfl h).1) (by rw [hbk];decide))⟩
   refine EachFrom.cons (k:=4) rfl rfl (ds:=[1,3,0,1]) (by kernel_rfl) (fun v _=>v) (fun v x=>by rfl) (fun b v wz hb0 hcl hbk hdep hI Kc hK=>?_) ?_
   ·skip
    rw [hInv] at hI
    obtain ⟨x27,x28,x29,x30⟩:=v
    dsimp only at hI hK ⊢
    (try simp only [Act.put] at hK);(try simp only [tA] at hK);(try simp only [cS] at hK);(try simp only [cZ] at hK)
    obtain ⟨fn,famb,f27,f29,f28,f30,fo2,fo3,fq2,fq3⟩:=hI
    obtain ⟨d1,d3,d0,-,-⟩:=hdep
    (try simp only [gA]);(try simp only [gS]);(try simp only [gZ])
    have FB:=fo2 hbk
    obtain ⟨g1,K1,m1,d1x,g2,K2,m2,d2x,rfl⟩:=(f28 d1).form
    obtain ⟨r0,r1,r2,r3,r4,r5,r6,r7,r8⟩:=id FB
    go_simp
    refine hK.out (undef) _ trivial ?_
    rw [hInv]
    exact ⟨((below_put4 (fn) (by omega) _ _ _ _)),(fun h=>absurd (show true = false from h) (by decide)),(fun _ h=>absurd (show true = false from h) (by decide)),(fun _ h=>absurd (show true = false from h) (by decide)),(fun h0=>(f28 h0).put4 FB _ _ _ _),(fun h0=>(f30 h0).put4 FB _ _ _ _),(fun h=>absurd (show true = false from h) (by decide)),(fun h0=>(fo3 h0).other4 (by omega) _ _ _ _),(fun h0=>⟨_,_,_,_,_,_,_,_,FB.put _ _ _ _,(f28 d1).put4 FB _ _ _ _⟩),(fun h=>absurd ((show AllT b [3,4,0,1,2,3,4] from hcl 5 _ rfl h).2.1) (by rw [hbk];decide))⟩
   refine EachFrom.cons (k:=5) rfl rfl (ds:=[3,4,0,1,2,3,4]) (by kernel_rfl) (fun v _=>v) (fun v x=>by rfl) (fun b v wz hb0 hcl hbk hdep hI Kc hK=>?_) ?_
   ·skip
    rw [hInv] at hI
    obtain ⟨x27,x28,x29,x30⟩:=v
    dsimp only at hI hK ⊢
    (try simp only [Act.put] at hK);(try simp only [tA] at hK);(try simp only [cS] at hK);(try simp only [cZ] at hK)
    obtain ⟨fn,famb,f27,f29,f28,f30,fo2,fo3,fq2,fq3⟩:=hI
    obtain ⟨d3,d4,d0,d1,d2,-,-,-⟩:=hdep
    (try simp only [gA]);(try simp only [gS]);(try simp only [gZ])
    have FB:=fo3 hbk
    obtain ⟨g1,K1,m1,d1x,g2,K2,m2,d2x,rfl⟩:=(f30 d3).form
    obtain ⟨r0,r1,r2,r3,r4,r5,r6,r7,r8⟩:=id FB
    go_simp
    refine hK.out (undef) _ trivial ?_
    rw [hInv]
    exact ⟨((below_put4 (fn) (by omega) _ _ _ _)),(fun h=>absurd (show b 4 = false from h) (by rw [d4];decide)),(fun _ h=>absurd (show b 4 = false from h) (by rw [d4];decide)),(fun _ h=>absurd (show b 4 = false from h) (by rw [d4];decide)),(fun h0=>(f28 h0).put4 FB _ _ _ _),(fun h0=>(f30 h0).put4 FB _ _ _ _),(fun h=>absurd (show b 4 = false from h) (by rw [d4];decide)),(fun h=>absurd (show true = false from h) (by decide)),(fun h0=>(fq2 h0).other4 FB (by omega) _ _ _ _),(fun h0=>⟨_,_,_,_,_,_,_,_,FB.put _ _ _ _,(f30 d3).put4 FB _ _ _ _⟩)⟩
   exact EachFrom.nil (by kernel_rfl)
  ·intro v wE hI
   rw [hInv] at hI
   obtain ⟨x27,x28,x29,x30⟩:=v
   dsimp only at hI ⊢
   obtain ⟨fn,famb,f27,f29,f28,f30,fo2,fo3,fq2,fq3⟩:=hI
   clear famb
   clear f27
   clear f29
   replace f28:=f28 rfl
   replace f30:=f30 rfl
   clear fo2
   clear fo3
   replace fq2:=fq2 rfl
   replace fq3:=fq3 rfl
   clear hInv hB
   clear f28 f30
   obtain ⟨q1,K1,m1,d1x,q2,K2,m2,d2x,F2,V2⟩:=fq2
   obtain ⟨q3,K3,m3,d3x,q4,K4,m4,d4x,F3,V3⟩:=fq3
   have H2:=Hd V2
   have H3:=Hd V3
   have HN:=Hd fn
   clear V2 V3 fn
   obtain ⟨r0,r1,r2,r3,-,-,-,-,-⟩:=F2
   obtain ⟨s0,s1,s2,s3,-,-,-,-,-⟩:=F3
   go_wp2
   refine bodyPost_ret (v:=.tuple #[.agg #[.bool q1,.slice K1 m1 d1x,.bool q2,.slice K2 m2 d2x],.agg #[.bool q3,.slice K3 m3 d3x,.bool q4,.slice K4 m4 d4x]]) (by simp [results,Tryz.results18,go_sem,r0,r1,r2,r3,s0,s1,s2,s3]) rfl ⟨⟨q1,K1,m1,d1x,q2,K2,m2,d2x,q3,K3,m3,d3x,q4,K4,m4,d4x,rfl,?_,?_⟩,HN.out⟩
   ·rw [show ofN x y = x from if_pos HY.out,show ofD x y = 1 from if_pos HY.out];exact H2.out.mono (by omega)
   ·rw [show ofN x y = x from if_pos HY.out,show ofD x y = 1 from if_pos HY.out];exact H3.out.mono (by omega)
 have hcm:cmpI y 0 ≠ 0:=fun h=>hy (cmpI_zero h)
 have HY:=Hd hy
 clear hy
 obtain ⟨gxs,Axs,nxs,cxs,Fxs,Vxs⟩:=I4.out
 obtain ⟨yas,ybs,-,-,-⟩:=Fxs
 replace Vxs:=Hd Vxs
 obtain ⟨gxt,Axt,nxt,cxt,Fxt,Vxt⟩:=I6.out
 obtain ⟨yat,ybt,-,-,-⟩:=Fxt
 replace Vxt:=Hd Vxt
 go_wp2_with fail
 refine (New_any _ _ x y (max (max n0 n1) 2) _ (Vxs.out.mono (by omega)) (Vxt.out.mono (by omega)) (by omega) (by omega)).mono ?_
 rintro e w4 ⟨⟨q1,K1,m1,d1x,q2,K2,m2,d2x,rfl,hz⟩,hb1⟩
 clear yas ybs Vxs yat ybt Vxt
 replace B2:=Hd (B2.out.below hb1)
 replace B3:=Hd (B3.out.below hb1)
 replace I4:=Hd (I4.out.below hb1)
 replace J5:=Hd (J5.out.below hb1)
 replace I6:=Hd (I6.out.below hb1)
 replace J7:=Hd (J7.out.below hb1)
 replace hw:=Hd (hw.out.trans (hb1.mono hw.out.size))
 clear hb1 hcm
 have HJ8:=Hd (show w4.heap.size ≠ w.heap.size + 1 /\ w4.heap.size ≠ w.heap.size + 1 + 1 by have h1:=B3.out.lt;exact ⟨by omega,by omega⟩)
 have hb2:=below_alloc w4 (.cells #[.bool q1,.slice K1 m1 d1x,.bool q2,.slice K2 m2 d2x] 38)
 replace B2:=Hd (B2.out.below hb2)
 replace B3:=Hd (B3.out.below hb2)
 replace I4:=Hd (I4.out.below hb2)
 replace J5:=Hd (J5.out.below hb2)
 replace I6:=Hd (I6.out.below hb2)
 replace J7:=Hd (J7.out.below hb2)
 replace hw:=Hd (hw.out.trans (hb2.mono hw.out.size))
 have Q8:=Hd (QBox.new w4 38 hz)
 clear hb2 hz
 go_upto_region 6 with fail
 generalize w4.alloc (.cells #[.bool q1,.slice K1 m1 d1x,.bool q2,.slice K2 m2 d2x] 38) = W4 at *
 generalize w4.heap.size = j8 at *
 obtain ⟨gxs,Axs,nxs,cxs,Fxs,Vxs⟩:=J5.out
 obtain ⟨yas,ybs,-,-,-⟩:=Fxs
 replace Vxs:=Hd Vxs
 obtain ⟨gxt,Axt,nxt,cxt,Fxt,Vxt⟩:=J7.out
 obtain ⟨yat,ybt,-,-,-⟩:=Fxt
 replace Vxt:=Hd Vxt
 go_wp2_with fail
 refine (rNew_any _ _ x y (max (2 * n0) (2 * n1)) _ (Vxs.out.mono (by omega)) (Vxt.out.mono (by omega)) (by omega)).mono ?_
 rintro e w5 ⟨⟨q3,K3,m3,d3x,q4,K4,m4,d4x,rfl,hz⟩,hb1⟩
 clear yas ybs Vxs yat ybt Vxt
 replace B2:=Hd (B2.out.below hb1)
 replace B3:=Hd (B3.out.below hb1)
 replace I4:=Hd (I4.out.below hb1)
 replace J5:=Hd (J5.out.below hb1)
 replace I6:=Hd (I6.out.below hb1)
 replace J7:=Hd (J7.out.below hb1)
 replace Q8:=Hd (Q8.out.below hb1)
 replace hw:=Hd (hw.out.trans (hb1.mono hw.out.size))
 clear hb1
 have HJ10:=Hd (show w5.heap.size ≠ w.heap.size + 1 /\ w5.heap.size ≠ w.heap.size + 1 + 1 by have h1:=B3.out.lt;exact ⟨by omega,by omega⟩)
 have hb2:=below_alloc w5 (.cells #[.bool q3,.slice K3 m3 d3x,.bool q4,.slice K4 m4 d4x] 43)
 replace B2:=Hd (B2.out.below hb2)
 replace B3:=Hd (B3.out.below hb2)
 replace I4:=Hd (I4.out.below hb2)
 replace J5:=Hd (J5.out.below hb2)
 replace I6:=Hd (I6.out.below hb2)
 replace J7:=Hd (J7.out.below hb2)
 replace Q8:=Hd (Q8.out.below hb2)
 replace hw:=Hd (hw.out.trans (hb2.mono hw.out.size))
 have Q10:=Hd (KBox.new w5 43 hz)
 skip
 clear hb2 hz
 go_upto_region 7 with fail
 generalize w5.alloc (.cells #[.bool q3,.slice K3 m3 d3x,.bool q4,.slice K4 m4 d4x] 43) = W5 at *
 generalize w5.heap.size = j10 at *
 have HJ:=Hd (show j8 ≠ w.heap.size + 1 /\ j8 ≠ w.heap.size + 1 + 1 /\ j10 ≠ w.heap.size + 1 /\ j10 ≠ w.heap.size + 1 + 1 from ⟨HJ8.out.1,HJ8.out.2,HJ10.out.1,HJ10.out.2⟩)
 obtain ⟨Inv,hInv⟩ : ∃ J:(Nat -> Bool) -> (Value × Value) -> World -> Prop,J = fun b v w'=>(Below w.heap.size w w') /\ (QBox w' j8 (newN x y) (newD x y) (max (max n0 n1) 2 + 2)) /\ (KBox w' j10 (newN x y) (newD x y) (max (2 * n0) (2 * n1) + 64)) /\ (b 0 = true -> Rat w' v.1 (newN x y) (newD x y) (max (max n0 n1) 2 + 2)) /\ (b 1 = true -> RQ w' v.2 (newN x y) (newD x y) (max (2 * n0) (2 * n1) + 64)) /\ (b 2 = false -> Fx4 w' (w.heap.size + 1) (.bool false) (.slice none 0 0) (.bool false) (.slice none 0 0)) /\ (b 3 = false -> Fx4 w' (w.heap.size + 1 + 1) (.bool false) (.slice none 0 0) (.bool false) (.slice none 0 0)) /\ (b 2 = true -> QBox w' (w.heap.size + 1) (newN x y) (newD x y) (max (max n0 n1) 2 + 2)) /\ (b 3 = true -> KBox w' (w.heap.size + 1 + 1) (newN x y) (newD x y) (max (2 * n0) (2 * n1) + 64)):=⟨_,rfl⟩
 have hB:=(Below.refl W5.heap.size W5).drew
 refine wp_region_held_drew (S:=fun w'=>True) (by kernel_rfl) (trivial) (fun hH=>?_)
 clear hH
 generalize W5.drew = wr0 at *
 refine wpAnyH_begin (V:=Value × Value) (I:=Inv) (A:=?_) [false,false,false,false] [43,44] (fun v=>[v.1,v.2]) (fun a=>(a.tmps.getD 43 undef,a.tmps.getD 44 undef)) ?_ ?_ (by kernel_rfl) (by kernel_rfl) (by kernel_rfl) (by kernel_rfl) (by kernel_rfl) ?_ ?_ ?_
 rotate_left 1
 ·intro v;simp only [fillA,Act.put,tA,cZ,cS];rfl
 ·rfl
 ·rw [hInv]
  exact ⟨(hw.out.trans (hB.mono hw.out.size)),(Q8.out.below hB),(Q10.out.below hB),(fun h=>absurd h (by decide)),(fun h=>absurd h (by decide)),(fun _=>B2.out.below hB),(fun _=>B3.out.below hB),(fun h=>absurd h (by decide)),(fun h=>absurd h (by decide))⟩
 ·skip
  refine EachFrom.cons (k:=0) rfl rfl (ds:=[]) (by kernel_rfl) (fun v x=>(x,v.2)) (fun v x=>by rfl) (fun b v wz hb0 hcl hbk hdep hI Kc hK=>?_) ?_
  ·skip
   rw [hInv] at hI
   obtain ⟨x43,x44⟩:=v
   dsimp only at hI hK ⊢
   (try simp only [Act.put] at hK);(try simp only [tA] at hK);(try simp only [cS] at hK);(try simp only [cZ] at hK)
   obtain ⟨fn,fQ8,fQ10,f43,f44,fo2,fo3,fq2,fq3⟩:=hI
   (try simp only [gA]);(try simp only [gS]);(try simp only [gZ])
   obtain ⟨g1,K1,m1,d1x,g2,K2,m2,d2x,Fq,Z⟩:=id fQ8
   obtain ⟨c0,c1,c2,c3,-,-,-,-,-⟩:=Fq
   go_simp
   refine hK.out _ _ trivial ?_
   rw [hInv]
   exact ⟨(fn),(fQ8),(fQ10),(fun h0=>Z),(fun h0=>f44 h0),(fun h0=>fo2 h0),(fun h0=>fo3 h0),(fun h=>absurd ((show AllT b [0,0] from hcl 2 _ rfl h).1) (by rw [hbk];decide)),(fun h=>absurd ((show AllT b [1,2,0,1,2] from hcl 3 _ rfl h).2.2.1) (by rw [hbk];decide))⟩
  refine EachFrom.cons (k:=1) rfl rfl (ds:=[]) (by kernel_rfl) (fun v x=>(v.1,x)) (fun v x=>by rfl) (fun b v wz hb0 hcl hbk hdep hI Kc hK=>?_) ?_
  ·skip
   rw [hInv] at hI
   obtain ⟨x43,x44⟩:=v
   dsimp only at hI hK ⊢
   (try simp only [Act.put] at hK);(try simp only [tA] at hK);(try simp only [cS] at hK);(try simp only [cZ] at hK)
   obtain ⟨fn,fQ8,fQ10,f43,f44,fo2,fo3,fq2,fq3⟩:=hI
   (try simp only [gA]);(try simp only [gS]);(try simp only [gZ])
   obtain ⟨g1,K1,m1,d1x,g2,K2,m2,d2x,Fq,Z⟩:=id fQ10
   obtain ⟨c0,c1,c2,c3,-,-,-,-,-⟩:=Fq
   go_simp
   refine hK.out _ _ trivial ?_
   rw [hInv]
   exact ⟨(fn),(fQ8),(fQ10),(fun h0=>f43 h0),(fun h0=>Z),(fun h0=>fo2 h0),(fun h0=>fo3 h0),(fun h0=>fq2 h0),(fun h=>absurd ((show AllT b [1,2,0,1,2] from hcl 3 _ rfl h).1) (by rw [hbk];decide))⟩
  refine EachFrom.cons (k:=2) rfl rfl (ds:=[0,0]) (by kernel_rfl) (fun v _=>v) (fun v x=>by rfl) (fun b v wz hb0 hcl hbk hdep hI Kc hK=>?_) ?_
  ·skip
   rw [hInv] at hI
   obtain ⟨x43,x44⟩:=v
   dsimp only at hI hK ⊢
   (try simp only [Act.put] at hK);(try simp only [tA] at hK);(try simp only [cS] at hK);(try simp only [cZ] at hK)
   obtain ⟨fn,fQ8,fQ10,f43,f44,fo2,fo3,fq2,fq3⟩:=hI
   obtain ⟨d0,-,-⟩:=hdep
   (try simp only [gA]);(try simp only [gS]);(try simp only [gZ])
   have FB:=fo2 hbk
   obtain ⟨g1,K1,m1,d1x,g2,K2,m2,d2x,rfl⟩:=(f43 d0).form
   obtain ⟨r0,r1,r2,r3,r4,r5,r6,r7,r8⟩:=id FB
   go_simp
   refine hK.out (undef) _ trivial ?_
   rw [hInv]
   exact ⟨((below_put4 (fn) (by omega) _ _ _ _)),((fQ8).other4 FB (by have:=HJ.out;omega) _ _ _ _),((fQ10).other4 FB (by have:=HJ.out;omega) _ _ _ _),(fun h0=>(f43 h0).put4 FB _ _ _ _),(fun h0=>(f44 h0).put4 FB _ _ _ _),(fun h=>absurd (show true = false from h) (by decide)),(fun h0=>(fo3 h0).other4 (by omega) _ _ _ _),(fun h0=>⟨_,_,_,_,_,_,_,_,FB.put _ _ _ _,(f43 d0).put4 FB _ _ _ _⟩),(fun h=>absurd ((show AllT b [1,2,0,1,2] from hcl 3 _ rfl h).2.1) (by rw [hbk];decide))⟩
  refine EachFrom.cons (k:=3) rfl rfl (ds:=[1,2,0,1,2]) (by kernel_rfl) (fun v _=>v) (fun v x=>by rfl) (fun b v wz hb0 hcl hbk hdep hI Kc hK=>?_) ?_
  ·skip
   rw [hInv] at hI
   obtain ⟨x43,x44⟩:=v
   dsimp only at hI hK ⊢
   (try simp only [Act.put] at hK);(try simp only [tA] at hK);(try simp only [cS] at hK);(try simp only [cZ] at hK)
   obtain ⟨fn,fQ8,fQ10,f43,f44,fo2,fo3,fq2,fq3⟩:=hI
   obtain ⟨d1,d2,d0,-,-,-⟩:=hdep
   (try simp only [gA]);(try simp only [gS]);(try simp only [gZ])
   have FB:=fo3 hbk
   obtain ⟨g1,K1,m1,d1x,g2,K2,m2,d2x,rfl⟩:=(f44 d1).form
   obtain ⟨r0,r1,r2,r3,r4,r5,r6,r7,r8⟩:=id FB
   go_simp
   refine hK.out (undef) _ trivial ?_
   rw [hInv]
   exact ⟨((below_put4 (fn) (by omega) _ _ _ _)),((fQ8).other4 FB (by have:=HJ.out;omega) _ _ _ _),((fQ10).other4 FB (by have:=HJ.out;omega) _ _ _ _),(fun h0=>(f43 h0).put4 FB _ _ _ _),(fun h0=>(f44 h0).put4 FB _ _ _ _),(fun h=>absurd (show b 2 = false from h) (by rw [d2];decide)),(fun h=>absurd (show true = false from h) (by decide)),(fun h0=>(fq2 h0).other4 FB (by omega) _ _ _ _),(fun h0=>⟨_,_,_,_,_,_,_,_,FB.put _ _ _ _,(f44 d1).put4 FB _ _ _ _⟩)⟩
  exact EachFrom.nil (by kernel_rfl)
 ·intro v wE hI
  rw [hInv] at hI
  obtain ⟨x43,x44⟩:=v
  dsimp only at hI ⊢
  obtain ⟨fn,fQ8,fQ10,f43,f44,fo2,fo3,fq2,fq3⟩:=hI
  replace f43:=f43 rfl
  replace f44:=f44 rfl
  clear fo2
  clear fo3
  replace fq2:=fq2 rfl
  replace fq3:=fq3 rfl
  clear hInv hB
  clear f43 f44 fQ8 fQ10
  obtain ⟨q1,K1,m1,d1x,q2,K2,m2,d2x,F2,V2⟩:=fq2
  obtain ⟨q3,K3,m3,d3x,q4,K4,m4,d4x,F3,V3⟩:=fq3
  have H2:=Hd V2
  have H3:=Hd V3
  have HN:=Hd fn
  clear V2 V3 fn
  obtain ⟨r0,r1,r2,r3,-,-,-,-,-⟩:=F2
  obtain ⟨s0,s1,s2,s3,-,-,-,-,-⟩:=F3
  go_wp2
  refine bodyPost_ret (v:=.tuple #[.agg #[.bool q1,.slice K1 m1 d1x,.bool q2,.slice K2 m2 d2x],.agg #[.bool q3,.slice K3 m3 d3x,.bool q4,.slice K4 m4 d4x]]) (by simp [results,Tryz.results18,go_sem,r0,r1,r2,r3,s0,s1,s2,s3]) rfl ⟨⟨q1,K1,m1,d1x,q2,K2,m2,d2x,q3,K3,m3,d3x,q4,K4,m4,d4x,rfl,?_,?_⟩,HN.out⟩
  ·rw [show ofN x y = newN x y from if_neg HY.out,show ofD x y = newD x y from if_neg HY.out];exact H2.out.mono (by omega)
  ·rw [show ofN x y = newN x y from if_neg HY.out,show ofD x y = newD x y from if_neg HY.out];exact H3.out.mono (by omega)
theorem pow_nat {z n:Int} (h:0 <= n) : powV z n = z ^ n.toNat:=if_neg (by omega)
def IsRoot (x r:Int) : Prop:=0 <= r /\ r * r <= x /\ x < (r + 1) * (r + 1)
theorem IsRoot.same {x r s:Int} (h:IsRoot x r) (g:IsRoot x s) : r = s:=by
 obtain ⟨h0,h1,h2⟩:=h
 obtain ⟨g0,g1,g2⟩:=g
 have key:∀ a b:Int,0 <= a -> 0 <= b -> a * a <= x -> x < (b + 1) * (b + 1) -> a <= b:=by
  intro a b ha hb h1 h2
  refine Int.not_lt.1 fun hlt=>?_
  have h3:(b + 1) * (b + 1) <= a * a:=Int.mul_le_mul (by omega) (by omega) (by omega) ha
  omega
 exact Int.le_antisymm (key r s h0 g0 h1 g2) (key s r g0 h0 g1 h2)
theorem RBox.mono {w:World} {b:Nat} {z:Int} {L M:Nat} (h:RBox w b z L) (hm:L <= M) : RBox w b z M:=by
 obtain ⟨g,A,n,c,h1,h2,h3,h4,h5,h6⟩:=h
 exact ⟨g,A,n,c,h1,h2,h3,h4,h5,h6.mono hm⟩
def RootAt (x:Int) (j:Nat) (r:Int) : Prop:=0 <= r /\ r * r <= x /\ x < (r + 2 ^ j) * (r + 2 ^ j)
theorem RootAt.start {x:Int} (h0:0 <= x) {d:Nat} (hd:x < 2 ^ d) : RootAt x (d / 2 + 1) 0:=by
 refine ⟨Int.le_refl _,by omega,?_⟩
 have h1:=two_mono (show d <= (d / 2 + 1) + (d / 2 + 1) by omega)
 rw [Int.pow_add] at h1
 rw [Int.zero_add]
 omega
theorem RootAt.low {x:Int} {j:Nat} {r:Int} (h:RootAt x (j + 1) r) (hc:x < (r + 2 ^ j) * (r + 2 ^ j)) : RootAt x j r:=⟨h.1,h.2.1,hc⟩
theorem RootAt.high {x:Int} {j:Nat} {r:Int} (h:RootAt x (j + 1) r) (hc:(r + 2 ^ j) * (r + 2 ^ j) <= x) : RootAt x j (r + 2 ^ j):=by
 have:=two_pos j
 refine ⟨by have:=h.1;omega,hc,?_⟩
 have h3:=h.2.2
 rw [Int.pow_succ] at h3
 rw [show r + 2 ^ j + 2 ^ j = r + 2 ^ j * 2 by omega]
 exact h3
theorem RootAt.done {x r:Int} (h:RootAt x 0 r) : IsRoot x r:=⟨h.1,h.2.1,by have:=h.2.2;rwa [Int.pow_zero] at this⟩
end Go.Proofs.YtbajnceoolkckaaGreat
