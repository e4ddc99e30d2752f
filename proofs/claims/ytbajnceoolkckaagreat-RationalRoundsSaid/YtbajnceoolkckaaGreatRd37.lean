/- Of the proof of RationalRounds: RatRd. -/
import Derived.Test.YtbajnceoolkckaaGreatRd36
open List renaming getElem_toArray → gA, getElem_cons_succ → gS, getElem_cons_zero → gZ, setIfInBounds_toArray → tA, set_cons_zero → cZ, set_cons_succ → cS
open Go.Lib renaming hid → Hd
set_option maxRecDepth 100000
set_option maxHeartbeats 16000000
namespace Go.Proofs.YtbajnceoolkckaaGreat
open Go.RowKit LM
theorem lensQ2 (w:World) {g:Nat} (hg:w.heap.size = g) (pa pb pc pd:Bool) (Aa Ab Ac Ad:Option Addr) (na nb nc nd ca cb cc cd:Nat) :
  LensQ (w.alloc (.cells #[.bool pa,.slice Aa na ca,.bool pb,.slice Ab nb cb,.bool pc,.slice Ac nc cc,.bool pd,.slice Ad nd cd] 26)) g 2 [(na,nb),(nc,nd)]:=by
 subst hg
 refine ⟨rfl,by simp,fun i hi=>?_⟩
 match i,hi with
 | 0,_=>exact ⟨pa,Aa,ca,pb,Ab,cb,World.cell?_alloc_at _ _ _ _ rfl,World.cell?_alloc_at _ _ _ _ rfl,World.cell?_alloc_at _ _ _ _ rfl,World.cell?_alloc_at _ _ _ _ rfl⟩
 | 1,_=>exact ⟨pc,Ac,cc,pd,Ad,cd,World.cell?_alloc_at _ _ _ _ rfl,World.cell?_alloc_at _ _ _ _ rfl,World.cell?_alloc_at _ _ _ _ rfl,World.cell?_alloc_at _ _ _ _ rfl⟩
theorem givenQ2 (w:World) {g:Nat} (hg:w.heap.size = g) (pa pb pc pd:Bool) {Aa Ab Ac Ad:Option Addr} {na nb nc nd ca cb cc cd:Nat} {xa xb xc xd:List Int} (ha:Row .u32 w Aa na ca xa) (hb0:Row .u32 w Ab nb cb xb) (hc:Row .u32 w Ac nc cc xc) (hd:Row .u32 w Ad nd cd xd) (da:Dig xa) (db:Dig xb) (dc:Dig xc) (dd:Dig xd) (hn:(na <= 3 /\ nb <= 3) /\ (nc <= 3 /\ nd <= 3)) :
  GivenQ (w.alloc (.cells #[.bool pa,.slice Aa na ca,.bool pb,.slice Ab nb cb,.bool pc,.slice Ac nc cc,.bool pd,.slice Ad nd cd] 26)) g 2 3 [(ofN (withSign pa (val xa)) (withSign pb (val xb)),ofD (withSign pa (val xa)) (withSign pb (val xb))),(ofN (withSign pc (val xc)) (withSign pd (val xd)),ofD (withSign pc (val xc)) (withSign pd (val xd)))]:=by
 subst hg
 have hb:=below_alloc w (.cells #[.bool pa,.slice Aa na ca,.bool pb,.slice Ab nb cb,.bool pc,.slice Ac nc cc,.bool pd,.slice Ad nd cd] 26)
 refine ⟨rfl,by simp,fun i hi=>?_⟩
 match i,hi with
 | 0,_=>exact ⟨pa,Aa,na,ca,xa,pb,Ab,nb,cb,xb,World.cell?_alloc_at _ _ _ _ rfl,World.cell?_alloc_at _ _ _ _ rfl,World.cell?_alloc_at _ _ _ _ rfl,World.cell?_alloc_at _ _ _ _ rfl,ha.below hb,da,hn.1.1,hb0.below hb,db,hn.1.2,rfl⟩
 | 1,_=>exact ⟨pc,Ac,nc,cc,xc,pd,Ad,nd,cd,xd,World.cell?_alloc_at _ _ _ _ rfl,World.cell?_alloc_at _ _ _ _ rfl,World.cell?_alloc_at _ _ _ _ rfl,World.cell?_alloc_at _ _ _ _ rfl,hc.below hb,dc,hn.2.1,hd.below hb,dd,hn.2.2,rfl⟩
theorem own2 {w:World} {base:Nat} {v:Value} {x0 y0 x1 y1:Int} {L:Nat} (h:OwnRats w base v [(x0,y0),(x1,y1)] L) :
  ∃ b cap g0 K0 l0 f0 s0 E0 r0 t0 g1 K1 l1 f1 s1 E1 r1 t1,v = .slice (some ⟨b,0,none⟩) 2 cap /\ b < w.heap.size /\
   (w.cell? ⟨b,0,none⟩ = some (.bool g0) /\ w.cell? ⟨b,1,none⟩ = some (.slice K0 l0 f0) /\ w.cell? ⟨b,2,none⟩ = some (.bool s0) /\ w.cell? ⟨b,3,none⟩ = some (.slice E0 r0 t0) /\ w.cell? ⟨b,4,none⟩ = some (.bool g1) /\ w.cell? ⟨b,5,none⟩ = some (.slice K1 l1 f1) /\ w.cell? ⟨b,6,none⟩ = some (.bool s1) /\ w.cell? ⟨b,7,none⟩ = some (.slice E1 r1 t1)) /\
   Rat w (.agg #[.bool g0,.slice K0 l0 f0,.bool s0,.slice E0 r0 t0]) x0 y0 L /\ Rat w (.agg #[.bool g1,.slice K1 l1 f1,.bool s1,.slice E1 r1 t1]) x1 y1 L:=by
 obtain ⟨b,cap,g0,K0,l0,f0,s0,E0,r0,t0,rfl,hb,hlt,a0,a1,a2,a3,V0⟩:=h.get (i:=0) (by simp)
 obtain ⟨b',cap',g1,K1,l1,f1,s1,E1,r1,t1,e1,-,-,b0,b1,b2,b3,V1⟩:=h.get (i:=1) (by simp)
 injection e1 with e3 _ _
 injection e3 with e3
 injection e3 with e3
 subst e3
 exact ⟨b,cap,g0,K0,l0,f0,s0,E0,r0,t0,g1,K1,l1,f1,s1,E1,r1,t1,rfl,hlt,⟨a0,a1,a2,a3,b0,b1,b2,b3⟩,V0,V1⟩
def Two38 (z t u s:Int) (base:World) (va vb:Value) (wx:World) : Prop:=
 ∃ j6 j7 g0 K0 l0 f0 s0 E0 r0 t0 g1 K1 l1 f1 s1 E1 r1 t1,va = .pointer (some ⟨j6,0,none⟩) /\ vb = .pointer (some ⟨j7,0,none⟩) /\ Fx4 wx j6 (.bool g0) (.slice K0 l0 f0) (.bool s0) (.slice E0 r0 t0) /\ Fx4 wx j7 (.bool g1) (.slice K1 l1 f1) (.bool s1) (.slice E1 r1 t1) /\
  Rat wx (.agg #[.bool g0,.slice K0 l0 f0,.bool s0,.slice E0 r0 t0]) z t 7 /\ Rat wx (.agg #[.bool g1,.slice K1 l1 f1,.bool s1,.slice E1 r1 t1]) u s 7 /\ Below base.heap.size base wx
theorem two38A {w:World} {g0 s0 g1 s1:Bool} {K0 E0 K1 E1:Option Addr} {l0 f0 r0 t0 l1 f1 r1 t1:Nat} {z t u s:Int} (h:Rat w (.agg #[.bool g0,.slice K0 l0 f0,.bool s0,.slice E0 r0 t0]) z t 7) (g:Rat w (.agg #[.bool g1,.slice K1 l1 f1,.bool s1,.slice E1 r1 t1]) u s 7) :
  Two38 z t u s w (.pointer (some ⟨w.heap.size,0,none⟩)) (.pointer (some ⟨w.heap.size + 1,0,none⟩)) (((w.alloc (.cells #[.bool g0,.slice K0 l0 f0,.bool s0,.slice E0 r0 t0] 38)).alloc (.cells #[.bool g1,.slice K1 l1 f1,.bool s1,.slice E1 r1 t1] 38)).drew):=by
 have hb:=below_two w (.cells #[.bool g0,.slice K0 l0 f0,.bool s0,.slice E0 r0 t0] 38) (.cells #[.bool g1,.slice K1 l1 f1,.bool s1,.slice E1 r1 t1] 38)
 have F0:=Fx4.new1 w (.bool g0) (.slice K0 l0 f0) (.bool s0) (.slice E0 r0 t0) 38 (.cells #[.bool g1,.slice K1 l1 f1,.bool s1,.slice E1 r1 t1] 38)
 have F1:=Fx4.new2 w (.bool g1) (.slice K1 l1 f1) (.bool s1) (.slice E1 r1 t1) 38 #[.bool g0,.slice K0 l0 f0,.bool s0,.slice E0 r0 t0] 38
 generalize (w.alloc (.cells #[.bool g0,.slice K0 l0 f0,.bool s0,.slice E0 r0 t0] 38)).alloc (.cells #[.bool g1,.slice K1 l1 f1,.bool s1,.slice E1 r1 t1] 38) = w2 at *
 have hd:=(Below.refl w2.heap.size w2).drew
 exact ⟨_,_,g0,K0,l0,f0,s0,E0,r0,t0,g1,K1,l1,f1,s1,E1,r1,t1,rfl,rfl,F0.below hd,F1.below hd,(h.below hb).below hd,(g.below hb).below hd,hb.trans (hd.mono hb.size)⟩
theorem two38B {w:World} {g0 s0 g1 s1:Bool} {K0 E0 K1 E1:Option Addr} {l0 f0 r0 t0 l1 f1 r1 t1:Nat} {z t u s:Int} (h:Rat w (.agg #[.bool g0,.slice K0 l0 f0,.bool s0,.slice E0 r0 t0]) z t 7) (g:Rat w (.agg #[.bool g1,.slice K1 l1 f1,.bool s1,.slice E1 r1 t1]) u s 7) :
  Two38 z t u s w (.pointer (some ⟨w.heap.size + 1,0,none⟩)) (.pointer (some ⟨w.heap.size,0,none⟩)) (((w.alloc (.cells #[.bool g1,.slice K1 l1 f1,.bool s1,.slice E1 r1 t1] 38)).alloc (.cells #[.bool g0,.slice K0 l0 f0,.bool s0,.slice E0 r0 t0] 38)).drew):=by
 obtain ⟨j6,j7,a0,a1,a2,a3,a4,a5,a6,a7,b0,b1,b2,b3,b4,b5,b6,b7,e6,e7,q⟩:=two38A g h
 obtain ⟨F0,F1,V0,V1,hb⟩:=q
 exact ⟨j7,j6,b0,b1,b2,b3,b4,b5,b6,b7,a0,a1,a2,a3,a4,a5,a6,a7,e7,e6,F1,F0,V1,V0,hb⟩
structure Fx8 (w:World) (b:Nat) (v0 v1 v2 v3 v4 v5 v6 v7:Value) : Prop where
 c0:w.cell? ⟨b,0,none⟩ = some v0
 c1:w.cell? ⟨b,1,none⟩ = some v1
 c2:w.cell? ⟨b,2,none⟩ = some v2
 c3:w.cell? ⟨b,3,none⟩ = some v3
 c4:w.cell? ⟨b,4,none⟩ = some v4
 c5:w.cell? ⟨b,5,none⟩ = some v5
 c6:w.cell? ⟨b,6,none⟩ = some v6
 c7:w.cell? ⟨b,7,none⟩ = some v7
 f0:w.frozen? ⟨b,0,none⟩ = false
 f1:w.frozen? ⟨b,1,none⟩ = false
 f2:w.frozen? ⟨b,2,none⟩ = false
 f3:w.frozen? ⟨b,3,none⟩ = false
 f4:w.frozen? ⟨b,4,none⟩ = false
 f5:w.frozen? ⟨b,5,none⟩ = false
 f6:w.frozen? ⟨b,6,none⟩ = false
 f7:w.frozen? ⟨b,7,none⟩ = false
 lt:b < w.heap.size
theorem Fx8.below {w w' : World} {b : Nat} {v0 v1 v2 v3 v4 v5 v6 v7 : Value} (h : Fx8 w b v0 v1 v2 v3 v4 v5 v6 v7) (hb : Below w.heap.size w w') : Fx8 w' b v0 v1 v2 v3 v4 v5 v6 v7 :=
  ⟨(hb.cell (p := ⟨b, 0, none⟩) h.lt).trans h.c0, (hb.cell (p := ⟨b, 1, none⟩) h.lt).trans h.c1, (hb.cell (p := ⟨b, 2, none⟩) h.lt).trans h.c2, (hb.cell (p := ⟨b, 3, none⟩) h.lt).trans h.c3, (hb.cell (p := ⟨b, 4, none⟩) h.lt).trans h.c4, (hb.cell (p := ⟨b, 5, none⟩) h.lt).trans h.c5, (hb.cell (p := ⟨b, 6, none⟩) h.lt).trans h.c6, (hb.cell (p := ⟨b, 7, none⟩) h.lt).trans h.c7,
   (hb.frozen (p := ⟨b, 0, none⟩) h.lt).trans h.f0, (hb.frozen (p := ⟨b, 1, none⟩) h.lt).trans h.f1, (hb.frozen (p := ⟨b, 2, none⟩) h.lt).trans h.f2, (hb.frozen (p := ⟨b, 3, none⟩) h.lt).trans h.f3, (hb.frozen (p := ⟨b, 4, none⟩) h.lt).trans h.f4, (hb.frozen (p := ⟨b, 5, none⟩) h.lt).trans h.f5, (hb.frozen (p := ⟨b, 6, none⟩) h.lt).trans h.f6, (hb.frozen (p := ⟨b, 7, none⟩) h.lt).trans h.f7, Nat.lt_of_lt_of_le h.lt hb.size⟩
theorem Fx8.new (w:World) (v0 v1 v2 v3 v4 v5 v6 v7:Value) (t:TypeId) : Fx8 (w.alloc (.cells #[v0,v1,v2,v3,v4,v5,v6,v7] t)) w.heap.size v0 v1 v2 v3 v4 v5 v6 v7:=by
 refine ⟨?_,?_,?_,?_,?_,?_,?_,?_,?_,?_,?_,?_,?_,?_,?_,?_,by simp⟩ <;> first | exact World.cell?_alloc_at _ _ _ _ rfl | exact World.frozen?_alloc_at _ _ _ _ rfl
theorem Fx8.put0 {w:World} {b:Nat} {v0 v1 v2 v3 v4 v5 v6 v7:Value} (h:Fx8 w b v0 v1 v2 v3 v4 v5 v6 v7) (x y:Value) : Fx8 ((w.setCell ⟨b,0,none⟩ x).setCell ⟨b,1,none⟩ y) b x y v2 v3 v4 v5 v6 v7:=⟨(World.cell?_setCell_other _ _ _ _ (by simp)).trans (World.cell?_setCell_same _ _ _ h.c0),World.cell?_setCell_same _ _ _ ((World.cell?_setCell_other _ _ _ _ (by simp)).trans h.c1),((World.cell?_setCell_other _ _ _ _ (by simp)).trans (World.cell?_setCell_other _ _ _ _ (by simp))).trans h.c2,((World.cell?_setCell_other _ _ _ _ (by simp)).trans (World.cell?_setCell_other _ _ _ _ (by simp))).trans h.c3,((World.cell?_setCell_other _ _ _ _ (by simp)).trans (World.cell?_setCell_other _ _ _ _ (by simp))).trans h.c4,((World.cell?_setCell_other _ _ _ _ (by simp)).trans (World.cell?_setCell_other _ _ _ _ (by simp))).trans h.c5,((World.cell?_setCell_other _ _ _ _ (by simp)).trans (World.cell?_setCell_other _ _ _ _ (by simp))).trans h.c6,((World.cell?_setCell_other _ _ _ _ (by simp)).trans (World.cell?_setCell_other _ _ _ _ (by simp))).trans h.c7,by simpa using h.f0,by simpa using h.f1,by simpa using h.f2,by simpa using h.f3,by simpa using h.f4,by simpa using h.f5,by simpa using h.f6,by simpa using h.f7,by simpa using h.lt⟩
theorem Fx8.put1 {w:World} {b:Nat} {v0 v1 v2 v3 v4 v5 v6 v7:Value} (h:Fx8 w b v0 v1 v2 v3 v4 v5 v6 v7) (x y:Value) : Fx8 ((w.setCell ⟨b,2,none⟩ x).setCell ⟨b,3,none⟩ y) b v0 v1 x y v4 v5 v6 v7:=⟨((World.cell?_setCell_other _ _ _ _ (by simp)).trans (World.cell?_setCell_other _ _ _ _ (by simp))).trans h.c0,((World.cell?_setCell_other _ _ _ _ (by simp)).trans (World.cell?_setCell_other _ _ _ _ (by simp))).trans h.c1,(World.cell?_setCell_other _ _ _ _ (by simp)).trans (World.cell?_setCell_same _ _ _ h.c2),World.cell?_setCell_same _ _ _ ((World.cell?_setCell_other _ _ _ _ (by simp)).trans h.c3),((World.cell?_setCell_other _ _ _ _ (by simp)).trans (World.cell?_setCell_other _ _ _ _ (by simp))).trans h.c4,((World.cell?_setCell_other _ _ _ _ (by simp)).trans (World.cell?_setCell_other _ _ _ _ (by simp))).trans h.c5,((World.cell?_setCell_other _ _ _ _ (by simp)).trans (World.cell?_setCell_other _ _ _ _ (by simp))).trans h.c6,((World.cell?_setCell_other _ _ _ _ (by simp)).trans (World.cell?_setCell_other _ _ _ _ (by simp))).trans h.c7,by simpa using h.f0,by simpa using h.f1,by simpa using h.f2,by simpa using h.f3,by simpa using h.f4,by simpa using h.f5,by simpa using h.f6,by simpa using h.f7,by simpa using h.lt⟩
theorem Fx8.put2 {w:World} {b:Nat} {v0 v1 v2 v3 v4 v5 v6 v7:Value} (h:Fx8 w b v0 v1 v2 v3 v4 v5 v6 v7) (x y:Value) : Fx8 ((w.setCell ⟨b,4,none⟩ x).setCell ⟨b,5,none⟩ y) b v0 v1 v2 v3 x y v6 v7:=⟨((World.cell?_setCell_other _ _ _ _ (by simp)).trans (World.cell?_setCell_other _ _ _ _ (by simp))).trans h.c0,((World.cell?_setCell_other _ _ _ _ (by simp)).trans (World.cell?_setCell_other _ _ _ _ (by simp))).trans h.c1,((World.cell?_setCell_other _ _ _ _ (by simp)).trans (World.cell?_setCell_other _ _ _ _ (by simp))).trans h.c2,((World.cell?_setCell_other _ _ _ _ (by simp)).trans (World.cell?_setCell_other _ _ _ _ (by simp))).trans h.c3,(World.cell?_setCell_other _ _ _ _ (by simp)).trans (World.cell?_setCell_same _ _ _ h.c4),World.cell?_setCell_same _ _ _ ((World.cell?_setCell_other _ _ _ _ (by simp)).trans h.c5),((World.cell?_setCell_other _ _ _ _ (by simp)).trans (World.cell?_setCell_other _ _ _ _ (by simp))).trans h.c6,((World.cell?_setCell_other _ _ _ _ (by simp)).trans (World.cell?_setCell_other _ _ _ _ (by simp))).trans h.c7,by simpa using h.f0,by simpa using h.f1,by simpa using h.f2,by simpa using h.f3,by simpa using h.f4,by simpa using h.f5,by simpa using h.f6,by simpa using h.f7,by simpa using h.lt⟩
theorem Fx8.put3 {w:World} {b:Nat} {v0 v1 v2 v3 v4 v5 v6 v7:Value} (h:Fx8 w b v0 v1 v2 v3 v4 v5 v6 v7) (x y:Value) : Fx8 ((w.setCell ⟨b,6,none⟩ x).setCell ⟨b,7,none⟩ y) b v0 v1 v2 v3 v4 v5 x y:=⟨((World.cell?_setCell_other _ _ _ _ (by simp)).trans (World.cell?_setCell_other _ _ _ _ (by simp))).trans h.c0,((World.cell?_setCell_other _ _ _ _ (by simp)).trans (World.cell?_setCell_other _ _ _ _ (by simp))).trans h.c1,((World.cell?_setCell_other _ _ _ _ (by simp)).trans (World.cell?_setCell_other _ _ _ _ (by simp))).trans h.c2,((World.cell?_setCell_other _ _ _ _ (by simp)).trans (World.cell?_setCell_other _ _ _ _ (by simp))).trans h.c3,((World.cell?_setCell_other _ _ _ _ (by simp)).trans (World.cell?_setCell_other _ _ _ _ (by simp))).trans h.c4,((World.cell?_setCell_other _ _ _ _ (by simp)).trans (World.cell?_setCell_other _ _ _ _ (by simp))).trans h.c5,(World.cell?_setCell_other _ _ _ _ (by simp)).trans (World.cell?_setCell_same _ _ _ h.c6),World.cell?_setCell_same _ _ _ ((World.cell?_setCell_other _ _ _ _ (by simp)).trans h.c7),by simpa using h.f0,by simpa using h.f1,by simpa using h.f2,by simpa using h.f3,by simpa using h.f4,by simpa using h.f5,by simpa using h.f6,by simpa using h.f7,by simpa using h.lt⟩
theorem Fx4.at8 {w:World} {b c:Nat} {u0 u1 u2 u3:Value} (h:Fx4 w c u0 u1 u2 u3) (hne:b ≠ c) (i j:Nat) (x y:Value) : Fx4 ((w.setCell ⟨b,i,none⟩ x).setCell ⟨b,j,none⟩ y) c u0 u1 u2 u3:=
 ⟨((World.cell?_setCell_far _ _ _ _ hne).trans (World.cell?_setCell_far _ _ _ _ hne)).trans h.c0,((World.cell?_setCell_far _ _ _ _ hne).trans (World.cell?_setCell_far _ _ _ _ hne)).trans h.c1,((World.cell?_setCell_far _ _ _ _ hne).trans (World.cell?_setCell_far _ _ _ _ hne)).trans h.c2,((World.cell?_setCell_far _ _ _ _ hne).trans (World.cell?_setCell_far _ _ _ _ hne)).trans h.c3,by simpa using h.f0,by simpa using h.f1,by simpa using h.f2,by simpa using h.f3,by simpa using h.lt⟩
theorem MCell.at8 {w:World} {M:Int} {b:Nat} (h:MCell M w) (hne:b ≠ 0) (i j:Nat) (x y:Value) : MCell M ((w.setCell ⟨b,i,none⟩ x).setCell ⟨b,j,none⟩ y):=
 ((World.cell?_setCell_far _ _ _ _ hne).trans (World.cell?_setCell_far _ _ _ _ hne)).trans h
theorem Ival.at8 {w:World} {v:Value} {z:Int} {L:Nat} (h:Ival w v z L) {b i j:Nat} {p:Bool} {P:Option Addr} {q r:Nat} (c0:w.cell? ⟨b,i,none⟩ = some (.bool p)) (c1:w.cell? ⟨b,j,none⟩ = some (.slice P q r)) (hij:i ≠ j) (x y:Value) : Ival ((w.setCell ⟨b,i,none⟩ x).setCell ⟨b,j,none⟩ y) v z L:=
 (h.setOther (fun u=>by rw [c0];simp) x).setOther (fun u=>by rw [World.cell?_setCell_other _ _ _ _ (by intro e;injection e with _ e2 _;exact hij e2),c1];simp) y
theorem Rat.at8 {w:World} {v:Value} {n0 d0:Int} {L:Nat} (h:Rat w v n0 d0 L) {b i j:Nat} {p:Bool} {P:Option Addr} {q r:Nat} (c0:w.cell? ⟨b,i,none⟩ = some (.bool p)) (c1:w.cell? ⟨b,j,none⟩ = some (.slice P q r)) (hij:i ≠ j) (x y:Value) : Rat ((w.setCell ⟨b,i,none⟩ x).setCell ⟨b,j,none⟩ y) v n0 d0 L:=by
 obtain ⟨g1,A1,n1,c1',g2,A2,n2,c2,e,h1,h2,h3⟩:=h
 exact ⟨g1,A1,n1,c1',g2,A2,n2,c2,e,h1.at8 c0 c1 hij x y,h2.at8 c0 c1 hij x y,h3⟩
def QArr (w:World) (b:Nat) (k y:Int) : Prop:=
 ∃ p0 P0 q0 r0 p1 P1 q1 r1 p2 P2 q2 r2 p3 P3 q3 r3,Fx8 w b (.bool p0) (.slice P0 q0 r0) (.bool p1) (.slice P1 q1 r1) (.bool p2) (.slice P2 q2 r2) (.bool p3) (.slice P3 q3 r3) /\ (2 <= k -> Ival w (.agg #[.bool p1,.slice P1 q1 r1]) y 96)
theorem QArr.below {w w':World} {b:Nat} {k y:Int} (h:QArr w b k y) (hb:Below w.heap.size w w') : QArr w' b k y:=by
 obtain ⟨p0,P0,q0,r0,p1,P1,q1,r1,p2,P2,q2,r2,p3,P3,q3,r3,hF,hY⟩:=h
 exact ⟨p0,P0,q0,r0,p1,P1,q1,r1,p2,P2,q2,r2,p3,P3,q3,r3,hF.below hb,fun h=>(hY h).below hb⟩
theorem rem_back {z t u s q RN RD:Int} (h:RN * (t * s) = (z * s + -(q * u) * t) * RD) : ((u * q) * RD + RN * (s * 1)) * t = z * ((s * 1) * RD):=by grind
theorem qu_cross {k z t u s:Int} (ht:0 < t) (hs:0 < s) (hE:quE k u = 0) : quN k z t u s * (t * s) = (z * s + -(quQ k z t u s * u) * t) * quD k z t u s /\ 0 < quD k z t u s:=by
 have hts:0 < t * s:=Int.mul_pos ht hs
 have h1:quN k z t u s = newN (z * s + -(quQ k z t u s * u) * t) (t * s):=if_pos hE
 have h2:quD k z t u s = newD (z * s + -(quQ k z t u s * u) * t) (t * s):=if_pos hE
 rw [h1,h2]
 exact ⟨new_cross (by omega),newD_pos _ _⟩
def NegQ (base:World) (y er:Int) (va vb:Value) (wx:World) : Prop:=∃ j g A n c,va = .pointer (some ⟨j,0,none⟩) /\ vb = .int .i64 er /\ Fx wx j (.bool g) (.slice A n c) /\ Ival wx (.agg #[.bool g,.slice A n c]) y 96 /\ Below base.heap.size base wx
def QT (w:World) (x:Value) (y n d:Int) : Prop:=∃ g A n0 c0 g1 A1 n1 c1 g2 A2 n2 c2,x = .tuple #[.agg #[.bool g,.slice A n0 c0],.agg #[.bool g1,.slice A1 n1 c1,.bool g2,.slice A2 n2 c2],.int .i64 0] /\ Ival w (.agg #[.bool g,.slice A n0 c0]) y 96 /\ Rat w (.agg #[.bool g1,.slice A1 n1 c1,.bool g2,.slice A2 n2 c2]) n d 96
theorem QT.below {w w':World} {x:Value} {y n d:Int} (h:QT w x y n d) (hb:Below w.heap.size w w') : QT w' x y n d:=by
 obtain ⟨g,A,n0,c0,g1,A1,n1,c1,g2,A2,n2,c2,e,h1,h2⟩:=h
 exact ⟨g,A,n0,c0,g1,A1,n1,c1,g2,A2,n2,c2,e,h1.below hb,h2.below hb⟩
theorem Rat.at {w:World} {s:Value} {n0 d0:Int} {L:Nat} (h:Rat w s n0 d0 L) {b:Nat} {y:Int} {M:Nat} (F:IBox w b y M) (u v:Value) : Rat ((w.setCell ⟨b,0,none⟩ u).setCell ⟨b,1,none⟩ v) s n0 d0 L:=by
 obtain ⟨g1,A1,n1,c1,g2,A2,n2,c2,e,h1,h2,h3⟩:=h
 exact ⟨g1,A1,n1,c1,g2,A2,n2,c2,e,h1.at F u v,h2.at F u v,h3⟩
theorem QT.at {w:World} {x:Value} {y n d:Int} (h:QT w x y n d) {b:Nat} {z:Int} {M:Nat} (F:IBox w b z M) (u v:Value) : QT ((w.setCell ⟨b,0,none⟩ u).setCell ⟨b,1,none⟩ v) x y n d:=by
 obtain ⟨g,A,n0,c0,g1,A1,n1,c1,g2,A2,n2,c2,e,h1,h2⟩:=h
 exact ⟨g,A,n0,c0,g1,A1,n1,c1,g2,A2,n2,c2,e,h1.at F u v,h2.at F u v⟩
theorem QT.put4 {w:World} {x:Value} {y n d:Int} (h:QT w x y n d) {b:Nat} (F:Fx4 w b (.bool false) (.slice none 0 0) (.bool false) (.slice none 0 0)) (u0 u1 u2 u3:Value) : QT (put4 w b u0 u1 u2 u3) x y n d:=by
 obtain ⟨g,A,n0,c0,g1,A1,n1,c1,g2,A2,n2,c2,e,h1,h2⟩:=h
 exact ⟨g,A,n0,c0,g1,A1,n1,c1,g2,A2,n2,c2,e,h1.put4 F _ _ _ _,h2.put4 F _ _ _ _⟩
def PFy (n:Nat) (w:World) (x:Value) (v0 v1 v2 v3:Value) : Prop:=∃ k,x = .pointer (some ⟨k,0,none⟩) /\ n <= k /\ Fx4 w k v0 v1 v2 v3
theorem PFy.below {n:Nat} {w w':World} {x v0 v1 v2 v3:Value} (h:PFy n w x v0 v1 v2 v3) (hb:Below w.heap.size w w') : PFy n w' x v0 v1 v2 v3:=by
 obtain ⟨k,e,hk,F⟩:=h;exact ⟨k,e,hk,F.below hb⟩
theorem PFy.other2 {n:Nat} {w:World} {x v0 v1 v2 v3:Value} {k:Nat} (h:PFy n w x v0 v1 v2 v3) (hne:x ≠ .pointer (some ⟨k,0,none⟩)) (a b:Value) : PFy n ((w.setCell ⟨k,0,none⟩ a).setCell ⟨k,1,none⟩ b) x v0 v1 v2 v3:=by
 obtain ⟨j,rfl,hj,G⟩:=h
 exact ⟨j,rfl,hj,G.other2 (fun e=>hne (by rw [e])) a b⟩
theorem PFy.fresh {n:Nat} {w:World} {x v0 v1 v2 v3:Value} (h:PFy n w x v0 v1 v2 v3) : x ≠ .pointer (some ⟨w.heap.size,0,none⟩):=by
 obtain ⟨j,rfl,hj,G⟩:=h
 intro e
 have:=G.lt
 injection e with e1
 injection e1 with e2
 injection e2 with e3
 omega
theorem Fx.ot4 {w:World} {b c:Nat} {u0 u1:Value} (h:Fx w b u0 u1) (hne:c ≠ b) (x0 x1 x2 x3:Value) : Fx (put4 w c x0 x1 x2 x3) b u0 u1:=by
 obtain ⟨h1,h2,h3,h4,h5⟩:=h
 exact ⟨(cell_put4 hne _ _ _ _).trans h1,(cell_put4 hne _ _ _ _).trans h2,by unfold put4;simpa using h3,by unfold put4;simpa using h4,by unfold put4;simpa using h5⟩
theorem PBox.ot4 {n:Nat} {w:World} {x:Value} {z:Int} {L k:Nat} (h:PBox n w x z L) (F:Fx4 w k (.bool false) (.slice none 0 0) (.bool false) (.slice none 0 0)) (hne:x ≠ .pointer (some ⟨k,0,none⟩)) (a0 a1 a2 a3:Value) : PBox n (put4 w k a0 a1 a2 a3) x z L:=by
 obtain ⟨j,rfl,hj,g,A,m,c,G,V⟩:=h
 exact ⟨j,rfl,hj,g,A,m,c,G.ot4 (fun e=>hne (by rw [e])) _ _ _ _,V.put4 F _ _ _ _⟩
theorem cmp_le0 {a b:Int} (h:a <= b) : ¬ 0 < cmpI a b:=by
 rcases Int.lt_trichotomy a b with h1 | h1 | h1
 ·rw [cmpI_lt h1];decide
 ·rw [cmpI_eq h1];decide
 ·omega
theorem rrounds_any (pa pb pc pd:Bool) (Aa Ab Ac Ad:Option Addr) (na ca nb cb nc cc nd cd:Nat) (xa xb xc xd:List Int) (M:Int) (w:World)
  (ha:Row .u32 w Aa na ca xa) (da:Dig xa) (hb0:Row .u32 w Ab nb cb xb) (db:Dig xb) (hc:Row .u32 w Ac nc cc xc) (dc:Dig xc) (hd:Row .u32 w Ad nd cd xd) (dd:Dig xd) (hM:MCell M w) :
  Calls Tryz.prog 9 #[.agg #[.bool pa,.slice Aa na ca,.bool pb,.slice Ab nb cb],.agg #[.bool pc,.slice Ac nc cc,.bool pd,.slice Ad nd cd]] w fun e w'=>e = .returned (.bool true) /\ Below w.heap.size w w':=by
 have hw:=below_two w (.cells #[.bool pa,.slice Aa na ca,.bool pb,.slice Ab nb cb] 26) (.cells #[.bool pc,.slice Ac nc cc,.bool pd,.slice Ad nd cd] 26)
 have F0:=Fx4.new1 w (.bool pa) (.slice Aa na ca) (.bool pb) (.slice Ab nb cb) 26 (.cells #[.bool pc,.slice Ac nc cc,.bool pd,.slice Ad nd cd] 26)
 have F1:=Fx4.new2 w (.bool pc) (.slice Ac nc cc) (.bool pd) (.slice Ad nd cd) 26 #[.bool pa,.slice Aa na ca,.bool pb,.slice Ab nb cb] 26
 obtain ⟨W0,hW0⟩ : ∃ W0,(w.alloc (.cells #[.bool pa,.slice Aa na ca,.bool pb,.slice Ab nb cb] 26)).alloc (.cells #[.bool pc,.slice Ac nc cc,.bool pd,.slice Ad nd cd] 26) = W0:=⟨_,rfl⟩
 rw [hW0] at hw F0 F1
 have B0:=Hd F0
 have B1:=Hd F1
 have HM:=Hd (MCell.below hM hw)
 have HA:=Hd (ha.below hw)
 have HB:=Hd (hb0.below hw)
 have HC:=Hd (hc.below hw)
 have HD:=Hd (hd.below hw)
 have DA:=Hd da
 have DB:=Hd db
 have DC:=Hd dc
 have DD:=Hd dd
 clear F0 F1 hM ha hb0 hc hd da db dc dd
 go_enter Tryz.func9,Tryz.ntmps9
 go_upto_region 1 with fail
 clear hW0
 obtain ⟨c00,c01,c02,c03,f00,f01,f02,f03,s0⟩:=B0.out
 obtain ⟨c10,c11,c12,c13,f10,f11,f12,f13,s1⟩:=B1.out
 go_wp2_with fail
 refine (shortQ_any _ 2 [(na,nb),(nc,nd)] 3 _ (lensQ2 W0 rfl pa pb pc pd Aa Ab Ac Ad na nb nc nd ca cb cc cd) (by omega)).mono ?_
 rintro e w2 ⟨rfl,hb⟩
 replace hb:=(below_alloc W0 (.cells #[.bool pa,.slice Aa na ca,.bool pb,.slice Ab nb cb,.bool pc,.slice Ac nc cc,.bool pd,.slice Ad nd cd] 26)).trans (hb.mono (by simp))
 clear c00 c01 c02 c03 f00 f01 f02 f03 s0
 clear c10 c11 c12 c13 f10 f11 f12 f13 s1
 replace B0:=Hd (B0.out.below hb)
 replace B1:=Hd (B1.out.below hb)
 replace HM:=Hd (HM.out.below hb)
 replace HA:=Hd (HA.out.below hb)
 replace HB:=Hd (HB.out.below hb)
 replace HC:=Hd (HC.out.below hb)
 replace HD:=Hd (HD.out.below hb)
 replace hw:=hw.trans (hb.mono hw.size)
 clear hb
 cases ht:anyLong [(na,nb),(nc,nd)] 3 with
 | true=>
  go_wp2_with fail
  refine (awake_m _ M HM.out).mono ?_
  rintro e wz ⟨rfl,hb⟩
  go_wp2
  go_ret
  exact ⟨rfl,hw.trans (hb.mono hw.size)⟩
 | false=>
  have HN:=Hd (show (na <= 3 /\ nb <= 3) /\ (nc <= 3 /\ nd <= 3) by simp [anyLong,tooLong] at ht;omega)
  clear ht
  obtain ⟨c00,c01,c02,c03,f00,f01,f02,f03,s0⟩:=B0.out
  obtain ⟨c10,c11,c12,c13,f10,f11,f12,f13,s1⟩:=B1.out
  go_wp2_with fail
  refine (ofList_any _ 2 3 [(ofN (withSign pa (val xa)) (withSign pb (val xb)),ofD (withSign pa (val xa)) (withSign pb (val xb))),(ofN (withSign pc (val xc)) (withSign pd (val xd)),ofD (withSign pc (val xc)) (withSign pd (val xd)))] _ (givenQ2 _ rfl pa pb pc pd HA.out HB.out HC.out HD.out DA.out DB.out DC.out DD.out HN.out) (by omega) (by omega)).mono ?_
  rintro e w3 ⟨⟨v,rfl,hv⟩,hb⟩
  replace hb:=(below_alloc w2 (.cells #[.bool pa,.slice Aa na ca,.bool pb,.slice Ab nb cb,.bool pc,.slice Ac nc cc,.bool pd,.slice Ad nd cd] 26)).trans (hb.mono (by simp))
  obtain ⟨z,hx⟩ : ∃ x,ofN (withSign pa (val xa)) (withSign pb (val xb)) = x:=⟨_,rfl⟩
  obtain ⟨t,hy⟩ : ∃ y,ofD (withSign pa (val xa)) (withSign pb (val xb)) = y:=⟨_,rfl⟩
  rw [hx,hy] at hv
  clear hx hy
  obtain ⟨u,hx⟩ : ∃ x,ofN (withSign pc (val xc)) (withSign pd (val xd)) = x:=⟨_,rfl⟩
  obtain ⟨s,hy⟩ : ∃ y,ofD (withSign pc (val xc)) (withSign pd (val xd)) = y:=⟨_,rfl⟩
  rw [hx,hy] at hv
  clear hx hy
  clear c00 c01 c02 c03 f00 f01 f02 f03 s0
  clear c10 c11 c12 c13 f10 f11 f12 f13 s1
  clear HA
  clear HB
  clear HC
  clear HD
  replace B0:=Hd (B0.out.below hb)
  replace B1:=Hd (B1.out.below hb)
  replace HM:=Hd (HM.out.below hb)
  replace hw:=hw.trans (hb.mono hw.size)
  clear hb
  clear HN DA DB DC DD
  clear B0
  clear B1
  obtain ⟨jb,cap,g0,K0,l0,f0,s0,E0,r0,t0,g1,K1,l1,f1,s1,E1,r1,t1,rfl,hjb,⟨k0,k1,k2,k3,k4,k5,k6,k7⟩,hr0,hr1⟩:=own2 hv
  clear hv
  have V6:=Hd hr0
  have V7:=Hd hr1
  clear hr0 hr1
  go_upto_region 4 with fail
  go_cut [6,7] (fun va vb wx=>Two38 z t u s w3 va vb wx)
  case first=>
   go_region_with fail
   all_goals (go_wp2_with fail;go_meet;first | exact two38A V6.out V7.out | exact two38B V6.out V7.out)
  clear V6 V7 k0 k1 k2 k3 k4 k5 k6 k7 hjb
  obtain ⟨j6,j7,g6,A6,n6,o6,e6,E6,m6,d6,g7,A7,n7,o7,e7,E7,m7,d7,rfl,rfl,hf6,hf7,hr6,hr7,hb⟩:=hcut
  obtain ⟨w4,rfl⟩ : ∃ w4,w4 = wc:=⟨wc,rfl⟩
  replace HM:=Hd (HM.out.below hb)
  replace hw:=hw.trans (hb.mono hw.size)
  have B6:=Hd hf6
  have B7:=Hd hf7
  have V6:=Hd hr6
  have V7:=Hd hr7
  clear hf6 hf7 hr6 hr7 hb
  have HTS:=Hd (And.intro V6.out.d0 V7.out.d0)
  go_upto_region 5 with fail
  obtain ⟨c70,c71,c72,c73,f70,f71,f72,f73,s7⟩:=B7.out
  go_wp2_with fail
  refine (Sign_any _ u s 7 _ V7.out).mono ?_
  rintro e w5 ⟨rfl,hb⟩
  clear c70 c71 c72 c73 f70 f71 f72 f73 s7
  replace B6:=Hd (B6.out.below hb)
  replace B7:=Hd (B7.out.below hb)
  replace HM:=Hd (HM.out.below hb)
  replace V6:=Hd (V6.out.below hb)
  replace V7:=Hd (V7.out.below hb)
  replace hw:=hw.trans (hb.mono hw.size)
  clear hb
  by_cases hu:u = 0
  ·skip
   have hcm:cmpI u 0 = 0:=cmpI_eq hu
   rw [hcm]
   have HE:=Hd (show quE 3 u = 6 from (if_neg (by decide)).trans (if_pos hu))
   clear hcm hu
   go_upto_region 6 with fail
   obtain ⟨c60,c61,c62,c63,f60,f61,f62,f63,s6⟩:=B6.out
   obtain ⟨c70,c71,c72,c73,f70,f71,f72,f73,s7⟩:=B7.out
   go_wp2_with fail
   refine (Quotient_q 3 _ _ z t u s 7 _ V6.out V7.out (by decide) (by decide)).mono ?_
   rintro e w6 ⟨⟨g8,A8,n8,o8,g9,A9,n9,o9,e9,E9,m9,d9,rfl,hz,hq⟩,hb⟩
   rw [HE.out]
   clear c60 c61 c62 c63 f60 f61 f62 f63 s6
   clear c70 c71 c72 c73 f70 f71 f72 f73 s7
   replace B6:=Hd (B6.out.below hb)
   replace B7:=Hd (B7.out.below hb)
   replace HM:=Hd (HM.out.below hb)
   replace V6:=Hd (V6.out.below hb)
   replace V7:=Hd (V7.out.below hb)
   replace hw:=hw.trans (hb.mono hw.size)
   clear hb
   have hX:=below_two w6 (.cells #[.bool g8,.slice A8 n8 o8] 31) (.cells #[.bool g9,.slice A9 n9 o9,.bool e9,.slice E9 m9 d9] 38)
   replace B6:=Hd (B6.out.below hX)
   replace B7:=Hd (B7.out.below hX)
   replace HM:=Hd (HM.out.below hX)
   replace V6:=Hd (V6.out.below hX)
   replace V7:=Hd (V7.out.below hX)
   replace hw:=hw.trans (hX.mono hw.size)
   have B8:=Hd (Fx.newA w6 (.bool g8) (.slice A8 n8 o8) 31 (.cells #[.bool g9,.slice A9 n9 o9,.bool e9,.slice E9 m9 d9] 38))
   have B9:=Hd (Fx4.new2 w6 (.bool g9) (.slice A9 n9 o9) (.bool e9) (.slice E9 m9 d9) 38 #[.bool g8,.slice A8 n8 o8] 31)
   clear hX hz hq
   go_upto_region 7 with fail
   generalize (w6.alloc (.cells #[.bool g8,.slice A8 n8 o8] 31)).alloc (.cells #[.bool g9,.slice A9 n9 o9,.bool e9,.slice E9 m9 d9] 38) = W6 at *
   go_wp2_with fail
   refine (awake_m _ M HM.out).mono ?_
   rintro e wz ⟨rfl,hb⟩
   go_wp2
   go_ret
   exact ⟨rfl,hw.trans (hb.mono hw.size)⟩
  have hcm:(cmpI u 0 == 0) = false:=cmp_ne hu
  have HU:=Hd hu
  clear hu
  go_upto_region 8 with fail
  clear hcm
  have hX:=below_alloc w5 (.cells #[.bool false,.slice none 0 0,.bool false,.slice none 0 0,.bool false,.slice none 0 0,.bool false,.slice none 0 0] 96)
  have HQ0:=Hd (show QArr (w5.alloc (.cells #[.bool false,.slice none 0 0,.bool false,.slice none 0 0,.bool false,.slice none 0 0,.bool false,.slice none 0 0] 96)) w5.heap.size 0 (quQ 1 z t u s) from ⟨false,none,0,0,false,none,0,0,false,none,0,0,false,none,0,0,Fx8.new _ _ _ _ _ _ _ _ _ _,fun h=>absurd h (by decide)⟩)
  have HNE:=Hd (show (w5.heap.size ≠ j6 /\ w5.heap.size ≠ j7) /\ w5.heap.size ≠ 0 /\ w.heap.size <= w5.heap.size from ⟨⟨Nat.ne_of_gt B6.out.lt,Nat.ne_of_gt B7.out.lt⟩,Nat.ne_of_gt (World.block_lt_of_cell? _ _ HM.out),hw.size⟩)
  replace B6:=Hd (B6.out.below hX)
  replace B7:=Hd (B7.out.below hX)
  replace HM:=Hd (HM.out.below hX)
  replace V6:=Hd (V6.out.below hX)
  replace V7:=Hd (V7.out.below hX)
  replace hw:=hw.trans (hX.mono hw.size)
  have HQA:=HQ0
  clear hX HQ0
  go_upto_region 9 with fail
  generalize w5.alloc (.cells #[.bool false,.slice none 0 0,.bool false,.slice none 0 0,.bool false,.slice none 0 0,.bool false,.slice none 0 0] 96) = W8 at *
  generalize w5.heap.size = k11 at *
  go_wp2_with fail
  go_loopw [52] (fun kv wr=>∃ k:Int,kv = .int .i64 k /\ 0 <= k /\ k <= 4 /\ Hid (Fx4 wr j6 (.bool g6) (.slice A6 n6 o6) (.bool e6) (.slice E6 m6 d6)) /\ Hid (Fx4 wr j7 (.bool g7) (.slice A7 n7 o7) (.bool e7) (.slice E7 m7 d7)) /\ Hid (Rat wr (.agg #[.bool g6,.slice A6 n6 o6,.bool e6,.slice E6 m6 d6]) z t 7) /\ Hid (Rat wr (.agg #[.bool g7,.slice A7 n7 o7,.bool e7,.slice E7 m7 d7]) u s 7) /\ Hid (MCell M wr) /\ Hid (QArr wr k11 k (quQ 1 z t u s)) /\ Hid (Below w.heap.size w wr)) (fun kv _=>(4 - intOf kv).toNat)
  case atStart=>exact ⟨0,rfl,by decide,by decide,B6,B7,V6,V7,HM,HQA,Hd hw⟩
  case round=>
   clear B6 B7 V6 V7 HM HQA hw
   obtain ⟨k,rfl,hk0,hk4,B6,B7,V6,V7,HM,HQA,HW⟩:=hrel
   have hw:=HW.out
   clear HW
   rcases (show k = 4 \/ k = 0 \/ k = 1 \/ k = 2 \/ k = 3 by omega) with rfl | rfl | rfl | rfl | rfl
   ·as_aux_lemma=>
     clear hk0 hk4
     obtain ⟨p0,P0,q0,r0,p1,P1,q1,r1,p2,P2,q2,r2,p3,P3,q3,r3,hF,hY⟩:=HQA.out
     have BA:=Hd hF
     have VY:=Hd (hY (by decide))
     clear hF hY HQA
     go_upto_region 21 with fail
     have HE:=Hd (show quE 0 u = 0 from (if_neg (by decide)).trans (if_neg HU.out))
     go_cut [18,20] (fun va vb wx=>NegQ wr (quQ 0 (-z) t u s) 0 va vb wx)
     case first=>
      clear BA VY HM
      have HT:=Hd (fun (w':World) (hb:Below wr.heap.size wr w')=>(show w'.cell? ⟨j6,0,none⟩ = some (.bool g6) /\ w'.cell? ⟨j6,1,none⟩ = some (.slice A6 n6 o6) /\ w'.cell? ⟨j6,2,none⟩ = some (.bool e6) /\ w'.cell? ⟨j6,3,none⟩ = some (.slice E6 m6 d6) /\ w'.cell? ⟨j7,0,none⟩ = some (.bool g7) /\ w'.cell? ⟨j7,1,none⟩ = some (.slice A7 n7 o7) /\ w'.cell? ⟨j7,2,none⟩ = some (.bool e7) /\ w'.cell? ⟨j7,3,none⟩ = some (.slice E7 m7 d7) from ⟨(B6.out.below hb).c0,(B6.out.below hb).c1,(B6.out.below hb).c2,(B6.out.below hb).c3,(B7.out.below hb).c0,(B7.out.below hb).c1,(B7.out.below hb).c2,(B7.out.below hb).c3⟩))
      obtain ⟨Inv,hInv⟩ : ∃ J:(Nat -> Bool) -> (Value × Value × Value × Value × Value × Value × Value × Value × Value) -> World -> Prop,J = fun b v w'=>(Below wr.heap.size wr w') /\ (b 1 = true -> Rat w' v.1 (-z) (t) (7)) /\ (b 3 = true -> QT w' v.2.1 (quQ 0 (-z) t u s) (quN 0 (-z) t u s) (quD 0 (-z) t u s)) /\ (b 4 = true -> QT w' v.2.2.1 (quQ 0 (-z) t u s) (quN 0 (-z) t u s) (quD 0 (-z) t u s)) /\ (b 5 = true -> Ival w' v.2.2.2.1 (quQ 0 (-z) t u s) (96)) /\ (b 6 = true -> Rat w' v.2.2.2.2.1 (quN 0 (-z) t u s) (quD 0 (-z) t u s) (96)) /\ (b 7 = true -> v.2.2.2.2.2.1 = .int .i64 0) /\ (b 12 = true -> v.2.2.2.2.2.2.2.2 = .int .i64 0) /\ (b 8 = true -> b 10 = false -> PBox (wr.heap.size) w' v.2.2.2.2.2.2.1 0 0) /\ (b 10 = true -> PBox (wr.heap.size) w' v.2.2.2.2.2.2.1 (quQ 0 (-z) t u s) (96)) /\ (b 9 = true -> b 11 = false -> PFy wr.heap.size w' v.2.2.2.2.2.2.2.1 (.bool false) (.slice none 0 0) (.bool false) (.slice none 0 0)) /\ (b 8 = true -> b 9 = true -> v.2.2.2.2.2.2.1 ≠ v.2.2.2.2.2.2.2.1):=⟨_,rfl⟩
      have hB:=(Below.refl wr.heap.size wr).drew
      refine wp_region_held_drew (S:=fun w'=>w'.cell? ⟨j6,0,none⟩ = some (.bool g6) /\ w'.cell? ⟨j6,1,none⟩ = some (.slice A6 n6 o6) /\ w'.cell? ⟨j6,2,none⟩ = some (.bool e6) /\ w'.cell? ⟨j6,3,none⟩ = some (.slice E6 m6 d6) /\ w'.cell? ⟨j7,0,none⟩ = some (.bool g7) /\ w'.cell? ⟨j7,1,none⟩ = some (.slice A7 n7 o7) /\ w'.cell? ⟨j7,2,none⟩ = some (.bool e7) /\ w'.cell? ⟨j7,3,none⟩ = some (.slice E7 m7 d7)) (by kernel_rfl) (HT.out _ hB) (fun hH=>?_)
      clear hH
      generalize wr.drew = wr0 at *
      refine tk 0 139 (by first | assumption | exact HT.out _ hB | trivial) ?_
      try simp only [Act.put,tA,cZ,cS]
      refine tk 2 141 (by first | assumption | exact HT.out _ hB | trivial) ?_
      try simp only [Act.put,tA,cZ,cS]
      refine wpAnyH_begin (V:=Value × Value × Value × Value × Value × Value × Value × Value × Value) (I:=Inv) (A:=?_) [true,false,true,false,false,false,false,false,false,false,false,false,false] [140,142,138,143,144,145,18,19,20] (fun v=>[v.1,v.2.1,v.2.2.1,v.2.2.2.1,v.2.2.2.2.1,v.2.2.2.2.2.1,v.2.2.2.2.2.2.1,v.2.2.2.2.2.2.2.1,v.2.2.2.2.2.2.2.2]) (fun a=>(a.tmps.getD 140 undef,a.tmps.getD 142 undef,a.tmps.getD 138 undef,a.tmps.getD 143 undef,a.tmps.getD 144 undef,a.tmps.getD 145 undef,a.tmps.getD 18 undef,a.tmps.getD 19 undef,a.tmps.getD 20 undef)) ?_ ?_ (by kernel_rfl) (by kernel_rfl) (by kernel_rfl) (by kernel_rfl) (by kernel_rfl) ?_ ?_ ?_
      rotate_left 1
      ·intro v;simp only [fillA,Act.put,tA,cZ,cS];rfl
      ·rfl
      ·rw [hInv]
       exact ⟨(hB),(fun h=>absurd h (by decide)),(fun h=>absurd h (by decide)),(fun h=>absurd h (by decide)),(fun h=>absurd h (by decide)),(fun h=>absurd h (by decide)),(fun h=>absurd h (by decide)),(fun h=>absurd h (by decide)),(fun h _=>absurd h (by decide)),(fun h=>absurd h (by decide)),(fun h _=>absurd h (by decide)),(fun h _=>absurd h (by decide))⟩
      ·skip
       refine EachFrom.skip (by rfl) ?_
       refine EachFrom.cons (k:=1) rfl rfl (ds:=[0]) (by kernel_rfl) (fun v x=>(x,v.2.1,v.2.2.1,v.2.2.2.1,v.2.2.2.2.1,v.2.2.2.2.2.1,v.2.2.2.2.2.2.1,v.2.2.2.2.2.2.2.1,v.2.2.2.2.2.2.2.2)) (fun v x=>by rfl) (fun b v wz hb0 hcl hbk hdep hI Kc hK=>?_) ?_
       ·skip
        rw [hInv] at hI
        obtain ⟨x140,x142,x138,x143,x144,x145,x18,x19,x20⟩:=v
        dsimp only at hI hK ⊢
        (try simp only [Act.put] at hK);(try simp only [tA] at hK);(try simp only [cS] at hK);(try simp only [cZ] at hK)
        obtain ⟨famb,f140,f142,f138,f143,f144,f145,f20,fP18,fQ18,fP19,fne18⟩:=hI
        obtain ⟨d0,-⟩:=hdep
        (try simp only [gA]);(try simp only [gS]);(try simp only [gZ])
        have hA:=famb
        go_simp
        (go_at_call 36;refine (Neg_any _ z t 7 _ (V6.out.below hA) (by decide)).mono ?_;rintro e w1 ⟨⟨ga,Aa1,na1,oa,ea,Ea,ma,da1,rfl,hz⟩,hb⟩)
        refine hK.out _ _ (HT.out _ ((famb).trans (hb.mono (famb).size))) ?_
        rw [hInv]
        exact ⟨((famb).trans (hb.mono (famb).size)),(fun h0=>hz),(fun h=>absurd ((show AllT b [1,2,1] from hcl 3 _ rfl h).1) (by rw [hbk];decide)),(fun h=>absurd ((show AllT b [1,2,1] from hcl 3 _ rfl ((show AllT b [3] from hcl 4 _ rfl h).1)).1) (by rw [hbk];decide)),(fun h=>absurd ((show AllT b [1,2,1] from hcl 3 _ rfl ((show AllT b [3] from hcl 4 _ rfl ((show AllT b [4] from hcl 5 _ rfl h).1)).1)).1) (by rw [hbk];decide)),(fun h=>absurd ((show AllT b [1,2,1] from hcl 3 _ rfl ((show AllT b [3] from hcl 4 _ rfl ((show AllT b [4] from hcl 6 _ rfl h).1)).1)).1) (by rw [hbk];decide)),(fun h=>absurd ((show AllT b [1,2,1] from hcl 3 _ rfl ((show AllT b [3] from hcl 4 _ rfl ((show AllT b [4] from hcl 7 _ rfl h).1)).1)).1) (by rw [hbk];decide)),(fun h=>absurd ((show AllT b [7,11,0,1,2,3,4,5,6,7,8,9,10,11] from hcl 12 _ rfl h).2.2.2.1) (by rw [hbk];decide)),(fun h0 h1=>(fP18 h0 h1).below hb),(fun h=>absurd ((show AllT b [8,5,3,0,1,2,3,4,5,8,9] from hcl 10 _ rfl h).2.2.2.2.1) (by rw [hbk];decide)),(fun h0 h1=>(fP19 h0 h1).below hb),(fun h0 h1=>fne18 h0 h1)⟩
       refine EachFrom.skip (by rfl) ?_
       refine EachFrom.cons (k:=3) rfl rfl (ds:=[1,2,1]) (by kernel_rfl) (fun v x=>(v.1,x,v.2.2.1,v.2.2.2.1,v.2.2.2.2.1,v.2.2.2.2.2.1,v.2.2.2.2.2.2.1,v.2.2.2.2.2.2.2.1,v.2.2.2.2.2.2.2.2)) (fun v x=>by rfl) (fun b v wz hb0 hcl hbk hdep hI Kc hK=>?_) ?_
       ·skip
        rw [hInv] at hI
        obtain ⟨x140,x142,x138,x143,x144,x145,x18,x19,x20⟩:=v
        dsimp only at hI hK ⊢
        (try simp only [Act.put] at hK);(try simp only [tA] at hK);(try simp only [cS] at hK);(try simp only [cZ] at hK)
        obtain ⟨famb,f140,f142,f138,f143,f144,f145,f20,fP18,fQ18,fP19,fne18⟩:=hI
        obtain ⟨d1,d2,-,-⟩:=hdep
        (try simp only [gA]);(try simp only [gS]);(try simp only [gZ])
        have hA:=famb
        go_simp
        (go_at_call 46;refine (Quotient_q 0 _ _ (-z) t u s 7 _ (f140 d1) (V7.out.below hA) (by decide) (by decide)).mono ?_;rintro e w1 ⟨⟨g18,A18,n18,o18,g19,A19,n19,o19,e19,E19,m19,d19,rfl,hz,hq⟩,hb⟩)
        rw [HE.out]
        refine hK.out _ _ (HT.out _ ((famb).trans (hb.mono (famb).size))) ?_
        rw [hInv]
        exact ⟨((famb).trans (hb.mono (famb).size)),(fun h0=>(f140 h0).below hb),(fun h0=>⟨g18,A18,n18,o18,g19,A19,n19,o19,e19,E19,m19,d19,rfl,hz,hq⟩),(fun h=>absurd ((show AllT b [3] from hcl 4 _ rfl h).1) (by rw [hbk];decide)),(fun h=>absurd ((show AllT b [3] from hcl 4 _ rfl ((show AllT b [4] from hcl 5 _ rfl h).1)).1) (by rw [hbk];decide)),(fun h=>absurd ((show AllT b [3] from hcl 4 _ rfl ((show AllT b [4] from hcl 6 _ rfl h).1)).1) (by rw [hbk];decide)),(fun h=>absurd ((show AllT b [3] from hcl 4 _ rfl ((show AllT b [4] from hcl 7 _ rfl h).1)).1) (by rw [hbk];decide)),(fun h=>absurd ((show AllT b [7,11,0,1,2,3,4,5,6,7,8,9,10,11] from hcl 12 _ rfl h).2.2.2.2.2.1) (by rw [hbk];decide)),(fun h0 h1=>(fP18 h0 h1).below hb),(fun h=>absurd ((show AllT b [8,5,3,0,1,2,3,4,5,8,9] from hcl 10 _ rfl h).2.2.1) (by rw [hbk];decide)),(fun h0 h1=>(fP19 h0 h1).below hb),(fun h0 h1=>fne18 h0 h1)⟩
       refine EachFrom.cons (k:=4) rfl rfl (ds:=[3]) (by kernel_rfl) (fun v x=>(v.1,v.2.1,x,v.2.2.2.1,v.2.2.2.2.1,v.2.2.2.2.2.1,v.2.2.2.2.2.2.1,v.2.2.2.2.2.2.2.1,v.2.2.2.2.2.2.2.2)) (fun v x=>by rfl) (fun b v wz hb0 hcl hbk hdep hI Kc hK=>?_) ?_
       ·skip
        rw [hInv] at hI
        obtain ⟨x140,x142,x138,x143,x144,x145,x18,x19,x20⟩:=v
        dsimp only at hI hK ⊢
        (try simp only [Act.put] at hK);(try simp only [tA] at hK);(try simp only [cS] at hK);(try simp only [cZ] at hK)
        obtain ⟨famb,f140,f142,f138,f143,f144,f145,f20,fP18,fQ18,fP19,fne18⟩:=hI
        obtain ⟨d3,-⟩:=hdep
        (try simp only [gA]);(try simp only [gS]);(try simp only [gZ])
        go_simp
        refine hK.out _ _ (HT.out _ (famb)) ?_
        rw [hInv]
        exact ⟨(famb),(fun h0=>f140 h0),(fun h0=>f142 h0),(fun h0=>f142 d3),(fun h=>absurd ((show AllT b [4] from hcl 5 _ rfl h).1) (by rw [hbk];decide)),(fun h=>absurd ((show AllT b [4] from hcl 6 _ rfl h).1) (by rw [hbk];decide)),(fun h=>absurd ((show AllT b [4] from hcl 7 _ rfl h).1) (by rw [hbk];decide)),(fun h=>absurd ((show AllT b [7,11,0,1,2,3,4,5,6,7,8,9,10,11] from hcl 12 _ rfl h).2.2.2.2.2.2.1) (by rw [hbk];decide)),(fun h0 h1=>fP18 h0 h1),(fun h=>absurd ((show AllT b [8,5,3,0,1,2,3,4,5,8,9] from hcl 10 _ rfl h).2.2.2.2.2.2.2.1) (by rw [hbk];decide)),(fun h0 h1=>fP19 h0 h1),(fun h0 h1=>fne18 h0 h1)⟩
       refine EachFrom.cons (k:=5) rfl rfl (ds:=[4]) (by kernel_rfl) (fun v x=>(v.1,v.2.1,v.2.2.1,x,v.2.2.2.2.1,v.2.2.2.2.2.1,v.2.2.2.2.2.2.1,v.2.2.2.2.2.2.2.1,v.2.2.2.2.2.2.2.2)) (fun v x=>by rfl) (fun b v wz hb0 hcl hbk hdep hI Kc hK=>?_) ?_
       ·skip
        rw [hInv] at hI
        obtain ⟨x140,x142,x138,x143,x144,x145,x18,x19,x20⟩:=v
        dsimp only at hI hK ⊢
        (try simp only [Act.put] at hK);(try simp only [tA] at hK);(try simp only [cS] at hK);(try simp only [cZ] at hK)
        obtain ⟨famb,f140,f142,f138,f143,f144,f145,f20,fP18,fQ18,fP19,fne18⟩:=hI
        obtain ⟨d4,-⟩:=hdep
        (try simp only [gA]);(try simp only [gS]);(try simp only [gZ])
        obtain ⟨g18,A18,n18,o18,g19,A19,n19,o19,e19,E19,m19,d19,rfl,hI,hR⟩:=id (f138 d4)
        go_simp
        refine hK.out _ _ (HT.out _ (famb)) ?_
        rw [hInv]
        exact ⟨(famb),(fun h0=>f140 h0),(fun h0=>f142 h0),(fun h0=>f138 h0),(fun h0=>hI),(fun h0=>f144 h0),(fun h0=>f145 h0),(fun h=>absurd ((show AllT b [7,11,0,1,2,3,4,5,6,7,8,9,10,11] from hcl 12 _ rfl h).2.2.2.2.2.2.2.1) (by rw [hbk];decide)),(fun h0 h1=>fP18 h0 h1),(fun h=>absurd ((show AllT b [8,5,3,0,1,2,3,4,5,8,9] from hcl 10 _ rfl h).2.1) (by rw [hbk];decide)),(fun h0 h1=>fP19 h0 h1),(fun h0 h1=>fne18 h0 h1)⟩
       refine EachFrom.cons (k:=6) rfl rfl (ds:=[4]) (by kernel_rfl) (fun v x=>(v.1,v.2.1,v.2.2.1,v.2.2.2.1,x,v.2.2.2.2.2.1,v.2.2.2.2.2.2.1,v.2.2.2.2.2.2.2.1,v.2.2.2.2.2.2.2.2)) (fun v x=>by rfl) (fun b v wz hb0 hcl hbk hdep hI Kc hK=>?_) ?_
       ·skip
        rw [hInv] at hI
        obtain ⟨x140,x142,x138,x143,x144,x145,x18,x19,x20⟩:=v
        dsimp only at hI hK ⊢
        (try simp only [Act.put] at hK);(try simp only [tA] at hK);(try simp only [cS] at hK);(try simp only [cZ] at hK)
        obtain ⟨famb,f140,f142,f138,f143,f144,f145,f20,fP18,fQ18,fP19,fne18⟩:=hI
        obtain ⟨d4,-⟩:=hdep
        (try simp only [gA]);(try simp only [gS]);(try simp only [gZ])
        obtain ⟨g18,A18,n18,o18,g19,A19,n19,o19,e19,E19,m19,d19,rfl,hI,hR⟩:=id (f138 d4)
        go_simp
        refine hK.out _ _ (HT.out _ (famb)) ?_
        rw [hInv]
        exact ⟨(famb),(fun h0=>f140 h0),(fun h0=>f142 h0),(fun h0=>f138 h0),(fun h0=>f143 h0),(fun h0=>hR),(fun h0=>f145 h0),(fun h=>absurd ((show AllT b [7,11,0,1,2,3,4,5,6,7,8,9,10,11] from hcl 12 _ rfl h).2.2.2.2.2.2.2.2.1) (by rw [hbk];decide)),(fun h0 h1=>fP18 h0 h1),(fun h0=>fQ18 h0),(fun h0 h1=>fP19 h0 h1),(fun h0 h1=>fne18 h0 h1)⟩
       refine EachFrom.cons (k:=7) rfl rfl (ds:=[4]) (by kernel_rfl) (fun v x=>(v.1,v.2.1,v.2.2.1,v.2.2.2.1,v.2.2.2.2.1,x,v.2.2.2.2.2.2.1,v.2.2.2.2.2.2.2.1,v.2.2.2.2.2.2.2.2)) (fun v x=>by rfl) (fun b v wz hb0 hcl hbk hdep hI Kc hK=>?_) ?_
       ·skip
        rw [hInv] at hI
        obtain ⟨x140,x142,x138,x143,x144,x145,x18,x19,x20⟩:=v
        dsimp only at hI hK ⊢
        (try simp only [Act.put] at hK);(try simp only [tA] at hK);(try simp only [cS] at hK);(try simp only [cZ] at hK)
        obtain ⟨famb,f140,f142,f138,f143,f144,f145,f20,fP18,fQ18,fP19,fne18⟩:=hI
        obtain ⟨d4,-⟩:=hdep
        (try simp only [gA]);(try simp only [gS]);(try simp only [gZ])
        obtain ⟨g18,A18,n18,o18,g19,A19,n19,o19,e19,E19,m19,d19,rfl,hI,hR⟩:=id (f138 d4)
        go_simp
        refine hK.out _ _ (HT.out _ (famb)) ?_
        rw [hInv]
        exact ⟨(famb),(fun h0=>f140 h0),(fun h0=>f142 h0),(fun h0=>f138 h0),(fun h0=>f143 h0),(fun h0=>f144 h0),(fun h0=>rfl),(fun h=>absurd ((show AllT b [7,11,0,1,2,3,4,5,6,7,8,9,10,11] from hcl 12 _ rfl h).1) (by rw [hbk];decide)),(fun h0 h1=>fP18 h0 h1),(fun h0=>fQ18 h0),(fun h0 h1=>fP19 h0 h1),(fun h0 h1=>fne18 h0 h1)⟩
       refine EachFrom.cons (k:=8) rfl rfl (ds:=[]) (by kernel_rfl) (fun v x=>(v.1,v.2.1,v.2.2.1,v.2.2.2.1,v.2.2.2.2.1,v.2.2.2.2.2.1,x,v.2.2.2.2.2.2.2.1,v.2.2.2.2.2.2.2.2)) (fun v x=>by rfl) (fun b v wz hb0 hcl hbk hdep hI Kc hK=>?_) ?_
       ·skip
        rw [hInv] at hI
        obtain ⟨x140,x142,x138,x143,x144,x145,x18,x19,x20⟩:=v
        dsimp only at hI hK ⊢
        (try simp only [Act.put] at hK);(try simp only [tA] at hK);(try simp only [cS] at hK);(try simp only [cZ] at hK)
        obtain ⟨famb,f140,f142,f138,f143,f144,f145,f20,fP18,fQ18,fP19,fne18⟩:=hI
        (try simp only [gA]);(try simp only [gS]);(try simp only [gZ])
        have hb:=below_alloc wz (.cells #[.bool false,.slice none 0 0] 31)
        go_simp
        refine hK.out _ _ (HT.out _ ((famb).trans (hb.mono (famb).size))) ?_
        rw [hInv]
        exact ⟨((famb).trans (hb.mono (famb).size)),(fun h0=>(f140 h0).below hb),(fun h0=>(f142 h0).below hb),(fun h0=>(f138 h0).below hb),(fun h0=>(f143 h0).below hb),(fun h0=>(f144 h0).below hb),(fun h0=>f145 h0),(fun h=>absurd ((show AllT b [7,11,0,1,2,3,4,5,6,7,8,9,10,11] from hcl 12 _ rfl h).2.2.2.2.2.2.2.2.2.2.1) (by rw [hbk];decide)),(fun h0 h1=>⟨_,rfl,famb.size,IBox.nought _ _ _⟩),(fun h=>absurd ((show AllT b [8,5,3,0,1,2,3,4,5,8,9] from hcl 10 _ rfl h).1) (by rw [hbk];decide)),(fun h0 h1=>(fP19 h0 h1).below hb),(fun h0 h1=>(Ne.symm (by cases h:b 11 with | false=>exact (fP19 h1 h).fresh | true=>exact absurd ((show AllT b [9,6,10,0,1,2,3,4,5,6,8,9,10] from hcl 11 _ rfl h).2.2.2.2.2.2.2.2.2.2.1) (by rw [hbk];decide))))⟩
       refine EachFrom.cons (k:=9) rfl rfl (ds:=[]) (by kernel_rfl) (fun v x=>(v.1,v.2.1,v.2.2.1,v.2.2.2.1,v.2.2.2.2.1,v.2.2.2.2.2.1,v.2.2.2.2.2.2.1,x,v.2.2.2.2.2.2.2.2)) (fun v x=>by rfl) (fun b v wz hb0 hcl hbk hdep hI Kc hK=>?_) ?_
       ·skip
        rw [hInv] at hI
        obtain ⟨x140,x142,x138,x143,x144,x145,x18,x19,x20⟩:=v
        dsimp only at hI hK ⊢
        (try simp only [Act.put] at hK);(try simp only [tA] at hK);(try simp only [cS] at hK);(try simp only [cZ] at hK)
        obtain ⟨famb,f140,f142,f138,f143,f144,f145,f20,fP18,fQ18,fP19,fne18⟩:=hI
        (try simp only [gA]);(try simp only [gS]);(try simp only [gZ])
        have hb:=below_alloc wz (.cells #[.bool false,.slice none 0 0,.bool false,.slice none 0 0] 38)
        go_simp
        refine hK.out _ _ (HT.out _ ((famb).trans (hb.mono (famb).size))) ?_
        rw [hInv]
        exact ⟨((famb).trans (hb.mono (famb).size)),(fun h0=>(f140 h0).below hb),(fun h0=>(f142 h0).below hb),(fun h0=>(f138 h0).below hb),(fun h0=>(f143 h0).below hb),(fun h0=>(f144 h0).below hb),(fun h0=>f145 h0),(fun h=>absurd ((show AllT b [7,11,0,1,2,3,4,5,6,7,8,9,10,11] from hcl 12 _ rfl h).2.2.2.2.2.2.2.2.2.2.2.1) (by rw [hbk];decide)),(fun h0 h1=>(fP18 h0 h1).below hb),(fun h=>absurd ((show AllT b [8,5,3,0,1,2,3,4,5,8,9] from hcl 10 _ rfl h).2.2.2.2.2.2.2.2.2.2.1) (by rw [hbk];decide)),(fun h0 h1=>⟨_,rfl,famb.size,Fx4.new _ _ _ _ _ _⟩),(fun h0 h1=>(by cases h:b 10 with | false=>exact (fP18 h0 h).fresh | true=>exact (fQ18 h).fresh))⟩
       refine EachFrom.cons (k:=10) rfl rfl (ds:=[8,5,3,0,1,2,3,4,5,8,9]) (by kernel_rfl) (fun v _=>v) (fun v x=>by rfl) (fun b v wz hb0 hcl hbk hdep hI Kc hK=>?_) ?_
       ·skip
        rw [hInv] at hI
        obtain ⟨x140,x142,x138,x143,x144,x145,x18,x19,x20⟩:=v
        dsimp only at hI hK ⊢
        (try simp only [Act.put] at hK);(try simp only [tA] at hK);(try simp only [cS] at hK);(try simp only [cZ] at hK)
        obtain ⟨famb,f140,f142,f138,f143,f144,f145,f20,fP18,fQ18,fP19,fne18⟩:=hI
        obtain ⟨d8,d5,d3,d0,d1,d2,-,d4,-,-,d9,-⟩:=hdep
        (try simp only [gA]);(try simp only [gS]);(try simp only [gZ])
        obtain ⟨k18,rfl,hk18,FB⟩:=fP18 d8 hbk
        obtain ⟨g143,A143,n143,c143,rfl⟩:=(f143 d5).form
        obtain ⟨gx,Ax,nx,cx,Fq,-⟩:=id FB
        obtain ⟨c0,c1,c2,c3,c4⟩:=Fq
        go_simp
        refine hK.out (undef) _ (HT.out _ (((famb).setCell (p:=⟨k18,0,none⟩) (by show _ <= k18;omega) _).setCell (p:=⟨k18,1,none⟩) (by show _ <= k18;omega) _)) ?_
        rw [hInv]
        exact ⟨(((famb).setCell (p:=⟨k18,0,none⟩) (by show _ <= k18;omega) _).setCell (p:=⟨k18,1,none⟩) (by show _ <= k18;omega) _),(fun h0=>(f140 h0).at FB _ _),(fun h0=>(f142 h0).at FB _ _),(fun h0=>(f138 h0).at FB _ _),(fun h0=>(f143 h0).at FB _ _),(fun h0=>(f144 h0).at FB _ _),(fun h0=>f145 h0),(fun h=>absurd ((show AllT b [7,11,0,1,2,3,4,5,6,7,8,9,10,11] from hcl 12 _ rfl h).2.2.2.2.2.2.2.2.2.2.2.2.1) (by rw [hbk];decide)),(fun _ h=>absurd (show true = false from h) (by decide)),(fun h0=>⟨_,rfl,hk18,FB.store (f143 d5)⟩),(fun h0 h1=>(fP19 h0 h1).other2 (Ne.symm (fne18 d8 d9)) _ _),(fun h0 h1=>fne18 h0 h1)⟩
       refine EachFrom.cons (k:=11) rfl rfl (ds:=[9,6,10,0,1,2,3,4,5,6,8,9,10]) (by kernel_rfl) (fun v _=>v) (fun v x=>by rfl) (fun b v wz hb0 hcl hbk hdep hI Kc hK=>?_) ?_
       ·skip
        rw [hInv] at hI
        obtain ⟨x140,x142,x138,x143,x144,x145,x18,x19,x20⟩:=v
        dsimp only at hI hK ⊢
        (try simp only [Act.put] at hK);(try simp only [tA] at hK);(try simp only [cS] at hK);(try simp only [cZ] at hK)
        obtain ⟨famb,f140,f142,f138,f143,f144,f145,f20,fP18,fQ18,fP19,fne18⟩:=hI
        obtain ⟨d9,d6,d10,d0,d1,d2,d3,d4,d5,-,d8,-,-,-⟩:=hdep
        (try simp only [gA]);(try simp only [gS]);(try simp only [gZ])
        obtain ⟨k19,rfl,hk19,FB⟩:=fP19 d9 hbk
        obtain ⟨g19,A19,n19,o19,e19,E19,m19,d19,rfl⟩:=(f144 d6).form
        obtain ⟨r0,r1,r2,r3,r4,r5,r6,r7,r8⟩:=id FB
        go_simp
        refine hK.out (undef) _ (HT.out _ ((below_put4 (famb) (by omega) _ _ _ _))) ?_
        rw [hInv]
        exact ⟨((below_put4 (famb) (by omega) _ _ _ _)),(fun h0=>(f140 h0).put4 FB _ _ _ _),(fun h0=>(f142 h0).put4 FB _ _ _ _),(fun h0=>(f138 h0).put4 FB _ _ _ _),(fun h0=>(f143 h0).put4 FB _ _ _ _),(fun h0=>(f144 h0).put4 FB _ _ _ _),(fun h0=>f145 h0),(fun h=>absurd ((show AllT b [7,11,0,1,2,3,4,5,6,7,8,9,10,11] from hcl 12 _ rfl h).2.1) (by rw [hbk];decide)),(fun _ h=>absurd (show b 10 = false from h) (by rw [d10];decide)),(fun h0=>(fQ18 h0).ot4 FB (fne18 d8 d9) _ _ _ _),(fun _ h=>absurd (show true = false from h) (by decide)),(fun h0 h1=>fne18 h0 h1)⟩
       refine EachFrom.cons (k:=12) rfl rfl (ds:=[7,11,0,1,2,3,4,5,6,7,8,9,10,11]) (by kernel_rfl) (fun v x=>(v.1,v.2.1,v.2.2.1,v.2.2.2.1,v.2.2.2.2.1,v.2.2.2.2.2.1,v.2.2.2.2.2.2.1,v.2.2.2.2.2.2.2.1,x)) (fun v x=>by rfl) (fun b v wz hb0 hcl hbk hdep hI Kc hK=>?_) ?_
       ·skip
        rw [hInv] at hI
        obtain ⟨x140,x142,x138,x143,x144,x145,x18,x19,x20⟩:=v
        dsimp only at hI hK ⊢
        (try simp only [Act.put] at hK);(try simp only [tA] at hK);(try simp only [cS] at hK);(try simp only [cZ] at hK)
        obtain ⟨famb,f140,f142,f138,f143,f144,f145,f20,fP18,fQ18,fP19,fne18⟩:=hI
        obtain ⟨d7,d11,d0,d1,d2,d3,d4,d5,d6,-,d8,d9,d10,-,-⟩:=hdep
        (try simp only [gA]);(try simp only [gS]);(try simp only [gZ])
        have h145:=f145 d7
        subst h145
        go_simp
        refine hK.out _ _ (HT.out _ (famb)) ?_
        rw [hInv]
        exact ⟨(famb),(fun h0=>f140 h0),(fun h0=>f142 h0),(fun h0=>f138 h0),(fun h0=>f143 h0),(fun h0=>f144 h0),(fun h0=>f145 h0),(fun h0=>rfl),(fun _ h=>absurd (show b 10 = false from h) (by rw [d10];decide)),(fun h0=>fQ18 h0),(fun _ h=>absurd (show b 11 = false from h) (by rw [d11];decide)),(fun h0 h1=>fne18 h0 h1)⟩
       exact EachFrom.nil (by kernel_rfl)
      ·intro v wE hI
       rw [hInv] at hI
       obtain ⟨x140,x142,x138,x143,x144,x145,x18,x19,x20⟩:=v
       dsimp only at hI ⊢
       obtain ⟨famb,f140,f142,f138,f143,f144,f145,f20,fP18,fQ18,fP19,fne18⟩:=hI
       replace f140:=f140 rfl
       replace f142:=f142 rfl
       replace f138:=f138 rfl
       replace f143:=f143 rfl
       replace f144:=f144 rfl
       replace f145:=f145 rfl
       replace f20:=f20 rfl
       clear fP18
       replace fQ18:=fQ18 rfl
       clear fP19
       replace fne18:=fne18 rfl rfl
       clear hInv hB
       obtain ⟨j18,rfl,-,hbx⟩:=fQ18
       obtain ⟨gx,Ax,nx,cx,hFx,hVx⟩:=hbx
       subst f20
       have HFX:=Hd hFx
       have HVX:=Hd hVx
       have HAM:=Hd famb
       clear hFx hVx famb fne18 f140 f142 f138 f143 f144 f145 HT
       go_wp2_with fail
       go_meet
       exact ⟨j18,gx,Ax,nx,cx,rfl,rfl,HFX.out,HVX.out,HAM.out⟩
     obtain ⟨j18,g18,A18,n18,o18,rfl,rfl,hf,hv,hb⟩:=hcut
     obtain ⟨w21,rfl⟩ : ∃ w21,w21 = wc:=⟨wc,rfl⟩
     replace BA:=Hd (BA.out.below hb)
     replace VY:=Hd (VY.out.below hb)
     replace B6:=Hd (B6.out.below hb)
     replace B7:=Hd (B7.out.below hb)
     replace HM:=Hd (HM.out.below hb)
     replace V6:=Hd (V6.out.below hb)
     replace V7:=Hd (V7.out.below hb)
     replace hw:=hw.trans (hb.mono hw.size)
     have B18:=Hd hf
     have V18:=Hd hv
     clear hf hv hb B6 B7 V6 V7 HE
     have HCF:=Hd (ceil_floor (z:=z) (s:=s) HTS.out.1 HU.out)
     have HT:=Hd (fun (w':World) (hb:Below w21.heap.size w21 w')=>(show w'.cell? ⟨j18,0,none⟩ = some (.bool g18) /\ w'.cell? ⟨j18,1,none⟩ = some (.slice A18 n18 o18) /\ w'.cell? ⟨k11,0,none⟩ = some (.bool p0) /\ w'.cell? ⟨k11,1,none⟩ = some (.slice P0 q0 r0) /\ w'.cell? ⟨k11,2,none⟩ = some (.bool p1) /\ w'.cell? ⟨k11,3,none⟩ = some (.slice P1 q1 r1) /\ w'.cell? ⟨k11,4,none⟩ = some (.bool p2) /\ w'.cell? ⟨k11,5,none⟩ = some (.slice P2 q2 r2) /\ w'.cell? ⟨k11,6,none⟩ = some (.bool p3) /\ w'.cell? ⟨k11,7,none⟩ = some (.slice P3 q3 r3) from ⟨(B18.out.below hb).1,(B18.out.below hb).2.1,(BA.out.below hb).c0,(BA.out.below hb).c1,(BA.out.below hb).c2,(BA.out.below hb).c3,(BA.out.below hb).c4,(BA.out.below hb).c5,(BA.out.below hb).c6,(BA.out.below hb).c7⟩))
     go_upto_region 22 with fail
     have hB:=(Below.refl w21.heap.size w21).drew
     replace HM:=Hd (HM.out.below hB)
     replace VY:=Hd (VY.out.below hB)
     replace V18:=Hd (V18.out.below hB)
     refine wp_region_held_drew (S:=fun w'=>w'.cell? ⟨j18,0,none⟩ = some (.bool g18) /\ w'.cell? ⟨j18,1,none⟩ = some (.slice A18 n18 o18) /\ w'.cell? ⟨k11,0,none⟩ = some (.bool p0) /\ w'.cell? ⟨k11,1,none⟩ = some (.slice P0 q0 r0) /\ w'.cell? ⟨k11,2,none⟩ = some (.bool p1) /\ w'.cell? ⟨k11,3,none⟩ = some (.slice P1 q1 r1) /\ w'.cell? ⟨k11,4,none⟩ = some (.bool p2) /\ w'.cell? ⟨k11,5,none⟩ = some (.slice P2 q2 r2) /\ w'.cell? ⟨k11,6,none⟩ = some (.bool p3) /\ w'.cell? ⟨k11,7,none⟩ = some (.slice P3 q3 r3)) (by kernel_rfl) (HT.out _ hB) (fun hH=>?_)
     clear hH
     generalize w21.drew = wr0 at *
     refine tk 0 146 (by first | assumption | exact HT.out _ hB) ?_
     try simp only [Act.put,tA,cZ,cS]
     refine tk 1 147 (by first | assumption | exact HT.out _ hB) ?_
     try simp only [Act.put,tA,cZ,cS]
     refine tk 2 148 (by first | assumption | exact HT.out _ hB) ?_
     try simp only [Act.put,tA,cZ,cS]
     refine tk 3 149 (by first | assumption | exact HT.out _ hB) ?_
     try simp only [Act.put,tA,cZ,cS]
     refine tk 5 151 (by first | assumption | exact HT.out _ hB) ?_
     try simp only [Act.put,tA,cZ,cS]
     refine tk 6 152 (by first | assumption | exact HT.out _ hB) ?_
     try simp only [Act.put,tA,cZ,cS]
     refine rd 4 (AllReadyH.cons rfl (fun K hK=>?_) AllReadyH.nil)
     (try simp only [gA]);(try simp only [gS]);(try simp only [gZ])
     go_simp
     (go_at_call 62;refine (neg_t _ (quQ 0 (-z) t u s) 96 _ V18.out (by decide)).mono ?_;rintro e wc4 ⟨⟨gt1,At1,nt1,ct1,rfl,hz⟩,hb⟩)
     replace HM:=Hd (HM.out.below hb)
     replace VY:=Hd (VY.out.below hb)
     replace V18:=Hd (V18.out.below hb)
     replace hB:=Below.trans hB (hb.mono hB.size)
     have T1:=Hd hz
     refine hK.out _ _ (HT.out _ hB) (fun hH=>?_)
     clear hK K hH
     try simp only [Act.put,tA,cZ,cS]
     clear hb hz
     refine rd 7 (AllReadyH.cons rfl (fun K hK=>?_) AllReadyH.nil)
     (try simp only [gA]);(try simp only [gS]);(try simp only [gZ])
     go_simp
     (go_at_call 63;refine (cmp_int _ _ (-quQ 0 (-z) t u s) (quQ 1 z t u s) 96 96 _ T1.out VY.out (by decide) (by decide)).mono ?_;rintro e wc7 ⟨rfl,hb⟩)
     rw [HCF.out,cmpI_eq rfl]
     replace HM:=Hd (HM.out.below hb)
     replace VY:=Hd (VY.out.below hb)
     replace V18:=Hd (V18.out.below hb)
     replace T1:=Hd (T1.out.below hb)
     replace hB:=Below.trans hB (hb.mono hB.size)
     refine hK.out _ _ (HT.out _ hB) (fun hH=>?_)
     clear hK K hH
     try simp only [Act.put,tA,cZ,cS]
     clear hb
     refine tk 8 154 (by first | assumption | exact HT.out _ hB) ?_
     try simp only [Act.put,tA,cZ,cS]
     refine tk 9 155 (by first | assumption | exact HT.out _ hB) ?_
     try simp only [Act.put,tA,cZ,cS]
     refine tk 10 156 (by first | assumption | exact HT.out _ hB) ?_
     try simp only [Act.put,tA,cZ,cS]
     refine rd 11 (AllReadyH.cons rfl (fun K hK=>?_) AllReadyH.nil)
     (try simp only [gA]);(try simp only [gS]);(try simp only [gZ])
     go_simp
     (go_at_call 14;refine (awake_m _ M HM.out).mono ?_;rintro e wc11 ⟨rfl,hb⟩)
     replace HM:=Hd (HM.out.below hb)
     replace VY:=Hd (VY.out.below hb)
     replace V18:=Hd (V18.out.below hb)
     replace T1:=Hd (T1.out.below hb)
     replace hB:=Below.trans hB (hb.mono hB.size)
     refine hK.out _ _ (HT.out _ hB) (fun hH=>?_)
     clear hK K hH
     try simp only [Act.put,tA,cZ,cS]
     clear hb
     refine tk 12 158 (by first | assumption | exact HT.out _ hB) ?_
     try simp only [Act.put,tA,cZ,cS]
     refine tk 13 4 (by first | assumption | exact HT.out _ hB) ?_
     try simp only [Act.put,tA,cZ,cS]
     refine wpAnyH_done (by kernel_rfl) ?_ _
     replace hw:=hw.trans (hB.mono hw.size)
     go_wp2
     go_ret
     exact ⟨rfl,hw⟩
   ·as_aux_lemma=>
     clear hk0 hk4
     have HE:=Hd (show quE 0 u = 0 from (if_neg (by decide)).trans (if_neg HU.out))
     go_upto_region 12 with fail
     obtain ⟨c60,c61,c62,c63,f60,f61,f62,f63,s6⟩:=B6.out
     obtain ⟨c70,c71,c72,c73,f70,f71,f72,f73,s7⟩:=B7.out
     go_wp2_with fail
     refine (Quotient_q 0 _ _ z t u s 7 _ V6.out V7.out (by decide) (by decide)).mono ?_
     rintro e wq ⟨⟨g13,A13,n13,o13,g14,A14,n14,o14,e14,E14,m14,d14,rfl,hz,hq⟩,hb⟩
     rw [HE.out]
     have HOK:=Hd (round_ok (k:=0) (z:=z) HTS.out.1 HTS.out.2 HU.out (by decide) (by decide))
     obtain ⟨hcr,hRD⟩:=qu_cross (k:=0) (z:=z) HTS.out.1 HTS.out.2 HE.out
     obtain ⟨QQ,h1⟩ : ∃ QQ,quQ 0 z t u s = QQ:=⟨_,rfl⟩
     obtain ⟨RN,h2⟩ : ∃ RN,quN 0 z t u s = RN:=⟨_,rfl⟩
     obtain ⟨RD,h3⟩ : ∃ RD,quD 0 z t u s = RD:=⟨_,rfl⟩
     rw [h1] at hz
     rw [h2,h3] at hq HOK
     rw [h1,h2,h3] at hcr
     rw [h3] at hRD
     have HQK:=Hd h1
     have HCR:=Hd (rem_back hcr)
     have HRD:=Hd hRD
     clear h1 h2 h3 hcr hRD
     clear c60 c61 c62 c63 f60 f61 f62 f63 s6
     clear c70 c71 c72 c73 f70 f71 f72 f73 s7
     replace B6:=Hd (B6.out.below hb)
     replace B7:=Hd (B7.out.below hb)
     replace HM:=Hd (HM.out.below hb)
     replace V6:=Hd (V6.out.below hb)
     replace V7:=Hd (V7.out.below hb)
     replace HQA:=Hd (HQA.out.below hb)
     replace hw:=hw.trans (hb.mono hw.size)
     clear hb
     have HQB:=HQA
     have hX:=below_two wq (.cells #[.bool g13,.slice A13 n13 o13] 31) (.cells #[.bool g14,.slice A14 n14 o14,.bool e14,.slice E14 m14 d14] 38)
     replace B6:=Hd (B6.out.below hX)
     replace B7:=Hd (B7.out.below hX)
     replace HM:=Hd (HM.out.below hX)
     replace V6:=Hd (V6.out.below hX)
     replace V7:=Hd (V7.out.below hX)
     replace HQA:=Hd (HQA.out.below hX)
     replace hw:=hw.trans (hX.mono hw.size)
     have B13:=Hd (Fx.newA wq (.bool g13) (.slice A13 n13 o13) 31 (.cells #[.bool g14,.slice A14 n14 o14,.bool e14,.slice E14 m14 d14] 38))
     have B14:=Hd (Fx4.new2 wq (.bool g14) (.slice A14 n14 o14) (.bool e14) (.slice E14 m14 d14) 38 #[.bool g13,.slice A13 n13 o13] 31)
     have V13:=Hd (hz.below hX)
     have V14:=Hd (hq.below hX)
     clear hX hz hq HE
     have HLT:=Hd (show k11 < wq.heap.size from by obtain ⟨p0,P0,q0,r0,p1,P1,q1,r1,p2,P2,q2,r2,p3,P3,q3,r3,hF,-⟩:=HQB.out;exact hF.lt)
     clear HQB
     go_upto_region 13 with fail
     generalize (wq.alloc (.cells #[.bool g13,.slice A13 n13 o13] 31)).alloc (.cells #[.bool g14,.slice A14 n14 o14,.bool e14,.slice E14 m14 d14] 38) = W13 at *
     generalize wq.heap.size = k13 at *
     go_cut [83] (fun va wx=>va = .bool false /\ Below W13.heap.size W13 wx)
     case first=>
      as_aux_lemma=>
       have HT:=Hd (fun (w':World) (hb:Below W13.heap.size W13 w')=>(show w'.cell? ⟨j6,0,none⟩ = some (.bool g6) /\ w'.cell? ⟨j6,1,none⟩ = some (.slice A6 n6 o6) /\ w'.cell? ⟨j6,2,none⟩ = some (.bool e6) /\ w'.cell? ⟨j6,3,none⟩ = some (.slice E6 m6 d6) /\ w'.cell? ⟨j7,0,none⟩ = some (.bool g7) /\ w'.cell? ⟨j7,1,none⟩ = some (.slice A7 n7 o7) /\ w'.cell? ⟨j7,2,none⟩ = some (.bool e7) /\ w'.cell? ⟨j7,3,none⟩ = some (.slice E7 m7 d7) /\ w'.cell? ⟨k13,0,none⟩ = some (.bool g13) /\ w'.cell? ⟨k13,1,none⟩ = some (.slice A13 n13 o13) /\ w'.cell? ⟨(k13 + 1),0,none⟩ = some (.bool g14) /\ w'.cell? ⟨(k13 + 1),1,none⟩ = some (.slice A14 n14 o14) /\ w'.cell? ⟨(k13 + 1),2,none⟩ = some (.bool e14) /\ w'.cell? ⟨(k13 + 1),3,none⟩ = some (.slice E14 m14 d14) from ⟨(B6.out.below hb).c0,(B6.out.below hb).c1,(B6.out.below hb).c2,(B6.out.below hb).c3,(B7.out.below hb).c0,(B7.out.below hb).c1,(B7.out.below hb).c2,(B7.out.below hb).c3,(B13.out.below hb).1,(B13.out.below hb).2.1,(B14.out.below hb).c0,(B14.out.below hb).c1,(B14.out.below hb).c2,(B14.out.below hb).c3⟩))
       have hB:=(Below.refl W13.heap.size W13).drew
       replace HM:=Hd (HM.out.below hB)
       replace V6:=Hd (V6.out.below hB)
       replace V7:=Hd (V7.out.below hB)
       replace HQA:=Hd (HQA.out.below hB)
       replace V13:=Hd (V13.out.below hB)
       replace V14:=Hd (V14.out.below hB)
       refine wp_region_held_drew (S:=fun w'=>w'.cell? ⟨j6,0,none⟩ = some (.bool g6) /\ w'.cell? ⟨j6,1,none⟩ = some (.slice A6 n6 o6) /\ w'.cell? ⟨j6,2,none⟩ = some (.bool e6) /\ w'.cell? ⟨j6,3,none⟩ = some (.slice E6 m6 d6) /\ w'.cell? ⟨j7,0,none⟩ = some (.bool g7) /\ w'.cell? ⟨j7,1,none⟩ = some (.slice A7 n7 o7) /\ w'.cell? ⟨j7,2,none⟩ = some (.bool e7) /\ w'.cell? ⟨j7,3,none⟩ = some (.slice E7 m7 d7) /\ w'.cell? ⟨k13,0,none⟩ = some (.bool g13) /\ w'.cell? ⟨k13,1,none⟩ = some (.slice A13 n13 o13) /\ w'.cell? ⟨(k13 + 1),0,none⟩ = some (.bool g14) /\ w'.cell? ⟨(k13 + 1),1,none⟩ = some (.slice A14 n14 o14) /\ w'.cell? ⟨(k13 + 1),2,none⟩ = some (.bool e14) /\ w'.cell? ⟨(k13 + 1),3,none⟩ = some (.slice E14 m14 d14)) (by kernel_rfl) (HT.out _ hB) (fun hH=>?_)
       clear hH
       generalize W13.drew = wr0 at *
       refine tk 0 63 (by first | assumption | exact HT.out _ hB) ?_
       try simp only [Act.put,tA,cZ,cS]
       refine tk 1 64 (by first | assumption | exact HT.out _ hB) ?_
       try simp only [Act.put,tA,cZ,cS]
       refine tk 2 65 (by first | assumption | exact HT.out _ hB) ?_
       try simp only [Act.put,tA,cZ,cS]
       refine tk 3 66 (by first | assumption | exact HT.out _ hB) ?_
       try simp only [Act.put,tA,cZ,cS]
       refine tk 4 67 (by first | assumption | exact HT.out _ hB) ?_
       try simp only [Act.put,tA,cZ,cS]
       refine tk 7 70 (by first | assumption | exact HT.out _ hB) ?_
       try simp only [Act.put,tA,cZ,cS]
       refine tk 9 72 (by first | assumption | exact HT.out _ hB) ?_
       try simp only [Act.put,tA,cZ,cS]
       refine rd 5 (AllReadyH.cons rfl (fun K hK=>?_) AllReadyH.nil)
       (try simp only [gA]);(try simp only [gS]);(try simp only [gZ])
       go_simp
       (go_at_call 20;refine (Of_rat _ QQ 96 _ V13.out).mono ?_;rintro e wc5 ⟨⟨ga,Aa1,na1,oa,ea,Ea,ma,da1,rfl,hz⟩,hb⟩)
       replace HM:=Hd (HM.out.below hb)
       replace V6:=Hd (V6.out.below hb)
       replace V7:=Hd (V7.out.below hb)
       replace HQA:=Hd (HQA.out.below hb)
       replace V13:=Hd (V13.out.below hb)
       replace V14:=Hd (V14.out.below hb)
       replace hB:=Below.trans hB (hb.mono hB.size)
       have T1:=Hd hz
       refine hK.out _ _ (HT.out _ hB) (fun hH=>?_)
       clear hK K hH
       try simp only [Act.put,tA,cZ,cS]
       clear hb hz
       refine rd 6 (AllReadyH.cons rfl (fun K hK=>?_) AllReadyH.nil)
       (try simp only [gA]);(try simp only [gS]);(try simp only [gZ])
       go_simp
       (go_at_call 44;refine (mul_v _ _ u s QQ 1 96 _ (V7.out.mono (by decide)).v T1.out.v (by decide) (by decide)).mono ?_;rintro e wc6 ⟨⟨gb,Ab1,nb1,ob,eb,Eb,mb,db1,rfl,hz⟩,hb⟩)
       replace HM:=Hd (HM.out.below hb)
       replace V6:=Hd (V6.out.below hb)
       replace V7:=Hd (V7.out.below hb)
       replace HQA:=Hd (HQA.out.below hb)
       replace V13:=Hd (V13.out.below hb)
       replace V14:=Hd (V14.out.below hb)
       replace T1:=Hd (T1.out.below hb)
       replace hB:=Below.trans hB (hb.mono hB.size)
       clear T1
       have T2:=Hd hz
       refine hK.out _ _ (HT.out _ hB) (fun hH=>?_)
       clear hK K hH
       try simp only [Act.put,tA,cZ,cS]
       clear hb hz
       refine rd 8 (AllReadyH.cons rfl (fun K hK=>?_) AllReadyH.nil)
       (try simp only [gA]);(try simp only [gS]);(try simp only [gZ])
       go_simp
       (go_at_call 40;refine (add_v _ _ (u * QQ) (s * 1) RN RD 197 _ T2.out (V14.out.mono (by decide)).v (by decide) (by decide)).mono ?_;rintro e wc8 ⟨⟨gc,Ac1,nc1,oc,ec,Ec,mc,dc1,rfl,hz⟩,hb⟩)
       replace HM:=Hd (HM.out.below hb)
       replace V6:=Hd (V6.out.below hb)
       replace V7:=Hd (V7.out.below hb)
       replace HQA:=Hd (HQA.out.below hb)
       replace V13:=Hd (V13.out.below hb)
       replace V14:=Hd (V14.out.below hb)
       replace T2:=Hd (T2.out.below hb)
       replace hB:=Below.trans hB (hb.mono hB.size)
       clear T2
       have T3:=Hd hz
       refine hK.out _ _ (HT.out _ hB) (fun hH=>?_)
       clear hK K hH
       try simp only [Act.put,tA,cZ,cS]
       clear hb hz
       refine rd 10 (AllReadyH.cons rfl (fun K hK=>?_) AllReadyH.nil)
       (try simp only [gA]);(try simp only [gS]);(try simp only [gZ])
       go_simp
       (go_at_call 61;refine (same_v_yes _ _ (u * QQ * RD + RN * (s * 1)) (s * 1 * RD) z t 399 _ T3.out (V6.out.mono (by decide)).v (by decide) HCR.out).mono ?_;rintro e wc10 ⟨rfl,hb⟩)
       replace HM:=Hd (HM.out.below hb)
       replace V6:=Hd (V6.out.below hb)
       replace V7:=Hd (V7.out.below hb)
       replace HQA:=Hd (HQA.out.below hb)
       replace V13:=Hd (V13.out.below hb)
       replace V14:=Hd (V14.out.below hb)
       replace T3:=Hd (T3.out.below hb)
       replace hB:=Below.trans hB (hb.mono hB.size)
       clear T3
       refine hK.out _ _ (HT.out _ hB) (fun hH=>?_)
       clear hK K hH
       try simp only [Act.put,tA,cZ,cS]
       clear hb
       refine tk 11 74 (by first | assumption | exact HT.out _ hB) ?_
       try simp only [Act.put,tA,cZ,cS]
       refine tk 12 75 (by first | assumption | exact HT.out _ hB) ?_
       try simp only [Act.put,tA,cZ,cS]
       refine tk 13 76 (by first | assumption | exact HT.out _ hB) ?_
       try simp only [Act.put,tA,cZ,cS]
       refine tk 14 77 (by first | assumption | exact HT.out _ hB) ?_
       try simp only [Act.put,tA,cZ,cS]
       refine tk 16 79 (by first | assumption | exact HT.out _ hB) ?_
       try simp only [Act.put,tA,cZ,cS]
       refine rd 15 (AllReadyH.cons rfl (fun K hK=>?_) AllReadyH.nil)
       (try simp only [gA]);(try simp only [gS]);(try simp only [gZ])
       go_simp
       (go_at_call 38;refine (Abs_any _ RN RD 96 _ V14.out (by decide)).mono ?_;rintro e wc15 ⟨⟨gd,Ad1,nd1,od,ed,Ed,md,dd1,rfl,hz⟩,hb⟩)
       replace HM:=Hd (HM.out.below hb)
       replace V6:=Hd (V6.out.below hb)
       replace V7:=Hd (V7.out.below hb)
       replace HQA:=Hd (HQA.out.below hb)
       replace V13:=Hd (V13.out.below hb)
       replace V14:=Hd (V14.out.below hb)
       replace hB:=Below.trans hB (hb.mono hB.size)
       have T4:=Hd hz
       refine hK.out _ _ (HT.out _ hB) (fun hH=>?_)
       clear hK K hH
       try simp only [Act.put,tA,cZ,cS]
       clear hb hz
       refine rd 17 (AllReadyH.cons rfl (fun K hK=>?_) AllReadyH.nil)
       (try simp only [gA]);(try simp only [gS]);(try simp only [gZ])
       go_simp
       (go_at_call 38;refine (Abs_any _ u s 7 _ V7.out (by decide)).mono ?_;rintro e wc17 ⟨⟨ge,Ae1,ne1,oe,ee,Ee,me,de1,rfl,hz⟩,hb⟩)
       replace HM:=Hd (HM.out.below hb)
       replace V6:=Hd (V6.out.below hb)
       replace V7:=Hd (V7.out.below hb)
       replace HQA:=Hd (HQA.out.below hb)
       replace V13:=Hd (V13.out.below hb)
       replace V14:=Hd (V14.out.below hb)
       replace T4:=Hd (T4.out.below hb)
       replace hB:=Below.trans hB (hb.mono hB.size)
       have T5:=Hd hz
       refine hK.out _ _ (HT.out _ hB) (fun hH=>?_)
       clear hK K hH
       try simp only [Act.put,tA,cZ,cS]
       clear hb hz
       refine rd 18 (AllReadyH.cons rfl (fun K hK=>?_) AllReadyH.nil)
       (try simp only [gA]);(try simp only [gS]);(try simp only [gZ])
       go_simp
       (go_at_call 26;refine (Cmp_q _ _ (absI RN) RD (absI u) s 96 _ T4.out (T5.out.mono (by decide)) (by decide)).mono ?_;rintro e wc18 ⟨rfl,hb⟩)
       rw [cmpI_lt HOK.out.1]
       replace HM:=Hd (HM.out.below hb)
       replace V6:=Hd (V6.out.below hb)
       replace V7:=Hd (V7.out.below hb)
       replace HQA:=Hd (HQA.out.below hb)
       replace V13:=Hd (V13.out.below hb)
       replace V14:=Hd (V14.out.below hb)
       replace T4:=Hd (T4.out.below hb)
       replace T5:=Hd (T5.out.below hb)
       replace hB:=Below.trans hB (hb.mono hB.size)
       clear T4
       clear T5
       refine hK.out _ _ (HT.out _ hB) (fun hH=>?_)
       clear hK K hH
       try simp only [Act.put,tA,cZ,cS]
       clear hb
       refine tk 19 82 (by first | assumption | exact HT.out _ hB) ?_
       try simp only [Act.put,tA,cZ,cS]
       refine tk 20 83 (by first | assumption | exact HT.out _ hB) ?_
       try simp only [Act.put,tA,cZ,cS]
       refine wpAnyH_done (by kernel_rfl) ?_ _
       go_wp2_with fail
       go_meet
       exact ⟨rfl,hB⟩
     obtain ⟨rfl,hb⟩:=hcut
     obtain ⟨w15,rfl⟩ : ∃ w15,w15 = wc:=⟨wc,rfl⟩
     replace B6:=Hd (B6.out.below hb)
     replace B7:=Hd (B7.out.below hb)
     replace B13:=Hd (B13.out.below hb)
     replace B14:=Hd (B14.out.below hb)
     replace HM:=Hd (HM.out.below hb)
     replace V6:=Hd (V6.out.below hb)
     replace V7:=Hd (V7.out.below hb)
     replace HQA:=Hd (HQA.out.below hb)
     replace V13:=Hd (V13.out.below hb)
     replace V14:=Hd (V14.out.below hb)
     replace hw:=hw.trans (hb.mono hw.size)
     clear hb HCR
     obtain ⟨p0,P0,q0,r0,p1,P1,q1,r1,p2,P2,q2,r2,p3,P3,q3,r3,hF,hY⟩:=HQA.out
     have BA:=Hd hF
     have HY:=Hd hY
     clear hF hY
     obtain ⟨c130,c131,f130,f131,s13⟩:=B13.out
     obtain ⟨y0,y1,y2,y3,y4,y5,y6,y7,x0,x1,x2,x3,x4,x5,x6,x7,x8⟩:=BA.out
     go_upto_region 16 with fail
     clear y0 y1 y2 y3 y4 y5 y6 y7 x0 x1 x2 x3 x4 x5 x6 x7 x8
     clear c130 c131 f130 f131 s13
     have HQN:=Hd (show QArr ((w15.setCell ⟨k11,0,none⟩ (.bool g13)).setCell ⟨k11,1,none⟩ (.slice A13 n13 o13)) k11 1 (quQ 1 z t u s) from ⟨g13,A13,n13,o13,p1,P1,q1,r1,p2,P2,q2,r2,p3,P3,q3,r3,BA.out.put0 (.bool g13) (.slice A13 n13 o13),fun h=>absurd h (by decide)⟩)
     replace B6:=Hd (B6.out.at8 HNE.out.1.1 0 1 (.bool g13) (.slice A13 n13 o13))
     replace B7:=Hd (B7.out.at8 HNE.out.1.2 0 1 (.bool g13) (.slice A13 n13 o13))
     replace B14:=Hd (B14.out.at8 (show k11 ≠ k13 + 1 by have:=HLT.out;omega) 0 1 (.bool g13) (.slice A13 n13 o13))
     replace V6:=Hd (V6.out.at8 BA.out.c0 BA.out.c1 (by decide) (.bool g13) (.slice A13 n13 o13))
     replace V7:=Hd (V7.out.at8 BA.out.c0 BA.out.c1 (by decide) (.bool g13) (.slice A13 n13 o13))
     replace V14:=Hd (V14.out.at8 BA.out.c0 BA.out.c1 (by decide) (.bool g13) (.slice A13 n13 o13))
     replace HM:=Hd (HM.out.at8 HNE.out.2.1 0 1 (.bool g13) (.slice A13 n13 o13))
     replace hw:=(hw.setCell (p:=⟨k11,0,none⟩) (show w.heap.size <= k11 from HNE.out.2.2) (.bool g13)).setCell (p:=⟨k11,1,none⟩) (show w.heap.size <= k11 from HNE.out.2.2) (.slice A13 n13 o13)
     clear HQA BA HY B13 V13 HQK
     have HQA:=HQN
     clear HQN
     generalize (w15.setCell ⟨k11,0,none⟩ (.bool g13)).setCell ⟨k11,1,none⟩ (.slice A13 n13 o13) = wS at *
     obtain ⟨c140,c141,c142,c143,f140,f141,f142,f143,s14⟩:=B14.out
     go_wp2_with fail
     refine (Sign_any _ RN RD 96 _ V14.out).mono ?_
     rintro e w16 ⟨rfl,hb⟩
     clear c140 c141 c142 c143 f140 f141 f142 f143 s14
     replace B6:=Hd (B6.out.below hb)
     replace B7:=Hd (B7.out.below hb)
     replace B14:=Hd (B14.out.below hb)
     replace HM:=Hd (HM.out.below hb)
     replace V6:=Hd (V6.out.below hb)
     replace V7:=Hd (V7.out.below hb)
     replace HQA:=Hd (HQA.out.below hb)
     replace V14:=Hd (V14.out.below hb)
     replace hw:=hw.trans (hb.mono hw.size)
     clear hb
     obtain ⟨sg,hsg⟩ : ∃ sg,cmpI RN 0 = sg:=⟨_,rfl⟩
     have HSG:=Hd hsg
     rw [hsg]
     clear hsg
     by_cases hs0:sg = 0
     ·as_aux_lemma=>
       have HS0:=Hd (HSG.out.trans hs0)
       rw [hs0]
       clear hs0 HSG
       obtain ⟨c70,c71,c72,c73,f70,f71,f72,f73,s7⟩:=B7.out
       go_wp2_with fail
       refine (Sign_any _ u s 7 _ V7.out).mono ?_
       rintro e w17 ⟨rfl,hb⟩
       clear c70 c71 c72 c73 f70 f71 f72 f73 s7
       replace B6:=Hd (B6.out.below hb)
       replace B7:=Hd (B7.out.below hb)
       replace B14:=Hd (B14.out.below hb)
       replace HM:=Hd (HM.out.below hb)
       replace V6:=Hd (V6.out.below hb)
       replace V7:=Hd (V7.out.below hb)
       replace HQA:=Hd (HQA.out.below hb)
       replace V14:=Hd (V14.out.below hb)
       replace hw:=hw.trans (hb.mono hw.size)
       clear hb
       have hsb3:cmpI u 0 = 1 \/ cmpI u 0 = -1:=by rcases Int.lt_trichotomy u 0 with h | h | h;exact .inr (cmpI_lt h);exact absurd h HU.out;exact .inl (cmpI_gt h)
       obtain ⟨ny,hny⟩ : ∃ ny,-cmpI u 0 = ny:=⟨_,rfl⟩
       have hwy:IntKind.i64.wrap (-cmpI u 0) = ny:=by rw [IntKind.wrap_i64];omega
       have hb0:(0 == ny) = false:=by rw [beq_eq_false_iff_ne];omega
       clear hsb3 hny
       go_upto_region 18 with fail
       have HT:=Hd (fun (w':World) (hb:Below w17.heap.size w17 w')=>(show w'.cell? ⟨j7,0,none⟩ = some (.bool g7) /\ w'.cell? ⟨j7,1,none⟩ = some (.slice A7 n7 o7) /\ w'.cell? ⟨j7,2,none⟩ = some (.bool e7) /\ w'.cell? ⟨j7,3,none⟩ = some (.slice E7 m7 d7) /\ w'.cell? ⟨(k13 + 1),0,none⟩ = some (.bool g14) /\ w'.cell? ⟨(k13 + 1),1,none⟩ = some (.slice A14 n14 o14) /\ w'.cell? ⟨(k13 + 1),2,none⟩ = some (.bool e14) /\ w'.cell? ⟨(k13 + 1),3,none⟩ = some (.slice E14 m14 d14) from ⟨(B7.out.below hb).c0,(B7.out.below hb).c1,(B7.out.below hb).c2,(B7.out.below hb).c3,(B14.out.below hb).c0,(B14.out.below hb).c1,(B14.out.below hb).c2,(B14.out.below hb).c3⟩))
       have hB:=(Below.refl w17.heap.size w17).drew
       replace HM:=Hd (HM.out.below hB)
       replace V6:=Hd (V6.out.below hB)
       replace V7:=Hd (V7.out.below hB)
       replace HQA:=Hd (HQA.out.below hB)
       replace V14:=Hd (V14.out.below hB)
       refine wp_region_held_drew (S:=fun w'=>w'.cell? ⟨j7,0,none⟩ = some (.bool g7) /\ w'.cell? ⟨j7,1,none⟩ = some (.slice A7 n7 o7) /\ w'.cell? ⟨j7,2,none⟩ = some (.bool e7) /\ w'.cell? ⟨j7,3,none⟩ = some (.slice E7 m7 d7) /\ w'.cell? ⟨(k13 + 1),0,none⟩ = some (.bool g14) /\ w'.cell? ⟨(k13 + 1),1,none⟩ = some (.slice A14 n14 o14) /\ w'.cell? ⟨(k13 + 1),2,none⟩ = some (.bool e14) /\ w'.cell? ⟨(k13 + 1),3,none⟩ = some (.slice E14 m14 d14)) (by kernel_rfl) (HT.out _ hB) (fun hH=>?_)
       clear hH
       generalize w17.drew = wr0 at *
       refine tk 0 118 (by first | assumption | exact HT.out _ hB) ?_
       try simp only [Act.put,tA,cZ,cS]
       refine tk 1 119 (by first | assumption | exact HT.out _ hB) ?_
       try simp only [Act.put,tA,cZ,cS]
       refine tk 2 120 (by first | assumption | exact HT.out _ hB) ?_
       try simp only [Act.put,tA,cZ,cS]
       refine wpAnyH_taken (i:=3) (d:=some 121) (v:=undef) rfl rfl (by kernel_rfl) (by kernel_rfl) (by kernel_rfl) (fun _ _ _ h=>h) (Or.inr ⟨by rfl,rfl⟩) (by first | assumption | exact HT.out _ hB) ?_
       try simp only [Act.put,tA,cZ,cS]
       refine tk 4 122 (by first | assumption | exact HT.out _ hB) ?_
       try simp only [Act.put,tA,cZ,cS]
       refine tk 5 123 (by first | assumption | exact HT.out _ hB) ?_
       try simp only [Act.put,tA,cZ,cS]
       refine tk 6 124 (by first | assumption | exact HT.out _ hB) ?_
       try simp only [Act.put,tA,cZ,cS]
       refine tk 7 125 (by first | assumption | exact HT.out _ hB) ?_
       try simp only [Act.put,tA,cZ,cS]
       refine tk 8 126 (by first | assumption | exact HT.out _ hB) ?_
       try simp only [Act.put,tA,cZ,cS]
       refine wpAnyH_taken (i:=9) (d:=some 127) (v:=undef) rfl rfl (by kernel_rfl) (by kernel_rfl) (by kernel_rfl) (fun _ _ _ h=>h) (Or.inr ⟨by rfl,rfl⟩) (by first | assumption | exact HT.out _ hB) ?_
       try simp only [Act.put,tA,cZ,cS]
       refine wpAnyH_taken (i:=10) (d:=some 128) (v:=undef) rfl rfl (by kernel_rfl) (by kernel_rfl) (by kernel_rfl) (fun _ _ _ h=>h) (Or.inr ⟨by rfl,rfl⟩) (by first | assumption | exact HT.out _ hB) ?_
       try simp only [Act.put,tA,cZ,cS]
       refine wpAnyH_taken (i:=13) (d:=some 131) (v:=undef) rfl rfl (by kernel_rfl) (by kernel_rfl) (by kernel_rfl) (fun _ _ _ h=>h) (Or.inr ⟨by rfl,rfl⟩) (by first | assumption | exact HT.out _ hB) ?_
       try simp only [Act.put,tA,cZ,cS]
       refine wpAnyH_taken (i:=11) (d:=some 129) (v:=undef) rfl rfl (by kernel_rfl) (by kernel_rfl) (by kernel_rfl) (fun _ _ _ h=>h) (Or.inr ⟨by rfl,rfl⟩) (by first | assumption | exact HT.out _ hB) ?_
       try simp only [Act.put,tA,cZ,cS]
       refine wpAnyH_taken (i:=12) (d:=some 130) (v:=undef) rfl rfl (by kernel_rfl) (by kernel_rfl) (by kernel_rfl) (fun _ _ _ h=>h) (Or.inr ⟨by rfl,rfl⟩) (by first | assumption | exact HT.out _ hB) ?_
       try simp only [Act.put,tA,cZ,cS]
       refine wpAnyH_taken (i:=14) (d:=some 132) (v:=undef) rfl rfl (by kernel_rfl) (by kernel_rfl) (by kernel_rfl) (fun _ _ _ h=>h) (Or.inr ⟨by rfl,rfl⟩) (by first | assumption | exact HT.out _ hB) ?_
       try simp only [Act.put,tA,cZ,cS]
       refine wpAnyH_taken (i:=15) (d:=some 133) (v:=undef) rfl rfl (by kernel_rfl) (by kernel_rfl) (by kernel_rfl) (fun _ _ _ h=>h) (Or.inr ⟨by rfl,rfl⟩) (by first | assumption | exact HT.out _ hB) ?_
       try simp only [Act.put,tA,cZ,cS]
       refine wpAnyH_taken (i:=16) (d:=some 134) (v:=undef) rfl rfl (by kernel_rfl) (by kernel_rfl) (by kernel_rfl) (fun _ _ _ h=>h) (Or.inr ⟨by rfl,rfl⟩) (by first | assumption | exact HT.out _ hB) ?_
       try simp only [Act.put,tA,cZ,cS]
       refine tk 17 135 (by first | assumption | exact HT.out _ hB) ?_
       try simp only [Act.put,tA,cZ,cS]
       refine tk 18 136 (by first | assumption | exact HT.out _ hB) ?_
       try simp only [Act.put,tA,cZ,cS]
       refine wpAnyH_done (by kernel_rfl) ?_ _
       replace B6:=Hd (B6.out.below hB)
       replace B7:=Hd (B7.out.below hB)
       replace B14:=Hd (B14.out.below hB)
       replace hw:=hw.trans (hB.mono hw.size)
       go_wp2_with fail
       exact ⟨⟨1,rfl,by decide,by decide,B6,B7,V6,V7,HM,HQA,Hd hw⟩,by show (4 - (1:Int)).toNat < (4 - (0:Int)).toNat;decide⟩
     ·as_aux_lemma=>
       have HSN:=Hd hs0
       have hsb:(sg == 0) = false:=by simpa using hs0
       have hsb2:(sg != 0) = true:=by simp [bne,hsb]
       have HRN:=Hd (show RN ≠ 0 from fun e0=>hs0 (by rw [<- HSG.out,cmpI_eq e0]))
       clear hs0
       obtain ⟨c70,c71,c72,c73,f70,f71,f72,f73,s7⟩:=B7.out
       go_wp2_with fail
       refine (Sign_any _ u s 7 _ V7.out).mono ?_
       rintro e w17 ⟨rfl,hb⟩
       clear c70 c71 c72 c73 f70 f71 f72 f73 s7
       replace B6:=Hd (B6.out.below hb)
       replace B7:=Hd (B7.out.below hb)
       replace B14:=Hd (B14.out.below hb)
       replace HM:=Hd (HM.out.below hb)
       replace V6:=Hd (V6.out.below hb)
       replace V7:=Hd (V7.out.below hb)
       replace HQA:=Hd (HQA.out.below hb)
       replace V14:=Hd (V14.out.below hb)
       replace hw:=hw.trans (hb.mono hw.size)
       clear hb
       have hsb3:cmpI u 0 = 1 \/ cmpI u 0 = -1:=by rcases Int.lt_trichotomy u 0 with h | h | h;exact .inr (cmpI_lt h);exact absurd h HU.out;exact .inl (cmpI_gt h)
       obtain ⟨ny,hny⟩ : ∃ ny,-cmpI u 0 = ny:=⟨_,rfl⟩
       have hwy:IntKind.i64.wrap (-cmpI u 0) = ny:=by rw [IntKind.wrap_i64];omega
       have hb0:(sg == ny) = false:=by rw [beq_eq_false_iff_ne];intro e0;have h9:=HOK.out.2.1 rfl HRN.out;rw [HSG.out] at h9;omega
       clear hsb3 hny
       go_upto_region 18 with fail
       have HT:=Hd (fun (w':World) (hb:Below w17.heap.size w17 w')=>(show w'.cell? ⟨j7,0,none⟩ = some (.bool g7) /\ w'.cell? ⟨j7,1,none⟩ = some (.slice A7 n7 o7) /\ w'.cell? ⟨j7,2,none⟩ = some (.bool e7) /\ w'.cell? ⟨j7,3,none⟩ = some (.slice E7 m7 d7) /\ w'.cell? ⟨(k13 + 1),0,none⟩ = some (.bool g14) /\ w'.cell? ⟨(k13 + 1),1,none⟩ = some (.slice A14 n14 o14) /\ w'.cell? ⟨(k13 + 1),2,none⟩ = some (.bool e14) /\ w'.cell? ⟨(k13 + 1),3,none⟩ = some (.slice E14 m14 d14) from ⟨(B7.out.below hb).c0,(B7.out.below hb).c1,(B7.out.below hb).c2,(B7.out.below hb).c3,(B14.out.below hb).c0,(B14.out.below hb).c1,(B14.out.below hb).c2,(B14.out.below hb).c3⟩))
       have hB:=(Below.refl w17.heap.size w17).drew
       replace HM:=Hd (HM.out.below hB)
       replace V6:=Hd (V6.out.below hB)
       replace V7:=Hd (V7.out.below hB)
       replace HQA:=Hd (HQA.out.below hB)
       replace V14:=Hd (V14.out.below hB)
       refine wp_region_held_drew (S:=fun w'=>w'.cell? ⟨j7,0,none⟩ = some (.bool g7) /\ w'.cell? ⟨j7,1,none⟩ = some (.slice A7 n7 o7) /\ w'.cell? ⟨j7,2,none⟩ = some (.bool e7) /\ w'.cell? ⟨j7,3,none⟩ = some (.slice E7 m7 d7) /\ w'.cell? ⟨(k13 + 1),0,none⟩ = some (.bool g14) /\ w'.cell? ⟨(k13 + 1),1,none⟩ = some (.slice A14 n14 o14) /\ w'.cell? ⟨(k13 + 1),2,none⟩ = some (.bool e14) /\ w'.cell? ⟨(k13 + 1),3,none⟩ = some (.slice E14 m14 d14)) (by kernel_rfl) (HT.out _ hB) (fun hH=>?_)
       clear hH
       generalize w17.drew = wr0 at *
       refine tk 0 118 (by first | assumption | exact HT.out _ hB) ?_
       try simp only [Act.put,tA,cZ,cS]
       refine tk 1 119 (by first | assumption | exact HT.out _ hB) ?_
       try simp only [Act.put,tA,cZ,cS]
       refine tk 2 120 (by first | assumption | exact HT.out _ hB) ?_
       try simp only [Act.put,tA,cZ,cS]
       refine tk 3 121 (by first | assumption | exact HT.out _ hB) ?_
       try simp only [Act.put,tA,cZ,cS]
       refine tk 4 122 (by first | assumption | exact HT.out _ hB) ?_
       try simp only [Act.put,tA,cZ,cS]
       refine tk 5 123 (by first | assumption | exact HT.out _ hB) ?_
       try simp only [Act.put,tA,cZ,cS]
       refine tk 6 124 (by first | assumption | exact HT.out _ hB) ?_
       try simp only [Act.put,tA,cZ,cS]
       refine tk 7 125 (by first | assumption | exact HT.out _ hB) ?_
       try simp only [Act.put,tA,cZ,cS]
       refine tk 8 126 (by first | assumption | exact HT.out _ hB) ?_
       try simp only [Act.put,tA,cZ,cS]
       refine wpAnyH_taken (i:=9) (d:=some 127) (v:=undef) rfl rfl (by kernel_rfl) (by kernel_rfl) (by kernel_rfl) (fun _ _ _ h=>h) (Or.inr ⟨by rfl,rfl⟩) (by first | assumption | exact HT.out _ hB) ?_
       try simp only [Act.put,tA,cZ,cS]
       refine wpAnyH_taken (i:=10) (d:=some 128) (v:=undef) rfl rfl (by kernel_rfl) (by kernel_rfl) (by kernel_rfl) (fun _ _ _ h=>h) (Or.inr ⟨by rfl,rfl⟩) (by first | assumption | exact HT.out _ hB) ?_
       try simp only [Act.put,tA,cZ,cS]
       refine wpAnyH_taken (i:=13) (d:=some 131) (v:=undef) rfl rfl (by kernel_rfl) (by kernel_rfl) (by kernel_rfl) (fun _ _ _ h=>h) (Or.inr ⟨by rfl,rfl⟩) (by first | assumption | exact HT.out _ hB) ?_
       try simp only [Act.put,tA,cZ,cS]
       refine wpAnyH_taken (i:=11) (d:=some 129) (v:=undef) rfl rfl (by kernel_rfl) (by kernel_rfl) (by kernel_rfl) (fun _ _ _ h=>h) (Or.inr ⟨by rfl,rfl⟩) (by first | assumption | exact HT.out _ hB) ?_
       try simp only [Act.put,tA,cZ,cS]
       refine wpAnyH_taken (i:=12) (d:=some 130) (v:=undef) rfl rfl (by kernel_rfl) (by kernel_rfl) (by kernel_rfl) (fun _ _ _ h=>h) (Or.inr ⟨by rfl,rfl⟩) (by first | assumption | exact HT.out _ hB) ?_
       try simp only [Act.put,tA,cZ,cS]
       refine wpAnyH_taken (i:=14) (d:=some 132) (v:=undef) rfl rfl (by kernel_rfl) (by kernel_rfl) (by kernel_rfl) (fun _ _ _ h=>h) (Or.inr ⟨by rfl,rfl⟩) (by first | assumption | exact HT.out _ hB) ?_
       try simp only [Act.put,tA,cZ,cS]
       refine wpAnyH_taken (i:=15) (d:=some 133) (v:=undef) rfl rfl (by kernel_rfl) (by kernel_rfl) (by kernel_rfl) (fun _ _ _ h=>h) (Or.inr ⟨by rfl,rfl⟩) (by first | assumption | exact HT.out _ hB) ?_
       try simp only [Act.put,tA,cZ,cS]
       refine wpAnyH_taken (i:=16) (d:=some 134) (v:=undef) rfl rfl (by kernel_rfl) (by kernel_rfl) (by kernel_rfl) (fun _ _ _ h=>h) (Or.inr ⟨by rfl,rfl⟩) (by first | assumption | exact HT.out _ hB) ?_
       try simp only [Act.put,tA,cZ,cS]
       refine tk 17 135 (by first | assumption | exact HT.out _ hB) ?_
       try simp only [Act.put,tA,cZ,cS]
       refine tk 18 136 (by first | assumption | exact HT.out _ hB) ?_
       try simp only [Act.put,tA,cZ,cS]
       refine wpAnyH_done (by kernel_rfl) ?_ _
       replace B6:=Hd (B6.out.below hB)
       replace B7:=Hd (B7.out.below hB)
       replace B14:=Hd (B14.out.below hB)
       replace hw:=hw.trans (hB.mono hw.size)
       go_wp2_with fail
       exact ⟨⟨1,rfl,by decide,by decide,B6,B7,V6,V7,HM,HQA,Hd hw⟩,by show (4 - (1:Int)).toNat < (4 - (0:Int)).toNat;decide⟩
   ·as_aux_lemma=>
     clear hk0 hk4
     have HE:=Hd (show quE 1 u = 0 from (if_neg (by decide)).trans (if_neg HU.out))
     go_upto_region 12 with fail
     obtain ⟨c60,c61,c62,c63,f60,f61,f62,f63,s6⟩:=B6.out
     obtain ⟨c70,c71,c72,c73,f70,f71,f72,f73,s7⟩:=B7.out
     go_wp2_with fail
     refine (Quotient_q 1 _ _ z t u s 7 _ V6.out V7.out (by decide) (by decide)).mono ?_
     rintro e wq ⟨⟨g13,A13,n13,o13,g14,A14,n14,o14,e14,E14,m14,d14,rfl,hz,hq⟩,hb⟩
     rw [HE.out]
     have HOK:=Hd (round_ok (k:=1) (z:=z) HTS.out.1 HTS.out.2 HU.out (by decide) (by decide))
     obtain ⟨hcr,hRD⟩:=qu_cross (k:=1) (z:=z) HTS.out.1 HTS.out.2 HE.out
     obtain ⟨QQ,h1⟩ : ∃ QQ,quQ 1 z t u s = QQ:=⟨_,rfl⟩
     obtain ⟨RN,h2⟩ : ∃ RN,quN 1 z t u s = RN:=⟨_,rfl⟩
     obtain ⟨RD,h3⟩ : ∃ RD,quD 1 z t u s = RD:=⟨_,rfl⟩
     rw [h1] at hz
     rw [h2,h3] at hq HOK
     rw [h1,h2,h3] at hcr
     rw [h3] at hRD
     have HQK:=Hd h1
     have HCR:=Hd (rem_back hcr)
     have HRD:=Hd hRD
     clear h1 h2 h3 hcr hRD
     clear c60 c61 c62 c63 f60 f61 f62 f63 s6
     clear c70 c71 c72 c73 f70 f71 f72 f73 s7
     replace B6:=Hd (B6.out.below hb)
     replace B7:=Hd (B7.out.below hb)
     replace HM:=Hd (HM.out.below hb)
     replace V6:=Hd (V6.out.below hb)
     replace V7:=Hd (V7.out.below hb)
     replace HQA:=Hd (HQA.out.below hb)
     replace hw:=hw.trans (hb.mono hw.size)
     clear hb
     have HQB:=HQA
     have hX:=below_two wq (.cells #[.bool g13,.slice A13 n13 o13] 31) (.cells #[.bool g14,.slice A14 n14 o14,.bool e14,.slice E14 m14 d14] 38)
     replace B6:=Hd (B6.out.below hX)
     replace B7:=Hd (B7.out.below hX)
     replace HM:=Hd (HM.out.below hX)
     replace V6:=Hd (V6.out.below hX)
     replace V7:=Hd (V7.out.below hX)
     replace HQA:=Hd (HQA.out.below hX)
     replace hw:=hw.trans (hX.mono hw.size)
     have B13:=Hd (Fx.newA wq (.bool g13) (.slice A13 n13 o13) 31 (.cells #[.bool g14,.slice A14 n14 o14,.bool e14,.slice E14 m14 d14] 38))
     have B14:=Hd (Fx4.new2 wq (.bool g14) (.slice A14 n14 o14) (.bool e14) (.slice E14 m14 d14) 38 #[.bool g13,.slice A13 n13 o13] 31)
     have V13:=Hd (hz.below hX)
     have V14:=Hd (hq.below hX)
     clear hX hz hq HE
     have HLT:=Hd (show k11 < wq.heap.size from by obtain ⟨p0,P0,q0,r0,p1,P1,q1,r1,p2,P2,q2,r2,p3,P3,q3,r3,hF,-⟩:=HQB.out;exact hF.lt)
     clear HQB
     go_upto_region 13 with fail
     generalize (wq.alloc (.cells #[.bool g13,.slice A13 n13 o13] 31)).alloc (.cells #[.bool g14,.slice A14 n14 o14,.bool e14,.slice E14 m14 d14] 38) = W13 at *
     generalize wq.heap.size = k13 at *
     go_cut [83] (fun va wx=>va = .bool false /\ Below W13.heap.size W13 wx)
     case first=>
      as_aux_lemma=>
       have HT:=Hd (fun (w':World) (hb:Below W13.heap.size W13 w')=>(show w'.cell? ⟨j6,0,none⟩ = some (.bool g6) /\ w'.cell? ⟨j6,1,none⟩ = some (.slice A6 n6 o6) /\ w'.cell? ⟨j6,2,none⟩ = some (.bool e6) /\ w'.cell? ⟨j6,3,none⟩ = some (.slice E6 m6 d6) /\ w'.cell? ⟨j7,0,none⟩ = some (.bool g7) /\ w'.cell? ⟨j7,1,none⟩ = some (.slice A7 n7 o7) /\ w'.cell? ⟨j7,2,none⟩ = some (.bool e7) /\ w'.cell? ⟨j7,3,none⟩ = some (.slice E7 m7 d7) /\ w'.cell? ⟨k13,0,none⟩ = some (.bool g13) /\ w'.cell? ⟨k13,1,none⟩ = some (.slice A13 n13 o13) /\ w'.cell? ⟨(k13 + 1),0,none⟩ = some (.bool g14) /\ w'.cell? ⟨(k13 + 1),1,none⟩ = some (.slice A14 n14 o14) /\ w'.cell? ⟨(k13 + 1),2,none⟩ = some (.bool e14) /\ w'.cell? ⟨(k13 + 1),3,none⟩ = some (.slice E14 m14 d14) from ⟨(B6.out.below hb).c0,(B6.out.below hb).c1,(B6.out.below hb).c2,(B6.out.below hb).c3,(B7.out.below hb).c0,(B7.out.below hb).c1,(B7.out.below hb).c2,(B7.out.below hb).c3,(B13.out.below hb).1,(B13.out.below hb).2.1,(B14.out.below hb).c0,(B14.out.below hb).c1,(B14.out.below hb).c2,(B14.out.below hb).c3⟩))
       have hB:=(Below.refl W13.heap.size W13).drew
       replace HM:=Hd (HM.out.below hB)
       replace V6:=Hd (V6.out.below hB)
       replace V7:=Hd (V7.out.below hB)
       replace HQA:=Hd (HQA.out.below hB)
       replace V13:=Hd (V13.out.below hB)
       replace V14:=Hd (V14.out.below hB)
       refine wp_region_held_drew (S:=fun w'=>w'.cell? ⟨j6,0,none⟩ = some (.bool g6) /\ w'.cell? ⟨j6,1,none⟩ = some (.slice A6 n6 o6) /\ w'.cell? ⟨j6,2,none⟩ = some (.bool e6) /\ w'.cell? ⟨j6,3,none⟩ = some (.slice E6 m6 d6) /\ w'.cell? ⟨j7,0,none⟩ = some (.bool g7) /\ w'.cell? ⟨j7,1,none⟩ = some (.slice A7 n7 o7) /\ w'.cell? ⟨j7,2,none⟩ = some (.bool e7) /\ w'.cell? ⟨j7,3,none⟩ = some (.slice E7 m7 d7) /\ w'.cell? ⟨k13,0,none⟩ = some (.bool g13) /\ w'.cell? ⟨k13,1,none⟩ = some (.slice A13 n13 o13) /\ w'.cell? ⟨(k13 + 1),0,none⟩ = some (.bool g14) /\ w'.cell? ⟨(k13 + 1),1,none⟩ = some (.slice A14 n14 o14) /\ w'.cell? ⟨(k13 + 1),2,none⟩ = some (.bool e14) /\ w'.cell? ⟨(k13 + 1),3,none⟩ = some (.slice E14 m14 d14)) (by kernel_rfl) (HT.out _ hB) (fun hH=>?_)
       clear hH
       generalize W13.drew = wr0 at *
       refine tk 0 63 (by first | assumption | exact HT.out _ hB) ?_
       try simp only [Act.put,tA,cZ,cS]
       refine tk 1 64 (by first | assumption | exact HT.out _ hB) ?_
       try simp only [Act.put,tA,cZ,cS]
       refine tk 2 65 (by first | assumption | exact HT.out _ hB) ?_
       try simp only [Act.put,tA,cZ,cS]
       refine tk 3 66 (by first | assumption | exact HT.out _ hB) ?_
       try simp only [Act.put,tA,cZ,cS]
       refine tk 4 67 (by first | assumption | exact HT.out _ hB) ?_
       try simp only [Act.put,tA,cZ,cS]
       refine tk 7 70 (by first | assumption | exact HT.out _ hB) ?_
       try simp only [Act.put,tA,cZ,cS]
       refine tk 9 72 (by first | assumption | exact HT.out _ hB) ?_
       try simp only [Act.put,tA,cZ,cS]
       refine rd 5 (AllReadyH.cons rfl (fun K hK=>?_) AllReadyH.nil)
       (try simp only [gA]);(try simp only [gS]);(try simp only [gZ])
       go_simp
       (go_at_call 20;refine (Of_rat _ QQ 96 _ V13.out).mono ?_;rintro e wc5 ⟨⟨ga,Aa1,na1,oa,ea,Ea,ma,da1,rfl,hz⟩,hb⟩)
       replace HM:=Hd (HM.out.below hb)
       replace V6:=Hd (V6.out.below hb)
       replace V7:=Hd (V7.out.below hb)
       replace HQA:=Hd (HQA.out.below hb)
       replace V13:=Hd (V13.out.below hb)
       replace V14:=Hd (V14.out.below hb)
       replace hB:=Below.trans hB (hb.mono hB.size)
       have T1:=Hd hz
       refine hK.out _ _ (HT.out _ hB) (fun hH=>?_)
       clear hK K hH
       try simp only [Act.put,tA,cZ,cS]
       clear hb hz
       refine rd 6 (AllReadyH.cons rfl (fun K hK=>?_) AllReadyH.nil)
       (try simp only [gA]);(try simp only [gS]);(try simp only [gZ])
       go_simp
       (go_at_call 44;refine (mul_v _ _ u s QQ 1 96 _ (V7.out.mono (by decide)).v T1.out.v (by decide) (by decide)).mono ?_;rintro e wc6 ⟨⟨gb,Ab1,nb1,ob,eb,Eb,mb,db1,rfl,hz⟩,hb⟩)
       replace HM:=Hd (HM.out.below hb)
       replace V6:=Hd (V6.out.below hb)
       replace V7:=Hd (V7.out.below hb)
       replace HQA:=Hd (HQA.out.below hb)
       replace V13:=Hd (V13.out.below hb)
       replace V14:=Hd (V14.out.below hb)
       replace T1:=Hd (T1.out.below hb)
       replace hB:=Below.trans hB (hb.mono hB.size)
       clear T1
       have T2:=Hd hz
       refine hK.out _ _ (HT.out _ hB) (fun hH=>?_)
       clear hK K hH
       try simp only [Act.put,tA,cZ,cS]
       clear hb hz
       refine rd 8 (AllReadyH.cons rfl (fun K hK=>?_) AllReadyH.nil)
       (try simp only [gA]);(try simp only [gS]);(try simp only [gZ])
       go_simp
       (go_at_call 40;refine (add_v _ _ (u * QQ) (s * 1) RN RD 197 _ T2.out (V14.out.mono (by decide)).v (by decide) (by decide)).mono ?_;rintro e wc8 ⟨⟨gc,Ac1,nc1,oc,ec,Ec,mc,dc1,rfl,hz⟩,hb⟩)
       replace HM:=Hd (HM.out.below hb)
       replace V6:=Hd (V6.out.below hb)
       replace V7:=Hd (V7.out.below hb)
       replace HQA:=Hd (HQA.out.below hb)
       replace V13:=Hd (V13.out.below hb)
       replace V14:=Hd (V14.out.below hb)
       replace T2:=Hd (T2.out.below hb)
       replace hB:=Below.trans hB (hb.mono hB.size)
       clear T2
       have T3:=Hd hz
       refine hK.out _ _ (HT.out _ hB) (fun hH=>?_)
       clear hK K hH
       try simp only [Act.put,tA,cZ,cS]
       clear hb hz
       refine rd 10 (AllReadyH.cons rfl (fun K hK=>?_) AllReadyH.nil)
       (try simp only [gA]);(try simp only [gS]);(try simp only [gZ])
       go_simp
       (go_at_call 61;refine (same_v_yes _ _ (u * QQ * RD + RN * (s * 1)) (s * 1 * RD) z t 399 _ T3.out (V6.out.mono (by decide)).v (by decide) HCR.out).mono ?_;rintro e wc10 ⟨rfl,hb⟩)
       replace HM:=Hd (HM.out.below hb)
       replace V6:=Hd (V6.out.below hb)
       replace V7:=Hd (V7.out.below hb)
       replace HQA:=Hd (HQA.out.below hb)
       replace V13:=Hd (V13.out.below hb)
       replace V14:=Hd (V14.out.below hb)
       replace T3:=Hd (T3.out.below hb)
       replace hB:=Below.trans hB (hb.mono hB.size)
       clear T3
       refine hK.out _ _ (HT.out _ hB) (fun hH=>?_)
       clear hK K hH
       try simp only [Act.put,tA,cZ,cS]
       clear hb
       refine tk 11 74 (by first | assumption | exact HT.out _ hB) ?_
       try simp only [Act.put,tA,cZ,cS]
       refine tk 12 75 (by first | assumption | exact HT.out _ hB) ?_
       try simp only [Act.put,tA,cZ,cS]
       refine tk 13 76 (by first | assumption | exact HT.out _ hB) ?_
       try simp only [Act.put,tA,cZ,cS]
       refine tk 14 77 (by first | assumption | exact HT.out _ hB) ?_
       try simp only [Act.put,tA,cZ,cS]
       refine tk 16 79 (by first | assumption | exact HT.out _ hB) ?_
       try simp only [Act.put,tA,cZ,cS]
       refine rd 15 (AllReadyH.cons rfl (fun K hK=>?_) AllReadyH.nil)
       (try simp only [gA]);(try simp only [gS]);(try simp only [gZ])
       go_simp
       (go_at_call 38;refine (Abs_any _ RN RD 96 _ V14.out (by decide)).mono ?_;rintro e wc15 ⟨⟨gd,Ad1,nd1,od,ed,Ed,md,dd1,rfl,hz⟩,hb⟩)
       replace HM:=Hd (HM.out.below hb)
       replace V6:=Hd (V6.out.below hb)
       replace V7:=Hd (V7.out.below hb)
       replace HQA:=Hd (HQA.out.below hb)
       replace V13:=Hd (V13.out.below hb)
       replace V14:=Hd (V14.out.below hb)
       replace hB:=Below.trans hB (hb.mono hB.size)
       have T4:=Hd hz
       refine hK.out _ _ (HT.out _ hB) (fun hH=>?_)
       clear hK K hH
       try simp only [Act.put,tA,cZ,cS]
       clear hb hz
       refine rd 17 (AllReadyH.cons rfl (fun K hK=>?_) AllReadyH.nil)
       (try simp only [gA]);(try simp only [gS]);(try simp only [gZ])
       go_simp
       (go_at_call 38;refine (Abs_any _ u s 7 _ V7.out (by decide)).mono ?_;rintro e wc17 ⟨⟨ge,Ae1,ne1,oe,ee,Ee,me,de1,rfl,hz⟩,hb⟩)
       replace HM:=Hd (HM.out.below hb)
       replace V6:=Hd (V6.out.below hb)
       replace V7:=Hd (V7.out.below hb)
       replace HQA:=Hd (HQA.out.below hb)
       replace V13:=Hd (V13.out.below hb)
       replace V14:=Hd (V14.out.below hb)
       replace T4:=Hd (T4.out.below hb)
       replace hB:=Below.trans hB (hb.mono hB.size)
       have T5:=Hd hz
       refine hK.out _ _ (HT.out _ hB) (fun hH=>?_)
       clear hK K hH
       try simp only [Act.put,tA,cZ,cS]
       clear hb hz
       refine rd 18 (AllReadyH.cons rfl (fun K hK=>?_) AllReadyH.nil)
       (try simp only [gA]);(try simp only [gS]);(try simp only [gZ])
       go_simp
       (go_at_call 26;refine (Cmp_q _ _ (absI RN) RD (absI u) s 96 _ T4.out (T5.out.mono (by decide)) (by decide)).mono ?_;rintro e wc18 ⟨rfl,hb⟩)
       rw [cmpI_lt HOK.out.1]
       replace HM:=Hd (HM.out.below hb)
       replace V6:=Hd (V6.out.below hb)
       replace V7:=Hd (V7.out.below hb)
       replace HQA:=Hd (HQA.out.below hb)
       replace V13:=Hd (V13.out.below hb)
       replace V14:=Hd (V14.out.below hb)
       replace T4:=Hd (T4.out.below hb)
       replace T5:=Hd (T5.out.below hb)
       replace hB:=Below.trans hB (hb.mono hB.size)
       clear T4
       clear T5
       refine hK.out _ _ (HT.out _ hB) (fun hH=>?_)
       clear hK K hH
       try simp only [Act.put,tA,cZ,cS]
       clear hb
       refine tk 19 82 (by first | assumption | exact HT.out _ hB) ?_
       try simp only [Act.put,tA,cZ,cS]
       refine tk 20 83 (by first | assumption | exact HT.out _ hB) ?_
       try simp only [Act.put,tA,cZ,cS]
       refine wpAnyH_done (by kernel_rfl) ?_ _
       go_wp2_with fail
       go_meet
       exact ⟨rfl,hB⟩
     obtain ⟨rfl,hb⟩:=hcut
     obtain ⟨w15,rfl⟩ : ∃ w15,w15 = wc:=⟨wc,rfl⟩
     replace B6:=Hd (B6.out.below hb)
     replace B7:=Hd (B7.out.below hb)
     replace B13:=Hd (B13.out.below hb)
     replace B14:=Hd (B14.out.below hb)
     replace HM:=Hd (HM.out.below hb)
     replace V6:=Hd (V6.out.below hb)
     replace V7:=Hd (V7.out.below hb)
     replace HQA:=Hd (HQA.out.below hb)
     replace V13:=Hd (V13.out.below hb)
     replace V14:=Hd (V14.out.below hb)
     replace hw:=hw.trans (hb.mono hw.size)
     clear hb HCR
     obtain ⟨p0,P0,q0,r0,p1,P1,q1,r1,p2,P2,q2,r2,p3,P3,q3,r3,hF,hY⟩:=HQA.out
     have BA:=Hd hF
     have HY:=Hd hY
     clear hF hY
     obtain ⟨c130,c131,f130,f131,s13⟩:=B13.out
     obtain ⟨y0,y1,y2,y3,y4,y5,y6,y7,x0,x1,x2,x3,x4,x5,x6,x7,x8⟩:=BA.out
     go_upto_region 16 with fail
     clear y0 y1 y2 y3 y4 y5 y6 y7 x0 x1 x2 x3 x4 x5 x6 x7 x8
     clear c130 c131 f130 f131 s13
     have HQN:=Hd (show QArr ((w15.setCell ⟨k11,2,none⟩ (.bool g13)).setCell ⟨k11,3,none⟩ (.slice A13 n13 o13)) k11 2 (quQ 1 z t u s) from ⟨p0,P0,q0,r0,g13,A13,n13,o13,p2,P2,q2,r2,p3,P3,q3,r3,BA.out.put1 (.bool g13) (.slice A13 n13 o13),fun _=>by rw [HQK.out];exact V13.out.at8 BA.out.c2 BA.out.c3 (by decide) (.bool g13) (.slice A13 n13 o13)⟩)
     replace B6:=Hd (B6.out.at8 HNE.out.1.1 2 3 (.bool g13) (.slice A13 n13 o13))
     replace B7:=Hd (B7.out.at8 HNE.out.1.2 2 3 (.bool g13) (.slice A13 n13 o13))
     replace B14:=Hd (B14.out.at8 (show k11 ≠ k13 + 1 by have:=HLT.out;omega) 2 3 (.bool g13) (.slice A13 n13 o13))
     replace V6:=Hd (V6.out.at8 BA.out.c2 BA.out.c3 (by decide) (.bool g13) (.slice A13 n13 o13))
     replace V7:=Hd (V7.out.at8 BA.out.c2 BA.out.c3 (by decide) (.bool g13) (.slice A13 n13 o13))
     replace V14:=Hd (V14.out.at8 BA.out.c2 BA.out.c3 (by decide) (.bool g13) (.slice A13 n13 o13))
     replace HM:=Hd (HM.out.at8 HNE.out.2.1 2 3 (.bool g13) (.slice A13 n13 o13))
     replace hw:=(hw.setCell (p:=⟨k11,2,none⟩) (show w.heap.size <= k11 from HNE.out.2.2) (.bool g13)).setCell (p:=⟨k11,3,none⟩) (show w.heap.size <= k11 from HNE.out.2.2) (.slice A13 n13 o13)
     clear HQA BA HY B13 V13 HQK
     have HQA:=HQN
     clear HQN
     generalize (w15.setCell ⟨k11,2,none⟩ (.bool g13)).setCell ⟨k11,3,none⟩ (.slice A13 n13 o13) = wS at *
     obtain ⟨c140,c141,c142,c143,f140,f141,f142,f143,s14⟩:=B14.out
     go_wp2_with fail
     refine (Sign_any _ RN RD 96 _ V14.out).mono ?_
     rintro e w16 ⟨rfl,hb⟩
     clear c140 c141 c142 c143 f140 f141 f142 f143 s14
     replace B6:=Hd (B6.out.below hb)
     replace B7:=Hd (B7.out.below hb)
     replace B14:=Hd (B14.out.below hb)
     replace HM:=Hd (HM.out.below hb)
     replace V6:=Hd (V6.out.below hb)
     replace V7:=Hd (V7.out.below hb)
     replace HQA:=Hd (HQA.out.below hb)
     replace V14:=Hd (V14.out.below hb)
     replace hw:=hw.trans (hb.mono hw.size)
     clear hb
     obtain ⟨sg,hsg⟩ : ∃ sg,cmpI RN 0 = sg:=⟨_,rfl⟩
     have HSG:=Hd hsg
     rw [hsg]
     clear hsg
     by_cases hs0:sg = 0
     ·as_aux_lemma=>
       have HS0:=Hd (HSG.out.trans hs0)
       rw [hs0]
       clear hs0 HSG
       obtain ⟨c70,c71,c72,c73,f70,f71,f72,f73,s7⟩:=B7.out
       go_wp2_with fail
       refine (Sign_any _ u s 7 _ V7.out).mono ?_
       rintro e w17 ⟨rfl,hb⟩
       clear c70 c71 c72 c73 f70 f71 f72 f73 s7
       replace B6:=Hd (B6.out.below hb)
       replace B7:=Hd (B7.out.below hb)
       replace B14:=Hd (B14.out.below hb)
       replace HM:=Hd (HM.out.below hb)
       replace V6:=Hd (V6.out.below hb)
       replace V7:=Hd (V7.out.below hb)
       replace HQA:=Hd (HQA.out.below hb)
       replace V14:=Hd (V14.out.below hb)
       replace hw:=hw.trans (hb.mono hw.size)
       clear hb
       have hsb3:cmpI u 0 = 1 \/ cmpI u 0 = -1:=by rcases Int.lt_trichotomy u 0 with h | h | h;exact .inr (cmpI_lt h);exact absurd h HU.out;exact .inl (cmpI_gt h)
       have hb0:(0 == cmpI u 0) = false:=by rw [beq_eq_false_iff_ne];omega
       clear hsb3
       go_upto_region 18 with fail
       have HT:=Hd (fun (w':World) (hb:Below w17.heap.size w17 w')=>(show w'.cell? ⟨j7,0,none⟩ = some (.bool g7) /\ w'.cell? ⟨j7,1,none⟩ = some (.slice A7 n7 o7) /\ w'.cell? ⟨j7,2,none⟩ = some (.bool e7) /\ w'.cell? ⟨j7,3,none⟩ = some (.slice E7 m7 d7) /\ w'.cell? ⟨(k13 + 1),0,none⟩ = some (.bool g14) /\ w'.cell? ⟨(k13 + 1),1,none⟩ = some (.slice A14 n14 o14) /\ w'.cell? ⟨(k13 + 1),2,none⟩ = some (.bool e14) /\ w'.cell? ⟨(k13 + 1),3,none⟩ = some (.slice E14 m14 d14) from ⟨(B7.out.below hb).c0,(B7.out.below hb).c1,(B7.out.below hb).c2,(B7.out.below hb).c3,(B14.out.below hb).c0,(B14.out.below hb).c1,(B14.out.below hb).c2,(B14.out.below hb).c3⟩))
       have hB:=(Below.refl w17.heap.size w17).drew
       replace HM:=Hd (HM.out.below hB)
       replace V6:=Hd (V6.out.below hB)
       replace V7:=Hd (V7.out.below hB)
       replace HQA:=Hd (HQA.out.below hB)
       replace V14:=Hd (V14.out.below hB)
       refine wp_region_held_drew (S:=fun w'=>w'.cell? ⟨j7,0,none⟩ = some (.bool g7) /\ w'.cell? ⟨j7,1,none⟩ = some (.slice A7 n7 o7) /\ w'.cell? ⟨j7,2,none⟩ = some (.bool e7) /\ w'.cell? ⟨j7,3,none⟩ = some (.slice E7 m7 d7) /\ w'.cell? ⟨(k13 + 1),0,none⟩ = some (.bool g14) /\ w'.cell? ⟨(k13 + 1),1,none⟩ = some (.slice A14 n14 o14) /\ w'.cell? ⟨(k13 + 1),2,none⟩ = some (.bool e14) /\ w'.cell? ⟨(k13 + 1),3,none⟩ = some (.slice E14 m14 d14)) (by kernel_rfl) (HT.out _ hB) (fun hH=>?_)
       clear hH
       generalize w17.drew = wr0 at *
       refine tk 0 118 (by first | assumption | exact HT.out _ hB) ?_
       try simp only [Act.put,tA,cZ,cS]
       refine tk 1 119 (by first | assumption | exact HT.out _ hB) ?_
       try simp only [Act.put,tA,cZ,cS]
       refine tk 2 120 (by first | assumption | exact HT.out _ hB) ?_
       try simp only [Act.put,tA,cZ,cS]
       refine wpAnyH_taken (i:=3) (d:=some 121) (v:=undef) rfl rfl (by kernel_rfl) (by kernel_rfl) (by kernel_rfl) (fun _ _ _ h=>h) (Or.inr ⟨by rfl,rfl⟩) (by first | assumption | exact HT.out _ hB) ?_
       try simp only [Act.put,tA,cZ,cS]
       refine tk 4 122 (by first | assumption | exact HT.out _ hB) ?_
       try simp only [Act.put,tA,cZ,cS]
       refine tk 5 123 (by first | assumption | exact HT.out _ hB) ?_
       try simp only [Act.put,tA,cZ,cS]
       refine tk 6 124 (by first | assumption | exact HT.out _ hB) ?_
       try simp only [Act.put,tA,cZ,cS]
       refine tk 7 125 (by first | assumption | exact HT.out _ hB) ?_
       try simp only [Act.put,tA,cZ,cS]
       refine tk 8 126 (by first | assumption | exact HT.out _ hB) ?_
       try simp only [Act.put,tA,cZ,cS]
       refine wpAnyH_taken (i:=9) (d:=some 127) (v:=undef) rfl rfl (by kernel_rfl) (by kernel_rfl) (by kernel_rfl) (fun _ _ _ h=>h) (Or.inr ⟨by rfl,rfl⟩) (by first | assumption | exact HT.out _ hB) ?_
       try simp only [Act.put,tA,cZ,cS]
       refine wpAnyH_taken (i:=10) (d:=some 128) (v:=undef) rfl rfl (by kernel_rfl) (by kernel_rfl) (by kernel_rfl) (fun _ _ _ h=>h) (Or.inr ⟨by rfl,rfl⟩) (by first | assumption | exact HT.out _ hB) ?_
       try simp only [Act.put,tA,cZ,cS]
       refine wpAnyH_taken (i:=13) (d:=some 131) (v:=undef) rfl rfl (by kernel_rfl) (by kernel_rfl) (by kernel_rfl) (fun _ _ _ h=>h) (Or.inr ⟨by rfl,rfl⟩) (by first | assumption | exact HT.out _ hB) ?_
       try simp only [Act.put,tA,cZ,cS]
       refine wpAnyH_taken (i:=11) (d:=some 129) (v:=undef) rfl rfl (by kernel_rfl) (by kernel_rfl) (by kernel_rfl) (fun _ _ _ h=>h) (Or.inr ⟨by rfl,rfl⟩) (by first | assumption | exact HT.out _ hB) ?_
       try simp only [Act.put,tA,cZ,cS]
       refine wpAnyH_taken (i:=12) (d:=some 130) (v:=undef) rfl rfl (by kernel_rfl) (by kernel_rfl) (by kernel_rfl) (fun _ _ _ h=>h) (Or.inr ⟨by rfl,rfl⟩) (by first | assumption | exact HT.out _ hB) ?_
       try simp only [Act.put,tA,cZ,cS]
       refine wpAnyH_taken (i:=14) (d:=some 132) (v:=undef) rfl rfl (by kernel_rfl) (by kernel_rfl) (by kernel_rfl) (fun _ _ _ h=>h) (Or.inr ⟨by rfl,rfl⟩) (by first | assumption | exact HT.out _ hB) ?_
       try simp only [Act.put,tA,cZ,cS]
       refine wpAnyH_taken (i:=15) (d:=some 133) (v:=undef) rfl rfl (by kernel_rfl) (by kernel_rfl) (by kernel_rfl) (fun _ _ _ h=>h) (Or.inr ⟨by rfl,rfl⟩) (by first | assumption | exact HT.out _ hB) ?_
       try simp only [Act.put,tA,cZ,cS]
       refine wpAnyH_taken (i:=16) (d:=some 134) (v:=undef) rfl rfl (by kernel_rfl) (by kernel_rfl) (by kernel_rfl) (fun _ _ _ h=>h) (Or.inr ⟨by rfl,rfl⟩) (by first | assumption | exact HT.out _ hB) ?_
       try simp only [Act.put,tA,cZ,cS]
       refine tk 17 135 (by first | assumption | exact HT.out _ hB) ?_
       try simp only [Act.put,tA,cZ,cS]
       refine tk 18 136 (by first | assumption | exact HT.out _ hB) ?_
       try simp only [Act.put,tA,cZ,cS]
       refine wpAnyH_done (by kernel_rfl) ?_ _
       replace B6:=Hd (B6.out.below hB)
       replace B7:=Hd (B7.out.below hB)
       replace B14:=Hd (B14.out.below hB)
       replace hw:=hw.trans (hB.mono hw.size)
       go_wp2_with fail
       exact ⟨⟨2,rfl,by decide,by decide,B6,B7,V6,V7,HM,HQA,Hd hw⟩,by show (4 - (2:Int)).toNat < (4 - (1:Int)).toNat;decide⟩
     ·as_aux_lemma=>
       have HSN:=Hd hs0
       have hsb:(sg == 0) = false:=by simpa using hs0
       have hsb2:(sg != 0) = true:=by simp [bne,hsb]
       have HRN:=Hd (show RN ≠ 0 from fun e0=>hs0 (by rw [<- HSG.out,cmpI_eq e0]))
       clear hs0
       obtain ⟨c70,c71,c72,c73,f70,f71,f72,f73,s7⟩:=B7.out
       go_wp2_with fail
       refine (Sign_any _ u s 7 _ V7.out).mono ?_
       rintro e w17 ⟨rfl,hb⟩
       clear c70 c71 c72 c73 f70 f71 f72 f73 s7
       replace B6:=Hd (B6.out.below hb)
       replace B7:=Hd (B7.out.below hb)
       replace B14:=Hd (B14.out.below hb)
       replace HM:=Hd (HM.out.below hb)
       replace V6:=Hd (V6.out.below hb)
       replace V7:=Hd (V7.out.below hb)
       replace HQA:=Hd (HQA.out.below hb)
       replace V14:=Hd (V14.out.below hb)
       replace hw:=hw.trans (hb.mono hw.size)
       clear hb
       have hsb3:cmpI u 0 = 1 \/ cmpI u 0 = -1:=by rcases Int.lt_trichotomy u 0 with h | h | h;exact .inr (cmpI_lt h);exact absurd h HU.out;exact .inl (cmpI_gt h)
       have hb0:(sg == cmpI u 0) = false:=by rw [beq_eq_false_iff_ne];intro e0;have h9:=HOK.out.2.2.1 rfl HRN.out;rw [HSG.out] at h9;omega
       clear hsb3
       go_upto_region 18 with fail
       have HT:=Hd (fun (w':World) (hb:Below w17.heap.size w17 w')=>(show w'.cell? ⟨j7,0,none⟩ = some (.bool g7) /\ w'.cell? ⟨j7,1,none⟩ = some (.slice A7 n7 o7) /\ w'.cell? ⟨j7,2,none⟩ = some (.bool e7) /\ w'.cell? ⟨j7,3,none⟩ = some (.slice E7 m7 d7) /\ w'.cell? ⟨(k13 + 1),0,none⟩ = some (.bool g14) /\ w'.cell? ⟨(k13 + 1),1,none⟩ = some (.slice A14 n14 o14) /\ w'.cell? ⟨(k13 + 1),2,none⟩ = some (.bool e14) /\ w'.cell? ⟨(k13 + 1),3,none⟩ = some (.slice E14 m14 d14) from ⟨(B7.out.below hb).c0,(B7.out.below hb).c1,(B7.out.below hb).c2,(B7.out.below hb).c3,(B14.out.below hb).c0,(B14.out.below hb).c1,(B14.out.below hb).c2,(B14.out.below hb).c3⟩))
       have hB:=(Below.refl w17.heap.size w17).drew
       replace HM:=Hd (HM.out.below hB)
       replace V6:=Hd (V6.out.below hB)
       replace V7:=Hd (V7.out.below hB)
       replace HQA:=Hd (HQA.out.below hB)
       replace V14:=Hd (V14.out.below hB)
       refine wp_region_held_drew (S:=fun w'=>w'.cell? ⟨j7,0,none⟩ = some (.bool g7) /\ w'.cell? ⟨j7,1,none⟩ = some (.slice A7 n7 o7) /\ w'.cell? ⟨j7,2,none⟩ = some (.bool e7) /\ w'.cell? ⟨j7,3,none⟩ = some (.slice E7 m7 d7) /\ w'.cell? ⟨(k13 + 1),0,none⟩ = some (.bool g14) /\ w'.cell? ⟨(k13 + 1),1,none⟩ = some (.slice A14 n14 o14) /\ w'.cell? ⟨(k13 + 1),2,none⟩ = some (.bool e14) /\ w'.cell? ⟨(k13 + 1),3,none⟩ = some (.slice E14 m14 d14)) (by kernel_rfl) (HT.out _ hB) (fun hH=>?_)
       clear hH
       generalize w17.drew = wr0 at *
       refine tk 0 118 (by first | assumption | exact HT.out _ hB) ?_
       try simp only [Act.put,tA,cZ,cS]
       refine tk 1 119 (by first | assumption | exact HT.out _ hB) ?_
       try simp only [Act.put,tA,cZ,cS]
       refine tk 2 120 (by first | assumption | exact HT.out _ hB) ?_
       try simp only [Act.put,tA,cZ,cS]
       refine tk 3 121 (by first | assumption | exact HT.out _ hB) ?_
       try simp only [Act.put,tA,cZ,cS]
       refine tk 4 122 (by first | assumption | exact HT.out _ hB) ?_
       try simp only [Act.put,tA,cZ,cS]
       refine tk 5 123 (by first | assumption | exact HT.out _ hB) ?_
       try simp only [Act.put,tA,cZ,cS]
       refine tk 6 124 (by first | assumption | exact HT.out _ hB) ?_
       try simp only [Act.put,tA,cZ,cS]
       refine tk 7 125 (by first | assumption | exact HT.out _ hB) ?_
       try simp only [Act.put,tA,cZ,cS]
       refine tk 8 126 (by first | assumption | exact HT.out _ hB) ?_
       try simp only [Act.put,tA,cZ,cS]
       refine wpAnyH_taken (i:=9) (d:=some 127) (v:=undef) rfl rfl (by kernel_rfl) (by kernel_rfl) (by kernel_rfl) (fun _ _ _ h=>h) (Or.inr ⟨by rfl,rfl⟩) (by first | assumption | exact HT.out _ hB) ?_
       try simp only [Act.put,tA,cZ,cS]
       refine wpAnyH_taken (i:=10) (d:=some 128) (v:=undef) rfl rfl (by kernel_rfl) (by kernel_rfl) (by kernel_rfl) (fun _ _ _ h=>h) (Or.inr ⟨by rfl,rfl⟩) (by first | assumption | exact HT.out _ hB) ?_
       try simp only [Act.put,tA,cZ,cS]
       refine wpAnyH_taken (i:=13) (d:=some 131) (v:=undef) rfl rfl (by kernel_rfl) (by kernel_rfl) (by kernel_rfl) (fun _ _ _ h=>h) (Or.inr ⟨by rfl,rfl⟩) (by first | assumption | exact HT.out _ hB) ?_
       try simp only [Act.put,tA,cZ,cS]
       refine wpAnyH_taken (i:=11) (d:=some 129) (v:=undef) rfl rfl (by kernel_rfl) (by kernel_rfl) (by kernel_rfl) (fun _ _ _ h=>h) (Or.inr ⟨by rfl,rfl⟩) (by first | assumption | exact HT.out _ hB) ?_
       try simp only [Act.put,tA,cZ,cS]
       refine wpAnyH_taken (i:=12) (d:=some 130) (v:=undef) rfl rfl (by kernel_rfl) (by kernel_rfl) (by kernel_rfl) (fun _ _ _ h=>h) (Or.inr ⟨by rfl,rfl⟩) (by first | assumption | exact HT.out _ hB) ?_
       try simp only [Act.put,tA,cZ,cS]
       refine wpAnyH_taken (i:=14) (d:=some 132) (v:=undef) rfl rfl (by kernel_rfl) (by kernel_rfl) (by kernel_rfl) (fun _ _ _ h=>h) (Or.inr ⟨by rfl,rfl⟩) (by first | assumption | exact HT.out _ hB) ?_
       try simp only [Act.put,tA,cZ,cS]
       refine wpAnyH_taken (i:=15) (d:=some 133) (v:=undef) rfl rfl (by kernel_rfl) (by kernel_rfl) (by kernel_rfl) (fun _ _ _ h=>h) (Or.inr ⟨by rfl,rfl⟩) (by first | assumption | exact HT.out _ hB) ?_
       try simp only [Act.put,tA,cZ,cS]
       refine wpAnyH_taken (i:=16) (d:=some 134) (v:=undef) rfl rfl (by kernel_rfl) (by kernel_rfl) (by kernel_rfl) (fun _ _ _ h=>h) (Or.inr ⟨by rfl,rfl⟩) (by first | assumption | exact HT.out _ hB) ?_
       try simp only [Act.put,tA,cZ,cS]
       refine tk 17 135 (by first | assumption | exact HT.out _ hB) ?_
       try simp only [Act.put,tA,cZ,cS]
       refine tk 18 136 (by first | assumption | exact HT.out _ hB) ?_
       try simp only [Act.put,tA,cZ,cS]
       refine wpAnyH_done (by kernel_rfl) ?_ _
       replace B6:=Hd (B6.out.below hB)
       replace B7:=Hd (B7.out.below hB)
       replace B14:=Hd (B14.out.below hB)
       replace hw:=hw.trans (hB.mono hw.size)
       go_wp2_with fail
       exact ⟨⟨2,rfl,by decide,by decide,B6,B7,V6,V7,HM,HQA,Hd hw⟩,by show (4 - (2:Int)).toNat < (4 - (1:Int)).toNat;decide⟩
   ·as_aux_lemma=>
     clear hk0 hk4
     have HE:=Hd (show quE 2 u = 0 from (if_neg (by decide)).trans (if_neg HU.out))
     go_upto_region 12 with fail
     obtain ⟨c60,c61,c62,c63,f60,f61,f62,f63,s6⟩:=B6.out
     obtain ⟨c70,c71,c72,c73,f70,f71,f72,f73,s7⟩:=B7.out
     go_wp2_with fail
     refine (Quotient_q 2 _ _ z t u s 7 _ V6.out V7.out (by decide) (by decide)).mono ?_
     rintro e wq ⟨⟨g13,A13,n13,o13,g14,A14,n14,o14,e14,E14,m14,d14,rfl,hz,hq⟩,hb⟩
     rw [HE.out]
     have HOK:=Hd (round_ok (k:=2) (z:=z) HTS.out.1 HTS.out.2 HU.out (by decide) (by decide))
     obtain ⟨hcr,hRD⟩:=qu_cross (k:=2) (z:=z) HTS.out.1 HTS.out.2 HE.out
     obtain ⟨QQ,h1⟩ : ∃ QQ,quQ 2 z t u s = QQ:=⟨_,rfl⟩
     obtain ⟨RN,h2⟩ : ∃ RN,quN 2 z t u s = RN:=⟨_,rfl⟩
     obtain ⟨RD,h3⟩ : ∃ RD,quD 2 z t u s = RD:=⟨_,rfl⟩
     rw [h1] at hz
     rw [h2,h3] at hq HOK
     rw [h1,h2,h3] at hcr
     rw [h3] at hRD
     have HQK:=Hd h1
     have HCR:=Hd (rem_back hcr)
     have HRD:=Hd hRD
     clear h1 h2 h3 hcr hRD
     clear c60 c61 c62 c63 f60 f61 f62 f63 s6
     clear c70 c71 c72 c73 f70 f71 f72 f73 s7
     replace B6:=Hd (B6.out.below hb)
     replace B7:=Hd (B7.out.below hb)
     replace HM:=Hd (HM.out.below hb)
     replace V6:=Hd (V6.out.below hb)
     replace V7:=Hd (V7.out.below hb)
     replace HQA:=Hd (HQA.out.below hb)
     replace hw:=hw.trans (hb.mono hw.size)
     clear hb
     have HQB:=HQA
     have hX:=below_two wq (.cells #[.bool g13,.slice A13 n13 o13] 31) (.cells #[.bool g14,.slice A14 n14 o14,.bool e14,.slice E14 m14 d14] 38)
     replace B6:=Hd (B6.out.below hX)
     replace B7:=Hd (B7.out.below hX)
     replace HM:=Hd (HM.out.below hX)
     replace V6:=Hd (V6.out.below hX)
     replace V7:=Hd (V7.out.below hX)
     replace HQA:=Hd (HQA.out.below hX)
     replace hw:=hw.trans (hX.mono hw.size)
     have B13:=Hd (Fx.newA wq (.bool g13) (.slice A13 n13 o13) 31 (.cells #[.bool g14,.slice A14 n14 o14,.bool e14,.slice E14 m14 d14] 38))
     have B14:=Hd (Fx4.new2 wq (.bool g14) (.slice A14 n14 o14) (.bool e14) (.slice E14 m14 d14) 38 #[.bool g13,.slice A13 n13 o13] 31)
     have V13:=Hd (hz.below hX)
     have V14:=Hd (hq.below hX)
     clear hX hz hq HE
     have HLT:=Hd (show k11 < wq.heap.size from by obtain ⟨p0,P0,q0,r0,p1,P1,q1,r1,p2,P2,q2,r2,p3,P3,q3,r3,hF,-⟩:=HQB.out;exact hF.lt)
     clear HQB
     go_upto_region 13 with fail
     generalize (wq.alloc (.cells #[.bool g13,.slice A13 n13 o13] 31)).alloc (.cells #[.bool g14,.slice A14 n14 o14,.bool e14,.slice E14 m14 d14] 38) = W13 at *
     generalize wq.heap.size = k13 at *
     go_cut [83] (fun va wx=>va = .bool false /\ Below W13.heap.size W13 wx)
     case first=>
      as_aux_lemma=>
       have HT:=Hd (fun (w':World) (hb:Below W13.heap.size W13 w')=>(show w'.cell? ⟨j6,0,none⟩ = some (.bool g6) /\ w'.cell? ⟨j6,1,none⟩ = some (.slice A6 n6 o6) /\ w'.cell? ⟨j6,2,none⟩ = some (.bool e6) /\ w'.cell? ⟨j6,3,none⟩ = some (.slice E6 m6 d6) /\ w'.cell? ⟨j7,0,none⟩ = some (.bool g7) /\ w'.cell? ⟨j7,1,none⟩ = some (.slice A7 n7 o7) /\ w'.cell? ⟨j7,2,none⟩ = some (.bool e7) /\ w'.cell? ⟨j7,3,none⟩ = some (.slice E7 m7 d7) /\ w'.cell? ⟨k13,0,none⟩ = some (.bool g13) /\ w'.cell? ⟨k13,1,none⟩ = some (.slice A13 n13 o13) /\ w'.cell? ⟨(k13 + 1),0,none⟩ = some (.bool g14) /\ w'.cell? ⟨(k13 + 1),1,none⟩ = some (.slice A14 n14 o14) /\ w'.cell? ⟨(k13 + 1),2,none⟩ = some (.bool e14) /\ w'.cell? ⟨(k13 + 1),3,none⟩ = some (.slice E14 m14 d14) from ⟨(B6.out.below hb).c0,(B6.out.below hb).c1,(B6.out.below hb).c2,(B6.out.below hb).c3,(B7.out.below hb).c0,(B7.out.below hb).c1,(B7.out.below hb).c2,(B7.out.below hb).c3,(B13.out.below hb).1,(B13.out.below hb).2.1,(B14.out.below hb).c0,(B14.out.below hb).c1,(B14.out.below hb).c2,(B14.out.below hb).c3⟩))
       have hB:=(Below.refl W13.heap.size W13).drew
       replace HM:=Hd (HM.out.below hB)
       replace V6:=Hd (V6.out.below hB)
       replace V7:=Hd (V7.out.below hB)
       replace HQA:=Hd (HQA.out.below hB)
       replace V13:=Hd (V13.out.below hB)
       replace V14:=Hd (V14.out.below hB)
       refine wp_region_held_drew (S:=fun w'=>w'.cell? ⟨j6,0,none⟩ = some (.bool g6) /\ w'.cell? ⟨j6,1,none⟩ = some (.slice A6 n6 o6) /\ w'.cell? ⟨j6,2,none⟩ = some (.bool e6) /\ w'.cell? ⟨j6,3,none⟩ = some (.slice E6 m6 d6) /\ w'.cell? ⟨j7,0,none⟩ = some (.bool g7) /\ w'.cell? ⟨j7,1,none⟩ = some (.slice A7 n7 o7) /\ w'.cell? ⟨j7,2,none⟩ = some (.bool e7) /\ w'.cell? ⟨j7,3,none⟩ = some (.slice E7 m7 d7) /\ w'.cell? ⟨k13,0,none⟩ = some (.bool g13) /\ w'.cell? ⟨k13,1,none⟩ = some (.slice A13 n13 o13) /\ w'.cell? ⟨(k13 + 1),0,none⟩ = some (.bool g14) /\ w'.cell? ⟨(k13 + 1),1,none⟩ = some (.slice A14 n14 o14) /\ w'.cell? ⟨(k13 + 1),2,none⟩ = some (.bool e14) /\ w'.cell? ⟨(k13 + 1),3,none⟩ = some (.slice E14 m14 d14)) (by kernel_rfl) (HT.out _ hB) (fun hH=>?_)
       clear hH
       generalize W13.drew = wr0 at *
       refine tk 0 63 (by first | assumption | exact HT.out _ hB) ?_
       try simp only [Act.put,tA,cZ,cS]
       refine tk 1 64 (by first | assumption | exact HT.out _ hB) ?_
       try simp only [Act.put,tA,cZ,cS]
       refine tk 2 65 (by first | assumption | exact HT.out _ hB) ?_
       try simp only [Act.put,tA,cZ,cS]
       refine tk 3 66 (by first | assumption | exact HT.out _ hB) ?_
       try simp only [Act.put,tA,cZ,cS]
       refine tk 4 67 (by first | assumption | exact HT.out _ hB) ?_
       try simp only [Act.put,tA,cZ,cS]
       refine tk 7 70 (by first | assumption | exact HT.out _ hB) ?_
       try simp only [Act.put,tA,cZ,cS]
       refine tk 9 72 (by first | assumption | exact HT.out _ hB) ?_
       try simp only [Act.put,tA,cZ,cS]
       refine rd 5 (AllReadyH.cons rfl (fun K hK=>?_) AllReadyH.nil)
       (try simp only [gA]);(try simp only [gS]);(try simp only [gZ])
       go_simp
       (go_at_call 20;refine (Of_rat _ QQ 96 _ V13.out).mono ?_;rintro e wc5 ⟨⟨ga,Aa1,na1,oa,ea,Ea,ma,da1,rfl,hz⟩,hb⟩)
       replace HM:=Hd (HM.out.below hb)
       replace V6:=Hd (V6.out.below hb)
       replace V7:=Hd (V7.out.below hb)
       replace HQA:=Hd (HQA.out.below hb)
       replace V13:=Hd (V13.out.below hb)
       replace V14:=Hd (V14.out.below hb)
       replace hB:=Below.trans hB (hb.mono hB.size)
       have T1:=Hd hz
       refine hK.out _ _ (HT.out _ hB) (fun hH=>?_)
       clear hK K hH
       try simp only [Act.put,tA,cZ,cS]
       clear hb hz
       refine rd 6 (AllReadyH.cons rfl (fun K hK=>?_) AllReadyH.nil)
       (try simp only [gA]);(try simp only [gS]);(try simp only [gZ])
       go_simp
       (go_at_call 44;refine (mul_v _ _ u s QQ 1 96 _ (V7.out.mono (by decide)).v T1.out.v (by decide) (by decide)).mono ?_;rintro e wc6 ⟨⟨gb,Ab1,nb1,ob,eb,Eb,mb,db1,rfl,hz⟩,hb⟩)
       replace HM:=Hd (HM.out.below hb)
       replace V6:=Hd (V6.out.below hb)
       replace V7:=Hd (V7.out.below hb)
       replace HQA:=Hd (HQA.out.below hb)
       replace V13:=Hd (V13.out.below hb)
       replace V14:=Hd (V14.out.below hb)
       replace T1:=Hd (T1.out.below hb)
       replace hB:=Below.trans hB (hb.mono hB.size)
       clear T1
       have T2:=Hd hz
       refine hK.out _ _ (HT.out _ hB) (fun hH=>?_)
       clear hK K hH
       try simp only [Act.put,tA,cZ,cS]
       clear hb hz
       refine rd 8 (AllReadyH.cons rfl (fun K hK=>?_) AllReadyH.nil)
       (try simp only [gA]);(try simp only [gS]);(try simp only [gZ])
       go_simp
       (go_at_call 40;refine (add_v _ _ (u * QQ) (s * 1) RN RD 197 _ T2.out (V14.out.mono (by decide)).v (by decide) (by decide)).mono ?_;rintro e wc8 ⟨⟨gc,Ac1,nc1,oc,ec,Ec,mc,dc1,rfl,hz⟩,hb⟩)
       replace HM:=Hd (HM.out.below hb)
       replace V6:=Hd (V6.out.below hb)
       replace V7:=Hd (V7.out.below hb)
       replace HQA:=Hd (HQA.out.below hb)
       replace V13:=Hd (V13.out.below hb)
       replace V14:=Hd (V14.out.below hb)
       replace T2:=Hd (T2.out.below hb)
       replace hB:=Below.trans hB (hb.mono hB.size)
       clear T2
       have T3:=Hd hz
       refine hK.out _ _ (HT.out _ hB) (fun hH=>?_)
       clear hK K hH
       try simp only [Act.put,tA,cZ,cS]
       clear hb hz
       refine rd 10 (AllReadyH.cons rfl (fun K hK=>?_) AllReadyH.nil)
       (try simp only [gA]);(try simp only [gS]);(try simp only [gZ])
       go_simp
       (go_at_call 61;refine (same_v_yes _ _ (u * QQ * RD + RN * (s * 1)) (s * 1 * RD) z t 399 _ T3.out (V6.out.mono (by decide)).v (by decide) HCR.out).mono ?_;rintro e wc10 ⟨rfl,hb⟩)
       replace HM:=Hd (HM.out.below hb)
       replace V6:=Hd (V6.out.below hb)
       replace V7:=Hd (V7.out.below hb)
       replace HQA:=Hd (HQA.out.below hb)
       replace V13:=Hd (V13.out.below hb)
       replace V14:=Hd (V14.out.below hb)
       replace T3:=Hd (T3.out.below hb)
       replace hB:=Below.trans hB (hb.mono hB.size)
       clear T3
       refine hK.out _ _ (HT.out _ hB) (fun hH=>?_)
       clear hK K hH
       try simp only [Act.put,tA,cZ,cS]
       clear hb
       refine tk 11 74 (by first | assumption | exact HT.out _ hB) ?_
       try simp only [Act.put,tA,cZ,cS]
       refine tk 12 75 (by first | assumption | exact HT.out _ hB) ?_
       try simp only [Act.put,tA,cZ,cS]
       refine tk 13 76 (by first | assumption | exact HT.out _ hB) ?_
       try simp only [Act.put,tA,cZ,cS]
       refine tk 14 77 (by first | assumption | exact HT.out _ hB) ?_
       try simp only [Act.put,tA,cZ,cS]
       refine tk 16 79 (by first | assumption | exact HT.out _ hB) ?_
       try simp only [Act.put,tA,cZ,cS]
       refine rd 15 (AllReadyH.cons rfl (fun K hK=>?_) AllReadyH.nil)
       (try simp only [gA]);(try simp only [gS]);(try simp only [gZ])
       go_simp
       (go_at_call 38;refine (Abs_any _ RN RD 96 _ V14.out (by decide)).mono ?_;rintro e wc15 ⟨⟨gd,Ad1,nd1,od,ed,Ed,md,dd1,rfl,hz⟩,hb⟩)
       replace HM:=Hd (HM.out.below hb)
       replace V6:=Hd (V6.out.below hb)
       replace V7:=Hd (V7.out.below hb)
       replace HQA:=Hd (HQA.out.below hb)
       replace V13:=Hd (V13.out.below hb)
       replace V14:=Hd (V14.out.below hb)
       replace hB:=Below.trans hB (hb.mono hB.size)
       have T4:=Hd hz
       refine hK.out _ _ (HT.out _ hB) (fun hH=>?_)
       clear hK K hH
       try simp only [Act.put,tA,cZ,cS]
       clear hb hz
       refine rd 17 (AllReadyH.cons rfl (fun K hK=>?_) AllReadyH.nil)
       (try simp only [gA]);(try simp only [gS]);(try simp only [gZ])
       go_simp
       (go_at_call 38;refine (Abs_any _ u s 7 _ V7.out (by decide)).mono ?_;rintro e wc17 ⟨⟨ge,Ae1,ne1,oe,ee,Ee,me,de1,rfl,hz⟩,hb⟩)
       replace HM:=Hd (HM.out.below hb)
       replace V6:=Hd (V6.out.below hb)
       replace V7:=Hd (V7.out.below hb)
       replace HQA:=Hd (HQA.out.below hb)
       replace V13:=Hd (V13.out.below hb)
       replace V14:=Hd (V14.out.below hb)
       replace T4:=Hd (T4.out.below hb)
       replace hB:=Below.trans hB (hb.mono hB.size)
       have T5:=Hd hz
       refine hK.out _ _ (HT.out _ hB) (fun hH=>?_)
       clear hK K hH
       try simp only [Act.put,tA,cZ,cS]
       clear hb hz
       refine rd 18 (AllReadyH.cons rfl (fun K hK=>?_) AllReadyH.nil)
       (try simp only [gA]);(try simp only [gS]);(try simp only [gZ])
       go_simp
       (go_at_call 26;refine (Cmp_q _ _ (absI RN) RD (absI u) s 96 _ T4.out (T5.out.mono (by decide)) (by decide)).mono ?_;rintro e wc18 ⟨rfl,hb⟩)
       rw [cmpI_lt HOK.out.1]
       replace HM:=Hd (HM.out.below hb)
       replace V6:=Hd (V6.out.below hb)
       replace V7:=Hd (V7.out.below hb)
       replace HQA:=Hd (HQA.out.below hb)
       replace V13:=Hd (V13.out.below hb)
       replace V14:=Hd (V14.out.below hb)
       replace T4:=Hd (T4.out.below hb)
       replace T5:=Hd (T5.out.below hb)
       replace hB:=Below.trans hB (hb.mono hB.size)
       clear T4
       clear T5
       refine hK.out _ _ (HT.out _ hB) (fun hH=>?_)
       clear hK K hH
       try simp only [Act.put,tA,cZ,cS]
       clear hb
       refine tk 19 82 (by first | assumption | exact HT.out _ hB) ?_
       try simp only [Act.put,tA,cZ,cS]
       refine tk 20 83 (by first | assumption | exact HT.out _ hB) ?_
       try simp only [Act.put,tA,cZ,cS]
       refine wpAnyH_done (by kernel_rfl) ?_ _
       go_wp2_with fail
       go_meet
       exact ⟨rfl,hB⟩
     obtain ⟨rfl,hb⟩:=hcut
     obtain ⟨w15,rfl⟩ : ∃ w15,w15 = wc:=⟨wc,rfl⟩
     replace B6:=Hd (B6.out.below hb)
     replace B7:=Hd (B7.out.below hb)
     replace B13:=Hd (B13.out.below hb)
     replace B14:=Hd (B14.out.below hb)
     replace HM:=Hd (HM.out.below hb)
     replace V6:=Hd (V6.out.below hb)
     replace V7:=Hd (V7.out.below hb)
     replace HQA:=Hd (HQA.out.below hb)
     replace V13:=Hd (V13.out.below hb)
     replace V14:=Hd (V14.out.below hb)
     replace hw:=hw.trans (hb.mono hw.size)
     clear hb HCR
     obtain ⟨p0,P0,q0,r0,p1,P1,q1,r1,p2,P2,q2,r2,p3,P3,q3,r3,hF,hY⟩:=HQA.out
     have BA:=Hd hF
     have HY:=Hd hY
     clear hF hY
     obtain ⟨c130,c131,f130,f131,s13⟩:=B13.out
     obtain ⟨y0,y1,y2,y3,y4,y5,y6,y7,x0,x1,x2,x3,x4,x5,x6,x7,x8⟩:=BA.out
     go_upto_region 16 with fail
     clear y0 y1 y2 y3 y4 y5 y6 y7 x0 x1 x2 x3 x4 x5 x6 x7 x8
     clear c130 c131 f130 f131 s13
     have HQN:=Hd (show QArr ((w15.setCell ⟨k11,4,none⟩ (.bool g13)).setCell ⟨k11,5,none⟩ (.slice A13 n13 o13)) k11 3 (quQ 1 z t u s) from ⟨p0,P0,q0,r0,p1,P1,q1,r1,g13,A13,n13,o13,p3,P3,q3,r3,BA.out.put2 (.bool g13) (.slice A13 n13 o13),fun _=>(HY.out (by decide)).at8 BA.out.c4 BA.out.c5 (by decide) (.bool g13) (.slice A13 n13 o13)⟩)
     replace B6:=Hd (B6.out.at8 HNE.out.1.1 4 5 (.bool g13) (.slice A13 n13 o13))
     replace B7:=Hd (B7.out.at8 HNE.out.1.2 4 5 (.bool g13) (.slice A13 n13 o13))
     replace B14:=Hd (B14.out.at8 (show k11 ≠ k13 + 1 by have:=HLT.out;omega) 4 5 (.bool g13) (.slice A13 n13 o13))
     replace V6:=Hd (V6.out.at8 BA.out.c4 BA.out.c5 (by decide) (.bool g13) (.slice A13 n13 o13))
     replace V7:=Hd (V7.out.at8 BA.out.c4 BA.out.c5 (by decide) (.bool g13) (.slice A13 n13 o13))
     replace V14:=Hd (V14.out.at8 BA.out.c4 BA.out.c5 (by decide) (.bool g13) (.slice A13 n13 o13))
     replace HM:=Hd (HM.out.at8 HNE.out.2.1 4 5 (.bool g13) (.slice A13 n13 o13))
     replace hw:=(hw.setCell (p:=⟨k11,4,none⟩) (show w.heap.size <= k11 from HNE.out.2.2) (.bool g13)).setCell (p:=⟨k11,5,none⟩) (show w.heap.size <= k11 from HNE.out.2.2) (.slice A13 n13 o13)
     clear HQA BA HY B13 V13 HQK
     have HQA:=HQN
     clear HQN
     generalize (w15.setCell ⟨k11,4,none⟩ (.bool g13)).setCell ⟨k11,5,none⟩ (.slice A13 n13 o13) = wS at *
     obtain ⟨c140,c141,c142,c143,f140,f141,f142,f143,s14⟩:=B14.out
     go_wp2_with fail
     refine (Sign_any _ RN RD 96 _ V14.out).mono ?_
     rintro e w16 ⟨rfl,hb⟩
     clear c140 c141 c142 c143 f140 f141 f142 f143 s14
     replace B6:=Hd (B6.out.below hb)
     replace B7:=Hd (B7.out.below hb)
     replace B14:=Hd (B14.out.below hb)
     replace HM:=Hd (HM.out.below hb)
     replace V6:=Hd (V6.out.below hb)
     replace V7:=Hd (V7.out.below hb)
     replace HQA:=Hd (HQA.out.below hb)
     replace V14:=Hd (V14.out.below hb)
     replace hw:=hw.trans (hb.mono hw.size)
     clear hb
     obtain ⟨sg,hsg⟩ : ∃ sg,cmpI RN 0 = sg:=⟨_,rfl⟩
     have HSG:=Hd hsg
     rw [hsg]
     clear hsg
     by_cases hs0:sg = 0
     ·as_aux_lemma=>
       have HS0:=Hd (HSG.out.trans hs0)
       rw [hs0]
       clear hs0 HSG
       obtain ⟨c60,c61,c62,c63,f60,f61,f62,f63,s6⟩:=B6.out
       go_wp2_with fail
       refine (Sign_any _ z t 7 _ V6.out).mono ?_
       rintro e w17 ⟨rfl,hb⟩
       clear c60 c61 c62 c63 f60 f61 f62 f63 s6
       replace B6:=Hd (B6.out.below hb)
       replace B7:=Hd (B7.out.below hb)
       replace B14:=Hd (B14.out.below hb)
       replace HM:=Hd (HM.out.below hb)
       replace V6:=Hd (V6.out.below hb)
       replace V7:=Hd (V7.out.below hb)
       replace HQA:=Hd (HQA.out.below hb)
       replace V14:=Hd (V14.out.below hb)
       replace hw:=hw.trans (hb.mono hw.size)
       clear hb
       obtain ⟨sx,hsx⟩ : ∃ sx,cmpI z 0 = sx:=⟨_,rfl⟩
       rw [hsx]
       obtain ⟨wb,hwb⟩ : ∃ wb,((0:Int) != sx) = wb:=⟨_,rfl⟩
       go_upto_region 18 with fail
       have HT:=Hd (fun (w':World) (hb:Below w17.heap.size w17 w')=>(show w'.cell? ⟨j7,0,none⟩ = some (.bool g7) /\ w'.cell? ⟨j7,1,none⟩ = some (.slice A7 n7 o7) /\ w'.cell? ⟨j7,2,none⟩ = some (.bool e7) /\ w'.cell? ⟨j7,3,none⟩ = some (.slice E7 m7 d7) /\ w'.cell? ⟨(k13 + 1),0,none⟩ = some (.bool g14) /\ w'.cell? ⟨(k13 + 1),1,none⟩ = some (.slice A14 n14 o14) /\ w'.cell? ⟨(k13 + 1),2,none⟩ = some (.bool e14) /\ w'.cell? ⟨(k13 + 1),3,none⟩ = some (.slice E14 m14 d14) from ⟨(B7.out.below hb).c0,(B7.out.below hb).c1,(B7.out.below hb).c2,(B7.out.below hb).c3,(B14.out.below hb).c0,(B14.out.below hb).c1,(B14.out.below hb).c2,(B14.out.below hb).c3⟩))
       have hB:=(Below.refl w17.heap.size w17).drew
       replace HM:=Hd (HM.out.below hB)
       replace V6:=Hd (V6.out.below hB)
       replace V7:=Hd (V7.out.below hB)
       replace HQA:=Hd (HQA.out.below hB)
       replace V14:=Hd (V14.out.below hB)
       refine wp_region_held_drew (S:=fun w'=>w'.cell? ⟨j7,0,none⟩ = some (.bool g7) /\ w'.cell? ⟨j7,1,none⟩ = some (.slice A7 n7 o7) /\ w'.cell? ⟨j7,2,none⟩ = some (.bool e7) /\ w'.cell? ⟨j7,3,none⟩ = some (.slice E7 m7 d7) /\ w'.cell? ⟨(k13 + 1),0,none⟩ = some (.bool g14) /\ w'.cell? ⟨(k13 + 1),1,none⟩ = some (.slice A14 n14 o14) /\ w'.cell? ⟨(k13 + 1),2,none⟩ = some (.bool e14) /\ w'.cell? ⟨(k13 + 1),3,none⟩ = some (.slice E14 m14 d14)) (by kernel_rfl) (HT.out _ hB) (fun hH=>?_)
       clear hH
       generalize w17.drew = wr0 at *
       refine tk 0 118 (by first | assumption | exact HT.out _ hB) ?_
       try simp only [Act.put,tA,cZ,cS]
       refine tk 1 119 (by first | assumption | exact HT.out _ hB) ?_
       try simp only [Act.put,tA,cZ,cS]
       refine tk 2 120 (by first | assumption | exact HT.out _ hB) ?_
       try simp only [Act.put,tA,cZ,cS]
       refine wpAnyH_taken (i:=3) (d:=some 121) (v:=undef) rfl rfl (by kernel_rfl) (by kernel_rfl) (by kernel_rfl) (fun _ _ _ h=>h) (Or.inr ⟨by rfl,rfl⟩) (by first | assumption | exact HT.out _ hB) ?_
       try simp only [Act.put,tA,cZ,cS]
       refine tk 4 122 (by first | assumption | exact HT.out _ hB) ?_
       try simp only [Act.put,tA,cZ,cS]
       refine tk 5 123 (by first | assumption | exact HT.out _ hB) ?_
       try simp only [Act.put,tA,cZ,cS]
       refine tk 6 124 (by first | assumption | exact HT.out _ hB) ?_
       try simp only [Act.put,tA,cZ,cS]
       refine tk 7 125 (by first | assumption | exact HT.out _ hB) ?_
       try simp only [Act.put,tA,cZ,cS]
       refine tk 8 126 (by first | assumption | exact HT.out _ hB) ?_
       try simp only [Act.put,tA,cZ,cS]
       refine wpAnyH_taken (i:=9) (d:=some 127) (v:=undef) rfl rfl (by kernel_rfl) (by kernel_rfl) (by kernel_rfl) (fun _ _ _ h=>h) (Or.inr ⟨by rfl,rfl⟩) (by first | assumption | exact HT.out _ hB) ?_
       try simp only [Act.put,tA,cZ,cS]
       refine wpAnyH_taken (i:=10) (d:=some 128) (v:=undef) rfl rfl (by kernel_rfl) (by kernel_rfl) (by kernel_rfl) (fun _ _ _ h=>h) (Or.inr ⟨by rfl,rfl⟩) (by first | assumption | exact HT.out _ hB) ?_
       try simp only [Act.put,tA,cZ,cS]
       refine wpAnyH_taken (i:=13) (d:=some 131) (v:=undef) rfl rfl (by kernel_rfl) (by kernel_rfl) (by kernel_rfl) (fun _ _ _ h=>h) (Or.inr ⟨by rfl,rfl⟩) (by first | assumption | exact HT.out _ hB) ?_
       try simp only [Act.put,tA,cZ,cS]
       refine wpAnyH_taken (i:=11) (d:=some 129) (v:=undef) rfl rfl (by kernel_rfl) (by kernel_rfl) (by kernel_rfl) (fun _ _ _ h=>h) (Or.inr ⟨by rfl,rfl⟩) (by first | assumption | exact HT.out _ hB) ?_
       try simp only [Act.put,tA,cZ,cS]
       refine wpAnyH_taken (i:=12) (d:=some 130) (v:=undef) rfl rfl (by kernel_rfl) (by kernel_rfl) (by kernel_rfl) (fun _ _ _ h=>h) (Or.inr ⟨by rfl,rfl⟩) (by first | assumption | exact HT.out _ hB) ?_
       try simp only [Act.put,tA,cZ,cS]
       refine wpAnyH_taken (i:=14) (d:=some 132) (v:=undef) rfl rfl (by kernel_rfl) (by kernel_rfl) (by kernel_rfl) (fun _ _ _ h=>h) (Or.inr ⟨by rfl,rfl⟩) (by first | assumption | exact HT.out _ hB) ?_
       try simp only [Act.put,tA,cZ,cS]
       refine wpAnyH_taken (i:=15) (d:=some 133) (v:=undef) rfl rfl (by kernel_rfl) (by kernel_rfl) (by kernel_rfl) (fun _ _ _ h=>h) (Or.inr ⟨by rfl,rfl⟩) (by first | assumption | exact HT.out _ hB) ?_
       try simp only [Act.put,tA,cZ,cS]
       refine wpAnyH_taken (i:=16) (d:=some 134) (v:=undef) rfl rfl (by kernel_rfl) (by kernel_rfl) (by kernel_rfl) (fun _ _ _ h=>h) (Or.inr ⟨by rfl,rfl⟩) (by first | assumption | exact HT.out _ hB) ?_
       try simp only [Act.put,tA,cZ,cS]
       refine tk 17 135 (by first | assumption | exact HT.out _ hB) ?_
       try simp only [Act.put,tA,cZ,cS]
       refine tk 18 136 (by first | assumption | exact HT.out _ hB) ?_
       try simp only [Act.put,tA,cZ,cS]
       refine wpAnyH_done (by kernel_rfl) ?_ _
       replace B6:=Hd (B6.out.below hB)
       replace B7:=Hd (B7.out.below hB)
       replace B14:=Hd (B14.out.below hB)
       replace hw:=hw.trans (hB.mono hw.size)
       go_wp2_with fail
       exact ⟨⟨3,rfl,by decide,by decide,B6,B7,V6,V7,HM,HQA,Hd hw⟩,by show (4 - (3:Int)).toNat < (4 - (2:Int)).toNat;decide⟩
     ·as_aux_lemma=>
       have HSN:=Hd hs0
       have hsb:(sg == 0) = false:=by simpa using hs0
       have hsb2:(sg != 0) = true:=by simp [bne,hsb]
       have HRN:=Hd (show RN ≠ 0 from fun e0=>hs0 (by rw [<- HSG.out,cmpI_eq e0]))
       clear hs0
       obtain ⟨c60,c61,c62,c63,f60,f61,f62,f63,s6⟩:=B6.out
       go_wp2_with fail
       refine (Sign_any _ z t 7 _ V6.out).mono ?_
       rintro e w17 ⟨rfl,hb⟩
       clear c60 c61 c62 c63 f60 f61 f62 f63 s6
       replace B6:=Hd (B6.out.below hb)
       replace B7:=Hd (B7.out.below hb)
       replace B14:=Hd (B14.out.below hb)
       replace HM:=Hd (HM.out.below hb)
       replace V6:=Hd (V6.out.below hb)
       replace V7:=Hd (V7.out.below hb)
       replace HQA:=Hd (HQA.out.below hb)
       replace V14:=Hd (V14.out.below hb)
       replace hw:=hw.trans (hb.mono hw.size)
       clear hb
       obtain ⟨sx,hsx⟩ : ∃ sx,cmpI z 0 = sx:=⟨_,rfl⟩
       rw [hsx]
       have hb0:(sg == sx) = true:=by rw [beq_iff_eq];have h9:=HOK.out.2.2.2.1 rfl HRN.out;rw [HSG.out,hsx] at h9;exact h9
       have hb1:(sg != sx) = false:=by simp [bne,hb0]
       go_upto_region 18 with fail
       have HT:=Hd (fun (w':World) (hb:Below w17.heap.size w17 w')=>(show w'.cell? ⟨j7,0,none⟩ = some (.bool g7) /\ w'.cell? ⟨j7,1,none⟩ = some (.slice A7 n7 o7) /\ w'.cell? ⟨j7,2,none⟩ = some (.bool e7) /\ w'.cell? ⟨j7,3,none⟩ = some (.slice E7 m7 d7) /\ w'.cell? ⟨(k13 + 1),0,none⟩ = some (.bool g14) /\ w'.cell? ⟨(k13 + 1),1,none⟩ = some (.slice A14 n14 o14) /\ w'.cell? ⟨(k13 + 1),2,none⟩ = some (.bool e14) /\ w'.cell? ⟨(k13 + 1),3,none⟩ = some (.slice E14 m14 d14) from ⟨(B7.out.below hb).c0,(B7.out.below hb).c1,(B7.out.below hb).c2,(B7.out.below hb).c3,(B14.out.below hb).c0,(B14.out.below hb).c1,(B14.out.below hb).c2,(B14.out.below hb).c3⟩))
       have hB:=(Below.refl w17.heap.size w17).drew
       replace HM:=Hd (HM.out.below hB)
       replace V6:=Hd (V6.out.below hB)
       replace V7:=Hd (V7.out.below hB)
       replace HQA:=Hd (HQA.out.below hB)
       replace V14:=Hd (V14.out.below hB)
       refine wp_region_held_drew (S:=fun w'=>w'.cell? ⟨j7,0,none⟩ = some (.bool g7) /\ w'.cell? ⟨j7,1,none⟩ = some (.slice A7 n7 o7) /\ w'.cell? ⟨j7,2,none⟩ = some (.bool e7) /\ w'.cell? ⟨j7,3,none⟩ = some (.slice E7 m7 d7) /\ w'.cell? ⟨(k13 + 1),0,none⟩ = some (.bool g14) /\ w'.cell? ⟨(k13 + 1),1,none⟩ = some (.slice A14 n14 o14) /\ w'.cell? ⟨(k13 + 1),2,none⟩ = some (.bool e14) /\ w'.cell? ⟨(k13 + 1),3,none⟩ = some (.slice E14 m14 d14)) (by kernel_rfl) (HT.out _ hB) (fun hH=>?_)
       clear hH
       generalize w17.drew = wr0 at *
       refine tk 0 118 (by first | assumption | exact HT.out _ hB) ?_
       try simp only [Act.put,tA,cZ,cS]
       refine tk 1 119 (by first | assumption | exact HT.out _ hB) ?_
       try simp only [Act.put,tA,cZ,cS]
       refine tk 2 120 (by first | assumption | exact HT.out _ hB) ?_
       try simp only [Act.put,tA,cZ,cS]
       refine tk 3 121 (by first | assumption | exact HT.out _ hB) ?_
       try simp only [Act.put,tA,cZ,cS]
       refine tk 4 122 (by first | assumption | exact HT.out _ hB) ?_
       try simp only [Act.put,tA,cZ,cS]
       refine tk 5 123 (by first | assumption | exact HT.out _ hB) ?_
       try simp only [Act.put,tA,cZ,cS]
       refine tk 6 124 (by first | assumption | exact HT.out _ hB) ?_
       try simp only [Act.put,tA,cZ,cS]
       refine tk 7 125 (by first | assumption | exact HT.out _ hB) ?_
       try simp only [Act.put,tA,cZ,cS]
       refine tk 8 126 (by first | assumption | exact HT.out _ hB) ?_
       try simp only [Act.put,tA,cZ,cS]
       refine wpAnyH_taken (i:=9) (d:=some 127) (v:=undef) rfl rfl (by kernel_rfl) (by kernel_rfl) (by kernel_rfl) (fun _ _ _ h=>h) (Or.inr ⟨by rfl,rfl⟩) (by first | assumption | exact HT.out _ hB) ?_
       try simp only [Act.put,tA,cZ,cS]
       refine wpAnyH_taken (i:=10) (d:=some 128) (v:=undef) rfl rfl (by kernel_rfl) (by kernel_rfl) (by kernel_rfl) (fun _ _ _ h=>h) (Or.inr ⟨by rfl,rfl⟩) (by first | assumption | exact HT.out _ hB) ?_
       try simp only [Act.put,tA,cZ,cS]
       refine wpAnyH_taken (i:=13) (d:=some 131) (v:=undef) rfl rfl (by kernel_rfl) (by kernel_rfl) (by kernel_rfl) (fun _ _ _ h=>h) (Or.inr ⟨by rfl,rfl⟩) (by first | assumption | exact HT.out _ hB) ?_
       try simp only [Act.put,tA,cZ,cS]
       refine wpAnyH_taken (i:=11) (d:=some 129) (v:=undef) rfl rfl (by kernel_rfl) (by kernel_rfl) (by kernel_rfl) (fun _ _ _ h=>h) (Or.inr ⟨by rfl,rfl⟩) (by first | assumption | exact HT.out _ hB) ?_
       try simp only [Act.put,tA,cZ,cS]
       refine wpAnyH_taken (i:=12) (d:=some 130) (v:=undef) rfl rfl (by kernel_rfl) (by kernel_rfl) (by kernel_rfl) (fun _ _ _ h=>h) (Or.inr ⟨by rfl,rfl⟩) (by first | assumption | exact HT.out _ hB) ?_
       try simp only [Act.put,tA,cZ,cS]
       refine wpAnyH_taken (i:=14) (d:=some 132) (v:=undef) rfl rfl (by kernel_rfl) (by kernel_rfl) (by kernel_rfl) (fun _ _ _ h=>h) (Or.inr ⟨by rfl,rfl⟩) (by first | assumption | exact HT.out _ hB) ?_
       try simp only [Act.put,tA,cZ,cS]
       refine wpAnyH_taken (i:=15) (d:=some 133) (v:=undef) rfl rfl (by kernel_rfl) (by kernel_rfl) (by kernel_rfl) (fun _ _ _ h=>h) (Or.inr ⟨by rfl,rfl⟩) (by first | assumption | exact HT.out _ hB) ?_
       try simp only [Act.put,tA,cZ,cS]
       refine wpAnyH_taken (i:=16) (d:=some 134) (v:=undef) rfl rfl (by kernel_rfl) (by kernel_rfl) (by kernel_rfl) (fun _ _ _ h=>h) (Or.inr ⟨by rfl,rfl⟩) (by first | assumption | exact HT.out _ hB) ?_
       try simp only [Act.put,tA,cZ,cS]
       refine tk 17 135 (by first | assumption | exact HT.out _ hB) ?_
       try simp only [Act.put,tA,cZ,cS]
       refine tk 18 136 (by first | assumption | exact HT.out _ hB) ?_
       try simp only [Act.put,tA,cZ,cS]
       refine wpAnyH_done (by kernel_rfl) ?_ _
       replace B6:=Hd (B6.out.below hB)
       replace B7:=Hd (B7.out.below hB)
       replace B14:=Hd (B14.out.below hB)
       replace hw:=hw.trans (hB.mono hw.size)
       go_wp2_with fail
       exact ⟨⟨3,rfl,by decide,by decide,B6,B7,V6,V7,HM,HQA,Hd hw⟩,by show (4 - (3:Int)).toNat < (4 - (2:Int)).toNat;decide⟩
   ·as_aux_lemma=>
     clear hk0 hk4
     have HE:=Hd (show quE 3 u = 0 from (if_neg (by decide)).trans (if_neg HU.out))
     go_upto_region 12 with fail
     obtain ⟨c60,c61,c62,c63,f60,f61,f62,f63,s6⟩:=B6.out
     obtain ⟨c70,c71,c72,c73,f70,f71,f72,f73,s7⟩:=B7.out
     go_wp2_with fail
     refine (Quotient_q 3 _ _ z t u s 7 _ V6.out V7.out (by decide) (by decide)).mono ?_
     rintro e wq ⟨⟨g13,A13,n13,o13,g14,A14,n14,o14,e14,E14,m14,d14,rfl,hz,hq⟩,hb⟩
     rw [HE.out]
     have HOK:=Hd (round_ok (k:=3) (z:=z) HTS.out.1 HTS.out.2 HU.out (by decide) (by decide))
     obtain ⟨hcr,hRD⟩:=qu_cross (k:=3) (z:=z) HTS.out.1 HTS.out.2 HE.out
     obtain ⟨QQ,h1⟩ : ∃ QQ,quQ 3 z t u s = QQ:=⟨_,rfl⟩
     obtain ⟨RN,h2⟩ : ∃ RN,quN 3 z t u s = RN:=⟨_,rfl⟩
     obtain ⟨RD,h3⟩ : ∃ RD,quD 3 z t u s = RD:=⟨_,rfl⟩
     rw [h1] at hz
     rw [h2,h3] at hq HOK
     rw [h1,h2,h3] at hcr
     rw [h3] at hRD
     have HQK:=Hd h1
     have HCR:=Hd (rem_back hcr)
     have HRD:=Hd hRD
     clear h1 h2 h3 hcr hRD
     clear c60 c61 c62 c63 f60 f61 f62 f63 s6
     clear c70 c71 c72 c73 f70 f71 f72 f73 s7
     replace B6:=Hd (B6.out.below hb)
     replace B7:=Hd (B7.out.below hb)
     replace HM:=Hd (HM.out.below hb)
     replace V6:=Hd (V6.out.below hb)
     replace V7:=Hd (V7.out.below hb)
     replace HQA:=Hd (HQA.out.below hb)
     replace hw:=hw.trans (hb.mono hw.size)
     clear hb
     have HQB:=HQA
     have hX:=below_two wq (.cells #[.bool g13,.slice A13 n13 o13] 31) (.cells #[.bool g14,.slice A14 n14 o14,.bool e14,.slice E14 m14 d14] 38)
     replace B6:=Hd (B6.out.below hX)
     replace B7:=Hd (B7.out.below hX)
     replace HM:=Hd (HM.out.below hX)
     replace V6:=Hd (V6.out.below hX)
     replace V7:=Hd (V7.out.below hX)
     replace HQA:=Hd (HQA.out.below hX)
     replace hw:=hw.trans (hX.mono hw.size)
     have B13:=Hd (Fx.newA wq (.bool g13) (.slice A13 n13 o13) 31 (.cells #[.bool g14,.slice A14 n14 o14,.bool e14,.slice E14 m14 d14] 38))
     have B14:=Hd (Fx4.new2 wq (.bool g14) (.slice A14 n14 o14) (.bool e14) (.slice E14 m14 d14) 38 #[.bool g13,.slice A13 n13 o13] 31)
     have V13:=Hd (hz.below hX)
     have V14:=Hd (hq.below hX)
     clear hX hz hq HE
     have HLT:=Hd (show k11 < wq.heap.size from by obtain ⟨p0,P0,q0,r0,p1,P1,q1,r1,p2,P2,q2,r2,p3,P3,q3,r3,hF,-⟩:=HQB.out;exact hF.lt)
     clear HQB
     go_upto_region 13 with fail
     generalize (wq.alloc (.cells #[.bool g13,.slice A13 n13 o13] 31)).alloc (.cells #[.bool g14,.slice A14 n14 o14,.bool e14,.slice E14 m14 d14] 38) = W13 at *
     generalize wq.heap.size = k13 at *
     go_cut [83] (fun va wx=>va = .bool false /\ Below W13.heap.size W13 wx)
     case first=>
      as_aux_lemma=>
       have HT:=Hd (fun (w':World) (hb:Below W13.heap.size W13 w')=>(show w'.cell? ⟨j6,0,none⟩ = some (.bool g6) /\ w'.cell? ⟨j6,1,none⟩ = some (.slice A6 n6 o6) /\ w'.cell? ⟨j6,2,none⟩ = some (.bool e6) /\ w'.cell? ⟨j6,3,none⟩ = some (.slice E6 m6 d6) /\ w'.cell? ⟨j7,0,none⟩ = some (.bool g7) /\ w'.cell? ⟨j7,1,none⟩ = some (.slice A7 n7 o7) /\ w'.cell? ⟨j7,2,none⟩ = some (.bool e7) /\ w'.cell? ⟨j7,3,none⟩ = some (.slice E7 m7 d7) /\ w'.cell? ⟨k13,0,none⟩ = some (.bool g13) /\ w'.cell? ⟨k13,1,none⟩ = some (.slice A13 n13 o13) /\ w'.cell? ⟨(k13 + 1),0,none⟩ = some (.bool g14) /\ w'.cell? ⟨(k13 + 1),1,none⟩ = some (.slice A14 n14 o14) /\ w'.cell? ⟨(k13 + 1),2,none⟩ = some (.bool e14) /\ w'.cell? ⟨(k13 + 1),3,none⟩ = some (.slice E14 m14 d14) from ⟨(B6.out.below hb).c0,(B6.out.below hb).c1,(B6.out.below hb).c2,(B6.out.below hb).c3,(B7.out.below hb).c0,(B7.out.below hb).c1,(B7.out.below hb).c2,(B7.out.below hb).c3,(B13.out.below hb).1,(B13.out.below hb).2.1,(B14.out.below hb).c0,(B14.out.below hb).c1,(B14.out.below hb).c2,(B14.out.below hb).c3⟩))
       have hB:=(Below.refl W13.heap.size W13).drew
       replace HM:=Hd (HM.out.below hB)
       replace V6:=Hd (V6.out.below hB)
       replace V7:=Hd (V7.out.below hB)
       replace HQA:=Hd (HQA.out.below hB)
       replace V13:=Hd (V13.out.below hB)
       replace V14:=Hd (V14.out.below hB)
       refine wp_region_held_drew (S:=fun w'=>w'.cell? ⟨j6,0,none⟩ = some (.bool g6) /\ w'.cell? ⟨j6,1,none⟩ = some (.slice A6 n6 o6) /\ w'.cell? ⟨j6,2,none⟩ = some (.bool e6) /\ w'.cell? ⟨j6,3,none⟩ = some (.slice E6 m6 d6) /\ w'.cell? ⟨j7,0,none⟩ = some (.bool g7) /\ w'.cell? ⟨j7,1,none⟩ = some (.slice A7 n7 o7) /\ w'.cell? ⟨j7,2,none⟩ = some (.bool e7) /\ w'.cell? ⟨j7,3,none⟩ = some (.slice E7 m7 d7) /\ w'.cell? ⟨k13,0,none⟩ = some (.bool g13) /\ w'.cell? ⟨k13,1,none⟩ = some (.slice A13 n13 o13) /\ w'.cell? ⟨(k13 + 1),0,none⟩ = some (.bool g14) /\ w'.cell? ⟨(k13 + 1),1,none⟩ = some (.slice A14 n14 o14) /\ w'.cell? ⟨(k13 + 1),2,none⟩ = some (.bool e14) /\ w'.cell? ⟨(k13 + 1),3,none⟩ = some (.slice E14 m14 d14)) (by kernel_rfl) (HT.out _ hB) (fun hH=>?_)
       clear hH
       generalize W13.drew = wr0 at *
       refine tk 0 63 (by first | assumption | exact HT.out _ hB) ?_
       try simp only [Act.put,tA,cZ,cS]
       refine tk 1 64 (by first | assumption | exact HT.out _ hB) ?_
       try simp only [Act.put,tA,cZ,cS]
       refine tk 2 65 (by first | assumption | exact HT.out _ hB) ?_
       try simp only [Act.put,tA,cZ,cS]
       refine tk 3 66 (by first | assumption | exact HT.out _ hB) ?_
       try simp only [Act.put,tA,cZ,cS]
       refine tk 4 67 (by first | assumption | exact HT.out _ hB) ?_
       try simp only [Act.put,tA,cZ,cS]
       refine tk 7 70 (by first | assumption | exact HT.out _ hB) ?_
       try simp only [Act.put,tA,cZ,cS]
       refine tk 9 72 (by first | assumption | exact HT.out _ hB) ?_
       try simp only [Act.put,tA,cZ,cS]
       refine rd 5 (AllReadyH.cons rfl (fun K hK=>?_) AllReadyH.nil)
       (try simp only [gA]);(try simp only [gS]);(try simp only [gZ])
       go_simp
       (go_at_call 20;refine (Of_rat _ QQ 96 _ V13.out).mono ?_;rintro e wc5 ⟨⟨ga,Aa1,na1,oa,ea,Ea,ma,da1,rfl,hz⟩,hb⟩)
       replace HM:=Hd (HM.out.below hb)
       replace V6:=Hd (V6.out.below hb)
       replace V7:=Hd (V7.out.below hb)
       replace HQA:=Hd (HQA.out.below hb)
       replace V13:=Hd (V13.out.below hb)
       replace V14:=Hd (V14.out.below hb)
       replace hB:=Below.trans hB (hb.mono hB.size)
       have T1:=Hd hz
       refine hK.out _ _ (HT.out _ hB) (fun hH=>?_)
       clear hK K hH
       try simp only [Act.put,tA,cZ,cS]
       clear hb hz
       refine rd 6 (AllReadyH.cons rfl (fun K hK=>?_) AllReadyH.nil)
       (try simp only [gA]);(try simp only [gS]);(try simp only [gZ])
       go_simp
       (go_at_call 44;refine (mul_v _ _ u s QQ 1 96 _ (V7.out.mono (by decide)).v T1.out.v (by decide) (by decide)).mono ?_;rintro e wc6 ⟨⟨gb,Ab1,nb1,ob,eb,Eb,mb,db1,rfl,hz⟩,hb⟩)
       replace HM:=Hd (HM.out.below hb)
       replace V6:=Hd (V6.out.below hb)
       replace V7:=Hd (V7.out.below hb)
       replace HQA:=Hd (HQA.out.below hb)
       replace V13:=Hd (V13.out.below hb)
       replace V14:=Hd (V14.out.below hb)
       replace T1:=Hd (T1.out.below hb)
       replace hB:=Below.trans hB (hb.mono hB.size)
       clear T1
       have T2:=Hd hz
       refine hK.out _ _ (HT.out _ hB) (fun hH=>?_)
       clear hK K hH
       try simp only [Act.put,tA,cZ,cS]
       clear hb hz
       refine rd 8 (AllReadyH.cons rfl (fun K hK=>?_) AllReadyH.nil)
       (try simp only [gA]);(try simp only [gS]);(try simp only [gZ])
       go_simp
       (go_at_call 40;refine (add_v _ _ (u * QQ) (s * 1) RN RD 197 _ T2.out (V14.out.mono (by decide)).v (by decide) (by decide)).mono ?_;rintro e wc8 ⟨⟨gc,Ac1,nc1,oc,ec,Ec,mc,dc1,rfl,hz⟩,hb⟩)
       replace HM:=Hd (HM.out.below hb)
       replace V6:=Hd (V6.out.below hb)
       replace V7:=Hd (V7.out.below hb)
       replace HQA:=Hd (HQA.out.below hb)
       replace V13:=Hd (V13.out.below hb)
       replace V14:=Hd (V14.out.below hb)
       replace T2:=Hd (T2.out.below hb)
       replace hB:=Below.trans hB (hb.mono hB.size)
       clear T2
       have T3:=Hd hz
       refine hK.out _ _ (HT.out _ hB) (fun hH=>?_)
       clear hK K hH
       try simp only [Act.put,tA,cZ,cS]
       clear hb hz
       refine rd 10 (AllReadyH.cons rfl (fun K hK=>?_) AllReadyH.nil)
       (try simp only [gA]);(try simp only [gS]);(try simp only [gZ])
       go_simp
       (go_at_call 61;refine (same_v_yes _ _ (u * QQ * RD + RN * (s * 1)) (s * 1 * RD) z t 399 _ T3.out (V6.out.mono (by decide)).v (by decide) HCR.out).mono ?_;rintro e wc10 ⟨rfl,hb⟩)
       replace HM:=Hd (HM.out.below hb)
       replace V6:=Hd (V6.out.below hb)
       replace V7:=Hd (V7.out.below hb)
       replace HQA:=Hd (HQA.out.below hb)
       replace V13:=Hd (V13.out.below hb)
       replace V14:=Hd (V14.out.below hb)
       replace T3:=Hd (T3.out.below hb)
       replace hB:=Below.trans hB (hb.mono hB.size)
       clear T3
       refine hK.out _ _ (HT.out _ hB) (fun hH=>?_)
       clear hK K hH
       try simp only [Act.put,tA,cZ,cS]
       clear hb
       refine tk 11 74 (by first | assumption | exact HT.out _ hB) ?_
       try simp only [Act.put,tA,cZ,cS]
       refine tk 12 75 (by first | assumption | exact HT.out _ hB) ?_
       try simp only [Act.put,tA,cZ,cS]
       refine tk 13 76 (by first | assumption | exact HT.out _ hB) ?_
       try simp only [Act.put,tA,cZ,cS]
       refine tk 14 77 (by first | assumption | exact HT.out _ hB) ?_
       try simp only [Act.put,tA,cZ,cS]
       refine tk 16 79 (by first | assumption | exact HT.out _ hB) ?_
       try simp only [Act.put,tA,cZ,cS]
       refine rd 15 (AllReadyH.cons rfl (fun K hK=>?_) AllReadyH.nil)
       (try simp only [gA]);(try simp only [gS]);(try simp only [gZ])
       go_simp
       (go_at_call 38;refine (Abs_any _ RN RD 96 _ V14.out (by decide)).mono ?_;rintro e wc15 ⟨⟨gd,Ad1,nd1,od,ed,Ed,md,dd1,rfl,hz⟩,hb⟩)
       replace HM:=Hd (HM.out.below hb)
       replace V6:=Hd (V6.out.below hb)
       replace V7:=Hd (V7.out.below hb)
       replace HQA:=Hd (HQA.out.below hb)
       replace V13:=Hd (V13.out.below hb)
       replace V14:=Hd (V14.out.below hb)
       replace hB:=Below.trans hB (hb.mono hB.size)
       have T4:=Hd hz
       refine hK.out _ _ (HT.out _ hB) (fun hH=>?_)
       clear hK K hH
       try simp only [Act.put,tA,cZ,cS]
       clear hb hz
       refine rd 17 (AllReadyH.cons rfl (fun K hK=>?_) AllReadyH.nil)
       (try simp only [gA]);(try simp only [gS]);(try simp only [gZ])
       go_simp
       (go_at_call 38;refine (Abs_any _ u s 7 _ V7.out (by decide)).mono ?_;rintro e wc17 ⟨⟨ge,Ae1,ne1,oe,ee,Ee,me,de1,rfl,hz⟩,hb⟩)
       replace HM:=Hd (HM.out.below hb)
       replace V6:=Hd (V6.out.below hb)
       replace V7:=Hd (V7.out.below hb)
       replace HQA:=Hd (HQA.out.below hb)
       replace V13:=Hd (V13.out.below hb)
       replace V14:=Hd (V14.out.below hb)
       replace T4:=Hd (T4.out.below hb)
       replace hB:=Below.trans hB (hb.mono hB.size)
       have T5:=Hd hz
       refine hK.out _ _ (HT.out _ hB) (fun hH=>?_)
       clear hK K hH
       try simp only [Act.put,tA,cZ,cS]
       clear hb hz
       refine rd 18 (AllReadyH.cons rfl (fun K hK=>?_) AllReadyH.nil)
       (try simp only [gA]);(try simp only [gS]);(try simp only [gZ])
       go_simp
       (go_at_call 26;refine (Cmp_q _ _ (absI RN) RD (absI u) s 96 _ T4.out (T5.out.mono (by decide)) (by decide)).mono ?_;rintro e wc18 ⟨rfl,hb⟩)
       rw [cmpI_lt HOK.out.1]
       replace HM:=Hd (HM.out.below hb)
       replace V6:=Hd (V6.out.below hb)
       replace V7:=Hd (V7.out.below hb)
       replace HQA:=Hd (HQA.out.below hb)
       replace V13:=Hd (V13.out.below hb)
       replace V14:=Hd (V14.out.below hb)
       replace T4:=Hd (T4.out.below hb)
       replace T5:=Hd (T5.out.below hb)
       replace hB:=Below.trans hB (hb.mono hB.size)
       clear T4
       clear T5
       refine hK.out _ _ (HT.out _ hB) (fun hH=>?_)
       clear hK K hH
       try simp only [Act.put,tA,cZ,cS]
       clear hb
       refine tk 19 82 (by first | assumption | exact HT.out _ hB) ?_
       try simp only [Act.put,tA,cZ,cS]
       refine tk 20 83 (by first | assumption | exact HT.out _ hB) ?_
       try simp only [Act.put,tA,cZ,cS]
       refine wpAnyH_done (by kernel_rfl) ?_ _
       go_wp2_with fail
       go_meet
       exact ⟨rfl,hB⟩
     obtain ⟨rfl,hb⟩:=hcut
     obtain ⟨w15,rfl⟩ : ∃ w15,w15 = wc:=⟨wc,rfl⟩
     replace B6:=Hd (B6.out.below hb)
     replace B7:=Hd (B7.out.below hb)
     replace B13:=Hd (B13.out.below hb)
     replace B14:=Hd (B14.out.below hb)
     replace HM:=Hd (HM.out.below hb)
     replace V6:=Hd (V6.out.below hb)
     replace V7:=Hd (V7.out.below hb)
     replace HQA:=Hd (HQA.out.below hb)
     replace V13:=Hd (V13.out.below hb)
     replace V14:=Hd (V14.out.below hb)
     replace hw:=hw.trans (hb.mono hw.size)
     clear hb HCR
     obtain ⟨p0,P0,q0,r0,p1,P1,q1,r1,p2,P2,q2,r2,p3,P3,q3,r3,hF,hY⟩:=HQA.out
     have BA:=Hd hF
     have HY:=Hd hY
     clear hF hY
     obtain ⟨c130,c131,f130,f131,s13⟩:=B13.out
     obtain ⟨y0,y1,y2,y3,y4,y5,y6,y7,x0,x1,x2,x3,x4,x5,x6,x7,x8⟩:=BA.out
     go_upto_region 16 with fail
     clear y0 y1 y2 y3 y4 y5 y6 y7 x0 x1 x2 x3 x4 x5 x6 x7 x8
     clear c130 c131 f130 f131 s13
     have HQN:=Hd (show QArr ((w15.setCell ⟨k11,6,none⟩ (.bool g13)).setCell ⟨k11,7,none⟩ (.slice A13 n13 o13)) k11 4 (quQ 1 z t u s) from ⟨p0,P0,q0,r0,p1,P1,q1,r1,p2,P2,q2,r2,g13,A13,n13,o13,BA.out.put3 (.bool g13) (.slice A13 n13 o13),fun _=>(HY.out (by decide)).at8 BA.out.c6 BA.out.c7 (by decide) (.bool g13) (.slice A13 n13 o13)⟩)
     replace B6:=Hd (B6.out.at8 HNE.out.1.1 6 7 (.bool g13) (.slice A13 n13 o13))
     replace B7:=Hd (B7.out.at8 HNE.out.1.2 6 7 (.bool g13) (.slice A13 n13 o13))
     replace B14:=Hd (B14.out.at8 (show k11 ≠ k13 + 1 by have:=HLT.out;omega) 6 7 (.bool g13) (.slice A13 n13 o13))
     replace V6:=Hd (V6.out.at8 BA.out.c6 BA.out.c7 (by decide) (.bool g13) (.slice A13 n13 o13))
     replace V7:=Hd (V7.out.at8 BA.out.c6 BA.out.c7 (by decide) (.bool g13) (.slice A13 n13 o13))
     replace V14:=Hd (V14.out.at8 BA.out.c6 BA.out.c7 (by decide) (.bool g13) (.slice A13 n13 o13))
     replace HM:=Hd (HM.out.at8 HNE.out.2.1 6 7 (.bool g13) (.slice A13 n13 o13))
     replace hw:=(hw.setCell (p:=⟨k11,6,none⟩) (show w.heap.size <= k11 from HNE.out.2.2) (.bool g13)).setCell (p:=⟨k11,7,none⟩) (show w.heap.size <= k11 from HNE.out.2.2) (.slice A13 n13 o13)
     clear HQA BA HY B13 V13 HQK
     have HQA:=HQN
     clear HQN
     generalize (w15.setCell ⟨k11,6,none⟩ (.bool g13)).setCell ⟨k11,7,none⟩ (.slice A13 n13 o13) = wS at *
     obtain ⟨c140,c141,c142,c143,f140,f141,f142,f143,s14⟩:=B14.out
     go_wp2_with fail
     refine (Sign_any _ RN RD 96 _ V14.out).mono ?_
     rintro e w16 ⟨rfl,hb⟩
     clear c140 c141 c142 c143 f140 f141 f142 f143 s14
     replace B6:=Hd (B6.out.below hb)
     replace B7:=Hd (B7.out.below hb)
     replace B14:=Hd (B14.out.below hb)
     replace HM:=Hd (HM.out.below hb)
     replace V6:=Hd (V6.out.below hb)
     replace V7:=Hd (V7.out.below hb)
     replace HQA:=Hd (HQA.out.below hb)
     replace V14:=Hd (V14.out.below hb)
     replace hw:=hw.trans (hb.mono hw.size)
     clear hb
     obtain ⟨sg,hsg⟩ : ∃ sg,cmpI RN 0 = sg:=⟨_,rfl⟩
     have HSG:=Hd hsg
     rw [hsg]
     clear hsg
     by_cases hs0:sg = 0
     ·as_aux_lemma=>
       have HS0:=Hd (HSG.out.trans hs0)
       rw [hs0]
       clear hs0 HSG
       go_upto_region 18 with fail
       have HT:=Hd (fun (w':World) (hb:Below w16.heap.size w16 w')=>(show w'.cell? ⟨j7,0,none⟩ = some (.bool g7) /\ w'.cell? ⟨j7,1,none⟩ = some (.slice A7 n7 o7) /\ w'.cell? ⟨j7,2,none⟩ = some (.bool e7) /\ w'.cell? ⟨j7,3,none⟩ = some (.slice E7 m7 d7) /\ w'.cell? ⟨(k13 + 1),0,none⟩ = some (.bool g14) /\ w'.cell? ⟨(k13 + 1),1,none⟩ = some (.slice A14 n14 o14) /\ w'.cell? ⟨(k13 + 1),2,none⟩ = some (.bool e14) /\ w'.cell? ⟨(k13 + 1),3,none⟩ = some (.slice E14 m14 d14) from ⟨(B7.out.below hb).c0,(B7.out.below hb).c1,(B7.out.below hb).c2,(B7.out.below hb).c3,(B14.out.below hb).c0,(B14.out.below hb).c1,(B14.out.below hb).c2,(B14.out.below hb).c3⟩))
       have hB:=(Below.refl w16.heap.size w16).drew
       replace HM:=Hd (HM.out.below hB)
       replace V6:=Hd (V6.out.below hB)
       replace V7:=Hd (V7.out.below hB)
       replace HQA:=Hd (HQA.out.below hB)
       replace V14:=Hd (V14.out.below hB)
       refine wp_region_held_drew (S:=fun w'=>w'.cell? ⟨j7,0,none⟩ = some (.bool g7) /\ w'.cell? ⟨j7,1,none⟩ = some (.slice A7 n7 o7) /\ w'.cell? ⟨j7,2,none⟩ = some (.bool e7) /\ w'.cell? ⟨j7,3,none⟩ = some (.slice E7 m7 d7) /\ w'.cell? ⟨(k13 + 1),0,none⟩ = some (.bool g14) /\ w'.cell? ⟨(k13 + 1),1,none⟩ = some (.slice A14 n14 o14) /\ w'.cell? ⟨(k13 + 1),2,none⟩ = some (.bool e14) /\ w'.cell? ⟨(k13 + 1),3,none⟩ = some (.slice E14 m14 d14)) (by kernel_rfl) (HT.out _ hB) (fun hH=>?_)
       clear hH
       generalize w16.drew = wr0 at *
       refine tk 0 118 (by first | assumption | exact HT.out _ hB) ?_
       try simp only [Act.put,tA,cZ,cS]
       refine tk 1 119 (by first | assumption | exact HT.out _ hB) ?_
       try simp only [Act.put,tA,cZ,cS]
       refine tk 2 120 (by first | assumption | exact HT.out _ hB) ?_
       try simp only [Act.put,tA,cZ,cS]
       refine wpAnyH_taken (i:=3) (d:=some 121) (v:=undef) rfl rfl (by kernel_rfl) (by kernel_rfl) (by kernel_rfl) (fun _ _ _ h=>h) (Or.inr ⟨by rfl,rfl⟩) (by first | assumption | exact HT.out _ hB) ?_
       try simp only [Act.put,tA,cZ,cS]
       refine tk 4 122 (by first | assumption | exact HT.out _ hB) ?_
       try simp only [Act.put,tA,cZ,cS]
       refine tk 5 123 (by first | assumption | exact HT.out _ hB) ?_
       try simp only [Act.put,tA,cZ,cS]
       refine tk 6 124 (by first | assumption | exact HT.out _ hB) ?_
       try simp only [Act.put,tA,cZ,cS]
       refine tk 7 125 (by first | assumption | exact HT.out _ hB) ?_
       try simp only [Act.put,tA,cZ,cS]
       refine tk 8 126 (by first | assumption | exact HT.out _ hB) ?_
       try simp only [Act.put,tA,cZ,cS]
       refine tk 9 127 (by first | assumption | exact HT.out _ hB) ?_
       try simp only [Act.put,tA,cZ,cS]
       refine tk 10 128 (by first | assumption | exact HT.out _ hB) ?_
       try simp only [Act.put,tA,cZ,cS]
       refine tk 13 131 (by first | assumption | exact HT.out _ hB) ?_
       try simp only [Act.put,tA,cZ,cS]
       refine rd 11 (AllReadyH.cons rfl (fun K hK=>?_) AllReadyH.nil)
       (try simp only [gA]);(try simp only [gS]);(try simp only [gZ])
       go_simp
       (go_at_call 40;refine (Add_q _ _ RN RD RN RD 96 _ V14.out V14.out (by decide) (by decide)).mono ?_;rintro e wc11 ⟨N2,D2,hN2,⟨gb,Ab1,nb1,ob,eb,Eb,mb,db1,rfl,hz⟩,hb⟩)
       replace HM:=Hd (HM.out.below hb)
       replace V6:=Hd (V6.out.below hb)
       replace V7:=Hd (V7.out.below hb)
       replace HQA:=Hd (HQA.out.below hb)
       replace V14:=Hd (V14.out.below hb)
       replace hB:=Below.trans hB (hb.mono hB.size)
       have T1:=Hd hz
       have HN2:=Hd hN2
       clear hN2
       refine hK.out _ _ (HT.out _ hB) (fun hH=>?_)
       clear hK K hH
       try simp only [Act.put,tA,cZ,cS]
       clear hb hz
       refine rd 12 (AllReadyH.cons rfl (fun K hK=>?_) AllReadyH.nil)
       (try simp only [gA]);(try simp only [gS]);(try simp only [gZ])
       go_simp
       (go_at_call 38;refine (Abs_any _ N2 D2 197 _ T1.out (by decide)).mono ?_;rintro e wc12 ⟨⟨gc,Ac1,nc1,oc,ec,Ec,mc,dc1,rfl,hz⟩,hb⟩)
       replace HM:=Hd (HM.out.below hb)
       replace V6:=Hd (V6.out.below hb)
       replace V7:=Hd (V7.out.below hb)
       replace HQA:=Hd (HQA.out.below hb)
       replace V14:=Hd (V14.out.below hb)
       replace T1:=Hd (T1.out.below hb)
       replace hB:=Below.trans hB (hb.mono hB.size)
       have T2:=Hd hz
       refine hK.out _ _ (HT.out _ hB) (fun hH=>?_)
       clear hK K hH
       try simp only [Act.put,tA,cZ,cS]
       clear hb hz
       refine rd 14 (AllReadyH.cons rfl (fun K hK=>?_) AllReadyH.nil)
       (try simp only [gA]);(try simp only [gS]);(try simp only [gZ])
       go_simp
       (go_at_call 38;refine (Abs_any _ u s 7 _ V7.out (by decide)).mono ?_;rintro e wc14 ⟨⟨gd,Ad1,nd1,od,ed,Ed,md,dd1,rfl,hz⟩,hb⟩)
       replace HM:=Hd (HM.out.below hb)
       replace V6:=Hd (V6.out.below hb)
       replace V7:=Hd (V7.out.below hb)
       replace HQA:=Hd (HQA.out.below hb)
       replace V14:=Hd (V14.out.below hb)
       replace T1:=Hd (T1.out.below hb)
       replace T2:=Hd (T2.out.below hb)
       replace hB:=Below.trans hB (hb.mono hB.size)
       have T3:=Hd hz
       refine hK.out _ _ (HT.out _ hB) (fun hH=>?_)
       clear hK K hH
       try simp only [Act.put,tA,cZ,cS]
       clear hb hz
       refine rd 15 (AllReadyH.cons rfl (fun K hK=>?_) AllReadyH.nil)
       (try simp only [gA]);(try simp only [gS]);(try simp only [gZ])
       go_simp
       (go_at_call 26;refine (Cmp_q _ _ (absI N2) D2 (absI u) s 197 _ T2.out (T3.out.mono (by decide)) (by decide)).mono ?_;rintro e wc15 ⟨rfl,hb⟩)
       obtain ⟨cc,hcc⟩ : ∃ cc,cmpI (absI N2 * s) (absI u * D2) = cc:=⟨_,rfl⟩
       have hcc2:¬ 0 < cc:=by rw [<- hcc];exact cmp_le0 (HOK.out.2.2.2.2 rfl N2 D2 T1.out.d0 HN2.out)
       rw [hcc]
       clear hcc
       replace HM:=Hd (HM.out.below hb)
       replace V6:=Hd (V6.out.below hb)
       replace V7:=Hd (V7.out.below hb)
       replace HQA:=Hd (HQA.out.below hb)
       replace V14:=Hd (V14.out.below hb)
       replace T1:=Hd (T1.out.below hb)
       replace T2:=Hd (T2.out.below hb)
       replace T3:=Hd (T3.out.below hb)
       replace hB:=Below.trans hB (hb.mono hB.size)
       refine hK.out _ _ (HT.out _ hB) (fun hH=>?_)
       clear hK K hH
       try simp only [Act.put,tA,cZ,cS]
       clear hb
       refine tk 16 134 (by first | assumption | exact HT.out _ hB) ?_
       try simp only [Act.put,tA,cZ,cS]
       refine tk 17 135 (by first | assumption | exact HT.out _ hB) ?_
       try simp only [Act.put,tA,cZ,cS]
       refine tk 18 136 (by first | assumption | exact HT.out _ hB) ?_
       try simp only [Act.put,tA,cZ,cS]
       refine wpAnyH_done (by kernel_rfl) ?_ _
       replace B6:=Hd (B6.out.below hB)
       replace B7:=Hd (B7.out.below hB)
       replace B14:=Hd (B14.out.below hB)
       replace hw:=hw.trans (hB.mono hw.size)
       go_wp2_with fail
       exact ⟨⟨4,rfl,by decide,by decide,B6,B7,V6,V7,HM,HQA,Hd hw⟩,by show (4 - (4:Int)).toNat < (4 - (3:Int)).toNat;decide⟩
     ·as_aux_lemma=>
       have HSN:=Hd hs0
       have hsb:(sg == 0) = false:=by simpa using hs0
       have hsb2:(sg != 0) = true:=by simp [bne,hsb]
       have HRN:=Hd (show RN ≠ 0 from fun e0=>hs0 (by rw [<- HSG.out,cmpI_eq e0]))
       clear hs0
       go_upto_region 18 with fail
       have HT:=Hd (fun (w':World) (hb:Below w16.heap.size w16 w')=>(show w'.cell? ⟨j7,0,none⟩ = some (.bool g7) /\ w'.cell? ⟨j7,1,none⟩ = some (.slice A7 n7 o7) /\ w'.cell? ⟨j7,2,none⟩ = some (.bool e7) /\ w'.cell? ⟨j7,3,none⟩ = some (.slice E7 m7 d7) /\ w'.cell? ⟨(k13 + 1),0,none⟩ = some (.bool g14) /\ w'.cell? ⟨(k13 + 1),1,none⟩ = some (.slice A14 n14 o14) /\ w'.cell? ⟨(k13 + 1),2,none⟩ = some (.bool e14) /\ w'.cell? ⟨(k13 + 1),3,none⟩ = some (.slice E14 m14 d14) from ⟨(B7.out.below hb).c0,(B7.out.below hb).c1,(B7.out.below hb).c2,(B7.out.below hb).c3,(B14.out.below hb).c0,(B14.out.below hb).c1,(B14.out.below hb).c2,(B14.out.below hb).c3⟩))
       have hB:=(Below.refl w16.heap.size w16).drew
       replace HM:=Hd (HM.out.below hB)
       replace V6:=Hd (V6.out.below hB)
       replace V7:=Hd (V7.out.below hB)
       replace HQA:=Hd (HQA.out.below hB)
       replace V14:=Hd (V14.out.below hB)
       refine wp_region_held_drew (S:=fun w'=>w'.cell? ⟨j7,0,none⟩ = some (.bool g7) /\ w'.cell? ⟨j7,1,none⟩ = some (.slice A7 n7 o7) /\ w'.cell? ⟨j7,2,none⟩ = some (.bool e7) /\ w'.cell? ⟨j7,3,none⟩ = some (.slice E7 m7 d7) /\ w'.cell? ⟨(k13 + 1),0,none⟩ = some (.bool g14) /\ w'.cell? ⟨(k13 + 1),1,none⟩ = some (.slice A14 n14 o14) /\ w'.cell? ⟨(k13 + 1),2,none⟩ = some (.bool e14) /\ w'.cell? ⟨(k13 + 1),3,none⟩ = some (.slice E14 m14 d14)) (by kernel_rfl) (HT.out _ hB) (fun hH=>?_)
       clear hH
       generalize w16.drew = wr0 at *
       refine tk 0 118 (by first | assumption | exact HT.out _ hB) ?_
       try simp only [Act.put,tA,cZ,cS]
       refine tk 1 119 (by first | assumption | exact HT.out _ hB) ?_
       try simp only [Act.put,tA,cZ,cS]
       refine tk 2 120 (by first | assumption | exact HT.out _ hB) ?_
       try simp only [Act.put,tA,cZ,cS]
       refine tk 3 121 (by first | assumption | exact HT.out _ hB) ?_
       try simp only [Act.put,tA,cZ,cS]
       refine tk 4 122 (by first | assumption | exact HT.out _ hB) ?_
       try simp only [Act.put,tA,cZ,cS]
       refine tk 5 123 (by first | assumption | exact HT.out _ hB) ?_
       try simp only [Act.put,tA,cZ,cS]
       refine tk 6 124 (by first | assumption | exact HT.out _ hB) ?_
       try simp only [Act.put,tA,cZ,cS]
       refine tk 7 125 (by first | assumption | exact HT.out _ hB) ?_
       try simp only [Act.put,tA,cZ,cS]
       refine tk 8 126 (by first | assumption | exact HT.out _ hB) ?_
       try simp only [Act.put,tA,cZ,cS]
       refine tk 9 127 (by first | assumption | exact HT.out _ hB) ?_
       try simp only [Act.put,tA,cZ,cS]
       refine tk 10 128 (by first | assumption | exact HT.out _ hB) ?_
       try simp only [Act.put,tA,cZ,cS]
       refine tk 13 131 (by first | assumption | exact HT.out _ hB) ?_
       try simp only [Act.put,tA,cZ,cS]
       refine rd 11 (AllReadyH.cons rfl (fun K hK=>?_) AllReadyH.nil)
       (try simp only [gA]);(try simp only [gS]);(try simp only [gZ])
       go_simp
       (go_at_call 40;refine (Add_q _ _ RN RD RN RD 96 _ V14.out V14.out (by decide) (by decide)).mono ?_;rintro e wc11 ⟨N2,D2,hN2,⟨gb,Ab1,nb1,ob,eb,Eb,mb,db1,rfl,hz⟩,hb⟩)
       replace HM:=Hd (HM.out.below hb)
       replace V6:=Hd (V6.out.below hb)
       replace V7:=Hd (V7.out.below hb)
       replace HQA:=Hd (HQA.out.below hb)
       replace V14:=Hd (V14.out.below hb)
       replace hB:=Below.trans hB (hb.mono hB.size)
       have T1:=Hd hz
       have HN2:=Hd hN2
       clear hN2
       refine hK.out _ _ (HT.out _ hB) (fun hH=>?_)
       clear hK K hH
       try simp only [Act.put,tA,cZ,cS]
       clear hb hz
       refine rd 12 (AllReadyH.cons rfl (fun K hK=>?_) AllReadyH.nil)
       (try simp only [gA]);(try simp only [gS]);(try simp only [gZ])
       go_simp
       (go_at_call 38;refine (Abs_any _ N2 D2 197 _ T1.out (by decide)).mono ?_;rintro e wc12 ⟨⟨gc,Ac1,nc1,oc,ec,Ec,mc,dc1,rfl,hz⟩,hb⟩)
       replace HM:=Hd (HM.out.below hb)
       replace V6:=Hd (V6.out.below hb)
       replace V7:=Hd (V7.out.below hb)
       replace HQA:=Hd (HQA.out.below hb)
       replace V14:=Hd (V14.out.below hb)
       replace T1:=Hd (T1.out.below hb)
       replace hB:=Below.trans hB (hb.mono hB.size)
       have T2:=Hd hz
       refine hK.out _ _ (HT.out _ hB) (fun hH=>?_)
       clear hK K hH
       try simp only [Act.put,tA,cZ,cS]
       clear hb hz
       refine rd 14 (AllReadyH.cons rfl (fun K hK=>?_) AllReadyH.nil)
       (try simp only [gA]);(try simp only [gS]);(try simp only [gZ])
       go_simp
       (go_at_call 38;refine (Abs_any _ u s 7 _ V7.out (by decide)).mono ?_;rintro e wc14 ⟨⟨gd,Ad1,nd1,od,ed,Ed,md,dd1,rfl,hz⟩,hb⟩)
       replace HM:=Hd (HM.out.below hb)
       replace V6:=Hd (V6.out.below hb)
       replace V7:=Hd (V7.out.below hb)
       replace HQA:=Hd (HQA.out.below hb)
       replace V14:=Hd (V14.out.below hb)
       replace T1:=Hd (T1.out.below hb)
       replace T2:=Hd (T2.out.below hb)
       replace hB:=Below.trans hB (hb.mono hB.size)
       have T3:=Hd hz
       refine hK.out _ _ (HT.out _ hB) (fun hH=>?_)
       clear hK K hH
       try simp only [Act.put,tA,cZ,cS]
       clear hb hz
       refine rd 15 (AllReadyH.cons rfl (fun K hK=>?_) AllReadyH.nil)
       (try simp only [gA]);(try simp only [gS]);(try simp only [gZ])
       go_simp
       (go_at_call 26;refine (Cmp_q _ _ (absI N2) D2 (absI u) s 197 _ T2.out (T3.out.mono (by decide)) (by decide)).mono ?_;rintro e wc15 ⟨rfl,hb⟩)
       obtain ⟨cc,hcc⟩ : ∃ cc,cmpI (absI N2 * s) (absI u * D2) = cc:=⟨_,rfl⟩
       have hcc2:¬ 0 < cc:=by rw [<- hcc];exact cmp_le0 (HOK.out.2.2.2.2 rfl N2 D2 T1.out.d0 HN2.out)
       rw [hcc]
       clear hcc
       replace HM:=Hd (HM.out.below hb)
       replace V6:=Hd (V6.out.below hb)
       replace V7:=Hd (V7.out.below hb)
       replace HQA:=Hd (HQA.out.below hb)
       replace V14:=Hd (V14.out.below hb)
       replace T1:=Hd (T1.out.below hb)
       replace T2:=Hd (T2.out.below hb)
       replace T3:=Hd (T3.out.below hb)
       replace hB:=Below.trans hB (hb.mono hB.size)
       refine hK.out _ _ (HT.out _ hB) (fun hH=>?_)
       clear hK K hH
       try simp only [Act.put,tA,cZ,cS]
       clear hb
       refine tk 16 134 (by first | assumption | exact HT.out _ hB) ?_
       try simp only [Act.put,tA,cZ,cS]
       refine tk 17 135 (by first | assumption | exact HT.out _ hB) ?_
       try simp only [Act.put,tA,cZ,cS]
       refine tk 18 136 (by first | assumption | exact HT.out _ hB) ?_
       try simp only [Act.put,tA,cZ,cS]
       refine wpAnyH_done (by kernel_rfl) ?_ _
       replace B6:=Hd (B6.out.below hB)
       replace B7:=Hd (B7.out.below hB)
       replace B14:=Hd (B14.out.below hB)
       replace hw:=hw.trans (hB.mono hw.size)
       go_wp2_with fail
       exact ⟨⟨4,rfl,by decide,by decide,B6,B7,V6,V7,HM,HQA,Hd hw⟩,by show (4 - (4:Int)).toNat < (4 - (3:Int)).toNat;decide⟩
end Go.Proofs.YtbajnceoolkckaaGreat
