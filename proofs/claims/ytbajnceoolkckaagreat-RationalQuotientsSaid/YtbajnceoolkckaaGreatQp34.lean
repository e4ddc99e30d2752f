/- Of the proof of RationalQuotients: RatZ. -/
import Derived.Test.YtbajnceoolkckaaGreatQp33
open List renaming getElem_toArray → gA, getElem_cons_succ → gS, getElem_cons_zero → gZ, setIfInBounds_toArray → tA, set_cons_zero → cZ, set_cons_succ → cS
open Go.Lib renaming hid → Hd
set_option maxRecDepth 100000
set_option maxHeartbeats 16000000
namespace Go.Proofs.YtbajnceoolkckaaGreat
open Go.RowKit LM
theorem cmp_one (d:Int) : (cmpI d 1 == 0) = decide (d = 1):=by
 by_cases h:d = 1
 ·rw [cmpI_eq h,decide_eq_true h];rfl
 ·rw [decide_eq_false h];simpa using (fun e=>h (cmpI_zero e) : cmpI d 1 ≠ 0)
theorem RQ.parts {w:World} {g1 g2:Bool} {A1 A2:Option Addr} {n1 c1 n2 c2:Nat} {n d:Int} {L:Nat} (h:RQ w (.agg #[.bool g1,.slice A1 n1 c1,.bool g2,.slice A2 n2 c2]) n d L) :
  Rval w (.agg #[.bool g1,.slice A1 n1 c1]) n L /\ Rval w (.agg #[.bool g2,.slice A2 n2 c2]) d L /\ 0 < d /\ Int.gcd n d = 1:=by
 obtain ⟨g1',A1',n1',c1',g2',A2',n2',c2',e,h1,h2,h3,h4⟩:=h
 injection e with e
 injection e with e
 simp at e
 obtain ⟨⟨⟩,⟨rfl,rfl,rfl⟩,⟨⟩,⟨rfl,rfl,rfl⟩⟩:=e
 exact ⟨h1,h2,h3,h4⟩
def RQRes (L:Nat) (n d:Int) (w:World) (e:Ending) (w':World) : Prop:=
 (∃ g1 A1 n1 c1 g2 A2 n2 c2,e = .returned (.agg #[.bool g1,.slice A1 n1 c1,.bool g2,.slice A2 n2 c2]) /\ RQ w' (.agg #[.bool g1,.slice A1 n1 c1,.bool g2,.slice A2 n2 c2]) n d L) /\ Below w.heap.size w w'
theorem rSign_q (v:Value) (n d:Int) (L:Nat) (w:World) (h:RQ w v n d L) (hL:L <= 100000) :
  Calls Tryz.prog 25 #[v] w fun e w'=>e = .returned (.int .i64 (cmpI n 0)) /\ Below w.heap.size w w':=by
 obtain ⟨g1,A1,n1,c1,e1,E1,m1,d1,rfl⟩:=h.form
 have hw:=below_alloc w (.cells #[.bool g1,.slice A1 n1 c1,.bool e1,.slice E1 m1 d1] 43)
 have B0:=Hd (Fx4.new w (.bool g1) (.slice A1 n1 c1) (.bool e1) (.slice E1 m1 d1) 43)
 have X:=Hd (h.parts.1.below hw)
 have Y:=Hd (h.parts.2.1.below hw)
 have hd:=h.parts.2.2.1
 have hco:=h.parts.2.2.2
 clear h
 obtain ⟨W0,hW0⟩ : ∃ W0,w.alloc (.cells #[.bool g1,.slice A1 n1 c1,.bool e1,.slice E1 m1 d1] 43) = W0:=⟨_,rfl⟩
 rw [hW0] at hw B0 X Y
 go_enter Tryz.func25,Tryz.ntmps25
 subst hW0
 obtain ⟨r0,r1,r2,r3,r4,r5,r6,r7,r8⟩:=B0.out
 go_wp2_with fail
 refine (rsign_any _ n L _ X.out (by omega)).mono ?_
 rintro e w1 ⟨rfl,hb⟩
 go_wp2
 go_ret
 exact ⟨rfl,hw.trans (hb.mono hw.size)⟩
theorem rWhole_q (v:Value) (n d:Int) (L:Nat) (w:World) (h:RQ w v n d L) (hL:L <= 100000) :
  Calls Tryz.prog 23 #[v] w fun e w'=>e = .returned (.bool (decide (d = 1))) /\ Below w.heap.size w w':=by
 obtain ⟨g1,A1,n1,c1,e1,E1,m1,d1,rfl⟩:=h.form
 have hw:=below_alloc w (.cells #[.bool g1,.slice A1 n1 c1,.bool e1,.slice E1 m1 d1] 43)
 have B0:=Hd (Fx4.new w (.bool g1) (.slice A1 n1 c1) (.bool e1) (.slice E1 m1 d1) 43)
 have X:=Hd (h.parts.1.below hw)
 have Y:=Hd (h.parts.2.1.below hw)
 have hd:=h.parts.2.2.1
 have hco:=h.parts.2.2.2
 clear h
 obtain ⟨W0,hW0⟩ : ∃ W0,w.alloc (.cells #[.bool g1,.slice A1 n1 c1,.bool e1,.slice E1 m1 d1] 43) = W0:=⟨_,rfl⟩
 rw [hW0] at hw B0 X Y
 go_enter Tryz.func23,Tryz.ntmps23
 go_upto_region 1 with fail
 clear hW0
 have HT:=Hd (fun (w':World) (hb:Below W0.heap.size W0 w')=>(show w'.cell? ⟨w.heap.size,0,none⟩ = some (.bool g1) /\ w'.cell? ⟨w.heap.size,1,none⟩ = some (.slice A1 n1 c1) /\ w'.cell? ⟨w.heap.size,2,none⟩ = some (.bool e1) /\ w'.cell? ⟨w.heap.size,3,none⟩ = some (.slice E1 m1 d1) from ⟨(B0.out.below hb).c0,(B0.out.below hb).c1,(B0.out.below hb).c2,(B0.out.below hb).c3⟩))
 have hB:=(Below.refl W0.heap.size W0).drew
 replace X:=Hd (X.out.below hB)
 replace Y:=Hd (Y.out.below hB)
 refine wp_region_held_drew (S:=fun w'=>w'.cell? ⟨w.heap.size,0,none⟩ = some (.bool g1) /\ w'.cell? ⟨w.heap.size,1,none⟩ = some (.slice A1 n1 c1) /\ w'.cell? ⟨w.heap.size,2,none⟩ = some (.bool e1) /\ w'.cell? ⟨w.heap.size,3,none⟩ = some (.slice E1 m1 d1)) (by kernel_rfl) (HT.out _ hB) (fun hH=>?_)
 clear hH
 generalize W0.drew = wr0 at *
 refine tk 0 3 (by first | assumption | exact HT.out _ hB) ?_
 try simp only [Act.put,tA,cZ,cS]
 refine tk 1 4 (by first | assumption | exact HT.out _ hB) ?_
 try simp only [Act.put,tA,cZ,cS]
 refine rd 2 (AllReadyH.cons rfl (fun K hK=>?_) AllReadyH.nil)
 (try simp only [gA]);(try simp only [gS]);(try simp only [gZ])
 go_simp
 (go_at_call 82;refine (one_any _).mono ?_;rintro e wc1 ⟨⟨gt1,At1,nt1,ct1,rfl,hz⟩,hb⟩)
 replace X:=Hd (X.out.below hb)
 replace Y:=Hd (Y.out.below hb)
 replace hB:=Below.trans hB (hb.mono hB.size)
 have T1:=Hd hz
 refine hK.out _ _ (HT.out _ hB) (fun hH=>?_)
 clear hK K hH
 try simp only [Act.put,tA,cZ,cS]
 clear hb hz
 refine rd 3 (AllReadyH.cons rfl (fun K hK=>?_) AllReadyH.nil)
 (try simp only [gA]);(try simp only [gS]);(try simp only [gZ])
 go_simp
 (go_at_call 83;refine (rcmp_any _ _ d 1 L 64 _ Y.out T1.out (by omega) (by omega)).mono ?_;rintro e wc2 ⟨rfl,hb⟩)
 replace X:=Hd (X.out.below hb)
 replace Y:=Hd (Y.out.below hb)
 replace T1:=Hd (T1.out.below hb)
 replace hB:=Below.trans hB (hb.mono hB.size)
 refine hK.out _ _ (HT.out _ hB) (fun hH=>?_)
 clear hK K hH
 try simp only [Act.put,tA,cZ,cS]
 clear hb
 refine tk 4 7 (by first | assumption | exact HT.out _ hB) ?_
 try simp only [Act.put,tA,cZ,cS]
 refine tk 5 2 (by first | assumption | exact HT.out _ hB) ?_
 try simp only [Act.put,tA,cZ,cS]
 refine wpAnyH_done (by kernel_rfl) ?_ _
 replace B0:=Hd (B0.out.below hB)
 replace hw:=hw.trans (hB.mono hw.size)
 go_wp2
 go_ret
 exact ⟨congrArg Ending.returned (congrArg Value.bool (cmp_one d)),hw⟩
theorem rOver_any (u v:Value) (x y:Int) (L:Nat) (w:World) (h:Rval w u x L) (g:Rval w v y L) (hL:L <= 1000) :
  Calls Tryz.prog 89 #[u,v] w (RQRes (L + 64) (newN x y) (newD x y) w):=by
 obtain ⟨p1,A1,n1,c1,rfl⟩:=h.form
 obtain ⟨p2,A2,n2,c2,rfl⟩:=g.form
 have t:=three34 w p1 p2 A1 A2 n1 c1 n2 c2
 obtain ⟨W0,hW0⟩ : ∃ W0,((w.alloc (.cells #[.bool p1,.slice A1 n1 c1] 34)).alloc (.cells #[.bool p2,.slice A2 n2 c2] 34)).alloc (.cells #[.bool false,.slice none 0 0,.bool false,.slice none 0 0] 43) = W0:=⟨_,rfl⟩
 rw [hW0] at t
 obtain ⟨hw,F0,F1,FR⟩:=t
 have B0:=Hd F0
 have B1:=Hd F1
 have BR:=Hd FR
 have X:=Hd (h.below hw)
 have Y:=Hd (g.below hw)
 clear F0 F1 FR h g
 go_enter Tryz.func89,Tryz.ntmps89
 go_upto_region 1 with fail
 clear hW0
 obtain ⟨c00,c01,f00,f01,s0⟩:=B0.out
 obtain ⟨c10,c11,f10,f11,s1⟩:=B1.out
 go_wp2_with fail
 refine (rNew_any _ _ x y L _ X.out Y.out hL).mono ?_
 rintro e w1 ⟨⟨y1,y2,y3,y4,y5,y6,y7,y8,rfl,hz⟩,hb⟩
 clear c00 c01 f00 f01 s0
 clear c10 c11 f10 f11 s1
 replace B0:=Hd (B0.out.below hb)
 replace B1:=Hd (B1.out.below hb)
 replace BR:=Hd (BR.out.below hb)
 replace X:=Hd (X.out.below hb)
 replace Y:=Hd (Y.out.below hb)
 replace hw:=hw.trans (hb.mono hw.size)
 have T1:=Hd hz
 clear hb hz
 have hX:=below_alloc w1 (.cells #[.bool y1,.slice y2 y3 y4,.bool y5,.slice y6 y7 y8] 43)
 replace B0:=Hd (B0.out.below hX)
 replace B1:=Hd (B1.out.below hX)
 replace BR:=Hd (BR.out.below hX)
 replace X:=Hd (X.out.below hX)
 replace Y:=Hd (Y.out.below hX)
 replace T1:=Hd (T1.out.below hX)
 replace hw:=hw.trans (hX.mono hw.size)
 have B2:=Hd (Fx4.new w1 (.bool y1) (.slice y2 y3 y4) (.bool y5) (.slice y6 y7 y8) 43)
 skip
 clear hX
 go_upto_region 2 with fail
 generalize w1.alloc (.cells #[.bool y1,.slice y2 y3 y4,.bool y5,.slice y6 y7 y8] 43) = W2 at *
 generalize w1.heap.size = k2 at *
 obtain ⟨c20,c21,c22,c23,f20,f21,f22,f23,s2⟩:=B2.out
 obtain ⟨cR0,cR1,cR2,cR3,fR0,fR1,fR2,fR3,sR⟩:=BR.out
 go_wp2
 exact bodyPost_ret (v:=.agg #[.bool y1,.slice y2 y3 y4,.bool y5,.slice y6 y7 y8]) (by simp [results,Tryz.results89,go_sem,cR0,cR1,cR2,cR3]) rfl ⟨⟨_,_,_,_,_,_,_,_,rfl,T1.out.put4 BR.out _ _ _ _⟩,below_put4 hw (by omega) _ _ _ _⟩
theorem two43 (w:World) (v0 v1 v2 v3:Value) : Below w.heap.size w ((w.alloc (.cells #[v0,v1,v2,v3] 43)).alloc (.cells #[.bool false,.slice none 0 0,.bool false,.slice none 0 0] 43)) /\ Fx4 ((w.alloc (.cells #[v0,v1,v2,v3] 43)).alloc (.cells #[.bool false,.slice none 0 0,.bool false,.slice none 0 0] 43)) w.heap.size v0 v1 v2 v3 /\ Fx4 ((w.alloc (.cells #[v0,v1,v2,v3] 43)).alloc (.cells #[.bool false,.slice none 0 0,.bool false,.slice none 0 0] 43)) (w.heap.size + 1) (.bool false) (.slice none 0 0) (.bool false) (.slice none 0 0) /\ ((w.alloc (.cells #[v0,v1,v2,v3] 43)).alloc (.cells #[.bool false,.slice none 0 0,.bool false,.slice none 0 0] 43)).heap.size = w.heap.size + 1 + 1:=by
 refine ⟨below_two _ _ _,(Fx4.new w _ _ _ _ 43).below (below_alloc _ _),?_,by simp⟩
 have h1:=Fx4.new (w.alloc (.cells #[v0,v1,v2,v3] 43)) (.bool false) (.slice none 0 0) (.bool false) (.slice none 0 0) 43
 rw [show (w.alloc (.cells #[v0,v1,v2,v3] 43)).heap.size = w.heap.size + 1 from by simp] at h1
 exact h1
theorem pair43 (w:World) (v0 v1 v2 v3 u0 u1 u2 u3:Value) : Below w.heap.size w ((w.alloc (.cells #[v0,v1,v2,v3] 43)).alloc (.cells #[u0,u1,u2,u3] 43)) /\ Fx4 ((w.alloc (.cells #[v0,v1,v2,v3] 43)).alloc (.cells #[u0,u1,u2,u3] 43)) w.heap.size v0 v1 v2 v3 /\ Fx4 ((w.alloc (.cells #[v0,v1,v2,v3] 43)).alloc (.cells #[u0,u1,u2,u3] 43)) (w.heap.size + 1) u0 u1 u2 u3 /\ ((w.alloc (.cells #[v0,v1,v2,v3] 43)).alloc (.cells #[u0,u1,u2,u3] 43)).heap.size = w.heap.size + 1 + 1:=by
 refine ⟨below_two _ _ _,(Fx4.new w _ _ _ _ 43).below (below_alloc _ _),?_,by simp⟩
 have h1:=Fx4.new (w.alloc (.cells #[v0,v1,v2,v3] 43)) u0 u1 u2 u3 43
 rw [show (w.alloc (.cells #[v0,v1,v2,v3] 43)).heap.size = w.heap.size + 1 from by simp] at h1
 exact h1
theorem three43 (w:World) (v0 v1 v2 v3 u0 u1 u2 u3:Value) : Below w.heap.size w (((w.alloc (.cells #[v0,v1,v2,v3] 43)).alloc (.cells #[u0,u1,u2,u3] 43)).alloc (.cells #[.bool false,.slice none 0 0,.bool false,.slice none 0 0] 43)) /\ Fx4 (((w.alloc (.cells #[v0,v1,v2,v3] 43)).alloc (.cells #[u0,u1,u2,u3] 43)).alloc (.cells #[.bool false,.slice none 0 0,.bool false,.slice none 0 0] 43)) w.heap.size v0 v1 v2 v3 /\ Fx4 (((w.alloc (.cells #[v0,v1,v2,v3] 43)).alloc (.cells #[u0,u1,u2,u3] 43)).alloc (.cells #[.bool false,.slice none 0 0,.bool false,.slice none 0 0] 43)) (w.heap.size + 1) u0 u1 u2 u3 /\ Fx4 (((w.alloc (.cells #[v0,v1,v2,v3] 43)).alloc (.cells #[u0,u1,u2,u3] 43)).alloc (.cells #[.bool false,.slice none 0 0,.bool false,.slice none 0 0] 43)) (w.heap.size + 1 + 1) (.bool false) (.slice none 0 0) (.bool false) (.slice none 0 0) /\ (((w.alloc (.cells #[v0,v1,v2,v3] 43)).alloc (.cells #[u0,u1,u2,u3] 43)).alloc (.cells #[.bool false,.slice none 0 0,.bool false,.slice none 0 0] 43)).heap.size = w.heap.size + 1 + 1 + 1:=by
 obtain ⟨hw,F0,F1,hs⟩:=pair43 w v0 v1 v2 v3 u0 u1 u2 u3
 have hX:=below_alloc ((w.alloc (.cells #[v0,v1,v2,v3] 43)).alloc (.cells #[u0,u1,u2,u3] 43)) (.cells #[.bool false,.slice none 0 0,.bool false,.slice none 0 0] 43)
 have F2:=Fx4.new ((w.alloc (.cells #[v0,v1,v2,v3] 43)).alloc (.cells #[u0,u1,u2,u3] 43)) (.bool false) (.slice none 0 0) (.bool false) (.slice none 0 0) 43
 rw [hs] at F2
 exact ⟨hw.trans (hX.mono hw.size),F0.below hX,F1.below hX,F2,by simp⟩
theorem rNeg_q (v:Value) (n d:Int) (L:Nat) (w:World) (h:RQ w v n d L) (hL:L <= 100000) :
  Calls Tryz.prog 37 #[v] w (RQRes L (-n) d w):=by
 obtain ⟨g1,A1,n1,c1,e1,E1,m1,d1,rfl⟩:=h.form
 obtain ⟨hw,F0,F1,hs⟩:=two43 w (.bool g1) (.slice A1 n1 c1) (.bool e1) (.slice E1 m1 d1)
 have X:=Hd (h.parts.1.below hw)
 have Y:=Hd (h.parts.2.1.below hw)
 have hd:=h.parts.2.2.1
 have hco:=h.parts.2.2.2
 obtain ⟨W0,hW0⟩ : ∃ W0,(w.alloc (.cells #[.bool g1,.slice A1 n1 c1,.bool e1,.slice E1 m1 d1] 43)).alloc (.cells #[.bool false,.slice none 0 0,.bool false,.slice none 0 0] 43) = W0:=⟨_,rfl⟩
 rw [hW0] at hw F0 F1 hs X Y
 have B0:=Hd F0
 have BR:=Hd F1
 clear F0 F1 h
 go_enter Tryz.func37,Tryz.ntmps37
 go_upto_region 1 with fail
 clear hW0
 have HT:=Hd (fun (w':World) (hb:Below W0.heap.size W0 w')=>(show w'.cell? ⟨w.heap.size,0,none⟩ = some (.bool g1) /\ w'.cell? ⟨w.heap.size,1,none⟩ = some (.slice A1 n1 c1) /\ w'.cell? ⟨w.heap.size,2,none⟩ = some (.bool e1) /\ w'.cell? ⟨w.heap.size,3,none⟩ = some (.slice E1 m1 d1) from ⟨(B0.out.below hb).c0,(B0.out.below hb).c1,(B0.out.below hb).c2,(B0.out.below hb).c3⟩))
 have HP:=Hd (fun (w':World) (x0 x1 x2 x3:Value) (h:w'.cell? ⟨w.heap.size,0,none⟩ = some (.bool g1) /\ w'.cell? ⟨w.heap.size,1,none⟩ = some (.slice A1 n1 c1) /\ w'.cell? ⟨w.heap.size,2,none⟩ = some (.bool e1) /\ w'.cell? ⟨w.heap.size,3,none⟩ = some (.slice E1 m1 d1))=>(show (fun w'=>w'.cell? ⟨w.heap.size,0,none⟩ = some (.bool g1) /\ w'.cell? ⟨w.heap.size,1,none⟩ = some (.slice A1 n1 c1) /\ w'.cell? ⟨w.heap.size,2,none⟩ = some (.bool e1) /\ w'.cell? ⟨w.heap.size,3,none⟩ = some (.slice E1 m1 d1)) (put4 w' (w.heap.size + 1) x0 x1 x2 x3) from ⟨(cell_put4 (by omega) _ _ _ _).trans h.1,(cell_put4 (by omega) _ _ _ _).trans h.2.1,(cell_put4 (by omega) _ _ _ _).trans h.2.2.1,(cell_put4 (by omega) _ _ _ _).trans h.2.2.2⟩))
 have hB:=(Below.refl W0.heap.size W0).drew
 replace X:=Hd (X.out.below hB)
 replace Y:=Hd (Y.out.below hB)
 refine wp_region_held_drew (S:=fun w'=>w'.cell? ⟨w.heap.size,0,none⟩ = some (.bool g1) /\ w'.cell? ⟨w.heap.size,1,none⟩ = some (.slice A1 n1 c1) /\ w'.cell? ⟨w.heap.size,2,none⟩ = some (.bool e1) /\ w'.cell? ⟨w.heap.size,3,none⟩ = some (.slice E1 m1 d1)) (by kernel_rfl) (HT.out _ hB) (fun hH=>?_)
 clear hH
 generalize W0.drew = wr0 at *
 refine tk 0 3 (by first | assumption | exact HT.out _ hB) ?_
 try simp only [Act.put,tA,cZ,cS]
 refine tk 3 6 (by first | assumption | exact HT.out _ hB) ?_
 try simp only [Act.put,tA,cZ,cS]
 refine tk 1 4 (by first | assumption | exact HT.out _ hB) ?_
 try simp only [Act.put,tA,cZ,cS]
 refine tk 4 7 (by first | assumption | exact HT.out _ hB) ?_
 try simp only [Act.put,tA,cZ,cS]
 refine rd 2 (AllReadyH.cons rfl (fun K hK=>?_) AllReadyH.nil)
 (try simp only [gA]);(try simp only [gS]);(try simp only [gZ])
 go_simp
 (go_at_call 79;refine (rneg_any _ n L _ X.out (by omega)).mono ?_;rintro e wc1 ⟨⟨gt1,At1,nt1,ct1,rfl,hz⟩,hb⟩)
 replace X:=Hd (X.out.below hb)
 replace Y:=Hd (Y.out.below hb)
 replace hB:=Below.trans hB (hb.mono hB.size)
 have T1:=Hd hz
 refine hK.out _ _ (HT.out _ hB) (fun hH=>?_)
 clear hK K hH
 try simp only [Act.put,tA,cZ,cS]
 clear hb hz
 refine tk 5 8 (by first | assumption | exact HT.out _ hB) ?_
 try simp only [Act.put,tA,cZ,cS]
 refine rd 6 (AllReadyH.cons rfl (fun K hK=>?_) AllReadyH.nil)
 (try simp only [gA]);(try simp only [gS]);(try simp only [gZ])
 have R4:=BR.out.below hB
 obtain ⟨r0,r1,r2,r3,r4,r5,r6,r7,r8⟩:=id R4
 go_simp
 refine hK.out _ _ (HP.out _ (.bool gt1) (.slice At1 nt1 ct1) (.bool e1) (.slice E1 m1 d1) (HT.out _ hB)) (fun hH=>?_)
 clear hK K
 try simp only [Act.put,tA,cZ,cS]
 refine wpAnyH_done (by kernel_rfl) ?_ _
 go_wp2
 refine bodyPost_ret (v:=.agg #[.bool gt1,.slice At1 nt1 ct1,.bool e1,.slice E1 m1 d1]) (by simp [results,Tryz.results37,go_sem,r0,r1,r2,r3]) rfl ⟨⟨_,_,_,_,_,_,_,_,rfl,(RQ.mk' T1.out Y.out hd (by rw [Int.neg_gcd];exact hco)).put4 R4 _ _ _ _⟩,below_put4 (hw.trans (hB.mono hw.size)) (by omega) _ _ _ _⟩
theorem rAdd_q (u v:Value) (n d m c:Int) (L:Nat) (w:World) (h:RQ w u n d L) (g:RQ w v m c L) (hL:L <= 400) :
  Calls Tryz.prog 41 #[u,v] w (RQRes (2 * L + 2 + 64) (newN (n * c + m * d) (d * c)) (newD (n * c + m * d) (d * c)) w):=by
 obtain ⟨g1,A1,n1,c1,e1,E1,m1,d1,rfl⟩:=h.form
 obtain ⟨g2,A2,n2,c2,e2,E2,m2,d2,rfl⟩:=g.form
 obtain ⟨hw,F0,F1,F2,hs⟩:=three43 w (.bool g1) (.slice A1 n1 c1) (.bool e1) (.slice E1 m1 d1) (.bool g2) (.slice A2 n2 c2) (.bool e2) (.slice E2 m2 d2)
 have X:=Hd (h.below hw)
 have Y:=Hd (g.below hw)
 obtain ⟨W0,hW0⟩ : ∃ W0,((w.alloc (.cells #[.bool g1,.slice A1 n1 c1,.bool e1,.slice E1 m1 d1] 43)).alloc (.cells #[.bool g2,.slice A2 n2 c2,.bool e2,.slice E2 m2 d2] 43)).alloc (.cells #[.bool false,.slice none 0 0,.bool false,.slice none 0 0] 43) = W0:=⟨_,rfl⟩
 rw [hW0] at hw F0 F1 F2 hs X Y
 have B0:=Hd F0
 have B1:=Hd F1
 have BR:=Hd F2
 clear F0 F1 F2 h g
 go_enter Tryz.func41,Tryz.ntmps41
 go_upto_region 1 with fail
 clear hW0
 have X1:=Hd X.out.parts.1
 have X2:=Hd X.out.parts.2.1
 have Y1:=Hd Y.out.parts.1
 have Y2:=Hd Y.out.parts.2.1
 clear X Y
 have HT:=Hd (fun (w':World) (hb:Below W0.heap.size W0 w')=>(show w'.cell? ⟨w.heap.size,0,none⟩ = some (.bool g1) /\ w'.cell? ⟨w.heap.size,1,none⟩ = some (.slice A1 n1 c1) /\ w'.cell? ⟨w.heap.size,2,none⟩ = some (.bool e1) /\ w'.cell? ⟨w.heap.size,3,none⟩ = some (.slice E1 m1 d1) /\ w'.cell? ⟨(w.heap.size + 1),0,none⟩ = some (.bool g2) /\ w'.cell? ⟨(w.heap.size + 1),1,none⟩ = some (.slice A2 n2 c2) /\ w'.cell? ⟨(w.heap.size + 1),2,none⟩ = some (.bool e2) /\ w'.cell? ⟨(w.heap.size + 1),3,none⟩ = some (.slice E2 m2 d2) from ⟨(B0.out.below hb).c0,(B0.out.below hb).c1,(B0.out.below hb).c2,(B0.out.below hb).c3,(B1.out.below hb).c0,(B1.out.below hb).c1,(B1.out.below hb).c2,(B1.out.below hb).c3⟩))
 have HP:=Hd (fun (w':World) (x0 x1 x2 x3:Value) (h:w'.cell? ⟨w.heap.size,0,none⟩ = some (.bool g1) /\ w'.cell? ⟨w.heap.size,1,none⟩ = some (.slice A1 n1 c1) /\ w'.cell? ⟨w.heap.size,2,none⟩ = some (.bool e1) /\ w'.cell? ⟨w.heap.size,3,none⟩ = some (.slice E1 m1 d1) /\ w'.cell? ⟨(w.heap.size + 1),0,none⟩ = some (.bool g2) /\ w'.cell? ⟨(w.heap.size + 1),1,none⟩ = some (.slice A2 n2 c2) /\ w'.cell? ⟨(w.heap.size + 1),2,none⟩ = some (.bool e2) /\ w'.cell? ⟨(w.heap.size + 1),3,none⟩ = some (.slice E2 m2 d2))=>(show (fun w'=>w'.cell? ⟨w.heap.size,0,none⟩ = some (.bool g1) /\ w'.cell? ⟨w.heap.size,1,none⟩ = some (.slice A1 n1 c1) /\ w'.cell? ⟨w.heap.size,2,none⟩ = some (.bool e1) /\ w'.cell? ⟨w.heap.size,3,none⟩ = some (.slice E1 m1 d1) /\ w'.cell? ⟨(w.heap.size + 1),0,none⟩ = some (.bool g2) /\ w'.cell? ⟨(w.heap.size + 1),1,none⟩ = some (.slice A2 n2 c2) /\ w'.cell? ⟨(w.heap.size + 1),2,none⟩ = some (.bool e2) /\ w'.cell? ⟨(w.heap.size + 1),3,none⟩ = some (.slice E2 m2 d2)) (put4 w' (w.heap.size + 1 + 1) x0 x1 x2 x3) from ⟨(cell_put4 (by omega) _ _ _ _).trans h.1,(cell_put4 (by omega) _ _ _ _).trans h.2.1,(cell_put4 (by omega) _ _ _ _).trans h.2.2.1,(cell_put4 (by omega) _ _ _ _).trans h.2.2.2.1,(cell_put4 (by omega) _ _ _ _).trans h.2.2.2.2.1,(cell_put4 (by omega) _ _ _ _).trans h.2.2.2.2.2.1,(cell_put4 (by omega) _ _ _ _).trans h.2.2.2.2.2.2.1,(cell_put4 (by omega) _ _ _ _).trans h.2.2.2.2.2.2.2⟩))
 have hB:=(Below.refl W0.heap.size W0).drew
 replace X1:=Hd (X1.out.below hB)
 replace X2:=Hd (X2.out.below hB)
 replace Y1:=Hd (Y1.out.below hB)
 replace Y2:=Hd (Y2.out.below hB)
 refine wp_region_held_drew (S:=fun w'=>w'.cell? ⟨w.heap.size,0,none⟩ = some (.bool g1) /\ w'.cell? ⟨w.heap.size,1,none⟩ = some (.slice A1 n1 c1) /\ w'.cell? ⟨w.heap.size,2,none⟩ = some (.bool e1) /\ w'.cell? ⟨w.heap.size,3,none⟩ = some (.slice E1 m1 d1) /\ w'.cell? ⟨(w.heap.size + 1),0,none⟩ = some (.bool g2) /\ w'.cell? ⟨(w.heap.size + 1),1,none⟩ = some (.slice A2 n2 c2) /\ w'.cell? ⟨(w.heap.size + 1),2,none⟩ = some (.bool e2) /\ w'.cell? ⟨(w.heap.size + 1),3,none⟩ = some (.slice E2 m2 d2)) (by kernel_rfl) (HT.out _ hB) (fun hH=>?_)
 clear hH
 generalize W0.drew = wr0 at *
 refine tk 0 5 (by first | assumption | exact HT.out _ hB) ?_
 try simp only [Act.put,tA,cZ,cS]
 refine tk 2 7 (by first | assumption | exact HT.out _ hB) ?_
 try simp only [Act.put,tA,cZ,cS]
 refine tk 5 10 (by first | assumption | exact HT.out _ hB) ?_
 try simp only [Act.put,tA,cZ,cS]
 refine tk 7 12 (by first | assumption | exact HT.out _ hB) ?_
 try simp only [Act.put,tA,cZ,cS]
 refine tk 11 16 (by first | assumption | exact HT.out _ hB) ?_
 try simp only [Act.put,tA,cZ,cS]
 refine tk 13 18 (by first | assumption | exact HT.out _ hB) ?_
 try simp only [Act.put,tA,cZ,cS]
 refine tk 1 6 (by first | assumption | exact HT.out _ hB) ?_
 try simp only [Act.put,tA,cZ,cS]
 refine tk 3 8 (by first | assumption | exact HT.out _ hB) ?_
 try simp only [Act.put,tA,cZ,cS]
 refine tk 6 11 (by first | assumption | exact HT.out _ hB) ?_
 try simp only [Act.put,tA,cZ,cS]
 refine tk 8 13 (by first | assumption | exact HT.out _ hB) ?_
 try simp only [Act.put,tA,cZ,cS]
 refine tk 12 17 (by first | assumption | exact HT.out _ hB) ?_
 try simp only [Act.put,tA,cZ,cS]
 refine tk 14 19 (by first | assumption | exact HT.out _ hB) ?_
 try simp only [Act.put,tA,cZ,cS]
 refine rd 4 (AllReadyH.cons rfl (fun K hK=>?_) AllReadyH.nil)
 (try simp only [gA]);(try simp only [gS]);(try simp only [gZ])
 go_simp
 (go_at_call 90;refine (rMul_any _ _ n c L L _ X1.out Y2.out (by omega) (by omega)).mono ?_;rintro e wc1 ⟨⟨gt1,At1,nt1,ct1,rfl,hz⟩,hb⟩)
 replace X1:=Hd (X1.out.below hb)
 replace X2:=Hd (X2.out.below hb)
 replace Y1:=Hd (Y1.out.below hb)
 replace Y2:=Hd (Y2.out.below hb)
 replace hB:=Below.trans hB (hb.mono hB.size)
 have T1:=Hd hz
 refine hK.out _ _ (HT.out _ hB) (fun hH=>?_)
 clear hK K hH
 try simp only [Act.put,tA,cZ,cS]
 clear hb hz
 refine rd 9 (AllReadyH.cons rfl (fun K hK=>?_) AllReadyH.nil)
 (try simp only [gA]);(try simp only [gS]);(try simp only [gZ])
 go_simp
 (go_at_call 90;refine (rMul_any _ _ m d L L _ Y1.out X2.out (by omega) (by omega)).mono ?_;rintro e wc2 ⟨⟨gt2,At2,nt2,ct2,rfl,hz⟩,hb⟩)
 replace X1:=Hd (X1.out.below hb)
 replace X2:=Hd (X2.out.below hb)
 replace Y1:=Hd (Y1.out.below hb)
 replace Y2:=Hd (Y2.out.below hb)
 replace T1:=Hd (T1.out.below hb)
 replace hB:=Below.trans hB (hb.mono hB.size)
 have T2:=Hd hz
 refine hK.out _ _ (HT.out _ hB) (fun hH=>?_)
 clear hK K hH
 try simp only [Act.put,tA,cZ,cS]
 clear hb hz
 refine rd 10 (AllReadyH.cons rfl (fun K hK=>?_) AllReadyH.nil)
 (try simp only [gA]);(try simp only [gS]);(try simp only [gZ])
 go_simp
 (go_at_call 86;refine (radd_any _ _ (n * c) (m * d) (L + L + 1) (L + L + 1) _ T1.out T2.out (by omega) (by omega)).mono ?_;rintro e wc3 ⟨⟨gt3,At3,nt3,ct3,rfl,hz⟩,hb⟩)
 replace X1:=Hd (X1.out.below hb)
 replace X2:=Hd (X2.out.below hb)
 replace Y1:=Hd (Y1.out.below hb)
 replace Y2:=Hd (Y2.out.below hb)
 replace T1:=Hd (T1.out.below hb)
 replace T2:=Hd (T2.out.below hb)
 replace hB:=Below.trans hB (hb.mono hB.size)
 clear T1
 clear T2
 have T3:=Hd (hz.mono (show max (L + L + 1) (L + L + 1) + 1 <= 2 * L + 2 by omega))
 refine hK.out _ _ (HT.out _ hB) (fun hH=>?_)
 clear hK K hH
 try simp only [Act.put,tA,cZ,cS]
 clear hb hz
 refine rd 15 (AllReadyH.cons rfl (fun K hK=>?_) AllReadyH.nil)
 (try simp only [gA]);(try simp only [gS]);(try simp only [gZ])
 go_simp
 (go_at_call 90;refine (rMul_any _ _ d c L L _ X2.out Y2.out (by omega) (by omega)).mono ?_;rintro e wc4 ⟨⟨gt4,At4,nt4,ct4,rfl,hz⟩,hb⟩)
 replace X1:=Hd (X1.out.below hb)
 replace X2:=Hd (X2.out.below hb)
 replace Y1:=Hd (Y1.out.below hb)
 replace Y2:=Hd (Y2.out.below hb)
 replace T3:=Hd (T3.out.below hb)
 replace hB:=Below.trans hB (hb.mono hB.size)
 have T4:=Hd (hz.mono (show L + L + 1 <= 2 * L + 2 by omega))
 refine hK.out _ _ (HT.out _ hB) (fun hH=>?_)
 clear hK K hH
 try simp only [Act.put,tA,cZ,cS]
 clear hb hz
 refine rd 16 (AllReadyH.cons rfl (fun K hK=>?_) AllReadyH.nil)
 (try simp only [gA]);(try simp only [gS]);(try simp only [gZ])
 go_simp
 (go_at_call 89;refine (rOver_any _ _ (n * c + m * d) (d * c) (2 * L + 2) _ T3.out T4.out (by omega)).mono ?_;rintro e wc5 ⟨⟨g5,A5,n5,c5,e5,E5,m5,d5,rfl,hz⟩,hb⟩)
 replace X1:=Hd (X1.out.below hb)
 replace X2:=Hd (X2.out.below hb)
 replace Y1:=Hd (Y1.out.below hb)
 replace Y2:=Hd (Y2.out.below hb)
 replace T3:=Hd (T3.out.below hb)
 replace T4:=Hd (T4.out.below hb)
 replace hB:=Below.trans hB (hb.mono hB.size)
 clear T3
 clear T4
 have T5:=Hd hz
 refine hK.out _ _ (HT.out _ hB) (fun hH=>?_)
 clear hK K hH
 try simp only [Act.put,tA,cZ,cS]
 clear hb hz
 refine rd 17 (AllReadyH.cons rfl (fun K hK=>?_) AllReadyH.nil)
 (try simp only [gA]);(try simp only [gS]);(try simp only [gZ])
 have R4:=BR.out.below hB
 obtain ⟨r0,r1,r2,r3,r4,r5,r6,r7,r8⟩:=id R4
 go_simp
 refine hK.out _ _ (HP.out _ (.bool g5) (.slice A5 n5 c5) (.bool e5) (.slice E5 m5 d5) (HT.out _ hB)) (fun hH=>?_)
 clear hK K
 try simp only [Act.put,tA,cZ,cS]
 refine wpAnyH_done (by kernel_rfl) ?_ _
 go_wp2
 refine bodyPost_ret (v:=.agg #[.bool g5,.slice A5 n5 c5,.bool e5,.slice E5 m5 d5]) (by simp [results,Tryz.results41,go_sem,r0,r1,r2,r3]) rfl ⟨⟨_,_,_,_,_,_,_,_,rfl,T5.out.put4 R4 _ _ _ _⟩,below_put4 (hw.trans (hB.mono hw.size)) (by omega) _ _ _ _⟩
theorem rSub_q (u v:Value) (n d m c:Int) (L:Nat) (w:World) (h:RQ w u n d L) (g:RQ w v m c L) (hL:L <= 400) :
  Calls Tryz.prog 43 #[u,v] w (RQRes (2 * L + 2 + 64) (newN (n * c + -m * d) (d * c)) (newD (n * c + -m * d) (d * c)) w):=by
 obtain ⟨g1,A1,n1,c1,e1,E1,m1,d1,rfl⟩:=h.form
 obtain ⟨g2,A2,n2,c2,e2,E2,m2,d2,rfl⟩:=g.form
 obtain ⟨hw,F0,F1,F2,hs⟩:=three43 w (.bool g1) (.slice A1 n1 c1) (.bool e1) (.slice E1 m1 d1) (.bool g2) (.slice A2 n2 c2) (.bool e2) (.slice E2 m2 d2)
 have X:=Hd (h.below hw)
 have Y:=Hd (g.below hw)
 obtain ⟨W0,hW0⟩ : ∃ W0,((w.alloc (.cells #[.bool g1,.slice A1 n1 c1,.bool e1,.slice E1 m1 d1] 43)).alloc (.cells #[.bool g2,.slice A2 n2 c2,.bool e2,.slice E2 m2 d2] 43)).alloc (.cells #[.bool false,.slice none 0 0,.bool false,.slice none 0 0] 43) = W0:=⟨_,rfl⟩
 rw [hW0] at hw F0 F1 F2 hs X Y
 have B0:=Hd F0
 have B1:=Hd F1
 have BR:=Hd F2
 clear F0 F1 F2 h g
 go_enter Tryz.func43,Tryz.ntmps43
 go_upto_region 1 with fail
 clear hW0
 have HT:=Hd (fun (w':World) (hb:Below W0.heap.size W0 w')=>(show w'.cell? ⟨w.heap.size,0,none⟩ = some (.bool g1) /\ w'.cell? ⟨w.heap.size,1,none⟩ = some (.slice A1 n1 c1) /\ w'.cell? ⟨w.heap.size,2,none⟩ = some (.bool e1) /\ w'.cell? ⟨w.heap.size,3,none⟩ = some (.slice E1 m1 d1) /\ w'.cell? ⟨(w.heap.size + 1),0,none⟩ = some (.bool g2) /\ w'.cell? ⟨(w.heap.size + 1),1,none⟩ = some (.slice A2 n2 c2) /\ w'.cell? ⟨(w.heap.size + 1),2,none⟩ = some (.bool e2) /\ w'.cell? ⟨(w.heap.size + 1),3,none⟩ = some (.slice E2 m2 d2) from ⟨(B0.out.below hb).c0,(B0.out.below hb).c1,(B0.out.below hb).c2,(B0.out.below hb).c3,(B1.out.below hb).c0,(B1.out.below hb).c1,(B1.out.below hb).c2,(B1.out.below hb).c3⟩))
 have HP:=Hd (fun (w':World) (x0 x1 x2 x3:Value) (h:w'.cell? ⟨w.heap.size,0,none⟩ = some (.bool g1) /\ w'.cell? ⟨w.heap.size,1,none⟩ = some (.slice A1 n1 c1) /\ w'.cell? ⟨w.heap.size,2,none⟩ = some (.bool e1) /\ w'.cell? ⟨w.heap.size,3,none⟩ = some (.slice E1 m1 d1) /\ w'.cell? ⟨(w.heap.size + 1),0,none⟩ = some (.bool g2) /\ w'.cell? ⟨(w.heap.size + 1),1,none⟩ = some (.slice A2 n2 c2) /\ w'.cell? ⟨(w.heap.size + 1),2,none⟩ = some (.bool e2) /\ w'.cell? ⟨(w.heap.size + 1),3,none⟩ = some (.slice E2 m2 d2))=>(show (fun w'=>w'.cell? ⟨w.heap.size,0,none⟩ = some (.bool g1) /\ w'.cell? ⟨w.heap.size,1,none⟩ = some (.slice A1 n1 c1) /\ w'.cell? ⟨w.heap.size,2,none⟩ = some (.bool e1) /\ w'.cell? ⟨w.heap.size,3,none⟩ = some (.slice E1 m1 d1) /\ w'.cell? ⟨(w.heap.size + 1),0,none⟩ = some (.bool g2) /\ w'.cell? ⟨(w.heap.size + 1),1,none⟩ = some (.slice A2 n2 c2) /\ w'.cell? ⟨(w.heap.size + 1),2,none⟩ = some (.bool e2) /\ w'.cell? ⟨(w.heap.size + 1),3,none⟩ = some (.slice E2 m2 d2)) (put4 w' (w.heap.size + 1 + 1) x0 x1 x2 x3) from ⟨(cell_put4 (by omega) _ _ _ _).trans h.1,(cell_put4 (by omega) _ _ _ _).trans h.2.1,(cell_put4 (by omega) _ _ _ _).trans h.2.2.1,(cell_put4 (by omega) _ _ _ _).trans h.2.2.2.1,(cell_put4 (by omega) _ _ _ _).trans h.2.2.2.2.1,(cell_put4 (by omega) _ _ _ _).trans h.2.2.2.2.2.1,(cell_put4 (by omega) _ _ _ _).trans h.2.2.2.2.2.2.1,(cell_put4 (by omega) _ _ _ _).trans h.2.2.2.2.2.2.2⟩))
 have hB:=(Below.refl W0.heap.size W0).drew
 replace X:=Hd (X.out.below hB)
 replace Y:=Hd (Y.out.below hB)
 refine wp_region_held_drew (S:=fun w'=>w'.cell? ⟨w.heap.size,0,none⟩ = some (.bool g1) /\ w'.cell? ⟨w.heap.size,1,none⟩ = some (.slice A1 n1 c1) /\ w'.cell? ⟨w.heap.size,2,none⟩ = some (.bool e1) /\ w'.cell? ⟨w.heap.size,3,none⟩ = some (.slice E1 m1 d1) /\ w'.cell? ⟨(w.heap.size + 1),0,none⟩ = some (.bool g2) /\ w'.cell? ⟨(w.heap.size + 1),1,none⟩ = some (.slice A2 n2 c2) /\ w'.cell? ⟨(w.heap.size + 1),2,none⟩ = some (.bool e2) /\ w'.cell? ⟨(w.heap.size + 1),3,none⟩ = some (.slice E2 m2 d2)) (by kernel_rfl) (HT.out _ hB) (fun hH=>?_)
 clear hH
 generalize W0.drew = wr0 at *
 refine tk 0 5 (by first | assumption | exact HT.out _ hB) ?_
 try simp only [Act.put,tA,cZ,cS]
 refine tk 1 6 (by first | assumption | exact HT.out _ hB) ?_
 try simp only [Act.put,tA,cZ,cS]
 refine rd 2 (AllReadyH.cons rfl (fun K hK=>?_) AllReadyH.nil)
 (try simp only [gA]);(try simp only [gS]);(try simp only [gZ])
 go_simp
 (go_at_call 37;refine (rNeg_q _ m c L _ Y.out (by omega)).mono ?_;rintro e wc1 ⟨⟨g4,A4,n4,c4,e4,E4,m4,d4,rfl,hz⟩,hb⟩)
 replace X:=Hd (X.out.below hb)
 replace Y:=Hd (Y.out.below hb)
 replace hB:=Below.trans hB (hb.mono hB.size)
 have T4:=Hd hz
 refine hK.out _ _ (HT.out _ hB) (fun hH=>?_)
 clear hK K hH
 try simp only [Act.put,tA,cZ,cS]
 clear hb hz
 refine rd 3 (AllReadyH.cons rfl (fun K hK=>?_) AllReadyH.nil)
 (try simp only [gA]);(try simp only [gS]);(try simp only [gZ])
 go_simp
 (go_at_call 41;refine (rAdd_q _ _ n d (-m) c L _ X.out T4.out hL).mono ?_;rintro e wc2 ⟨⟨g5,A5,n5,c5,e5,E5,m5,d5,rfl,hz⟩,hb⟩)
 replace X:=Hd (X.out.below hb)
 replace Y:=Hd (Y.out.below hb)
 replace T4:=Hd (T4.out.below hb)
 replace hB:=Below.trans hB (hb.mono hB.size)
 clear T4
 have T5:=Hd hz
 refine hK.out _ _ (HT.out _ hB) (fun hH=>?_)
 clear hK K hH
 try simp only [Act.put,tA,cZ,cS]
 clear hb hz
 refine rd 4 (AllReadyH.cons rfl (fun K hK=>?_) AllReadyH.nil)
 (try simp only [gA]);(try simp only [gS]);(try simp only [gZ])
 have R4:=BR.out.below hB
 obtain ⟨r0,r1,r2,r3,r4,r5,r6,r7,r8⟩:=id R4
 go_simp
 refine hK.out _ _ (HP.out _ (.bool g5) (.slice A5 n5 c5) (.bool e5) (.slice E5 m5 d5) (HT.out _ hB)) (fun hH=>?_)
 clear hK K
 try simp only [Act.put,tA,cZ,cS]
 refine wpAnyH_done (by kernel_rfl) ?_ _
 go_wp2
 refine bodyPost_ret (v:=.agg #[.bool g5,.slice A5 n5 c5,.bool e5,.slice E5 m5 d5]) (by simp [results,Tryz.results43,go_sem,r0,r1,r2,r3]) rfl ⟨⟨_,_,_,_,_,_,_,_,rfl,T5.out.put4 R4 _ _ _ _⟩,below_put4 (hw.trans (hB.mono hw.size)) (by omega) _ _ _ _⟩
theorem RQ.pos {w:World} {v:Value} {n d:Int} {L:Nat} (h:RQ w v n d L) : 0 < d:=by
 obtain ⟨_,_,_,_,_,_,_,_,_,_,_,h3,_⟩:=h;exact h3
theorem cmp_sub {n d m c:Int} (hd:0 < d) (hc:0 < c) : cmpI (newN (n * c + -m * d) (d * c)) 0 = cmpI (n * c) (m * d):=by
 have ht:0 < d * c:=Int.mul_pos hd hc
 obtain ⟨s,hs⟩ : ∃ s,n * c + -m * d = s:=⟨_,rfl⟩
 have e0:cmpI (n * c) (m * d) = cmpI s 0:=by
  have e1:-m * d = -(m * d):=Int.neg_mul m d
  rw [<- hs,e1]
  unfold cmpI
  repeat' split
  all_goals omega
 rw [hs,e0,(new_pos (Int.le_of_lt ht) (by omega)).1]
 obtain ⟨k,hk⟩ : (Int.gcd s (d * c) : Int) ∣ s:=Int.gcd_dvd_left ..
 have g0:0 < (Int.gcd s (d * c) : Int):=by
  have:Int.gcd s (d * c) ≠ 0:=fun e=>by have:=(Int.gcd_eq_zero_iff.1 e).2;omega
  omega
 obtain ⟨G,hG⟩ : ∃ G:Int,(Int.gcd s (d * c) : Int) = G:=⟨_,rfl⟩
 rw [hG] at hk g0 ⊢
 rw [hk,Int.mul_tdiv_cancel_left _ (by omega)]
 unfold cmpI
 rcases Int.lt_trichotomy k 0 with h | h | h
 ·have:=Int.mul_neg_of_pos_of_neg g0 h
  rw [if_pos h,if_pos this]
 ·subst h;simp
 ·have:=Int.mul_pos g0 h
  rw [if_neg (by omega),if_neg (by omega),if_neg (by omega),if_neg (by omega)]
theorem rCmp_q (u v:Value) (n d m c:Int) (L:Nat) (w:World) (h:RQ w u n d L) (g:RQ w v m c L) (hL:L <= 400) :
  Calls Tryz.prog 27 #[u,v] w fun e w'=>e = .returned (.int .i64 (cmpI (n * c) (m * d))) /\ Below w.heap.size w w':=by
 obtain ⟨g1,A1,n1,c1,e1,E1,m1,d1,rfl⟩:=h.form
 obtain ⟨g2,A2,n2,c2,e2,E2,m2,d2,rfl⟩:=g.form
 obtain ⟨hw,F0,F1,hs⟩:=pair43 w (.bool g1) (.slice A1 n1 c1) (.bool e1) (.slice E1 m1 d1) (.bool g2) (.slice A2 n2 c2) (.bool e2) (.slice E2 m2 d2)
 have X:=Hd (h.below hw)
 have Y:=Hd (g.below hw)
 obtain ⟨W0,hW0⟩ : ∃ W0,(w.alloc (.cells #[.bool g1,.slice A1 n1 c1,.bool e1,.slice E1 m1 d1] 43)).alloc (.cells #[.bool g2,.slice A2 n2 c2,.bool e2,.slice E2 m2 d2] 43) = W0:=⟨_,rfl⟩
 rw [hW0] at hw F0 F1 hs X Y
 have B0:=Hd F0
 have B1:=Hd F1
 clear F0 F1 h g
 go_enter Tryz.func27,Tryz.ntmps27
 go_upto_region 1 with fail
 clear hW0
 have hd:=X.out.pos
 have hc:=Y.out.pos
 obtain ⟨c00,c01,c02,c03,f00,f01,f02,f03,s0⟩:=B0.out
 obtain ⟨c10,c11,c12,c13,f10,f11,f12,f13,s1⟩:=B1.out
 go_wp2_with fail
 refine (rSub_q _ _ n d m c L _ X.out Y.out hL).mono ?_
 rintro e w1 ⟨⟨g5,A5,n5,c5,e5,E5,m5,d5,rfl,hz⟩,hb⟩
 clear c00 c01 c02 c03 f00 f01 f02 f03 s0
 clear c10 c11 c12 c13 f10 f11 f12 f13 s1
 replace B0:=Hd (B0.out.below hb)
 replace B1:=Hd (B1.out.below hb)
 replace X:=Hd (X.out.below hb)
 replace Y:=Hd (Y.out.below hb)
 replace hw:=hw.trans (hb.mono hw.size)
 have T5:=Hd hz
 clear hb hz
 go_wp2_with fail
 refine (rSign_q _ _ _ _ _ T5.out (by omega)).mono ?_
 rintro e w2 ⟨rfl,hb⟩
 replace B0:=Hd (B0.out.below hb)
 replace B1:=Hd (B1.out.below hb)
 replace X:=Hd (X.out.below hb)
 replace Y:=Hd (Y.out.below hb)
 replace T5:=Hd (T5.out.below hb)
 replace hw:=hw.trans (hb.mono hw.size)
 clear hb
 rw [cmp_sub hd hc]
 go_wp2
 go_ret
 exact ⟨rfl,hw⟩
theorem Is_q (u v:Value) (n d:Int) (L M:Nat) (w:World) (h:Rat w u n d L) (g:RQ w v n d M) (hL2:2 <= L) (hL:L <= 1000000) (hM:M <= 1000000) :
  Calls Tryz.prog 19 #[u,v] w fun e w'=>e = .returned (.bool true) /\ Below w.heap.size w w':=by
 obtain ⟨g1,A1,n1,c1,e1,E1,m1,d1,rfl⟩:=h.form
 obtain ⟨g2,A2,n2,c2,e2,E2,m2,d2,rfl⟩:=g.form
 obtain ⟨W1,hW1⟩ : ∃ W1,w.alloc (.cells #[.bool g1,.slice A1 n1 c1,.bool e1,.slice E1 m1 d1] 38) = W1:=⟨_,rfl⟩
 have F0:=Fx4.new w (.bool g1) (.slice A1 n1 c1) (.bool e1) (.slice E1 m1 d1) 38
 have hw0:=below_alloc w (.cells #[.bool g1,.slice A1 n1 c1,.bool e1,.slice E1 m1 d1] 38)
 have hs1:(w.alloc (.cells #[.bool g1,.slice A1 n1 c1,.bool e1,.slice E1 m1 d1] 38)).heap.size = w.heap.size + 1:=by simp
 rw [hW1] at F0 hw0 hs1
 have hX:=below_alloc W1 (.cells #[.bool g2,.slice A2 n2 c2,.bool e2,.slice E2 m2 d2] 43)
 have F1:=Fx4.new W1 (.bool g2) (.slice A2 n2 c2) (.bool e2) (.slice E2 m2 d2) 43
 rw [hs1] at F1
 have hw:=hw0.trans (hX.mono hw0.size)
 have X:=Hd (h.below hw)
 have Y1:=Hd (g.parts.1.below hw)
 have Y2:=Hd (g.parts.2.1.below hw)
 have B0:=Hd (F0.below hX)
 have B1:=Hd F1
 obtain ⟨W0,hW0⟩ : ∃ W0,W1.alloc (.cells #[.bool g2,.slice A2 n2 c2,.bool e2,.slice E2 m2 d2] 43) = W0:=⟨_,rfl⟩
 rw [hW0] at hw X Y1 Y2 B0 B1
 clear F0 F1 hX hw0 h g
 go_enter Tryz.func19,Tryz.ntmps19
 go_upto_region 1 with fail
 clear hW0 hW1 hs1
 have HT:=Hd (fun (w':World) (hb:Below W0.heap.size W0 w')=>(show w'.cell? ⟨w.heap.size,0,none⟩ = some (.bool g1) /\ w'.cell? ⟨w.heap.size,1,none⟩ = some (.slice A1 n1 c1) /\ w'.cell? ⟨w.heap.size,2,none⟩ = some (.bool e1) /\ w'.cell? ⟨w.heap.size,3,none⟩ = some (.slice E1 m1 d1) /\ w'.cell? ⟨(w.heap.size + 1),0,none⟩ = some (.bool g2) /\ w'.cell? ⟨(w.heap.size + 1),1,none⟩ = some (.slice A2 n2 c2) /\ w'.cell? ⟨(w.heap.size + 1),2,none⟩ = some (.bool e2) /\ w'.cell? ⟨(w.heap.size + 1),3,none⟩ = some (.slice E2 m2 d2) from ⟨(B0.out.below hb).c0,(B0.out.below hb).c1,(B0.out.below hb).c2,(B0.out.below hb).c3,(B1.out.below hb).c0,(B1.out.below hb).c1,(B1.out.below hb).c2,(B1.out.below hb).c3⟩))
 have hB:=(Below.refl W0.heap.size W0).drew
 replace X:=Hd (X.out.below hB)
 replace Y1:=Hd (Y1.out.below hB)
 replace Y2:=Hd (Y2.out.below hB)
 refine wp_region_held_drew (S:=fun w'=>w'.cell? ⟨w.heap.size,0,none⟩ = some (.bool g1) /\ w'.cell? ⟨w.heap.size,1,none⟩ = some (.slice A1 n1 c1) /\ w'.cell? ⟨w.heap.size,2,none⟩ = some (.bool e1) /\ w'.cell? ⟨w.heap.size,3,none⟩ = some (.slice E1 m1 d1) /\ w'.cell? ⟨(w.heap.size + 1),0,none⟩ = some (.bool g2) /\ w'.cell? ⟨(w.heap.size + 1),1,none⟩ = some (.slice A2 n2 c2) /\ w'.cell? ⟨(w.heap.size + 1),2,none⟩ = some (.bool e2) /\ w'.cell? ⟨(w.heap.size + 1),3,none⟩ = some (.slice E2 m2 d2)) (by kernel_rfl) (HT.out _ hB) (fun hH=>?_)
 clear hH
 generalize W0.drew = wr0 at *
 refine tk 0 5 (by first | assumption | exact HT.out _ hB) ?_
 try simp only [Act.put,tA,cZ,cS]
 refine tk 2 7 (by first | assumption | exact HT.out _ hB) ?_
 try simp only [Act.put,tA,cZ,cS]
 refine tk 3 8 (by first | assumption | exact HT.out _ hB) ?_
 try simp only [Act.put,tA,cZ,cS]
 refine rd 1 (AllReadyH.cons rfl (fun K hK=>?_) AllReadyH.nil)
 (try simp only [gA]);(try simp only [gS]);(try simp only [gZ])
 go_simp
 (go_at_call 68;refine (Numerator_any _ n d L _ X.out).mono ?_;rintro e wc1 ⟨⟨gt1,At1,nt1,ct1,rfl,hz⟩,hb⟩)
 replace X:=Hd (X.out.below hb)
 replace Y1:=Hd (Y1.out.below hb)
 replace Y2:=Hd (Y2.out.below hb)
 replace hB:=Below.trans hB (hb.mono hB.size)
 have T1:=Hd hz
 refine hK.out _ _ (HT.out _ hB) (fun hH=>?_)
 clear hK K hH
 try simp only [Act.put,tA,cZ,cS]
 clear hb hz
 refine rd 4 (AllReadyH.cons rfl (fun K hK=>?_) AllReadyH.nil)
 (try simp only [gA]);(try simp only [gS]);(try simp only [gZ])
 go_simp
 (go_at_call 48;refine (is_yes _ _ n L M _ T1.out Y1.out (by omega) (by omega)).mono ?_;rintro e wc2 ⟨rfl,hb⟩)
 replace X:=Hd (X.out.below hb)
 replace Y1:=Hd (Y1.out.below hb)
 replace Y2:=Hd (Y2.out.below hb)
 replace T1:=Hd (T1.out.below hb)
 replace hB:=Below.trans hB (hb.mono hB.size)
 refine hK.out _ _ (HT.out _ hB) (fun hH=>?_)
 clear hK K hH
 try simp only [Act.put,tA,cZ,cS]
 clear hb
 refine tk 5 10 (by first | assumption | exact HT.out _ hB) ?_
 try simp only [Act.put,tA,cZ,cS]
 refine tk 6 11 (by first | assumption | exact HT.out _ hB) ?_
 try simp only [Act.put,tA,cZ,cS]
 refine tk 8 13 (by first | assumption | exact HT.out _ hB) ?_
 try simp only [Act.put,tA,cZ,cS]
 refine tk 9 14 (by first | assumption | exact HT.out _ hB) ?_
 try simp only [Act.put,tA,cZ,cS]
 refine rd 7 (AllReadyH.cons rfl (fun K hK=>?_) AllReadyH.nil)
 (try simp only [gA]);(try simp only [gS]);(try simp only [gZ])
 go_simp
 (go_at_call 67;refine (Denominator_any _ n d L _ X.out hL2).mono ?_;rintro e wc3 ⟨⟨gt2,At2,nt2,ct2,rfl,hz⟩,hb⟩)
 replace X:=Hd (X.out.below hb)
 replace Y1:=Hd (Y1.out.below hb)
 replace Y2:=Hd (Y2.out.below hb)
 replace T1:=Hd (T1.out.below hb)
 replace hB:=Below.trans hB (hb.mono hB.size)
 have T2:=Hd hz
 refine hK.out _ _ (HT.out _ hB) (fun hH=>?_)
 clear hK K hH
 try simp only [Act.put,tA,cZ,cS]
 clear hb hz
 refine rd 10 (AllReadyH.cons rfl (fun K hK=>?_) AllReadyH.nil)
 (try simp only [gA]);(try simp only [gS]);(try simp only [gZ])
 go_simp
 (go_at_call 48;refine (is_yes _ _ d L M _ T2.out Y2.out (by omega) (by omega)).mono ?_;rintro e wc4 ⟨rfl,hb⟩)
 replace X:=Hd (X.out.below hb)
 replace Y1:=Hd (Y1.out.below hb)
 replace Y2:=Hd (Y2.out.below hb)
 replace T1:=Hd (T1.out.below hb)
 replace T2:=Hd (T2.out.below hb)
 replace hB:=Below.trans hB (hb.mono hB.size)
 refine hK.out _ _ (HT.out _ hB) (fun hH=>?_)
 clear hK K hH
 try simp only [Act.put,tA,cZ,cS]
 clear hb
 refine tk 11 16 (by first | assumption | exact HT.out _ hB) ?_
 try simp only [Act.put,tA,cZ,cS]
 refine tk 12 4 (by first | assumption | exact HT.out _ hB) ?_
 try simp only [Act.put,tA,cZ,cS]
 refine wpAnyH_done (by kernel_rfl) ?_ _
 replace B0:=Hd (B0.out.below hB)
 replace B1:=Hd (B1.out.below hB)
 replace hw:=hw.trans (hB.mono hw.size)
 go_wp2
 go_ret
 exact ⟨rfl,hw⟩
end Go.Proofs.YtbajnceoolkckaaGreat
