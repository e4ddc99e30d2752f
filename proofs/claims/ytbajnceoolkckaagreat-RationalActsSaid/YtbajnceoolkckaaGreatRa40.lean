/- Of the proof of RationalActs: RatZ2. -/
import Derived.Test.YtbajnceoolkckaaGreatRa39
open List renaming getElem_toArray → gA, getElem_cons_succ → gS, getElem_cons_zero → gZ, setIfInBounds_toArray → tA, set_cons_zero → cZ, set_cons_succ → cS
open Go.Lib renaming hid → Hd
set_option maxRecDepth 100000
set_option maxHeartbeats 16000000
namespace Go.Proofs.YtbajnceoolkckaaGreat
open Go.RowKit LM
theorem rAbs_q (v:Value) (n d:Int) (L:Nat) (w:World) (h:RQ w v n d L) :
  Calls Tryz.prog 39 #[v] w (RQRes L (if n < 0 then -n else n) d w):=by
 obtain ⟨g1,A1,n1,c1,e1,E1,m1,d1,rfl⟩:=h.form
 obtain ⟨hw,F0,F1,hs⟩:=two43 w (.bool g1) (.slice A1 n1 c1) (.bool e1) (.slice E1 m1 d1)
 have X:=Hd (h.parts.1.below hw)
 have Y:=Hd (h.parts.2.1.below hw)
 have hd:=h.parts.2.2.1
 have hco:=h.parts.2.2.2
 obtain ⟨W0,hW0⟩ : ∃ W0,(w.alloc (.cells #[.bool g1,.slice A1 n1 c1,.bool e1,.slice E1 m1 d1] 43)).alloc (.cells #[.bool false,.slice none 0 0,.bool false,.slice none 0 0] 43) = W0:=⟨_,rfl⟩
 rw [hW0] at hw F0 F1 hs X Y
 have B0:=Hd F0
 have BR:=Hd F1
 clear F0 F1 h
 obtain ⟨a,ha⟩ : ∃ a,(if n < 0 then -n else n) = a:=⟨_,rfl⟩
 have hca:Int.gcd a d = 1:=by rw [<- ha];split <;> first | (rw [Int.neg_gcd];exact hco) | exact hco
 rw [ha]
 have HA:=Hd ha
 clear ha
 go_enter Tryz.func39,Tryz.ntmps39
 go_upto_region 1 with fail
 clear hW0
 have HT:=Hd (fun (w':World) (hb:Below W0.heap.size W0 w')=>(show w'.cell? ⟨w.heap.size,0,none⟩ = some (.bool g1) /\ w'.cell? ⟨w.heap.size,1,none⟩ = some (.slice A1 n1 c1) /\ w'.cell? ⟨w.heap.size,2,none⟩ = some (.bool e1) /\ w'.cell? ⟨w.heap.size,3,none⟩ = some (.slice E1 m1 d1) from ⟨(B0.out.below hb).c0,(B0.out.below hb).c1,(B0.out.below hb).c2,(B0.out.below hb).c3⟩))
 have HP:=Hd (fun (w':World) (x0 x1 x2 x3:Value) (h:w'.cell? ⟨w.heap.size,0,none⟩ = some (.bool g1) /\ w'.cell? ⟨w.heap.size,1,none⟩ = some (.slice A1 n1 c1) /\ w'.cell? ⟨w.heap.size,2,none⟩ = some (.bool e1) /\ w'.cell? ⟨w.heap.size,3,none⟩ = some (.slice E1 m1 d1))=>(show (fun w'=>w'.cell? ⟨w.heap.size,0,none⟩ = some (.bool g1) /\ w'.cell? ⟨w.heap.size,1,none⟩ = some (.slice A1 n1 c1) /\ w'.cell? ⟨w.heap.size,2,none⟩ = some (.bool e1) /\ w'.cell? ⟨w.heap.size,3,none⟩ = some (.slice E1 m1 d1)) (put4 w' (w.heap.size + 1) x0 x1 x2 x3) from ⟨(cell_put4 (by omega) _ _ _ _).trans h.1,(cell_put4 (by omega) _ _ _ _).trans h.2.1,(cell_put4 (by omega) _ _ _ _).trans h.2.2.1,(cell_put4 (by omega) _ _ _ _).trans h.2.2.2⟩))
 have hB:=(Below.refl W0.heap.size W0).drew
 replace X:=Hd (X.out.below hB)
 replace Y:=Hd (Y.out.below hB)
 refine wp_region_held_drew (S:=fun w'=>w'.cell? ⟨w.heap.size,0,none⟩ = some (.bool g1) /\ w'.cell? ⟨w.heap.size,1,none⟩ = some (.slice A1 n1 c1) /\ w'.cell? ⟨w.heap.size,2,none⟩ = some (.bool e1) /\ w'.cell? ⟨w.heap.size,3,none⟩ = some (.slice E1 m1 d1)) (by kernel_rfl) (HT.out _ hB) (fun hH=>?_)
 clear hH
 generalize W0.drew = wr0 at *
 refine tk 0 3 (by first | assumption | exact HT.out _ hB) ?_
 try simp only [Act.put,tA,cZ,cS]
 refine tk 3 6 (by first | assumption | exact HT.out _ hB) ?_
 try simp only [Act.put,tA,cZ,cS]
 refine tk 1 4 (by first | assumption | exact HT.out _ hB) ?_
 try simp only [Act.put,tA,cZ,cS]
 refine tk 4 7 (by first | assumption | exact HT.out _ hB) ?_
 try simp only [Act.put,tA,cZ,cS]
 refine rd 2 (AllReadyH.cons rfl (fun K hK=>?_) AllReadyH.nil)
 (try simp only [gA]);(try simp only [gS]);(try simp only [gZ])
 go_simp
 (go_at_call 29;refine (rabs_any _ n L _ X.out).mono ?_;rintro e wc1 ⟨⟨gt1,At1,nt1,ct1,rfl,hz⟩,hb⟩)
 rw [HA.out] at hz
 replace X:=Hd (X.out.below hb)
 replace Y:=Hd (Y.out.below hb)
 replace hB:=Below.trans hB (hb.mono hB.size)
 have T1:=Hd hz
 refine hK.out _ _ (HT.out _ hB) (fun hH=>?_)
 clear hK K hH
 try simp only [Act.put,tA,cZ,cS]
 clear hb hz
 refine tk 5 8 (by first | assumption | exact HT.out _ hB) ?_
 try simp only [Act.put,tA,cZ,cS]
 refine rd 6 (AllReadyH.cons rfl (fun K hK=>?_) AllReadyH.nil)
 (try simp only [gA]);(try simp only [gS]);(try simp only [gZ])
 have R4:=BR.out.below hB
 obtain ⟨r0,r1,r2,r3,r4,r5,r6,r7,r8⟩:=id R4
 go_simp
 refine hK.out _ _ (HP.out _ (.bool gt1) (.slice At1 nt1 ct1) (.bool e1) (.slice E1 m1 d1) (HT.out _ hB)) (fun hH=>?_)
 clear hK K
 try simp only [Act.put,tA,cZ,cS]
 refine wpAnyH_done (by kernel_rfl) ?_ _
 go_wp2
 refine bodyPost_ret (v:=.agg #[.bool gt1,.slice At1 nt1 ct1,.bool e1,.slice E1 m1 d1]) (by simp [results,Tryz.results39,go_sem,r0,r1,r2,r3]) rfl ⟨⟨_,_,_,_,_,_,_,_,rfl,(RQ.mk' T1.out Y.out hd hca).put4 R4 _ _ _ _⟩,below_put4 (hw.trans (hB.mono hw.size)) (by omega) _ _ _ _⟩
theorem rMul_q (u v:Value) (n d m c:Int) (L:Nat) (w:World) (h:RQ w u n d L) (g:RQ w v m c L) (hL:L <= 400) :
  Calls Tryz.prog 45 #[u,v] w (RQRes (L + L + 1 + 64) (newN (n * m) (d * c)) (newD (n * m) (d * c)) w):=by
 obtain ⟨g1,A1,n1,c1,e1,E1,m1,d1,rfl⟩:=h.form
 obtain ⟨g2,A2,n2,c2,e2,E2,m2,d2,rfl⟩:=g.form
 obtain ⟨hw,F0,F1,F2,hs⟩:=three43 w (.bool g1) (.slice A1 n1 c1) (.bool e1) (.slice E1 m1 d1) (.bool g2) (.slice A2 n2 c2) (.bool e2) (.slice E2 m2 d2)
 have X:=Hd (h.below hw)
 have Y:=Hd (g.below hw)
 obtain ⟨W0,hW0⟩ : ∃ W0,((w.alloc (.cells #[.bool g1,.slice A1 n1 c1,.bool e1,.slice E1 m1 d1] 43)).alloc (.cells #[.bool g2,.slice A2 n2 c2,.bool e2,.slice E2 m2 d2] 43)).alloc (.cells #[.bool false,.slice none 0 0,.bool false,.slice none 0 0] 43) = W0:=⟨_,rfl⟩
 rw [hW0] at hw F0 F1 F2 hs X Y
 have B0:=Hd F0
 have B1:=Hd F1
 have BR:=Hd F2
 clear F0 F1 F2 h g
 go_enter Tryz.func45,Tryz.ntmps45
 go_upto_region 1 with fail
 clear hW0
 have X1:=Hd X.out.parts.1
 have X2:=Hd X.out.parts.2.1
 have Y1:=Hd Y.out.parts.1
 have Y2:=Hd Y.out.parts.2.1
 clear X Y
 have HT:=Hd (fun (w':World) (hb:Below W0.heap.size W0 w')=>(show w'.cell? ⟨w.heap.size,0,none⟩ = some (.bool g1) /\ w'.cell? ⟨w.heap.size,1,none⟩ = some (.slice A1 n1 c1) /\ w'.cell? ⟨w.heap.size,2,none⟩ = some (.bool e1) /\ w'.cell? ⟨w.heap.size,3,none⟩ = some (.slice E1 m1 d1) /\ w'.cell? ⟨(w.heap.size + 1),0,none⟩ = some (.bool g2) /\ w'.cell? ⟨(w.heap.size + 1),1,none⟩ = some (.slice A2 n2 c2) /\ w'.cell? ⟨(w.heap.size + 1),2,none⟩ = some (.bool e2) /\ w'.cell? ⟨(w.heap.size + 1),3,none⟩ = some (.slice E2 m2 d2) from ⟨(B0.out.below hb).c0,(B0.out.below hb).c1,(B0.out.below hb).c2,(B0.out.below hb).c3,(B1.out.below hb).c0,(B1.out.below hb).c1,(B1.out.below hb).c2,(B1.out.below hb).c3⟩))
 have HP:=Hd (fun (w':World) (x0 x1 x2 x3:Value) (h:w'.cell? ⟨w.heap.size,0,none⟩ = some (.bool g1) /\ w'.cell? ⟨w.heap.size,1,none⟩ = some (.slice A1 n1 c1) /\ w'.cell? ⟨w.heap.size,2,none⟩ = some (.bool e1) /\ w'.cell? ⟨w.heap.size,3,none⟩ = some (.slice E1 m1 d1) /\ w'.cell? ⟨(w.heap.size + 1),0,none⟩ = some (.bool g2) /\ w'.cell? ⟨(w.heap.size + 1),1,none⟩ = some (.slice A2 n2 c2) /\ w'.cell? ⟨(w.heap.size + 1),2,none⟩ = some (.bool e2) /\ w'.cell? ⟨(w.heap.size + 1),3,none⟩ = some (.slice E2 m2 d2))=>(show (fun w'=>w'.cell? ⟨w.heap.size,0,none⟩ = some (.bool g1) /\ w'.cell? ⟨w.heap.size,1,none⟩ = some (.slice A1 n1 c1) /\ w'.cell? ⟨w.heap.size,2,none⟩ = some (.bool e1) /\ w'.cell? ⟨w.heap.size,3,none⟩ = some (.slice E1 m1 d1) /\ w'.cell? ⟨(w.heap.size + 1),0,none⟩ = some (.bool g2) /\ w'.cell? ⟨(w.heap.size + 1),1,none⟩ = some (.slice A2 n2 c2) /\ w'.cell? ⟨(w.heap.size + 1),2,none⟩ = some (.bool e2) /\ w'.cell? ⟨(w.heap.size + 1),3,none⟩ = some (.slice E2 m2 d2)) (put4 w' (w.heap.size + 1 + 1) x0 x1 x2 x3) from ⟨(cell_put4 (by omega) _ _ _ _).trans h.1,(cell_put4 (by omega) _ _ _ _).trans h.2.1,(cell_put4 (by omega) _ _ _ _).trans h.2.2.1,(cell_put4 (by omega) _ _ _ _).trans h.2.2.2.1,(cell_put4 (by omega) _ _ _ _).trans h.2.2.2.2.1,(cell_put4 (by omega) _ _ _ _).trans h.2.2.2.2.2.1,(cell_put4 (by omega) _ _ _ _).trans h.2.2.2.2.2.2.1,(cell_put4 (by omega) _ _ _ _).trans h.2.2.2.2.2.2.2⟩))
 have hB:=(Below.refl W0.heap.size W0).drew
 replace X1:=Hd (X1.out.below hB)
 replace X2:=Hd (X2.out.below hB)
 replace Y1:=Hd (Y1.out.below hB)
 replace Y2:=Hd (Y2.out.below hB)
 refine wp_region_held_drew (S:=fun w'=>w'.cell? ⟨w.heap.size,0,none⟩ = some (.bool g1) /\ w'.cell? ⟨w.heap.size,1,none⟩ = some (.slice A1 n1 c1) /\ w'.cell? ⟨w.heap.size,2,none⟩ = some (.bool e1) /\ w'.cell? ⟨w.heap.size,3,none⟩ = some (.slice E1 m1 d1) /\ w'.cell? ⟨(w.heap.size + 1),0,none⟩ = some (.bool g2) /\ w'.cell? ⟨(w.heap.size + 1),1,none⟩ = some (.slice A2 n2 c2) /\ w'.cell? ⟨(w.heap.size + 1),2,none⟩ = some (.bool e2) /\ w'.cell? ⟨(w.heap.size + 1),3,none⟩ = some (.slice E2 m2 d2)) (by kernel_rfl) (HT.out _ hB) (fun hH=>?_)
 clear hH
 generalize W0.drew = wr0 at *
 refine tk 0 5 (by first | assumption | exact HT.out _ hB) ?_
 try simp only [Act.put,tA,cZ,cS]
 refine tk 2 7 (by first | assumption | exact HT.out _ hB) ?_
 try simp only [Act.put,tA,cZ,cS]
 refine tk 5 10 (by first | assumption | exact HT.out _ hB) ?_
 try simp only [Act.put,tA,cZ,cS]
 refine tk 7 12 (by first | assumption | exact HT.out _ hB) ?_
 try simp only [Act.put,tA,cZ,cS]
 refine tk 1 6 (by first | assumption | exact HT.out _ hB) ?_
 try simp only [Act.put,tA,cZ,cS]
 refine tk 3 8 (by first | assumption | exact HT.out _ hB) ?_
 try simp only [Act.put,tA,cZ,cS]
 refine tk 6 11 (by first | assumption | exact HT.out _ hB) ?_
 try simp only [Act.put,tA,cZ,cS]
 refine tk 8 13 (by first | assumption | exact HT.out _ hB) ?_
 try simp only [Act.put,tA,cZ,cS]
 refine rd 4 (AllReadyH.cons rfl (fun K hK=>?_) AllReadyH.nil)
 (try simp only [gA]);(try simp only [gS]);(try simp only [gZ])
 go_simp
 (go_at_call 90;refine (rMul_any _ _ n m L L _ X1.out Y1.out (by omega) (by omega)).mono ?_;rintro e wc1 ⟨⟨gt1,At1,nt1,ct1,rfl,hz⟩,hb⟩)
 replace X1:=Hd (X1.out.below hb)
 replace X2:=Hd (X2.out.below hb)
 replace Y1:=Hd (Y1.out.below hb)
 replace Y2:=Hd (Y2.out.below hb)
 replace hB:=Below.trans hB (hb.mono hB.size)
 have T1:=Hd hz
 refine hK.out _ _ (HT.out _ hB) (fun hH=>?_)
 clear hK K hH
 try simp only [Act.put,tA,cZ,cS]
 clear hb hz
 refine rd 9 (AllReadyH.cons rfl (fun K hK=>?_) AllReadyH.nil)
 (try simp only [gA]);(try simp only [gS]);(try simp only [gZ])
 go_simp
 (go_at_call 90;refine (rMul_any _ _ d c L L _ X2.out Y2.out (by omega) (by omega)).mono ?_;rintro e wc2 ⟨⟨gt2,At2,nt2,ct2,rfl,hz⟩,hb⟩)
 replace X1:=Hd (X1.out.below hb)
 replace X2:=Hd (X2.out.below hb)
 replace Y1:=Hd (Y1.out.below hb)
 replace Y2:=Hd (Y2.out.below hb)
 replace T1:=Hd (T1.out.below hb)
 replace hB:=Below.trans hB (hb.mono hB.size)
 have T2:=Hd hz
 refine hK.out _ _ (HT.out _ hB) (fun hH=>?_)
 clear hK K hH
 try simp only [Act.put,tA,cZ,cS]
 clear hb hz
 refine rd 10 (AllReadyH.cons rfl (fun K hK=>?_) AllReadyH.nil)
 (try simp only [gA]);(try simp only [gS]);(try simp only [gZ])
 go_simp
 (go_at_call 89;refine (rOver_any _ _ (n * m) (d * c) (L + L + 1) _ T1.out T2.out (by omega)).mono ?_;rintro e wc5 ⟨⟨g5,A5,n5,c5,e5,E5,m5,d5,rfl,hz⟩,hb⟩)
 replace X1:=Hd (X1.out.below hb)
 replace X2:=Hd (X2.out.below hb)
 replace Y1:=Hd (Y1.out.below hb)
 replace Y2:=Hd (Y2.out.below hb)
 replace T1:=Hd (T1.out.below hb)
 replace T2:=Hd (T2.out.below hb)
 replace hB:=Below.trans hB (hb.mono hB.size)
 clear T1
 clear T2
 have T5:=Hd hz
 refine hK.out _ _ (HT.out _ hB) (fun hH=>?_)
 clear hK K hH
 try simp only [Act.put,tA,cZ,cS]
 clear hb hz
 refine rd 11 (AllReadyH.cons rfl (fun K hK=>?_) AllReadyH.nil)
 (try simp only [gA]);(try simp only [gS]);(try simp only [gZ])
 have R4:=BR.out.below hB
 obtain ⟨r0,r1,r2,r3,r4,r5,r6,r7,r8⟩:=id R4
 go_simp
 refine hK.out _ _ (HP.out _ (.bool g5) (.slice A5 n5 c5) (.bool e5) (.slice E5 m5 d5) (HT.out _ hB)) (fun hH=>?_)
 clear hK K
 try simp only [Act.put,tA,cZ,cS]
 refine wpAnyH_done (by kernel_rfl) ?_ _
 go_wp2
 refine bodyPost_ret (v:=.agg #[.bool g5,.slice A5 n5 c5,.bool e5,.slice E5 m5 d5]) (by simp [results,Tryz.results45,go_sem,r0,r1,r2,r3]) rfl ⟨⟨_,_,_,_,_,_,_,_,rfl,T5.out.put4 R4 _ _ _ _⟩,below_put4 (hw.trans (hB.mono hw.size)) (by omega) _ _ _ _⟩
theorem rDiv_q (u v:Value) (n d m c:Int) (L:Nat) (w:World) (h:RQ w u n d L) (g:RQ w v m c L) (hL:L <= 400) :
  Calls Tryz.prog 31 #[u,v] w (RQErr (L + L + 1 + 64) (newN (n * c) (d * m)) (newD (n * c) (d * m)) (divE (d * m)) w):=by
 obtain ⟨g1,A1,n1,c1,e1,E1,m1,d1,rfl⟩:=h.form
 obtain ⟨g2,A2,n2,c2,e2,E2,m2,d2,rfl⟩:=g.form
 obtain ⟨hw,F0,F1,F2,hs⟩:=three43 w (.bool g1) (.slice A1 n1 c1) (.bool e1) (.slice E1 m1 d1) (.bool g2) (.slice A2 n2 c2) (.bool e2) (.slice E2 m2 d2)
 have X:=Hd (h.below hw)
 have Y:=Hd (g.below hw)
 obtain ⟨W0,hW0⟩ : ∃ W0,((w.alloc (.cells #[.bool g1,.slice A1 n1 c1,.bool e1,.slice E1 m1 d1] 43)).alloc (.cells #[.bool g2,.slice A2 n2 c2,.bool e2,.slice E2 m2 d2] 43)).alloc (.cells #[.bool false,.slice none 0 0,.bool false,.slice none 0 0] 43) = W0:=⟨_,rfl⟩
 rw [hW0] at hw F0 F1 F2 hs X Y
 have B0:=Hd F0
 have B1:=Hd F1
 have BR:=Hd F2
 clear F0 F1 F2 h g
 go_enter Tryz.func31,Tryz.ntmps31
 go_upto_region 1 with fail
 clear hW0
 have hd:=X.out.pos
 obtain ⟨c10,c11,c12,c13,f10,f11,f12,f13,s1⟩:=B1.out
 go_wp2_with fail
 refine (rSign_q _ m c L _ Y.out (by omega)).mono ?_
 rintro e w1 ⟨rfl,hb⟩
 clear c10 c11 c12 c13 f10 f11 f12 f13 s1
 replace B0:=Hd (B0.out.below hb)
 replace B1:=Hd (B1.out.below hb)
 replace BR:=Hd (BR.out.below hb)
 replace X:=Hd (X.out.below hb)
 replace Y:=Hd (Y.out.below hb)
 replace hw:=hw.trans (hb.mono hw.size)
 clear hb
 by_cases hm:m = 0
 ·skip
  have hcm:cmpI m 0 = 0:=cmpI_eq hm
  have HE:=Hd (show newN (n * c) (d * m) = 0 /\ newD (n * c) (d * m) = 1 /\ divE (d * m) = 6 from by subst hm;exact ⟨if_pos (by simp),if_pos (by simp),if_pos (by simp)⟩)
  clear hm
  rw [hcm]
  clear hcm
  go_wp2_with fail
  refine (rInt_any 0 _ (by decide) (by decide)).mono ?_
  rintro e w2 ⟨⟨y1,y2,y3,y4,y5,y6,y7,y8,rfl,hz,ho⟩,hb⟩
  replace BR:=Hd (BR.out.below hb)
  replace hw:=hw.trans (hb.mono hw.size)
  have HZ:=Hd hz
  have HO:=Hd ho
  clear hz ho hb
  obtain ⟨r0,r1,r2,r3,r4,r5,r6,r7,r8⟩:=BR.out
  go_wp2
  refine bodyPost_ret (v:=.tuple #[.agg #[.bool y1,.slice y2 y3 y4,.bool y5,.slice y6 y7 y8],.int .i64 6]) (by simp [results,Tryz.results31,go_sem,r0,r1,r2,r3]) rfl ⟨⟨y1,y2,y3,y4,y5,y6,y7,y8,?_,?_⟩,below_put4 hw (by omega) _ _ _ _⟩
  ·rw [HE.out.2.2]
  ·rw [HE.out.1,HE.out.2.1];exact (RQ.mk' (HZ.out.mono (by omega)) (HO.out.mono (by omega)) (by decide) (by decide)).put4 BR.out _ _ _ _
 ·skip
  have hcm:(cmpI m 0 == 0) = false:=cmp_ne hm
  have HE:=Hd (show divE (d * m) = 0 from if_neg (by intro e;rcases Int.mul_eq_zero.1 e with h | h <;> omega))
  clear hm
  go_upto_region 3 with fail
  clear hcm
  obtain ⟨wq,hwq⟩ : ∃ wq,w1 = wq:=⟨_,rfl⟩
  subst hwq
  have X1:=Hd X.out.parts.1
  have X2:=Hd X.out.parts.2.1
  have Y1:=Hd Y.out.parts.1
  have Y2:=Hd Y.out.parts.2.1
  clear X Y
  have HT:=Hd (fun (w':World) (hb:Below w1.heap.size w1 w')=>(show w'.cell? ⟨w.heap.size,0,none⟩ = some (.bool g1) /\ w'.cell? ⟨w.heap.size,1,none⟩ = some (.slice A1 n1 c1) /\ w'.cell? ⟨w.heap.size,2,none⟩ = some (.bool e1) /\ w'.cell? ⟨w.heap.size,3,none⟩ = some (.slice E1 m1 d1) /\ w'.cell? ⟨(w.heap.size + 1),0,none⟩ = some (.bool g2) /\ w'.cell? ⟨(w.heap.size + 1),1,none⟩ = some (.slice A2 n2 c2) /\ w'.cell? ⟨(w.heap.size + 1),2,none⟩ = some (.bool e2) /\ w'.cell? ⟨(w.heap.size + 1),3,none⟩ = some (.slice E2 m2 d2) from ⟨(B0.out.below hb).c0,(B0.out.below hb).c1,(B0.out.below hb).c2,(B0.out.below hb).c3,(B1.out.below hb).c0,(B1.out.below hb).c1,(B1.out.below hb).c2,(B1.out.below hb).c3⟩))
  have HP:=Hd (fun (w':World) (x0 x1 x2 x3:Value) (h:w'.cell? ⟨w.heap.size,0,none⟩ = some (.bool g1) /\ w'.cell? ⟨w.heap.size,1,none⟩ = some (.slice A1 n1 c1) /\ w'.cell? ⟨w.heap.size,2,none⟩ = some (.bool e1) /\ w'.cell? ⟨w.heap.size,3,none⟩ = some (.slice E1 m1 d1) /\ w'.cell? ⟨(w.heap.size + 1),0,none⟩ = some (.bool g2) /\ w'.cell? ⟨(w.heap.size + 1),1,none⟩ = some (.slice A2 n2 c2) /\ w'.cell? ⟨(w.heap.size + 1),2,none⟩ = some (.bool e2) /\ w'.cell? ⟨(w.heap.size + 1),3,none⟩ = some (.slice E2 m2 d2))=>(show (fun w'=>w'.cell? ⟨w.heap.size,0,none⟩ = some (.bool g1) /\ w'.cell? ⟨w.heap.size,1,none⟩ = some (.slice A1 n1 c1) /\ w'.cell? ⟨w.heap.size,2,none⟩ = some (.bool e1) /\ w'.cell? ⟨w.heap.size,3,none⟩ = some (.slice E1 m1 d1) /\ w'.cell? ⟨(w.heap.size + 1),0,none⟩ = some (.bool g2) /\ w'.cell? ⟨(w.heap.size + 1),1,none⟩ = some (.slice A2 n2 c2) /\ w'.cell? ⟨(w.heap.size + 1),2,none⟩ = some (.bool e2) /\ w'.cell? ⟨(w.heap.size + 1),3,none⟩ = some (.slice E2 m2 d2)) (put4 w' (w.heap.size + 1 + 1) x0 x1 x2 x3) from ⟨(cell_put4 (by omega) _ _ _ _).trans h.1,(cell_put4 (by omega) _ _ _ _).trans h.2.1,(cell_put4 (by omega) _ _ _ _).trans h.2.2.1,(cell_put4 (by omega) _ _ _ _).trans h.2.2.2.1,(cell_put4 (by omega) _ _ _ _).trans h.2.2.2.2.1,(cell_put4 (by omega) _ _ _ _).trans h.2.2.2.2.2.1,(cell_put4 (by omega) _ _ _ _).trans h.2.2.2.2.2.2.1,(cell_put4 (by omega) _ _ _ _).trans h.2.2.2.2.2.2.2⟩))
  have hB:=(Below.refl w1.heap.size w1).drew
  replace X1:=Hd (X1.out.below hB)
  replace X2:=Hd (X2.out.below hB)
  replace Y1:=Hd (Y1.out.below hB)
  replace Y2:=Hd (Y2.out.below hB)
  refine wp_region_held_drew (S:=fun w'=>w'.cell? ⟨w.heap.size,0,none⟩ = some (.bool g1) /\ w'.cell? ⟨w.heap.size,1,none⟩ = some (.slice A1 n1 c1) /\ w'.cell? ⟨w.heap.size,2,none⟩ = some (.bool e1) /\ w'.cell? ⟨w.heap.size,3,none⟩ = some (.slice E1 m1 d1) /\ w'.cell? ⟨(w.heap.size + 1),0,none⟩ = some (.bool g2) /\ w'.cell? ⟨(w.heap.size + 1),1,none⟩ = some (.slice A2 n2 c2) /\ w'.cell? ⟨(w.heap.size + 1),2,none⟩ = some (.bool e2) /\ w'.cell? ⟨(w.heap.size + 1),3,none⟩ = some (.slice E2 m2 d2)) (by kernel_rfl) (HT.out _ hB) (fun hH=>?_)
  clear hH
  generalize w1.drew = wr0 at *
  refine tk 0 10 (by first | assumption | exact HT.out _ hB) ?_
  try simp only [Act.put,tA,cZ,cS]
  refine tk 2 12 (by first | assumption | exact HT.out _ hB) ?_
  try simp only [Act.put,tA,cZ,cS]
  refine tk 5 15 (by first | assumption | exact HT.out _ hB) ?_
  try simp only [Act.put,tA,cZ,cS]
  refine tk 7 17 (by first | assumption | exact HT.out _ hB) ?_
  try simp only [Act.put,tA,cZ,cS]
  refine tk 1 11 (by first | assumption | exact HT.out _ hB) ?_
  try simp only [Act.put,tA,cZ,cS]
  refine tk 3 13 (by first | assumption | exact HT.out _ hB) ?_
  try simp only [Act.put,tA,cZ,cS]
  refine tk 6 16 (by first | assumption | exact HT.out _ hB) ?_
  try simp only [Act.put,tA,cZ,cS]
  refine tk 8 18 (by first | assumption | exact HT.out _ hB) ?_
  try simp only [Act.put,tA,cZ,cS]
  refine rd 4 (AllReadyH.cons rfl (fun K hK=>?_) AllReadyH.nil)
  (try simp only [gA]);(try simp only [gS]);(try simp only [gZ])
  go_simp
  (go_at_call 90;refine (rMul_any _ _ n c L L _ X1.out Y2.out (by omega) (by omega)).mono ?_;rintro e wc1 ⟨⟨gt1,At1,nt1,ct1,rfl,hz⟩,hb⟩)
  replace X1:=Hd (X1.out.below hb)
  replace X2:=Hd (X2.out.below hb)
  replace Y1:=Hd (Y1.out.below hb)
  replace Y2:=Hd (Y2.out.below hb)
  replace hB:=Below.trans hB (hb.mono hB.size)
  have T1:=Hd hz
  refine hK.out _ _ (HT.out _ hB) (fun hH=>?_)
  clear hK K hH
  try simp only [Act.put,tA,cZ,cS]
  clear hb hz
  refine rd 9 (AllReadyH.cons rfl (fun K hK=>?_) AllReadyH.nil)
  (try simp only [gA]);(try simp only [gS]);(try simp only [gZ])
  go_simp
  (go_at_call 90;refine (rMul_any _ _ d m L L _ X2.out Y1.out (by omega) (by omega)).mono ?_;rintro e wc2 ⟨⟨gt2,At2,nt2,ct2,rfl,hz⟩,hb⟩)
  replace X1:=Hd (X1.out.below hb)
  replace X2:=Hd (X2.out.below hb)
  replace Y1:=Hd (Y1.out.below hb)
  replace Y2:=Hd (Y2.out.below hb)
  replace T1:=Hd (T1.out.below hb)
  replace hB:=Below.trans hB (hb.mono hB.size)
  have T2:=Hd hz
  refine hK.out _ _ (HT.out _ hB) (fun hH=>?_)
  clear hK K hH
  try simp only [Act.put,tA,cZ,cS]
  clear hb hz
  refine rd 10 (AllReadyH.cons rfl (fun K hK=>?_) AllReadyH.nil)
  (try simp only [gA]);(try simp only [gS]);(try simp only [gZ])
  go_simp
  (go_at_call 89;refine (rOver_any _ _ (n * c) (d * m) (L + L + 1) _ T1.out T2.out (by omega)).mono ?_;rintro e wc5 ⟨⟨g5,A5,n5,c5,e5,E5,m5,d5,rfl,hz⟩,hb⟩)
  replace X1:=Hd (X1.out.below hb)
  replace X2:=Hd (X2.out.below hb)
  replace Y1:=Hd (Y1.out.below hb)
  replace Y2:=Hd (Y2.out.below hb)
  replace T1:=Hd (T1.out.below hb)
  replace T2:=Hd (T2.out.below hb)
  replace hB:=Below.trans hB (hb.mono hB.size)
  clear T1
  clear T2
  have T5:=Hd hz
  refine hK.out _ _ (HT.out _ hB) (fun hH=>?_)
  clear hK K hH
  try simp only [Act.put,tA,cZ,cS]
  clear hb hz
  refine rd 11 (AllReadyH.cons rfl (fun K hK=>?_) AllReadyH.nil)
  (try simp only [gA]);(try simp only [gS]);(try simp only [gZ])
  have R4:=BR.out.below hB
  obtain ⟨r0,r1,r2,r3,r4,r5,r6,r7,r8⟩:=id R4
  go_simp
  refine hK.out _ _ (HP.out _ (.bool g5) (.slice A5 n5 c5) (.bool e5) (.slice E5 m5 d5) (HT.out _ hB)) (fun hH=>?_)
  clear hK K
  try simp only [Act.put,tA,cZ,cS]
  refine tk 12 5 (by first | assumption | exact HT.out _ hB) ?_
  try simp only [Act.put,tA,cZ,cS]
  refine wpAnyH_done (by kernel_rfl) ?_ _
  go_wp2
  refine bodyPost_ret (v:=.tuple #[.agg #[.bool g5,.slice A5 n5 c5,.bool e5,.slice E5 m5 d5],.int .i64 0]) (by simp [results,Tryz.results31,go_sem,r0,r1,r2,r3]) rfl ⟨⟨_,_,_,_,_,_,_,_,by rw [HE.out],T5.out.put4 R4 _ _ _ _⟩,below_put4 (hw.trans (hB.mono hw.size)) (by omega) _ _ _ _⟩
end Go.Proofs.YtbajnceoolkckaaGreat
