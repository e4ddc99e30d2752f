/- Of the proof of RationalQuotients: RatZ2, RatAc, RatAe, RatQm, RatNum. -/
import Derived.Test.YtbajnceoolkckaaGreatQp34
open List renaming getElem_toArray → gA, getElem_cons_succ → gS, getElem_cons_zero → gZ, setIfInBounds_toArray → tA, set_cons_zero → cZ, set_cons_succ → cS
open Go.Lib renaming hid → Hd
set_option maxRecDepth 100000
set_option maxHeartbeats 16000000
namespace Go.Proofs.YtbajnceoolkckaaGreat
open Go.RowKit LM
theorem rMul_q (u v:Value) (n d m c:Int) (L:Nat) (w:World) (h:RQ w u n d L) (g:RQ w v m c L) (hL:L <= 400) :
  Calls Tryz.prog 45 #[u,v] w (RQRes (L + L + 1 + 64) (newN (n * m) (d * c)) (newD (n * m) (d * c)) w):=by
 obtain ⟨g1,A1,n1,c1,e1,E1,m1,d1,rfl⟩:=h.form
 obtain ⟨g2,A2,n2,c2,e2,E2,m2,d2,rfl⟩:=g.form
 obtain ⟨hw,F0,F1,F2,hs⟩:=three43 w (.bool g1) (.slice A1 n1 c1) (.bool e1) (.slice E1 m1 d1) (.bool g2) (.slice A2 n2 c2) (.bool e2) (.slice E2 m2 d2)
 have X:=Hd (h.below hw)
 have Y:=Hd (g.below hw)
 obtain ⟨W0,hW0⟩ : ∃ W0,((w.alloc (.cells #[.bool g1,.slice A1 n1 c1,.bool e1,.slice E1 m1 d1] 43)).alloc (.cells #[.bool g2,.slice A2 n2 c2,.bool e2,.slice E2 m2 d2] 43)).alloc (.cells #[.bool false,.slice none 0 0,.bool false,.slice none 0 0] 43) = W0:=⟨_,rfl⟩
 rw [hW0] at hw F0 F1 F2 hs X Y
 have B0:=Hd F0
 have B1:=Hd F1
 have BR:=Hd F2
 clear F0 F1 F2 h g
 go_enter Tryz.func45,Tryz.ntmps45
 go_upto_region 1 with fail
 clear hW0
 have X1:=Hd X.out.parts.1
 have X2:=Hd X.out.parts.2.1
 have Y1:=Hd Y.out.parts.1
 have Y2:=Hd Y.out.parts.2.1
 clear X Y
 have HT:=Hd (fun (w':World) (hb:Below W0.heap.size W0 w')=>(show w'.cell? ⟨w.heap.size,0,none⟩ = some (.bool g1) /\ w'.cell? ⟨w.heap.size,1,none⟩ = some (.slice A1 n1 c1) /\ w'.cell? ⟨w.heap.size,2,none⟩ = some (.bool e1) /\ w'.cell? ⟨w.heap.size,3,none⟩ = some (.slice E1 m1 d1) /\ w'.cell? ⟨(w.heap.size + 1),0,none⟩ = some (.bool g2) /\ w'.cell? ⟨(w.heap.size + 1),1,none⟩ = some (.slice A2 n2 c2) /\ w'.cell? ⟨(w.heap.size + 1),2,none⟩ = some (.bool e2) /\ w'.cell? ⟨(w.heap.size + 1),3,none⟩ = some (.slice E2 m2 d2) from ⟨(B0.out.below hb).c0,(B0.out.below hb).c1,(B0.out.below hb).c2,(B0.out.below hb).c3,(B1.out.below hb).c0,(B1.out.below hb).c1,(B1.out.below hb).c2,(B1.out.below hb).c3⟩))
 have HP:=Hd (fun (w':World) (x0 x1 x2 x3:Value) (h:w'.cell? ⟨w.heap.size,0,none⟩ = some (.bool g1) /\ w'.cell? ⟨w.heap.size,1,none⟩ = some (.slice A1 n1 c1) /\ w'.cell? ⟨w.heap.size,2,none⟩ = some (.bool e1) /\ w'.cell? ⟨w.heap.size,3,none⟩ = some (.slice E1 m1 d1) /\ w'.cell? ⟨(w.heap.size + 1),0,none⟩ = some (.bool g2) /\ w'.cell? ⟨(w.heap.size + 1),1,none⟩ = some (.slice A2 n2 c2) /\ w'.cell? ⟨(w.heap.size + 1),2,none⟩ = some (.bool e2) /\ w'.cell? ⟨(w.heap.size + 1),3,none⟩ = some (.slice E2 m2 d2))=>(show (fun w'=>w'.cell? ⟨w.heap.size,0,none⟩ = some (.bool g1) /\ w'.cell? ⟨w.heap.size,1,none⟩ = some (.slice A1 n1 c1) /\ w'.cell? ⟨w.heap.size,2,none⟩ = some (.bool e1) /\ w'.cell? ⟨w.heap.size,3,none⟩ = some (.slice E1 m1 d1) /\ w'.cell? ⟨(w.heap.size + 1),0,none⟩ = some (.bool g2) /\ w'.cell? ⟨(w.heap.size + 1),1,none⟩ = some (.slice A2 n2 c2) /\ w'.cell? ⟨(w.heap.size + 1),2,none⟩ = some (.bool e2) /\ w'.cell? ⟨(w.heap.size + 1),3,none⟩ = some (.slice E2 m2 d2)) (put4 w' (w.heap.size + 1 + 1) x0 x1 x2 x3) from ⟨(cell_put4 (by omega) _ _ _ _).trans h.1,(cell_put4 (by omega) _ _ _ _).trans h.2.1,(cell_put4 (by omega) _ _ _ _).trans h.2.2.1,(cell_put4 (by omega) _ _ _ _).trans h.2.2.2.1,(cell_put4 (by omega) _ _ _ _).trans h.2.2.2.2.1,(cell_put4 (by omega) _ _ _ _).trans h.2.2.2.2.2.1,(cell_put4 (by omega) _ _ _ _).trans h.2.2.2.2.2.2.1,(cell_put4 (by omega) _ _ _ _).trans h.2.2.2.2.2.2.2⟩))
 have hB:=(Below.refl W0.heap.size W0).drew
 replace X1:=Hd (X1.out.below hB)
 replace X2:=Hd (X2.out.below hB)
 replace Y1:=Hd (Y1.out.below hB)
 replace Y2:=Hd (Y2.out.below hB)
 refine wp_region_held_drew (S:=fun w'=>w'.cell? ⟨w.heap.size,0,none⟩ = some (.bool g1) /\ w'.cell? ⟨w.heap.size,1,none⟩ = some (.slice A1 n1 c1) /\ w'.cell? ⟨w.heap.size,2,none⟩ = some (.bool e1) /\ w'.cell? ⟨w.heap.size,3,none⟩ = some (.slice E1 m1 d1) /\ w'.cell? ⟨(w.heap.size + 1),0,none⟩ = some (.bool g2) /\ w'.cell? ⟨(w.heap.size + 1),1,none⟩ = some (.slice A2 n2 c2) /\ w'.cell? ⟨(w.heap.size + 1),2,none⟩ = some (.bool e2) /\ w'.cell? ⟨(w.heap.size + 1),3,none⟩ = some (.slice E2 m2 d2)) (by kernel_rfl) (HT.out _ hB) (fun hH=>?_)
 clear hH
 generalize W0.drew = wr0 at *
 refine tk 0 5 (by first | assumption | exact HT.out _ hB) ?_
 try simp only [Act.put,tA,cZ,cS]
 refine tk 2 7 (by first | assumption | exact HT.out _ hB) ?_
 try simp only [Act.put,tA,cZ,cS]
 refine tk 5 10 (by first | assumption | exact HT.out _ hB) ?_
 try simp only [Act.put,tA,cZ,cS]
 refine tk 7 12 (by first | assumption | exact HT.out _ hB) ?_
 try simp only [Act.put,tA,cZ,cS]
 refine tk 1 6 (by first | assumption | exact HT.out _ hB) ?_
 try simp only [Act.put,tA,cZ,cS]
 refine tk 3 8 (by first | assumption | exact HT.out _ hB) ?_
 try simp only [Act.put,tA,cZ,cS]
 refine tk 6 11 (by first | assumption | exact HT.out _ hB) ?_
 try simp only [Act.put,tA,cZ,cS]
 refine tk 8 13 (by first | assumption | exact HT.out _ hB) ?_
 try simp only [Act.put,tA,cZ,cS]
 refine rd 4 (AllReadyH.cons rfl (fun K hK=>?_) AllReadyH.nil)
 (try simp only [gA]);(try simp only [gS]);(try simp only [gZ])
 go_simp
 (go_at_call 90;refine (rMul_any _ _ n m L L _ X1.out Y1.out (by omega) (by omega)).mono ?_;rintro e wc1 ⟨⟨gt1,At1,nt1,ct1,rfl,hz⟩,hb⟩)
 replace X1:=Hd (X1.out.below hb)
 replace X2:=Hd (X2.out.below hb)
 replace Y1:=Hd (Y1.out.below hb)
 replace Y2:=Hd (Y2.out.below hb)
 replace hB:=Below.trans hB (hb.mono hB.size)
 have T1:=Hd hz
 refine hK.out _ _ (HT.out _ hB) (fun hH=>?_)
 clear hK K hH
 try simp only [Act.put,tA,cZ,cS]
 clear hb hz
 refine rd 9 (AllReadyH.cons rfl (fun K hK=>?_) AllReadyH.nil)
 (try simp only [gA]);(try simp only [gS]);(try simp only [gZ])
 go_simp
 (go_at_call 90;refine (rMul_any _ _ d c L L _ X2.out Y2.out (by omega) (by omega)).mono ?_;rintro e wc2 ⟨⟨gt2,At2,nt2,ct2,rfl,hz⟩,hb⟩)
 replace X1:=Hd (X1.out.below hb)
 replace X2:=Hd (X2.out.below hb)
 replace Y1:=Hd (Y1.out.below hb)
 replace Y2:=Hd (Y2.out.below hb)
 replace T1:=Hd (T1.out.below hb)
 replace hB:=Below.trans hB (hb.mono hB.size)
 have T2:=Hd hz
 refine hK.out _ _ (HT.out _ hB) (fun hH=>?_)
 clear hK K hH
 try simp only [Act.put,tA,cZ,cS]
 clear hb hz
 refine rd 10 (AllReadyH.cons rfl (fun K hK=>?_) AllReadyH.nil)
 (try simp only [gA]);(try simp only [gS]);(try simp only [gZ])
 go_simp
 (go_at_call 89;refine (rOver_any _ _ (n * m) (d * c) (L + L + 1) _ T1.out T2.out (by omega)).mono ?_;rintro e wc5 ⟨⟨g5,A5,n5,c5,e5,E5,m5,d5,rfl,hz⟩,hb⟩)
 replace X1:=Hd (X1.out.below hb)
 replace X2:=Hd (X2.out.below hb)
 replace Y1:=Hd (Y1.out.below hb)
 replace Y2:=Hd (Y2.out.below hb)
 replace T1:=Hd (T1.out.below hb)
 replace T2:=Hd (T2.out.below hb)
 replace hB:=Below.trans hB (hb.mono hB.size)
 clear T1
 clear T2
 have T5:=Hd hz
 refine hK.out _ _ (HT.out _ hB) (fun hH=>?_)
 clear hK K hH
 try simp only [Act.put,tA,cZ,cS]
 clear hb hz
 refine rd 11 (AllReadyH.cons rfl (fun K hK=>?_) AllReadyH.nil)
 (try simp only [gA]);(try simp only [gS]);(try simp only [gZ])
 have R4:=BR.out.below hB
 obtain ⟨r0,r1,r2,r3,r4,r5,r6,r7,r8⟩:=id R4
 go_simp
 refine hK.out _ _ (HP.out _ (.bool g5) (.slice A5 n5 c5) (.bool e5) (.slice E5 m5 d5) (HT.out _ hB)) (fun hH=>?_)
 clear hK K
 try simp only [Act.put,tA,cZ,cS]
 refine wpAnyH_done (by kernel_rfl) ?_ _
 go_wp2
 refine bodyPost_ret (v:=.agg #[.bool g5,.slice A5 n5 c5,.bool e5,.slice E5 m5 d5]) (by simp [results,Tryz.results45,go_sem,r0,r1,r2,r3]) rfl ⟨⟨_,_,_,_,_,_,_,_,rfl,T5.out.put4 R4 _ _ _ _⟩,below_put4 (hw.trans (hB.mono hw.size)) (by omega) _ _ _ _⟩
theorem rDiv_q (u v:Value) (n d m c:Int) (L:Nat) (w:World) (h:RQ w u n d L) (g:RQ w v m c L) (hL:L <= 400) :
  Calls Tryz.prog 31 #[u,v] w (RQErr (L + L + 1 + 64) (newN (n * c) (d * m)) (newD (n * c) (d * m)) (divE (d * m)) w):=by
 obtain ⟨g1,A1,n1,c1,e1,E1,m1,d1,rfl⟩:=h.form
 obtain ⟨g2,A2,n2,c2,e2,E2,m2,d2,rfl⟩:=g.form
 obtain ⟨hw,F0,F1,F2,hs⟩:=three43 w (.bool g1) (.slice A1 n1 c1) (.bool e1) (.slice E1 m1 d1) (.bool g2) (.slice A2 n2 c2) (.bool e2) (.slice E2 m2 d2)
 have X:=Hd (h.below hw)
 have Y:=Hd (g.below hw)
 obtain ⟨W0,hW0⟩ : ∃ W0,((w.alloc (.cells #[.bool g1,.slice A1 n1 c1,.bool e1,.slice E1 m1 d1] 43)).alloc (.cells #[.bool g2,.slice A2 n2 c2,.bool e2,.slice E2 m2 d2] 43)).alloc (.cells #[.bool false,.slice none 0 0,.bool false,.slice none 0 0] 43) = W0:=⟨_,rfl⟩
 rw [hW0] at hw F0 F1 F2 hs X Y
 have B0:=Hd F0
 have B1:=Hd F1
 have BR:=Hd F2
 clear F0 F1 F2 h g
 go_enter Tryz.func31,Tryz.ntmps31
 go_upto_region 1 with fail
 clear hW0
 have hd:=X.out.pos
 obtain ⟨c10,c11,c12,c13,f10,f11,f12,f13,s1⟩:=B1.out
 go_wp2_with fail
 refine (rSign_q _ m c L _ Y.out (by omega)).mono ?_
 rintro e w1 ⟨rfl,hb⟩
 clear c10 c11 c12 c13 f10 f11 f12 f13 s1
 replace B0:=Hd (B0.out.below hb)
 replace B1:=Hd (B1.out.below hb)
 replace BR:=Hd (BR.out.below hb)
 replace X:=Hd (X.out.below hb)
 replace Y:=Hd (Y.out.below hb)
 replace hw:=hw.trans (hb.mono hw.size)
 clear hb
 by_cases hm:m = 0
 ·skip
  have hcm:cmpI m 0 = 0:=cmpI_eq hm
  have HE:=Hd (show newN (n * c) (d * m) = 0 /\ newD (n * c) (d * m) = 1 /\ divE (d * m) = 6 from by subst hm;exact ⟨if_pos (by simp),if_pos (by simp),if_pos (by simp)⟩)
  clear hm
  rw [hcm]
  clear hcm
  go_wp2_with fail
  refine (rInt_any 0 _ (by decide) (by decide)).mono ?_
  rintro e w2 ⟨⟨y1,y2,y3,y4,y5,y6,y7,y8,rfl,hz,ho⟩,hb⟩
  replace BR:=Hd (BR.out.below hb)
  replace hw:=hw.trans (hb.mono hw.size)
  have HZ:=Hd hz
  have HO:=Hd ho
  clear hz ho hb
  obtain ⟨r0,r1,r2,r3,r4,r5,r6,r7,r8⟩:=BR.out
  go_wp2
  refine bodyPost_ret (v:=.tuple #[.agg #[.bool y1,.slice y2 y3 y4,.bool y5,.slice y6 y7 y8],.int .i64 6]) (by simp [results,Tryz.results31,go_sem,r0,r1,r2,r3]) rfl ⟨⟨y1,y2,y3,y4,y5,y6,y7,y8,?_,?_⟩,below_put4 hw (by omega) _ _ _ _⟩
  ·rw [HE.out.2.2]
  ·rw [HE.out.1,HE.out.2.1];exact (RQ.mk' (HZ.out.mono (by omega)) (HO.out.mono (by omega)) (by decide) (by decide)).put4 BR.out _ _ _ _
 ·skip
  have hcm:(cmpI m 0 == 0) = false:=cmp_ne hm
  have HE:=Hd (show divE (d * m) = 0 from if_neg (by intro e;rcases Int.mul_eq_zero.1 e with h | h <;> omega))
  clear hm
  go_upto_region 3 with fail
  clear hcm
  obtain ⟨wq,hwq⟩ : ∃ wq,w1 = wq:=⟨_,rfl⟩
  subst hwq
  have X1:=Hd X.out.parts.1
  have X2:=Hd X.out.parts.2.1
  have Y1:=Hd Y.out.parts.1
  have Y2:=Hd Y.out.parts.2.1
  clear X Y
  have HT:=Hd (fun (w':World) (hb:Below w1.heap.size w1 w')=>(show w'.cell? ⟨w.heap.size,0,none⟩ = some (.bool g1) /\ w'.cell? ⟨w.heap.size,1,none⟩ = some (.slice A1 n1 c1) /\ w'.cell? ⟨w.heap.size,2,none⟩ = some (.bool e1) /\ w'.cell? ⟨w.heap.size,3,none⟩ = some (.slice E1 m1 d1) /\ w'.cell? ⟨(w.heap.size + 1),0,none⟩ = some (.bool g2) /\ w'.cell? ⟨(w.heap.size + 1),1,none⟩ = some (.slice A2 n2 c2) /\ w'.cell? ⟨(w.heap.size + 1),2,none⟩ = some (.bool e2) /\ w'.cell? ⟨(w.heap.size + 1),3,none⟩ = some (.slice E2 m2 d2) from ⟨(B0.out.below hb).c0,(B0.out.below hb).c1,(B0.out.below hb).c2,(B0.out.below hb).c3,(B1.out.below hb).c0,(B1.out.below hb).c1,(B1.out.below hb).c2,(B1.out.below hb).c3⟩))
  have HP:=Hd (fun (w':World) (x0 x1 x2 x3:Value) (h:w'.cell? ⟨w.heap.size,0,none⟩ = some (.bool g1) /\ w'.cell? ⟨w.heap.size,1,none⟩ = some (.slice A1 n1 c1) /\ w'.cell? ⟨w.heap.size,2,none⟩ = some (.bool e1) /\ w'.cell? ⟨w.heap.size,3,none⟩ = some (.slice E1 m1 d1) /\ w'.cell? ⟨(w.heap.size + 1),0,none⟩ = some (.bool g2) /\ w'.cell? ⟨(w.heap.size + 1),1,none⟩ = some (.slice A2 n2 c2) /\ w'.cell? ⟨(w.heap.size + 1),2,none⟩ = some (.bool e2) /\ w'.cell? ⟨(w.heap.size + 1),3,none⟩ = some (.slice E2 m2 d2))=>(show (fun w'=>w'.cell? ⟨w.heap.size,0,none⟩ = some (.bool g1) /\ w'.cell? ⟨w.heap.size,1,none⟩ = some (.slice A1 n1 c1) /\ w'.cell? ⟨w.heap.size,2,none⟩ = some (.bool e1) /\ w'.cell? ⟨w.heap.size,3,none⟩ = some (.slice E1 m1 d1) /\ w'.cell? ⟨(w.heap.size + 1),0,none⟩ = some (.bool g2) /\ w'.cell? ⟨(w.heap.size + 1),1,none⟩ = some (.slice A2 n2 c2) /\ w'.cell? ⟨(w.heap.size + 1),2,none⟩ = some (.bool e2) /\ w'.cell? ⟨(w.heap.size + 1),3,none⟩ = some (.slice E2 m2 d2)) (put4 w' (w.heap.size + 1 + 1) x0 x1 x2 x3) from ⟨(cell_put4 (by omega) _ _ _ _).trans h.1,(cell_put4 (by omega) _ _ _ _).trans h.2.1,(cell_put4 (by omega) _ _ _ _).trans h.2.2.1,(cell_put4 (by omega) _ _ _ _).trans h.2.2.2.1,(cell_put4 (by omega) _ _ _ _).trans h.2.2.2.2.1,(cell_put4 (by omega) _ _ _ _).trans h.2.2.2.2.2.1,(cell_put4 (by omega) _ _ _ _).trans h.2.2.2.2.2.2.1,(cell_put4 (by omega) _ _ _ _).trans h.2.2.2.2.2.2.2⟩))
  have hB:=(Below.refl w1.heap.size w1).drew
  replace X1:=Hd (X1.out.below hB)
  replace X2:=Hd (X2.out.below hB)
  replace Y1:=Hd (Y1.out.below hB)
  replace Y2:=Hd (Y2.out.below hB)
  refine wp_region_held_drew (S:=fun w'=>w'.cell? ⟨w.heap.size,0,none⟩ = some (.bool g1) /\ w'.cell? ⟨w.heap.size,1,none⟩ = some (.slice A1 n1 c1) /\ w'.cell? ⟨w.heap.size,2,none⟩ = some (.bool e1) /\ w'.cell? ⟨w.heap.size,3,none⟩ = some (.slice E1 m1 d1) /\ w'.cell? ⟨(w.heap.size + 1),0,none⟩ = some (.bool g2) /\ w'.cell? ⟨(w.heap.size + 1),1,none⟩ = some (.slice A2 n2 c2) /\ w'.cell? ⟨(w.heap.size + 1),2,none⟩ = some (.bool e2) /\ w'.cell? ⟨(w.heap.size + 1),3,none⟩ = some (.slice E2 m2 d2)) (by kernel_rfl) (HT.out _ hB) (fun hH=>?_)
  clear hH
  generalize w1.drew = wr0 at *
  refine tk 0 10 (by first | assumption | exact HT.out _ hB) ?_
  try simp only [Act.put,tA,cZ,cS]
  refine tk 2 12 (by first | assumption | exact HT.out _ hB) ?_
  try simp only [Act.put,tA,cZ,cS]
  refine tk 5 15 (by first | assumption | exact HT.out _ hB) ?_
  try simp only [Act.put,tA,cZ,cS]
  refine tk 7 17 (by first | assumption | exact HT.out _ hB) ?_
  try simp only [Act.put,tA,cZ,cS]
  refine tk 1 11 (by first | assumption | exact HT.out _ hB) ?_
  try simp only [Act.put,tA,cZ,cS]
  refine tk 3 13 (by first | assumption | exact HT.out _ hB) ?_
  try simp only [Act.put,tA,cZ,cS]
  refine tk 6 16 (by first | assumption | exact HT.out _ hB) ?_
  try simp only [Act.put,tA,cZ,cS]
  refine tk 8 18 (by first | assumption | exact HT.out _ hB) ?_
  try simp only [Act.put,tA,cZ,cS]
  refine rd 4 (AllReadyH.cons rfl (fun K hK=>?_) AllReadyH.nil)
  (try simp only [gA]);(try simp only [gS]);(try simp only [gZ])
  go_simp
  (go_at_call 90;refine (rMul_any _ _ n c L L _ X1.out Y2.out (by omega) (by omega)).mono ?_;rintro e wc1 ⟨⟨gt1,At1,nt1,ct1,rfl,hz⟩,hb⟩)
  replace X1:=Hd (X1.out.below hb)
  replace X2:=Hd (X2.out.below hb)
  replace Y1:=Hd (Y1.out.below hb)
  replace Y2:=Hd (Y2.out.below hb)
  replace hB:=Below.trans hB (hb.mono hB.size)
  have T1:=Hd hz
  refine hK.out _ _ (HT.out _ hB) (fun hH=>?_)
  clear hK K hH
  try simp only [Act.put,tA,cZ,cS]
  clear hb hz
  refine rd 9 (AllReadyH.cons rfl (fun K hK=>?_) AllReadyH.nil)
  (try simp only [gA]);(try simp only [gS]);(try simp only [gZ])
  go_simp
  (go_at_call 90;refine (rMul_any _ _ d m L L _ X2.out Y1.out (by omega) (by omega)).mono ?_;rintro e wc2 ⟨⟨gt2,At2,nt2,ct2,rfl,hz⟩,hb⟩)
  replace X1:=Hd (X1.out.below hb)
  replace X2:=Hd (X2.out.below hb)
  replace Y1:=Hd (Y1.out.below hb)
  replace Y2:=Hd (Y2.out.below hb)
  replace T1:=Hd (T1.out.below hb)
  replace hB:=Below.trans hB (hb.mono hB.size)
  have T2:=Hd hz
  refine hK.out _ _ (HT.out _ hB) (fun hH=>?_)
  clear hK K hH
  try simp only [Act.put,tA,cZ,cS]
  clear hb hz
  refine rd 10 (AllReadyH.cons rfl (fun K hK=>?_) AllReadyH.nil)
  (try simp only [gA]);(try simp only [gS]);(try simp only [gZ])
  go_simp
  (go_at_call 89;refine (rOver_any _ _ (n * c) (d * m) (L + L + 1) _ T1.out T2.out (by omega)).mono ?_;rintro e wc5 ⟨⟨g5,A5,n5,c5,e5,E5,m5,d5,rfl,hz⟩,hb⟩)
  replace X1:=Hd (X1.out.below hb)
  replace X2:=Hd (X2.out.below hb)
  replace Y1:=Hd (Y1.out.below hb)
  replace Y2:=Hd (Y2.out.below hb)
  replace T1:=Hd (T1.out.below hb)
  replace T2:=Hd (T2.out.below hb)
  replace hB:=Below.trans hB (hb.mono hB.size)
  clear T1
  clear T2
  have T5:=Hd hz
  refine hK.out _ _ (HT.out _ hB) (fun hH=>?_)
  clear hK K hH
  try simp only [Act.put,tA,cZ,cS]
  clear hb hz
  refine rd 11 (AllReadyH.cons rfl (fun K hK=>?_) AllReadyH.nil)
  (try simp only [gA]);(try simp only [gS]);(try simp only [gZ])
  have R4:=BR.out.below hB
  obtain ⟨r0,r1,r2,r3,r4,r5,r6,r7,r8⟩:=id R4
  go_simp
  refine hK.out _ _ (HP.out _ (.bool g5) (.slice A5 n5 c5) (.bool e5) (.slice E5 m5 d5) (HT.out _ hB)) (fun hH=>?_)
  clear hK K
  try simp only [Act.put,tA,cZ,cS]
  refine tk 12 5 (by first | assumption | exact HT.out _ hB) ?_
  try simp only [Act.put,tA,cZ,cS]
  refine wpAnyH_done (by kernel_rfl) ?_ _
  go_wp2
  refine bodyPost_ret (v:=.tuple #[.agg #[.bool g5,.slice A5 n5 c5,.bool e5,.slice E5 m5 d5],.int .i64 0]) (by simp [results,Tryz.results31,go_sem,r0,r1,r2,r3]) rfl ⟨⟨_,_,_,_,_,_,_,_,by rw [HE.out],T5.out.put4 R4 _ _ _ _⟩,below_put4 (hw.trans (hB.mono hw.size)) (by omega) _ _ _ _⟩
theorem p16_le {i j:Nat} (h:i <= j) : (65536:Int) ^ i <= 65536 ^ j:=by
 obtain ⟨B,hB⟩ : ∃ B:Nat,65536 = B:=⟨_,rfl⟩
 have hc:(65536:Int) = (B:Int):=by omega
 rw [hc]
 have:=Nat.pow_le_pow_right (show 0 < B by omega) h
 exact_mod_cast this
theorem Rval.tight {w:World} {v:Value} {z:Int} {L K:Nat} (h:Rval w v z L) (hz:(z.natAbs:Int) < 65536 ^ K) : Rval w v z K:=by
 obtain ⟨neg,A,n,c,ds,e,hr,hd,ht,hs,hneg,hn⟩:=h
 refine ⟨neg,A,n,c,ds,e,hr,hd,ht,hs,hneg,?_⟩
 by_cases h0:n = 0
 ·omega
 ·have h1:=valR_ge hd ht (by rw [hr.1];exact h0)
  by_cases h2:n <= K
  ·exact h2
  ·exfalso
   have h3:(65536:Int) ^ K <= 65536 ^ (ds.length - 1):=p16_le (by rw [hr.1];omega)
   have h4:0 <= valR 65536 ds:=valR_nonneg (by decide) hd
   have h5:(z.natAbs:Int) = valR 65536 ds:=by
    cases neg <;> simp [withSign] at hs <;> omega
   omega
theorem Rval.lt_pow {w:World} {v:Value} {z:Int} {L:Nat} (h:Rval w v z L) : (z.natAbs:Int) < 65536 ^ L:=by
 obtain ⟨neg,A,n,c,ds,e,hr,hd,ht,hs,hneg,hn⟩:=h
 have h1:=valR_lt (R:=65536) (by decide) hd
 have h3:(65536:Int) ^ ds.length <= 65536 ^ L:=p16_le (by rw [hr.1];exact hn)
 have h4:0 <= valR 65536 ds:=valR_nonneg (by decide) hd
 have h5:(z.natAbs:Int) = valR 65536 ds:=by
  cases neg <;> simp [withSign] at hs <;> omega
 omega
theorem RQ.tight {w:World} {v:Value} {n d:Int} {L K:Nat} (h:RQ w v n d L) (hn:(n.natAbs:Int) < 65536 ^ K) (hd:(d.natAbs:Int) < 65536 ^ K) : RQ w v n d K:=by
 obtain ⟨g1,A1,n1,c1,g2,A2,n2,c2,e,h1,h2,h3⟩:=h
 exact ⟨g1,A1,n1,c1,g2,A2,n2,c2,e,h1.tight hn,h2.tight hd,h3⟩
theorem unit_even {a:Int} (h:a = 1 \/ a = -1) {p q:Nat} (hp:p % 2 = q % 2) : a ^ p = a ^ q:=by
 have ha:a ^ 2 = 1:=by rcases h with rfl | rfl <;> rfl
 have key:∀ r:Nat,a ^ r = a ^ (r % 2):=fun r=>by
  have e:r = 2 * (r / 2) + r % 2:=by omega
  have h1:a ^ r = a ^ (2 * (r / 2) + r % 2):=congrArg (fun t=>a ^ t) e
  rw [h1,Int.pow_add,Int.pow_mul,ha,Int.one_pow,Int.one_mul]
 rw [key p,key q,hp]
def PowOk (n d k:Int) : Prop:=(-40 <= k /\ k <= 40) \/ (-1 <= n /\ n <= 1 /\ d = 1)
theorem PowOk.unit {n d k:Int} (h:PowOk n d k) (hk:¬ (-40 <= k /\ k <= 40)) (hn:n ≠ 0) : (upN d n = 1 \/ upN d n = -1) /\ upN n n = 1:=by
 rcases h with h | ⟨h1,h2,rfl⟩
 ·exact absurd h hk
 ·rcases (show n = 1 \/ n = -1 by omega) with rfl | rfl
  ·exact ⟨Or.inl rfl,rfl⟩
  ·exact ⟨Or.inr rfl,rfl⟩
theorem PowOk.up {n d k kk:Int} (h:PowOk n d k) (hn:n ≠ 0) (hkk:kk <= 40 \/ ¬ (-40 <= k /\ k <= 40)) : (kk <= 40 \/ -1 <= upN d n /\ upN d n <= 1) /\ (kk <= 40 \/ -1 <= upN n n /\ upN n n <= 1):=by
 rcases hkk with h0 | h0
 ·exact ⟨Or.inl h0,Or.inl h0⟩
 ·obtain ⟨h1,h2⟩:=h.unit h0 hn
  exact ⟨Or.inr (by omega),Or.inr (by omega)⟩
theorem PowOk.same {n d k kk:Int} (h:PowOk n d k) (hn:n ≠ 0) (h0:0 <= kk) (hkk:kk.toNat = k.natAbs \/ (¬ (-40 <= k /\ k <= 40) /\ kk.toNat % 2 = k.natAbs % 2)) : powV (upN d n) kk = upN d n ^ k.natAbs /\ powV (upN n n) kk = upN n n ^ k.natAbs:=by
 rw [pow_nat h0,pow_nat h0]
 rcases hkk with e | ⟨h1,h2⟩
 ·rw [e];exact ⟨rfl,rfl⟩
 ·obtain ⟨h3,h4⟩:=h.unit h1 hn
  exact ⟨unit_even h3 h2,unit_even (Or.inl h4) h2⟩
theorem new_cross {x y:Int} (hy:y ≠ 0) : newN x y * y = x * newD x y:=by
 have hg0:(Int.gcd x y:Int) ≠ 0:=fun h0=>hy (Int.gcd_eq_zero_iff.1 (by exact_mod_cast h0)).2
 obtain ⟨a,ha⟩ : (Int.gcd x y:Int) ∣ x:=Int.gcd_dvd_left ..
 obtain ⟨b,hb⟩ : (Int.gcd x y:Int) ∣ y:=Int.gcd_dvd_right ..
 have ea:x.tdiv (Int.gcd x y) = a:=by
  conv=>lhs;arg 1;rw [ha]
  exact Int.mul_tdiv_cancel_left _ hg0
 have eb:y.tdiv (Int.gcd x y) = b:=by
  conv=>lhs;arg 1;rw [hb]
  exact Int.mul_tdiv_cancel_left _ hg0
 unfold newN newD
 rw [if_neg hy,if_neg hy,ea,eb]
 generalize (Int.gcd x y:Int) = g at *
 have e:a * y = x * b:=by rw [ha,hb];grind
 unfold upN
 split
 ·rw [Int.neg_mul,Int.mul_neg,e]
 ·exact e
theorem new_same {N D x y:Int} (hD:0 < D) (hc:Int.gcd N D = 1) (hy:y ≠ 0) (h:N * y = x * D) : N = newN x y /\ D = newD x y:=by
  refine frac_unique hD (newD_pos x y) hc (new_gcd x y) ?_
  have e:=new_cross (x:=x) hy
  apply Int.eq_of_mul_eq_mul_right hy
  calc N * newD x y * y = N * y * newD x y:=by grind
    _ = x * D * newD x y:=by rw [h]
    _ = (x * newD x y) * D:=by grind
    _ = newN x y * D * y:=by rw [<- e];grind
theorem RatRes.same {N D x y:Int} {L:Nat} {w w':World} {e:Ending} (h:RatRes L N D w e w') (hy:y ≠ 0) (hx:N * y = x * D) : RatRes L (newN x y) (newD x y) w e w':=by
 obtain ⟨⟨g1,A1,n1,c1,g2,A2,n2,c2,he,hr⟩,hb⟩:=h
 obtain ⟨e1,e2⟩:=new_same hr.d0 hr.cop hy hx
 rw [<- e1,<- e2]
 exact ⟨⟨g1,A1,n1,c1,g2,A2,n2,c2,he,hr⟩,hb⟩
theorem RatErr.mono {n d err:Int} {L M:Nat} {w w':World} {e:Ending} (h:RatErr L n d err w e w') (hl:L <= M) : RatErr M n d err w e w':=by
 obtain ⟨⟨g1,A1,n1,c1,g2,A2,n2,c2,he,hr⟩,hb⟩:=h
 exact ⟨⟨g1,A1,n1,c1,g2,A2,n2,c2,he,hr.mono hl⟩,hb⟩
theorem RQErr.mono {n d err:Int} {L M:Nat} {w w':World} {e:Ending} (h:RQErr L n d err w e w') (hl:L <= M) : RQErr M n d err w e w':=by
 obtain ⟨⟨g1,A1,n1,c1,g2,A2,n2,c2,he,hr⟩,hb⟩:=h
 exact ⟨⟨g1,A1,n1,c1,g2,A2,n2,c2,he,hr.mono hl⟩,hb⟩
theorem Ival.ltN {w:World} {v:Value} {z:Int} {L:Nat} (h:Ival w v z L) : (z.natAbs:Int) < BB ^ L:=by
 obtain ⟨neg,s,a,e,hn,ha,hs,hneg⟩:=h
 have h1:=hn.lt_pow
 have h5:(z.natAbs:Int) = a:=by cases neg <;> simp [withSign] at hs <;> omega
 omega
theorem BB8:BB ^ 8 = (65536:Int) ^ 16:=by decide
theorem Rat.lt16 {w:World} {v:Value} {n d:Int} (h:Rat w v n d 8) : (n.natAbs:Int) < 65536 ^ 16 /\ (d.natAbs:Int) < 65536 ^ 16:=by
 obtain ⟨g1,A1,n1,c1,g2,A2,n2,c2,e,h1,h2,h3⟩:=h
 rw [<- BB8]
 refine ⟨h1.ltN,?_⟩
 have h4:=h2.ltN
 unfold dn at h4
 split at h4
 ·rename_i hd;rw [hd];decide
 ·exact h4
def goesUp (way q h:Int) : Bool:=if way = 0 then false else if way = 1 then true else if way = 2 then decide (q < 0) else (decide (0 < h) || (decide (h = 0) && decide (q % 2 = 1)))
def rdI (way n d:Int) : Int:=if n % d = 0 then n / d else if goesUp way (n / d) (cmpI (n % d + n % d) d) = true then n / d + 1 else n / d
theorem cmp_mul {g a b:Int} (hg:0 < g) : cmpI (g * a) (g * b) = cmpI a b:=by
 rcases Int.lt_trichotomy a b with h | h | h
 ·rw [cmpI_lt h,cmpI_lt (Int.mul_lt_mul_of_pos_left h hg)]
 ·rw [h,cmpI_eq rfl,cmpI_eq rfl]
 ·rw [cmpI_gt h,cmpI_gt (Int.mul_lt_mul_of_pos_left h hg)]
theorem rd_scale {way g a b:Int} (hg:0 < g) : rdI way (g * a) (g * b) = rdI way a b:=by
 unfold rdI
 rw [Int.mul_ediv_mul_of_pos _ _ hg,Int.mul_emod_mul_of_pos _ _ hg,<- Int.mul_add,cmp_mul hg]
 by_cases h:a % b = 0
 ·rw [if_pos h,if_pos (by rw [h,Int.mul_zero])]
 ·rw [if_neg h,if_neg (by intro e;rcases Int.mul_eq_zero.1 e with h1 | h1 <;> omega)]
theorem up_mul {g a b:Int} (hg:0 < g) : upN (g * a) (g * b) = g * upN a b:=by
 unfold upN
 by_cases h:b < 0
 ·rw [if_pos h,if_pos (Int.mul_neg_of_pos_of_neg hg h),Int.mul_neg]
 ·rw [if_neg h,if_neg (by have:=Int.mul_nonneg (Int.le_of_lt hg) (show 0 <= b by omega);omega)]
theorem rd_new {way n d:Int} (hd:d ≠ 0) : rdI way (upN n d) (upN d d) = rdI way (newN n d) (newD n d):=by
 have hg0:(Int.gcd n d:Int) ≠ 0:=fun h0=>hd (Int.gcd_eq_zero_iff.1 (by exact_mod_cast h0)).2
 obtain ⟨a,ha⟩ : (Int.gcd n d:Int) ∣ n:=Int.gcd_dvd_left ..
 obtain ⟨b,hb⟩ : (Int.gcd n d:Int) ∣ d:=Int.gcd_dvd_right ..
 have ea:n.tdiv (Int.gcd n d) = a:=by
  conv=>lhs;arg 1;rw [ha]
  exact Int.mul_tdiv_cancel_left _ hg0
 have eb:d.tdiv (Int.gcd n d) = b:=by
  conv=>lhs;arg 1;rw [hb]
  exact Int.mul_tdiv_cancel_left _ hg0
 have hg:0 < (Int.gcd n d:Int):=by omega
 unfold newN newD
 rw [if_neg hd,if_neg hd,ea,eb]
 generalize (Int.gcd n d:Int) = g at *
 rw [ha,hb,up_mul hg,up_mul hg,rd_scale hg]
theorem up_pos {d:Int} (hd:d ≠ 0) : 0 < upN d d:=by unfold upN;split <;> omega
theorem new12:newN 1 2 = 1 /\ newD 1 2 = 2:=by decide
theorem cmp_half {p q:Int} (hq:0 < q) : cmpI (newN (p * 1 + -(p / q) * q) (q * 1) * newD 1 2) (newN 1 2 * newD (p * 1 + -(p / q) * q) (q * 1)) = cmpI (p % q + p % q) q:=by
 rw [new12.1,new12.2]
 have e0:p * 1 + -(p / q) * q = p % q:=by
  have:=Int.emod_add_mul_ediv p q
  have e2:q * (p / q) = p / q * q:=Int.mul_comm _ _
  rw [Int.neg_mul,Int.mul_one];omega
 rw [e0,Int.mul_one]
 have hc:=new_cross (x:=p % q) (y:=q) (by omega)
 have hB:=newD_pos (p % q) q
 generalize newN (p % q) q = A at *
 generalize newD (p % q) q = B at *
 generalize p % q = m at *
 have e1:A * 2 * q = B * (m + m):=by grind
 have e3:1 * B * q = B * q:=by rw [Int.one_mul]
 have h1:cmpI (q * (A * 2)) (q * (1 * B)) = cmpI (A * 2) (1 * B):=cmp_mul hq
 have h2:cmpI (B * (m + m)) (B * q) = cmpI (m + m) q:=cmp_mul hB
 rw [<- h1,<- h2,<- e1,<- e3,Int.mul_comm q (A * 2),Int.mul_comm q (1 * B)]
theorem floor_neg {p q:Int} (hq:0 < q) : p / q < 0 ↔ p < 0:=by
 constructor
 ·intro h
  rcases Int.lt_or_le p 0 with h1 | h1
  ·exact h1
  ·have:=Int.ediv_nonneg h1 (Int.le_of_lt hq);omega
 ·intro h;exact Int.ediv_neg_of_neg_of_pos h hq
theorem whole_mod {p q:Int} (hq:0 < q) (hc:Int.gcd p q = 1) : p % q = 0 ↔ q = 1:=by
 constructor
 ·intro h
  have h1:q ∣ p:=Int.dvd_of_emod_eq_zero h
  have h2:(Int.gcd p q:Int) = q:=by
   rw [Int.gcd_comm,Int.gcd_eq_natAbs_left h1 ];omega
  rw [hc] at h2;omega
 ·intro h;rw [h];exact Int.emod_one _
theorem rd_ref {way p q:Int} (hq:0 < q) (hc:Int.gcd p q = 1) : (q = 1 -> rdI way p q = p / q) /\ (q ≠ 1 -> rdI way p q = if goesUp way (p / q) (cmpI (p % q + p % q) q) = true then p / q + 1 else p / q):=by
 constructor
 ·intro h;unfold rdI;rw [if_pos ((whole_mod hq hc).2 h)]
 ·intro h;unfold rdI;rw [if_neg (fun e=>h ((whole_mod hq hc).1 e))]
def MCell (M:Int) (w:World) : Prop:=w.cell? ⟨0,0,none⟩ = some (.int .i64 M)
theorem MCell.below {w w':World} {M:Int} (h:MCell M w) (hb:Below w.heap.size w w') : MCell M w':=(hb.cell (p:=⟨0,0,none⟩) (World.block_lt_of_cell? _ _ h)).trans h
theorem awake_m (w:World) (M:Int) (h:MCell M w) : Calls Tryz.prog 14 #[] w fun e w'=>e = .returned (.bool true) /\ Below w.heap.size w w':=awake_any w M h
theorem Fx4.new1 (w:World) (v0 v1 v2 v3:Value) (t:TypeId) (o:Obj) : Fx4 ((w.alloc (.cells #[v0,v1,v2,v3] t)).alloc o) w.heap.size v0 v1 v2 v3:=(Fx4.new w v0 v1 v2 v3 t).below (below_alloc _ _)
theorem Fx4.new2 (w:World) (v0 v1 v2 v3:Value) (t:TypeId) (C:Array Value) (s:TypeId) : Fx4 ((w.alloc (.cells C s)).alloc (.cells #[v0,v1,v2,v3] t)) (w.heap.size + 1) v0 v1 v2 v3:=by
 have h:=Fx4.new (w.alloc (.cells C s)) v0 v1 v2 v3 t
 rw [show (w.alloc (.cells C s)).heap.size = w.heap.size + 1 from by simp] at h
 exact h
theorem Fx.newA (w:World) (v0 v1:Value) (t:TypeId) (o:Obj) : Fx ((w.alloc (.cells #[v0,v1] t)).alloc o) w.heap.size v0 v1:=(Fx.new w v0 v1 t).below (below_alloc _ _)
theorem Fx.newB (w:World) (v0 v1:Value) (t:TypeId) (C:Array Value) (s:TypeId) : Fx ((w.alloc (.cells C s)).alloc (.cells #[v0,v1] t)) (w.heap.size + 1) v0 v1:=by
 have h:=Fx.new (w.alloc (.cells C s)) v0 v1 t
 rw [show (w.alloc (.cells C s)).heap.size = w.heap.size + 1 from by simp] at h
 exact h
theorem Of_rat (u:Value) (x:Int) (L:Nat) (w:World) (h:Ival w u x L) :
  Calls Tryz.prog 20 #[u] w fun e w'=>(∃ g1 A1 n1 c1 g2 A2 n2 c2,e = .returned (.agg #[.bool g1,.slice A1 n1 c1,.bool g2,.slice A2 n2 c2]) /\ Rat w' (.agg #[.bool g1,.slice A1 n1 c1,.bool g2,.slice A2 n2 c2]) x 1 L) /\ Below w.heap.size w w':=
 (Of_any u x L w h).mono fun _ _ ⟨⟨ng,A2,n2,c2,he,hv⟩,hb⟩=>⟨⟨ng,A2,n2,c2,false,none,0,0,he,Rat.mk' hv Ival.nought (by decide) (Int.gcd_one_right ..)⟩,hb⟩
end Go.Proofs.YtbajnceoolkckaaGreat
