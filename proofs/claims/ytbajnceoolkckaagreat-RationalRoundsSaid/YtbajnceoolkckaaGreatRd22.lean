/- Of the proof of RationalRounds: RatI. -/
import Derived.Test.YtbajnceoolkckaaGreatRd21
open List renaming getElem_toArray → gA, getElem_cons_succ → gS, getElem_cons_zero → gZ, setIfInBounds_toArray → tA, set_cons_zero → cZ, set_cons_succ → cS
open Go.Lib renaming hid → Hd
set_option maxRecDepth 100000
set_option maxHeartbeats 16000000
namespace Go.Proofs.YtbajnceoolkckaaGreat
open Go.RowKit LM
theorem Sub_q (u v:Value) (n d m c:Int) (L:Nat) (w:World) (h:Rat w u n d L) (g:Rat w v m c L) (hL:L <= 400000) (hL2:2 <= L) :
  Calls Tryz.prog 42 #[u,v] w fun e w'=>∃ N D,N * (d * c) = (n * c - m * d) * D /\ RatRes (2 * L + 5) N D w e w':=by
 obtain ⟨g1,A1,n1,c1,e1,E1,m1,d1,rfl⟩:=h.form
 obtain ⟨g2,A2,n2,c2,e2,E2,m2,d2,rfl⟩:=g.form
 obtain ⟨hw,F0,F1,F2,hs⟩:=three444 w (.bool g1) (.slice A1 n1 c1) (.bool e1) (.slice E1 m1 d1) (.bool g2) (.slice A2 n2 c2) (.bool e2) (.slice E2 m2 d2)
 have X:=Hd (h.below hw)
 have Y:=Hd (g.below hw)
 obtain ⟨W0,hW0⟩ : ∃ W0,((w.alloc (.cells #[.bool g1,.slice A1 n1 c1,.bool e1,.slice E1 m1 d1] 38)).alloc (.cells #[.bool g2,.slice A2 n2 c2,.bool e2,.slice E2 m2 d2] 38)).alloc (.cells #[.bool false,.slice none 0 0,.bool false,.slice none 0 0] 38) = W0:=⟨_,rfl⟩
 rw [hW0] at hw F0 F1 F2 hs X Y
 have B0:=Hd F0
 have B1:=Hd F1
 have BR:=Hd F2
 clear F0 F1 F2 h g
 go_enter Tryz.func42,Tryz.ntmps42
 go_upto_region 1 with fail
 clear hW0
 have HT:=Hd (fun (w':World) (hb:Below W0.heap.size W0 w')=>(show w'.cell? ⟨w.heap.size,0,none⟩ = some (.bool g1) /\ w'.cell? ⟨w.heap.size,1,none⟩ = some (.slice A1 n1 c1) /\ w'.cell? ⟨w.heap.size,2,none⟩ = some (.bool e1) /\ w'.cell? ⟨w.heap.size,3,none⟩ = some (.slice E1 m1 d1) /\ w'.cell? ⟨(w.heap.size + 1),0,none⟩ = some (.bool g2) /\ w'.cell? ⟨(w.heap.size + 1),1,none⟩ = some (.slice A2 n2 c2) /\ w'.cell? ⟨(w.heap.size + 1),2,none⟩ = some (.bool e2) /\ w'.cell? ⟨(w.heap.size + 1),3,none⟩ = some (.slice E2 m2 d2) from ⟨(B0.out.below hb).c0,(B0.out.below hb).c1,(B0.out.below hb).c2,(B0.out.below hb).c3,(B1.out.below hb).c0,(B1.out.below hb).c1,(B1.out.below hb).c2,(B1.out.below hb).c3⟩))
 have HP:=Hd (fun (w':World) (x0 x1 x2 x3:Value) (h:w'.cell? ⟨w.heap.size,0,none⟩ = some (.bool g1) /\ w'.cell? ⟨w.heap.size,1,none⟩ = some (.slice A1 n1 c1) /\ w'.cell? ⟨w.heap.size,2,none⟩ = some (.bool e1) /\ w'.cell? ⟨w.heap.size,3,none⟩ = some (.slice E1 m1 d1) /\ w'.cell? ⟨(w.heap.size + 1),0,none⟩ = some (.bool g2) /\ w'.cell? ⟨(w.heap.size + 1),1,none⟩ = some (.slice A2 n2 c2) /\ w'.cell? ⟨(w.heap.size + 1),2,none⟩ = some (.bool e2) /\ w'.cell? ⟨(w.heap.size + 1),3,none⟩ = some (.slice E2 m2 d2))=>(show (fun w'=>w'.cell? ⟨w.heap.size,0,none⟩ = some (.bool g1) /\ w'.cell? ⟨w.heap.size,1,none⟩ = some (.slice A1 n1 c1) /\ w'.cell? ⟨w.heap.size,2,none⟩ = some (.bool e1) /\ w'.cell? ⟨w.heap.size,3,none⟩ = some (.slice E1 m1 d1) /\ w'.cell? ⟨(w.heap.size + 1),0,none⟩ = some (.bool g2) /\ w'.cell? ⟨(w.heap.size + 1),1,none⟩ = some (.slice A2 n2 c2) /\ w'.cell? ⟨(w.heap.size + 1),2,none⟩ = some (.bool e2) /\ w'.cell? ⟨(w.heap.size + 1),3,none⟩ = some (.slice E2 m2 d2)) (put4 w' (w.heap.size + 1 + 1) x0 x1 x2 x3) from ⟨(cell_put4 (by omega) _ _ _ _).trans h.1,(cell_put4 (by omega) _ _ _ _).trans h.2.1,(cell_put4 (by omega) _ _ _ _).trans h.2.2.1,(cell_put4 (by omega) _ _ _ _).trans h.2.2.2.1,(cell_put4 (by omega) _ _ _ _).trans h.2.2.2.2.1,(cell_put4 (by omega) _ _ _ _).trans h.2.2.2.2.2.1,(cell_put4 (by omega) _ _ _ _).trans h.2.2.2.2.2.2.1,(cell_put4 (by omega) _ _ _ _).trans h.2.2.2.2.2.2.2⟩))
 have hB:=(Below.refl W0.heap.size W0).drew
 replace X:=Hd (X.out.below hB)
 replace Y:=Hd (Y.out.below hB)
 refine wp_region_held_drew (S:=fun w'=>w'.cell? ⟨w.heap.size,0,none⟩ = some (.bool g1) /\ w'.cell? ⟨w.heap.size,1,none⟩ = some (.slice A1 n1 c1) /\ w'.cell? ⟨w.heap.size,2,none⟩ = some (.bool e1) /\ w'.cell? ⟨w.heap.size,3,none⟩ = some (.slice E1 m1 d1) /\ w'.cell? ⟨(w.heap.size + 1),0,none⟩ = some (.bool g2) /\ w'.cell? ⟨(w.heap.size + 1),1,none⟩ = some (.slice A2 n2 c2) /\ w'.cell? ⟨(w.heap.size + 1),2,none⟩ = some (.bool e2) /\ w'.cell? ⟨(w.heap.size + 1),3,none⟩ = some (.slice E2 m2 d2)) (by kernel_rfl) (HT.out _ hB) (fun hH=>?_)
 clear hH
 generalize W0.drew = wr0 at *
 refine tk 0 5 (by first | assumption | exact HT.out _ hB) ?_
 try simp only [Act.put,tA,cZ,cS]
 refine tk 1 6 (by first | assumption | exact HT.out _ hB) ?_
 try simp only [Act.put,tA,cZ,cS]
 refine rd 2 (AllReadyH.cons rfl (fun K hK=>?_) AllReadyH.nil)
 (try simp only [gA]);(try simp only [gS]);(try simp only [gZ])
 go_simp
 (go_at_call 36;refine (Neg_any _ m c L _ Y.out (by omega)).mono ?_;rintro e wc1 ⟨⟨y1,y2,y3,y4,y5,y6,y7,y8,rfl,hz⟩,hb⟩)
 replace X:=Hd (X.out.below hb)
 replace Y:=Hd (Y.out.below hb)
 replace hB:=Below.trans hB (hb.mono hB.size)
 have T1:=Hd hz
 refine hK.out _ _ (HT.out _ hB) (fun hH=>?_)
 clear hK K hH
 try simp only [Act.put,tA,cZ,cS]
 clear hb hz
 refine rd 3 (AllReadyH.cons rfl (fun K hK=>?_) AllReadyH.nil)
 (try simp only [gA]);(try simp only [gS]);(try simp only [gZ])
 go_simp
 (go_at_call 40;refine (Add_q _ _ n d (-m) c L _ X.out T1.out hL hL2).mono ?_;rintro e wc2 ⟨N,D,hcr,⟨gn,An,nn,cn,gd,Ad,nd,cd,rfl,hz⟩,hb⟩)
 replace X:=Hd (X.out.below hb)
 replace Y:=Hd (Y.out.below hb)
 replace T1:=Hd (T1.out.below hb)
 replace hB:=Below.trans hB (hb.mono hB.size)
 have T2:=Hd hz
 refine hK.out _ _ (HT.out _ hB) (fun hH=>?_)
 clear hK K hH
 try simp only [Act.put,tA,cZ,cS]
 clear hb hz
 refine rd 4 (AllReadyH.cons rfl (fun K hK=>?_) AllReadyH.nil)
 (try simp only [gA]);(try simp only [gS]);(try simp only [gZ])
 have R4:=BR.out.below hB
 obtain ⟨r0,r1,r2,r3,r4,r5,r6,r7,r8⟩:=id R4
 go_simp
 refine hK.out _ _ (HP.out _ (.bool gn) (.slice An nn cn) (.bool gd) (.slice Ad nd cd) (HT.out _ hB)) (fun hH=>?_)
 clear hK K
 try simp only [Act.put,tA,cZ,cS]
 refine wpAnyH_done (by kernel_rfl) ?_ _
 go_wp2
 refine bodyPost_ret (v:=.agg #[.bool gn,.slice An nn cn,.bool gd,.slice Ad nd cd]) (by simp [results,Tryz.results42,go_sem,r0,r1,r2,r3]) rfl ⟨N,D,by rw [hcr,Int.neg_mul,Int.sub_eq_add_neg],⟨⟨_,_,_,_,_,_,_,_,rfl,T2.out.put4 R4 _ _ _ _⟩,below_put4 (hw.trans (hB.mono hw.size)) (by omega) _ _ _ _⟩⟩
theorem new_q (n:Int) (w:World) (h0:-9223372036854775808 <= n) (h1:n <= 9223372036854775807) :
  Calls Tryz.prog 65 #[.int .i64 n] w fun e w'=>(∃ ng A2 n2 c2,e = .returned (.agg #[.bool ng,.slice A2 n2 c2]) /\ Ival w' (.agg #[.bool ng,.slice A2 n2 c2]) n 2) /\ Below w.heap.size w w':=
 (new_int n w h0 h1).mono fun _ _ ⟨_,he,hv,hb⟩=>by obtain ⟨ng,A,n,c,rfl⟩:=hv.form;exact ⟨⟨ng,A,n,c,he,hv⟩,hb⟩
theorem cmpI_range (n:Int) : -9223372036854775808 <= cmpI n 0 /\ cmpI n 0 <= 9223372036854775807:=by
 unfold cmpI;split
 ·omega
 ·split <;> omega
theorem cmp_signs {n d m c:Int} (hd:0 < d) (hc:0 < c) (h:cmpI n 0 ≠ cmpI m 0) : cmpI (cmpI n 0) (cmpI m 0) = cmpI (n * c) (m * d):=by
 have pos:∀ {x y:Int},0 < x -> 0 < y -> 0 < x * y:=fun h1 h2=>Int.mul_pos h1 h2
 have neg:∀ {x y:Int},x < 0 -> 0 < y -> x * y < 0:=fun h1 h2=>Int.mul_neg_of_neg_of_pos h1 h2
 rcases Int.lt_trichotomy n 0 with hn | hn | hn <;> rcases Int.lt_trichotomy m 0 with hm | hm | hm
 ·exact absurd ((cmpI_lt hn).trans (cmpI_lt hm).symm) h
 ·rw [cmpI_lt hn,cmpI_eq hm,hm,Int.zero_mul,cmpI_lt (neg hn hc)];decide
 ·rw [cmpI_lt hn,cmpI_gt hm,cmpI_lt (Int.lt_trans (neg hn hc) (pos hm hd))];decide
 ·rw [cmpI_eq hn,cmpI_lt hm,hn,Int.zero_mul,cmpI_gt (neg hm hd)];decide
 ·exact absurd ((cmpI_eq hn).trans (cmpI_eq hm).symm) h
 ·rw [cmpI_eq hn,cmpI_gt hm,hn,Int.zero_mul,cmpI_lt (pos hm hd)];decide
 ·rw [cmpI_gt hn,cmpI_lt hm,cmpI_gt (Int.lt_trans (neg hm hd) (pos hn hc))];decide
 ·rw [cmpI_gt hn,cmpI_eq hm,hm,Int.zero_mul,cmpI_gt (pos hn hc)];decide
 ·exact absurd ((cmpI_gt hn).trans (cmpI_gt hm).symm) h
theorem Cmp_q (u v:Value) (n d m c:Int) (L:Nat) (w:World) (h:Rat w u n d L) (g:Rat w v m c L) (hL:L <= 400000) :
  Calls Tryz.prog 26 #[u,v] w fun e w'=>e = .returned (.int .i64 (cmpI (n * c) (m * d))) /\ Below w.heap.size w w':=by
 obtain ⟨g1,A1,n1,c1,e1,E1,m1,d1,rfl⟩:=h.form
 obtain ⟨g2,A2,n2,c2,e2,E2,m2,d2,rfl⟩:=g.form
 obtain ⟨hw,F0,F1,hs⟩:=two44 w (.bool g1) (.slice A1 n1 c1) (.bool e1) (.slice E1 m1 d1) (.bool g2) (.slice A2 n2 c2) (.bool e2) (.slice E2 m2 d2)
 have X:=Hd (h.below hw)
 have Y:=Hd (g.below hw)
 obtain ⟨W0,hW0⟩ : ∃ W0,(w.alloc (.cells #[.bool g1,.slice A1 n1 c1,.bool e1,.slice E1 m1 d1] 38)).alloc (.cells #[.bool g2,.slice A2 n2 c2,.bool e2,.slice E2 m2 d2] 38) = W0:=⟨_,rfl⟩
 rw [hW0] at hw F0 F1 hs X Y
 have B0:=Hd F0
 have B1:=Hd F1
 clear F0 F1 h g
 have hd:=X.out.parts.2.2.1
 have hc:=Y.out.parts.2.2.1
 go_enter Tryz.func26,Tryz.ntmps26
 go_upto_region 1 with fail
 clear hW0
 have HT:=Hd (fun (w':World) (hb:Below W0.heap.size W0 w')=>(show w'.cell? ⟨w.heap.size,0,none⟩ = some (.bool g1) /\ w'.cell? ⟨w.heap.size,1,none⟩ = some (.slice A1 n1 c1) /\ w'.cell? ⟨w.heap.size,2,none⟩ = some (.bool e1) /\ w'.cell? ⟨w.heap.size,3,none⟩ = some (.slice E1 m1 d1) /\ w'.cell? ⟨(w.heap.size + 1),0,none⟩ = some (.bool g2) /\ w'.cell? ⟨(w.heap.size + 1),1,none⟩ = some (.slice A2 n2 c2) /\ w'.cell? ⟨(w.heap.size + 1),2,none⟩ = some (.bool e2) /\ w'.cell? ⟨(w.heap.size + 1),3,none⟩ = some (.slice E2 m2 d2) from ⟨(B0.out.below hb).c0,(B0.out.below hb).c1,(B0.out.below hb).c2,(B0.out.below hb).c3,(B1.out.below hb).c0,(B1.out.below hb).c1,(B1.out.below hb).c2,(B1.out.below hb).c3⟩))
 have hB:=(Below.refl W0.heap.size W0).drew
 replace X:=Hd (X.out.below hB)
 replace Y:=Hd (Y.out.below hB)
 refine wp_region_held_drew (S:=fun w'=>w'.cell? ⟨w.heap.size,0,none⟩ = some (.bool g1) /\ w'.cell? ⟨w.heap.size,1,none⟩ = some (.slice A1 n1 c1) /\ w'.cell? ⟨w.heap.size,2,none⟩ = some (.bool e1) /\ w'.cell? ⟨w.heap.size,3,none⟩ = some (.slice E1 m1 d1) /\ w'.cell? ⟨(w.heap.size + 1),0,none⟩ = some (.bool g2) /\ w'.cell? ⟨(w.heap.size + 1),1,none⟩ = some (.slice A2 n2 c2) /\ w'.cell? ⟨(w.heap.size + 1),2,none⟩ = some (.bool e2) /\ w'.cell? ⟨(w.heap.size + 1),3,none⟩ = some (.slice E2 m2 d2)) (by kernel_rfl) (HT.out _ hB) (fun hH=>?_)
 clear hH
 generalize W0.drew = wr0 at *
 refine tk 0 5 (by first | assumption | exact HT.out _ hB) ?_
 try simp only [Act.put,tA,cZ,cS]
 refine tk 2 7 (by first | assumption | exact HT.out _ hB) ?_
 try simp only [Act.put,tA,cZ,cS]
 refine rd 1 (AllReadyH.cons rfl (fun K hK=>?_) AllReadyH.nil)
 (try simp only [gA]);(try simp only [gS]);(try simp only [gZ])
 go_simp
 (go_at_call 24;refine (Sign_any _ n d L _ X.out).mono ?_;rintro e wc1 ⟨rfl,hb⟩)
 replace X:=Hd (X.out.below hb)
 replace Y:=Hd (Y.out.below hb)
 replace hB:=Below.trans hB (hb.mono hB.size)
 refine hK.out _ _ (HT.out _ hB) (fun hH=>?_)
 clear hK K hH
 try simp only [Act.put,tA,cZ,cS]
 clear hb
 refine rd 3 (AllReadyH.cons rfl (fun K hK=>?_) AllReadyH.nil)
 (try simp only [gA]);(try simp only [gS]);(try simp only [gZ])
 go_simp
 (go_at_call 24;refine (Sign_any _ m c L _ Y.out).mono ?_;rintro e wc2 ⟨rfl,hb⟩)
 replace X:=Hd (X.out.below hb)
 replace Y:=Hd (Y.out.below hb)
 replace hB:=Below.trans hB (hb.mono hB.size)
 refine hK.out _ _ (HT.out _ hB) (fun hH=>?_)
 clear hK K hH
 try simp only [Act.put,tA,cZ,cS]
 clear hb
 refine tk 4 9 (by first | assumption | exact HT.out _ hB) ?_
 try simp only [Act.put,tA,cZ,cS]
 refine wpAnyH_done (by kernel_rfl) ?_ _
 replace B0:=Hd (B0.out.below hB)
 replace B1:=Hd (B1.out.below hB)
 replace hw:=hw.trans (hB.mono hw.size)
 by_cases hsg:cmpI n 0 = cmpI m 0
 ·skip
  have hsb:(cmpI n 0 != cmpI m 0) = false:=by rw [hsg];simp
  go_upto_region 3 with fail
  have HT:=Hd (fun (w':World) (hb:Below wc2.heap.size wc2 w')=>(show w'.cell? ⟨w.heap.size,0,none⟩ = some (.bool g1) /\ w'.cell? ⟨w.heap.size,1,none⟩ = some (.slice A1 n1 c1) /\ w'.cell? ⟨w.heap.size,2,none⟩ = some (.bool e1) /\ w'.cell? ⟨w.heap.size,3,none⟩ = some (.slice E1 m1 d1) /\ w'.cell? ⟨(w.heap.size + 1),0,none⟩ = some (.bool g2) /\ w'.cell? ⟨(w.heap.size + 1),1,none⟩ = some (.slice A2 n2 c2) /\ w'.cell? ⟨(w.heap.size + 1),2,none⟩ = some (.bool e2) /\ w'.cell? ⟨(w.heap.size + 1),3,none⟩ = some (.slice E2 m2 d2) from ⟨(B0.out.below hb).c0,(B0.out.below hb).c1,(B0.out.below hb).c2,(B0.out.below hb).c3,(B1.out.below hb).c0,(B1.out.below hb).c1,(B1.out.below hb).c2,(B1.out.below hb).c3⟩))
  have hB:=(Below.refl wc2.heap.size wc2).drew
  replace X:=Hd (X.out.below hB)
  replace Y:=Hd (Y.out.below hB)
  refine wp_region_held_drew (S:=fun w'=>w'.cell? ⟨w.heap.size,0,none⟩ = some (.bool g1) /\ w'.cell? ⟨w.heap.size,1,none⟩ = some (.slice A1 n1 c1) /\ w'.cell? ⟨w.heap.size,2,none⟩ = some (.bool e1) /\ w'.cell? ⟨w.heap.size,3,none⟩ = some (.slice E1 m1 d1) /\ w'.cell? ⟨(w.heap.size + 1),0,none⟩ = some (.bool g2) /\ w'.cell? ⟨(w.heap.size + 1),1,none⟩ = some (.slice A2 n2 c2) /\ w'.cell? ⟨(w.heap.size + 1),2,none⟩ = some (.bool e2) /\ w'.cell? ⟨(w.heap.size + 1),3,none⟩ = some (.slice E2 m2 d2)) (by kernel_rfl) (HT.out _ hB) (fun hH=>?_)
  clear hH
  generalize wc2.drew = wr0 at *
  refine tk 0 17 (by first | assumption | exact HT.out _ hB) ?_
  try simp only [Act.put,tA,cZ,cS]
  refine tk 1 18 (by first | assumption | exact HT.out _ hB) ?_
  try simp only [Act.put,tA,cZ,cS]
  refine tk 3 20 (by first | assumption | exact HT.out _ hB) ?_
  try simp only [Act.put,tA,cZ,cS]
  refine tk 4 21 (by first | assumption | exact HT.out _ hB) ?_
  try simp only [Act.put,tA,cZ,cS]
  refine rd 2 (AllReadyH.cons rfl (fun K hK=>?_) AllReadyH.nil)
  (try simp only [gA]);(try simp only [gS]);(try simp only [gZ])
  go_simp
  (go_at_call 84;refine (over_any _ _ n d m c L _ X.out Y.out (by omega)).mono ?_;rintro e wd1 ⟨⟨gt1,At1,nt1,ct1,rfl,hz⟩,hb⟩)
  replace X:=Hd (X.out.below hb)
  replace Y:=Hd (Y.out.below hb)
  replace hB:=Below.trans hB (hb.mono hB.size)
  have T1:=Hd hz
  refine hK.out _ _ (HT.out _ hB) (fun hH=>?_)
  clear hK K hH
  try simp only [Act.put,tA,cZ,cS]
  clear hb hz
  refine rd 5 (AllReadyH.cons rfl (fun K hK=>?_) AllReadyH.nil)
  (try simp only [gA]);(try simp only [gS]);(try simp only [gZ])
  go_simp
  (go_at_call 84;refine (over_any _ _ m c n d L _ Y.out X.out (by omega)).mono ?_;rintro e wd2 ⟨⟨gt2,At2,nt2,ct2,rfl,hz⟩,hb⟩)
  replace X:=Hd (X.out.below hb)
  replace Y:=Hd (Y.out.below hb)
  replace T1:=Hd (T1.out.below hb)
  replace hB:=Below.trans hB (hb.mono hB.size)
  have T2:=Hd hz
  refine hK.out _ _ (HT.out _ hB) (fun hH=>?_)
  clear hK K hH
  try simp only [Act.put,tA,cZ,cS]
  clear hb hz
  refine rd 6 (AllReadyH.cons rfl (fun K hK=>?_) AllReadyH.nil)
  (try simp only [gA]);(try simp only [gS]);(try simp only [gZ])
  go_simp
  (go_at_call 63;refine (cmp_int _ _ (n * c) (m * d) (L + L) (L + L) _ T1.out T2.out (by omega) (by omega)).mono ?_;rintro e wd3 ⟨rfl,hb⟩)
  replace X:=Hd (X.out.below hb)
  replace Y:=Hd (Y.out.below hb)
  replace T1:=Hd (T1.out.below hb)
  replace T2:=Hd (T2.out.below hb)
  replace hB:=Below.trans hB (hb.mono hB.size)
  refine hK.out _ _ (HT.out _ hB) (fun hH=>?_)
  clear hK K hH
  try simp only [Act.put,tA,cZ,cS]
  clear hb
  refine tk 7 4 (by first | assumption | exact HT.out _ hB) ?_
  try simp only [Act.put,tA,cZ,cS]
  refine wpAnyH_done (by kernel_rfl) ?_ _
  replace B0:=Hd (B0.out.below hB)
  replace B1:=Hd (B1.out.below hB)
  replace hw:=hw.trans (hB.mono hw.size)
  go_wp2
  go_ret
  exact ⟨rfl,hw⟩
 ·skip
  have hsb:(cmpI n 0 != cmpI m 0) = true:=by simp [hsg]
  have hcx:=cmp_signs hd hc hsg
  skip
  go_upto_region 2 with fail
  have HT:=Hd (fun (w':World) (hb:Below wc2.heap.size wc2 w')=>(show w'.cell? ⟨w.heap.size,0,none⟩ = some (.bool g1) /\ w'.cell? ⟨w.heap.size,1,none⟩ = some (.slice A1 n1 c1) /\ w'.cell? ⟨w.heap.size,2,none⟩ = some (.bool e1) /\ w'.cell? ⟨w.heap.size,3,none⟩ = some (.slice E1 m1 d1) /\ w'.cell? ⟨(w.heap.size + 1),0,none⟩ = some (.bool g2) /\ w'.cell? ⟨(w.heap.size + 1),1,none⟩ = some (.slice A2 n2 c2) /\ w'.cell? ⟨(w.heap.size + 1),2,none⟩ = some (.bool e2) /\ w'.cell? ⟨(w.heap.size + 1),3,none⟩ = some (.slice E2 m2 d2) from ⟨(B0.out.below hb).c0,(B0.out.below hb).c1,(B0.out.below hb).c2,(B0.out.below hb).c3,(B1.out.below hb).c0,(B1.out.below hb).c1,(B1.out.below hb).c2,(B1.out.below hb).c3⟩))
  have hB:=(Below.refl wc2.heap.size wc2).drew
  replace X:=Hd (X.out.below hB)
  replace Y:=Hd (Y.out.below hB)
  refine wp_region_held_drew (S:=fun w'=>w'.cell? ⟨w.heap.size,0,none⟩ = some (.bool g1) /\ w'.cell? ⟨w.heap.size,1,none⟩ = some (.slice A1 n1 c1) /\ w'.cell? ⟨w.heap.size,2,none⟩ = some (.bool e1) /\ w'.cell? ⟨w.heap.size,3,none⟩ = some (.slice E1 m1 d1) /\ w'.cell? ⟨(w.heap.size + 1),0,none⟩ = some (.bool g2) /\ w'.cell? ⟨(w.heap.size + 1),1,none⟩ = some (.slice A2 n2 c2) /\ w'.cell? ⟨(w.heap.size + 1),2,none⟩ = some (.bool e2) /\ w'.cell? ⟨(w.heap.size + 1),3,none⟩ = some (.slice E2 m2 d2)) (by kernel_rfl) (HT.out _ hB) (fun hH=>?_)
  clear hH
  generalize wc2.drew = wr0 at *
  refine tk 0 10 (by first | assumption | exact HT.out _ hB) ?_
  try simp only [Act.put,tA,cZ,cS]
  refine tk 3 13 (by first | assumption | exact HT.out _ hB) ?_
  try simp only [Act.put,tA,cZ,cS]
  refine rd 1 (AllReadyH.cons rfl (fun K hK=>?_) AllReadyH.nil)
  (try simp only [gA]);(try simp only [gS]);(try simp only [gZ])
  go_simp
  (go_at_call 24;refine (Sign_any _ n d L _ X.out).mono ?_;rintro e wd1 ⟨rfl,hb⟩)
  replace X:=Hd (X.out.below hb)
  replace Y:=Hd (Y.out.below hb)
  replace hB:=Below.trans hB (hb.mono hB.size)
  refine hK.out _ _ (HT.out _ hB) (fun hH=>?_)
  clear hK K hH
  try simp only [Act.put,tA,cZ,cS]
  clear hb
  refine rd 2 (AllReadyH.cons rfl (fun K hK=>?_) AllReadyH.nil)
  (try simp only [gA]);(try simp only [gS]);(try simp only [gZ])
  go_simp
  (go_at_call 65;refine (new_q (cmpI n 0) _ (cmpI_range n).1 (cmpI_range n).2).mono ?_;rintro e wd2 ⟨⟨gt1,At1,nt1,ct1,rfl,hz⟩,hb⟩)
  replace X:=Hd (X.out.below hb)
  replace Y:=Hd (Y.out.below hb)
  replace hB:=Below.trans hB (hb.mono hB.size)
  have T1:=Hd hz
  refine hK.out _ _ (HT.out _ hB) (fun hH=>?_)
  clear hK K hH
  try simp only [Act.put,tA,cZ,cS]
  clear hb hz
  refine rd 4 (AllReadyH.cons rfl (fun K hK=>?_) AllReadyH.nil)
  (try simp only [gA]);(try simp only [gS]);(try simp only [gZ])
  go_simp
  (go_at_call 24;refine (Sign_any _ m c L _ Y.out).mono ?_;rintro e wd3 ⟨rfl,hb⟩)
  replace X:=Hd (X.out.below hb)
  replace Y:=Hd (Y.out.below hb)
  replace T1:=Hd (T1.out.below hb)
  replace hB:=Below.trans hB (hb.mono hB.size)
  refine hK.out _ _ (HT.out _ hB) (fun hH=>?_)
  clear hK K hH
  try simp only [Act.put,tA,cZ,cS]
  clear hb
  refine rd 5 (AllReadyH.cons rfl (fun K hK=>?_) AllReadyH.nil)
  (try simp only [gA]);(try simp only [gS]);(try simp only [gZ])
  go_simp
  (go_at_call 65;refine (new_q (cmpI m 0) _ (cmpI_range m).1 (cmpI_range m).2).mono ?_;rintro e wd4 ⟨⟨gt2,At2,nt2,ct2,rfl,hz⟩,hb⟩)
  replace X:=Hd (X.out.below hb)
  replace Y:=Hd (Y.out.below hb)
  replace T1:=Hd (T1.out.below hb)
  replace hB:=Below.trans hB (hb.mono hB.size)
  have T2:=Hd hz
  refine hK.out _ _ (HT.out _ hB) (fun hH=>?_)
  clear hK K hH
  try simp only [Act.put,tA,cZ,cS]
  clear hb hz
  refine rd 6 (AllReadyH.cons rfl (fun K hK=>?_) AllReadyH.nil)
  (try simp only [gA]);(try simp only [gS]);(try simp only [gZ])
  go_simp
  (go_at_call 63;refine (cmp_int _ _ (cmpI n 0) (cmpI m 0) 2 2 _ T1.out T2.out (by decide) (by decide)).mono ?_;rintro e wd5 ⟨rfl,hb⟩)
  replace X:=Hd (X.out.below hb)
  replace Y:=Hd (Y.out.below hb)
  replace T1:=Hd (T1.out.below hb)
  replace T2:=Hd (T2.out.below hb)
  replace hB:=Below.trans hB (hb.mono hB.size)
  refine hK.out _ _ (HT.out _ hB) (fun hH=>?_)
  clear hK K hH
  try simp only [Act.put,tA,cZ,cS]
  clear hb
  refine tk 7 4 (by first | assumption | exact HT.out _ hB) ?_
  try simp only [Act.put,tA,cZ,cS]
  refine wpAnyH_done (by kernel_rfl) ?_ _
  replace B0:=Hd (B0.out.below hB)
  replace B1:=Hd (B1.out.below hB)
  replace hw:=hw.trans (hB.mono hw.size)
  go_wp2
  go_ret
  exact ⟨by rw [<- hcx];rfl,hw⟩
end Go.Proofs.YtbajnceoolkckaaGreat
