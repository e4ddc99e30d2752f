/- Of the proof of RationalRounds: RGcd. -/
import Derived.Test.YtbajnceoolkckaaGreatRd16
import Derived.Test.YtbajnceoolkckaaGreatRd13
open List renaming getElem_toArray → gA, getElem_cons_succ → gS, getElem_cons_zero → gZ, setIfInBounds_toArray → tA, set_cons_zero → cZ, set_cons_succ → cS
open Go.Lib renaming hid → Hd
set_option maxRecDepth 100000
set_option maxHeartbeats 16000000
namespace Go.Proofs.YtbajnceoolkckaaGreat
open Go.RowKit LM
def RFx (w:World) (b:Nat) (z:Int) (L:Nat) : Prop:=∃ g A n c,Fx w b (.bool g) (.slice A n c) /\ Rval w (.agg #[.bool g,.slice A n c]) z L
def TwoR (W0:World) (x y:Int) (L:Nat) (v5 v6:Value) (wx:World) : Prop:=
 ∃ b5 b6:Nat,v5 = .pointer (some ⟨b5,0,none⟩) /\ v6 = .pointer (some ⟨b6,0,none⟩) /\ RFx wx b5 (if x < 0 then -x else x) L /\ RFx wx b6 (if y < 0 then -y else y) L /\ b5 ≠ b6 /\ W0.heap.size <= b5 /\ W0.heap.size <= b6 /\ Below W0.heap.size W0 wx
theorem rDivide_int (u v:Value) (x y:Int) (L M:Nat) (w:World) (h:Rval w u x L) (g:Rval w v y M) (hL:L <= 100000) (hM:M <= 100000) (hy:y ≠ 0) :
  Calls Tryz.prog 81 #[u,v] w fun e w'=>(∃ g1 A1 n1 c1 g2 A2 n2 c2,e = .returned (.tuple #[.agg #[.bool g1,.slice A1 n1 c1],.agg #[.bool g2,.slice A2 n2 c2],.int .i64 0]) /\
   Rval w' (.agg #[.bool g1,.slice A1 n1 c1]) (x.tdiv y) L /\ Rval w' (.agg #[.bool g2,.slice A2 n2 c2]) (x.tmod y) L) /\ Below w.heap.size w w':=by
 obtain ⟨p,A,n,c,xs,rfl,hr,hd,ht,rfl,hp,hn⟩:=h
 obtain ⟨q,B,m,d,ys,rfl,gr,gd,gt,rfl,gq,gn⟩:=g
 have hx0:=valR_nonneg (by decide:(0:Int) <= 65536) hd
 have hy0:=valR_nonneg (by decide:(0:Int) <= 65536) gd
 have hyp:0 < valR 65536 ys:=by
  rcases Int.lt_or_eq_of_le hy0 with h | h
  ·exact h
  ·exfalso;apply hy;rw [<- h];cases q <;> rfl
 refine (rDivide_any p q A B n c m d xs ys w hr gr hd gd gt hyp (by omega) (by omega)).mono ?_
 rintro e w' ⟨⟨g1,A1,n1,c1,g2,A2,n2,c2,rfl,h1,h2⟩,hb⟩
 rw [withSign_div _ _ _ _ hx0] at h1
 rw [withSign_mod _ q _ _ hx0] at h2
 exact ⟨⟨_,_,_,_,_,_,_,_,rfl,h1.mono hn,h2.mono hn⟩,hb⟩
theorem rGcd_any (u v:Value) (x y:Int) (L:Nat) (w:World) (h:Rval w u x L) (g:Rval w v y L) (hL:L <= 1000) :
  Calls Tryz.prog 80 #[u,v] w fun e w'=>(∃ ng A2 n2 c2,e = .returned (.agg #[.bool ng,.slice A2 n2 c2]) /\ Rval w' (.agg #[.bool ng,.slice A2 n2 c2]) (Int.gcd x y:Int) L) /\ Below w.heap.size w w':=by
 obtain ⟨p,A,n,c,rfl⟩:=h.form
 obtain ⟨q,B,m,d,rfl⟩:=g.form
 obtain ⟨W0,hW0⟩ : ∃ W0,(((w.alloc (.cells #[.bool p,.slice A n c] 34)).alloc (.cells #[.bool q,.slice B m d] 34)).alloc (.cells #[.bool false,.slice none 0 0] 34)) = W0:=⟨_,rfl⟩
 have hW:Below w.heap.size w W0:=by rw [<- hW0];exact below_boxed2 _ _ _ _
 have hz:W0.heap.size = w.heap.size + 3:=by rw [<- hW0];simp
 have F0:Fx W0 w.heap.size (.bool p) (.slice A n c):=by
  rw [<- hW0];exact ((Fx.new w _ _ 34).below (below_alloc _ _)).below (below_alloc _ _)
 have F1:Fx W0 (w.heap.size + 1) (.bool q) (.slice B m d):=by
  rw [<- hW0]
  have h1:=Fx.new (w.alloc (.cells #[.bool p,.slice A n c] 34)) (.bool q) (.slice B m d) 34
  rw [show (w.alloc (.cells #[.bool p,.slice A n c] 34)).heap.size = w.heap.size + 1 from by simp] at h1
  exact h1.below (below_alloc _ _)
 have F2:Fx W0 (w.heap.size + 1 + 1) (.bool false) (.slice none 0 0):=by
  rw [<- hW0]
  have h1:=Fx.new ((w.alloc (.cells #[.bool p,.slice A n c] 34)).alloc (.cells #[.bool q,.slice B m d] 34)) (.bool false) (.slice none 0 0) 34
  rw [show ((w.alloc (.cells #[.bool p,.slice A n c] 34)).alloc (.cells #[.bool q,.slice B m d] 34)).heap.size = w.heap.size + 1 + 1 from by simp] at h1
  exact h1
 have HX:=Hd (h.below hW)
 have HY:=Hd (g.below hW)
 have HT:=Hd (fun (w':World) (hb:Below W0.heap.size W0 w')=>(show w'.cell? ⟨w.heap.size,0,none⟩ = some (.bool p) /\ w'.cell? ⟨w.heap.size,1,none⟩ = some (.slice A n c) /\ w'.cell? ⟨w.heap.size + 1,0,none⟩ = some (.bool q) /\ w'.cell? ⟨w.heap.size + 1,1,none⟩ = some (.slice B m d) /\ Below W0.heap.size W0 w' from ⟨(F0.below hb).1,(F0.below hb).2.1,(F1.below hb).1,(F1.below hb).2.1,hb⟩))
 have HF2:=Hd F2
 clear h g F0 F1 F2
 go_enter Tryz.func80,Tryz.ntmps80
 go_upto_region 1 with fail
 clear hW0
 go_cut [5,6] (fun v5 v6 wx=>TwoR W0 x y L v5 v6 wx)
 case first=>
  have hB:=(Below.refl W0.heap.size W0).drew
  refine wp_region_held_drew (S:=fun w'=>w'.cell? ⟨w.heap.size,0,none⟩ = some (.bool p) /\ w'.cell? ⟨w.heap.size,1,none⟩ = some (.slice A n c) /\ w'.cell? ⟨w.heap.size + 1,0,none⟩ = some (.bool q) /\ w'.cell? ⟨w.heap.size + 1,1,none⟩ = some (.slice B m d) /\ Below W0.heap.size W0 w') (by kernel_rfl) (HT.out _ hB) (fun hH=>?_)
  clear hH
  obtain ⟨wr0,hwr0⟩ : ∃ wr0,W0.drew = wr0:=⟨_,rfl⟩
  rw [hwr0] at hB ⊢
  clear hwr0
  refine tk 0 10 (by first | assumption | exact HT.out _ hB) ?_
  try simp only [Act.put,tA,cZ,cS]
  refine tk 2 12 (by first | assumption | exact HT.out _ hB) ?_
  try simp only [Act.put,tA,cZ,cS]
  refine wpAnyH_ready (rs:=[1,4,5]) (by kernel_rfl) (by simp) ?_
  refine AllReadyH.cons rfl (fun K hK=>?_) (AllReadyH.cons rfl (fun K hK=>?_) (AllReadyH.cons rfl (fun K hK=>?_) AllReadyH.nil))
  ·try simp only [gA,gZ,gS]
   go_simp
   (go_at_call 29;refine (rabs_any _ x L _ (HX.out.below hB)).mono ?_;rintro e wc1 ⟨⟨g1,A1,n1,c1,rfl,hv1⟩,hb1⟩)
   replace hB:=Below.trans hB (hb1.mono hB.size)
   have V1:=Hd hv1
   refine hK.out _ _ (HT.out _ hB) (fun hH=>?_)
   clear hK K hH
   try simp only [Act.put,tA,cZ,cS]
   clear hb1 hv1
   refine wpAnyH_ready (rs:=[3,4,5]) (by kernel_rfl) (by simp) ?_
   refine AllReadyH.cons rfl (fun K hK=>?_) (AllReadyH.cons rfl (fun K hK=>?_) (AllReadyH.cons rfl (fun K hK=>?_) AllReadyH.nil))
   ·try simp only [gA,gZ,gS]
    go_simp
    (go_at_call 29;refine (rabs_any _ y L _ (HY.out.below hB)).mono ?_;rintro e wc2 ⟨⟨g2,A2,n2,c2,rfl,hv2⟩,hb2⟩)
    replace V1:=Hd (V1.out.below hb2)
    replace hB:=Below.trans hB (hb2.mono hB.size)
    have V2:=Hd hv2
    refine hK.out _ _ (HT.out _ hB) (fun hH=>?_)
    clear hK K hH
    try simp only [Act.put,tA,cZ,cS]
    clear hb2 hv2
    refine wpAnyH_ready (rs:=[4,5]) (by kernel_rfl) (by simp) ?_
    refine AllReadyH.cons rfl (fun K hK=>?_) (AllReadyH.cons rfl (fun K hK=>?_) AllReadyH.nil)
    ·try simp only [gA,gZ,gS]
     go_simp
     have hbl:=below_alloc wc2 (.cells #[.bool false,.slice none 0 0] 34)
     replace V1:=Hd (V1.out.below hbl)
     replace V2:=Hd (V2.out.below hbl)
     have F5:=Hd (Fx.new wc2 (.bool false) (.slice none 0 0) 34)
     have hge5:=hB.size
     replace hB:=hB.alloc hB.size (.cells #[.bool false,.slice none 0 0] 34)
     refine hK.out _ _ (HT.out _ hB) (fun hH=>?_)
     clear hK K hH
     try simp only [Act.put,tA,cZ,cS]
     clear hbl
     generalize wc2.alloc (.cells #[.bool false,.slice none 0 0] 34) = wa5 at *
     generalize wc2.heap.size = ba5 at *
     refine rd 5 (AllReadyH.cons rfl (fun K hK=>?_) AllReadyH.nil)
     try simp only [gA,gZ,gS]
     go_simp
     have hne56:=F5.out.2.2.2.2
     have hbl:=below_alloc wa5 (.cells #[.bool false,.slice none 0 0] 34)
     replace F5:=Hd (F5.out.below hbl)
     replace V1:=Hd (V1.out.below hbl)
     replace V2:=Hd (V2.out.below hbl)
     have F6:=Hd (Fx.new wa5 (.bool false) (.slice none 0 0) 34)
     have hge6:=hB.size
     replace hB:=hB.alloc hB.size (.cells #[.bool false,.slice none 0 0] 34)
     refine hK.out _ _ (HT.out _ hB) (fun hH=>?_)
     clear hK K hH
     try simp only [Act.put,tA,cZ,cS]
     clear hbl
     generalize wa5.alloc (.cells #[.bool false,.slice none 0 0] 34) = wa6 at *
     generalize wa5.heap.size = ba6 at *
     refine rd 6 (AllReadyH.cons rfl (fun K hK=>?_) AllReadyH.nil)
     try simp only [gA,gZ,gS]
     obtain ⟨x0,x1,x2,x3,x4⟩:=F5.out
     go_simp
     have hBs:=(hB.setCell (p:=⟨ba5,0,none⟩) hge5 (.bool g1)).setCell (p:=⟨ba5,1,none⟩) hge5 (.slice A1 n1 c1)
     replace V1:=Hd (V1.out.fx F5.out (.bool g1) (.slice A1 n1 c1))
     replace V2:=Hd (V2.out.fx F5.out (.bool g1) (.slice A1 n1 c1))
     replace F6:=Hd (F6.out.other (by omega:ba5 ≠ ba6) (.bool g1) (.slice A1 n1 c1))
     replace F5:=Hd (F5.out.store (.bool g1) (.slice A1 n1 c1))
     clear x0 x1 x2 x3 x4 hB
     refine hK.out _ _ (HT.out _ hBs) (fun hH=>?_)
     clear hK K hH
     try simp only [Act.put,tA,cZ,cS]
     generalize (wa6.setCell ⟨ba5,0,none⟩ (.bool g1)).setCell ⟨ba5,1,none⟩ (.slice A1 n1 c1) = ws5 at *
     have hB:=hBs
     clear hBs
     refine rd 7 (AllReadyH.cons rfl (fun K hK=>?_) AllReadyH.nil)
     try simp only [gA,gZ,gS]
     obtain ⟨x0,x1,x2,x3,x4⟩:=F6.out
     go_simp
     have hBs:=(hB.setCell (p:=⟨ba6,0,none⟩) hge6 (.bool g2)).setCell (p:=⟨ba6,1,none⟩) hge6 (.slice A2 n2 c2)
     replace V1:=Hd (V1.out.fx F6.out (.bool g2) (.slice A2 n2 c2))
     replace V2:=Hd (V2.out.fx F6.out (.bool g2) (.slice A2 n2 c2))
     replace F5:=Hd (F5.out.other (by omega:ba6 ≠ ba5) (.bool g2) (.slice A2 n2 c2))
     replace F6:=Hd (F6.out.store (.bool g2) (.slice A2 n2 c2))
     clear x0 x1 x2 x3 x4 hB
     refine hK.out _ _ (HT.out _ hBs) (fun hH=>?_)
     clear hK K hH
     try simp only [Act.put,tA,cZ,cS]
     generalize (ws5.setCell ⟨ba6,0,none⟩ (.bool g2)).setCell ⟨ba6,1,none⟩ (.slice A2 n2 c2) = ws6 at *
     have hB:=hBs
     clear hBs
     refine wpAnyH_done (by kernel_rfl) ?_ _
     go_wp2_with fail
     go_meet
     exact ⟨ba5,ba6,rfl,rfl,⟨_,_,_,_,F5.out,V1.out⟩,⟨_,_,_,_,F6.out,V2.out⟩,by omega,hge5,hge6,hB⟩
    ·try simp only [gA,gZ,gS]
     go_simp
     have hbl:=below_alloc wc2 (.cells #[.bool false,.slice none 0 0] 34)
     replace V1:=Hd (V1.out.below hbl)
     replace V2:=Hd (V2.out.below hbl)
     have F6:=Hd (Fx.new wc2 (.bool false) (.slice none 0 0) 34)
     have hge6:=hB.size
     replace hB:=hB.alloc hB.size (.cells #[.bool false,.slice none 0 0] 34)
     refine hK.out _ _ (HT.out _ hB) (fun hH=>?_)
     clear hK K hH
     try simp only [Act.put,tA,cZ,cS]
     clear hbl
     generalize wc2.alloc (.cells #[.bool false,.slice none 0 0] 34) = wa6 at *
     generalize wc2.heap.size = ba6 at *
     refine rd 4 (AllReadyH.cons rfl (fun K hK=>?_) AllReadyH.nil)
     try simp only [gA,gZ,gS]
     go_simp
     have hne65:=F6.out.2.2.2.2
     have hbl:=below_alloc wa6 (.cells #[.bool false,.slice none 0 0] 34)
     replace F6:=Hd (F6.out.below hbl)
     replace V1:=Hd (V1.out.below hbl)
     replace V2:=Hd (V2.out.below hbl)
     have F5:=Hd (Fx.new wa6 (.bool false) (.slice none 0 0) 34)
     have hge5:=hB.size
     replace hB:=hB.alloc hB.size (.cells #[.bool false,.slice none 0 0] 34)
     refine hK.out _ _ (HT.out _ hB) (fun hH=>?_)
     clear hK K hH
     try simp only [Act.put,tA,cZ,cS]
     clear hbl
     generalize wa6.alloc (.cells #[.bool false,.slice none 0 0] 34) = wa5 at *
     generalize wa6.heap.size = ba5 at *
     refine rd 6 (AllReadyH.cons rfl (fun K hK=>?_) AllReadyH.nil)
     try simp only [gA,gZ,gS]
     obtain ⟨x0,x1,x2,x3,x4⟩:=F5.out
     go_simp
     have hBs:=(hB.setCell (p:=⟨ba5,0,none⟩) hge5 (.bool g1)).setCell (p:=⟨ba5,1,none⟩) hge5 (.slice A1 n1 c1)
     replace V1:=Hd (V1.out.fx F5.out (.bool g1) (.slice A1 n1 c1))
     replace V2:=Hd (V2.out.fx F5.out (.bool g1) (.slice A1 n1 c1))
     replace F6:=Hd (F6.out.other (by omega:ba5 ≠ ba6) (.bool g1) (.slice A1 n1 c1))
     replace F5:=Hd (F5.out.store (.bool g1) (.slice A1 n1 c1))
     clear x0 x1 x2 x3 x4 hB
     refine hK.out _ _ (HT.out _ hBs) (fun hH=>?_)
     clear hK K hH
     try simp only [Act.put,tA,cZ,cS]
     generalize (wa5.setCell ⟨ba5,0,none⟩ (.bool g1)).setCell ⟨ba5,1,none⟩ (.slice A1 n1 c1) = ws5 at *
     have hB:=hBs
     clear hBs
     refine rd 7 (AllReadyH.cons rfl (fun K hK=>?_) AllReadyH.nil)
     try simp only [gA,gZ,gS]
     obtain ⟨x0,x1,x2,x3,x4⟩:=F6.out
     go_simp
     have hBs:=(hB.setCell (p:=⟨ba6,0,none⟩) hge6 (.bool g2)).setCell (p:=⟨ba6,1,none⟩) hge6 (.slice A2 n2 c2)
     replace V1:=Hd (V1.out.fx F6.out (.bool g2) (.slice A2 n2 c2))
     replace V2:=Hd (V2.out.fx F6.out (.bool g2) (.slice A2 n2 c2))
     replace F5:=Hd (F5.out.other (by omega:ba6 ≠ ba5) (.bool g2) (.slice A2 n2 c2))
     replace F6:=Hd (F6.out.store (.bool g2) (.slice A2 n2 c2))
     clear x0 x1 x2 x3 x4 hB
     refine hK.out _ _ (HT.out _ hBs) (fun hH=>?_)
     clear hK K hH
     try simp only [Act.put,tA,cZ,cS]
     generalize (ws5.setCell ⟨ba6,0,none⟩ (.bool g2)).setCell ⟨ba6,1,none⟩ (.slice A2 n2 c2) = ws6 at *
     have hB:=hBs
     clear hBs
     refine wpAnyH_done (by kernel_rfl) ?_ _
     go_wp2_with fail
     go_meet
     exact ⟨ba5,ba6,rfl,rfl,⟨_,_,_,_,F5.out,V1.out⟩,⟨_,_,_,_,F6.out,V2.out⟩,by omega,hge5,hge6,hB⟩
   ·try simp only [gA,gZ,gS]
    go_simp
    have hbl:=below_alloc wc1 (.cells #[.bool false,.slice none 0 0] 34)
    replace V1:=Hd (V1.out.below hbl)
    have F5:=Hd (Fx.new wc1 (.bool false) (.slice none 0 0) 34)
    have hge5:=hB.size
    replace hB:=hB.alloc hB.size (.cells #[.bool false,.slice none 0 0] 34)
    refine hK.out _ _ (HT.out _ hB) (fun hH=>?_)
    clear hK K hH
    try simp only [Act.put,tA,cZ,cS]
    clear hbl
    generalize wc1.alloc (.cells #[.bool false,.slice none 0 0] 34) = wa5 at *
    generalize wc1.heap.size = ba5 at *
    refine wpAnyH_ready (rs:=[3,5]) (by kernel_rfl) (by simp) ?_
    refine AllReadyH.cons rfl (fun K hK=>?_) (AllReadyH.cons rfl (fun K hK=>?_) AllReadyH.nil)
    ·try simp only [gA,gZ,gS]
     go_simp
     (go_at_call 29;refine (rabs_any _ y L _ (HY.out.below hB)).mono ?_;rintro e wc2 ⟨⟨g2,A2,n2,c2,rfl,hv2⟩,hb2⟩)
     replace F5:=Hd (F5.out.below hb2)
     replace V1:=Hd (V1.out.below hb2)
     replace hB:=Below.trans hB (hb2.mono hB.size)
     have V2:=Hd hv2
     refine hK.out _ _ (HT.out _ hB) (fun hH=>?_)
     clear hK K hH
     try simp only [Act.put,tA,cZ,cS]
     clear hb2 hv2
     refine rd 5 (AllReadyH.cons rfl (fun K hK=>?_) AllReadyH.nil)
     try simp only [gA,gZ,gS]
     go_simp
     have hne56:=F5.out.2.2.2.2
     have hbl:=below_alloc wc2 (.cells #[.bool false,.slice none 0 0] 34)
     replace F5:=Hd (F5.out.below hbl)
     replace V1:=Hd (V1.out.below hbl)
     replace V2:=Hd (V2.out.below hbl)
     have F6:=Hd (Fx.new wc2 (.bool false) (.slice none 0 0) 34)
     have hge6:=hB.size
     replace hB:=hB.alloc hB.size (.cells #[.bool false,.slice none 0 0] 34)
     refine hK.out _ _ (HT.out _ hB) (fun hH=>?_)
     clear hK K hH
     try simp only [Act.put,tA,cZ,cS]
     clear hbl
     generalize wc2.alloc (.cells #[.bool false,.slice none 0 0] 34) = wa6 at *
     generalize wc2.heap.size = ba6 at *
     refine rd 6 (AllReadyH.cons rfl (fun K hK=>?_) AllReadyH.nil)
     try simp only [gA,gZ,gS]
     obtain ⟨x0,x1,x2,x3,x4⟩:=F5.out
     go_simp
     have hBs:=(hB.setCell (p:=⟨ba5,0,none⟩) hge5 (.bool g1)).setCell (p:=⟨ba5,1,none⟩) hge5 (.slice A1 n1 c1)
     replace V1:=Hd (V1.out.fx F5.out (.bool g1) (.slice A1 n1 c1))
     replace V2:=Hd (V2.out.fx F5.out (.bool g1) (.slice A1 n1 c1))
     replace F6:=Hd (F6.out.other (by omega:ba5 ≠ ba6) (.bool g1) (.slice A1 n1 c1))
     replace F5:=Hd (F5.out.store (.bool g1) (.slice A1 n1 c1))
     clear x0 x1 x2 x3 x4 hB
     refine hK.out _ _ (HT.out _ hBs) (fun hH=>?_)
     clear hK K hH
     try simp only [Act.put,tA,cZ,cS]
     generalize (wa6.setCell ⟨ba5,0,none⟩ (.bool g1)).setCell ⟨ba5,1,none⟩ (.slice A1 n1 c1) = ws5 at *
     have hB:=hBs
     clear hBs
     refine rd 7 (AllReadyH.cons rfl (fun K hK=>?_) AllReadyH.nil)
     try simp only [gA,gZ,gS]
     obtain ⟨x0,x1,x2,x3,x4⟩:=F6.out
     go_simp
     have hBs:=(hB.setCell (p:=⟨ba6,0,none⟩) hge6 (.bool g2)).setCell (p:=⟨ba6,1,none⟩) hge6 (.slice A2 n2 c2)
     replace V1:=Hd (V1.out.fx F6.out (.bool g2) (.slice A2 n2 c2))
     replace V2:=Hd (V2.out.fx F6.out (.bool g2) (.slice A2 n2 c2))
     replace F5:=Hd (F5.out.other (by omega:ba6 ≠ ba5) (.bool g2) (.slice A2 n2 c2))
     replace F6:=Hd (F6.out.store (.bool g2) (.slice A2 n2 c2))
     clear x0 x1 x2 x3 x4 hB
     refine hK.out _ _ (HT.out _ hBs) (fun hH=>?_)
     clear hK K hH
     try simp only [Act.put,tA,cZ,cS]
     generalize (ws5.setCell ⟨ba6,0,none⟩ (.bool g2)).setCell ⟨ba6,1,none⟩ (.slice A2 n2 c2) = ws6 at *
     have hB:=hBs
     clear hBs
     refine wpAnyH_done (by kernel_rfl) ?_ _
     go_wp2_with fail
     go_meet
     exact ⟨ba5,ba6,rfl,rfl,⟨_,_,_,_,F5.out,V1.out⟩,⟨_,_,_,_,F6.out,V2.out⟩,by omega,hge5,hge6,hB⟩
    ·try simp only [gA,gZ,gS]
     go_simp
     have hne56:=F5.out.2.2.2.2
     have hbl:=below_alloc wa5 (.cells #[.bool false,.slice none 0 0] 34)
     replace F5:=Hd (F5.out.below hbl)
     replace V1:=Hd (V1.out.below hbl)
     have F6:=Hd (Fx.new wa5 (.bool false) (.slice none 0 0) 34)
     have hge6:=hB.size
     replace hB:=hB.alloc hB.size (.cells #[.bool false,.slice none 0 0] 34)
     refine hK.out _ _ (HT.out _ hB) (fun hH=>?_)
     clear hK K hH
     try simp only [Act.put,tA,cZ,cS]
     clear hbl
     generalize wa5.alloc (.cells #[.bool false,.slice none 0 0] 34) = wa6 at *
     generalize wa5.heap.size = ba6 at *
     refine rd 3 (AllReadyH.cons rfl (fun K hK=>?_) AllReadyH.nil)
     try simp only [gA,gZ,gS]
     go_simp
     (go_at_call 29;refine (rabs_any _ y L _ (HY.out.below hB)).mono ?_;rintro e wc2 ⟨⟨g2,A2,n2,c2,rfl,hv2⟩,hb2⟩)
     replace F5:=Hd (F5.out.below hb2)
     replace F6:=Hd (F6.out.below hb2)
     replace V1:=Hd (V1.out.below hb2)
     replace hB:=Below.trans hB (hb2.mono hB.size)
     have V2:=Hd hv2
     refine hK.out _ _ (HT.out _ hB) (fun hH=>?_)
     clear hK K hH
     try simp only [Act.put,tA,cZ,cS]
     clear hb2 hv2
     refine rd 6 (AllReadyH.cons rfl (fun K hK=>?_) AllReadyH.nil)
     try simp only [gA,gZ,gS]
     obtain ⟨x0,x1,x2,x3,x4⟩:=F5.out
     go_simp
     have hBs:=(hB.setCell (p:=⟨ba5,0,none⟩) hge5 (.bool g1)).setCell (p:=⟨ba5,1,none⟩) hge5 (.slice A1 n1 c1)
     replace V1:=Hd (V1.out.fx F5.out (.bool g1) (.slice A1 n1 c1))
     replace V2:=Hd (V2.out.fx F5.out (.bool g1) (.slice A1 n1 c1))
     replace F6:=Hd (F6.out.other (by omega:ba5 ≠ ba6) (.bool g1) (.slice A1 n1 c1))
     replace F5:=Hd (F5.out.store (.bool g1) (.slice A1 n1 c1))
     clear x0 x1 x2 x3 x4 hB
     refine hK.out _ _ (HT.out _ hBs) (fun hH=>?_)
     clear hK K hH
     try simp only [Act.put,tA,cZ,cS]
     generalize (wc2.setCell ⟨ba5,0,none⟩ (.bool g1)).setCell ⟨ba5,1,none⟩ (.slice A1 n1 c1) = ws5 at *
     have hB:=hBs
     clear hBs
     refine rd 7 (AllReadyH.cons rfl (fun K hK=>?_) AllReadyH.nil)
     try simp only [gA,gZ,gS]
     obtain ⟨x0,x1,x2,x3,x4⟩:=F6.out
     go_simp
     have hBs:=(hB.setCell (p:=⟨ba6,0,none⟩) hge6 (.bool g2)).setCell (p:=⟨ba6,1,none⟩) hge6 (.slice A2 n2 c2)
     replace V1:=Hd (V1.out.fx F6.out (.bool g2) (.slice A2 n2 c2))
     replace V2:=Hd (V2.out.fx F6.out (.bool g2) (.slice A2 n2 c2))
     replace F5:=Hd (F5.out.other (by omega:ba6 ≠ ba5) (.bool g2) (.slice A2 n2 c2))
     replace F6:=Hd (F6.out.store (.bool g2) (.slice A2 n2 c2))
     clear x0 x1 x2 x3 x4 hB
     refine hK.out _ _ (HT.out _ hBs) (fun hH=>?_)
     clear hK K hH
     try simp only [Act.put,tA,cZ,cS]
     generalize (ws5.setCell ⟨ba6,0,none⟩ (.bool g2)).setCell ⟨ba6,1,none⟩ (.slice A2 n2 c2) = ws6 at *
     have hB:=hBs
     clear hBs
     refine wpAnyH_done (by kernel_rfl) ?_ _
     go_wp2_with fail
     go_meet
     exact ⟨ba5,ba6,rfl,rfl,⟨_,_,_,_,F5.out,V1.out⟩,⟨_,_,_,_,F6.out,V2.out⟩,by omega,hge5,hge6,hB⟩
   ·try simp only [gA,gZ,gS]
    go_simp
    have hbl:=below_alloc wc1 (.cells #[.bool false,.slice none 0 0] 34)
    replace V1:=Hd (V1.out.below hbl)
    have F6:=Hd (Fx.new wc1 (.bool false) (.slice none 0 0) 34)
    have hge6:=hB.size
    replace hB:=hB.alloc hB.size (.cells #[.bool false,.slice none 0 0] 34)
    refine hK.out _ _ (HT.out _ hB) (fun hH=>?_)
    clear hK K hH
    try simp only [Act.put,tA,cZ,cS]
    clear hbl
    generalize wc1.alloc (.cells #[.bool false,.slice none 0 0] 34) = wa6 at *
    generalize wc1.heap.size = ba6 at *
    refine wpAnyH_ready (rs:=[3,4]) (by kernel_rfl) (by simp) ?_
    refine AllReadyH.cons rfl (fun K hK=>?_) (AllReadyH.cons rfl (fun K hK=>?_) AllReadyH.nil)
    ·try simp only [gA,gZ,gS]
     go_simp
     (go_at_call 29;refine (rabs_any _ y L _ (HY.out.below hB)).mono ?_;rintro e wc2 ⟨⟨g2,A2,n2,c2,rfl,hv2⟩,hb2⟩)
     replace F6:=Hd (F6.out.below hb2)
     replace V1:=Hd (V1.out.below hb2)
     replace hB:=Below.trans hB (hb2.mono hB.size)
     have V2:=Hd hv2
     refine hK.out _ _ (HT.out _ hB) (fun hH=>?_)
     clear hK K hH
     try simp only [Act.put,tA,cZ,cS]
     clear hb2 hv2
     refine rd 4 (AllReadyH.cons rfl (fun K hK=>?_) AllReadyH.nil)
     try simp only [gA,gZ,gS]
     go_simp
     have hne65:=F6.out.2.2.2.2
     have hbl:=below_alloc wc2 (.cells #[.bool false,.slice none 0 0] 34)
     replace F6:=Hd (F6.out.below hbl)
     replace V1:=Hd (V1.out.below hbl)
     replace V2:=Hd (V2.out.below hbl)
     have F5:=Hd (Fx.new wc2 (.bool false) (.slice none 0 0) 34)
     have hge5:=hB.size
     replace hB:=hB.alloc hB.size (.cells #[.bool false,.slice none 0 0] 34)
     refine hK.out _ _ (HT.out _ hB) (fun hH=>?_)
     clear hK K hH
     try simp only [Act.put,tA,cZ,cS]
     clear hbl
     generalize wc2.alloc (.cells #[.bool false,.slice none 0 0] 34) = wa5 at *
     generalize wc2.heap.size = ba5 at *
     refine rd 6 (AllReadyH.cons rfl (fun K hK=>?_) AllReadyH.nil)
     try simp only [gA,gZ,gS]
     obtain ⟨x0,x1,x2,x3,x4⟩:=F5.out
     go_simp
     have hBs:=(hB.setCell (p:=⟨ba5,0,none⟩) hge5 (.bool g1)).setCell (p:=⟨ba5,1,none⟩) hge5 (.slice A1 n1 c1)
     replace V1:=Hd (V1.out.fx F5.out (.bool g1) (.slice A1 n1 c1))
     replace V2:=Hd (V2.out.fx F5.out (.bool g1) (.slice A1 n1 c1))
     replace F6:=Hd (F6.out.other (by omega:ba5 ≠ ba6) (.bool g1) (.slice A1 n1 c1))
     replace F5:=Hd (F5.out.store (.bool g1) (.slice A1 n1 c1))
     clear x0 x1 x2 x3 x4 hB
     refine hK.out _ _ (HT.out _ hBs) (fun hH=>?_)
     clear hK K hH
     try simp only [Act.put,tA,cZ,cS]
     generalize (wa5.setCell ⟨ba5,0,none⟩ (.bool g1)).setCell ⟨ba5,1,none⟩ (.slice A1 n1 c1) = ws5 at *
     have hB:=hBs
     clear hBs
     refine rd 7 (AllReadyH.cons rfl (fun K hK=>?_) AllReadyH.nil)
     try simp only [gA,gZ,gS]
     obtain ⟨x0,x1,x2,x3,x4⟩:=F6.out
     go_simp
     have hBs:=(hB.setCell (p:=⟨ba6,0,none⟩) hge6 (.bool g2)).setCell (p:=⟨ba6,1,none⟩) hge6 (.slice A2 n2 c2)
     replace V1:=Hd (V1.out.fx F6.out (.bool g2) (.slice A2 n2 c2))
     replace V2:=Hd (V2.out.fx F6.out (.bool g2) (.slice A2 n2 c2))
     replace F5:=Hd (F5.out.other (by omega:ba6 ≠ ba5) (.bool g2) (.slice A2 n2 c2))
     replace F6:=Hd (F6.out.store (.bool g2) (.slice A2 n2 c2))
     clear x0 x1 x2 x3 x4 hB
     refine hK.out _ _ (HT.out _ hBs) (fun hH=>?_)
     clear hK K hH
     try simp only [Act.put,tA,cZ,cS]
     generalize (ws5.setCell ⟨ba6,0,none⟩ (.bool g2)).setCell ⟨ba6,1,none⟩ (.slice A2 n2 c2) = ws6 at *
     have hB:=hBs
     clear hBs
     refine wpAnyH_done (by kernel_rfl) ?_ _
     go_wp2_with fail
     go_meet
     exact ⟨ba5,ba6,rfl,rfl,⟨_,_,_,_,F5.out,V1.out⟩,⟨_,_,_,_,F6.out,V2.out⟩,by omega,hge5,hge6,hB⟩
    ·try simp only [gA,gZ,gS]
     go_simp
     have hne65:=F6.out.2.2.2.2
     have hbl:=below_alloc wa6 (.cells #[.bool false,.slice none 0 0] 34)
     replace F6:=Hd (F6.out.below hbl)
     replace V1:=Hd (V1.out.below hbl)
     have F5:=Hd (Fx.new wa6 (.bool false) (.slice none 0 0) 34)
     have hge5:=hB.size
     replace hB:=hB.alloc hB.size (.cells #[.bool false,.slice none 0 0] 34)
     refine hK.out _ _ (HT.out _ hB) (fun hH=>?_)
     clear hK K hH
     try simp only [Act.put,tA,cZ,cS]
     clear hbl
     generalize wa6.alloc (.cells #[.bool false,.slice none 0 0] 34) = wa5 at *
     generalize wa6.heap.size = ba5 at *
     refine rd 3 (AllReadyH.cons rfl (fun K hK=>?_) AllReadyH.nil)
     try simp only [gA,gZ,gS]
     go_simp
     (go_at_call 29;refine (rabs_any _ y L _ (HY.out.below hB)).mono ?_;rintro e wc2 ⟨⟨g2,A2,n2,c2,rfl,hv2⟩,hb2⟩)
     replace F6:=Hd (F6.out.below hb2)
     replace F5:=Hd (F5.out.below hb2)
     replace V1:=Hd (V1.out.below hb2)
     replace hB:=Below.trans hB (hb2.mono hB.size)
     have V2:=Hd hv2
     refine hK.out _ _ (HT.out _ hB) (fun hH=>?_)
     clear hK K hH
     try simp only [Act.put,tA,cZ,cS]
     clear hb2 hv2
     refine rd 6 (AllReadyH.cons rfl (fun K hK=>?_) AllReadyH.nil)
     try simp only [gA,gZ,gS]
     obtain ⟨x0,x1,x2,x3,x4⟩:=F5.out
     go_simp
     have hBs:=(hB.setCell (p:=⟨ba5,0,none⟩) hge5 (.bool g1)).setCell (p:=⟨ba5,1,none⟩) hge5 (.slice A1 n1 c1)
     replace V1:=Hd (V1.out.fx F5.out (.bool g1) (.slice A1 n1 c1))
     replace V2:=Hd (V2.out.fx F5.out (.bool g1) (.slice A1 n1 c1))
     replace F6:=Hd (F6.out.other (by omega:ba5 ≠ ba6) (.bool g1) (.slice A1 n1 c1))
     replace F5:=Hd (F5.out.store (.bool g1) (.slice A1 n1 c1))
     clear x0 x1 x2 x3 x4 hB
     refine hK.out _ _ (HT.out _ hBs) (fun hH=>?_)
     clear hK K hH
     try simp only [Act.put,tA,cZ,cS]
     generalize (wc2.setCell ⟨ba5,0,none⟩ (.bool g1)).setCell ⟨ba5,1,none⟩ (.slice A1 n1 c1) = ws5 at *
     have hB:=hBs
     clear hBs
     refine rd 7 (AllReadyH.cons rfl (fun K hK=>?_) AllReadyH.nil)
     try simp only [gA,gZ,gS]
     obtain ⟨x0,x1,x2,x3,x4⟩:=F6.out
     go_simp
     have hBs:=(hB.setCell (p:=⟨ba6,0,none⟩) hge6 (.bool g2)).setCell (p:=⟨ba6,1,none⟩) hge6 (.slice A2 n2 c2)
     replace V1:=Hd (V1.out.fx F6.out (.bool g2) (.slice A2 n2 c2))
     replace V2:=Hd (V2.out.fx F6.out (.bool g2) (.slice A2 n2 c2))
     replace F5:=Hd (F5.out.other (by omega:ba6 ≠ ba5) (.bool g2) (.slice A2 n2 c2))
     replace F6:=Hd (F6.out.store (.bool g2) (.slice A2 n2 c2))
     clear x0 x1 x2 x3 x4 hB
     refine hK.out _ _ (HT.out _ hBs) (fun hH=>?_)
     clear hK K hH
     try simp only [Act.put,tA,cZ,cS]
     generalize (ws5.setCell ⟨ba6,0,none⟩ (.bool g2)).setCell ⟨ba6,1,none⟩ (.slice A2 n2 c2) = ws6 at *
     have hB:=hBs
     clear hBs
     refine wpAnyH_done (by kernel_rfl) ?_ _
     go_wp2_with fail
     go_meet
     exact ⟨ba5,ba6,rfl,rfl,⟨_,_,_,_,F5.out,V1.out⟩,⟨_,_,_,_,F6.out,V2.out⟩,by omega,hge5,hge6,hB⟩
  ·try simp only [gA,gZ,gS]
   go_simp
   have hbl:=below_alloc wr0 (.cells #[.bool false,.slice none 0 0] 34)
   have F5:=Hd (Fx.new wr0 (.bool false) (.slice none 0 0) 34)
   have hge5:=hB.size
   replace hB:=hB.alloc hB.size (.cells #[.bool false,.slice none 0 0] 34)
   refine hK.out _ _ (HT.out _ hB) (fun hH=>?_)
   clear hK K hH
   try simp only [Act.put,tA,cZ,cS]
   clear hbl
   generalize wr0.alloc (.cells #[.bool false,.slice none 0 0] 34) = wa5 at *
   generalize wr0.heap.size = ba5 at *
   refine wpAnyH_ready (rs:=[1,5]) (by kernel_rfl) (by simp) ?_
   refine AllReadyH.cons rfl (fun K hK=>?_) (AllReadyH.cons rfl (fun K hK=>?_) AllReadyH.nil)
   ·try simp only [gA,gZ,gS]
    go_simp
    (go_at_call 29;refine (rabs_any _ x L _ (HX.out.below hB)).mono ?_;rintro e wc1 ⟨⟨g1,A1,n1,c1,rfl,hv1⟩,hb1⟩)
    replace F5:=Hd (F5.out.below hb1)
    replace hB:=Below.trans hB (hb1.mono hB.size)
    have V1:=Hd hv1
    refine hK.out _ _ (HT.out _ hB) (fun hH=>?_)
    clear hK K hH
    try simp only [Act.put,tA,cZ,cS]
    clear hb1 hv1
    refine wpAnyH_ready (rs:=[3,5]) (by kernel_rfl) (by simp) ?_
    refine AllReadyH.cons rfl (fun K hK=>?_) (AllReadyH.cons rfl (fun K hK=>?_) AllReadyH.nil)
    ·try simp only [gA,gZ,gS]
     go_simp
     (go_at_call 29;refine (rabs_any _ y L _ (HY.out.below hB)).mono ?_;rintro e wc2 ⟨⟨g2,A2,n2,c2,rfl,hv2⟩,hb2⟩)
     replace F5:=Hd (F5.out.below hb2)
     replace V1:=Hd (V1.out.below hb2)
     replace hB:=Below.trans hB (hb2.mono hB.size)
     have V2:=Hd hv2
     refine hK.out _ _ (HT.out _ hB) (fun hH=>?_)
     clear hK K hH
     try simp only [Act.put,tA,cZ,cS]
     clear hb2 hv2
     refine rd 5 (AllReadyH.cons rfl (fun K hK=>?_) AllReadyH.nil)
     try simp only [gA,gZ,gS]
     go_simp
     have hne56:=F5.out.2.2.2.2
     have hbl:=below_alloc wc2 (.cells #[.bool false,.slice none 0 0] 34)
     replace F5:=Hd (F5.out.below hbl)
     replace V1:=Hd (V1.out.below hbl)
     replace V2:=Hd (V2.out.below hbl)
     have F6:=Hd (Fx.new wc2 (.bool false) (.slice none 0 0) 34)
     have hge6:=hB.size
     replace hB:=hB.alloc hB.size (.cells #[.bool false,.slice none 0 0] 34)
     refine hK.out _ _ (HT.out _ hB) (fun hH=>?_)
     clear hK K hH
     try simp only [Act.put,tA,cZ,cS]
     clear hbl
     generalize wc2.alloc (.cells #[.bool false,.slice none 0 0] 34) = wa6 at *
     generalize wc2.heap.size = ba6 at *
     refine rd 6 (AllReadyH.cons rfl (fun K hK=>?_) AllReadyH.nil)
     try simp only [gA,gZ,gS]
     obtain ⟨x0,x1,x2,x3,x4⟩:=F5.out
     go_simp
     have hBs:=(hB.setCell (p:=⟨ba5,0,none⟩) hge5 (.bool g1)).setCell (p:=⟨ba5,1,none⟩) hge5 (.slice A1 n1 c1)
     replace V1:=Hd (V1.out.fx F5.out (.bool g1) (.slice A1 n1 c1))
     replace V2:=Hd (V2.out.fx F5.out (.bool g1) (.slice A1 n1 c1))
     replace F6:=Hd (F6.out.other (by omega:ba5 ≠ ba6) (.bool g1) (.slice A1 n1 c1))
     replace F5:=Hd (F5.out.store (.bool g1) (.slice A1 n1 c1))
     clear x0 x1 x2 x3 x4 hB
     refine hK.out _ _ (HT.out _ hBs) (fun hH=>?_)
     clear hK K hH
     try simp only [Act.put,tA,cZ,cS]
     generalize (wa6.setCell ⟨ba5,0,none⟩ (.bool g1)).setCell ⟨ba5,1,none⟩ (.slice A1 n1 c1) = ws5 at *
     have hB:=hBs
     clear hBs
     refine rd 7 (AllReadyH.cons rfl (fun K hK=>?_) AllReadyH.nil)
     try simp only [gA,gZ,gS]
     obtain ⟨x0,x1,x2,x3,x4⟩:=F6.out
     go_simp
     have hBs:=(hB.setCell (p:=⟨ba6,0,none⟩) hge6 (.bool g2)).setCell (p:=⟨ba6,1,none⟩) hge6 (.slice A2 n2 c2)
     replace V1:=Hd (V1.out.fx F6.out (.bool g2) (.slice A2 n2 c2))
     replace V2:=Hd (V2.out.fx F6.out (.bool g2) (.slice A2 n2 c2))
     replace F5:=Hd (F5.out.other (by omega:ba6 ≠ ba5) (.bool g2) (.slice A2 n2 c2))
     replace F6:=Hd (F6.out.store (.bool g2) (.slice A2 n2 c2))
     clear x0 x1 x2 x3 x4 hB
     refine hK.out _ _ (HT.out _ hBs) (fun hH=>?_)
     clear hK K hH
     try simp only [Act.put,tA,cZ,cS]
     generalize (ws5.setCell ⟨ba6,0,none⟩ (.bool g2)).setCell ⟨ba6,1,none⟩ (.slice A2 n2 c2) = ws6 at *
     have hB:=hBs
     clear hBs
     refine wpAnyH_done (by kernel_rfl) ?_ _
     go_wp2_with fail
     go_meet
     exact ⟨ba5,ba6,rfl,rfl,⟨_,_,_,_,F5.out,V1.out⟩,⟨_,_,_,_,F6.out,V2.out⟩,by omega,hge5,hge6,hB⟩
    ·try simp only [gA,gZ,gS]
     go_simp
     have hne56:=F5.out.2.2.2.2
     have hbl:=below_alloc wc1 (.cells #[.bool false,.slice none 0 0] 34)
     replace F5:=Hd (F5.out.below hbl)
     replace V1:=Hd (V1.out.below hbl)
     have F6:=Hd (Fx.new wc1 (.bool false) (.slice none 0 0) 34)
     have hge6:=hB.size
     replace hB:=hB.alloc hB.size (.cells #[.bool false,.slice none 0 0] 34)
     refine hK.out _ _ (HT.out _ hB) (fun hH=>?_)
     clear hK K hH
     try simp only [Act.put,tA,cZ,cS]
     clear hbl
     generalize wc1.alloc (.cells #[.bool false,.slice none 0 0] 34) = wa6 at *
     generalize wc1.heap.size = ba6 at *
     refine rd 3 (AllReadyH.cons rfl (fun K hK=>?_) AllReadyH.nil)
     try simp only [gA,gZ,gS]
     go_simp
     (go_at_call 29;refine (rabs_any _ y L _ (HY.out.below hB)).mono ?_;rintro e wc2 ⟨⟨g2,A2,n2,c2,rfl,hv2⟩,hb2⟩)
     replace F5:=Hd (F5.out.below hb2)
     replace F6:=Hd (F6.out.below hb2)
     replace V1:=Hd (V1.out.below hb2)
     replace hB:=Below.trans hB (hb2.mono hB.size)
     have V2:=Hd hv2
     refine hK.out _ _ (HT.out _ hB) (fun hH=>?_)
     clear hK K hH
     try simp only [Act.put,tA,cZ,cS]
     clear hb2 hv2
     refine rd 6 (AllReadyH.cons rfl (fun K hK=>?_) AllReadyH.nil)
     try simp only [gA,gZ,gS]
     obtain ⟨x0,x1,x2,x3,x4⟩:=F5.out
     go_simp
     have hBs:=(hB.setCell (p:=⟨ba5,0,none⟩) hge5 (.bool g1)).setCell (p:=⟨ba5,1,none⟩) hge5 (.slice A1 n1 c1)
     replace V1:=Hd (V1.out.fx F5.out (.bool g1) (.slice A1 n1 c1))
     replace V2:=Hd (V2.out.fx F5.out (.bool g1) (.slice A1 n1 c1))
     replace F6:=Hd (F6.out.other (by omega:ba5 ≠ ba6) (.bool g1) (.slice A1 n1 c1))
     replace F5:=Hd (F5.out.store (.bool g1) (.slice A1 n1 c1))
     clear x0 x1 x2 x3 x4 hB
     refine hK.out _ _ (HT.out _ hBs) (fun hH=>?_)
     clear hK K hH
     try simp only [Act.put,tA,cZ,cS]
     generalize (wc2.setCell ⟨ba5,0,none⟩ (.bool g1)).setCell ⟨ba5,1,none⟩ (.slice A1 n1 c1) = ws5 at *
     have hB:=hBs
     clear hBs
     refine rd 7 (AllReadyH.cons rfl (fun K hK=>?_) AllReadyH.nil)
     try simp only [gA,gZ,gS]
     obtain ⟨x0,x1,x2,x3,x4⟩:=F6.out
     go_simp
     have hBs:=(hB.setCell (p:=⟨ba6,0,none⟩) hge6 (.bool g2)).setCell (p:=⟨ba6,1,none⟩) hge6 (.slice A2 n2 c2)
     replace V1:=Hd (V1.out.fx F6.out (.bool g2) (.slice A2 n2 c2))
     replace V2:=Hd (V2.out.fx F6.out (.bool g2) (.slice A2 n2 c2))
     replace F5:=Hd (F5.out.other (by omega:ba6 ≠ ba5) (.bool g2) (.slice A2 n2 c2))
     replace F6:=Hd (F6.out.store (.bool g2) (.slice A2 n2 c2))
     clear x0 x1 x2 x3 x4 hB
     refine hK.out _ _ (HT.out _ hBs) (fun hH=>?_)
     clear hK K hH
     try simp only [Act.put,tA,cZ,cS]
     generalize (ws5.setCell ⟨ba6,0,none⟩ (.bool g2)).setCell ⟨ba6,1,none⟩ (.slice A2 n2 c2) = ws6 at *
     have hB:=hBs
     clear hBs
     refine wpAnyH_done (by kernel_rfl) ?_ _
     go_wp2_with fail
     go_meet
     exact ⟨ba5,ba6,rfl,rfl,⟨_,_,_,_,F5.out,V1.out⟩,⟨_,_,_,_,F6.out,V2.out⟩,by omega,hge5,hge6,hB⟩
   ·try simp only [gA,gZ,gS]
    go_simp
    have hne56:=F5.out.2.2.2.2
    have hbl:=below_alloc wa5 (.cells #[.bool false,.slice none 0 0] 34)
    replace F5:=Hd (F5.out.below hbl)
    have F6:=Hd (Fx.new wa5 (.bool false) (.slice none 0 0) 34)
    have hge6:=hB.size
    replace hB:=hB.alloc hB.size (.cells #[.bool false,.slice none 0 0] 34)
    refine hK.out _ _ (HT.out _ hB) (fun hH=>?_)
    clear hK K hH
    try simp only [Act.put,tA,cZ,cS]
    clear hbl
    generalize wa5.alloc (.cells #[.bool false,.slice none 0 0] 34) = wa6 at *
    generalize wa5.heap.size = ba6 at *
    refine rd 1 (AllReadyH.cons rfl (fun K hK=>?_) AllReadyH.nil)
    try simp only [gA,gZ,gS]
    go_simp
    (go_at_call 29;refine (rabs_any _ x L _ (HX.out.below hB)).mono ?_;rintro e wc1 ⟨⟨g1,A1,n1,c1,rfl,hv1⟩,hb1⟩)
    replace F5:=Hd (F5.out.below hb1)
    replace F6:=Hd (F6.out.below hb1)
    replace hB:=Below.trans hB (hb1.mono hB.size)
    have V1:=Hd hv1
    refine hK.out _ _ (HT.out _ hB) (fun hH=>?_)
    clear hK K hH
    try simp only [Act.put,tA,cZ,cS]
    clear hb1 hv1
    refine rd 3 (AllReadyH.cons rfl (fun K hK=>?_) AllReadyH.nil)
    try simp only [gA,gZ,gS]
    go_simp
    (go_at_call 29;refine (rabs_any _ y L _ (HY.out.below hB)).mono ?_;rintro e wc2 ⟨⟨g2,A2,n2,c2,rfl,hv2⟩,hb2⟩)
    replace F5:=Hd (F5.out.below hb2)
    replace F6:=Hd (F6.out.below hb2)
    replace V1:=Hd (V1.out.below hb2)
    replace hB:=Below.trans hB (hb2.mono hB.size)
    have V2:=Hd hv2
    refine hK.out _ _ (HT.out _ hB) (fun hH=>?_)
    clear hK K hH
    try simp only [Act.put,tA,cZ,cS]
    clear hb2 hv2
    refine rd 6 (AllReadyH.cons rfl (fun K hK=>?_) AllReadyH.nil)
    try simp only [gA,gZ,gS]
    obtain ⟨x0,x1,x2,x3,x4⟩:=F5.out
    go_simp
    have hBs:=(hB.setCell (p:=⟨ba5,0,none⟩) hge5 (.bool g1)).setCell (p:=⟨ba5,1,none⟩) hge5 (.slice A1 n1 c1)
    replace V1:=Hd (V1.out.fx F5.out (.bool g1) (.slice A1 n1 c1))
    replace V2:=Hd (V2.out.fx F5.out (.bool g1) (.slice A1 n1 c1))
    replace F6:=Hd (F6.out.other (by omega:ba5 ≠ ba6) (.bool g1) (.slice A1 n1 c1))
    replace F5:=Hd (F5.out.store (.bool g1) (.slice A1 n1 c1))
    clear x0 x1 x2 x3 x4 hB
    refine hK.out _ _ (HT.out _ hBs) (fun hH=>?_)
    clear hK K hH
    try simp only [Act.put,tA,cZ,cS]
    generalize (wc2.setCell ⟨ba5,0,none⟩ (.bool g1)).setCell ⟨ba5,1,none⟩ (.slice A1 n1 c1) = ws5 at *
    have hB:=hBs
    clear hBs
    refine rd 7 (AllReadyH.cons rfl (fun K hK=>?_) AllReadyH.nil)
    try simp only [gA,gZ,gS]
    obtain ⟨x0,x1,x2,x3,x4⟩:=F6.out
    go_simp
    have hBs:=(hB.setCell (p:=⟨ba6,0,none⟩) hge6 (.bool g2)).setCell (p:=⟨ba6,1,none⟩) hge6 (.slice A2 n2 c2)
    replace V1:=Hd (V1.out.fx F6.out (.bool g2) (.slice A2 n2 c2))
    replace V2:=Hd (V2.out.fx F6.out (.bool g2) (.slice A2 n2 c2))
    replace F5:=Hd (F5.out.other (by omega:ba6 ≠ ba5) (.bool g2) (.slice A2 n2 c2))
    replace F6:=Hd (F6.out.store (.bool g2) (.slice A2 n2 c2))
    clear x0 x1 x2 x3 x4 hB
    refine hK.out _ _ (HT.out _ hBs) (fun hH=>?_)
    clear hK K hH
    try simp only [Act.put,tA,cZ,cS]
    generalize (ws5.setCell ⟨ba6,0,none⟩ (.bool g2)).setCell ⟨ba6,1,none⟩ (.slice A2 n2 c2) = ws6 at *
    have hB:=hBs
    clear hBs
    refine wpAnyH_done (by kernel_rfl) ?_ _
    go_wp2_with fail
    go_meet
    exact ⟨ba5,ba6,rfl,rfl,⟨_,_,_,_,F5.out,V1.out⟩,⟨_,_,_,_,F6.out,V2.out⟩,by omega,hge5,hge6,hB⟩
  ·try simp only [gA,gZ,gS]
   go_simp
   have hbl:=below_alloc wr0 (.cells #[.bool false,.slice none 0 0] 34)
   have F6:=Hd (Fx.new wr0 (.bool false) (.slice none 0 0) 34)
   have hge6:=hB.size
   replace hB:=hB.alloc hB.size (.cells #[.bool false,.slice none 0 0] 34)
   refine hK.out _ _ (HT.out _ hB) (fun hH=>?_)
   clear hK K hH
   try simp only [Act.put,tA,cZ,cS]
   clear hbl
   generalize wr0.alloc (.cells #[.bool false,.slice none 0 0] 34) = wa6 at *
   generalize wr0.heap.size = ba6 at *
   refine wpAnyH_ready (rs:=[1,4]) (by kernel_rfl) (by simp) ?_
   refine AllReadyH.cons rfl (fun K hK=>?_) (AllReadyH.cons rfl (fun K hK=>?_) AllReadyH.nil)
   ·try simp only [gA,gZ,gS]
    go_simp
    (go_at_call 29;refine (rabs_any _ x L _ (HX.out.below hB)).mono ?_;rintro e wc1 ⟨⟨g1,A1,n1,c1,rfl,hv1⟩,hb1⟩)
    replace F6:=Hd (F6.out.below hb1)
    replace hB:=Below.trans hB (hb1.mono hB.size)
    have V1:=Hd hv1
    refine hK.out _ _ (HT.out _ hB) (fun hH=>?_)
    clear hK K hH
    try simp only [Act.put,tA,cZ,cS]
    clear hb1 hv1
    refine wpAnyH_ready (rs:=[3,4]) (by kernel_rfl) (by simp) ?_
    refine AllReadyH.cons rfl (fun K hK=>?_) (AllReadyH.cons rfl (fun K hK=>?_) AllReadyH.nil)
    ·try simp only [gA,gZ,gS]
     go_simp
     (go_at_call 29;refine (rabs_any _ y L _ (HY.out.below hB)).mono ?_;rintro e wc2 ⟨⟨g2,A2,n2,c2,rfl,hv2⟩,hb2⟩)
     replace F6:=Hd (F6.out.below hb2)
     replace V1:=Hd (V1.out.below hb2)
     replace hB:=Below.trans hB (hb2.mono hB.size)
     have V2:=Hd hv2
     refine hK.out _ _ (HT.out _ hB) (fun hH=>?_)
     clear hK K hH
     try simp only [Act.put,tA,cZ,cS]
     clear hb2 hv2
     refine rd 4 (AllReadyH.cons rfl (fun K hK=>?_) AllReadyH.nil)
     try simp only [gA,gZ,gS]
     go_simp
     have hne65:=F6.out.2.2.2.2
     have hbl:=below_alloc wc2 (.cells #[.bool false,.slice none 0 0] 34)
     replace F6:=Hd (F6.out.below hbl)
     replace V1:=Hd (V1.out.below hbl)
     replace V2:=Hd (V2.out.below hbl)
     have F5:=Hd (Fx.new wc2 (.bool false) (.slice none 0 0) 34)
     have hge5:=hB.size
     replace hB:=hB.alloc hB.size (.cells #[.bool false,.slice none 0 0] 34)
     refine hK.out _ _ (HT.out _ hB) (fun hH=>?_)
     clear hK K hH
     try simp only [Act.put,tA,cZ,cS]
     clear hbl
     generalize wc2.alloc (.cells #[.bool false,.slice none 0 0] 34) = wa5 at *
     generalize wc2.heap.size = ba5 at *
     refine rd 6 (AllReadyH.cons rfl (fun K hK=>?_) AllReadyH.nil)
     try simp only [gA,gZ,gS]
     obtain ⟨x0,x1,x2,x3,x4⟩:=F5.out
     go_simp
     have hBs:=(hB.setCell (p:=⟨ba5,0,none⟩) hge5 (.bool g1)).setCell (p:=⟨ba5,1,none⟩) hge5 (.slice A1 n1 c1)
     replace V1:=Hd (V1.out.fx F5.out (.bool g1) (.slice A1 n1 c1))
     replace V2:=Hd (V2.out.fx F5.out (.bool g1) (.slice A1 n1 c1))
     replace F6:=Hd (F6.out.other (by omega:ba5 ≠ ba6) (.bool g1) (.slice A1 n1 c1))
     replace F5:=Hd (F5.out.store (.bool g1) (.slice A1 n1 c1))
     clear x0 x1 x2 x3 x4 hB
     refine hK.out _ _ (HT.out _ hBs) (fun hH=>?_)
     clear hK K hH
     try simp only [Act.put,tA,cZ,cS]
     generalize (wa5.setCell ⟨ba5,0,none⟩ (.bool g1)).setCell ⟨ba5,1,none⟩ (.slice A1 n1 c1) = ws5 at *
     have hB:=hBs
     clear hBs
     refine rd 7 (AllReadyH.cons rfl (fun K hK=>?_) AllReadyH.nil)
     try simp only [gA,gZ,gS]
     obtain ⟨x0,x1,x2,x3,x4⟩:=F6.out
     go_simp
     have hBs:=(hB.setCell (p:=⟨ba6,0,none⟩) hge6 (.bool g2)).setCell (p:=⟨ba6,1,none⟩) hge6 (.slice A2 n2 c2)
     replace V1:=Hd (V1.out.fx F6.out (.bool g2) (.slice A2 n2 c2))
     replace V2:=Hd (V2.out.fx F6.out (.bool g2) (.slice A2 n2 c2))
     replace F5:=Hd (F5.out.other (by omega:ba6 ≠ ba5) (.bool g2) (.slice A2 n2 c2))
     replace F6:=Hd (F6.out.store (.bool g2) (.slice A2 n2 c2))
     clear x0 x1 x2 x3 x4 hB
     refine hK.out _ _ (HT.out _ hBs) (fun hH=>?_)
     clear hK K hH
     try simp only [Act.put,tA,cZ,cS]
     generalize (ws5.setCell ⟨ba6,0,none⟩ (.bool g2)).setCell ⟨ba6,1,none⟩ (.slice A2 n2 c2) = ws6 at *
     have hB:=hBs
     clear hBs
     refine wpAnyH_done (by kernel_rfl) ?_ _
     go_wp2_with fail
     go_meet
     exact ⟨ba5,ba6,rfl,rfl,⟨_,_,_,_,F5.out,V1.out⟩,⟨_,_,_,_,F6.out,V2.out⟩,by omega,hge5,hge6,hB⟩
    ·try simp only [gA,gZ,gS]
     go_simp
     have hne65:=F6.out.2.2.2.2
     have hbl:=below_alloc wc1 (.cells #[.bool false,.slice none 0 0] 34)
     replace F6:=Hd (F6.out.below hbl)
     replace V1:=Hd (V1.out.below hbl)
     have F5:=Hd (Fx.new wc1 (.bool false) (.slice none 0 0) 34)
     have hge5:=hB.size
     replace hB:=hB.alloc hB.size (.cells #[.bool false,.slice none 0 0] 34)
     refine hK.out _ _ (HT.out _ hB) (fun hH=>?_)
     clear hK K hH
     try simp only [Act.put,tA,cZ,cS]
     clear hbl
     generalize wc1.alloc (.cells #[.bool false,.slice none 0 0] 34) = wa5 at *
     generalize wc1.heap.size = ba5 at *
     refine rd 3 (AllReadyH.cons rfl (fun K hK=>?_) AllReadyH.nil)
     try simp only [gA,gZ,gS]
     go_simp
     (go_at_call 29;refine (rabs_any _ y L _ (HY.out.below hB)).mono ?_;rintro e wc2 ⟨⟨g2,A2,n2,c2,rfl,hv2⟩,hb2⟩)
     replace F6:=Hd (F6.out.below hb2)
     replace F5:=Hd (F5.out.below hb2)
     replace V1:=Hd (V1.out.below hb2)
     replace hB:=Below.trans hB (hb2.mono hB.size)
     have V2:=Hd hv2
     refine hK.out _ _ (HT.out _ hB) (fun hH=>?_)
     clear hK K hH
     try simp only [Act.put,tA,cZ,cS]
     clear hb2 hv2
     refine rd 6 (AllReadyH.cons rfl (fun K hK=>?_) AllReadyH.nil)
     try simp only [gA,gZ,gS]
     obtain ⟨x0,x1,x2,x3,x4⟩:=F5.out
     go_simp
     have hBs:=(hB.setCell (p:=⟨ba5,0,none⟩) hge5 (.bool g1)).setCell (p:=⟨ba5,1,none⟩) hge5 (.slice A1 n1 c1)
     replace V1:=Hd (V1.out.fx F5.out (.bool g1) (.slice A1 n1 c1))
     replace V2:=Hd (V2.out.fx F5.out (.bool g1) (.slice A1 n1 c1))
     replace F6:=Hd (F6.out.other (by omega:ba5 ≠ ba6) (.bool g1) (.slice A1 n1 c1))
     replace F5:=Hd (F5.out.store (.bool g1) (.slice A1 n1 c1))
     clear x0 x1 x2 x3 x4 hB
     refine hK.out _ _ (HT.out _ hBs) (fun hH=>?_)
     clear hK K hH
     try simp only [Act.put,tA,cZ,cS]
     generalize (wc2.setCell ⟨ba5,0,none⟩ (.bool g1)).setCell ⟨ba5,1,none⟩ (.slice A1 n1 c1) = ws5 at *
     have hB:=hBs
     clear hBs
     refine rd 7 (AllReadyH.cons rfl (fun K hK=>?_) AllReadyH.nil)
     try simp only [gA,gZ,gS]
     obtain ⟨x0,x1,x2,x3,x4⟩:=F6.out
     go_simp
     have hBs:=(hB.setCell (p:=⟨ba6,0,none⟩) hge6 (.bool g2)).setCell (p:=⟨ba6,1,none⟩) hge6 (.slice A2 n2 c2)
     replace V1:=Hd (V1.out.fx F6.out (.bool g2) (.slice A2 n2 c2))
     replace V2:=Hd (V2.out.fx F6.out (.bool g2) (.slice A2 n2 c2))
     replace F5:=Hd (F5.out.other (by omega:ba6 ≠ ba5) (.bool g2) (.slice A2 n2 c2))
     replace F6:=Hd (F6.out.store (.bool g2) (.slice A2 n2 c2))
     clear x0 x1 x2 x3 x4 hB
     refine hK.out _ _ (HT.out _ hBs) (fun hH=>?_)
     clear hK K hH
     try simp only [Act.put,tA,cZ,cS]
     generalize (ws5.setCell ⟨ba6,0,none⟩ (.bool g2)).setCell ⟨ba6,1,none⟩ (.slice A2 n2 c2) = ws6 at *
     have hB:=hBs
     clear hBs
     refine wpAnyH_done (by kernel_rfl) ?_ _
     go_wp2_with fail
     go_meet
     exact ⟨ba5,ba6,rfl,rfl,⟨_,_,_,_,F5.out,V1.out⟩,⟨_,_,_,_,F6.out,V2.out⟩,by omega,hge5,hge6,hB⟩
   ·try simp only [gA,gZ,gS]
    go_simp
    have hne65:=F6.out.2.2.2.2
    have hbl:=below_alloc wa6 (.cells #[.bool false,.slice none 0 0] 34)
    replace F6:=Hd (F6.out.below hbl)
    have F5:=Hd (Fx.new wa6 (.bool false) (.slice none 0 0) 34)
    have hge5:=hB.size
    replace hB:=hB.alloc hB.size (.cells #[.bool false,.slice none 0 0] 34)
    refine hK.out _ _ (HT.out _ hB) (fun hH=>?_)
    clear hK K hH
    try simp only [Act.put,tA,cZ,cS]
    clear hbl
    generalize wa6.alloc (.cells #[.bool false,.slice none 0 0] 34) = wa5 at *
    generalize wa6.heap.size = ba5 at *
    refine rd 1 (AllReadyH.cons rfl (fun K hK=>?_) AllReadyH.nil)
    try simp only [gA,gZ,gS]
    go_simp
    (go_at_call 29;refine (rabs_any _ x L _ (HX.out.below hB)).mono ?_;rintro e wc1 ⟨⟨g1,A1,n1,c1,rfl,hv1⟩,hb1⟩)
    replace F6:=Hd (F6.out.below hb1)
    replace F5:=Hd (F5.out.below hb1)
    replace hB:=Below.trans hB (hb1.mono hB.size)
    have V1:=Hd hv1
    refine hK.out _ _ (HT.out _ hB) (fun hH=>?_)
    clear hK K hH
    try simp only [Act.put,tA,cZ,cS]
    clear hb1 hv1
    refine rd 3 (AllReadyH.cons rfl (fun K hK=>?_) AllReadyH.nil)
    try simp only [gA,gZ,gS]
    go_simp
    (go_at_call 29;refine (rabs_any _ y L _ (HY.out.below hB)).mono ?_;rintro e wc2 ⟨⟨g2,A2,n2,c2,rfl,hv2⟩,hb2⟩)
    replace F6:=Hd (F6.out.below hb2)
    replace F5:=Hd (F5.out.below hb2)
    replace V1:=Hd (V1.out.below hb2)
    replace hB:=Below.trans hB (hb2.mono hB.size)
    have V2:=Hd hv2
    refine hK.out _ _ (HT.out _ hB) (fun hH=>?_)
    clear hK K hH
    try simp only [Act.put,tA,cZ,cS]
    clear hb2 hv2
    refine rd 6 (AllReadyH.cons rfl (fun K hK=>?_) AllReadyH.nil)
    try simp only [gA,gZ,gS]
    obtain ⟨x0,x1,x2,x3,x4⟩:=F5.out
    go_simp
    have hBs:=(hB.setCell (p:=⟨ba5,0,none⟩) hge5 (.bool g1)).setCell (p:=⟨ba5,1,none⟩) hge5 (.slice A1 n1 c1)
    replace V1:=Hd (V1.out.fx F5.out (.bool g1) (.slice A1 n1 c1))
    replace V2:=Hd (V2.out.fx F5.out (.bool g1) (.slice A1 n1 c1))
    replace F6:=Hd (F6.out.other (by omega:ba5 ≠ ba6) (.bool g1) (.slice A1 n1 c1))
    replace F5:=Hd (F5.out.store (.bool g1) (.slice A1 n1 c1))
    clear x0 x1 x2 x3 x4 hB
    refine hK.out _ _ (HT.out _ hBs) (fun hH=>?_)
    clear hK K hH
    try simp only [Act.put,tA,cZ,cS]
    generalize (wc2.setCell ⟨ba5,0,none⟩ (.bool g1)).setCell ⟨ba5,1,none⟩ (.slice A1 n1 c1) = ws5 at *
    have hB:=hBs
    clear hBs
    refine rd 7 (AllReadyH.cons rfl (fun K hK=>?_) AllReadyH.nil)
    try simp only [gA,gZ,gS]
    obtain ⟨x0,x1,x2,x3,x4⟩:=F6.out
    go_simp
    have hBs:=(hB.setCell (p:=⟨ba6,0,none⟩) hge6 (.bool g2)).setCell (p:=⟨ba6,1,none⟩) hge6 (.slice A2 n2 c2)
    replace V1:=Hd (V1.out.fx F6.out (.bool g2) (.slice A2 n2 c2))
    replace V2:=Hd (V2.out.fx F6.out (.bool g2) (.slice A2 n2 c2))
    replace F5:=Hd (F5.out.other (by omega:ba6 ≠ ba5) (.bool g2) (.slice A2 n2 c2))
    replace F6:=Hd (F6.out.store (.bool g2) (.slice A2 n2 c2))
    clear x0 x1 x2 x3 x4 hB
    refine hK.out _ _ (HT.out _ hBs) (fun hH=>?_)
    clear hK K hH
    try simp only [Act.put,tA,cZ,cS]
    generalize (ws5.setCell ⟨ba6,0,none⟩ (.bool g2)).setCell ⟨ba6,1,none⟩ (.slice A2 n2 c2) = ws6 at *
    have hB:=hBs
    clear hBs
    refine wpAnyH_done (by kernel_rfl) ?_ _
    go_wp2_with fail
    go_meet
    exact ⟨ba5,ba6,rfl,rfl,⟨_,_,_,_,F5.out,V1.out⟩,⟨_,_,_,_,F6.out,V2.out⟩,by omega,hge5,hge6,hB⟩
 case rest=>
  obtain ⟨b5,b6,rfl,rfl,hr5,hr6,hne,hg5,hg6,hbc⟩:=hcut
  obtain ⟨wk,rfl⟩ : ∃ wk,wk = wc:=⟨wc,rfl⟩
  have hx0:0 <= (if x < 0 then -x else x):=by split <;> omega
  have hy0:0 <= (if y < 0 then -y else y):=by split <;> omega
  have hgc:Int.gcd (if x < 0 then -x else x) (if y < 0 then -y else y) = Int.gcd x y:=by split <;> split <;> simp
  generalize (if x < 0 then -x else x) = X at *
  generalize (if y < 0 then -y else y) = Y at *
  have HGC:=Hd hgc
  have HR5:=Hd hr5
  have HR6:=Hd hr6
  clear hgc hr5 hr6 HX HY HT
  go_wp2_with fail
  go_loopg [] Y.toNat (fun g wr=>∃ x' y':Int,g = y'.toNat /\ RFx wr b5 x' L /\ RFx wr b6 y' L /\ 0 <= x' /\ 0 <= y' /\ Hid (Int.gcd x' y' = Int.gcd x y) /\ Below W0.heap.size W0 wr)
  case atStart=>exact ⟨X,Y,rfl,HR5.out,HR6.out,hx0,hy0,HGC,hbc⟩
  case round=>
   obtain ⟨x',y',rfl,h5,h6,hx',hy',hg,hbr⟩:=hrel
   obtain ⟨g5,A5,n5,c5,F5,V5⟩:=h5
   obtain ⟨g6,A6,n6,c6,F6,V6⟩:=h6
   have HF5:=Hd F5
   have HF6:=Hd F6
   have HV5:=Hd V5
   have HV6:=Hd V6
   obtain ⟨k50,k51,k52,k53,k54⟩:=F5
   obtain ⟨k60,k61,k62,k63,k64⟩:=F6
   have hzr:=hbr.size
   clear V5 V6
   go_wp2_with fail
   refine (rsign_any _ y' L _ HV6.out (by omega)).mono ?_
   rintro e w1 ⟨rfl,hb1⟩
   by_cases hz:y' = 0
   ·have hcm:(cmpI y' 0 != 0) = false:=by rw [cmpI_eq hz];decide
    have HFX:=Hd (HF5.out.below hb1)
    have HVX:=Hd (HV5.out.below hb1)
    have HFR:=Hd (HF2.out.below (hbr.trans (hb1.mono hzr)))
    have hfin:(Int.gcd x y:Int) = x':=by rw [<- hg.out,hz,Int.gcd_zero_right];omega
    have HFIN:=Hd hfin
    have hbw:=hbr.trans (hb1.mono hzr)
    obtain ⟨m0,m1,m2,m3,m4⟩:=HFX.out
    obtain ⟨r0,r1,r2,r3,r4⟩:=HFR.out
    clear hz hfin k50 k51 k52 k53 k60 k61 k62 k63
    go_wp2_with fail
    refine bodyPost_ret (v:=.agg #[.bool g5,.slice A5 n5 c5]) (by simp [results,Tryz.results80,go_sem,r0,r1]) rfl ⟨⟨_,_,_,_,rfl,?_⟩,?_⟩
    ·rw [HFIN.out];exact HVX.out.fx HFR.out _ _
    ·exact ((hW.trans (hbw.mono hW.size)).setCell (p:=⟨w.heap.size + 1 + 1,0,none⟩) (by show w.heap.size <= w.heap.size + 1 + 1;omega) _).setCell (p:=⟨w.heap.size + 1 + 1,1,none⟩) (by show w.heap.size <= w.heap.size + 1 + 1;omega) _
   ·have hcm:(cmpI y' 0 != 0) = true:=by rw [cmpI_gt (by omega)];decide
    have HF51:=Hd (HF5.out.below hb1)
    have HF61:=Hd (HF6.out.below hb1)
    have HV51:=Hd (HV5.out.below hb1)
    have HV61:=Hd (HV6.out.below hb1)
    have hbw:=hbr.trans (hb1.mono hzr)
    clear k50 k51 k52 k53 k60 k61 k62 k63
    obtain ⟨k50,k51,k52,k53,k54'⟩:=HF51.out
    obtain ⟨k60,k61,k62,k63,k64'⟩:=HF61.out
    have HNZ:=Hd hz
    clear hz
    go_wp2_with fail
    refine (rDivide_int _ _ x' y' L L _ HV51.out HV61.out (by omega) (by omega) HNZ.out).mono ?_
    rintro e w2 ⟨⟨g1,A1,n1,c1,g2,A2,n2,c2,rfl,hq,hr⟩,hb2⟩
    clear k50 k51 k52 k53 k60 k61 k62 k63
    have e2:x'.tmod y' = x' % y':=Int.tmod_eq_emod_of_nonneg hx'
    rw [e2] at hr
    have hm0:0 <= x' % y':=Int.emod_nonneg _ HNZ.out
    have hm1:x' % y' < y':=Int.emod_lt_of_pos _ (by have:=HNZ.out;omega)
    have hX:=below_two w2 (.cells #[.bool g1,.slice A1 n1 c1] 34) (.cells #[.bool g2,.slice A2 n2 c2] 34)
    have hk:=hb2.trans (hX.mono hb2.size)
    have HF52:=Hd (HF51.out.below hk)
    have HF62:=Hd (HF61.out.below hk)
    have HV62:=Hd (HV61.out.below hk)
    have HRX:=Hd (hr.below hX)
    have hbw2:=hbw.trans (hk.mono hbw.size)
    have F8:Fx ((w2.alloc (.cells #[.bool g1,.slice A1 n1 c1] 34)).alloc (.cells #[.bool g2,.slice A2 n2 c2] 34)) (w2.heap.size + 1) (.bool g2) (.slice A2 n2 c2):=by
     have h1:=Fx.new (w2.alloc (.cells #[.bool g1,.slice A1 n1 c1] 34)) (.bool g2) (.slice A2 n2 c2) 34
     rw [show (w2.alloc (.cells #[.bool g1,.slice A1 n1 c1] 34)).heap.size = w2.heap.size + 1 from by simp] at h1
     exact h1
    have HG2:=Hd (show Int.gcd y' (x' % y') = Int.gcd x y by rw [<- hg.out,Int.gcd_comm,Int.emod_def,Int.gcd_sub_mul_left_left])
    have hlt2:=hb2.size
    clear hq hr hX hk e2
    have hlt6:=HF61.out.2.2.2.2
    go_wp2_with fail
    have hne8:w2.heap.size + 1 ≠ b5:=by omega
    have hne8':w2.heap.size + 1 ≠ b6:=by omega
    generalize w2.heap.size + 1 = b8 at *
    generalize ((w2.alloc (.cells #[.bool g1,.slice A1 n1 c1] 34)).alloc (.cells #[.bool g2,.slice A2 n2 c2] 34)) = W2 at *
    have HF8:=Hd F8
    obtain ⟨k50,k51,k52,k53,k54'⟩:=HF52.out
    obtain ⟨k60,k61,k62,k63,k64'⟩:=HF62.out
    obtain ⟨k80,k81,k82,k83,k84⟩:=F8
    have F5a:=HF52.out.store (.bool g6) (.slice A6 n6 c6)
    have F6a:=HF62.out.other hne (.bool g6) (.slice A6 n6 c6)
    have V6a:=HV62.out.fx HF52.out (.bool g6) (.slice A6 n6 c6)
    have VRa:=HRX.out.fx HF52.out (.bool g6) (.slice A6 n6 c6)
    have F6b:=Hd (F6a.store (.bool g2) (.slice A2 n2 c2))
    have F5b:=Hd (F5a.other (Ne.symm hne) (.bool g2) (.slice A2 n2 c2))
    have V6b:=Hd (V6a.fx F6a (.bool g2) (.slice A2 n2 c2))
    have VRb:=Hd (VRa.fx F6a (.bool g2) (.slice A2 n2 c2))
    have hbf:=(((hbw2.setCell (p:=⟨b5,0,none⟩) hg5 (.bool g6)).setCell (p:=⟨b5,1,none⟩) hg5 (.slice A6 n6 c6)).setCell (p:=⟨b6,0,none⟩) hg6 (.bool g2)).setCell (p:=⟨b6,1,none⟩) hg6 (.slice A2 n2 c2)
    clear F5a F6a V6a VRa
    go_region
    go_wp2_with fail
    go_roundg (x' % y').toNat
    case rel=>
     have hD:=fun (W:World)=>(Below.refl W.heap.size W).drew
     exact ⟨y',x' % y',rfl,⟨_,_,_,_,F5b.out.below (hD _),V6b.out.below (hD _)⟩,⟨_,_,_,_,F6b.out.below (hD _),VRb.out.below (hD _)⟩,hy',hm0,HG2,hbf.drew⟩
    case measure=>omega
end Go.Proofs.YtbajnceoolkckaaGreat
