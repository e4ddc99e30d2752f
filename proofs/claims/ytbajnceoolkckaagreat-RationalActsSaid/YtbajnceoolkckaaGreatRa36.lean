/- Of the proof of RationalActs: RRoot, Newton. -/
import Derived.Test.YtbajnceoolkckaaGreatRa19
open List renaming getElem_toArray → gA, getElem_cons_succ → gS, getElem_cons_zero → gZ, setIfInBounds_toArray → tA, set_cons_zero → cZ, set_cons_succ → cS
open Go.Lib renaming hid → Hd
set_option maxRecDepth 100000
set_option maxHeartbeats 16000000
namespace Go.Proofs.YtbajnceoolkckaaGreat
open Go.RowKit LM
def IsRoot (x r:Int) : Prop:=0 <= r /\ r * r <= x /\ x < (r + 1) * (r + 1)
theorem IsRoot.same {x r s:Int} (h:IsRoot x r) (g:IsRoot x s) : r = s:=by
 obtain ⟨h0,h1,h2⟩:=h
 obtain ⟨g0,g1,g2⟩:=g
 have key:∀ a b:Int,0 <= a -> 0 <= b -> a * a <= x -> x < (b + 1) * (b + 1) -> a <= b:=by
  intro a b ha hb h1 h2
  refine Int.not_lt.1 fun hlt=>?_
  have h3:(b + 1) * (b + 1) <= a * a:=Int.mul_le_mul (by omega) (by omega) (by omega) ha
  omega
 exact Int.le_antisymm (key r s h0 g0 h1 g2) (key s r g0 h0 g1 h2)
theorem rRoot_bad (u:Value) (x:Int) (L:Nat) (w:World) (h:Rval w u x L) (hL:L <= 1000) (hx:x < 0) :
  Calls Tryz.prog 95 #[u] w fun e w'=>e = .returned (.tuple #[.agg #[.bool false,.slice none 0 0],.int .i64 1]) /\ Below w.heap.size w w':=by
 obtain ⟨p,A,m,c,rfl⟩:=h.form
 have hW:=below_two w (.cells #[.bool p,.slice A m c] 34) (.cells #[.bool false,.slice none 0 0] 34)
 have HX:=Hd (h.below hW)
 have hB0:=Below.refl (w.heap.size + 2) ((w.alloc (.cells #[.bool p,.slice A m c] 34)).alloc (.cells #[.bool false,.slice none 0 0] 34))
 have hs2:w.heap.size + 2 <= ((w.alloc (.cells #[.bool p,.slice A m c] 34)).alloc (.cells #[.bool false,.slice none 0 0] 34)).heap.size:=by simp
 obtain ⟨⟨k0,k1⟩,-⟩:=sh_hold hB0
 have HSG:=Hd (show cmpI x 0 < 0 by unfold cmpI;split <;> omega)
 clear h
 go_enter Tryz.func95,Tryz.ntmps95
 go_wp2_with fail
 refine (rsign_any _ x L _ HX.out (by omega)).mono ?_
 rintro e w1 ⟨rfl,hb1⟩
 have hB1:=hB0.trans (hb1.mono (B':=w.heap.size + 2) hs2)
 obtain ⟨-,⟨e1,e2,f1,f2⟩⟩:=sh_hold hB1
 have hsg:=HSG.out
 clear k0 k1
 go_wp2
 refine bodyPost_ret (v:=.tuple #[.agg #[.bool false,.slice none 0 0],.int .i64 1]) (by simp [results,Tryz.results95,go_sem,e1,e2]) rfl ⟨rfl,?_⟩
 exact ((hW.trans (hB1.mono (show w.heap.size <= w.heap.size + 2 by omega))).setCell (by show _ <= _;simp) _).setCell (by show _ <= _;simp) _
theorem alloc_room31 (v:World) : ((v.alloc (.cells #[.bool false,.slice none 0 0] 34)).cell? ⟨v.heap.size,0,none⟩ = some (.bool false) /\ (v.alloc (.cells #[.bool false,.slice none 0 0] 34)).cell? ⟨v.heap.size,1,none⟩ = some (.slice none 0 0) /\
  (v.alloc (.cells #[.bool false,.slice none 0 0] 34)).frozen? ⟨v.heap.size,0,none⟩ = false /\ (v.alloc (.cells #[.bool false,.slice none 0 0] 34)).frozen? ⟨v.heap.size,1,none⟩ = false) /\ v.heap.size < (v.alloc (.cells #[.bool false,.slice none 0 0] 34)).heap.size:=by
 refine ⟨⟨?_,?_,?_,?_⟩,by simp⟩
 ·rw [World.cell?_alloc_at _ _ _ _ rfl];rfl
 ·rw [World.cell?_alloc_at _ _ _ _ rfl];rfl
 ·exact World.frozen?_alloc_at _ _ _ _ rfl
 ·exact World.frozen?_alloc_at _ _ _ _ rfl
theorem cmp_le {a b:Int} (h:a <= b) : cmpI a b <= 0:=by
 unfold cmpI;split
 ·decide
 ·split
  ·decide
  ·omega
theorem cmp_gt {a b:Int} (h:b < a) : ¬ cmpI a b <= 0:=by
 unfold cmpI;rw [if_neg (by omega),if_neg (by omega)];decide
theorem RBox.mono {w:World} {b:Nat} {z:Int} {L M:Nat} (h:RBox w b z L) (hm:L <= M) : RBox w b z M:=by
 obtain ⟨g,A,n,c,h1,h2,h3,h4,h5,h6⟩:=h
 exact ⟨g,A,n,c,h1,h2,h3,h4,h5,h6.mono hm⟩
theorem RoomAt.rbox {v:World} {b:Nat} {L:Nat} (h:RoomAt v b) : RBox v b 0 L:=⟨false,none,0,0,h.1.1,h.1.2.1,h.1.2.2.1,h.1.2.2.2,h.2,Rval.nought⟩
def RootAt (x:Int) (j:Nat) (r:Int) : Prop:=0 <= r /\ r * r <= x /\ x < (r + 2 ^ j) * (r + 2 ^ j)
theorem RootAt.start {x:Int} (h0:0 <= x) {d:Nat} (hd:x < 2 ^ d) : RootAt x (d / 2 + 1) 0:=by
 refine ⟨Int.le_refl _,by omega,?_⟩
 have h1:=two_mono (show d <= (d / 2 + 1) + (d / 2 + 1) by omega)
 rw [Int.pow_add] at h1
 rw [Int.zero_add]
 omega
theorem RootAt.low {x:Int} {j:Nat} {r:Int} (h:RootAt x (j + 1) r) (hc:x < (r + 2 ^ j) * (r + 2 ^ j)) : RootAt x j r:=⟨h.1,h.2.1,hc⟩
theorem RootAt.high {x:Int} {j:Nat} {r:Int} (h:RootAt x (j + 1) r) (hc:(r + 2 ^ j) * (r + 2 ^ j) <= x) : RootAt x j (r + 2 ^ j):=by
 have:=two_pos j
 refine ⟨by have:=h.1;omega,hc,?_⟩
 have h3:=h.2.2
 rw [Int.pow_succ] at h3
 rw [show r + 2 ^ j + 2 ^ j = r + 2 ^ j * 2 by omega]
 exact h3
theorem RootAt.done {x r:Int} (h:RootAt x 0 r) : IsRoot x r:=⟨h.1,h.2.1,by have:=h.2.2;rwa [Int.pow_zero] at this⟩
theorem rRoot_val (u:Value) (x:Int) (L:Nat) (w:World) (h:Rval w u x L) (hL:L <= 16) (hx:0 <= x) :
  Calls Tryz.prog 95 #[u] w fun e w'=>(∃ ng A2 n2 c2 r,e = .returned (.tuple #[.agg #[.bool ng,.slice A2 n2 c2],.int .i64 0]) /\ Rval w' (.agg #[.bool ng,.slice A2 n2 c2]) r 1000 /\ IsRoot x r) /\ Below w.heap.size w w':=by
 obtain ⟨p,A,m,c,rfl⟩:=h.form
 have hW:=below_two w (.cells #[.bool p,.slice A m c] 34) (.cells #[.bool false,.slice none 0 0] 34)
 have HX:=Hd (h.below hW)
 have hB0:=Below.refl (w.heap.size + 2) ((w.alloc (.cells #[.bool p,.slice A m c] 34)).alloc (.cells #[.bool false,.slice none 0 0] 34))
 have hs2:w.heap.size + 2 <= ((w.alloc (.cells #[.bool p,.slice A m c] 34)).alloc (.cells #[.bool false,.slice none 0 0] 34)).heap.size:=by simp
 have HS:=Hd (fun (w':World) (hb:Below (w.heap.size + 2) ((w.alloc (.cells #[.bool p,.slice A m c] 34)).alloc (.cells #[.bool false,.slice none 0 0] 34)) w')=>sh_hold hb)
 obtain ⟨⟨k0,k1⟩,-⟩:=HS.out _ hB0
 have HSG:=Hd (show ¬ cmpI x 0 < 0 by unfold cmpI;rw [if_neg (by omega)];split <;> decide)
 clear h
 go_enter Tryz.func95,Tryz.ntmps95
 go_wp2_with fail
 refine (rsign_any _ x L _ HX.out (by omega)).mono ?_
 rintro e w1 ⟨rfl,hb1⟩
 have hB1:=hB0.trans (hb1.mono (B':=w.heap.size + 2) hs2)
 have HX1:=Hd (HX.out.below hb1)
 have hz1:w.heap.size + 2 <= w1.heap.size:=Nat.le_trans hs2 hB1.size
 have hsg:=HSG.out
 clear k0 k1
 go_wp2_with fail
 refine (rnew_any 0 _ (by decide) (by decide)).mono ?_
 rintro e w2 ⟨⟨g1,A1,n1,d1,rfl,hz⟩,hb2⟩
 have HBX:=Hd (RBox.new w2 g1 A1 n1 d1 64 0 hz)
 have hN:=hb2.trans ((below_alloc w2 (.cells #[.bool g1,.slice A1 n1 d1] 34)).mono hb2.size)
 have hB3:=hB1.trans (hN.mono hz1)
 have HX3:=Hd (HX1.out.below hN)
 have hz2:w1.heap.size <= w2.heap.size:=hb2.size
 clear hz hsg HSG
 obtain ⟨⟨k0,k1⟩,-⟩:=HS.out _ hB3
 go_wp2_with fail
 refine (width_val _ x L _ HX3.out hx (by omega)).mono ?_
 rintro e w4 ⟨⟨d,rfl,hd,hdl⟩,hb4⟩
 have HBX4:=Hd (HBX.out.below hb4)
 have hW4:=below_alloc w2 (.cells #[.bool g1,.slice A1 n1 d1] 34) |>.trans (hb4.mono (B':=w2.heap.size) (by simp))
 have hX2:=hb2
 have HX2:=Hd (HX1.out.below hb2)
 have hB2:=hB1.trans (hb2.mono hz1)
 have HST:=Hd (RootAt.start hx (hd.lt_of_le (Nat.le_refl _)))
 clear hd k0 k1 HBX hN hB3 HX3 HX HX1
 go_wp2_with fail
 obtain ⟨J,hJ⟩ : ∃ J,d / 2 + 1 = J:=⟨_,rfl⟩
 rw [hJ] at HST
 have hJb:J <= 129:=by omega
 go_loopw [5] (fun iv wr=>∃ (j:Nat) (r:Int),iv = .int .i64 ((j:Int) - 1) /\ j <= J /\ Hid (RootAt x j r) /\ Hid (RBox wr w2.heap.size r (64 + (J - j))) /\ Below w2.heap.size w2 wr) (fun iv _=>(intOf iv + 1).toNat)
 case atStart=>exact ⟨J,0,by congr 1;omega,Nat.le_refl _,HST,Hd (by rw [Nat.sub_self];exact HBX4.out),hW4⟩
 case round=>
  obtain ⟨j,r,rfl,hj,HR,HB,hBR⟩:=hrel
  obtain ⟨g,A',n',c',c1,c2,f1,f2,hlt0,hv⟩:=HB.out
  have HV:=Hd hv
  have hBW:=hB2.trans (hBR.mono (Nat.le_trans hz1 hz2))
  have HXr:=Hd (HX2.out.below hBR)
  obtain ⟨⟨k0,k1⟩,⟨e1,e2,e3,e4⟩⟩:=HS.out _ hBW
  clear hv f1 f2
  by_cases hj0:j = 0
  ·subst hj0
   have HIS:=Hd (RootAt.done HR.out)
   go_wp2
   refine bodyPost_ret (v:=.tuple #[.agg #[.bool g,.slice A' n' c'],.int .i64 0]) (by simp [results,Tryz.results95,go_sem,e1,e2]) rfl ⟨⟨_,_,_,_,r,rfl,(HV.out.mono (by omega)).stored e1 e2 _ _,HIS.out⟩,?_⟩
   exact ((hW.trans (hBW.mono (show w.heap.size <= w.heap.size + 2 by omega))).setCell (by show _ <= _;simp) _).setCell (by show _ <= _;simp) _
  ·obtain ⟨i,rfl⟩ : ∃ i,j = i + 1:=⟨j - 1,by omega⟩
   have ei:((i + 1:Nat) : Int) - 1 = (i:Int):=by omega
   rw [ei]
   clear e1 e2 e3 e4 ei
   go_wp2_with fail
   have HT:=Hd (fun (w':World) (hb:Below wr.heap.size wr w')=>show w'.cell? ⟨w2.heap.size,0,none⟩ = some (.bool g) /\ w'.cell? ⟨w2.heap.size,1,none⟩ = some (.slice A' n' c') /\ Below wr.heap.size wr w' from ⟨(hb.cell (p:=⟨w2.heap.size,0,none⟩) hlt0).trans c1,(hb.cell (p:=⟨w2.heap.size,1,none⟩) hlt0).trans c2,hb⟩)
   have hBr0:=(Below.refl wr.heap.size wr).drew
   clear c1 c2
   refine wp_region_held_drew (S:=fun w'=>w'.cell? ⟨w2.heap.size,0,none⟩ = some (.bool g) /\ w'.cell? ⟨w2.heap.size,1,none⟩ = some (.slice A' n' c') /\ Below wr.heap.size wr w') (by kernel_rfl) (HT.out _ hBr0) (fun hH=>?_)
   refine tk 0 19 (by assumption) ?_
   try simp only [Act.put,tA,cZ,cS]
   refine tk 1 20 (by assumption) ?_
   try simp only [Act.put,tA,cZ,cS]
   refine wpAnyH_ready (rs:=[2,4]) (by kernel_rfl) (by simp) ?_
   refine AllReadyH.cons rfl (fun K hK=>?_) (AllReadyH.cons rfl (fun K hK=>?_) AllReadyH.nil)
   ·try simp only [gA,gZ,gS]
    go_simp
    (go_at_call 134;refine (rTwo_any _ i rfl _ (by omega)).mono ?_;rintro e wa ⟨⟨ng1,A4,n4,d4,rfl,hv1⟩,hba⟩)
    have HV1:=Hd hv1
    clear hv1
    have hBa:=Below.trans hBr0 (hba.mono hBr0.size)
    refine hK.out _ _ (HT.out _ hBa) (fun hH=>?_)
    clear hK K
    try simp only [Act.put,tA,cZ,cS]
    refine wpAnyH_ready (rs:=[3,4]) (by kernel_rfl) (by simp) ?_
    refine AllReadyH.cons rfl (fun K hK=>?_) (AllReadyH.cons rfl (fun K hK=>?_) AllReadyH.nil)
    ·try simp only [gA,gZ,gS]
     go_simp
     (go_at_call 86;refine (radd_any _ _ r (2 ^ i) (64 + (J - (i + 1))) (i / 16 + 1) _ (HV.out.below hBa) HV1.out (by omega) (by omega)).mono ?_;rintro e wc ⟨⟨ng3,A3,n3,d3,rfl,hv3⟩,hbc⟩)
     have HV3:=Hd (hv3.mono (show max (64 + (J - (i + 1))) (i / 16 + 1) + 1 <= 64 + (J - i) by omega))
     clear hv3
     have hBc:=Below.trans hBa (hbc.mono hBa.size)
     refine hK.out _ _ (HT.out _ hBc) (fun hH=>?_)
     clear hK K
     try simp only [Act.put,tA,cZ,cS]
     refine rd 4 (AllReadyH.cons rfl (fun K hK=>?_) AllReadyH.nil)
     try simp only [gA,gZ,gS]
     go_simp
     have hBl:=hBc.alloc hBc.size (.cells #[.bool false,.slice none 0 0] 34)
     have hbl:=below_alloc wc (.cells #[.bool false,.slice none 0 0] 34)
     have HRMl:=Hd (show RoomAt (wc.alloc (.cells #[.bool false,.slice none 0 0] 34)) wc.heap.size from alloc_room31 wc)
     have hge:wr.heap.size <= wc.heap.size:=hBc.size
     refine hK.out _ _ (HT.out _ hBl) (fun hH=>?_)
     clear hK K
     try simp only [Act.put,tA,cZ,cS]
     refine rd 5 (AllReadyH.cons rfl (fun K hK=>?_) AllReadyH.nil)
     try simp only [gA,gZ,gS]
     obtain ⟨⟨rm0,rm1,rm2,rm3⟩,rmz⟩:=HRMl.out
     go_simp
     have hBs:=hBc.alloc hBc.size (.cells #[.bool ng3,.slice A3 n3 d3] 34)
     have hnew:RBox (wc.alloc (.cells #[.bool ng3,.slice A3 n3 d3] 34)) wc.heap.size (r + 2 ^ i) (64 + (J - i)):=RBox.new _ _ _ _ _ _ _ HV3.out
     refine hK.out _ _ (HT.out _ hBs) (fun hHeldS=>?_)
     clear hK K
     try simp only [Act.put,tA,cZ,cS]
     refine wpAnyH_done (by kernel_rfl) ?_ _
     generalize (wc.alloc (.cells #[.bool ng3,.slice A3 n3 d3] 34)) = wt at *
     have HNB:=Hd hnew
     obtain ⟨g8,A8,n8,d8,q1,q2,q3,q4,q5,hv8⟩:=hnew
     have HV8:=Hd hv8
     have hxs:w.heap.size < wr.heap.size:=by have:=hBW.size;simp at this;omega
     have k0':=(hBs.cell (p:=⟨w.heap.size,0,none⟩) hxs).trans k0
     have k1':=(hBs.cell (p:=⟨w.heap.size,1,none⟩) hxs).trans k1
     have HX8:=Hd (HXr.out.below hBs)
     have HB8:=Hd (HB.out.below hBs)
     have hBRt:=hBR.trans (hBs.mono hBR.size)
     clear hv8 q3 q4 HT k0 k1
     go_wp2_with fail
     obtain ⟨sg,hsg⟩ : ∃ sg,cmpI ((r + 2 ^ i) * (r + 2 ^ i)) x = sg:=⟨_,rfl⟩
     have HSG2:=Hd hsg
     have hxt:=Nat.lt_of_lt_of_le hxs hBs.size
     have HT2:=Hd (fun (w':World) (hb:Below wt.heap.size wt w')=>show w'.cell? ⟨wc.heap.size,0,none⟩ = some (.bool g8) /\ w'.cell? ⟨wc.heap.size,1,none⟩ = some (.slice A8 n8 d8) /\ w'.cell? ⟨w.heap.size,0,none⟩ = some (.bool p) /\ w'.cell? ⟨w.heap.size,1,none⟩ = some (.slice A m c) /\ Below wt.heap.size wt w' from ⟨(hb.cell (p:=⟨wc.heap.size,0,none⟩) q5).trans q1,(hb.cell (p:=⟨wc.heap.size,1,none⟩) q5).trans q2,(hb.cell (p:=⟨w.heap.size,0,none⟩) hxt).trans k0',(hb.cell (p:=⟨w.heap.size,1,none⟩) hxt).trans k1',hb⟩)
     have hE0:=(Below.refl wt.heap.size wt).drew
     clear hsg q1 q2 k0' k1'
     refine wp_region_held_drew (S:=fun w'=>w'.cell? ⟨wc.heap.size,0,none⟩ = some (.bool g8) /\ w'.cell? ⟨wc.heap.size,1,none⟩ = some (.slice A8 n8 d8) /\ w'.cell? ⟨w.heap.size,0,none⟩ = some (.bool p) /\ w'.cell? ⟨w.heap.size,1,none⟩ = some (.slice A m c) /\ Below wt.heap.size wt w') (by kernel_rfl) (HT2.out _ hE0) (fun hHeld0=>?_)
     refine tk 0 23 (by assumption) ?_
     try simp only [Act.put,tA,cZ,cS]
     refine tk 1 24 (by assumption) ?_
     try simp only [Act.put,tA,cZ,cS]
     refine tk 3 26 (by assumption) ?_
     try simp only [Act.put,tA,cZ,cS]
     refine rd 2 (AllReadyH.cons rfl (fun K hK=>?_) AllReadyH.nil)
     try simp only [gA,gZ,gS]
     go_simp
     (go_at_call 90;refine (rMul_any _ _ (r + 2 ^ i) (r + 2 ^ i) (64 + (J - i)) (64 + (J - i)) _ (HV8.out.below hE0) (HV8.out.below hE0) (by omega) (by omega)).mono ?_;rintro e we ⟨⟨ng9,A9,n9,d9,rfl,hv9⟩,hbe⟩)
     have HV9:=Hd hv9
     clear hv9
     have hE1:=Below.trans hE0 (hbe.mono hE0.size)
     refine hK.out _ _ (HT2.out _ hE1) (fun hHeld1=>?_)
     clear hK K hHeld0
     try simp only [Act.put,tA,cZ,cS]
     refine rd 4 (AllReadyH.cons rfl (fun K hK=>?_) AllReadyH.nil)
     try simp only [gA,gZ,gS]
     go_simp
     (go_at_call 83;refine (rcmp_any _ _ ((r + 2 ^ i) * (r + 2 ^ i)) x ((64 + (J - i)) + (64 + (J - i)) + 1) L _ HV9.out (HX8.out.below hE1) (by omega) (by omega)).mono ?_;rintro e wf ⟨rfl,hbf⟩)
     have hE2:=Below.trans hE1 (hbf.mono hE1.size)
     rw [HSG2.out]
     refine hK.out _ _ (HT2.out _ hE2) (fun hHeld2=>?_)
     clear hK K hHeld1
     try simp only [Act.put,tA,cZ,cS]
     refine tk 5 28 (by assumption) ?_
     try simp only [Act.put,tA,cZ,cS]
     refine wpAnyH_done (by kernel_rfl) ?_ _
     have hEf:=hE2
     have HBf:=Hd (HB8.out.below hEf)
     have HV8f:=Hd (HV8.out.below hEf)
     have hBRf:=hBRt.trans (hEf.mono hBRt.size)
     obtain ⟨t1,t2,-,-,-⟩:=HT2.out _ hEf
     by_cases hc:(r + 2 ^ i) * (r + 2 ^ i) <= x
     ·have hs:sg <= 0:=by rw [<- HSG2.out];exact cmp_le hc
      obtain ⟨s1,s2,hv10,hb10⟩:=HBf.out.set HV8f.out
      obtain ⟨g7,A7,n7,c7,c17,c27,f17,f27,hlt7,_⟩:=HBf.out
      have hBRs:=(hBRf.setCell (p:=⟨w2.heap.size,0,none⟩) (Nat.le_refl _) (.bool g8)).setCell (p:=⟨w2.heap.size,1,none⟩) (Nat.le_refl _) (.slice A8 n8 d8)
      have HR':=Hd (HR.out.high hc)
      have HB10:=Hd hb10
      clear hb10 hv10 s1 s2 hc
      go_wp2_with fail
      exact ⟨⟨i,_,by go_num,by omega,HR',HB10,hBRs⟩,by simp [intOf]⟩
     ·have hs:¬ sg <= 0:=by rw [<- HSG2.out];exact cmp_gt (by omega)
      have HR':=Hd (HR.out.low (by omega))
      have HB10:=Hd (HBf.out.mono (show 64 + (J - (i + 1)) <= 64 + (J - i) by omega))
      clear hc
      go_wp2_with fail
      exact ⟨⟨i,_,by go_num,by omega,HR',HB10,hBRf⟩,by simp [intOf]⟩
    ·try simp only [gA,gZ,gS]
     go_simp
     have hBl:=hBa.alloc hBa.size (.cells #[.bool false,.slice none 0 0] 34)
     have hbl:=below_alloc wa (.cells #[.bool false,.slice none 0 0] 34)
     have HRMl:=Hd (show RoomAt (wa.alloc (.cells #[.bool false,.slice none 0 0] 34)) wa.heap.size from alloc_room31 wa)
     have hge:wr.heap.size <= wa.heap.size:=hBa.size
     have HV1l:=Hd (HV1.out.below hbl)
     refine hK.out _ _ (HT.out _ hBl) (fun hH=>?_)
     clear hK K
     try simp only [Act.put,tA,cZ,cS]
     refine rd 3 (AllReadyH.cons rfl (fun K hK=>?_) AllReadyH.nil)
     try simp only [gA,gZ,gS]
     go_simp
     (go_at_call 86;refine (radd_any _ _ r (2 ^ i) (64 + (J - (i + 1))) (i / 16 + 1) _ (HV.out.below hBl) HV1l.out (by omega) (by omega)).mono ?_;rintro e wc ⟨⟨ng3,A3,n3,d3,rfl,hv3⟩,hbc⟩)
     have HV3:=Hd (hv3.mono (show max (64 + (J - (i + 1))) (i / 16 + 1) + 1 <= 64 + (J - i) by omega))
     clear hv3
     have hBc:=Below.trans hBl (hbc.mono hBl.size)
     have HRM1:=Hd (HRMl.out.below hbc)
     refine hK.out _ _ (HT.out _ hBc) (fun hH=>?_)
     clear hK K
     try simp only [Act.put,tA,cZ,cS]
     refine rd 5 (AllReadyH.cons rfl (fun K hK=>?_) AllReadyH.nil)
     try simp only [gA,gZ,gS]
     obtain ⟨⟨rm0,rm1,rm2,rm3⟩,rmz⟩:=HRM1.out
     go_simp
     have hBs:=(hBc.setCell (p:=⟨wa.heap.size,0,none⟩) hge (.bool ng3)).setCell (p:=⟨wa.heap.size,1,none⟩) hge (.slice A3 n3 d3)
     have hnew:RBox ((wc.setCell ⟨wa.heap.size,0,none⟩ (.bool ng3)).setCell ⟨wa.heap.size,1,none⟩ (.slice A3 n3 d3)) wa.heap.size (r + 2 ^ i) (64 + (J - i)):=((HRM1.out.rbox (L:=0)).set HV3.out).2.2.2
     refine hK.out _ _ (HT.out _ hBs) (fun hHeldS=>?_)
     clear hK K
     try simp only [Act.put,tA,cZ,cS]
     refine wpAnyH_done (by kernel_rfl) ?_ _
     generalize ((wc.setCell ⟨wa.heap.size,0,none⟩ (.bool ng3)).setCell ⟨wa.heap.size,1,none⟩ (.slice A3 n3 d3)) = wt at *
     have HNB:=Hd hnew
     obtain ⟨g8,A8,n8,d8,q1,q2,q3,q4,q5,hv8⟩:=hnew
     have HV8:=Hd hv8
     have hxs:w.heap.size < wr.heap.size:=by have:=hBW.size;simp at this;omega
     have k0':=(hBs.cell (p:=⟨w.heap.size,0,none⟩) hxs).trans k0
     have k1':=(hBs.cell (p:=⟨w.heap.size,1,none⟩) hxs).trans k1
     have HX8:=Hd (HXr.out.below hBs)
     have HB8:=Hd (HB.out.below hBs)
     have hBRt:=hBR.trans (hBs.mono hBR.size)
     clear hv8 q3 q4 HT k0 k1
     go_wp2_with fail
     obtain ⟨sg,hsg⟩ : ∃ sg,cmpI ((r + 2 ^ i) * (r + 2 ^ i)) x = sg:=⟨_,rfl⟩
     have HSG2:=Hd hsg
     have hxt:=Nat.lt_of_lt_of_le hxs hBs.size
     have HT2:=Hd (fun (w':World) (hb:Below wt.heap.size wt w')=>show w'.cell? ⟨wa.heap.size,0,none⟩ = some (.bool g8) /\ w'.cell? ⟨wa.heap.size,1,none⟩ = some (.slice A8 n8 d8) /\ w'.cell? ⟨w.heap.size,0,none⟩ = some (.bool p) /\ w'.cell? ⟨w.heap.size,1,none⟩ = some (.slice A m c) /\ Below wt.heap.size wt w' from ⟨(hb.cell (p:=⟨wa.heap.size,0,none⟩) q5).trans q1,(hb.cell (p:=⟨wa.heap.size,1,none⟩) q5).trans q2,(hb.cell (p:=⟨w.heap.size,0,none⟩) hxt).trans k0',(hb.cell (p:=⟨w.heap.size,1,none⟩) hxt).trans k1',hb⟩)
     have hE0:=(Below.refl wt.heap.size wt).drew
     clear hsg q1 q2 k0' k1'
     refine wp_region_held_drew (S:=fun w'=>w'.cell? ⟨wa.heap.size,0,none⟩ = some (.bool g8) /\ w'.cell? ⟨wa.heap.size,1,none⟩ = some (.slice A8 n8 d8) /\ w'.cell? ⟨w.heap.size,0,none⟩ = some (.bool p) /\ w'.cell? ⟨w.heap.size,1,none⟩ = some (.slice A m c) /\ Below wt.heap.size wt w') (by kernel_rfl) (HT2.out _ hE0) (fun hHeld0=>?_)
     refine tk 0 23 (by assumption) ?_
     try simp only [Act.put,tA,cZ,cS]
     refine tk 1 24 (by assumption) ?_
     try simp only [Act.put,tA,cZ,cS]
     refine tk 3 26 (by assumption) ?_
     try simp only [Act.put,tA,cZ,cS]
     refine rd 2 (AllReadyH.cons rfl (fun K hK=>?_) AllReadyH.nil)
     try simp only [gA,gZ,gS]
     go_simp
     (go_at_call 90;refine (rMul_any _ _ (r + 2 ^ i) (r + 2 ^ i) (64 + (J - i)) (64 + (J - i)) _ (HV8.out.below hE0) (HV8.out.below hE0) (by omega) (by omega)).mono ?_;rintro e we ⟨⟨ng9,A9,n9,d9,rfl,hv9⟩,hbe⟩)
     have HV9:=Hd hv9
     clear hv9
     have hE1:=Below.trans hE0 (hbe.mono hE0.size)
     refine hK.out _ _ (HT2.out _ hE1) (fun hHeld1=>?_)
     clear hK K hHeld0
     try simp only [Act.put,tA,cZ,cS]
     refine rd 4 (AllReadyH.cons rfl (fun K hK=>?_) AllReadyH.nil)
     try simp only [gA,gZ,gS]
     go_simp
     (go_at_call 83;refine (rcmp_any _ _ ((r + 2 ^ i) * (r + 2 ^ i)) x ((64 + (J - i)) + (64 + (J - i)) + 1) L _ HV9.out (HX8.out.below hE1) (by omega) (by omega)).mono ?_;rintro e wf ⟨rfl,hbf⟩)
     have hE2:=Below.trans hE1 (hbf.mono hE1.size)
     rw [HSG2.out]
     refine hK.out _ _ (HT2.out _ hE2) (fun hHeld2=>?_)
     clear hK K hHeld1
     try simp only [Act.put,tA,cZ,cS]
     refine tk 5 28 (by assumption) ?_
     try simp only [Act.put,tA,cZ,cS]
     refine wpAnyH_done (by kernel_rfl) ?_ _
     have hEf:=hE2
     have HBf:=Hd (HB8.out.below hEf)
     have HV8f:=Hd (HV8.out.below hEf)
     have hBRf:=hBRt.trans (hEf.mono hBRt.size)
     obtain ⟨t1,t2,-,-,-⟩:=HT2.out _ hEf
     by_cases hc:(r + 2 ^ i) * (r + 2 ^ i) <= x
     ·have hs:sg <= 0:=by rw [<- HSG2.out];exact cmp_le hc
      obtain ⟨s1,s2,hv10,hb10⟩:=HBf.out.set HV8f.out
      obtain ⟨g7,A7,n7,c7,c17,c27,f17,f27,hlt7,_⟩:=HBf.out
      have hBRs:=(hBRf.setCell (p:=⟨w2.heap.size,0,none⟩) (Nat.le_refl _) (.bool g8)).setCell (p:=⟨w2.heap.size,1,none⟩) (Nat.le_refl _) (.slice A8 n8 d8)
      have HR':=Hd (HR.out.high hc)
      have HB10:=Hd hb10
      clear hb10 hv10 s1 s2 hc
      go_wp2_with fail
      exact ⟨⟨i,_,by go_num,by omega,HR',HB10,hBRs⟩,by simp [intOf]⟩
     ·have hs:¬ sg <= 0:=by rw [<- HSG2.out];exact cmp_gt (by omega)
      have HR':=Hd (HR.out.low (by omega))
      have HB10:=Hd (HBf.out.mono (show 64 + (J - (i + 1)) <= 64 + (J - i) by omega))
      clear hc
      go_wp2_with fail
      exact ⟨⟨i,_,by go_num,by omega,HR',HB10,hBRf⟩,by simp [intOf]⟩
   ·try simp only [gA,gZ,gS]
    go_simp
    have hBl:=hBr0.alloc hBr0.size (.cells #[.bool false,.slice none 0 0] 34)
    have hbl:=below_alloc wr.drew (.cells #[.bool false,.slice none 0 0] 34)
    have HRMl:=Hd (show RoomAt (wr.drew.alloc (.cells #[.bool false,.slice none 0 0] 34)) wr.heap.size from alloc_room31 wr.drew)
    have hge:wr.heap.size <= wr.heap.size:=hBr0.size
    refine hK.out _ _ (HT.out _ hBl) (fun hH=>?_)
    clear hK K
    try simp only [Act.put,tA,cZ,cS]
    refine rd 2 (AllReadyH.cons rfl (fun K hK=>?_) AllReadyH.nil)
    try simp only [gA,gZ,gS]
    go_simp
    (go_at_call 134;refine (rTwo_any _ i rfl _ (by omega)).mono ?_;rintro e wa ⟨⟨ng1,A4,n4,d4,rfl,hv1⟩,hba⟩)
    have HV1:=Hd hv1
    clear hv1
    have hBa:=Below.trans hBl (hba.mono hBl.size)
    have HRM0:=Hd (HRMl.out.below hba)
    refine hK.out _ _ (HT.out _ hBa) (fun hH=>?_)
    clear hK K
    try simp only [Act.put,tA,cZ,cS]
    refine rd 3 (AllReadyH.cons rfl (fun K hK=>?_) AllReadyH.nil)
    try simp only [gA,gZ,gS]
    go_simp
    (go_at_call 86;refine (radd_any _ _ r (2 ^ i) (64 + (J - (i + 1))) (i / 16 + 1) _ (HV.out.below hBa) HV1.out (by omega) (by omega)).mono ?_;rintro e wc ⟨⟨ng3,A3,n3,d3,rfl,hv3⟩,hbc⟩)
    have HV3:=Hd (hv3.mono (show max (64 + (J - (i + 1))) (i / 16 + 1) + 1 <= 64 + (J - i) by omega))
    clear hv3
    have hBc:=Below.trans hBa (hbc.mono hBa.size)
    have HRM1:=Hd (HRM0.out.below hbc)
    refine hK.out _ _ (HT.out _ hBc) (fun hH=>?_)
    clear hK K
    try simp only [Act.put,tA,cZ,cS]
    refine rd 5 (AllReadyH.cons rfl (fun K hK=>?_) AllReadyH.nil)
    try simp only [gA,gZ,gS]
    obtain ⟨⟨rm0,rm1,rm2,rm3⟩,rmz⟩:=HRM1.out
    go_simp
    have hBs:=(hBc.setCell (p:=⟨wr.heap.size,0,none⟩) hge (.bool ng3)).setCell (p:=⟨wr.heap.size,1,none⟩) hge (.slice A3 n3 d3)
    have hnew:RBox ((wc.setCell ⟨wr.heap.size,0,none⟩ (.bool ng3)).setCell ⟨wr.heap.size,1,none⟩ (.slice A3 n3 d3)) wr.heap.size (r + 2 ^ i) (64 + (J - i)):=((HRM1.out.rbox (L:=0)).set HV3.out).2.2.2
    refine hK.out _ _ (HT.out _ hBs) (fun hHeldS=>?_)
    clear hK K
    try simp only [Act.put,tA,cZ,cS]
    refine wpAnyH_done (by kernel_rfl) ?_ _
    generalize ((wc.setCell ⟨wr.heap.size,0,none⟩ (.bool ng3)).setCell ⟨wr.heap.size,1,none⟩ (.slice A3 n3 d3)) = wt at *
    have HNB:=Hd hnew
    obtain ⟨g8,A8,n8,d8,q1,q2,q3,q4,q5,hv8⟩:=hnew
    have HV8:=Hd hv8
    have hxs:w.heap.size < wr.heap.size:=by have:=hBW.size;simp at this;omega
    have k0':=(hBs.cell (p:=⟨w.heap.size,0,none⟩) hxs).trans k0
    have k1':=(hBs.cell (p:=⟨w.heap.size,1,none⟩) hxs).trans k1
    have HX8:=Hd (HXr.out.below hBs)
    have HB8:=Hd (HB.out.below hBs)
    have hBRt:=hBR.trans (hBs.mono hBR.size)
    clear hv8 q3 q4 HT k0 k1
    go_wp2_with fail
    obtain ⟨sg,hsg⟩ : ∃ sg,cmpI ((r + 2 ^ i) * (r + 2 ^ i)) x = sg:=⟨_,rfl⟩
    have HSG2:=Hd hsg
    have hxt:=Nat.lt_of_lt_of_le hxs hBs.size
    have HT2:=Hd (fun (w':World) (hb:Below wt.heap.size wt w')=>show w'.cell? ⟨wr.heap.size,0,none⟩ = some (.bool g8) /\ w'.cell? ⟨wr.heap.size,1,none⟩ = some (.slice A8 n8 d8) /\ w'.cell? ⟨w.heap.size,0,none⟩ = some (.bool p) /\ w'.cell? ⟨w.heap.size,1,none⟩ = some (.slice A m c) /\ Below wt.heap.size wt w' from ⟨(hb.cell (p:=⟨wr.heap.size,0,none⟩) q5).trans q1,(hb.cell (p:=⟨wr.heap.size,1,none⟩) q5).trans q2,(hb.cell (p:=⟨w.heap.size,0,none⟩) hxt).trans k0',(hb.cell (p:=⟨w.heap.size,1,none⟩) hxt).trans k1',hb⟩)
    have hE0:=(Below.refl wt.heap.size wt).drew
    clear hsg q1 q2 k0' k1'
    refine wp_region_held_drew (S:=fun w'=>w'.cell? ⟨wr.heap.size,0,none⟩ = some (.bool g8) /\ w'.cell? ⟨wr.heap.size,1,none⟩ = some (.slice A8 n8 d8) /\ w'.cell? ⟨w.heap.size,0,none⟩ = some (.bool p) /\ w'.cell? ⟨w.heap.size,1,none⟩ = some (.slice A m c) /\ Below wt.heap.size wt w') (by kernel_rfl) (HT2.out _ hE0) (fun hHeld0=>?_)
    refine tk 0 23 (by assumption) ?_
    try simp only [Act.put,tA,cZ,cS]
    refine tk 1 24 (by assumption) ?_
    try simp only [Act.put,tA,cZ,cS]
    refine tk 3 26 (by assumption) ?_
    try simp only [Act.put,tA,cZ,cS]
    refine rd 2 (AllReadyH.cons rfl (fun K hK=>?_) AllReadyH.nil)
    try simp only [gA,gZ,gS]
    go_simp
    (go_at_call 90;refine (rMul_any _ _ (r + 2 ^ i) (r + 2 ^ i) (64 + (J - i)) (64 + (J - i)) _ (HV8.out.below hE0) (HV8.out.below hE0) (by omega) (by omega)).mono ?_;rintro e we ⟨⟨ng9,A9,n9,d9,rfl,hv9⟩,hbe⟩)
    have HV9:=Hd hv9
    clear hv9
    have hE1:=Below.trans hE0 (hbe.mono hE0.size)
    refine hK.out _ _ (HT2.out _ hE1) (fun hHeld1=>?_)
    clear hK K hHeld0
    try simp only [Act.put,tA,cZ,cS]
    refine rd 4 (AllReadyH.cons rfl (fun K hK=>?_) AllReadyH.nil)
    try simp only [gA,gZ,gS]
    go_simp
    (go_at_call 83;refine (rcmp_any _ _ ((r + 2 ^ i) * (r + 2 ^ i)) x ((64 + (J - i)) + (64 + (J - i)) + 1) L _ HV9.out (HX8.out.below hE1) (by omega) (by omega)).mono ?_;rintro e wf ⟨rfl,hbf⟩)
    have hE2:=Below.trans hE1 (hbf.mono hE1.size)
    rw [HSG2.out]
    refine hK.out _ _ (HT2.out _ hE2) (fun hHeld2=>?_)
    clear hK K hHeld1
    try simp only [Act.put,tA,cZ,cS]
    refine tk 5 28 (by assumption) ?_
    try simp only [Act.put,tA,cZ,cS]
    refine wpAnyH_done (by kernel_rfl) ?_ _
    have hEf:=hE2
    have HBf:=Hd (HB8.out.below hEf)
    have HV8f:=Hd (HV8.out.below hEf)
    have hBRf:=hBRt.trans (hEf.mono hBRt.size)
    obtain ⟨t1,t2,-,-,-⟩:=HT2.out _ hEf
    by_cases hc:(r + 2 ^ i) * (r + 2 ^ i) <= x
    ·have hs:sg <= 0:=by rw [<- HSG2.out];exact cmp_le hc
     obtain ⟨s1,s2,hv10,hb10⟩:=HBf.out.set HV8f.out
     obtain ⟨g7,A7,n7,c7,c17,c27,f17,f27,hlt7,_⟩:=HBf.out
     have hBRs:=(hBRf.setCell (p:=⟨w2.heap.size,0,none⟩) (Nat.le_refl _) (.bool g8)).setCell (p:=⟨w2.heap.size,1,none⟩) (Nat.le_refl _) (.slice A8 n8 d8)
     have HR':=Hd (HR.out.high hc)
     have HB10:=Hd hb10
     clear hb10 hv10 s1 s2 hc
     go_wp2_with fail
     exact ⟨⟨i,_,by go_num,by omega,HR',HB10,hBRs⟩,by simp [intOf]⟩
    ·have hs:¬ sg <= 0:=by rw [<- HSG2.out];exact cmp_gt (by omega)
     have HR':=Hd (HR.out.low (by omega))
     have HB10:=Hd (HBf.out.mono (show 64 + (J - (i + 1)) <= 64 + (J - i) by omega))
     clear hc
     go_wp2_with fail
     exact ⟨⟨i,_,by go_num,by omega,HR',HB10,hBRf⟩,by simp [intOf]⟩
open Go.RowKit LM
theorem four_le (x m:Int) : 4 * (x * m) <= (x + m) * (x + m):=by
 have h:0 <= (x - m) * (x - m):=by
  rcases Int.le_total 0 (x - m) with h | h
  ·exact Int.mul_nonneg h h
  ·exact Int.mul_nonneg_of_nonpos_of_nonpos h h
 simp only [Int.add_mul,Int.mul_add,Int.sub_mul,Int.mul_sub] at *
 rw [Int.mul_comm m x] at *
 generalize x * x = a at *
 generalize x * m = b at *
 generalize m * m = c at *
 omega
theorem newton_low {a x:Int} (ha:0 <= a) (hx:0 < x) {y:Int} (hy:y = (x + a / x) / 2) : a < (y + 1) * (y + 1):=by
 have h1:=Int.lt_ediv_add_one_mul_self a hx
 have hq:0 <= a / x:=Int.ediv_nonneg ha (by omega)
 obtain ⟨m,hm⟩ : ∃ m,a / x + 1 = m:=⟨_,rfl⟩
 rw [hm,Int.mul_comm] at h1
 have h2:=four_le x m
 have h3:x + m <= 2 * (y + 1):=by omega
 have h4:(x + m) * (x + m) <= (2 * (y + 1)) * (2 * (y + 1)):=Int.mul_le_mul h3 h3 (by omega) (by omega)
 have h5:(2 * (y + 1)) * (2 * (y + 1)) = 4 * ((y + 1) * (y + 1)):=by
  rw [Int.mul_assoc,Int.mul_left_comm (y + 1) 2,<- Int.mul_assoc];rfl
 rw [h5] at h4
 generalize (y + 1) * (y + 1) = s at *
 generalize x * m = u at *
 generalize (x + m) * (x + m) = v at *
 omega
theorem newton_done {a x:Int} (_ha:0 <= a) (hx:0 < x) (hl:a < (x + 1) * (x + 1)) (hy:x <= (x + a / x) / 2) : IsRoot a x:=by
 refine ⟨by omega,?_,hl⟩
 have hq:x <= a / x:=by omega
 have h1:x * x <= a / x * x:=Int.mul_le_mul_of_nonneg_right hq (by omega)
 exact Int.le_trans h1 (Int.ediv_mul_le a (by omega))
theorem newton_start {a:Int} {k:Nat} (ha:a < 2 ^ k) : a < (2 ^ ((k + 1) / 2) + 1) * (2 ^ ((k + 1) / 2) + 1):=by
 have h1:=two_mono (show k <= (k + 1) / 2 + (k + 1) / 2 by omega)
 rw [Int.pow_add] at h1
 have h2:=two_pos ((k + 1) / 2)
 generalize (2:Int) ^ ((k + 1) / 2) = s at *
 rw [Int.add_mul,Int.mul_add]
 omega
end Go.Proofs.YtbajnceoolkckaaGreat
