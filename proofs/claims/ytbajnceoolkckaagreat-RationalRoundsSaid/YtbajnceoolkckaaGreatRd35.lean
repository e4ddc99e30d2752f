/- Of the proof of RationalRounds: RatQv. -/
import Derived.Test.YtbajnceoolkckaaGreatRd34
open List renaming getElem_toArray → gA, getElem_cons_succ → gS, getElem_cons_zero → gZ, setIfInBounds_toArray → tA, set_cons_zero → cZ, set_cons_succ → cS
open Go.Lib renaming hid → Hd
set_option maxRecDepth 100000
set_option maxHeartbeats 16000000
namespace Go.Proofs.YtbajnceoolkckaaGreat
open Go.RowKit LM
theorem Fx.other4 {w:World} {b c:Nat} {u0 u1:Value} (h:Fx w b u0 u1) (hne:c ≠ b) (x0 x1 x2 x3:Value) : (put4 w c x0 x1 x2 x3).cell? ⟨b,0,none⟩ = some u0 /\ (put4 w c x0 x1 x2 x3).cell? ⟨b,1,none⟩ = some u1:=
 ⟨(cell_put4 hne _ _ _ _).trans h.1,(cell_put4 hne _ _ _ _).trans h.2.1⟩
theorem four_q (w:World) (v0 v1 v2 v3 u0 u1 u2 u3:Value) :
  Below w.heap.size w ((((w.alloc (.cells #[v0,v1,v2,v3] 38)).alloc (.cells #[u0,u1,u2,u3] 38)).alloc (.cells #[.bool false,.slice none 0 0] 31)).alloc (.cells #[.bool false,.slice none 0 0,.bool false,.slice none 0 0] 38)) /\
  Fx4 ((((w.alloc (.cells #[v0,v1,v2,v3] 38)).alloc (.cells #[u0,u1,u2,u3] 38)).alloc (.cells #[.bool false,.slice none 0 0] 31)).alloc (.cells #[.bool false,.slice none 0 0,.bool false,.slice none 0 0] 38)) w.heap.size v0 v1 v2 v3 /\
  Fx4 ((((w.alloc (.cells #[v0,v1,v2,v3] 38)).alloc (.cells #[u0,u1,u2,u3] 38)).alloc (.cells #[.bool false,.slice none 0 0] 31)).alloc (.cells #[.bool false,.slice none 0 0,.bool false,.slice none 0 0] 38)) (w.heap.size + 1) u0 u1 u2 u3 /\
  Fx ((((w.alloc (.cells #[v0,v1,v2,v3] 38)).alloc (.cells #[u0,u1,u2,u3] 38)).alloc (.cells #[.bool false,.slice none 0 0] 31)).alloc (.cells #[.bool false,.slice none 0 0,.bool false,.slice none 0 0] 38)) (w.heap.size + 1 + 1) (.bool false) (.slice none 0 0) /\
  Fx4 ((((w.alloc (.cells #[v0,v1,v2,v3] 38)).alloc (.cells #[u0,u1,u2,u3] 38)).alloc (.cells #[.bool false,.slice none 0 0] 31)).alloc (.cells #[.bool false,.slice none 0 0,.bool false,.slice none 0 0] 38)) (w.heap.size + 1 + 1 + 1) (.bool false) (.slice none 0 0) (.bool false) (.slice none 0 0):=by
 have h1:=Fx4.new w v0 v1 v2 v3 38
 have b1:=below_alloc w (.cells #[v0,v1,v2,v3] 38)
 have z1:(w.alloc (.cells #[v0,v1,v2,v3] 38)).heap.size = w.heap.size + 1:=by simp
 generalize w.alloc (.cells #[v0,v1,v2,v3] 38) = w1 at *
 have h2:=Fx4.new w1 u0 u1 u2 u3 38
 have b2:=below_alloc w1 (.cells #[u0,u1,u2,u3] 38)
 have z2:(w1.alloc (.cells #[u0,u1,u2,u3] 38)).heap.size = w.heap.size + 1 + 1:=by simp [z1]
 rw [z1] at h2
 generalize w1.alloc (.cells #[u0,u1,u2,u3] 38) = w2 at *
 have h3:=Fx.new w2 (.bool false) (.slice none 0 0) 31
 have b3:=below_alloc w2 (.cells #[.bool false,.slice none 0 0] 31)
 have z3:(w2.alloc (.cells #[.bool false,.slice none 0 0] 31)).heap.size = w.heap.size + 1 + 1 + 1:=by simp [z2]
 rw [z2] at h3
 generalize w2.alloc (.cells #[.bool false,.slice none 0 0] 31) = w3 at *
 have h4:=Fx4.new w3 (.bool false) (.slice none 0 0) (.bool false) (.slice none 0 0) 38
 have b4:=below_alloc w3 (.cells #[.bool false,.slice none 0 0,.bool false,.slice none 0 0] 38)
 rw [z3] at h4
 exact ⟨((b1.trans (b2.mono b1.size)).trans (b3.mono (b1.trans (b2.mono b1.size)).size)).trans (b4.mono ((b1.trans (b2.mono b1.size)).trans (b3.mono (b1.trans (b2.mono b1.size)).size)).size),((h1.below b2).below b3).below b4,(h2.below b3).below b4,h3.below b4,h4⟩
def quE (way m:Int) : Int:=if way < 0 \/ 3 < way then 1 else if m = 0 then 6 else 0
def quQ (way n d m c:Int) : Int:=if quE way m = 0 then rdI way (upN (n * c) (m * d)) (upN (m * d) (m * d)) else 0
def quN (way n d m c:Int) : Int:=if quE way m = 0 then newN (n * c + -(quQ way n d m c * m) * d) (d * c) else 0
def quD (way n d m c:Int) : Int:=if quE way m = 0 then newD (n * c + -(quQ way n d m c * m) * d) (d * c) else 1
def QuoRes (L:Nat) (z n d err:Int) (w:World) (e:Ending) (w':World) : Prop:=
 (∃ g A n0 c0 g1 A1 n1 c1 g2 A2 n2 c2,e = .returned (.tuple #[.agg #[.bool g,.slice A n0 c0],.agg #[.bool g1,.slice A1 n1 c1,.bool g2,.slice A2 n2 c2],.int .i64 err]) /\ Ival w' (.agg #[.bool g,.slice A n0 c0]) z L /\ Rat w' (.agg #[.bool g1,.slice A1 n1 c1,.bool g2,.slice A2 n2 c2]) n d L) /\ Below w.heap.size w w'
theorem rem_math {n d m c q N1 D1 N D:Int} (hD:0 < D1) (h1:N1 * (c * 1) = (m * q) * D1) (h2:N * (d * D1) = (n * D1 - N1 * d) * D) : N * (d * c) = (n * c + -(q * m) * d) * D:=by
  apply Int.eq_of_mul_eq_mul_right (a:=D1) (by omega)
  have h3:N1 * c = m * q * D1:=by rw [<- h1,Int.mul_one]
  calc N * (d * c) * D1 = N * (d * D1) * c:=by grind
    _ = (n * D1 - N1 * d) * D * c:=by rw [h2]
    _ = (n * D1 * c - N1 * c * d) * D:=by grind
    _ = (n * D1 * c - m * q * D1 * d) * D:=by rw [h3]
    _ = (n * c + -(q * m) * d) * D * D1:=by grind
theorem Rat.put2x {w:World} {s:Value} {n0 d0:Int} {L:Nat} (h:Rat w s n0 d0 L) {b:Nat} {p:Bool} {A:Option Addr} {n c:Nat} (F:Fx w b (.bool p) (.slice A n c)) (x0 x1:Value) : Rat ((w.setCell ⟨b,0,none⟩ x0).setCell ⟨b,1,none⟩ x1) s n0 d0 L:=by
 obtain ⟨g1,A1,n1,c1,g2,A2,n2,c2,e,h1,h2,h3⟩:=h
 exact ⟨g1,A1,n1,c1,g2,A2,n2,c2,e,h1.fx F _ _,h2.fx F _ _,h3⟩
theorem qu_bad {way n d m c r:Int} (h:quE way m = r) (hr:r ≠ 0) : quE way m = r /\ quQ way n d m c = 0 /\ quN way n d m c = 0 /\ quD way n d m c = 1:=by
 have e0:quE way m ≠ 0:=by rw [h];exact hr
 exact ⟨h,if_neg e0,if_neg e0,if_neg e0⟩
theorem Quotient_q (way:Int) (u v:Value) (n d m c:Int) (L:Nat) (w:World) (h:Rat w u n d L) (g:Rat w v m c L) (hL:L <= 20000) (hL2:2 <= L) :
  Calls Tryz.prog 46 #[u,.int .i64 way,v] w (QuoRes (8 * L + 40) (quQ way n d m c) (quN way n d m c) (quD way n d m c) (quE way m) w):=by
 obtain ⟨g1,A1,n1,c1,e1,E1,m1,d1,rfl⟩:=h.form
 obtain ⟨g2,A2,n2,c2,e2,E2,m2,d2,rfl⟩:=g.form
 obtain ⟨hw,F3,F5,F6,F7⟩:=four_q w (.bool g1) (.slice A1 n1 c1) (.bool e1) (.slice E1 m1 d1) (.bool g2) (.slice A2 n2 c2) (.bool e2) (.slice E2 m2 d2)
 obtain ⟨W0,hW0⟩ : ∃ W0,((((w.alloc (.cells #[.bool g1,.slice A1 n1 c1,.bool e1,.slice E1 m1 d1] 38)).alloc (.cells #[.bool g2,.slice A2 n2 c2,.bool e2,.slice E2 m2 d2] 38)).alloc (.cells #[.bool false,.slice none 0 0] 31)).alloc (.cells #[.bool false,.slice none 0 0,.bool false,.slice none 0 0] 38)) = W0:=⟨_,rfl⟩
 rw [hW0] at hw F3 F5 F6 F7
 have B3:=Hd F3
 have B5:=Hd F5
 have BR:=Hd F6
 have BS:=Hd F7
 have X:=Hd (h.below hw)
 have Y:=Hd (g.below hw)
 clear F3 F5 F6 F7 h g
 go_enter Tryz.func46,Tryz.ntmps46
 go_upto_region 1 with fail
 clear hW0
 by_cases hlow:way < 0
 ·skip
  have HE:=Hd (qu_bad (n:=n) (d:=d) (c:=c) (show quE way m = 1 from if_pos (Or.inl hlow)) (by decide))
  go_upto_region 2 with fail
  clear hlow
  obtain ⟨r0,r1,r2,r3,r4⟩:=BR.out
  have RS:=BS.out.other2 (show w.heap.size + 1 + 1 ≠ w.heap.size + 1 + 1 + 1 by omega) (.bool false) (.slice none 0 0)
  obtain ⟨s0,s1,s2,s3,s4,s5,s6,s7,s8⟩:=RS
  obtain ⟨u0,u1,u2,u3,u4,u5,u6,u7,u8⟩:=BS.out
  go_wp2
  exact bodyPost_ret (v:=.tuple #[.agg #[.bool false,.slice none 0 0],.agg #[.bool false,.slice none 0 0,.bool false,.slice none 0 0],.int .i64 1]) (by simp [results,Tryz.results46,go_sem,r0,r1,s0,s1,s2,s3]) rfl ⟨⟨false,none,0,0,false,none,0,0,false,none,0,0,by rw [HE.out.1],by rw [HE.out.2.1];exact Ival.nought,by rw [HE.out.2.2.1,HE.out.2.2.2];exact ⟨_,_,_,_,_,_,_,_,rfl,Ival.nought,Ival.nought,by decide,by decide⟩⟩,(below_put4 ((hw.setCell (p:=⟨w.heap.size + 1 + 1,0,none⟩) (by show w.heap.size <= w.heap.size + 1 + 1;omega) _).setCell (p:=⟨w.heap.size + 1 + 1,1,none⟩) (by show w.heap.size <= w.heap.size + 1 + 1;omega) _) (by omega) _ _ _ _)⟩
 by_cases hhigh:3 < way
 ·skip
  have HE:=Hd (qu_bad (n:=n) (d:=d) (c:=c) (show quE way m = 1 from if_pos (Or.inr hhigh)) (by decide))
  go_upto_region 2 with fail
  clear hlow hhigh
  obtain ⟨r0,r1,r2,r3,r4⟩:=BR.out
  have RS:=BS.out.other2 (show w.heap.size + 1 + 1 ≠ w.heap.size + 1 + 1 + 1 by omega) (.bool false) (.slice none 0 0)
  obtain ⟨s0,s1,s2,s3,s4,s5,s6,s7,s8⟩:=RS
  obtain ⟨u0,u1,u2,u3,u4,u5,u6,u7,u8⟩:=BS.out
  go_wp2
  exact bodyPost_ret (v:=.tuple #[.agg #[.bool false,.slice none 0 0],.agg #[.bool false,.slice none 0 0,.bool false,.slice none 0 0],.int .i64 1]) (by simp [results,Tryz.results46,go_sem,r0,r1,s0,s1,s2,s3]) rfl ⟨⟨false,none,0,0,false,none,0,0,false,none,0,0,by rw [HE.out.1],by rw [HE.out.2.1];exact Ival.nought,by rw [HE.out.2.2.1,HE.out.2.2.2];exact ⟨_,_,_,_,_,_,_,_,rfl,Ival.nought,Ival.nought,by decide,by decide⟩⟩,(below_put4 ((hw.setCell (p:=⟨w.heap.size + 1 + 1,0,none⟩) (by show w.heap.size <= w.heap.size + 1 + 1;omega) _).setCell (p:=⟨w.heap.size + 1 + 1,1,none⟩) (by show w.heap.size <= w.heap.size + 1 + 1;omega) _) (by omega) _ _ _ _)⟩
 have HWY:=Hd (show 0 <= way /\ way <= 3 by omega)
 go_upto_region 3 with fail
 clear hlow hhigh
 obtain ⟨c50,c51,c52,c53,f50,f51,f52,f53,s5⟩:=B5.out
 go_wp2_with fail
 refine (Sign_any _ m c L _ Y.out).mono ?_
 rintro e w1 ⟨rfl,hb⟩
 clear c50 c51 c52 c53 f50 f51 f52 f53 s5
 replace B3:=Hd (B3.out.below hb)
 replace B5:=Hd (B5.out.below hb)
 replace BR:=Hd (BR.out.below hb)
 replace BS:=Hd (BS.out.below hb)
 replace X:=Hd (X.out.below hb)
 replace Y:=Hd (Y.out.below hb)
 replace hw:=hw.trans (hb.mono hw.size)
 clear hb
 by_cases hm:m = 0
 ·skip
  have hcm:cmpI m 0 = 0:=cmpI_eq hm
  rw [hcm]
  have HE:=Hd (qu_bad (way:=way) (n:=n) (d:=d) (c:=c) (show quE way m = 6 from (if_neg (by have:=HWY.out;omega)).trans (if_pos hm)) (by decide))
  clear hcm hm
  go_upto_region 4 with fail
  obtain ⟨r0,r1,r2,r3,r4⟩:=BR.out
  have RS:=BS.out.other2 (show w.heap.size + 1 + 1 ≠ w.heap.size + 1 + 1 + 1 by omega) (.bool false) (.slice none 0 0)
  obtain ⟨s0,s1,s2,s3,s4,s5,s6,s7,s8⟩:=RS
  obtain ⟨u0,u1,u2,u3,u4,u5,u6,u7,u8⟩:=BS.out
  go_wp2
  exact bodyPost_ret (v:=.tuple #[.agg #[.bool false,.slice none 0 0],.agg #[.bool false,.slice none 0 0,.bool false,.slice none 0 0],.int .i64 6]) (by simp [results,Tryz.results46,go_sem,r0,r1,s0,s1,s2,s3]) rfl ⟨⟨false,none,0,0,false,none,0,0,false,none,0,0,by rw [HE.out.1],by rw [HE.out.2.1];exact Ival.nought,by rw [HE.out.2.2.1,HE.out.2.2.2];exact ⟨_,_,_,_,_,_,_,_,rfl,Ival.nought,Ival.nought,by decide,by decide⟩⟩,(below_put4 ((hw.setCell (p:=⟨w.heap.size + 1 + 1,0,none⟩) (by show w.heap.size <= w.heap.size + 1 + 1;omega) _).setCell (p:=⟨w.heap.size + 1 + 1,1,none⟩) (by show w.heap.size <= w.heap.size + 1 + 1;omega) _) (by omega) _ _ _ _)⟩
 have hcm:(cmpI m 0 == 0) = false:=cmp_ne hm
 have HE:=Hd (show quE way m = 0 from (if_neg (by have:=HWY.out;omega)).trans (if_neg hm))
 have HDP:=Hd (And.intro X.out.d0 Y.out.d0)
 have HMD:=Hd (show m * d ≠ 0 from by intro e;have:=HDP.out.1;rcases Int.mul_eq_zero.1 e with h | h <;> omega)
 clear hm
 have HZ:=Hd (show w.heap.size + 1 + 1 + 1 < w1.heap.size from BS.out.lt)
 go_upto_region 5 with fail
 clear hcm
 go_cut [9] (fun va wx=>OneI w1 (rdI way (upN (n * c) (m * d)) (upN (m * d) (m * d))) (L + L + 5) va wx)
 case first=>
  have HT:=Hd (fun (w':World) (hb:Below w1.heap.size w1 w')=>(show w'.cell? ⟨w.heap.size,0,none⟩ = some (.bool g1) /\ w'.cell? ⟨w.heap.size,1,none⟩ = some (.slice A1 n1 c1) /\ w'.cell? ⟨w.heap.size,2,none⟩ = some (.bool e1) /\ w'.cell? ⟨w.heap.size,3,none⟩ = some (.slice E1 m1 d1) /\ w'.cell? ⟨(w.heap.size + 1),0,none⟩ = some (.bool g2) /\ w'.cell? ⟨(w.heap.size + 1),1,none⟩ = some (.slice A2 n2 c2) /\ w'.cell? ⟨(w.heap.size + 1),2,none⟩ = some (.bool e2) /\ w'.cell? ⟨(w.heap.size + 1),3,none⟩ = some (.slice E2 m2 d2) from ⟨(B3.out.below hb).c0,(B3.out.below hb).c1,(B3.out.below hb).c2,(B3.out.below hb).c3,(B5.out.below hb).c0,(B5.out.below hb).c1,(B5.out.below hb).c2,(B5.out.below hb).c3⟩))
  have hB:=(Below.refl w1.heap.size w1).drew
  replace X:=Hd (X.out.below hB)
  replace Y:=Hd (Y.out.below hB)
  refine wp_region_held_drew (S:=fun w'=>w'.cell? ⟨w.heap.size,0,none⟩ = some (.bool g1) /\ w'.cell? ⟨w.heap.size,1,none⟩ = some (.slice A1 n1 c1) /\ w'.cell? ⟨w.heap.size,2,none⟩ = some (.bool e1) /\ w'.cell? ⟨w.heap.size,3,none⟩ = some (.slice E1 m1 d1) /\ w'.cell? ⟨(w.heap.size + 1),0,none⟩ = some (.bool g2) /\ w'.cell? ⟨(w.heap.size + 1),1,none⟩ = some (.slice A2 n2 c2) /\ w'.cell? ⟨(w.heap.size + 1),2,none⟩ = some (.bool e2) /\ w'.cell? ⟨(w.heap.size + 1),3,none⟩ = some (.slice E2 m2 d2)) (by kernel_rfl) (HT.out _ hB) (fun hH=>?_)
  clear hH
  generalize w1.drew = wr0 at *
  refine tk 0 23 (by first | assumption | exact HT.out _ hB) ?_
  try simp only [Act.put,tA,cZ,cS]
  refine tk 1 24 (by first | assumption | exact HT.out _ hB) ?_
  try simp only [Act.put,tA,cZ,cS]
  refine tk 2 25 (by first | assumption | exact HT.out _ hB) ?_
  try simp only [Act.put,tA,cZ,cS]
  refine tk 4 27 (by first | assumption | exact HT.out _ hB) ?_
  try simp only [Act.put,tA,cZ,cS]
  refine tk 5 28 (by first | assumption | exact HT.out _ hB) ?_
  try simp only [Act.put,tA,cZ,cS]
  refine wpAnyH_ready (rs:=[3,8]) (by kernel_rfl) (by simp) ?_
  refine AllReadyH.cons rfl (fun K hK=>?_) (AllReadyH.cons rfl (fun K hK=>?_) AllReadyH.nil)
  ·(try simp only [gA]);(try simp only [gS]);(try simp only [gZ])
   go_simp
   (go_at_call 84;refine (over_any _ _ n d m c L _ X.out Y.out (by omega)).mono ?_;rintro e wc3 ⟨⟨gt1,At1,nt1,ct1,rfl,hz⟩,hb⟩)
   replace X:=Hd (X.out.below hb)
   replace Y:=Hd (Y.out.below hb)
   replace hB:=Below.trans hB (hb.mono hB.size)
   have T1:=Hd hz
   refine hK.out _ _ (HT.out _ hB) (fun hH=>?_)
   clear hK K hH
   try simp only [Act.put,tA,cZ,cS]
   clear hb hz
   refine wpAnyH_ready (rs:=[6,8]) (by kernel_rfl) (by simp) ?_
   refine AllReadyH.cons rfl (fun K hK=>?_) (AllReadyH.cons rfl (fun K hK=>?_) AllReadyH.nil)
   ·(try simp only [gA]);(try simp only [gS]);(try simp only [gZ])
    go_simp
    (go_at_call 84;refine (over_any _ _ m c n d L _ Y.out X.out (by omega)).mono ?_;rintro e wc6 ⟨⟨gt2,At2,nt2,ct2,rfl,hz⟩,hb⟩)
    replace X:=Hd (X.out.below hb)
    replace Y:=Hd (Y.out.below hb)
    replace T1:=Hd (T1.out.below hb)
    replace hB:=Below.trans hB (hb.mono hB.size)
    have T2:=Hd hz
    refine hK.out _ _ (HT.out _ hB) (fun hH=>?_)
    clear hK K hH
    try simp only [Act.put,tA,cZ,cS]
    clear hb hz
    refine wpAnyH_ready (rs:=[7,8]) (by kernel_rfl) (by simp) ?_
    refine AllReadyH.cons rfl (fun K hK=>?_) (AllReadyH.cons rfl (fun K hK=>?_) AllReadyH.nil)
    ·(try simp only [gA]);(try simp only [gS]);(try simp only [gZ])
     go_simp
     (go_at_call 100;refine (rounded_any way _ _ (n * c) (m * d) (L + L) _ T1.out T2.out (by omega) (by omega) HMD.out HWY.out).mono ?_;rintro e wc7 ⟨⟨gt3,At3,nt3,ct3,rfl,hz⟩,hb⟩)
     replace X:=Hd (X.out.below hb)
     replace Y:=Hd (Y.out.below hb)
     replace T1:=Hd (T1.out.below hb)
     replace T2:=Hd (T2.out.below hb)
     replace hB:=Below.trans hB (hb.mono hB.size)
     clear T1
     clear T2
     have T3:=Hd hz
     refine hK.out _ _ (HT.out _ hB) (fun hH=>?_)
     clear hK K hH
     try simp only [Act.put,tA,cZ,cS]
     clear hb hz
     refine rd 8 (AllReadyH.cons rfl (fun K hK=>?_) AllReadyH.nil)
     (try simp only [gA]);(try simp only [gS]);(try simp only [gZ])
     go_simp
     have hbl:=below_alloc wc7 (.cells #[.bool false,.slice none 0 0] 31)
     replace X:=Hd (X.out.below hbl)
     replace Y:=Hd (Y.out.below hbl)
     replace T3:=Hd (T3.out.below hbl)
     have F9:=Hd (Fx.new wc7 (.bool false) (.slice none 0 0) 31)
     have hge9:=hB.size
     replace hB:=hB.alloc hB.size (.cells #[.bool false,.slice none 0 0] 31)
     refine hK.out _ _ (HT.out _ hB) (fun hH=>?_)
     clear hK K hH
     try simp only [Act.put,tA,cZ,cS]
     clear hbl
     generalize wc7.alloc (.cells #[.bool false,.slice none 0 0] 31) = wa9 at *
     generalize wc7.heap.size = ba9 at *
     refine rd 9 (AllReadyH.cons rfl (fun K hK=>?_) AllReadyH.nil)
     (try simp only [gA]);(try simp only [gS]);(try simp only [gZ])
     obtain ⟨x0,x1,x2,x3,x4⟩:=F9.out
     go_simp
     have hBs:=(hB.setCell (p:=⟨ba9,0,none⟩) hge9 (.bool gt3)).setCell (p:=⟨ba9,1,none⟩) hge9 (.slice At3 nt3 ct3)
     replace X:=Hd (X.out.fx F9.out (.bool gt3) (.slice At3 nt3 ct3))
     replace Y:=Hd (Y.out.fx F9.out (.bool gt3) (.slice At3 nt3 ct3))
     replace T3:=Hd (T3.out.fx F9.out (.bool gt3) (.slice At3 nt3 ct3))
     replace F9:=Hd (F9.out.store (.bool gt3) (.slice At3 nt3 ct3))
     clear x0 x1 x2 x3 x4 hB
     refine hK.out _ _ (HT.out _ hBs) (fun hH=>?_)
     clear hK K hH
     try simp only [Act.put,tA,cZ,cS]
     generalize (wa9.setCell ⟨ba9,0,none⟩ (.bool gt3)).setCell ⟨ba9,1,none⟩ (.slice At3 nt3 ct3) = ws9 at *
     have hB:=hBs
     clear hBs
     refine wpAnyH_done (by kernel_rfl) ?_ _
     go_wp2_with fail
     go_meet
     exact ⟨ba9,_,_,_,_,rfl,F9.out,T3.out,hge9,hB⟩
    ·(try simp only [gA]);(try simp only [gS]);(try simp only [gZ])
     go_simp
     have hbl:=below_alloc wc6 (.cells #[.bool false,.slice none 0 0] 31)
     replace X:=Hd (X.out.below hbl)
     replace Y:=Hd (Y.out.below hbl)
     replace T1:=Hd (T1.out.below hbl)
     replace T2:=Hd (T2.out.below hbl)
     have F9:=Hd (Fx.new wc6 (.bool false) (.slice none 0 0) 31)
     have hge9:=hB.size
     replace hB:=hB.alloc hB.size (.cells #[.bool false,.slice none 0 0] 31)
     refine hK.out _ _ (HT.out _ hB) (fun hH=>?_)
     clear hK K hH
     try simp only [Act.put,tA,cZ,cS]
     clear hbl
     generalize wc6.alloc (.cells #[.bool false,.slice none 0 0] 31) = wa9 at *
     generalize wc6.heap.size = ba9 at *
     refine rd 7 (AllReadyH.cons rfl (fun K hK=>?_) AllReadyH.nil)
     (try simp only [gA]);(try simp only [gS]);(try simp only [gZ])
     go_simp
     (go_at_call 100;refine (rounded_any way _ _ (n * c) (m * d) (L + L) _ T1.out T2.out (by omega) (by omega) HMD.out HWY.out).mono ?_;rintro e wc7 ⟨⟨gt3,At3,nt3,ct3,rfl,hz⟩,hb⟩)
     replace F9:=Hd (F9.out.below hb)
     replace X:=Hd (X.out.below hb)
     replace Y:=Hd (Y.out.below hb)
     replace T1:=Hd (T1.out.below hb)
     replace T2:=Hd (T2.out.below hb)
     replace hB:=Below.trans hB (hb.mono hB.size)
     clear T1
     clear T2
     have T3:=Hd hz
     refine hK.out _ _ (HT.out _ hB) (fun hH=>?_)
     clear hK K hH
     try simp only [Act.put,tA,cZ,cS]
     clear hb hz
     refine rd 9 (AllReadyH.cons rfl (fun K hK=>?_) AllReadyH.nil)
     (try simp only [gA]);(try simp only [gS]);(try simp only [gZ])
     obtain ⟨x0,x1,x2,x3,x4⟩:=F9.out
     go_simp
     have hBs:=(hB.setCell (p:=⟨ba9,0,none⟩) hge9 (.bool gt3)).setCell (p:=⟨ba9,1,none⟩) hge9 (.slice At3 nt3 ct3)
     replace X:=Hd (X.out.fx F9.out (.bool gt3) (.slice At3 nt3 ct3))
     replace Y:=Hd (Y.out.fx F9.out (.bool gt3) (.slice At3 nt3 ct3))
     replace T3:=Hd (T3.out.fx F9.out (.bool gt3) (.slice At3 nt3 ct3))
     replace F9:=Hd (F9.out.store (.bool gt3) (.slice At3 nt3 ct3))
     clear x0 x1 x2 x3 x4 hB
     refine hK.out _ _ (HT.out _ hBs) (fun hH=>?_)
     clear hK K hH
     try simp only [Act.put,tA,cZ,cS]
     generalize (wc7.setCell ⟨ba9,0,none⟩ (.bool gt3)).setCell ⟨ba9,1,none⟩ (.slice At3 nt3 ct3) = ws9 at *
     have hB:=hBs
     clear hBs
     refine wpAnyH_done (by kernel_rfl) ?_ _
     go_wp2_with fail
     go_meet
     exact ⟨ba9,_,_,_,_,rfl,F9.out,T3.out,hge9,hB⟩
   ·(try simp only [gA]);(try simp only [gS]);(try simp only [gZ])
    go_simp
    have hbl:=below_alloc wc3 (.cells #[.bool false,.slice none 0 0] 31)
    replace X:=Hd (X.out.below hbl)
    replace Y:=Hd (Y.out.below hbl)
    replace T1:=Hd (T1.out.below hbl)
    have F9:=Hd (Fx.new wc3 (.bool false) (.slice none 0 0) 31)
    have hge9:=hB.size
    replace hB:=hB.alloc hB.size (.cells #[.bool false,.slice none 0 0] 31)
    refine hK.out _ _ (HT.out _ hB) (fun hH=>?_)
    clear hK K hH
    try simp only [Act.put,tA,cZ,cS]
    clear hbl
    generalize wc3.alloc (.cells #[.bool false,.slice none 0 0] 31) = wa9 at *
    generalize wc3.heap.size = ba9 at *
    refine rd 6 (AllReadyH.cons rfl (fun K hK=>?_) AllReadyH.nil)
    (try simp only [gA]);(try simp only [gS]);(try simp only [gZ])
    go_simp
    (go_at_call 84;refine (over_any _ _ m c n d L _ Y.out X.out (by omega)).mono ?_;rintro e wc6 ⟨⟨gt2,At2,nt2,ct2,rfl,hz⟩,hb⟩)
    replace F9:=Hd (F9.out.below hb)
    replace X:=Hd (X.out.below hb)
    replace Y:=Hd (Y.out.below hb)
    replace T1:=Hd (T1.out.below hb)
    replace hB:=Below.trans hB (hb.mono hB.size)
    have T2:=Hd hz
    refine hK.out _ _ (HT.out _ hB) (fun hH=>?_)
    clear hK K hH
    try simp only [Act.put,tA,cZ,cS]
    clear hb hz
    refine rd 7 (AllReadyH.cons rfl (fun K hK=>?_) AllReadyH.nil)
    (try simp only [gA]);(try simp only [gS]);(try simp only [gZ])
    go_simp
    (go_at_call 100;refine (rounded_any way _ _ (n * c) (m * d) (L + L) _ T1.out T2.out (by omega) (by omega) HMD.out HWY.out).mono ?_;rintro e wc7 ⟨⟨gt3,At3,nt3,ct3,rfl,hz⟩,hb⟩)
    replace F9:=Hd (F9.out.below hb)
    replace X:=Hd (X.out.below hb)
    replace Y:=Hd (Y.out.below hb)
    replace T1:=Hd (T1.out.below hb)
    replace T2:=Hd (T2.out.below hb)
    replace hB:=Below.trans hB (hb.mono hB.size)
    clear T1
    clear T2
    have T3:=Hd hz
    refine hK.out _ _ (HT.out _ hB) (fun hH=>?_)
    clear hK K hH
    try simp only [Act.put,tA,cZ,cS]
    clear hb hz
    refine rd 9 (AllReadyH.cons rfl (fun K hK=>?_) AllReadyH.nil)
    (try simp only [gA]);(try simp only [gS]);(try simp only [gZ])
    obtain ⟨x0,x1,x2,x3,x4⟩:=F9.out
    go_simp
    have hBs:=(hB.setCell (p:=⟨ba9,0,none⟩) hge9 (.bool gt3)).setCell (p:=⟨ba9,1,none⟩) hge9 (.slice At3 nt3 ct3)
    replace X:=Hd (X.out.fx F9.out (.bool gt3) (.slice At3 nt3 ct3))
    replace Y:=Hd (Y.out.fx F9.out (.bool gt3) (.slice At3 nt3 ct3))
    replace T3:=Hd (T3.out.fx F9.out (.bool gt3) (.slice At3 nt3 ct3))
    replace F9:=Hd (F9.out.store (.bool gt3) (.slice At3 nt3 ct3))
    clear x0 x1 x2 x3 x4 hB
    refine hK.out _ _ (HT.out _ hBs) (fun hH=>?_)
    clear hK K hH
    try simp only [Act.put,tA,cZ,cS]
    generalize (wc7.setCell ⟨ba9,0,none⟩ (.bool gt3)).setCell ⟨ba9,1,none⟩ (.slice At3 nt3 ct3) = ws9 at *
    have hB:=hBs
    clear hBs
    refine wpAnyH_done (by kernel_rfl) ?_ _
    go_wp2_with fail
    go_meet
    exact ⟨ba9,_,_,_,_,rfl,F9.out,T3.out,hge9,hB⟩
  ·(try simp only [gA]);(try simp only [gS]);(try simp only [gZ])
   go_simp
   have hbl:=below_alloc wr0 (.cells #[.bool false,.slice none 0 0] 31)
   replace X:=Hd (X.out.below hbl)
   replace Y:=Hd (Y.out.below hbl)
   have F9:=Hd (Fx.new wr0 (.bool false) (.slice none 0 0) 31)
   have hge9:=hB.size
   replace hB:=hB.alloc hB.size (.cells #[.bool false,.slice none 0 0] 31)
   refine hK.out _ _ (HT.out _ hB) (fun hH=>?_)
   clear hK K hH
   try simp only [Act.put,tA,cZ,cS]
   clear hbl
   generalize wr0.alloc (.cells #[.bool false,.slice none 0 0] 31) = wa9 at *
   generalize wr0.heap.size = ba9 at *
   refine rd 3 (AllReadyH.cons rfl (fun K hK=>?_) AllReadyH.nil)
   (try simp only [gA]);(try simp only [gS]);(try simp only [gZ])
   go_simp
   (go_at_call 84;refine (over_any _ _ n d m c L _ X.out Y.out (by omega)).mono ?_;rintro e wc3 ⟨⟨gt1,At1,nt1,ct1,rfl,hz⟩,hb⟩)
   replace F9:=Hd (F9.out.below hb)
   replace X:=Hd (X.out.below hb)
   replace Y:=Hd (Y.out.below hb)
   replace hB:=Below.trans hB (hb.mono hB.size)
   have T1:=Hd hz
   refine hK.out _ _ (HT.out _ hB) (fun hH=>?_)
   clear hK K hH
   try simp only [Act.put,tA,cZ,cS]
   clear hb hz
   refine rd 6 (AllReadyH.cons rfl (fun K hK=>?_) AllReadyH.nil)
   (try simp only [gA]);(try simp only [gS]);(try simp only [gZ])
   go_simp
   (go_at_call 84;refine (over_any _ _ m c n d L _ Y.out X.out (by omega)).mono ?_;rintro e wc6 ⟨⟨gt2,At2,nt2,ct2,rfl,hz⟩,hb⟩)
   replace F9:=Hd (F9.out.below hb)
   replace X:=Hd (X.out.below hb)
   replace Y:=Hd (Y.out.below hb)
   replace T1:=Hd (T1.out.below hb)
   replace hB:=Below.trans hB (hb.mono hB.size)
   have T2:=Hd hz
   refine hK.out _ _ (HT.out _ hB) (fun hH=>?_)
   clear hK K hH
   try simp only [Act.put,tA,cZ,cS]
   clear hb hz
   refine rd 7 (AllReadyH.cons rfl (fun K hK=>?_) AllReadyH.nil)
   (try simp only [gA]);(try simp only [gS]);(try simp only [gZ])
   go_simp
   (go_at_call 100;refine (rounded_any way _ _ (n * c) (m * d) (L + L) _ T1.out T2.out (by omega) (by omega) HMD.out HWY.out).mono ?_;rintro e wc7 ⟨⟨gt3,At3,nt3,ct3,rfl,hz⟩,hb⟩)
   replace F9:=Hd (F9.out.below hb)
   replace X:=Hd (X.out.below hb)
   replace Y:=Hd (Y.out.below hb)
   replace T1:=Hd (T1.out.below hb)
   replace T2:=Hd (T2.out.below hb)
   replace hB:=Below.trans hB (hb.mono hB.size)
   clear T1
   clear T2
   have T3:=Hd hz
   refine hK.out _ _ (HT.out _ hB) (fun hH=>?_)
   clear hK K hH
   try simp only [Act.put,tA,cZ,cS]
   clear hb hz
   refine rd 9 (AllReadyH.cons rfl (fun K hK=>?_) AllReadyH.nil)
   (try simp only [gA]);(try simp only [gS]);(try simp only [gZ])
   obtain ⟨x0,x1,x2,x3,x4⟩:=F9.out
   go_simp
   have hBs:=(hB.setCell (p:=⟨ba9,0,none⟩) hge9 (.bool gt3)).setCell (p:=⟨ba9,1,none⟩) hge9 (.slice At3 nt3 ct3)
   replace X:=Hd (X.out.fx F9.out (.bool gt3) (.slice At3 nt3 ct3))
   replace Y:=Hd (Y.out.fx F9.out (.bool gt3) (.slice At3 nt3 ct3))
   replace T3:=Hd (T3.out.fx F9.out (.bool gt3) (.slice At3 nt3 ct3))
   replace F9:=Hd (F9.out.store (.bool gt3) (.slice At3 nt3 ct3))
   clear x0 x1 x2 x3 x4 hB
   refine hK.out _ _ (HT.out _ hBs) (fun hH=>?_)
   clear hK K hH
   try simp only [Act.put,tA,cZ,cS]
   generalize (wc7.setCell ⟨ba9,0,none⟩ (.bool gt3)).setCell ⟨ba9,1,none⟩ (.slice At3 nt3 ct3) = ws9 at *
   have hB:=hBs
   clear hBs
   refine wpAnyH_done (by kernel_rfl) ?_ _
   go_wp2_with fail
   go_meet
   exact ⟨ba9,_,_,_,_,rfl,F9.out,T3.out,hge9,hB⟩
 case rest=>
  obtain ⟨k9,u9,a9,l9,o9,rfl,hf1,hv1,hq9,hb⟩:=hcut
  obtain ⟨w6,rfl⟩ : ∃ w6,w6 = wc:=⟨wc,rfl⟩
  have hsw6:=hb.size
  replace B3:=Hd (B3.out.below hb)
  replace B5:=Hd (B5.out.below hb)
  replace BR:=Hd (BR.out.below hb)
  replace BS:=Hd (BS.out.below hb)
  replace X:=Hd (X.out.below hb)
  replace Y:=Hd (Y.out.below hb)
  replace hw:=hw.trans (hb.mono hw.size)
  have B9:=Hd hf1
  have T3:=Hd hv1
  clear hf1 hv1 hb
  obtain ⟨QQ,hQQ⟩ : ∃ QQ,rdI way (upN (n * c) (m * d)) (upN (m * d) (m * d)) = QQ:=⟨_,rfl⟩
  rw [hQQ] at T3
  have HQ:=Hd (show quQ way n d m c = QQ from (if_pos HE.out).trans hQQ)
  clear hQQ HMD
  go_upto_region 6 with fail
  have HPB:=Hd (fun (w':World) (x0 x1 x2 x3:Value) (h:w'.cell? ⟨w.heap.size,0,none⟩ = some (.bool g1) /\ w'.cell? ⟨w.heap.size,1,none⟩ = some (.slice A1 n1 c1) /\ w'.cell? ⟨w.heap.size,2,none⟩ = some (.bool e1) /\ w'.cell? ⟨w.heap.size,3,none⟩ = some (.slice E1 m1 d1) /\ w'.cell? ⟨(w.heap.size + 1),0,none⟩ = some (.bool g2) /\ w'.cell? ⟨(w.heap.size + 1),1,none⟩ = some (.slice A2 n2 c2) /\ w'.cell? ⟨(w.heap.size + 1),2,none⟩ = some (.bool e2) /\ w'.cell? ⟨(w.heap.size + 1),3,none⟩ = some (.slice E2 m2 d2) /\ w'.cell? ⟨k9,0,none⟩ = some (.bool u9) /\ w'.cell? ⟨k9,1,none⟩ = some (.slice a9 l9 o9))=>(show (fun w'=>w'.cell? ⟨w.heap.size,0,none⟩ = some (.bool g1) /\ w'.cell? ⟨w.heap.size,1,none⟩ = some (.slice A1 n1 c1) /\ w'.cell? ⟨w.heap.size,2,none⟩ = some (.bool e1) /\ w'.cell? ⟨w.heap.size,3,none⟩ = some (.slice E1 m1 d1) /\ w'.cell? ⟨(w.heap.size + 1),0,none⟩ = some (.bool g2) /\ w'.cell? ⟨(w.heap.size + 1),1,none⟩ = some (.slice A2 n2 c2) /\ w'.cell? ⟨(w.heap.size + 1),2,none⟩ = some (.bool e2) /\ w'.cell? ⟨(w.heap.size + 1),3,none⟩ = some (.slice E2 m2 d2) /\ w'.cell? ⟨k9,0,none⟩ = some (.bool u9) /\ w'.cell? ⟨k9,1,none⟩ = some (.slice a9 l9 o9)) (put4 w' (w.heap.size + 1 + 1 + 1) x0 x1 x2 x3) from ⟨(cell_put4 (by have:=hq9;have:=HZ.out;omega) _ _ _ _).trans h.1,(cell_put4 (by have:=hq9;have:=HZ.out;omega) _ _ _ _).trans h.2.1,(cell_put4 (by have:=hq9;have:=HZ.out;omega) _ _ _ _).trans h.2.2.1,(cell_put4 (by have:=hq9;have:=HZ.out;omega) _ _ _ _).trans h.2.2.2.1,(cell_put4 (by have:=hq9;have:=HZ.out;omega) _ _ _ _).trans h.2.2.2.2.1,(cell_put4 (by have:=hq9;have:=HZ.out;omega) _ _ _ _).trans h.2.2.2.2.2.1,(cell_put4 (by have:=hq9;have:=HZ.out;omega) _ _ _ _).trans h.2.2.2.2.2.2.1,(cell_put4 (by have:=hq9;have:=HZ.out;omega) _ _ _ _).trans h.2.2.2.2.2.2.2.1,(cell_put4 (by have:=hq9;have:=HZ.out;omega) _ _ _ _).trans h.2.2.2.2.2.2.2.2.1,(cell_put4 (by have:=hq9;have:=HZ.out;omega) _ _ _ _).trans h.2.2.2.2.2.2.2.2.2⟩))
  have HT:=Hd (fun (w':World) (hb:Below w6.heap.size w6 w')=>(show w'.cell? ⟨w.heap.size,0,none⟩ = some (.bool g1) /\ w'.cell? ⟨w.heap.size,1,none⟩ = some (.slice A1 n1 c1) /\ w'.cell? ⟨w.heap.size,2,none⟩ = some (.bool e1) /\ w'.cell? ⟨w.heap.size,3,none⟩ = some (.slice E1 m1 d1) /\ w'.cell? ⟨(w.heap.size + 1),0,none⟩ = some (.bool g2) /\ w'.cell? ⟨(w.heap.size + 1),1,none⟩ = some (.slice A2 n2 c2) /\ w'.cell? ⟨(w.heap.size + 1),2,none⟩ = some (.bool e2) /\ w'.cell? ⟨(w.heap.size + 1),3,none⟩ = some (.slice E2 m2 d2) /\ w'.cell? ⟨k9,0,none⟩ = some (.bool u9) /\ w'.cell? ⟨k9,1,none⟩ = some (.slice a9 l9 o9) from ⟨(B3.out.below hb).c0,(B3.out.below hb).c1,(B3.out.below hb).c2,(B3.out.below hb).c3,(B5.out.below hb).c0,(B5.out.below hb).c1,(B5.out.below hb).c2,(B5.out.below hb).c3,(B9.out.below hb).1,(B9.out.below hb).2.1⟩))
  have HP:=Hd (fun (w':World) (x0 x1:Value) (h:w'.cell? ⟨w.heap.size,0,none⟩ = some (.bool g1) /\ w'.cell? ⟨w.heap.size,1,none⟩ = some (.slice A1 n1 c1) /\ w'.cell? ⟨w.heap.size,2,none⟩ = some (.bool e1) /\ w'.cell? ⟨w.heap.size,3,none⟩ = some (.slice E1 m1 d1) /\ w'.cell? ⟨(w.heap.size + 1),0,none⟩ = some (.bool g2) /\ w'.cell? ⟨(w.heap.size + 1),1,none⟩ = some (.slice A2 n2 c2) /\ w'.cell? ⟨(w.heap.size + 1),2,none⟩ = some (.bool e2) /\ w'.cell? ⟨(w.heap.size + 1),3,none⟩ = some (.slice E2 m2 d2) /\ w'.cell? ⟨k9,0,none⟩ = some (.bool u9) /\ w'.cell? ⟨k9,1,none⟩ = some (.slice a9 l9 o9))=>(show (fun w'=>w'.cell? ⟨w.heap.size,0,none⟩ = some (.bool g1) /\ w'.cell? ⟨w.heap.size,1,none⟩ = some (.slice A1 n1 c1) /\ w'.cell? ⟨w.heap.size,2,none⟩ = some (.bool e1) /\ w'.cell? ⟨w.heap.size,3,none⟩ = some (.slice E1 m1 d1) /\ w'.cell? ⟨(w.heap.size + 1),0,none⟩ = some (.bool g2) /\ w'.cell? ⟨(w.heap.size + 1),1,none⟩ = some (.slice A2 n2 c2) /\ w'.cell? ⟨(w.heap.size + 1),2,none⟩ = some (.bool e2) /\ w'.cell? ⟨(w.heap.size + 1),3,none⟩ = some (.slice E2 m2 d2) /\ w'.cell? ⟨k9,0,none⟩ = some (.bool u9) /\ w'.cell? ⟨k9,1,none⟩ = some (.slice a9 l9 o9)) (put2 w' (w.heap.size + 1 + 1) x0 x1) from ⟨(cell_put2 (by have:=hq9;have:=HZ.out;omega) _ _).trans h.1,(cell_put2 (by have:=hq9;have:=HZ.out;omega) _ _).trans h.2.1,(cell_put2 (by have:=hq9;have:=HZ.out;omega) _ _).trans h.2.2.1,(cell_put2 (by have:=hq9;have:=HZ.out;omega) _ _).trans h.2.2.2.1,(cell_put2 (by have:=hq9;have:=HZ.out;omega) _ _).trans h.2.2.2.2.1,(cell_put2 (by have:=hq9;have:=HZ.out;omega) _ _).trans h.2.2.2.2.2.1,(cell_put2 (by have:=hq9;have:=HZ.out;omega) _ _).trans h.2.2.2.2.2.2.1,(cell_put2 (by have:=hq9;have:=HZ.out;omega) _ _).trans h.2.2.2.2.2.2.2.1,(cell_put2 (by have:=hq9;have:=HZ.out;omega) _ _).trans h.2.2.2.2.2.2.2.2.1,(cell_put2 (by have:=hq9;have:=HZ.out;omega) _ _).trans h.2.2.2.2.2.2.2.2.2⟩))
  have hB:=(Below.refl w6.heap.size w6).drew
  replace X:=Hd (X.out.below hB)
  replace Y:=Hd (Y.out.below hB)
  replace T3:=Hd (T3.out.below hB)
  refine wp_region_held_drew (S:=fun w'=>w'.cell? ⟨w.heap.size,0,none⟩ = some (.bool g1) /\ w'.cell? ⟨w.heap.size,1,none⟩ = some (.slice A1 n1 c1) /\ w'.cell? ⟨w.heap.size,2,none⟩ = some (.bool e1) /\ w'.cell? ⟨w.heap.size,3,none⟩ = some (.slice E1 m1 d1) /\ w'.cell? ⟨(w.heap.size + 1),0,none⟩ = some (.bool g2) /\ w'.cell? ⟨(w.heap.size + 1),1,none⟩ = some (.slice A2 n2 c2) /\ w'.cell? ⟨(w.heap.size + 1),2,none⟩ = some (.bool e2) /\ w'.cell? ⟨(w.heap.size + 1),3,none⟩ = some (.slice E2 m2 d2) /\ w'.cell? ⟨k9,0,none⟩ = some (.bool u9) /\ w'.cell? ⟨k9,1,none⟩ = some (.slice a9 l9 o9)) (by kernel_rfl) (HT.out _ hB) (fun hH=>?_)
  clear hH
  generalize w6.drew = wr0 at *
  refine tk 0 31 (by first | assumption | exact HT.out _ hB) ?_
  try simp only [Act.put,tA,cZ,cS]
  refine tk 1 32 (by first | assumption | exact HT.out _ hB) ?_
  try simp only [Act.put,tA,cZ,cS]
  refine tk 2 33 (by first | assumption | exact HT.out _ hB) ?_
  try simp only [Act.put,tA,cZ,cS]
  refine tk 3 34 (by first | assumption | exact HT.out _ hB) ?_
  try simp only [Act.put,tA,cZ,cS]
  refine rd 4 (AllReadyH.cons rfl (fun K hK=>?_) AllReadyH.nil)
  (try simp only [gA]);(try simp only [gS]);(try simp only [gZ])
  go_simp
  (go_at_call 20;refine (Of_rat _ QQ (L + L + 5) _ T3.out).mono ?_;rintro e wc4 ⟨⟨ga,Aa,na,oa,ea,Ea,ma,da,rfl,hz⟩,hb⟩)
  replace X:=Hd (X.out.below hb)
  replace Y:=Hd (Y.out.below hb)
  replace T3:=Hd (T3.out.below hb)
  replace hB:=Below.trans hB (hb.mono hB.size)
  have T4:=Hd hz
  refine hK.out _ _ (HT.out _ hB) (fun hH=>?_)
  clear hK K hH
  try simp only [Act.put,tA,cZ,cS]
  clear hb hz
  refine rd 5 (AllReadyH.cons rfl (fun K hK=>?_) AllReadyH.nil)
  (try simp only [gA]);(try simp only [gS]);(try simp only [gZ])
  go_simp
  (go_at_call 44;refine (Mul_q _ _ m c QQ 1 (L + L + 5) _ (Y.out.mono (by omega)) T4.out (by omega) (by omega)).mono ?_;rintro e wc5 ⟨N1,D1,hm1,⟨gb,Ab,nb,ob,eb,Eb,mb,db,rfl,hz⟩,hb⟩)
  replace X:=Hd (X.out.below hb)
  replace Y:=Hd (Y.out.below hb)
  replace T3:=Hd (T3.out.below hb)
  replace T4:=Hd (T4.out.below hb)
  replace hB:=Below.trans hB (hb.mono hB.size)
  clear T4
  have T5:=Hd hz
  have HM1:=Hd hm1
  clear hm1
  refine hK.out _ _ (HT.out _ hB) (fun hH=>?_)
  clear hK K hH
  try simp only [Act.put,tA,cZ,cS]
  clear hb hz
  refine rd 6 (AllReadyH.cons rfl (fun K hK=>?_) AllReadyH.nil)
  (try simp only [gA]);(try simp only [gS]);(try simp only [gZ])
  go_simp
  (go_at_call 42;refine (Sub_q _ _ n d N1 D1 (2 * (L + L + 5) + 4) _ (X.out.mono (by omega)) (T5.out.mono (by omega)) (by omega) (by omega)).mono ?_;rintro e wc6 ⟨N2,D2,hm2,⟨gc,Ac,nc,oc,ec,Ec,mc,dc,rfl,hz⟩,hb⟩)
  replace X:=Hd (X.out.below hb)
  replace Y:=Hd (Y.out.below hb)
  replace T3:=Hd (T3.out.below hb)
  replace T5:=Hd (T5.out.below hb)
  replace hB:=Below.trans hB (hb.mono hB.size)
  have T6:=Hd hz
  have HM2:=Hd hm2
  clear hm2
  refine hK.out _ _ (HT.out _ hB) (fun hH=>?_)
  clear hK K hH
  try simp only [Act.put,tA,cZ,cS]
  clear hb hz
  refine rd 7 (AllReadyH.cons rfl (fun K hK=>?_) AllReadyH.nil)
  (try simp only [gA]);(try simp only [gS]);(try simp only [gZ])
  have R4:=BR.out.below hB
  obtain ⟨r0,r1,r2,r3,r4⟩:=id R4
  go_simp
  refine hK.out _ _ (HP.out _ (.bool u9) (.slice a9 l9 o9) (HT.out _ hB)) (fun hH=>?_)
  clear hK K
  try simp only [Act.put,tA,cZ,cS]
  refine rd 8 (AllReadyH.cons rfl (fun K hK=>?_) AllReadyH.nil)
  (try simp only [gA]);(try simp only [gS]);(try simp only [gZ])
  have R5:=((BS.out.below hB).other2 (show w.heap.size + 1 + 1 ≠ w.heap.size + 1 + 1 + 1 by omega) (.bool u9) (.slice a9 l9 o9))
  obtain ⟨t0,t1,t2,t3,t4,t5,t6,t7,t8⟩:=id R5
  go_simp
  refine hK.out _ _ (HPB.out _ (.bool gc) (.slice Ac nc oc) (.bool ec) (.slice Ec mc dc) (by assumption)) (fun hH=>?_)
  clear hK K
  try simp only [Act.put,tA,cZ,cS]
  refine tk 9 8 (by first | assumption | exact HT.out _ hB) ?_
  try simp only [Act.put,tA,cZ,cS]
  refine wpAnyH_done (by kernel_rfl) ?_ _
  have hrem:=rem_math T5.out.d0 HM1.out HM2.out
  obtain ⟨x1,x2⟩:=new_same T6.out.d0 T6.out.cop (Int.ne_of_gt (Int.mul_pos HDP.out.1 HDP.out.2)) hrem
  clear hrem
  have HXN:=Hd (show quN way n d m c = N2 from (if_pos HE.out).trans (by rw [HQ.out];exact x1.symm))
  have HXD:=Hd (show quD way n d m c = D2 from (if_pos HE.out).trans (by rw [HQ.out];exact x2.symm))
  clear x1 x2
  have V3:=T3.out.fx R4 (.bool u9) (.slice a9 l9 o9)
  have V6:=T6.out.put2x R4 (.bool u9) (.slice a9 l9 o9)
  go_wp2
  exact bodyPost_ret (v:=.tuple #[.agg #[.bool u9,.slice a9 l9 o9],.agg #[.bool gc,.slice Ac nc oc,.bool ec,.slice Ec mc dc],.int .i64 0]) (by simp [results,Tryz.results46,go_sem,r0,r1,t0,t1,t2,t3]) rfl ⟨⟨u9,a9,l9,o9,gc,Ac,nc,oc,ec,Ec,mc,dc,by rw [HE.out],by rw [HQ.out];exact (V3.mono (by omega)).put4 R5 _ _ _ _,by rw [HXN.out,HXD.out];exact (V6.mono (by omega)).put4 R5 _ _ _ _⟩,(below_put4 (((hw.trans (hB.mono hw.size)).setCell (p:=⟨w.heap.size + 1 + 1,0,none⟩) (by show w.heap.size <= w.heap.size + 1 + 1;omega) _).setCell (p:=⟨w.heap.size + 1 + 1,1,none⟩) (by show w.heap.size <= w.heap.size + 1 + 1;omega) _) (by omega) _ _ _ _)⟩
end Go.Proofs.YtbajnceoolkckaaGreat
