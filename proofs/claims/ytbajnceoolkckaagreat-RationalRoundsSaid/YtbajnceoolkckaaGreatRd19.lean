/- Of the proof of RationalRounds: RatD, RatE, RatF, Box. -/
import Derived.Test.YtbajnceoolkckaaGreatRd18
open List renaming getElem_toArray → gA, getElem_cons_succ → gS, getElem_cons_zero → gZ, setIfInBounds_toArray → tA, set_cons_zero → cZ, set_cons_succ → cS
open Go.Lib renaming hid → Hd
set_option maxRecDepth 100000
set_option maxHeartbeats 16000000
namespace Go.Proofs.YtbajnceoolkckaaGreat
open Go.RowKit LM
def dn (d:Int) : Int:=if d = 1 then 0 else d
def Rat (w:World) (v:Value) (n d:Int) (L:Nat) : Prop:=
 ∃ g1 A1 n1 c1 g2 A2 n2 c2,v = .agg #[.bool g1,.slice A1 n1 c1,.bool g2,.slice A2 n2 c2] /\ Ival w (.agg #[.bool g1,.slice A1 n1 c1]) n L /\ Ival w (.agg #[.bool g2,.slice A2 n2 c2]) (dn d) L /\ 0 < d /\ Int.gcd n d = 1
theorem Rat.below {w w':World} {v:Value} {n d:Int} {L:Nat} (h:Rat w v n d L) (hb:Below w.heap.size w w') : Rat w' v n d L:=by
 obtain ⟨g1,A1,n1,c1,g2,A2,n2,c2,e,h1,h2,h3⟩:=h
 exact ⟨g1,A1,n1,c1,g2,A2,n2,c2,e,h1.below hb,h2.below hb,h3⟩
theorem dn_zero {d:Int} (h:0 < d) : dn d = 0 ↔ d = 1:=by
 unfold dn;split <;> omega
theorem cmpI_zero {a b:Int} (h:cmpI a b = 0) : a = b:=by
 unfold cmpI at h
 split at h
 ·omega
 ·split at h
  ·assumption
  ·omega
theorem Whole_any (v:Value) (n d:Int) (L:Nat) (w:World) (h:Rat w v n d L) :
  Calls Tryz.prog 22 #[v] w fun e w'=>e = .returned (.bool (decide (d = 1))) /\ Below w.heap.size w w':=by
 obtain ⟨g1,A1,n1,c1,g2,A2,n2,c2,rfl,h1,h2,hd,hco⟩:=h
 have hW:=below_alloc w (.cells #[.bool g1,.slice A1 n1 c1,.bool g2,.slice A2 n2 c2] 38)
 have H2:=Hd (h2.below hW)
 clear h1 h2
 go_enter Tryz.func22,Tryz.ntmps22
 go_wp2_with fail
 refine (sign_int _ (dn d) L _ H2.out).mono ?_
 rintro e w1 ⟨rfl,hb⟩
 have hw:=hW.trans (hb.mono hW.size)
 have hz:=dn_zero hd
 by_cases h1:d = 1
 ·have e0:cmpI (dn d) 0 = 0:=cmpI_eq (hz.2 h1)
  rw [e0]
  clear e0 hz
  go_wp2
  go_ret
  exact ⟨by rw [decide_eq_true h1];rfl,hw⟩
 ·have e0:cmpI (dn d) 0 ≠ 0:=fun h=>by
   exact h1 (hz.1 (cmpI_zero h))
  clear hz
  go_wp2
  go_ret
  exact ⟨by rw [decide_eq_false h1];exact congrArg Ending.returned (congrArg Value.bool (decide_eq_false e0)),hw⟩
theorem Sign_any (v:Value) (n d:Int) (L:Nat) (w:World) (h:Rat w v n d L) :
  Calls Tryz.prog 24 #[v] w fun e w'=>e = .returned (.int .i64 (cmpI n 0)) /\ Below w.heap.size w w':=by
 obtain ⟨g1,A1,n1,c1,g2,A2,n2,c2,rfl,h1,h2,hd,hco⟩:=h
 have hW:=below_alloc w (.cells #[.bool g1,.slice A1 n1 c1,.bool g2,.slice A2 n2 c2] 38)
 have H1:=Hd (h1.below hW)
 clear h1 h2
 go_enter Tryz.func24,Tryz.ntmps24
 go_wp2_with fail
 refine (sign_int _ n L _ H1.out).mono ?_
 rintro e w1 ⟨rfl,hb⟩
 go_wp2
 go_ret
 exact ⟨rfl,hW.trans (hb.mono hW.size)⟩
theorem two41 (w:World) (v0 v1 v2 v3:Value) :
  Below w.heap.size w ((w.alloc (.cells #[v0,v1,v2,v3] 38)).alloc (.cells #[.bool false,.slice none 0 0] 31)) /\
  Fx4 ((w.alloc (.cells #[v0,v1,v2,v3] 38)).alloc (.cells #[.bool false,.slice none 0 0] 31)) w.heap.size v0 v1 v2 v3 /\
  Fx ((w.alloc (.cells #[v0,v1,v2,v3] 38)).alloc (.cells #[.bool false,.slice none 0 0] 31)) (w.heap.size + 1) (.bool false) (.slice none 0 0) /\
  ((w.alloc (.cells #[v0,v1,v2,v3] 38)).alloc (.cells #[.bool false,.slice none 0 0] 31)).heap.size = w.heap.size + 1 + 1:=by
 refine ⟨below_two _ _ _,(Fx4.new w _ _ _ _ 38).below (below_alloc _ _),?_,by simp⟩
 have h1:=Fx.new (w.alloc (.cells #[v0,v1,v2,v3] 38)) (.bool false) (.slice none 0 0) 31
 rw [show (w.alloc (.cells #[v0,v1,v2,v3] 38)).heap.size = w.heap.size + 1 from by simp] at h1
 exact h1
theorem Denominator_any (v:Value) (n d:Int) (L:Nat) (w:World) (h:Rat w v n d L) (hL:2 <= L) :
  Calls Tryz.prog 67 #[v] w fun e w'=>(∃ ng A2 n2 c2,e = .returned (.agg #[.bool ng,.slice A2 n2 c2]) /\ Ival w' (.agg #[.bool ng,.slice A2 n2 c2]) d L) /\ Below w.heap.size w w':=by
 obtain ⟨g1,A1,n1,c1,g2,A2,n2,c2,rfl,h1,h2,hd,hco⟩:=h
 obtain ⟨hw,F0,F1,hs⟩:=two41 w (.bool g1) (.slice A1 n1 c1) (.bool g2) (.slice A2 n2 c2)
 have H1:=Hd (h1.below hw)
 have H2:=Hd (h2.below hw)
 clear h1 h2
 obtain ⟨W0,hW0⟩ : ∃ W0,(w.alloc (.cells #[.bool g1,.slice A1 n1 c1,.bool g2,.slice A2 n2 c2] 38)).alloc (.cells #[.bool false,.slice none 0 0] 31) = W0:=⟨_,rfl⟩
 rw [hW0] at hw F0 F1 hs H1 H2
 replace F0:=Hd F0
 replace F1:=Hd F1
 go_enter Tryz.func67,Tryz.ntmps67
 go_upto_region 1 with fail
 clear hW0
 obtain ⟨a0,a1,a2,a3,-,-,-,-,-⟩:=F0.out
 go_wp2_with fail
 refine (Whole_any _ n d L _ ⟨_,_,_,_,_,_,_,_,rfl,H1.out,H2.out,hd,hco⟩).mono ?_
 rintro e w1 ⟨rfl,hb⟩
 have hw1:=hw.trans (hb.mono hw.size)
 replace F0:=Hd (F0.out.below hb)
 replace F1:=Hd (F1.out.below hb)
 replace H2:=Hd (H2.out.below hb)
 have hs1:=hb.size
 clear a0 a1 a2 a3 H1 hb hw
 obtain ⟨a0,a1,a2,a3,-,-,-,-,-⟩:=F0.out
 by_cases hd1:d = 1
 ·simp only [decide_eq_true hd1]
  go_wp2_with fail
  refine (new_int 1 _ (by decide) (by decide)).mono ?_
  rintro e w2 ⟨r,rfl,hz,hb⟩
  obtain ⟨ng,A5,n5,c5,rfl⟩:=hz.form
  have Z:=Hd (hz.mono hL)
  replace hw1:=hw1.trans (hb.mono hw1.size)
  replace F1:=Hd (F1.out.below hb)
  clear hz a0 a1 a2 a3 F0 H2 hb
  obtain ⟨r0,r1,r2,r3,r4⟩:=F1.out
  go_wp2
  refine bodyPost_ret (v:=.agg #[.bool ng,.slice A5 n5 c5]) (by simp [results,Tryz.results67,go_sem,r0,r1]) rfl ⟨⟨_,_,_,_,rfl,?_⟩,(hw1.setCell (p:=⟨w.heap.size + 1,0,none⟩) (by show w.heap.size <= w.heap.size + 1;omega) _).setCell (p:=⟨w.heap.size + 1,1,none⟩) (by show w.heap.size <= w.heap.size + 1;omega) _⟩
  rw [hd1];exact Z.out.stored r0 r1 _ _
 ·have e1:decide (d = 1) = false:=decide_eq_false hd1
  have e2:dn d = d:=if_neg hd1
  rw [e1]
  rw [e2] at H2
  clear e1 e2
  obtain ⟨r0,r1,r2,r3,r4⟩:=F1.out
  go_wp2
  exact bodyPost_ret (v:=.agg #[.bool g2,.slice A2 n2 c2]) (by simp [results,Tryz.results67,go_sem,r0,r1]) rfl ⟨⟨_,_,_,_,rfl,H2.out.stored r0 r1 _ _⟩,(hw1.setCell (p:=⟨w.heap.size + 1,0,none⟩) (by show w.heap.size <= w.heap.size + 1;omega) _).setCell (p:=⟨w.heap.size + 1,1,none⟩) (by show w.heap.size <= w.heap.size + 1;omega) _⟩
theorem two44 (w:World) (v0 v1 v2 v3 u0 u1 u2 u3:Value) :
  Below w.heap.size w ((w.alloc (.cells #[v0,v1,v2,v3] 38)).alloc (.cells #[u0,u1,u2,u3] 38)) /\
  Fx4 ((w.alloc (.cells #[v0,v1,v2,v3] 38)).alloc (.cells #[u0,u1,u2,u3] 38)) w.heap.size v0 v1 v2 v3 /\
  Fx4 ((w.alloc (.cells #[v0,v1,v2,v3] 38)).alloc (.cells #[u0,u1,u2,u3] 38)) (w.heap.size + 1) u0 u1 u2 u3 /\
  ((w.alloc (.cells #[v0,v1,v2,v3] 38)).alloc (.cells #[u0,u1,u2,u3] 38)).heap.size = w.heap.size + 1 + 1:=by
 refine ⟨below_two _ _ _,(Fx4.new w _ _ _ _ 38).below (below_alloc _ _),?_,by simp⟩
 have h1:=Fx4.new (w.alloc (.cells #[v0,v1,v2,v3] 38)) u0 u1 u2 u3 38
 rw [show (w.alloc (.cells #[v0,v1,v2,v3] 38)).heap.size = w.heap.size + 1 from by simp] at h1
 exact h1
theorem over_any (u v:Value) (n d m c:Int) (L:Nat) (w:World) (h:Rat w u n d L) (g:Rat w v m c L) (hL:L <= 500000) :
  Calls Tryz.prog 84 #[u,v] w fun e w'=>(∃ ng A2 n2 c2,e = .returned (.agg #[.bool ng,.slice A2 n2 c2]) /\ Ival w' (.agg #[.bool ng,.slice A2 n2 c2]) (n * c) (L + L)) /\ Below w.heap.size w w':=by
 obtain ⟨g1,A1,n1,c1,g2,A2,n2,c2,rfl,h1,h2,hd,hco⟩:=h
 obtain ⟨g3,A3,n3,c3,g4,A4,n4,c4,rfl,h3,h4,hc,hco2⟩:=g
 obtain ⟨hw,F0,F1,hs⟩:=two44 w (.bool g1) (.slice A1 n1 c1) (.bool g2) (.slice A2 n2 c2) (.bool g3) (.slice A3 n3 c3) (.bool g4) (.slice A4 n4 c4)
 obtain ⟨W1,hW1⟩ : ∃ W1,(w.alloc (.cells #[.bool g1,.slice A1 n1 c1,.bool g2,.slice A2 n2 c2] 38)).alloc (.cells #[.bool g3,.slice A3 n3 c3,.bool g4,.slice A4 n4 c4] 38) = W1:=⟨_,rfl⟩
 rw [hW1] at hw F0 F1 hs
 have hX:=below_alloc W1 (.cells #[.bool false,.slice none 0 0] 31)
 have F2:=Fx.new W1 (.bool false) (.slice none 0 0) 31
 rw [hs] at F2
 have hw0:=hw.trans (hX.mono hw.size)
 have H1:=Hd (h1.below hw0)
 have H3:=Hd (h3.below hw0)
 have H4:=Hd (h4.below hw0)
 replace F0:=Hd (F0.below hX)
 replace F1:=Hd (F1.below hX)
 replace F2:=Hd F2
 have hs0:(W1.alloc (.cells #[.bool false,.slice none 0 0] 31)).heap.size = w.heap.size + 1 + 1 + 1:=by simp [hs]
 clear h1 h2 h3 h4 hw hX
 obtain ⟨W0,hW0⟩ : ∃ W0,W1.alloc (.cells #[.bool false,.slice none 0 0] 31) = W0:=⟨_,rfl⟩
 rw [hW0] at hw0 H1 H3 H4 F0 F1 F2 hs0
 go_enter Tryz.func84,Tryz.ntmps84
 go_upto_region 1 with fail
 clear hW0 hW1 hs
 obtain ⟨a0,a1,a2,a3,-,-,-,-,-⟩:=F1.out
 go_wp2_with fail
 refine (Whole_any _ m c L _ ⟨_,_,_,_,_,_,_,_,rfl,H3.out,H4.out,hc,hco2⟩).mono ?_
 rintro e w1 ⟨rfl,hb⟩
 have hw1:=hw0.trans (hb.mono hw0.size)
 replace F0:=Hd (F0.out.below hb)
 replace F1:=Hd (F1.out.below hb)
 replace F2:=Hd (F2.out.below hb)
 replace H1:=Hd (H1.out.below hb)
 replace H4:=Hd (H4.out.below hb)
 have hs1:=hb.size
 clear a0 a1 a2 a3 H3 hb hw0
 obtain ⟨a0,a1,a2,a3,-,-,-,-,-⟩:=F0.out
 obtain ⟨b0,b1,b2,b3,-,-,-,-,-⟩:=F1.out
 by_cases hc1:c = 1
 ·simp only [decide_eq_true hc1]
  obtain ⟨r0,r1,r2,r3,r4⟩:=F2.out
  go_wp2
  refine bodyPost_ret (v:=.agg #[.bool g1,.slice A1 n1 c1]) (by simp [results,Tryz.results84,go_sem,r0,r1]) rfl ⟨⟨_,_,_,_,rfl,?_⟩,(hw1.setCell (p:=⟨w.heap.size + 1 + 1,0,none⟩) (by show w.heap.size <= w.heap.size + 1 + 1;omega) _).setCell (p:=⟨w.heap.size + 1 + 1,1,none⟩) (by show w.heap.size <= w.heap.size + 1 + 1;omega) _⟩
  rw [hc1,Int.mul_one];exact (H1.out.stored r0 r1 _ _).mono (by omega)
 ·have e1:decide (c = 1) = false:=decide_eq_false hc1
  have e2:dn c = c:=if_neg hc1
  rw [e1]
  rw [e2] at H4
  clear e1 e2
  go_wp2_with fail
  refine (mul_t _ _ n c L L _ H1.out H4.out (by omega) (by omega)).mono ?_
  rintro e w2 ⟨⟨ng,A5,n5,c5,rfl,hz⟩,hb⟩
  have Z:=Hd hz
  replace hw1:=hw1.trans (hb.mono hw1.size)
  replace F2:=Hd (F2.out.below hb)
  clear hz a0 a1 a2 a3 b0 b1 b2 b3 F0 F1 H1 H4 hb
  obtain ⟨r0,r1,r2,r3,r4⟩:=F2.out
  go_wp2
  exact bodyPost_ret (v:=.agg #[.bool ng,.slice A5 n5 c5]) (by simp [results,Tryz.results84,go_sem,r0,r1]) rfl ⟨⟨_,_,_,_,rfl,Z.out.stored r0 r1 _ _⟩,(hw1.setCell (p:=⟨w.heap.size + 1 + 1,0,none⟩) (by show w.heap.size <= w.heap.size + 1 + 1;omega) _).setCell (p:=⟨w.heap.size + 1 + 1,1,none⟩) (by show w.heap.size <= w.heap.size + 1 + 1;omega) _⟩
def newN (x y:Int) : Int:=if y = 0 then 0 else upN (x.tdiv (Int.gcd x y)) (y.tdiv (Int.gcd x y))
def newD (x y:Int) : Int:=if y = 0 then 1 else upN (y.tdiv (Int.gcd x y)) (y.tdiv (Int.gcd x y))
theorem newD_pos (x y:Int) : 0 < newD x y:=by
 unfold newD
 by_cases h:y = 0
 ·rw [if_pos h];decide
 ·rw [if_neg h]
  have hg:(Int.gcd x y:Int) ∣ y:=Int.gcd_dvd_right ..
  have hne:y.tdiv (Int.gcd x y) ≠ 0:=by
   intro e
   obtain ⟨k,hk⟩:=hg
   have hg0:(Int.gcd x y:Int) ≠ 0:=fun h0=>h (Int.gcd_eq_zero_iff.1 (by exact_mod_cast h0)).2
   have e2:y.tdiv (Int.gcd x y) = k:=by
    conv=>lhs;arg 1;rw [hk]
    exact Int.mul_tdiv_cancel_left _ hg0
   rw [e2] at e
   rw [e,Int.mul_zero] at hk
   exact h hk
  unfold upN;split <;> omega
theorem gcd_upN (a b c:Int) : Int.gcd (upN a c) (upN b c) = Int.gcd a b:=by
 unfold upN;split
 ·rw [Int.neg_gcd,Int.gcd_neg]
 ·rfl
theorem gcd_parts {x y:Int} (hy:y ≠ 0) : Int.gcd (x.tdiv (Int.gcd x y)) (y.tdiv (Int.gcd x y)) = 1:=by
 have hg:0 < Int.gcd x y:=Nat.pos_of_ne_zero fun h=>hy (Int.gcd_eq_zero_iff.1 h).2
 rw [Int.tdiv_eq_ediv_of_dvd (Int.gcd_dvd_left ..),Int.tdiv_eq_ediv_of_dvd (Int.gcd_dvd_right ..)]
 exact Int.gcd_ediv_gcd_ediv_gcd hg
theorem new_gcd (x y:Int) : Int.gcd (newN x y) (newD x y) = 1:=by
 unfold newN newD
 by_cases h:y = 0
 ·rw [if_pos h,if_pos h];decide
 ·rw [if_neg h,if_neg h,gcd_upN]
  exact gcd_parts h
theorem frac_unique {a b c d:Int} (hb:0 < b) (hd:0 < d) (h1:Int.gcd a b = 1) (h2:Int.gcd c d = 1) (h:a * d = c * b) : a = c /\ b = d:=by
 have e1:b.natAbs ∣ d.natAbs:=by
  refine Nat.Coprime.dvd_of_dvd_mul_left (k:=b.natAbs) (m:=a.natAbs) ?_ ?_
  ·exact Nat.Coprime.symm h1
  ·rw [<- Int.natAbs_mul,h,Int.natAbs_mul];exact Nat.dvd_mul_left _ _
 have e2:d.natAbs ∣ b.natAbs:=by
  refine Nat.Coprime.dvd_of_dvd_mul_left (k:=d.natAbs) (m:=c.natAbs) ?_ ?_
  ·exact Nat.Coprime.symm h2
  ·rw [<- Int.natAbs_mul,<- h,Int.natAbs_mul];exact Nat.dvd_mul_left _ _
 have e3:=Nat.dvd_antisymm e1 e2
 have e4:b = d:=by omega
 subst e4
 exact ⟨Int.eq_of_mul_eq_mul_right (by omega) h,rfl⟩
def RatErr (L:Nat) (n d err:Int) (w:World) (e:Ending) (w':World) : Prop:=
 (∃ g1 A1 n1 c1 g2 A2 n2 c2,e = .returned (.tuple #[.agg #[.bool g1,.slice A1 n1 c1,.bool g2,.slice A2 n2 c2],.int .i64 err]) /\ Rat w' (.agg #[.bool g1,.slice A1 n1 c1,.bool g2,.slice A2 n2 c2]) n d L) /\ Below w.heap.size w w'
theorem New_any (u v:Value) (x y:Int) (L:Nat) (w:World) (h:Ival w u x L) (g:Ival w v y L) (hL:L <= 900000) (hL2:2 <= L) :
  Calls Tryz.prog 16 #[u,v] w (RatErr (L + 2) (newN x y) (newD x y) (divE y) w):=by
 obtain ⟨p,A,n,c,rfl⟩:=h.form
 obtain ⟨q,B,m,d,rfl⟩:=g.form
 have t:=three4 w p q A B n c m d
 obtain ⟨W0,hW0⟩ : ∃ W0,(((w.alloc (.cells #[.bool p,.slice A n c] 31)).alloc (.cells #[.bool q,.slice B m d] 31)).alloc (.cells #[.bool false,.slice none 0 0,.bool false,.slice none 0 0] 38)) = W0:=⟨_,rfl⟩
 rw [hW0] at t
 have hw:=t.below
 have HX:=Hd (h.below hw)
 have HY:=Hd (g.below hw)
 have F0:=Hd t.b0
 have F1:=Hd t.b1
 have F2:=Hd t.b2
 have hs:=t.size
 clear h g t
 go_enter Tryz.func16,Tryz.ntmps16
 go_upto_region 1 with fail
 clear hW0
 obtain ⟨b1,b2,-,-,-⟩:=F1.out
 go_wp2_with fail
 refine (sign_int _ y L _ HY.out).mono ?_
 rintro e w1 ⟨rfl,hb⟩
 have hw1:=hw.trans (hb.mono hw.size)
 replace F0:=Hd (F0.out.below hb)
 replace F1:=Hd (F1.out.below hb)
 replace F2:=Hd (F2.out.below hb)
 replace HX:=Hd (HX.out.below hb)
 replace HY:=Hd (HY.out.below hb)
 have hs1:=hb.size
 clear b1 b2 hw hb
 by_cases hy:y = 0
 ·have e0:cmpI y 0 = 0:=cmpI_eq hy
  have e1:newN x y = 0:=if_pos hy
  have e2:newD x y = 1:=if_pos hy
  have e3:divE y = 6:=if_pos hy
  rw [e0]
  clear e0 HX HY F0 F1
  obtain ⟨r0,r1,r2,r3,r4,r5,r6,r7,r8⟩:=F2.out
  go_wp2
  refine bodyPost_ret (v:=.tuple #[.agg #[.bool false,.slice none 0 0,.bool false,.slice none 0 0],.int .i64 6]) (by simp [results,Tryz.results16,go_sem,r0,r1,r2,r3]) rfl ⟨⟨false,none,0,0,false,none,0,0,?_,?_⟩,below_put4 hw1 (by omega) _ _ _ _⟩
  ·rw [e3]
  ·rw [e1,e2];exact ⟨_,_,_,_,_,_,_,_,rfl,Ival.nought,Ival.nought,by decide,by decide⟩
 ·have e0:cmpI y 0 ≠ 0:=fun h=>hy (cmpI_zero h)
  have e1:newN x y = _:=if_neg hy
  have e2:newD x y = _:=if_neg hy
  have e3:divE y = 0:=if_neg hy
  have hdp:=newD_pos x y
  have hgp:=new_gcd x y
  rw [e2] at hdp hgp
  rw [e1] at hgp
  obtain ⟨a1,a2,-,-,-⟩:=F0.out
  obtain ⟨b1,b2,-,-,-⟩:=F1.out
  go_wp2_with fail
  refine (lowest_any _ _ x y L _ HX.out HY.out hL hL2 hy).mono ?_
  rintro e w2 ⟨⟨gn,An,nn,cn,gd,Ad,nd,cd,rfl,hz,hzd⟩,hb⟩
  have Z:=Hd hz
  have ZD:=Hd hzd
  replace hw1:=hw1.trans (hb.mono hw1.size)
  replace F2:=Hd (F2.out.below hb)
  clear hz hzd a1 a2 b1 b2 e0 F0 F1 HX HY hb
  obtain ⟨r0,r1,r2,r3,r4,r5,r6,r7,r8⟩:=F2.out
  go_wp2
  refine bodyPost_ret (v:=.tuple #[.agg #[.bool gn,.slice An nn cn,.bool gd,.slice Ad nd cd],.int .i64 0]) (by simp [results,Tryz.results16,go_sem,r0,r1,r2,r3]) rfl ⟨⟨gn,An,nn,cn,gd,Ad,nd,cd,?_,?_⟩,below_put4 hw1 (by omega) _ _ _ _⟩
  ·rw [e3]
  ·rw [e1,e2];exact ⟨_,_,_,_,_,_,_,_,rfl,Z.out.put4 F2.out _ _ _ _,ZD.out.put4 F2.out _ _ _ _,hdp,hgp⟩
def RatRes (L:Nat) (n d:Int) (w:World) (e:Ending) (w':World) : Prop:=
 (∃ g1 A1 n1 c1 g2 A2 n2 c2,e = .returned (.agg #[.bool g1,.slice A1 n1 c1,.bool g2,.slice A2 n2 c2]) /\ Rat w' (.agg #[.bool g1,.slice A1 n1 c1,.bool g2,.slice A2 n2 c2]) n d L) /\ Below w.heap.size w w'
theorem Rat.form {w:World} {v:Value} {n d:Int} {L:Nat} (h:Rat w v n d L) : ∃ g1 A1 n1 c1 g2 A2 n2 c2,v = .agg #[.bool g1,.slice A1 n1 c1,.bool g2,.slice A2 n2 c2]:=by
 obtain ⟨g1,A1,n1,c1,g2,A2,n2,c2,e,_⟩:=h
 exact ⟨g1,A1,n1,c1,g2,A2,n2,c2,e⟩
theorem Rat.parts {w:World} {g1 g2:Bool} {A1 A2:Option Addr} {n1 c1 n2 c2:Nat} {n d:Int} {L:Nat} (h:Rat w (.agg #[.bool g1,.slice A1 n1 c1,.bool g2,.slice A2 n2 c2]) n d L) :
  Ival w (.agg #[.bool g1,.slice A1 n1 c1]) n L /\ Ival w (.agg #[.bool g2,.slice A2 n2 c2]) (dn d) L /\ 0 < d /\ Int.gcd n d = 1:=by
 obtain ⟨g1',A1',n1',c1',g2',A2',n2',c2',e,h1,h2,h3⟩:=h
 have e0:=congrArg (fun v=>match v with | Value.agg a=>a[0]? | _=>none) e
 have e1:=congrArg (fun v=>match v with | Value.agg a=>a[1]? | _=>none) e
 have e2:=congrArg (fun v=>match v with | Value.agg a=>a[2]? | _=>none) e
 have e3:=congrArg (fun v=>match v with | Value.agg a=>a[3]? | _=>none) e
 simp at e0 e1 e2 e3
 obtain ⟨rfl,rfl,rfl⟩:=e1
 obtain ⟨rfl,rfl,rfl⟩:=e3
 subst e0 e2
 exact ⟨h1,h2,h3⟩
theorem Rat.fx {w:World} {s:Value} {n d:Int} {L:Nat} (h:Rat w s n d L) {b:Nat} {g:Bool} {A:Option Addr} {k c:Nat} (F:Fx w b (.bool g) (.slice A k c)) (x y:Value) : Rat ((w.setCell ⟨b,0,none⟩ x).setCell ⟨b,1,none⟩ y) s n d L:=by
 obtain ⟨g1,A1,n1,c1,g2,A2,n2,c2,e,h1,h2,h3⟩:=h
 exact ⟨g1,A1,n1,c1,g2,A2,n2,c2,e,h1.fx F x y,h2.fx F x y,h3⟩
theorem Rat.mk' {w:World} {g1 g2:Bool} {A1 A2:Option Addr} {n1 c1 n2 c2:Nat} {n d:Int} {L:Nat} (h1:Ival w (.agg #[.bool g1,.slice A1 n1 c1]) n L) (h2:Ival w (.agg #[.bool g2,.slice A2 n2 c2]) (dn d) L) (h3:0 < d) (h4:Int.gcd n d = 1) :
  Rat w (.agg #[.bool g1,.slice A1 n1 c1,.bool g2,.slice A2 n2 c2]) n d L:=⟨_,_,_,_,_,_,_,_,rfl,h1,h2,h3,h4⟩
theorem Rat.put4 {w:World} {s:Value} {n d:Int} {L:Nat} (h:Rat w s n d L) {b:Nat} (F:Fx4 w b (.bool false) (.slice none 0 0) (.bool false) (.slice none 0 0)) (x0 x1 x2 x3:Value) : Rat (put4 w b x0 x1 x2 x3) s n d L:=by
 obtain ⟨g1,A1,n1,c1,g2,A2,n2,c2,e,h1,h2,h3⟩:=h
 exact ⟨g1,A1,n1,c1,g2,A2,n2,c2,e,h1.put4 F _ _ _ _,h2.put4 F _ _ _ _,h3⟩
theorem Neg_any (v:Value) (n d:Int) (L:Nat) (w:World) (h:Rat w v n d L) (hL:L <= 1000000) :
  Calls Tryz.prog 36 #[v] w (RatRes L (-n) d w):=by
 obtain ⟨g1,A1,n1,c1,e1,B1,m1,d1,rfl⟩:=h.form
 obtain ⟨hw,F0,F1,hs⟩:=two44 w (.bool g1) (.slice A1 n1 c1) (.bool e1) (.slice B1 m1 d1) (.bool false) (.slice none 0 0) (.bool false) (.slice none 0 0)
 have X:=Hd (h.below hw)
 obtain ⟨W0,hW0⟩ : ∃ W0,(w.alloc (.cells #[.bool g1,.slice A1 n1 c1,.bool e1,.slice B1 m1 d1] 38)).alloc (.cells #[.bool false,.slice none 0 0,.bool false,.slice none 0 0] 38) = W0:=⟨_,rfl⟩
 rw [hW0] at hw F0 F1 hs X
 have B0:=Hd F0
 have BR:=Hd F1
 clear F0 F1 h
 go_enter Tryz.func36,Tryz.ntmps36
 go_upto_region 1 with fail
 clear hW0
 have X1:=Hd X.out.parts.1
 have X2:=Hd X.out.parts.2.1
 have hd:=X.out.parts.2.2.1
 have hco:=X.out.parts.2.2.2
 clear X
 have HT:=Hd (fun (w':World) (hb:Below W0.heap.size W0 w')=>(show w'.cell? ⟨w.heap.size,0,none⟩ = some (.bool g1) /\ w'.cell? ⟨w.heap.size,1,none⟩ = some (.slice A1 n1 c1) /\ w'.cell? ⟨w.heap.size,2,none⟩ = some (.bool e1) /\ w'.cell? ⟨w.heap.size,3,none⟩ = some (.slice B1 m1 d1) from ⟨(B0.out.below hb).c0,(B0.out.below hb).c1,(B0.out.below hb).c2,(B0.out.below hb).c3⟩))
 have HP:=Hd (fun (w':World) (x0 x1 x2 x3:Value) (h:w'.cell? ⟨w.heap.size,0,none⟩ = some (.bool g1) /\ w'.cell? ⟨w.heap.size,1,none⟩ = some (.slice A1 n1 c1) /\ w'.cell? ⟨w.heap.size,2,none⟩ = some (.bool e1) /\ w'.cell? ⟨w.heap.size,3,none⟩ = some (.slice B1 m1 d1))=>(show (fun w'=>w'.cell? ⟨w.heap.size,0,none⟩ = some (.bool g1) /\ w'.cell? ⟨w.heap.size,1,none⟩ = some (.slice A1 n1 c1) /\ w'.cell? ⟨w.heap.size,2,none⟩ = some (.bool e1) /\ w'.cell? ⟨w.heap.size,3,none⟩ = some (.slice B1 m1 d1)) (put4 w' (w.heap.size + 1) x0 x1 x2 x3) from ⟨(cell_put4 (by omega) _ _ _ _).trans h.1,(cell_put4 (by omega) _ _ _ _).trans h.2.1,(cell_put4 (by omega) _ _ _ _).trans h.2.2.1,(cell_put4 (by omega) _ _ _ _).trans h.2.2.2⟩))
 have hB:=(Below.refl W0.heap.size W0).drew
 replace X1:=Hd (X1.out.below hB)
 replace X2:=Hd (X2.out.below hB)
 refine wp_region_held_drew (S:=fun w'=>w'.cell? ⟨w.heap.size,0,none⟩ = some (.bool g1) /\ w'.cell? ⟨w.heap.size,1,none⟩ = some (.slice A1 n1 c1) /\ w'.cell? ⟨w.heap.size,2,none⟩ = some (.bool e1) /\ w'.cell? ⟨w.heap.size,3,none⟩ = some (.slice B1 m1 d1)) (by kernel_rfl) (HT.out _ hB) (fun hH=>?_)
 clear hH
 generalize W0.drew = wr0 at *
 refine tk 0 3 (by first | assumption | exact HT.out _ hB) ?_
 try simp only [Act.put,tA,cZ,cS]
 refine tk 3 6 (by first | assumption | exact HT.out _ hB) ?_
 try simp only [Act.put,tA,cZ,cS]
 refine tk 1 4 (by first | assumption | exact HT.out _ hB) ?_
 try simp only [Act.put,tA,cZ,cS]
 refine tk 4 7 (by first | assumption | exact HT.out _ hB) ?_
 try simp only [Act.put,tA,cZ,cS]
 refine rd 2 (AllReadyH.cons rfl (fun K hK=>?_) AllReadyH.nil)
 (try simp only [gA]);(try simp only [gS]);(try simp only [gZ])
 go_simp
 (go_at_call 62;refine (neg_t _ n L _ X1.out hL).mono ?_;rintro e wc1 ⟨⟨gt1,At1,nt1,ct1,rfl,hz⟩,hb⟩)
 replace X1:=Hd (X1.out.below hb)
 replace X2:=Hd (X2.out.below hb)
 replace hB:=Below.trans hB (hb.mono hB.size)
 have T1:=Hd hz
 refine hK.out _ _ (HT.out _ hB) (fun hH=>?_)
 clear hK K hH
 try simp only [Act.put,tA,cZ,cS]
 clear hb hz
 refine tk 5 8 (by first | assumption | exact HT.out _ hB) ?_
 try simp only [Act.put,tA,cZ,cS]
 refine rd 6 (AllReadyH.cons rfl (fun K hK=>?_) AllReadyH.nil)
 (try simp only [gA]);(try simp only [gS]);(try simp only [gZ])
 have R4:=BR.out.below hB
 obtain ⟨r0,r1,r2,r3,r4,r5,r6,r7,r8⟩:=id R4
 go_simp
 refine hK.out _ _ (HP.out _ (.bool gt1) (.slice At1 nt1 ct1) (.bool e1) (.slice B1 m1 d1) (HT.out _ hB)) (fun hH=>?_)
 clear hK K hH
 try simp only [Act.put,tA,cZ,cS]
 refine wpAnyH_done (by kernel_rfl) ?_ _
 go_wp2
 refine bodyPost_ret (v:=.agg #[.bool gt1,.slice At1 nt1 ct1,.bool e1,.slice B1 m1 d1]) (by simp [results,Tryz.results36,go_sem,r0,r1,r2,r3]) rfl ⟨⟨_,_,_,_,_,_,_,_,rfl,(Rat.mk' T1.out X2.out hd (by rw [Int.neg_gcd];exact hco)).put4 R4 _ _ _ _⟩,below_put4 (hw.trans (hB.mono hw.size)) (by omega) _ _ _ _⟩
def absI (n:Int) : Int:=if n < 0 then -n else n
theorem absI_gcd (n d:Int) : Int.gcd (absI n) d = Int.gcd n d:=by
 unfold absI;split
 ·rw [Int.neg_gcd]
 ·rfl
theorem Abs_any (v:Value) (n d:Int) (L:Nat) (w:World) (h:Rat w v n d L) (hL:L <= 1000000) :
  Calls Tryz.prog 38 #[v] w (RatRes L (absI n) d w):=by
 obtain ⟨g1,A1,n1,c1,e1,B1,m1,d1,rfl⟩:=h.form
 obtain ⟨hw,F0,F1,hs⟩:=two44 w (.bool g1) (.slice A1 n1 c1) (.bool e1) (.slice B1 m1 d1) (.bool false) (.slice none 0 0) (.bool false) (.slice none 0 0)
 have X:=Hd (h.below hw)
 obtain ⟨W0,hW0⟩ : ∃ W0,(w.alloc (.cells #[.bool g1,.slice A1 n1 c1,.bool e1,.slice B1 m1 d1] 38)).alloc (.cells #[.bool false,.slice none 0 0,.bool false,.slice none 0 0] 38) = W0:=⟨_,rfl⟩
 rw [hW0] at hw F0 F1 hs X
 have B0:=Hd F0
 have BR:=Hd F1
 clear F0 F1 h
 go_enter Tryz.func38,Tryz.ntmps38
 go_upto_region 1 with fail
 clear hW0
 have X1:=Hd X.out.parts.1
 have X2:=Hd X.out.parts.2.1
 have hd:=X.out.parts.2.2.1
 have hco:=X.out.parts.2.2.2
 clear X
 have HT:=Hd (fun (w':World) (hb:Below W0.heap.size W0 w')=>(show w'.cell? ⟨w.heap.size,0,none⟩ = some (.bool g1) /\ w'.cell? ⟨w.heap.size,1,none⟩ = some (.slice A1 n1 c1) /\ w'.cell? ⟨w.heap.size,2,none⟩ = some (.bool e1) /\ w'.cell? ⟨w.heap.size,3,none⟩ = some (.slice B1 m1 d1) from ⟨(B0.out.below hb).c0,(B0.out.below hb).c1,(B0.out.below hb).c2,(B0.out.below hb).c3⟩))
 have HP:=Hd (fun (w':World) (x0 x1 x2 x3:Value) (h:w'.cell? ⟨w.heap.size,0,none⟩ = some (.bool g1) /\ w'.cell? ⟨w.heap.size,1,none⟩ = some (.slice A1 n1 c1) /\ w'.cell? ⟨w.heap.size,2,none⟩ = some (.bool e1) /\ w'.cell? ⟨w.heap.size,3,none⟩ = some (.slice B1 m1 d1))=>(show (fun w'=>w'.cell? ⟨w.heap.size,0,none⟩ = some (.bool g1) /\ w'.cell? ⟨w.heap.size,1,none⟩ = some (.slice A1 n1 c1) /\ w'.cell? ⟨w.heap.size,2,none⟩ = some (.bool e1) /\ w'.cell? ⟨w.heap.size,3,none⟩ = some (.slice B1 m1 d1)) (put4 w' (w.heap.size + 1) x0 x1 x2 x3) from ⟨(cell_put4 (by omega) _ _ _ _).trans h.1,(cell_put4 (by omega) _ _ _ _).trans h.2.1,(cell_put4 (by omega) _ _ _ _).trans h.2.2.1,(cell_put4 (by omega) _ _ _ _).trans h.2.2.2⟩))
 have hB:=(Below.refl W0.heap.size W0).drew
 replace X1:=Hd (X1.out.below hB)
 replace X2:=Hd (X2.out.below hB)
 refine wp_region_held_drew (S:=fun w'=>w'.cell? ⟨w.heap.size,0,none⟩ = some (.bool g1) /\ w'.cell? ⟨w.heap.size,1,none⟩ = some (.slice A1 n1 c1) /\ w'.cell? ⟨w.heap.size,2,none⟩ = some (.bool e1) /\ w'.cell? ⟨w.heap.size,3,none⟩ = some (.slice B1 m1 d1)) (by kernel_rfl) (HT.out _ hB) (fun hH=>?_)
 clear hH
 generalize W0.drew = wr0 at *
 refine tk 0 3 (by first | assumption | exact HT.out _ hB) ?_
 try simp only [Act.put,tA,cZ,cS]
 refine tk 3 6 (by first | assumption | exact HT.out _ hB) ?_
 try simp only [Act.put,tA,cZ,cS]
 refine tk 1 4 (by first | assumption | exact HT.out _ hB) ?_
 try simp only [Act.put,tA,cZ,cS]
 refine tk 4 7 (by first | assumption | exact HT.out _ hB) ?_
 try simp only [Act.put,tA,cZ,cS]
 refine rd 2 (AllReadyH.cons rfl (fun K hK=>?_) AllReadyH.nil)
 (try simp only [gA]);(try simp only [gS]);(try simp only [gZ])
 go_simp
 (go_at_call 69;refine (abs_int _ n L _ X1.out (by omega)).mono ?_;rintro e wc1 ⟨⟨gt1,At1,nt1,ct1,rfl,hz⟩,hb⟩)
 replace X1:=Hd (X1.out.below hb)
 replace X2:=Hd (X2.out.below hb)
 replace hB:=Below.trans hB (hb.mono hB.size)
 have T1:=Hd hz
 refine hK.out _ _ (HT.out _ hB) (fun hH=>?_)
 clear hK K hH
 try simp only [Act.put,tA,cZ,cS]
 clear hb hz
 refine tk 5 8 (by first | assumption | exact HT.out _ hB) ?_
 try simp only [Act.put,tA,cZ,cS]
 refine rd 6 (AllReadyH.cons rfl (fun K hK=>?_) AllReadyH.nil)
 (try simp only [gA]);(try simp only [gS]);(try simp only [gZ])
 have R4:=BR.out.below hB
 obtain ⟨r0,r1,r2,r3,r4,r5,r6,r7,r8⟩:=id R4
 go_simp
 refine hK.out _ _ (HP.out _ (.bool gt1) (.slice At1 nt1 ct1) (.bool e1) (.slice B1 m1 d1) (HT.out _ hB)) (fun hH=>?_)
 clear hK K hH
 try simp only [Act.put,tA,cZ,cS]
 refine wpAnyH_done (by kernel_rfl) ?_ _
 go_wp2
 refine bodyPost_ret (v:=.agg #[.bool gt1,.slice At1 nt1 ct1,.bool e1,.slice B1 m1 d1]) (by simp [results,Tryz.results38,go_sem,r0,r1,r2,r3]) rfl ⟨⟨_,_,_,_,_,_,_,_,rfl,(Rat.mk' T1.out X2.out hd ((absI_gcd n d).trans hco)).put4 R4 _ _ _ _⟩,below_put4 (hw.trans (hB.mono hw.size)) (by omega) _ _ _ _⟩
theorem upN_pos {n:Int} (h:n ≠ 0) : 0 < upN n n:=by unfold upN;split <;> omega
def IBox (w:World) (b:Nat) (z:Int) (L:Nat) : Prop:=
 ∃ g A n c,Fx w b (.bool g) (.slice A n c) /\ Ival w (.agg #[.bool g,.slice A n c]) z L
theorem IBox.mk {w:World} {b:Nat} {g:Bool} {A:Option Addr} {n c:Nat} {z:Int} {L:Nat} (F:Fx w b (.bool g) (.slice A n c)) (V:Ival w (.agg #[.bool g,.slice A n c]) z L) : IBox w b z L:=⟨g,A,n,c,F,V⟩
theorem IBox.lt {w:World} {b:Nat} {z:Int} {L:Nat} (h:IBox w b z L) : b < w.heap.size:=by
 obtain ⟨g,A,n,c,F,_⟩:=h;exact F.2.2.2.2
theorem IBox.below {w w':World} {b:Nat} {z:Int} {L:Nat} (h:IBox w b z L) (hb:Below w.heap.size w w') : IBox w' b z L:=by
 obtain ⟨g,A,n,c,F,V⟩:=h;exact ⟨g,A,n,c,F.below hb,V.below hb⟩
theorem IBox.mono {w:World} {b:Nat} {z:Int} {L M:Nat} (h:IBox w b z L) (hl:L <= M) : IBox w b z M:=by
 obtain ⟨g,A,n,c,F,V⟩:=h;exact ⟨g,A,n,c,F,V.mono hl⟩
theorem IBox.new (w:World) {g:Bool} {A:Option Addr} {n c:Nat} {z:Int} {L:Nat} (t:TypeId) (V:Ival w (.agg #[.bool g,.slice A n c]) z L) : IBox (w.alloc (.cells #[.bool g,.slice A n c] t)) w.heap.size z L:=
 ⟨g,A,n,c,Fx.new w _ _ t,V.below (below_alloc _ _)⟩
theorem IBox.nought (w:World) (t:TypeId) (L:Nat) : IBox (w.alloc (.cells #[.bool false,.slice none 0 0] t)) w.heap.size 0 L:=IBox.new w t Ival.nought
theorem IBox.other {w:World} {b b':Nat} {y z:Int} {L M:Nat} (h:IBox w b z L) (F:IBox w b' y M) (hne:b' ≠ b) (u v:Value) : IBox ((w.setCell ⟨b',0,none⟩ u).setCell ⟨b',1,none⟩ v) b z L:=by
 obtain ⟨g,A,n,c,G,V⟩:=h;obtain ⟨g',A',n',c',G',_⟩:=F
 exact ⟨g,A,n,c,G.other hne u v,V.fx G' u v⟩
theorem IBox.store {w:World} {b:Nat} {y z:Int} {L M:Nat} (F:IBox w b y M) {g:Bool} {A:Option Addr} {n c:Nat} (V:Ival w (.agg #[.bool g,.slice A n c]) z L) : IBox ((w.setCell ⟨b,0,none⟩ (.bool g)).setCell ⟨b,1,none⟩ (.slice A n c)) b z L:=by
 obtain ⟨g',A',n',c',G',_⟩:=F
 exact ⟨g,A,n,c,G'.store _ _,V.fx G' _ _⟩
theorem Ival.at {w:World} {s:Value} {z:Int} {L:Nat} (h:Ival w s z L) {b:Nat} {y:Int} {M:Nat} (F:IBox w b y M) (u v:Value) : Ival ((w.setCell ⟨b,0,none⟩ u).setCell ⟨b,1,none⟩ v) s z L:=by
 obtain ⟨g',A',n',c',G',_⟩:=F
 exact h.fx G' u v
def PBox (n:Nat) (w:World) (x:Value) (z:Int) (L:Nat) : Prop:=∃ k,x = .pointer (some ⟨k,0,none⟩) /\ n <= k /\ IBox w k z L
theorem PBox.below {n:Nat} {w w':World} {x:Value} {z:Int} {L:Nat} (h:PBox n w x z L) (hb:Below w.heap.size w w') : PBox n w' x z L:=by
 obtain ⟨k,e,hk,F⟩:=h;exact ⟨k,e,hk,F.below hb⟩
theorem PBox.other {n:Nat} {w:World} {x:Value} {z y:Int} {L M k:Nat} (h:PBox n w x z L) (F:IBox w k y M) (hne:x ≠ .pointer (some ⟨k,0,none⟩)) (u v:Value) : PBox n ((w.setCell ⟨k,0,none⟩ u).setCell ⟨k,1,none⟩ v) x z L:=by
 obtain ⟨j,rfl,hj,G⟩:=h
 exact ⟨j,rfl,hj,G.other F (fun e=>hne (by rw [e])) u v⟩
theorem PBox.fresh {n:Nat} {w:World} {x:Value} {z:Int} {L:Nat} (h:PBox n w x z L) : x ≠ .pointer (some ⟨w.heap.size,0,none⟩):=by
 obtain ⟨j,rfl,hj,G⟩:=h
 intro e
 have:=G.lt
 injection e with e1
 injection e1 with e2
 injection e2 with e3
 omega
def QBox (w:World) (b:Nat) (n d:Int) (L:Nat) : Prop:=
 ∃ g1 A1 n1 c1 g2 A2 n2 c2,Fx4 w b (.bool g1) (.slice A1 n1 c1) (.bool g2) (.slice A2 n2 c2) /\ Rat w (.agg #[.bool g1,.slice A1 n1 c1,.bool g2,.slice A2 n2 c2]) n d L
theorem QBox.lt {w:World} {b:Nat} {n d:Int} {L:Nat} (h:QBox w b n d L) : b < w.heap.size:=by
 obtain ⟨g1,A1,n1,c1,g2,A2,n2,c2,F,_⟩:=h;exact F.lt
theorem QBox.below {w w':World} {b:Nat} {n d:Int} {L:Nat} (h:QBox w b n d L) (hb:Below w.heap.size w w') : QBox w' b n d L:=by
 obtain ⟨g1,A1,n1,c1,g2,A2,n2,c2,F,V⟩:=h
 exact ⟨g1,A1,n1,c1,g2,A2,n2,c2,F.below hb,V.below hb⟩
theorem QBox.new (w:World) {g1 g2:Bool} {A1 A2:Option Addr} {n1 c1 n2 c2:Nat} {n d:Int} {L:Nat} (t:TypeId) (V:Rat w (.agg #[.bool g1,.slice A1 n1 c1,.bool g2,.slice A2 n2 c2]) n d L) : QBox (w.alloc (.cells #[.bool g1,.slice A1 n1 c1,.bool g2,.slice A2 n2 c2] t)) w.heap.size n d L:=
 ⟨g1,A1,n1,c1,g2,A2,n2,c2,Fx4.new w _ _ _ _ t,V.below (below_alloc _ _)⟩
end Go.Proofs.YtbajnceoolkckaaGreat
