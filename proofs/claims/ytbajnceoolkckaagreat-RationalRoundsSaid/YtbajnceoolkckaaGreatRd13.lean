/- Of the proof of RationalRounds: Gcd, LawKit, Fx, MadeKit. -/
import Derived.Test.YtbajnceoolkckaaGreatRd10
import Derived.Test.YtbajnceoolkckaaGreatRd12
import Derived.Deep.DeepCutAuto
open Go.Lib renaming hid → Hd
set_option maxRecDepth 100000
set_option maxHeartbeats 16000000
namespace Go.Proofs.YtbajnceoolkckaaGreat
open Go.RowKit LM
theorem Num.tight {w:World} {u:Value} {z:Int} {L K:Nat} (h:Num w u z L) (hz:z < BB ^ K) : Num w u z K:=by
 obtain ⟨A,n,c,xs,rfl,hr,hd,ht,rfl,hn⟩:=h
 refine ⟨A,n,c,xs,rfl,hr,hd,ht,rfl,?_⟩
 by_cases h0:n = 0
 ·omega
 ·have h1:=val_ge hd ht (by rw [hr.1];exact h0)
  by_cases h2:n <= K
  ·exact h2
  ·exfalso
   have h3:BB ^ K <= BB ^ (xs.length - 1):=pow_le (by rw [hr.1];omega)
   omega
theorem Num.lt_pow {w:World} {u:Value} {z:Int} {L:Nat} (h:Num w u z L) : z < BB ^ L:=by
 obtain ⟨A,n,c,xs,rfl,hr,hd,ht,rfl,hn⟩:=h
 have h1:=(val_bounds hd).2
 have h2:BB ^ xs.length <= BB ^ L:=pow_le (by rw [hr.1];exact hn)
 omega
theorem gcd_ge (u v:Value) (x y:Int) (L:Nat) (w:World) (h:Num w u x L) (g:Num w v y L) (hL:L <= 1000000) (hL2:2 <= L) (hle:y <= x) :
  Calls Tryz.prog 135 #[u,v] w fun e w'=>(∃ r,e = .returned r /\ Num w' r (Int.gcd x y:Int) L) /\ Below w.heap.size w w':=by
 have HH:=Hd h
 have HG:=Hd g
 have hc:¬ cmpI x y < 0:=by rcases Int.lt_or_eq_of_le hle with h | h;rw [cmpI_gt h];decide;rw [cmpI_eq h.symm];decide
 have hx0:=h.nonneg
 have hy0:=g.nonneg
 have hxB:=h.lt_pow
 have hyB:=g.lt_pow
 have HXB:=Hd (show max x y < BB ^ L by omega)
 clear h g hxB hyB
 go_enter Tryz.func135,Tryz.ntmps135
 go_wp2_with fail
 refine (compare_num u v x y L L _ HH.out HG.out (by omega) (by omega)).mono ?_
 rintro e w1 ⟨rfl,k,rfl⟩
 go_wp2_with fail
 go_loopg [0,1] y.toNat (fun g av bv wr=>∃ x' y':Int,g = y'.toNat /\ Num wr av x' L /\ Num wr bv y' L /\ 0 <= y' /\ y' <= x' /\ Hid (x' <= max x y) /\ Hid (Int.gcd x' y' = Int.gcd x y) /\ Below w.heap.size w wr)
 case atStart=>exact ⟨x,y,rfl,HH.out.below (below_drewN (Below.refl _ _) k),HG.out.below (below_drewN (Below.refl _ _) k),by omega,by omega,Hd (by omega),Hd (rfl),below_drewN (Below.refl _ _) k⟩
 case round=>
  obtain ⟨x',y',rfl,hna,hnb,hy',hyx,hxm,hgc,hbw⟩:=hrel
  obtain ⟨A,n,c,xs,rfl,hr,hd,ht,hvx,hnL⟩:=id hna
  obtain ⟨B,m,d,ys,rfl,gr,gd,gt,hvy,hmL⟩:=id hnb
  have HNA:=Hd hna
  have HNB:=Hd hnb
  have hbs:=hbw.size
  by_cases hm2:2 < m
  ·have hm2':(2:Int) < (m:Int):=by omega
   have hmn:m <= n:=by
    rcases Nat.lt_or_ge n m with hl | hl
    ·have:=val_lt_of_length hd gd gt (by rw [hr.1,gr.1];exact hl);omega
    ·exact hl
   have hy0':y' ≠ 0:=by
    intro e
    rw [<- hvy] at e
    have:=(trimmed_zero gd gt).1 e
    rw [this] at gr
    have:=gr.1
    simp at this;omega
   have HRA:=Hd hr
   have HRB:=Hd gr
   have HVX:=Hd hvx
   have HVY:=Hd hvy
   clear hna hnb hvx hvy hr gr gt
   go_wp2_with fail
   refine (lead_any A B n c m d xs ys _ HRA.out HRB.out (by omega) (by omega) hmn hd ht gd (by rw [HVX.out,HVY.out];exact hyx)).mono ?_
   rintro e w2 ⟨⟨ev,u0,v0,u1,v1,rfl,hout⟩,hb2⟩
   rw [HVX.out,HVY.out] at hout
   have HOUT:=Hd hout
   have hb2':=hb2.trans ((below_alloc w2 (.cells #[.int .u64 u0,.int .u64 u1,.int .u64 v0,.int .u64 v1,.bool ev] 192)).mono hb2.size)
   have HNA2:=Hd (HNA.out.below hb2')
   have HNB2:=Hd (HNB.out.below hb2')
   have hbw2:=hbw.trans (hb2'.mono hbs)
   clear hout
   by_cases hv0:v0 = 0
   ·have hvb:(v0 == 0) = true:=by simpa using hv0
    clear hv0
    go_wp2_with fail
    refine (divide_any _ _ x' y' L L _ HNA2.out HNB2.out (by omega) (by omega) hy0').mono ?_
    rintro e w3 ⟨A1,n1,c1,B1,m1,d1,rfl,hq,hrm,hb3⟩
    have hm0:0 <= x' % y':=Int.emod_nonneg _ hy0'
    have hm1:x' % y' < y':=Int.emod_lt_of_pos _ (by omega)
    have HR:=Hd (hrm.tight (K:=L) (by have:=hxm.out;have:=HXB.out;omega))
    have HNB3:=Hd (HNB2.out.below hb3)
    have hbw3:=hbw2.trans (hb3.mono hbw2.size)
    have hg2:Int.gcd y' (x' % y') = Int.gcd x y:=by rw [<- hgc.out,Int.gcd_comm,Int.emod_def,Int.gcd_sub_mul_left_left]
    have HG2:=Hd hg2
    clear hq hrm hg2
    go_wp2_with fail
    go_roundg (x' % y').toNat
    case rel=>exact ⟨y',x' % y',rfl,HNB3.out,HR.out,hm0,by omega,Hd (by have:=hxm.out;omega),HG2,hbw3⟩
    case measure=>omega
   ·have hvb:(v0 == 0) = false:=by simpa using hv0
    have HV0:=Hd hv0
    clear hv0
    go_wp2_with fail
    refine (apply_any _ _ x' y' u0 v0 u1 v1 ev L _ HNA2.out HNB2.out (by omega) hyx HOUT.out HV0.out).mono ?_
    rintro e w3 ⟨⟨r1,r2,x2,y2,rfl,hr1,hr2,k1,k2,k3,k4,k5⟩,hb3⟩
    have HR1:=Hd hr1
    have HR2:=Hd hr2
    have HG2:=Hd (k5.trans hgc.out)
    have hbw3:=hbw2.trans (hb3.mono hbw2.size)
    clear hr1 hr2 k5
    go_wp2_with fail
    go_roundg y2.toNat
    case rel=>exact ⟨x2,y2,rfl,HR1.out,HR2.out,k1,k2,Hd (by have:=hxm.out;omega),HG2,hbw3⟩
    case measure=>omega
  ·have hm2':¬ (2:Int) < (m:Int):=by omega
   have hyB:y' < 18446744073709551616:=by
    have h1:=(val_bounds gd).2
    have h2:BB ^ ys.length <= BB ^ 2:=pow_le (by rw [gr.1];omega)
    have e:BB ^ 2 = 18446744073709551616:=by decide
    omega
   by_cases hm0:m = 0
   ·have hy00:y' = 0:=by rw [<- hvy];exact (trimmed_zero gd gt).2 (List.eq_nil_of_length_eq_zero (by rw [gr.1];exact hm0))
    have hz:((m:Int) == 0) = true:=by simp;omega
    have hfin:(Int.gcd x y:Int) = x':=by rw [<- hgc.out,hy00,Int.gcd_zero_right];omega
    have HF:=Hd hfin
    clear hna hnb hvx hvy hr gr gt hy00 hfin hm0
    go_wp2_with fail
    refine (clone_num _ x' L _ HNA.out (by omega)).mono ?_
    rintro e w2 ⟨r,rfl,hn2,hb2⟩
    have HN:=Hd hn2
    clear hn2
    go_wp2_with fail
    go_ret
    exact ⟨⟨_,rfl,by rw [HF.out];exact HN.out⟩,hbw.trans (hb2.mono hbs)⟩
   ·have hz:((m:Int) == 0) = false:=by simp;omega
    have hy0':y' ≠ 0:=by
     intro e
     rw [<- hvy] at e
     have:=(trimmed_zero gd gt).1 e
     rw [this] at gr
     have:=gr.1
     simp at this;omega
    clear hna hnb hvx hvy hr gr gt hm0
    go_wp2_with fail
    refine (divide_any _ _ x' y' L L _ HNA.out HNB.out (by omega) (by omega) hy0').mono ?_
    rintro e w3 ⟨A1,n1,c1,B1,m1,d1,rfl,hq,hrm,hb3⟩
    have hm0:0 <= x' % y':=Int.emod_nonneg _ hy0'
    have hm1:x' % y' < y':=Int.emod_lt_of_pos _ (by omega)
    have HR:=Hd hrm
    have HNB3:=Hd (HNB.out.below hb3)
    have hbw3:=hbw.trans (hb3.mono hbs)
    have hg2:Int.gcd y' (x' % y') = Int.gcd x y:=by rw [<- hgc.out,Int.gcd_comm,Int.emod_def,Int.gcd_sub_mul_left_left]
    have HG2:=Hd hg2
    clear hq hrm hg2
    go_wp2_with fail
    refine (low64_num _ y' L _ HNB3.out (by omega) hyB).mono ?_
    rintro e w4 ⟨rfl,hw4⟩
    subst hw4
    go_wp2_with fail
    refine (low64_num _ (x' % y') (L + 2) _ HR.out (by omega) (by omega)).mono ?_
    rintro e w4 ⟨rfl,hw4⟩
    subst hw4
    obtain ⟨r0,hr0⟩ : ∃ r0,x' % y' = r0:=⟨_,rfl⟩
    rw [hr0] at hm0 hm1 HG2 ⊢
    clear hr0 HR
    go_wp2_with fail
    go_loopw [10,11] (fun uv vv wr=>∃ p q:Int,uv = .int .u64 p /\ vv = .int .u64 q /\ 0 <= p /\ p < 18446744073709551616 /\ 0 <= q /\ q < 18446744073709551616 /\ Hid (Int.gcd p q = Int.gcd x y) /\ Below w.heap.size w wr) (fun _ vv _=>(intOf vv).toNat)
    case atStart=>exact ⟨y',r0,rfl,rfl,hy',hyB,hm0,by omega,HG2,hbw3⟩
    case round=>
     obtain ⟨p,q,rfl,rfl,hp0,hp1,hq0,hq1,hgpq,hbr⟩:=hrel
     by_cases hqz:q = 0
     ·have hqb:(q != 0) = false:=by simpa using hqz
      have hfin:(Int.gcd x y:Int) = p:=by rw [<- hgpq.out,hqz,Int.gcd_zero_right];omega
      have HF:=Hd hfin
      clear hqz hfin
      go_wp2_with fail
      refine (words64_any p _ hp0 hp1).mono ?_
      rintro e w5 ⟨r,rfl,hr5,hb5⟩
      have HN:=Hd hr5
      clear hr5
      go_wp2_with fail
      go_ret
      exact ⟨⟨_,rfl,by rw [HF.out];exact HN.out.mono hL2⟩,hbr.trans (hb5.mono hbr.size)⟩
     ·have hqb:(q != 0) = true:=by simpa using hqz
      have hqc:(q == 0) = false:=by simpa using hqz
      have hs0:0 <= p % q:=Int.emod_nonneg _ hqz
      have hs1:p % q < q:=Int.emod_lt_of_pos _ (by omega)
      have hg3:Int.gcd q (p % q) = Int.gcd x y:=by rw [<- hgpq.out,Int.gcd_comm,Int.emod_def,Int.gcd_sub_mul_left_left]
      have HG3:=Hd hg3
      clear hqz hg3
      go_wp2_with fail
      go_quiet (fail)
      go_wp2_with fail
      exact ⟨⟨q,p % q,rfl,rfl,hq0,hq1,hs0,by omega,HG3,below_drewN hbr _⟩,by simp [intOf];omega⟩
theorem gcd_lt (u v:Value) (x y:Int) (L:Nat) (w:World) (h:Num w u x L) (g:Num w v y L) (hL:L <= 1000000) (hL2:2 <= L) (hle:x < y) :
  Calls Tryz.prog 135 #[u,v] w fun e w'=>(∃ r,e = .returned r /\ Num w' r (Int.gcd x y:Int) L) /\ Below w.heap.size w w':=by
 have HH:=Hd h
 have HG:=Hd g
 have hc:cmpI x y < 0:=by rw [cmpI_lt hle];decide
 have hx0:=h.nonneg
 have hy0:=g.nonneg
 have hxB:=h.lt_pow
 have hyB:=g.lt_pow
 have HXB:=Hd (show max x y < BB ^ L by omega)
 clear h g hxB hyB
 go_enter Tryz.func135,Tryz.ntmps135
 go_wp2_with fail
 refine (compare_num u v x y L L _ HH.out HG.out (by omega) (by omega)).mono ?_
 rintro e w1 ⟨rfl,k,rfl⟩
 go_wp2_with fail
 go_loopg [0,1] x.toNat (fun g av bv wr=>∃ x' y':Int,g = y'.toNat /\ Num wr av x' L /\ Num wr bv y' L /\ 0 <= y' /\ y' <= x' /\ Hid (x' <= max x y) /\ Hid (Int.gcd x' y' = Int.gcd x y) /\ Below w.heap.size w wr)
 case atStart=>exact ⟨y,x,rfl,HG.out.below (below_drewN (Below.refl _ _) k),HH.out.below (below_drewN (Below.refl _ _) k),by omega,by omega,Hd (by omega),Hd (Int.gcd_comm y x),below_drewN (Below.refl _ _) k⟩
 case round=>
  obtain ⟨x',y',rfl,hna,hnb,hy',hyx,hxm,hgc,hbw⟩:=hrel
  obtain ⟨A,n,c,xs,rfl,hr,hd,ht,hvx,hnL⟩:=id hna
  obtain ⟨B,m,d,ys,rfl,gr,gd,gt,hvy,hmL⟩:=id hnb
  have HNA:=Hd hna
  have HNB:=Hd hnb
  have hbs:=hbw.size
  by_cases hm2:2 < m
  ·have hm2':(2:Int) < (m:Int):=by omega
   have hmn:m <= n:=by
    rcases Nat.lt_or_ge n m with hl | hl
    ·have:=val_lt_of_length hd gd gt (by rw [hr.1,gr.1];exact hl);omega
    ·exact hl
   have hy0':y' ≠ 0:=by
    intro e
    rw [<- hvy] at e
    have:=(trimmed_zero gd gt).1 e
    rw [this] at gr
    have:=gr.1
    simp at this;omega
   have HRA:=Hd hr
   have HRB:=Hd gr
   have HVX:=Hd hvx
   have HVY:=Hd hvy
   clear hna hnb hvx hvy hr gr gt
   go_wp2_with fail
   refine (lead_any A B n c m d xs ys _ HRA.out HRB.out (by omega) (by omega) hmn hd ht gd (by rw [HVX.out,HVY.out];exact hyx)).mono ?_
   rintro e w2 ⟨⟨ev,u0,v0,u1,v1,rfl,hout⟩,hb2⟩
   rw [HVX.out,HVY.out] at hout
   have HOUT:=Hd hout
   have hb2':=hb2.trans ((below_alloc w2 (.cells #[.int .u64 u0,.int .u64 u1,.int .u64 v0,.int .u64 v1,.bool ev] 192)).mono hb2.size)
   have HNA2:=Hd (HNA.out.below hb2')
   have HNB2:=Hd (HNB.out.below hb2')
   have hbw2:=hbw.trans (hb2'.mono hbs)
   clear hout
   by_cases hv0:v0 = 0
   ·have hvb:(v0 == 0) = true:=by simpa using hv0
    clear hv0
    go_wp2_with fail
    refine (divide_any _ _ x' y' L L _ HNA2.out HNB2.out (by omega) (by omega) hy0').mono ?_
    rintro e w3 ⟨A1,n1,c1,B1,m1,d1,rfl,hq,hrm,hb3⟩
    have hm0:0 <= x' % y':=Int.emod_nonneg _ hy0'
    have hm1:x' % y' < y':=Int.emod_lt_of_pos _ (by omega)
    have HR:=Hd (hrm.tight (K:=L) (by have:=hxm.out;have:=HXB.out;omega))
    have HNB3:=Hd (HNB2.out.below hb3)
    have hbw3:=hbw2.trans (hb3.mono hbw2.size)
    have hg2:Int.gcd y' (x' % y') = Int.gcd x y:=by rw [<- hgc.out,Int.gcd_comm,Int.emod_def,Int.gcd_sub_mul_left_left]
    have HG2:=Hd hg2
    clear hq hrm hg2
    go_wp2_with fail
    go_roundg (x' % y').toNat
    case rel=>exact ⟨y',x' % y',rfl,HNB3.out,HR.out,hm0,by omega,Hd (by have:=hxm.out;omega),HG2,hbw3⟩
    case measure=>omega
   ·have hvb:(v0 == 0) = false:=by simpa using hv0
    have HV0:=Hd hv0
    clear hv0
    go_wp2_with fail
    refine (apply_any _ _ x' y' u0 v0 u1 v1 ev L _ HNA2.out HNB2.out (by omega) hyx HOUT.out HV0.out).mono ?_
    rintro e w3 ⟨⟨r1,r2,x2,y2,rfl,hr1,hr2,k1,k2,k3,k4,k5⟩,hb3⟩
    have HR1:=Hd hr1
    have HR2:=Hd hr2
    have HG2:=Hd (k5.trans hgc.out)
    have hbw3:=hbw2.trans (hb3.mono hbw2.size)
    clear hr1 hr2 k5
    go_wp2_with fail
    go_roundg y2.toNat
    case rel=>exact ⟨x2,y2,rfl,HR1.out,HR2.out,k1,k2,Hd (by have:=hxm.out;omega),HG2,hbw3⟩
    case measure=>omega
  ·have hm2':¬ (2:Int) < (m:Int):=by omega
   have hyB:y' < 18446744073709551616:=by
    have h1:=(val_bounds gd).2
    have h2:BB ^ ys.length <= BB ^ 2:=pow_le (by rw [gr.1];omega)
    have e:BB ^ 2 = 18446744073709551616:=by decide
    omega
   by_cases hm0:m = 0
   ·have hy00:y' = 0:=by rw [<- hvy];exact (trimmed_zero gd gt).2 (List.eq_nil_of_length_eq_zero (by rw [gr.1];exact hm0))
    have hz:((m:Int) == 0) = true:=by simp;omega
    have hfin:(Int.gcd x y:Int) = x':=by rw [<- hgc.out,hy00,Int.gcd_zero_right];omega
    have HF:=Hd hfin
    clear hna hnb hvx hvy hr gr gt hy00 hfin hm0
    go_wp2_with fail
    refine (clone_num _ x' L _ HNA.out (by omega)).mono ?_
    rintro e w2 ⟨r,rfl,hn2,hb2⟩
    have HN:=Hd hn2
    clear hn2
    go_wp2_with fail
    go_ret
    exact ⟨⟨_,rfl,by rw [HF.out];exact HN.out⟩,hbw.trans (hb2.mono hbs)⟩
   ·have hz:((m:Int) == 0) = false:=by simp;omega
    have hy0':y' ≠ 0:=by
     intro e
     rw [<- hvy] at e
     have:=(trimmed_zero gd gt).1 e
     rw [this] at gr
     have:=gr.1
     simp at this;omega
    clear hna hnb hvx hvy hr gr gt hm0
    go_wp2_with fail
    refine (divide_any _ _ x' y' L L _ HNA.out HNB.out (by omega) (by omega) hy0').mono ?_
    rintro e w3 ⟨A1,n1,c1,B1,m1,d1,rfl,hq,hrm,hb3⟩
    have hm0:0 <= x' % y':=Int.emod_nonneg _ hy0'
    have hm1:x' % y' < y':=Int.emod_lt_of_pos _ (by omega)
    have HR:=Hd hrm
    have HNB3:=Hd (HNB.out.below hb3)
    have hbw3:=hbw.trans (hb3.mono hbs)
    have hg2:Int.gcd y' (x' % y') = Int.gcd x y:=by rw [<- hgc.out,Int.gcd_comm,Int.emod_def,Int.gcd_sub_mul_left_left]
    have HG2:=Hd hg2
    clear hq hrm hg2
    go_wp2_with fail
    refine (low64_num _ y' L _ HNB3.out (by omega) hyB).mono ?_
    rintro e w4 ⟨rfl,hw4⟩
    subst hw4
    go_wp2_with fail
    refine (low64_num _ (x' % y') (L + 2) _ HR.out (by omega) (by omega)).mono ?_
    rintro e w4 ⟨rfl,hw4⟩
    subst hw4
    obtain ⟨r0,hr0⟩ : ∃ r0,x' % y' = r0:=⟨_,rfl⟩
    rw [hr0] at hm0 hm1 HG2 ⊢
    clear hr0 HR
    go_wp2_with fail
    go_loopw [10,11] (fun uv vv wr=>∃ p q:Int,uv = .int .u64 p /\ vv = .int .u64 q /\ 0 <= p /\ p < 18446744073709551616 /\ 0 <= q /\ q < 18446744073709551616 /\ Hid (Int.gcd p q = Int.gcd x y) /\ Below w.heap.size w wr) (fun _ vv _=>(intOf vv).toNat)
    case atStart=>exact ⟨y',r0,rfl,rfl,hy',hyB,hm0,by omega,HG2,hbw3⟩
    case round=>
     obtain ⟨p,q,rfl,rfl,hp0,hp1,hq0,hq1,hgpq,hbr⟩:=hrel
     by_cases hqz:q = 0
     ·have hqb:(q != 0) = false:=by simpa using hqz
      have hfin:(Int.gcd x y:Int) = p:=by rw [<- hgpq.out,hqz,Int.gcd_zero_right];omega
      have HF:=Hd hfin
      clear hqz hfin
      go_wp2_with fail
      refine (words64_any p _ hp0 hp1).mono ?_
      rintro e w5 ⟨r,rfl,hr5,hb5⟩
      have HN:=Hd hr5
      clear hr5
      go_wp2_with fail
      go_ret
      exact ⟨⟨_,rfl,by rw [HF.out];exact HN.out.mono hL2⟩,hbr.trans (hb5.mono hbr.size)⟩
     ·have hqb:(q != 0) = true:=by simpa using hqz
      have hqc:(q == 0) = false:=by simpa using hqz
      have hs0:0 <= p % q:=Int.emod_nonneg _ hqz
      have hs1:p % q < q:=Int.emod_lt_of_pos _ (by omega)
      have hg3:Int.gcd q (p % q) = Int.gcd x y:=by rw [<- hgpq.out,Int.gcd_comm,Int.emod_def,Int.gcd_sub_mul_left_left]
      have HG3:=Hd hg3
      clear hqz hg3
      go_wp2_with fail
      go_quiet (fail)
      go_wp2_with fail
      exact ⟨⟨q,p % q,rfl,rfl,hq0,hq1,hs0,by omega,HG3,below_drewN hbr _⟩,by simp [intOf];omega⟩
theorem withSign_gcd (p q:Bool) (a b:Int) : Int.gcd (withSign p a) (withSign q b) = Int.gcd a b:=by
 cases p <;> cases q <;> simp [withSign]
theorem gcd_num (u v:Value) (x y:Int) (L:Nat) (w:World) (h:Num w u x L) (g:Num w v y L) (hL:L <= 1000000) (hL2:2 <= L) :
  Calls Tryz.prog 135 #[u,v] w fun e w'=>(∃ r,e = .returned r /\ Num w' r (Int.gcd x y:Int) L) /\ Below w.heap.size w w':=by
 rcases Int.lt_or_le x y with hlt | hle
 ·exact gcd_lt u v x y L w h g hL hL2 hlt
 ·exact gcd_ge u v x y L w h g hL hL2 hle
theorem Gcd_int (u v:Value) (x y:Int) (L:Nat) (w:World) (h:Ival w u x L) (g:Ival w v y L) (hL:L <= 1000000) (hL2:2 <= L) :
  Calls Tryz.prog 96 #[u,v] w fun e w'=>(∃ ng A2 n2 c2,e = .returned (.agg #[.bool ng,.slice A2 n2 c2]) /\ Ival w' (.agg #[.bool ng,.slice A2 n2 c2]) (Int.gcd x y:Int) L) /\ Below w.heap.size w w':=by
 obtain ⟨p,A,n,c,rfl⟩:=h.form
 obtain ⟨q,B,m,d,rfl⟩:=g.form
 obtain ⟨a,ha,ha0,rfl,ha1⟩:=h.parts
 obtain ⟨b,hb,hb0,rfl,hb1⟩:=g.parts
 rw [withSign_gcd]
 have hW:=below_boxed2 w (.cells #[.bool p,.slice A n c] 31) (.cells #[.bool q,.slice B m d] 31) (.cells #[.bool false,.slice none 0 0] 31)
 have HA:=Hd (ha.below hW)
 have HB:=Hd (hb.below hW)
 have hB0:=Below.refl (w.heap.size + 3) (((w.alloc (.cells #[.bool p,.slice A n c] 31)).alloc (.cells #[.bool q,.slice B m d] 31)).alloc (.cells #[.bool false,.slice none 0 0] 31))
 clear h g ha hb ha1 hb1
 go_enter Tryz.func96,Tryz.ntmps96
 go_wp2_with fail
 refine (gcd_num _ _ a b L _ HA.out HB.out hL hL2).mono ?_
 rintro e w1 ⟨⟨r,rfl,hr⟩,hb1⟩
 have HR:=Hd hr
 have hB1:=hB0.trans (hb1.mono (B':=w.heap.size + 3) (by simp))
 clear hr
 go_wp2_with fail
 refine (signed_out false _ _ L _ HR.out (by omega)).mono ?_
 rintro e w2 ⟨ng,A2,n2,c2,rfl,hv,hb2⟩
 have hB2:=hB1.trans (hb2.mono (B':=w.heap.size + 3) (by have:=hB1.size;simp at this;omega))
 obtain ⟨e1,e2,f1,f2⟩:=room2 hB2
 have HV:=Hd (show Ival w2 (.agg #[.bool ng,.slice A2 n2 c2]) (Int.gcd a b:Int) L from hv)
 clear hv
 go_wp2
 refine bodyPost_ret (v:=.agg #[.bool ng,.slice A2 n2 c2]) (by simp [results,Tryz.results96,go_sem,e1,e2]) rfl ⟨⟨_,_,_,_,rfl,HV.out.stored e1 e2 _ _⟩,?_⟩
 exact ((hW.trans (hB2.mono (by omega))).setCell (by show _ <= _;simp;omega) _).setCell (by show _ <= _;simp;omega) _
theorem lens2 (w:World) {g:Nat} (hg:w.heap.size = g) (p q:Bool) (A B:Option Addr) (n c m d:Nat) :
  Lens (w.alloc (.cells #[.bool p,.slice A n c,.bool q,.slice B m d] 24)) g 2 [n,m]:=by
 subst hg
 refine ⟨rfl,by simp,fun i hi=>?_⟩
 match i,hi with
 | 0,_=>exact ⟨p,A,c,World.cell?_alloc_at _ _ _ _ rfl,World.cell?_alloc_at _ _ _ _ rfl⟩
 | 1,_=>exact ⟨q,B,d,World.cell?_alloc_at _ _ _ _ rfl,World.cell?_alloc_at _ _ _ _ rfl⟩
def Bx (w:World) (b:Nat) (v0 v1:Value) : Prop:=b < w.heap.size /\ w.cell? ⟨b,0,none⟩ = some v0 /\ w.cell? ⟨b,1,none⟩ = some v1
theorem Bx.below {w w':World} {b:Nat} {v0 v1:Value} (h:Bx w b v0 v1) (hb:Below w.heap.size w w') : Bx w' b v0 v1:=
 ⟨Nat.lt_of_lt_of_le h.1 hb.size,(hb.cell (p:=⟨b,0,none⟩) h.1).trans h.2.1,(hb.cell (p:=⟨b,1,none⟩) h.1).trans h.2.2⟩
theorem Bx.new (w:World) (p:Bool) (u:Value) (t:TypeId) : Bx (w.alloc (.cells #[.bool p,u] t)) w.heap.size (.bool p) u:=
 ⟨by simp,World.cell?_alloc_at _ _ _ _ rfl,World.cell?_alloc_at _ _ _ _ rfl⟩
theorem Bx.new1 (w:World) (p q:Bool) (u v:Value) (t s:TypeId) : Bx ((w.alloc (.cells #[.bool p,u] t)).alloc (.cells #[.bool q,v] s)) w.heap.size (.bool p) u:=
 (Bx.new w p u t).below (below_alloc _ _)
theorem Bx.new2 (w:World) (p q:Bool) (u v:Value) (t s:TypeId) : Bx ((w.alloc (.cells #[.bool p,u] t)).alloc (.cells #[.bool q,v] s)) (w.heap.size + 1) (.bool q) v:=by
 have h:=Bx.new (w.alloc (.cells #[.bool p,u] t)) q v s
 have e:(w.alloc (.cells #[.bool p,u] t)).heap.size = w.heap.size + 1:=by simp
 rw [e] at h
 exact h
def Fx (w:World) (b:Nat) (v0 v1:Value) : Prop:=
 w.cell? ⟨b,0,none⟩ = some v0 /\ w.cell? ⟨b,1,none⟩ = some v1 /\ w.frozen? ⟨b,0,none⟩ = false /\ w.frozen? ⟨b,1,none⟩ = false /\ b < w.heap.size
theorem Fx.below {w w':World} {b:Nat} {v0 v1:Value} (h:Fx w b v0 v1) (hb:Below w.heap.size w w') : Fx w' b v0 v1:=by
 obtain ⟨h1,h2,h3,h4,h5⟩:=h
 exact ⟨(hb.cell (p:=⟨b,0,none⟩) h5).trans h1,(hb.cell (p:=⟨b,1,none⟩) h5).trans h2,(hb.frozen (p:=⟨b,0,none⟩) h5).trans h3,(hb.frozen (p:=⟨b,1,none⟩) h5).trans h4,Nat.lt_of_lt_of_le h5 hb.size⟩
theorem Fx.new (w:World) (v0 v1:Value) (t:TypeId) : Fx (w.alloc (.cells #[v0,v1] t)) w.heap.size v0 v1:=
 ⟨World.cell?_alloc_at _ _ _ _ rfl,World.cell?_alloc_at _ _ _ _ rfl,World.frozen?_alloc_at _ _ _ _ rfl,World.frozen?_alloc_at _ _ _ _ rfl,by simp⟩
theorem Fx.store {w:World} {b:Nat} {u0 u1:Value} (h:Fx w b u0 u1) (v0 v1:Value) : Fx ((w.setCell ⟨b,0,none⟩ v0).setCell ⟨b,1,none⟩ v1) b v0 v1:=by
 obtain ⟨h1,h2,h3,h4,h5⟩:=h
 refine ⟨?_,?_,by simpa using h3,by simpa using h4,by simpa using h5⟩
 ·rw [World.cell?_setCell_other _ _ _ _ (by simp)];exact World.cell?_setCell_same _ _ _ h1
 ·exact World.cell?_setCell_same _ _ _ ((World.cell?_setCell_other _ _ _ _ (by simp)).trans h2)
theorem Fx.other {w:World} {b c:Nat} {u0 u1:Value} (h:Fx w b u0 u1) (hne:c ≠ b) (v0 v1:Value) : Fx ((w.setCell ⟨c,0,none⟩ v0).setCell ⟨c,1,none⟩ v1) b u0 u1:=by
 obtain ⟨h1,h2,h3,h4,h5⟩:=h
 refine ⟨?_,?_,by simpa using h3,by simpa using h4,by simpa using h5⟩
 ·rw [World.cell?_setCell_other _ _ _ _ (by simp;try omega),World.cell?_setCell_other _ _ _ _ (by simp;try omega)];exact h1
 ·rw [World.cell?_setCell_other _ _ _ _ (by simp;try omega),World.cell?_setCell_other _ _ _ _ (by simp;try omega)];exact h2
theorem Rval.fx {w:World} {s:Value} {z:Int} {L:Nat} (h:Rval w s z L) {b:Nat} {g:Bool} {A:Option Addr} {n c:Nat} (F:Fx w b (.bool g) (.slice A n c)) (x y:Value) : Rval ((w.setCell ⟨b,0,none⟩ x).setCell ⟨b,1,none⟩ y) s z L:=by
 obtain ⟨neg,A',n',c',ds,e,hr,t⟩:=h
 refine ⟨neg,A',n',c',ds,e,(hr.setOther (fun u=>by rw [F.1];simp) x).setOther (fun u=>?_) y,t⟩
 rw [World.cell?_setCell_other _ _ _ _ (by simp),F.2.1];simp
theorem Ival.fx {w:World} {s:Value} {z:Int} {L:Nat} (h:Ival w s z L) {b:Nat} {g:Bool} {A:Option Addr} {n c:Nat} (F:Fx w b (.bool g) (.slice A n c)) (x y:Value) : Ival ((w.setCell ⟨b,0,none⟩ x).setCell ⟨b,1,none⟩ y) s z L:=by
 refine (h.setOther (fun u=>by rw [F.1];simp) x).setOther (fun u=>?_) y
 rw [World.cell?_setCell_other _ _ _ _ (by simp),F.2.1];simp
theorem Fx.new1 (w:World) (p q:Bool) (u v:Value) (t s:TypeId) : Fx ((w.alloc (.cells #[.bool p,u] t)).alloc (.cells #[.bool q,v] s)) w.heap.size (.bool p) u:=
 (Fx.new w (.bool p) u t).below (below_alloc _ _)
theorem Fx.new2 (w:World) (p q:Bool) (u v:Value) (t s:TypeId) : Fx ((w.alloc (.cells #[.bool p,u] t)).alloc (.cells #[.bool q,v] s)) (w.heap.size + 1) (.bool q) v:=by
 have h:=Fx.new (w.alloc (.cells #[.bool p,u] t)) (.bool q) v s
 have e:(w.alloc (.cells #[.bool p,u] t)).heap.size = w.heap.size + 1:=by simp
 rw [e] at h
 exact h
end Go.Proofs.YtbajnceoolkckaaGreat
