/- Of the proof of RationalRounds: RatQw, RatRm. -/
import Derived.Test.YtbajnceoolkckaaGreatRd35
set_option maxRecDepth 100000
set_option maxHeartbeats 16000000
namespace Go.Proofs.YtbajnceoolkckaaGreat
open Go.RowKit LM
theorem RQ.fx {w:World} {s:Value} {n0 d0:Int} {L:Nat} (h:RQ w s n0 d0 L) {b:Nat} {p:Bool} {A:Option Addr} {n c:Nat} (F:Fx w b (.bool p) (.slice A n c)) (x0 x1:Value) : RQ ((w.setCell ⟨b,0,none⟩ x0).setCell ⟨b,1,none⟩ x1) s n0 d0 L:=by
 obtain ⟨g1,A1,n1,c1,g2,A2,n2,c2,e,h1,h2,h3⟩:=h
 exact ⟨g1,A1,n1,c1,g2,A2,n2,c2,e,h1.fx F _ _,h2.fx F _ _,h3⟩
theorem rd_delta {k N D:Int} (hD:0 < D) (h0:0 <= k) (h3:k <= 3) : -D < N - rdI k N D * D /\ N - rdI k N D * D < D /\ (k = 0 -> 0 <= N - rdI k N D * D) /\ (k = 1 -> N - rdI k N D * D <= 0) /\
  (k = 2 -> (0 <= N -> 0 <= N - rdI k N D * D) /\ (N <= 0 -> N - rdI k N D * D <= 0)) /\ (k = 3 -> 2 * (N - rdI k N D * D) <= D /\ -D <= 2 * (N - rdI k N D * D)):=by
 have hm0:=Int.emod_nonneg N (show D ≠ 0 by omega)
 have hm1:=Int.emod_lt_of_pos N hD
 have hdv:=Int.emod_add_mul_ediv N D
 have hfn:=floor_neg (p:=N) hD
 unfold rdI
 have hmul:D * (N / D) = N / D * D:=Int.mul_comm _ _
 have hz:N = 0 -> N / D = 0:=fun e=>by rw [e];exact Int.zero_ediv _
 rw [hmul] at hdv
 clear hmul
 generalize N / D = f at *
 generalize N % D = m at *
 have hf1:(f + 1) * D = f * D + D:=by rw [Int.add_mul,Int.one_mul]
 have hz2:N = 0 -> f * D = 0:=fun e=>by rw [hz e,Int.zero_mul]
 by_cases hm2:m = 0
 ·rw [if_pos hm2]
  refine ⟨by omega,by omega,fun _=>by omega,fun _=>by omega,fun _=>⟨fun _=>by omega,fun _=>by omega⟩,fun _=>by omega⟩
 ·rw [if_neg hm2]
  by_cases hg:goesUp k f (cmpI (m + m) D) = true
  ·rw [if_pos hg,hf1]
   refine ⟨by omega,by omega,fun hk=>?_,fun _=>by omega,fun hk=>⟨fun hN=>?_,fun _=>by omega⟩,fun hk=>?_⟩
   ·subst hk;exact absurd (show false = true from hg) (by decide)
   ·subst hk
    have h1:f < 0:=of_decide_eq_true (show decide (f < 0) = true from hg)
    have h2:=hfn.1 h1;omega
   ·subst hk
    have hd:(decide (0 < cmpI (m + m) D) || (decide (cmpI (m + m) D = 0) && decide (f % 2 = 1))) = true:=hg
    have h2:¬ m + m < D:=by
     intro h;rw [cmpI_lt h] at hd;simp at hd
    omega
  ·rw [if_neg hg]
   refine ⟨by omega,by omega,fun _=>by omega,fun hk=>?_,fun hk=>⟨fun _=>by omega,fun hN=>?_⟩,fun hk=>?_⟩
   ·subst hk;exact absurd rfl hg
   ·subst hk
    have h1:¬ f < 0:=fun h=>hg (decide_eq_true h)
    have h2:¬ N < 0:=fun h=>h1 (hfn.2 h)
    have h4:=hz (by omega)
    omega
   ·subst hk
    have h2:¬ D < m + m:=by
     intro h
     apply hg
     show (decide (0 < cmpI (m + m) D) || (decide (cmpI (m + m) D = 0) && decide (f % 2 = 1))) = true
     rw [cmpI_gt h];rfl
    omega
def RoundOk (k z u s RN RD:Int) : Prop:=
 absI RN * s < absI u * RD /\ (k = 0 -> RN ≠ 0 -> cmpI RN 0 ≠ -cmpI u 0) /\ (k = 1 -> RN ≠ 0 -> cmpI RN 0 ≠ cmpI u 0) /\ (k = 2 -> RN ≠ 0 -> cmpI RN 0 = cmpI z 0) /\
 (k = 3 -> ∀ N2 D2:Int,0 < D2 -> N2 * (RD * RD) = (RN * RD + RN * RD) * D2 -> absI N2 * s <= absI u * D2)
theorem absI_mul_pos {a b:Int} (hb:0 < b) : absI (a * b) = absI a * b:=by
 unfold absI
 by_cases h:a < 0
 ·rw [if_pos h,if_pos (Int.mul_neg_of_neg_of_pos h hb),Int.neg_mul]
 ·rw [if_neg h,if_neg (by have:=Int.mul_nonneg (show 0 <= a by omega) (Int.le_of_lt hb);omega)]
theorem sign_mul_pos {a b:Int} (hb:0 < b) : cmpI (a * b) 0 = cmpI a 0:=by
 have h:cmpI (b * a) (b * 0) = cmpI a 0:=cmp_mul hb
 rw [Int.mul_zero,Int.mul_comm] at h;exact h
theorem round_ok {k z t u s:Int} (ht:0 < t) (hs:0 < s) (hu:u ≠ 0) (h0:0 <= k) (h3:k <= 3) : RoundOk k z u s (quN k z t u s) (quD k z t u s):=by
  have hE:quE k u = 0:=(if_neg (by omega)).trans (if_neg hu)
  have hut:u * t ≠ 0:=by intro e;rcases Int.mul_eq_zero.1 e with h | h <;> omega
  have hQ:quQ k z t u s = rdI k (upN (z * s) (u * t)) (upN (u * t) (u * t)):=if_pos hE
  have hRN:quN k z t u s = newN (z * s + -(quQ k z t u s * u) * t) (t * s):=if_pos hE
  have hRD:quD k z t u s = newD (z * s + -(quQ k z t u s * u) * t) (t * s):=if_pos hE
  have hts:0 < t * s:=Int.mul_pos ht hs
  obtain ⟨d0,d1,d2,d3,d4,d5⟩:=rd_delta (k:=k) (N:=upN (z * s) (u * t)) (D:=upN (u * t) (u * t)) (up_pos hut) h0 h3
  have hcr:=new_cross (x:=z * s + -(quQ k z t u s * u) * t) (y:=t * s) (by omega)
  have hDp:=newD_pos (z * s + -(quQ k z t u s * u) * t) (t * s)
  rw [<- hRN,<- hRD] at hcr
  rw [<- hRD] at hDp
  rw [<- hQ] at d0 d1 d2 d3 d4 d5
  generalize quN k z t u s = RN at *
  generalize quD k z t u s = RD at *
  generalize quQ k z t u s = q at *
  -- the remainder's sign and size
  have hut0:u * t < 0 ↔ u < 0:=by
    constructor
    · intro h
      rcases Int.lt_or_le u 0 with h1 | h1
      · exact h1
      · have:=Int.mul_nonneg h1 (Int.le_of_lt ht);omega
    · intro h;exact Int.mul_neg_of_neg_of_pos h ht
  have hq:q * u * t = q * (u * t):=Int.mul_assoc _ _ _
  have hR:z * s + -(q * u) * t = upN (upN (z * s) (u * t) - q * upN (u * t) (u * t)) u:=by
    rw [Int.neg_mul,hq]
    unfold upN
    by_cases h:u < 0
    · rw [if_pos h,if_pos (hut0.2 h),if_pos (hut0.2 h),Int.mul_neg];omega
    · rw [if_neg h,if_neg (fun e=>h (hut0.1 e)),if_neg (fun e=>h (hut0.1 e))];omega
  have hDa:upN (u * t) (u * t) = absI u * t:=by
    rw [<- absI_mul_pos ht];rfl
  have hNs:(0 < z -> u < 0 -> upN (z * s) (u * t) <= 0) /\ (0 < z -> ¬ u < 0 -> 0 <= upN (z * s) (u * t)) /\ (z <= 0 -> u < 0 -> 0 <= upN (z * s) (u * t)) /\ (z <= 0 -> ¬ u < 0 -> upN (z * s) (u * t) <= 0):=by
    have p1:0 < z -> 0 < z * s:=fun h=>Int.mul_pos h hs
    have p2:z <= 0 -> z * s <= 0:=fun h=>Int.mul_nonpos_of_nonpos_of_nonneg h (Int.le_of_lt hs)
    unfold upN
    refine ⟨fun a b=>?_,fun a b=>?_,fun a b=>?_,fun a b=>?_⟩
    · rw [if_pos (hut0.2 b)];have:=p1 a;omega
    · rw [if_neg (fun e=>b (hut0.1 e))];have:=p1 a;omega
    · rw [if_pos (hut0.2 b)];have:=p2 a;omega
    · rw [if_neg (fun e=>b (hut0.1 e))];have:=p2 a;omega
  have hz0:z = 0 -> upN (z * s) (u * t) = 0:=fun e=>by rw [e,Int.zero_mul];unfold upN;split <;> rfl
  generalize upN (z * s) (u * t) = NN at *
  generalize upN (u * t) (u * t) = DD at *
  obtain ⟨dl,hdl⟩ : ∃ dl,NN - q * DD = dl:=⟨_,rfl⟩
  rw [hdl] at d0 d1 d2 d3 d4 d5 hR
  rw [hR] at hcr
  have hab:absI (upN dl u) = absI dl:=by
    by_cases h:u < 0
    · rw [show upN dl u = -dl from if_pos h];unfold absI;split <;> split <;> omega
    · rw [show upN dl u = dl from if_neg h]
  have hRsg:cmpI RN 0 = cmpI (upN dl u) 0:=by
    rw [<- sign_mul_pos (a:=RN) hts,hcr,sign_mul_pos hDp]
  have hRz:RN ≠ 0 -> dl ≠ 0:=by
    intro h e
    apply h
    rw [e] at hcr
    have e1:upN 0 u = 0:=by unfold upN;split <;> rfl
    rw [e1,Int.zero_mul] at hcr
    rcases Int.mul_eq_zero.1 hcr with h1 | h1 <;> omega
  have habs:absI RN * (t * s) = absI dl * RD:=by
    rw [<- absI_mul_pos hts,hcr,absI_mul_pos hDp,hab]
  refine ⟨?_,?_,?_,?_,?_⟩
  · have h1:absI dl < DD:=by unfold absI;split <;> omega
    have h2:absI dl * RD < DD * RD:=Int.mul_lt_mul_of_pos_right h1 hDp
    rw [<- habs,hDa] at h2
    apply Int.lt_of_mul_lt_mul_right (a:=t) ?_ (Int.le_of_lt ht)
    calc absI RN * s * t = absI RN * (t * s):=by grind
      _ < absI u * t * RD:=h2
      _ = absI u * RD * t:=by grind
  · intro hk hn
    have h1:=d2 hk
    have h2:=hRz hn
    rw [hRsg]
    unfold upN
    by_cases h:u < 0
    · rw [if_pos h,cmpI_lt (show -dl < 0 by omega),cmpI_lt h];decide
    · rw [if_neg h,cmpI_gt (show 0 < dl by omega),cmpI_gt (show 0 < u by omega)];decide
  · intro hk hn
    have h1:=d3 hk
    have h2:=hRz hn
    rw [hRsg]
    unfold upN
    by_cases h:u < 0
    · rw [if_pos h,cmpI_gt (show 0 < -dl by omega),cmpI_lt h];decide
    · rw [if_neg h,cmpI_lt (show dl < 0 by omega),cmpI_gt (show 0 < u by omega)];decide
  · intro hk hn
    obtain ⟨h1,h4⟩:=d4 hk
    have h2:=hRz hn
    rw [hRsg]
    unfold upN
    by_cases h:u < 0
    · rw [if_pos h]
      rcases Int.lt_trichotomy z 0 with hz | hz | hz
      · have:=h1 (hNs.2.2.1 (by omega) h)
        rw [cmpI_lt (show -dl < 0 by omega),cmpI_lt hz]
      · have e:=hz0 hz
        have a1:=h1 (by omega)
        have a2:=h4 (by omega)
        exact absurd (by omega) h2
      · have:=h4 (hNs.1 hz h)
        rw [cmpI_gt (show 0 < -dl by omega),cmpI_gt hz]
    · rw [if_neg h]
      rcases Int.lt_trichotomy z 0 with hz | hz | hz
      · have:=h4 (hNs.2.2.2 (by omega) h)
        rw [cmpI_lt (show dl < 0 by omega),cmpI_lt hz]
      · have e:=hz0 hz
        have a1:=h1 (by omega)
        have a2:=h4 (by omega)
        exact absurd (by omega) h2
      · have:=h1 (hNs.2.1 hz h)
        rw [cmpI_gt (show 0 < dl by omega),cmpI_gt hz]
  · intro hk N2 D2 hD2 hh
    obtain ⟨h1,h2⟩:=d5 hk
    have h5:2 * absI dl <= DD:=by unfold absI;split <;> omega
    have h6:N2 * RD = 2 * RN * D2:=by
      apply Int.eq_of_mul_eq_mul_right (a:=RD) (by omega)
      calc N2 * RD * RD = N2 * (RD * RD):=by grind
        _ = (RN * RD + RN * RD) * D2:=hh
        _ = 2 * RN * D2 * RD:=by grind
    have h7:absI N2 * RD = 2 * absI RN * D2:=by
      rw [<- absI_mul_pos hDp,h6,absI_mul_pos hD2]
      have:absI (2 * RN) = 2 * absI RN:=by rw [Int.mul_comm 2 RN,absI_mul_pos (by decide),Int.mul_comm]
      rw [this]
    have h8:2 * absI dl * (RD * D2) <= DD * (RD * D2):=Int.mul_le_mul_of_nonneg_right h5 (Int.le_of_lt (Int.mul_pos hDp hD2))
    apply Int.le_of_mul_le_mul_right (a:=t * RD) ?_ (Int.mul_pos ht hDp)
    calc absI N2 * s * (t * RD) = (absI N2 * RD) * (t * s):=by grind
      _ = 2 * absI RN * D2 * (t * s):=by rw [h7]
      _ = 2 * (absI RN * (t * s)) * D2:=by grind
      _ = 2 * absI dl * (RD * D2):=by rw [habs];grind
      _ <= DD * (RD * D2):=h8
      _ = absI u * D2 * (t * RD):=by rw [hDa];grind
theorem ceil_floor {z t u s:Int} (ht:0 < t) (hu:u ≠ 0) : -quQ 0 (-z) t u s = quQ 1 z t u s:=by
 have hE0:quE 0 u = 0:=(if_neg (by omega)).trans (if_neg hu)
 have hE1:quE 1 u = 0:=(if_neg (by omega)).trans (if_neg hu)
 have hut:u * t ≠ 0:=by intro e;rcases Int.mul_eq_zero.1 e with h | h <;> omega
 have hD:=up_pos hut
 have a0:quQ 0 (-z) t u s = rdI 0 (upN (-z * s) (u * t)) (upN (u * t) (u * t)):=if_pos hE0
 have a1:quQ 1 z t u s = rdI 1 (upN (z * s) (u * t)) (upN (u * t) (u * t)):=if_pos hE1
 have hn:upN (-z * s) (u * t) = -upN (z * s) (u * t):=by rw [Int.neg_mul];unfold upN;split <;> omega
 rw [a0,a1,hn]
 generalize upN (z * s) (u * t) = N at *
 generalize upN (u * t) (u * t) = D at *
 obtain ⟨b0,b1,b2,_⟩:=rd_delta (k:=0) (N:=-N) (D:=D) hD (by decide) (by decide)
 obtain ⟨c0,c1,_,c3,_⟩:=rd_delta (k:=1) (N:=N) (D:=D) hD (by decide) (by decide)
 replace b2:=b2 rfl
 replace c3:=c3 rfl
 generalize rdI 0 (-N) D = a at *
 generalize rdI 1 N D = b at *
 have h1:-D < (a + b) * D:=by rw [Int.add_mul];omega
 have h2:(a + b) * D < D:=by rw [Int.add_mul];omega
 have h3:a + b = 0:=by
  rcases Int.lt_trichotomy (a + b) 0 with h | h | h
  ·have:(a + b) * D <= -1 * D:=Int.mul_le_mul_of_nonneg_right (by omega) (Int.le_of_lt hD)
   omega
  ·exact h
  ·have:1 * D <= (a + b) * D:=Int.mul_le_mul_of_nonneg_right (by omega) (Int.le_of_lt hD)
   omega
 omega
end Go.Proofs.YtbajnceoolkckaaGreat
