/- Of the proof of RationalActs: Root, RatR2, RatV. -/
import Derived.Test.YtbajnceoolkckaaGreatRa36
import Derived.Test.YtbajnceoolkckaaGreatRa35
open List renaming getElem_toArray → gA, getElem_cons_succ → gS, getElem_cons_zero → gZ, setIfInBounds_toArray → tA, set_cons_zero → cZ, set_cons_succ → cS
open Go.Lib renaming hid → Hd
set_option maxRecDepth 100000
set_option maxHeartbeats 16000000
namespace Go.Proofs.YtbajnceoolkckaaGreat
open Go.RowKit LM
theorem Num.cut {w:World} {u:Value} {z:Int} {L K:Nat} (h:Num w u z L) (hz:z < BB ^ K) : Num w u z K:=by
 obtain ⟨A,n,c,xs,rfl,hr,hd,ht,rfl,hn⟩:=h
 refine ⟨A,n,c,xs,rfl,hr,hd,ht,rfl,?_⟩
 by_cases h0:n = 0
 ·omega
 ·have h1:=val_ge hd ht (by rw [hr.1];exact h0)
  by_cases h2:n <= K
  ·exact h2
  ·exfalso
   have h3:BB ^ K <= BB ^ (xs.length - 1):=pow_le (by rw [hr.1];omega)
   omega
theorem root_num (u:Value) (z:Int) (L:Nat) (w:World) (h:Num w u z L) (hL:L <= 30000) :
  Calls Tryz.prog 163 #[u] w fun e w'=>(∃ v r,e = .returned v /\ Num w' v r (L + 1) /\ IsRoot z r) /\ Below w.heap.size w w':=by
 have hz0:=h.nonneg
 obtain ⟨A,n,c,xs,rfl,hr,hd,ht,hv,hn⟩:=id h
 have HH:=Hd h
 by_cases hn0:n = 0
 ·have hz:z = 0:=by rw [<- hv];exact (trimmed_zero hd ht).2 (List.eq_nil_of_length_eq_zero (by rw [hr.1];exact hn0))
  have HZ:=Hd hz
  subst hn0
  clear h hr hd ht hv hz
  go_enter Tryz.func163,Tryz.ntmps163
  go_wp2_with fail
  go_ret
  refine ⟨⟨_,0,rfl,⟨none,0,0,[],rfl,Row.nil_,Dig.nil,.inl rfl,rfl,Nat.zero_le _⟩,?_⟩,Below.refl _ _⟩
  rw [HZ.out];exact ⟨by omega,by omega,by omega⟩
 ·have hL1:1 <= L:=by omega
  have h1:((n:Int) == 0) = false:=by simp;omega
  have hzp:z ≠ 0:=by
   intro e
   rw [<- hv] at e
   have:=(trimmed_zero hd ht).1 e
   rw [this] at hr
   have:=hr.1
   simp at this;omega
  clear h hr hd ht hv
  go_enter Tryz.func163,Tryz.ntmps163
  go_wp2_with fail
  have hA:=below_alloc w (.cells #[.int .u32 1] 135)
  refine (length_num _ z L _ (HH.out.below hA) (by omega)).mono ?_
  rintro e w1 ⟨⟨k,rfl,hlen,hk⟩,rfl⟩
  obtain ⟨m,hm⟩ : ∃ m,(k + 1) / 2 = m:=⟨_,rfl⟩
  have t1:((k:Int) + 1).tdiv 2 = (m:Int):=by rw [Int.tdiv_eq_ediv_of_nonneg (by omega)];omega
  have t2:((k:Int) + 1) / 2 = (m:Int):=by omega
  have hzk:z < 2 ^ k:=by
   rcases hlen with h | h
   ·exact absurd h.1 hzp
   ·exact h.2.2
  have hst:=newton_start hzk
  rw [hm] at hst
  have hm1:m <= 16 * L:=by omega
  have hX0:(2:Int) ^ m < BB ^ L:=by
   rw [BB_two]
   have h1:=two_mono (show m + 1 <= 32 * L by omega)
   have h2:=two_pos m
   rw [Int.pow_succ] at h1
   omega
  have h1row:Num (w.alloc (.cells #[.int .u32 1] 135)) (.slice (some ⟨w.heap.size,0,none⟩) 1 1) 1 1:=
   ⟨_,_,_,[1],rfl,row_one w 135,Dig.one (by decide) (by decide),.inr (by simp),by simp [val],Nat.le_refl _⟩
  have H1:=Hd h1row
  have HX0:=Hd hX0
  have HST:=Hd hst
  clear hm hlen hzk h1row hX0 hst
  go_wp2_with fail
  refine (up_num _ 1 1 m _ H1.out (by omega) (by omega)).mono ?_
  rintro e w2 ⟨v2,rfl,hv2,hb2⟩
  have hB2:=hA.trans (hb2.mono hA.size)
  rw [Int.one_mul] at hv2
  have HV2:=Hd (hv2.cut HX0.out)
  clear hv2
  go_wp2_with fail
  go_loopg [3] (2 ^ m:Int).toNat (fun g xv wr=>∃ x:Int,g = x.toNat /\ Num wr xv x L /\ 0 < x /\ Hid (z < (x + 1) * (x + 1)) /\ Hid (x <= 2 ^ m) /\ Below w.heap.size w wr)
  case atStart=>exact ⟨_,rfl,HV2.out,two_pos m,HST,Hd (Int.le_refl _),hB2⟩
  case round=>
   obtain ⟨x,rfl,hnx,hx0,hzx,hxm,hbw⟩:=hrel
   have HNX:=Hd hnx
   have HZ:=HH.out.below hbw
   have HZN:=Hd HZ
   have hq0:0 <= z / x:=Int.ediv_nonneg hz0 (by omega)
   clear hnx HZ
   go_wp2_with fail
   refine (divide_any _ _ z x L L _ HZN.out HNX.out (by omega) (by omega) (by omega)).mono ?_
   rintro e w3 ⟨A1,n1,c1,B1,m1,d1,rfl,hq,hr,hb3⟩
   have HQ:=Hd hq
   have HNX3:=Hd (HNX.out.below hb3)
   clear hq hr
   go_wp2_with fail
   refine (add_num _ _ x (z / x) L (L + 2) _ HNX3.out HQ.out (by omega) (by omega)).mono ?_
   rintro e w4 ⟨v4,rfl,hv4,hb4⟩
   have HV4:=Hd hv4
   have HNX4:=Hd (HNX3.out.below hb4)
   clear hv4
   go_wp2_with fail
   refine (down_num _ _ _ 1 _ HV4.out (by omega) (by omega)).mono ?_
   rintro e w5 ⟨v5,rfl,hv5,hb5⟩
   obtain ⟨lost,hlost⟩ : ∃ lost,decide ((x + z / x) % 2 ^ 1 ≠ 0) = lost:=⟨_,rfl⟩
   rw [hlost]
   clear hlost
   obtain ⟨y,hy⟩ : ∃ y,(x + z / x) / 2 = y:=⟨_,rfl⟩
   have e2:(2:Int) ^ 1 = 2:=by decide
   rw [e2,hy] at hv5
   have HY:=Hd hy
   have HV5:=Hd hv5
   have HNX5:=Hd (HNX4.out.below hb5)
   have hbw5:=hbw.trans ((hb3.trans ((hb4.trans (hb5.mono hb4.size)).mono hb3.size)).mono hbw.size)
   clear hv5 hy e2
   go_wp2_with fail
   refine (compare_num _ _ y x (max L (L + 2) + 1) L _ HV5.out HNX5.out (by omega) (by omega)).mono ?_
   rintro e w6 ⟨rfl,q,rfl⟩
   by_cases hge:x <= y
   ·have hc:0 <= cmpI y x:=by rcases Int.lt_or_eq_of_le hge with h | h;rw [cmpI_gt h];decide;rw [cmpI_eq h.symm];decide
    have hdone:=newton_done hz0 hx0 hzx.out (by rw [HY.out];exact hge)
    have HD:=Hd hdone
    clear hdone hge
    go_wp2_with fail
    go_ret
    exact ⟨⟨_,x,rfl,(HNX5.out.mono (by omega)).below (below_drewN (Below.refl _ _) q),HD.out⟩,below_drewN hbw5 q⟩
   ·have hc:¬ 0 <= cmpI y x:=by rw [cmpI_lt (by omega)];decide
    have hlow:=newton_low (y:=y) hz0 hx0 HY.out.symm
    have hy0:0 < y:=by
     by_cases h0:0 < y
     ·exact h0
     ·exfalso
      have h1:0 <= (x + z / x) / 2:=by omega
      rw [HY.out] at h1
      obtain rfl:y = 0:=by omega
      simp at hlow
      omega
    have hyX:y < BB ^ L:=by have:=hxm.out;have:=HX0.out;omega
    have HL:=Hd hlow
    have HV6:=Hd ((HV5.out.cut hyX).below (below_drewN (Below.refl _ _) q))
    have hyx:y < x:=by omega
    clear hlow hyX hge
    go_wp2_with fail
    go_roundg y.toNat
    case rel=>exact ⟨y,rfl,HV6.out,hy0,HL,Hd (by have:=hxm.out;omega),below_drewN hbw5 q⟩
    case measure=>omega
def RootOf (x r:Int) : Prop:=(x < 0 /\ r = 0) \/ (0 <= x /\ IsRoot x r)
def rootE (x:Int) : Int:=if x < 0 then 1 else 0
theorem RootOf.same {x r s:Int} (h:RootOf x r) (g:RootOf x s) : r = s:=by
 rcases h with ⟨h1,h2⟩ | ⟨h1,h2⟩ <;> rcases g with ⟨g1,g2⟩ | ⟨g1,g2⟩
 ·omega
 ·omega
 ·omega
 ·exact h2.same g2
theorem Root_int (u:Value) (x:Int) (L:Nat) (w:World) (h:Ival w u x L) (hL:L <= 30000) :
  Calls Tryz.prog 133 #[u] w fun e w'=>(∃ ng A2 n2 c2 r,e = .returned (.tuple #[.agg #[.bool ng,.slice A2 n2 c2],.int .i64 (rootE x)]) /\ Ival w' (.agg #[.bool ng,.slice A2 n2 c2]) r (L + 1) /\ RootOf x r) /\ Below w.heap.size w w':=by
 obtain ⟨p,A,m,c,rfl⟩:=h.form
 obtain ⟨a,ha,ha0,rfl,ha1⟩:=h.parts
 have hW:=below_two w (.cells #[.bool p,.slice A m c] 31) (.cells #[.bool false,.slice none 0 0] 31)
 cases p with
 | true=>
  have hx:withSign true a < 0:=by have:=ha1 rfl;simp [withSign];omega
  have hE:rootE (withSign true a) = 1:=if_pos hx
  rw [hE]
  have HX:=Hd hx
  clear hx hE h ha ha1
  obtain ⟨e1,e2,f1,f2⟩:=room1 (Below.refl (w.heap.size + 2) ((w.alloc (.cells #[.bool true,.slice A m c] 31)).alloc (.cells #[.bool false,.slice none 0 0] 31)))
  go_enter Tryz.func133,Tryz.ntmps133
  go_wp2
  refine bodyPost_ret (v:=.tuple #[.agg #[.bool false,.slice none 0 0],.int .i64 1]) (by simp [results,Tryz.results133,go_sem,e1,e2]) rfl ⟨⟨_,_,_,_,0,rfl,Ival.nought,.inl ⟨HX.out,rfl⟩⟩,?_⟩
  exact hW
 | false=>
  have hx:withSign false a = a:=rfl
  have hE:rootE a = 0:=if_neg (by omega)
  rw [hx,hE]
  have HA:=Hd ha
  have hB0:=Below.refl (w.heap.size + 2) ((w.alloc (.cells #[.bool false,.slice A m c] 31)).alloc (.cells #[.bool false,.slice none 0 0] 31))
  clear hx hE h ha ha1
  go_enter Tryz.func133,Tryz.ntmps133
  go_wp2_with fail
  refine (root_num _ a L _ (HA.out.below hW) (by omega)).mono ?_
  rintro e w3 ⟨⟨v,r,rfl,hv,hroot⟩,hb3⟩
  have HR:=Hd hv
  have HRT:=Hd hroot
  have hB3:=hB0.trans (hb3.mono (B':=w.heap.size + 2) (by simp))
  clear hv hroot
  go_wp2_with fail
  refine (signed_out false _ r (L + 1) _ HR.out (by omega)).mono ?_
  rintro e w4 ⟨ng,A2,n2,c2,rfl,hv,hb4⟩
  have hB4:=hB3.trans (hb4.mono (B':=w.heap.size + 2) (by have:=hB3.size;simp at this;omega))
  obtain ⟨e1,e2,f1,f2⟩:=room1 hB4
  have HV:=Hd (show Ival w4 (.agg #[.bool ng,.slice A2 n2 c2]) r (L + 1) from hv)
  clear hv
  go_wp2
  refine bodyPost_ret (v:=.tuple #[.agg #[.bool ng,.slice A2 n2 c2],.int .i64 0]) (by simp [results,Tryz.results133,go_sem,e1,e2]) rfl ⟨⟨_,_,_,_,r,rfl,HV.out.stored e1 e2 _ _,.inr ⟨ha0,HRT.out⟩⟩,?_⟩
  exact ((hW.trans (hB4.mono (by omega))).setCell (by show _ <= _;simp) _).setCell (by show _ <= _;simp) _
theorem rRoot_int (u:Value) (x:Int) (L:Nat) (w:World) (h:Rval w u x L) (hL:L <= 16) :
  Calls Tryz.prog 95 #[u] w fun e w'=>(∃ ng A2 n2 c2 r,e = .returned (.tuple #[.agg #[.bool ng,.slice A2 n2 c2],.int .i64 (rootE x)]) /\ Rval w' (.agg #[.bool ng,.slice A2 n2 c2]) r 1000 /\ RootOf x r) /\ Below w.heap.size w w':=by
 by_cases hx:x < 0
 ·have hE:rootE x = 1:=if_pos hx
  rw [hE]
  refine (rRoot_bad u x L w h (by omega) hx).mono ?_
  rintro e w' ⟨rfl,hb⟩
  exact ⟨⟨_,_,_,_,0,rfl,Rval.nought,.inl ⟨hx,rfl⟩⟩,hb⟩
 ·have hE:rootE x = 0:=if_neg hx
  rw [hE]
  refine (rRoot_val u x L w h hL (by omega)).mono ?_
  rintro e w' ⟨⟨ng,A2,n2,c2,r,rfl,hv,hr⟩,hb⟩
  exact ⟨⟨_,_,_,_,r,rfl,hv,.inr ⟨by omega,hr⟩⟩,hb⟩
open Go.RowKit LM
theorem cmp_dec (a b:Int) : (cmpI a b == 0) = decide (a = b):=by
 by_cases h:a = b
 ·rw [cmpI_eq h,decide_eq_true h];rfl
 ·rw [decide_eq_false h];simpa using (fun e=>h (cmpI_zero e) : cmpI a b ≠ 0)
def put2 (w:World) (b:Nat) (x0 x1:Value) : World:=(w.setCell ⟨b,0,none⟩ x0).setCell ⟨b,1,none⟩ x1
theorem cell_put2 {w:World} {b c i:Nat} (hne:b ≠ c) (x0 x1:Value) : (put2 w b x0 x1).cell? ⟨c,i,none⟩ = w.cell? ⟨c,i,none⟩:=by
 unfold put2
 rw [World.cell?_setCell_other _ _ _ _ (by simp;try omega),World.cell?_setCell_other _ _ _ _ (by simp;try omega)]
theorem two31 (w:World) (v0 v1:Value) : Below w.heap.size w ((w.alloc (.cells #[v0,v1] 31)).alloc (.cells #[.bool false,.slice none 0 0] 31)) /\ Fx ((w.alloc (.cells #[v0,v1] 31)).alloc (.cells #[.bool false,.slice none 0 0] 31)) w.heap.size v0 v1 /\
  Fx ((w.alloc (.cells #[v0,v1] 31)).alloc (.cells #[.bool false,.slice none 0 0] 31)) (w.heap.size + 1) (.bool false) (.slice none 0 0) /\ ((w.alloc (.cells #[v0,v1] 31)).alloc (.cells #[.bool false,.slice none 0 0] 31)).heap.size = w.heap.size + 1 + 1:=by
 refine ⟨below_two _ _ _,(Fx.new w _ _ 31).below (below_alloc _ _),?_,by simp⟩
 have h1:=Fx.new (w.alloc (.cells #[v0,v1] 31)) (.bool false) (.slice none 0 0) 31
 rw [show (w.alloc (.cells #[v0,v1] 31)).heap.size = w.heap.size + 1 from by simp] at h1
 exact h1
def ExactAns (L:Nat) (x:Int) (w:World) (e:Ending) (w':World) : Prop:=
 (∃ ng A2 n2 c2 r,e = .returned (.tuple #[.agg #[.bool ng,.slice A2 n2 c2],.bool (decide (r * r = x))]) /\ Ival w' (.agg #[.bool ng,.slice A2 n2 c2]) r (L + 1) /\ RootOf x r) /\ Below w.heap.size w w'
theorem exactRoot_any (u:Value) (x:Int) (L:Nat) (w:World) (h:Ival w u x L) (hL:L <= 30000) :
  Calls Tryz.prog 94 #[u] w (ExactAns L x w):=by
 obtain ⟨p1,A1,n1,c1,rfl⟩:=h.form
 obtain ⟨hw,F0,F1,hs⟩:=two31 w (.bool p1) (.slice A1 n1 c1)
 have X:=Hd (h.below hw)
 obtain ⟨W0,hW0⟩ : ∃ W0,(w.alloc (.cells #[.bool p1,.slice A1 n1 c1] 31)).alloc (.cells #[.bool false,.slice none 0 0] 31) = W0:=⟨_,rfl⟩
 rw [hW0] at hw F0 F1 hs X
 have B0:=Hd F0
 have BR:=Hd F1
 clear F0 F1 h
 go_enter Tryz.func94,Tryz.ntmps94
 go_upto_region 1 with fail
 clear hW0
 obtain ⟨c00,c01,f00,f01,s0⟩:=B0.out
 go_wp2_with fail
 refine (Root_int _ x L _ X.out hL).mono ?_
 rintro e w1 ⟨⟨g4,A4,n4,o4,r,rfl,hz,hroot⟩,hb⟩
 obtain ⟨re,hre⟩ : ∃ re,rootE x = re:=⟨_,rfl⟩
 rw [hre]
 have hsC:=hb.size
 have HR:=Hd hroot
 clear hre hroot
 clear c00 c01 f00 f01 s0
 replace B0:=Hd (B0.out.below hb)
 replace BR:=Hd (BR.out.below hb)
 replace X:=Hd (X.out.below hb)
 replace hw:=hw.trans (hb.mono hw.size)
 have T1:=Hd hz
 clear hb hz
 have hX:=below_alloc w1 (.cells #[.bool g4,.slice A4 n4 o4] 31)
 replace B0:=Hd (B0.out.below hX)
 replace BR:=Hd (BR.out.below hX)
 replace X:=Hd (X.out.below hX)
 replace T1:=Hd (T1.out.below hX)
 replace hw:=hw.trans (hX.mono hw.size)
 have B4:=Hd (Fx.new w1 (.bool g4) (.slice A4 n4 o4) 31)
 skip
 clear hX
 go_upto_region 2 with fail
 generalize w1.alloc (.cells #[.bool g4,.slice A4 n4 o4] 31) = W4 at *
 generalize w1.heap.size = k4 at *
 have HT:=Hd (fun (w':World) (hb:Below W4.heap.size W4 w')=>(show w'.cell? ⟨w.heap.size,0,none⟩ = some (.bool p1) /\ w'.cell? ⟨w.heap.size,1,none⟩ = some (.slice A1 n1 c1) /\ w'.cell? ⟨k4,0,none⟩ = some (.bool g4) /\ w'.cell? ⟨k4,1,none⟩ = some (.slice A4 n4 o4) from ⟨(B0.out.below hb).1,(B0.out.below hb).2.1,(B4.out.below hb).1,(B4.out.below hb).2.1⟩))
 have HP:=Hd (fun (w':World) (x0 x1:Value) (h:w'.cell? ⟨w.heap.size,0,none⟩ = some (.bool p1) /\ w'.cell? ⟨w.heap.size,1,none⟩ = some (.slice A1 n1 c1) /\ w'.cell? ⟨k4,0,none⟩ = some (.bool g4) /\ w'.cell? ⟨k4,1,none⟩ = some (.slice A4 n4 o4))=>(show (fun w'=>w'.cell? ⟨w.heap.size,0,none⟩ = some (.bool p1) /\ w'.cell? ⟨w.heap.size,1,none⟩ = some (.slice A1 n1 c1) /\ w'.cell? ⟨k4,0,none⟩ = some (.bool g4) /\ w'.cell? ⟨k4,1,none⟩ = some (.slice A4 n4 o4)) (put2 w' (w.heap.size + 1) x0 x1) from ⟨(cell_put2 (by omega) _ _).trans h.1,(cell_put2 (by omega) _ _).trans h.2.1,(cell_put2 (by omega) _ _).trans h.2.2.1,(cell_put2 (by omega) _ _).trans h.2.2.2⟩))
 have hB:=(Below.refl W4.heap.size W4).drew
 replace X:=Hd (X.out.below hB)
 replace T1:=Hd (T1.out.below hB)
 refine wp_region_held_drew (S:=fun w'=>w'.cell? ⟨w.heap.size,0,none⟩ = some (.bool p1) /\ w'.cell? ⟨w.heap.size,1,none⟩ = some (.slice A1 n1 c1) /\ w'.cell? ⟨k4,0,none⟩ = some (.bool g4) /\ w'.cell? ⟨k4,1,none⟩ = some (.slice A4 n4 o4)) (by kernel_rfl) (HT.out _ hB) (fun hH=>?_)
 clear hH
 generalize W4.drew = wr0 at *
 refine tk 0 11 (by first | assumption | exact HT.out _ hB) ?_
 try simp only [Act.put,tA,cZ,cS]
 refine tk 1 12 (by first | assumption | exact HT.out _ hB) ?_
 try simp only [Act.put,tA,cZ,cS]
 refine tk 2 13 (by first | assumption | exact HT.out _ hB) ?_
 try simp only [Act.put,tA,cZ,cS]
 refine tk 4 15 (by first | assumption | exact HT.out _ hB) ?_
 try simp only [Act.put,tA,cZ,cS]
 refine rd 3 (AllReadyH.cons rfl (fun K hK=>?_) AllReadyH.nil)
 (try simp only [gA]);(try simp only [gS]);(try simp only [gZ])
 go_simp
 (go_at_call 97;refine (mul_t _ _ r r (L + 1) (L + 1) _ T1.out T1.out (by omega) (by omega)).mono ?_;rintro e wc1 ⟨⟨gt5,At5,nt5,ct5,rfl,hz⟩,hb⟩)
 replace X:=Hd (X.out.below hb)
 replace T1:=Hd (T1.out.below hb)
 replace hB:=Below.trans hB (hb.mono hB.size)
 have T2:=Hd hz
 refine hK.out _ _ (HT.out _ hB) (fun hH=>?_)
 clear hK K hH
 try simp only [Act.put,tA,cZ,cS]
 clear hb hz
 refine rd 5 (AllReadyH.cons rfl (fun K hK=>?_) AllReadyH.nil)
 (try simp only [gA]);(try simp only [gS]);(try simp only [gZ])
 go_simp
 (go_at_call 63;refine (cmp_int _ _ (r * r) x (L + 1 + (L + 1)) L _ T2.out X.out (by omega) (by omega)).mono ?_;rintro e wc2 ⟨rfl,hb⟩)
 replace X:=Hd (X.out.below hb)
 replace T1:=Hd (T1.out.below hb)
 replace T2:=Hd (T2.out.below hb)
 replace hB:=Below.trans hB (hb.mono hB.size)
 refine hK.out _ _ (HT.out _ hB) (fun hH=>?_)
 clear hK K hH
 try simp only [Act.put,tA,cZ,cS]
 clear hb
 refine tk 6 17 (by first | assumption | exact HT.out _ hB) ?_
 try simp only [Act.put,tA,cZ,cS]
 refine rd 7 (AllReadyH.cons rfl (fun K hK=>?_) AllReadyH.nil)
 (try simp only [gA]);(try simp only [gS]);(try simp only [gZ])
 have R4:=BR.out.below hB
 obtain ⟨r0,r1,r2,r3,r4⟩:=id R4
 go_simp
 refine hK.out _ _ (HP.out _ (.bool g4) (.slice A4 n4 o4) (HT.out _ hB)) (fun hH=>?_)
 clear hK K
 try simp only [Act.put,tA,cZ,cS]
 refine tk 8 3 (by first | assumption | exact HT.out _ hB) ?_
 try simp only [Act.put,tA,cZ,cS]
 refine wpAnyH_done (by kernel_rfl) ?_ _
 go_wp2
 exact bodyPost_ret (v:=.tuple #[.agg #[.bool g4,.slice A4 n4 o4],.bool (cmpI (r * r) x == 0)]) (by simp [results,Tryz.results94,go_sem,r0,r1]) rfl ⟨⟨g4,A4,n4,o4,r,by rw [cmp_dec],T1.out.fx R4 _ _,HR.out⟩,((hw.trans (hB.mono hw.size)).setCell (p:=⟨w.heap.size + 1,0,none⟩) (by show w.heap.size <= w.heap.size + 1;omega) _).setCell (p:=⟨w.heap.size + 1,1,none⟩) (by show w.heap.size <= w.heap.size + 1;omega) _⟩
theorem cmp_nlt {a b:Int} (h:b <= a) : ¬ cmpI a b < 0:=by unfold cmpI;split <;> first | omega | (split <;> decide)
def RootAns (L:Nat) (n d:Int) (w:World) (e:Ending) (w':World) : Prop:=
 (n < 0 /\ RatErr L 0 1 1 w e w') \/ (0 <= n /\ (¬ ∃ r s:Int,r * r = n /\ s * s = d) /\ RatErr L 0 1 5 w e w') \/ ∃ r s,0 <= r /\ 0 < s /\ r * r = n /\ s * s = d /\ RatErr (L + 1) r s 0 w e w'
theorem square_root {n t r:Int} (h:RootOf n r) (ht:t * t = n) : r * r = n:=by
 obtain ⟨u,hu,hu0⟩ : ∃ u:Int,u * u = n /\ 0 <= u:=by
  rcases Int.lt_or_le t 0 with h | h
  ·exact ⟨-t,by rw [Int.neg_mul_neg];exact ht,by omega⟩
  ·exact ⟨t,ht,h⟩
 have hn:0 <= n:=by rw [<- hu];exact Int.mul_nonneg hu0 hu0
 rcases h with ⟨h1,_⟩ | ⟨_,h2⟩
 ·omega
 ·have e:(u + 1) * (u + 1) = u * u + u + u + 1:=by grind
  have:IsRoot n u:=⟨hu0,by omega,by omega⟩
  rw [h2.same this];exact hu
theorem no_root1 {n d r:Int} (h:RootOf n r) (hn:¬ r * r = n) : ¬ ∃ r s:Int,r * r = n /\ s * s = d:=fun ⟨_,_,h1,_⟩=>hn (square_root h h1)
theorem no_root2 {n d s:Int} (h:RootOf d s) (hn:¬ s * s = d) : ¬ ∃ r s:Int,r * r = n /\ s * s = d:=fun ⟨_,_,_,h1⟩=>hn (square_root h h1)
theorem root_parts {n d r s:Int} (h:RootOf n r) (g:RootOf d s) (hr:r * r = n) (hs:s * s = d) (hd:0 < d) (hco:Int.gcd n d = 1) : 0 < s /\ 0 <= r /\ Int.gcd r s = 1:=by
 refine ⟨?_,?_,?_⟩
 ·rcases g with ⟨h1,_⟩ | ⟨_,h2⟩
  ·omega
  ·have:s ≠ 0:=fun e=>by rw [e] at hs;omega
   have:=h2.1;omega
 ·rcases h with ⟨_,h2⟩ | ⟨_,h2⟩
  ·omega
  ·exact h2.1
 ·have hc:Nat.Coprime (r * r).natAbs (s * s).natAbs:=by rw [hr,hs];exact hco
  rw [Int.natAbs_mul,Int.natAbs_mul] at hc
  exact (Nat.Coprime.coprime_mul_left hc).coprime_mul_left_right
theorem Root_q (v:Value) (n d:Int) (L:Nat) (w:World) (h:Rat w v n d L) (hL:L <= 30000) (hL2:2 <= L) :
  Calls Tryz.prog 34 #[v] w (RootAns L n d w):=by
 obtain ⟨g1,A1,n1,c1,e1,E1,m1,d1,rfl⟩:=h.form
 obtain ⟨hw,F0,F1,hs⟩:=two44 w (.bool g1) (.slice A1 n1 c1) (.bool e1) (.slice E1 m1 d1) (.bool false) (.slice none 0 0) (.bool false) (.slice none 0 0)
 have X:=Hd (h.below hw)
 obtain ⟨W0,hW0⟩ : ∃ W0,(w.alloc (.cells #[.bool g1,.slice A1 n1 c1,.bool e1,.slice E1 m1 d1] 38)).alloc (.cells #[.bool false,.slice none 0 0,.bool false,.slice none 0 0] 38) = W0:=⟨_,rfl⟩
 rw [hW0] at hw F0 F1 hs X
 have B0:=Hd F0
 have BR:=Hd F1
 clear F0 F1 h
 go_enter Tryz.func34,Tryz.ntmps34
 go_upto_region 1 with fail
 clear hW0
 obtain ⟨c00,c01,c02,c03,f00,f01,f02,f03,s0⟩:=B0.out
 go_wp2_with fail
 refine (Sign_any _ n d L _ X.out).mono ?_
 rintro e w1 ⟨rfl,hb⟩
 clear c00 c01 c02 c03 f00 f01 f02 f03 s0
 replace B0:=Hd (B0.out.below hb)
 replace BR:=Hd (BR.out.below hb)
 replace X:=Hd (X.out.below hb)
 replace hw:=hw.trans (hb.mono hw.size)
 clear hb
 by_cases hn:n < 0
 ·skip
  have hcm:cmpI n 0 < 0:=by rw [cmpI_lt hn];decide
  have HN:=Hd hn
  clear hn
  obtain ⟨r0,r1,r2,r3,r4,r5,r6,r7,r8⟩:=BR.out
  go_wp2
  exact bodyPost_ret (v:=.tuple #[.agg #[.bool false,.slice none 0 0,.bool false,.slice none 0 0],.int .i64 1]) (by simp [results,Tryz.results34,go_sem,r0,r1,r2,r3]) rfl (Or.inl ⟨HN.out,⟨⟨false,none,0,0,false,none,0,0,rfl,_,_,_,_,_,_,_,_,rfl,Ival.nought,Ival.nought,by decide,by decide⟩,below_put4 hw (by omega) _ _ _ _⟩⟩)
 have hcm:¬ cmpI n 0 < 0:=cmp_nlt (Int.not_lt.1 hn)
 have HN:=Hd (Int.not_lt.1 hn)
 clear hn
 have X1:=Hd X.out.parts.1
 go_upto_region 3 with fail
 clear hcm
 obtain ⟨c00,c01,c02,c03,f00,f01,f02,f03,s0⟩:=B0.out
 go_wp2_with fail
 refine (exactRoot_any _ n L _ X1.out hL).mono ?_
 rintro e w2 ⟨⟨g4,A4,n4,o4,r,rfl,hz,hroot⟩,hb⟩
 have HR:=Hd hroot
 clear hroot
 clear c00 c01 c02 c03 f00 f01 f02 f03 s0
 replace B0:=Hd (B0.out.below hb)
 replace BR:=Hd (BR.out.below hb)
 replace X:=Hd (X.out.below hb)
 replace X1:=Hd (X1.out.below hb)
 replace hw:=hw.trans (hb.mono hw.size)
 have T1:=Hd hz
 clear hb hz
 have hX:=below_alloc w2 (.cells #[.bool g4,.slice A4 n4 o4] 31)
 replace B0:=Hd (B0.out.below hX)
 replace BR:=Hd (BR.out.below hX)
 replace X:=Hd (X.out.below hX)
 replace X1:=Hd (X1.out.below hX)
 replace T1:=Hd (T1.out.below hX)
 replace hw:=hw.trans (hX.mono hw.size)
 have B4:=Hd (Fx.new w2 (.bool g4) (.slice A4 n4 o4) 31)
 skip
 clear hX
 by_cases hr:r * r = n
 ·skip
  have hdt:decide (r * r = n) = true:=decide_eq_true hr
  rw [hdt]
  clear hdt
  have HRR:=Hd hr
  clear hr
  go_upto_region 6 with fail
  generalize w2.alloc (.cells #[.bool g4,.slice A4 n4 o4] 31) = W4 at *
  generalize w2.heap.size = k4 at *
  obtain ⟨c00,c01,c02,c03,f00,f01,f02,f03,s0⟩:=B0.out
  go_wp2_with fail
  refine (Denominator_any _ n d L _ X.out hL2).mono ?_
  rintro e w3 ⟨⟨gt5,At5,nt5,ct5,rfl,hz⟩,hb⟩
  clear c00 c01 c02 c03 f00 f01 f02 f03 s0
  replace B0:=Hd (B0.out.below hb)
  replace BR:=Hd (BR.out.below hb)
  replace B4:=Hd (B4.out.below hb)
  replace X:=Hd (X.out.below hb)
  replace X1:=Hd (X1.out.below hb)
  replace T1:=Hd (T1.out.below hb)
  replace hw:=hw.trans (hb.mono hw.size)
  have T2:=Hd hz
  clear hb hz
  go_wp2_with fail
  refine (exactRoot_any _ d L _ T2.out hL).mono ?_
  rintro e w4 ⟨⟨g6,A6,n6,o6,s,rfl,hz,hroot⟩,hb⟩
  have HS:=Hd hroot
  clear hroot
  replace B0:=Hd (B0.out.below hb)
  replace BR:=Hd (BR.out.below hb)
  replace B4:=Hd (B4.out.below hb)
  replace X:=Hd (X.out.below hb)
  replace X1:=Hd (X1.out.below hb)
  replace T1:=Hd (T1.out.below hb)
  replace T2:=Hd (T2.out.below hb)
  replace hw:=hw.trans (hb.mono hw.size)
  have T3:=Hd hz
  clear hb hz
  have hX:=below_alloc w4 (.cells #[.bool g6,.slice A6 n6 o6] 31)
  replace B0:=Hd (B0.out.below hX)
  replace BR:=Hd (BR.out.below hX)
  replace B4:=Hd (B4.out.below hX)
  replace X:=Hd (X.out.below hX)
  replace X1:=Hd (X1.out.below hX)
  replace T1:=Hd (T1.out.below hX)
  replace T2:=Hd (T2.out.below hX)
  replace T3:=Hd (T3.out.below hX)
  replace hw:=hw.trans (hX.mono hw.size)
  have B6:=Hd (Fx.new w4 (.bool g6) (.slice A6 n6 o6) 31)
  skip
  clear hX
  by_cases hr:s * s = d
  ·skip
   have hdt:decide (s * s = d) = true:=decide_eq_true hr
   rw [hdt]
   clear hdt
   have HSS:=Hd hr
   clear hr
   go_upto_region 9 with fail
   generalize w4.alloc (.cells #[.bool g6,.slice A6 n6 o6] 31) = W6 at *
   generalize w4.heap.size = k6 at *
   obtain ⟨hs0,hr0,hgc⟩:=root_parts HR.out HS.out HRR.out HSS.out X.out.parts.2.2.1 X.out.parts.2.2.2
   have HC:=Hd (And.intro hs0 (And.intro hr0 hgc))
   clear hs0 hr0 hgc
   obtain ⟨c40,c41,f40,f41,s4⟩:=B4.out
   obtain ⟨c60,c61,f60,f61,s6⟩:=B6.out
   go_wp2_with fail
   refine (coprime_c _ _ r s (L + 1) _ T1.out T3.out (by omega)).mono ?_
   rintro e w5 ⟨⟨g7,A7,n7,o7,e7,E7,m7,d7,rfl,hz,hzd⟩,hb⟩
   have e1:upN r s = r:=if_neg (by have:=HC.out.1;omega)
   have e2:upN s s = s:=if_neg (by have:=HC.out.1;omega)
   rw [e1] at hz
   rw [e2] at hzd
   clear e1 e2
   clear c40 c41 f40 f41 s4
   clear c60 c61 f60 f61 s6
   replace B0:=Hd (B0.out.below hb)
   replace BR:=Hd (BR.out.below hb)
   replace B4:=Hd (B4.out.below hb)
   replace B6:=Hd (B6.out.below hb)
   replace X:=Hd (X.out.below hb)
   replace X1:=Hd (X1.out.below hb)
   replace T1:=Hd (T1.out.below hb)
   replace T2:=Hd (T2.out.below hb)
   replace T3:=Hd (T3.out.below hb)
   replace hw:=hw.trans (hb.mono hw.size)
   have T4:=Hd hz
   have T5:=Hd hzd
   clear hb hz hzd
   obtain ⟨r0,r1,r2,r3,r4,r5,r6,r7,r8⟩:=BR.out
   go_wp2
   exact bodyPost_ret (v:=.tuple #[.agg #[.bool g7,.slice A7 n7 o7,.bool e7,.slice E7 m7 d7],.int .i64 0]) (by simp [results,Tryz.results34,go_sem,r0,r1,r2,r3]) rfl (Or.inr (Or.inr ⟨r,s,HC.out.2.1,HC.out.1,HRR.out,HSS.out,⟨_,_,_,_,_,_,_,_,rfl,(Rat.mk' T4.out T5.out HC.out.1 HC.out.2.2).put4 BR.out _ _ _ _⟩,below_put4 hw (by omega) _ _ _ _⟩))
  ·skip
   have hdt:decide (s * s = d) = false:=decide_eq_false hr
   rw [hdt]
   clear hdt
   have HSS:=Hd hr
   clear hr
   go_upto_region 8 with fail
   generalize w4.alloc (.cells #[.bool g6,.slice A6 n6 o6] 31) = W6 at *
   generalize w4.heap.size = k6 at *
   obtain ⟨r0,r1,r2,r3,r4,r5,r6,r7,r8⟩:=BR.out
   go_wp2
   exact bodyPost_ret (v:=.tuple #[.agg #[.bool false,.slice none 0 0,.bool false,.slice none 0 0],.int .i64 5]) (by simp [results,Tryz.results34,go_sem,r0,r1,r2,r3]) rfl (Or.inr (Or.inl ⟨HN.out,no_root2 HS.out HSS.out,⟨⟨false,none,0,0,false,none,0,0,rfl,_,_,_,_,_,_,_,_,rfl,Ival.nought,Ival.nought,by decide,by decide⟩,below_put4 hw (by omega) _ _ _ _⟩⟩))
 ·skip
  have hdt:decide (r * r = n) = false:=decide_eq_false hr
  rw [hdt]
  clear hdt
  have HRR:=Hd hr
  clear hr
  go_upto_region 5 with fail
  generalize w2.alloc (.cells #[.bool g4,.slice A4 n4 o4] 31) = W4 at *
  generalize w2.heap.size = k4 at *
  obtain ⟨r0,r1,r2,r3,r4,r5,r6,r7,r8⟩:=BR.out
  go_wp2
  exact bodyPost_ret (v:=.tuple #[.agg #[.bool false,.slice none 0 0,.bool false,.slice none 0 0],.int .i64 5]) (by simp [results,Tryz.results34,go_sem,r0,r1,r2,r3]) rfl (Or.inr (Or.inl ⟨HN.out,no_root1 HR.out HRR.out,⟨⟨false,none,0,0,false,none,0,0,rfl,_,_,_,_,_,_,_,_,rfl,Ival.nought,Ival.nought,by decide,by decide⟩,below_put4 hw (by omega) _ _ _ _⟩⟩))
open Go.RowKit LM
theorem short1Q_any (p q:Bool) (A B:Option Addr) (n c m d:Nat) (most:Int) (b:Nat) (w:World) (hb:b < w.heap.size) (hc:w.cell? ⟨b,0,none⟩ = some (.int .i64 most)) :
  Calls Tryz.prog 73 #[.agg #[.bool p,.slice A n c,.bool q,.slice B m d],.pointer (some ⟨b,0,none⟩)] w fun e w'=>e = .returned (.bool (tooLong [n,m] most)) /\ Below w.heap.size w w':=by
 have hW:=below_alloc' w (.cells #[.bool p,.slice A n c,.bool q,.slice B m d] 26)
 have B0:=Hd (Fx4.new w (.bool p) (.slice A n c) (.bool q) (.slice B m d) 26)
 have hm:=Hd ((hW.cell (p:=⟨b,0,none⟩) hb).trans hc)
 clear hc
 go_enter Tryz.func73,Tryz.ntmps73
 go_upto_region 1 with fail
 generalize w.alloc (.cells #[.bool p,.slice A n c,.bool q,.slice B m d] 26) = W0 at *
 obtain ⟨a0,a1,a2,a3,-,-,-,-,-⟩:=B0.out
 have hmo:=hm.out
 go_wp2_with fail
 refine (short_any _ 2 [n,m] most _ (lens2 W0 rfl p q A B n c m d) (by omega)).mono ?_
 rintro e w1 ⟨rfl,hb1⟩
 have hX:=below_alloc' W0 (.cells #[.bool p,.slice A n c,.bool q,.slice B m d] 24)
 have hw:=Hd (hW.trans ((hX.trans (hb1.mono (by simp))).mono hW.size))
 clear a0 a1 a2 a3 hmo hb1 hX hW
 go_wp2
 go_ret
 exact ⟨by simp,hw.out⟩
def LensQ (w:World) (g N:Nat) (lens:List (Nat × Nat)) : Prop:=
 lens.length = N /\ g < w.heap.size /\ ∀ i,i < N -> ∃ p A c q B d,w.cell? ⟨g,i * 4,none⟩ = some (.bool p) /\ w.cell? ⟨g,i * 4 + 1,none⟩ = some (.slice A (lens.getD i (0,0)).1 c) /\ w.cell? ⟨g,i * 4 + 2,none⟩ = some (.bool q) /\ w.cell? ⟨g,i * 4 + 3,none⟩ = some (.slice B (lens.getD i (0,0)).2 d)
theorem LensQ.below {w w':World} {g N:Nat} {lens:List (Nat × Nat)} (h:LensQ w g N lens) (hb:Below w.heap.size w w') : LensQ w' g N lens:=by
 obtain ⟨h1,h2,h3⟩:=h
 refine ⟨h1,Nat.lt_of_lt_of_le h2 hb.size,fun i hi=>?_⟩
 obtain ⟨p,A,c,q,B,d,c0,c1,c2,c3⟩:=h3 i hi
 exact ⟨p,A,c,q,B,d,(hb.cell (p:=⟨g,i * 4,none⟩) h2).trans c0,(hb.cell (p:=⟨g,i * 4 + 1,none⟩) h2).trans c1,(hb.cell (p:=⟨g,i * 4 + 2,none⟩) h2).trans c2,(hb.cell (p:=⟨g,i * 4 + 3,none⟩) h2).trans c3⟩
def anyLong (lens:List (Nat × Nat)) (most:Int) : Bool:=lens.any (fun p=>tooLong [p.1,p.2] most)
theorem anyLong_yes {lens:List (Nat × Nat)} {most:Int} {k:Nat} (hk:k < lens.length) (h:tooLong [(lens.getD k (0,0)).1,(lens.getD k (0,0)).2] most = true) : anyLong lens most = true:=by
 unfold anyLong
 rw [List.any_eq_true]
 refine ⟨lens[k],List.getElem_mem hk,?_⟩
 have:lens.getD k (0,0) = lens[k]:=by simp [List.getD,hk]
 rw [this] at h
 exact h
theorem anyLong_no {lens:List (Nat × Nat)} {most:Int} (h:∀ i,i < lens.length -> tooLong [(lens.getD i (0,0)).1,(lens.getD i (0,0)).2] most = false) : anyLong lens most = false:=by
 unfold anyLong
 rw [List.any_eq_false]
 intro n hn
 obtain ⟨i,hi,rfl⟩:=List.mem_iff_getElem.1 hn
 have:=h i hi
 have e:lens.getD i (0,0) = lens[i]:=by simp [List.getD,hi]
 rw [e] at this
 simp [this]
theorem indexQ_any (g N:Nat) (lens:List (Nat × Nat)) (most:Int) (b:Nat) (w:World) (h:LensQ w g N lens) (hN:N <= 1000) (hb:b < w.heap.size) (hc:w.cell? ⟨b,0,none⟩ = some (.int .i64 most)) :
  Calls Tryz.prog 120 #[.slice (some ⟨g,0,none⟩) N N,.func (Fn.func 73) #[] #[.pointer (some ⟨b,0,none⟩)]] w fun e w'=>(∃ r:Int,e = .returned (.int .i64 r) /\ decide (0 <= r) = anyLong lens most) /\ Below w.heap.size w w':=by
 obtain ⟨hl,hg,hlens⟩:=h
 have HL:=Hd hl
 have HH:=Hd hlens
 clear hl hlens
 go_enter Tryz.func120,Tryz.ntmps120
 go_wp2_with fail
 go_loopw [8] (fun iv wr=>∃ k:Nat,iv = .int .i64 k /\ k <= N /\ Hid (∀ i,i < k -> tooLong [(lens.getD i (0,0)).1,(lens.getD i (0,0)).2] most = false) /\ Below w.heap.size w wr) (fun iv _=>N - (intOf iv).toNat)
 case atStart=>exact ⟨0,rfl,Nat.zero_le _,Hd (fun i hi=>absurd hi (by omega)),Below.refl _ _⟩
 case round=>
  obtain ⟨k,rfl,hk,HA,hbw⟩:=hrel
  by_cases hlt:k < N
  ·obtain ⟨p,A,c,q,B,d,c0,c1,c2,c3⟩:=HH.out k hlt
   have d0:wr.cell? ⟨g,k * 4,none⟩ = _:=(hbw.cell (p:=⟨g,k * 4,none⟩) hg).trans c0
   have d1:wr.cell? ⟨g,k * 4 + 1,none⟩ = _:=(hbw.cell (p:=⟨g,k * 4 + 1,none⟩) hg).trans c1
   have d2:wr.cell? ⟨g,k * 4 + 2,none⟩ = _:=(hbw.cell (p:=⟨g,k * 4 + 2,none⟩) hg).trans c2
   have d3:wr.cell? ⟨g,k * 4 + 3,none⟩ = _:=(hbw.cell (p:=⟨g,k * 4 + 3,none⟩) hg).trans c3
   have hcb:=(hbw.cell (p:=⟨b,0,none⟩) hb).trans hc
   have hbr:b < wr.heap.size:=Nat.lt_of_lt_of_le hb hbw.size
   clear c0 c1 c2 c3
   obtain ⟨m,hm⟩ : ∃ m,(lens.getD k (0,0)).1 = m:=⟨_,rfl⟩
   obtain ⟨m2,hm2⟩ : ∃ m,(lens.getD k (0,0)).2 = m:=⟨_,rfl⟩
   rw [hm] at d1
   rw [hm2] at d3
   have HM:=Hd (And.intro hm hm2)
   clear hm hm2
   cases hlong:tooLong [m,m2] most with
   | true=>
    have HLo:=Hd hlong
    clear hlong
    go_wp2_with (go_at_call 73;refine (short1Q_any p q A B m c m2 d most b _ hbr hcb).mono ?_;rintro e w1 ⟨rfl,hb1⟩;rw [HLo.out])
    go_ret
    refine ⟨⟨(k:Int),rfl,?_⟩,hbw.trans (hb1.mono hbw.size)⟩
    rw [anyLong_yes (k:=k) (by rw [HL.out];exact hlt) (by rw [HM.out.1,HM.out.2];exact HLo.out)]
    simp
   | false=>
    have HLo:=Hd hlong
    clear hlong
    go_wp2_with (go_at_call 73;refine (short1Q_any p q A B m c m2 d most b _ hbr hcb).mono ?_;rintro e w1 ⟨rfl,hb1⟩;rw [HLo.out])
    refine ⟨⟨k + 1,by go_num,hlt,Hd (fun i hi=>?_),hbw.trans (hb1.mono hbw.size)⟩,by simp [intOf];omega⟩
    by_cases hik:i = k
    ·subst hik;rw [HM.out.1,HM.out.2];exact HLo.out
    ·exact HA.out i (by omega)
  ·obtain rfl:k = N:=by omega
   go_wp2
   go_ret
   refine ⟨⟨-1,rfl,?_⟩,hbw⟩
   rw [anyLong_no (fun i hi=>HA.out i (by rw [HL.out] at hi;exact hi))]
   decide
theorem containsQ_any (g N:Nat) (lens:List (Nat × Nat)) (most:Int) (b:Nat) (w:World) (h:LensQ w g N lens) (hN:N <= 1000) (hb:b < w.heap.size) (hc:w.cell? ⟨b,0,none⟩ = some (.int .i64 most)) :
  Calls Tryz.prog 72 #[.slice (some ⟨g,0,none⟩) N N,.func (Fn.func 73) #[] #[.pointer (some ⟨b,0,none⟩)]] w fun e w'=>e = .returned (.bool (anyLong lens most)) /\ Below w.heap.size w w':=by
 go_enter Tryz.func72,Tryz.ntmps72
 go_wp2_with fail
 refine (indexQ_any g N lens most b w h hN hb hc).mono ?_
 rintro e w1 ⟨⟨r,rfl,hr⟩,hb1⟩
 have HR:=Hd hr
 clear hr
 go_wp2
 go_ret
 exact ⟨by rw [<- HR.out];rfl,hb1⟩
theorem shortQ_any (g N:Nat) (lens:List (Nat × Nat)) (most:Int) (w:World) (h:LensQ w g N lens) (hN:N <= 1000) :
  Calls Tryz.prog 13 #[.int .i64 most,.slice (some ⟨g,0,none⟩) N N] w fun e w'=>e = .returned (.bool (!anyLong lens most)) /\ Below w.heap.size w w':=by
 have hmf:∀ (fn:Fn) (first cap:Array Value) (w:World),(Instr.makeFunc fn first cap).run Tryz.prog w = .ok (.func fn first cap) w:=fun _ _ _ _=>rfl
 have hA:=below_alloc' w (.cells #[.int .i64 most] 3)
 have hc:(w.alloc (.cells #[.int .i64 most] 3)).cell? ⟨w.heap.size,0,none⟩ = some (.int .i64 most):=by rw [World.cell?_alloc_at _ _ _ _ rfl];rfl
 have HC:=Hd hc
 clear hc
 go_enter Tryz.func13,Tryz.ntmps13
 go_wp2_with fail
 refine (containsQ_any g N lens most w.heap.size _ (h.below hA) hN (by simp) HC.out).mono ?_
 rintro e w1 ⟨rfl,hb1⟩
 go_wp2
 go_ret
 exact ⟨rfl,hA.trans (hb1.mono (by simp))⟩
end Go.Proofs.YtbajnceoolkckaaGreat
