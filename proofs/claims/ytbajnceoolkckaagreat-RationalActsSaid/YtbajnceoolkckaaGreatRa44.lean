/- Of the proof of RationalActs: RatAct. -/
import Derived.Test.YtbajnceoolkckaaGreatRa43
open List renaming getElem_toArray → gA, getElem_cons_succ → gS, getElem_cons_zero → gZ, setIfInBounds_toArray → tA, set_cons_zero → cZ, set_cons_succ → cS
open Go.Lib renaming hid → Hd
set_option maxRecDepth 100000
set_option maxHeartbeats 16000000
namespace Go.Proofs.YtbajnceoolkckaaGreat
open Go.RowKit LM
theorem lensQ2 (w:World) {g:Nat} (hg:w.heap.size = g) (pa pb pc pd:Bool) (Aa Ab Ac Ad:Option Addr) (na nb nc nd ca cb cc cd:Nat) :
  LensQ (w.alloc (.cells #[.bool pa,.slice Aa na ca,.bool pb,.slice Ab nb cb,.bool pc,.slice Ac nc cc,.bool pd,.slice Ad nd cd] 26)) g 2 [(na,nb),(nc,nd)]:=by
 subst hg
 refine ⟨rfl,by simp,fun i hi=>?_⟩
 match i,hi with
 | 0,_=>exact ⟨pa,Aa,ca,pb,Ab,cb,World.cell?_alloc_at _ _ _ _ rfl,World.cell?_alloc_at _ _ _ _ rfl,World.cell?_alloc_at _ _ _ _ rfl,World.cell?_alloc_at _ _ _ _ rfl⟩
 | 1,_=>exact ⟨pc,Ac,cc,pd,Ad,cd,World.cell?_alloc_at _ _ _ _ rfl,World.cell?_alloc_at _ _ _ _ rfl,World.cell?_alloc_at _ _ _ _ rfl,World.cell?_alloc_at _ _ _ _ rfl⟩
def FlagAns (z t k:Int) (base:World) (v:Value) (w':World) : Prop:=∃ b:Bool,v = .bool b /\ (b = false -> PowOk z t k) /\ Below base.heap.size base w'
def KAns (z t:Int) (base:World) (v:Value) (w':World) : Prop:=∃ k:Int,v = .int .i64 k /\ (-9223372036854775808 <= k /\ k <= 9223372036854775807) /\ PowOk z t k /\ Below base.heap.size base w'
theorem tmod20 (k:Int) : -20 < k.tmod 20 /\ k.tmod 20 < 20:=by
 rcases Int.le_total 0 k with h | h
 ·rw [Int.tmod_eq_emod_of_nonneg h];omega
 ·have e:k.tmod 20 = -((-k) % 20):=by rw [<- Int.tmod_eq_emod_of_nonneg (by omega:0 <= -k),Int.neg_tmod,Int.neg_neg]
  rw [e];omega
theorem pat_pos {z:Int} (h:0 <= z) : patOf z = z:=by unfold patOf;split <;> omega
theorem len_le1 {z:Int} {k:Nat} (h0:0 <= z) (h:IsLen (patOf z) k) (hk:¬ 1 < (k:Int)) : z <= 1:=by
 rw [pat_pos h0] at h
 rcases h with ⟨h1,_⟩ | ⟨h1,h2,h3⟩
 ·omega
 ·have:k = 1:=by omega
  subst this
  simp at h3;omega
def QP (w:World) (b:Nat) (g:Bool) (A:Option Addr) (n c:Nat) (e:Bool) (E:Option Addr) (m d:Nat) (x y:Int) (L:Nat) : Prop:=Fx4 w b (.bool g) (.slice A n c) (.bool e) (.slice E m d) /\ Rat w (.agg #[.bool g,.slice A n c,.bool e,.slice E m d]) x y L
def QR (w:World) (b:Nat) (g:Bool) (A:Option Addr) (n c:Nat) (e:Bool) (E:Option Addr) (m d:Nat) (x y:Int) (L:Nat) : Prop:=Fx4 w b (.bool g) (.slice A n c) (.bool e) (.slice E m d) /\ RQ w (.agg #[.bool g,.slice A n c,.bool e,.slice E m d]) x y L
theorem QP.below {w w':World} {b:Nat} {g:Bool} {A:Option Addr} {n c:Nat} {e:Bool} {E:Option Addr} {m d:Nat} {x y:Int} {L:Nat} (h:QP w b g A n c e E m d x y L) (hb:Below w.heap.size w w') : QP w' b g A n c e E m d x y L:=⟨h.1.below hb,h.2.below hb⟩
theorem QR.below {w w':World} {b:Nat} {g:Bool} {A:Option Addr} {n c:Nat} {e:Bool} {E:Option Addr} {m d:Nat} {x y:Int} {L:Nat} (h:QR w b g A n c e E m d x y L) (hb:Below w.heap.size w w') : QR w' b g A n c e E m d x y L:=⟨h.1.below hb,h.2.below hb⟩
def Kept (p:World -> Prop) (w:World) : Prop:=p w /\ ∀ w1 w2,p w1 -> Below w1.heap.size w1 w2 -> p w2
theorem Kept.below {p:World -> Prop} {w w':World} (h:Kept p w) (hb:Below w.heap.size w w') : Kept p w':=⟨h.2 _ _ h.1 hb,h.2⟩
theorem racts_any (pa pb pc pd:Bool) (Aa Ab Ac Ad:Option Addr) (na ca nb cb nc cc nd cd:Nat) (xa xb xc xd:List Int) (k M:Int) (w:World)
  (ha:Row .u32 w Aa na ca xa) (da:Dig xa) (hb0:Row .u32 w Ab nb cb xb) (db:Dig xb) (hc:Row .u32 w Ac nc cc xc) (dc:Dig xc) (hd:Row .u32 w Ad nd cd xd) (dd:Dig xd) (hk:-9223372036854775808 <= k /\ k <= 9223372036854775807) (hM:MCell M w) :
  Calls Tryz.prog 4 #[.agg #[.bool pa,.slice Aa na ca,.bool pb,.slice Ab nb cb],.agg #[.bool pc,.slice Ac nc cc,.bool pd,.slice Ad nd cd],.int .i64 k] w fun e w'=>e = .returned (.bool true) /\ Below w.heap.size w w':=by
 have hw:=below_two w (.cells #[.bool pa,.slice Aa na ca,.bool pb,.slice Ab nb cb] 26) (.cells #[.bool pc,.slice Ac nc cc,.bool pd,.slice Ad nd cd] 26)
 have F0:=Fx4.new1 w (.bool pa) (.slice Aa na ca) (.bool pb) (.slice Ab nb cb) 26 (.cells #[.bool pc,.slice Ac nc cc,.bool pd,.slice Ad nd cd] 26)
 have F1:=Fx4.new2 w (.bool pc) (.slice Ac nc cc) (.bool pd) (.slice Ad nd cd) 26 #[.bool pa,.slice Aa na ca,.bool pb,.slice Ab nb cb] 26
 obtain ⟨W0,hW0⟩ : ∃ W0,(w.alloc (.cells #[.bool pa,.slice Aa na ca,.bool pb,.slice Ab nb cb] 26)).alloc (.cells #[.bool pc,.slice Ac nc cc,.bool pd,.slice Ad nd cd] 26) = W0:=⟨_,rfl⟩
 rw [hW0] at hw F0 F1
 have B0:=Hd F0
 have B1:=Hd F1
 have HM:=Hd (MCell.below hM hw)
 have HA:=Hd (ha.below hw)
 have HB:=Hd (hb0.below hw)
 have HC:=Hd (hc.below hw)
 have HD:=Hd (hd.below hw)
 have DA:=Hd da
 have DB:=Hd db
 have DC:=Hd dc
 have DD:=Hd dd
 have HK:=Hd hk
 clear F0 F1 hM ha hb0 hc hd da db dc dd hk
 go_enter Tryz.func4,Tryz.ntmps4
 go_upto_region 1 with fail
 clear hW0
 obtain ⟨c00,c01,c02,c03,f00,f01,f02,f03,s0⟩:=B0.out
 obtain ⟨c10,c11,c12,c13,f10,f11,f12,f13,s1⟩:=B1.out
 go_wp2_with fail
 refine (shortQ_any _ 2 [(na,nb),(nc,nd)] 4 _ (lensQ2 W0 rfl pa pb pc pd Aa Ab Ac Ad na nb nc nd ca cb cc cd) (by omega)).mono ?_
 rintro e w2 ⟨rfl,hb⟩
 replace hb:=(below_alloc W0 (.cells #[.bool pa,.slice Aa na ca,.bool pb,.slice Ab nb cb,.bool pc,.slice Ac nc cc,.bool pd,.slice Ad nd cd] 26)).trans (hb.mono (by simp))
 clear c00 c01 c02 c03 f00 f01 f02 f03 s0
 clear c10 c11 c12 c13 f10 f11 f12 f13 s1
 replace B0:=Hd (B0.out.below hb)
 replace B1:=Hd (B1.out.below hb)
 replace HM:=Hd (HM.out.below hb)
 replace HA:=Hd (HA.out.below hb)
 replace HB:=Hd (HB.out.below hb)
 replace HC:=Hd (HC.out.below hb)
 replace HD:=Hd (HD.out.below hb)
 replace hw:=hw.trans (hb.mono hw.size)
 clear hb
 cases ht:anyLong [(na,nb),(nc,nd)] 4 with
 | true=>
  go_wp2_with fail
  refine (awake_m _ M HM.out).mono ?_
  rintro e wz ⟨rfl,hb⟩
  go_wp2
  go_ret
  exact ⟨rfl,hw.trans (hb.mono hw.size)⟩
 | false=>
  have HN:=Hd (show (na <= 4 /\ nb <= 4) /\ (nc <= 4 /\ nd <= 4) by simp [anyLong,tooLong] at ht;omega)
  clear ht
  obtain ⟨c00,c01,c02,c03,f00,f01,f02,f03,s0⟩:=B0.out
  go_wp2_with fail
  refine (ofQ_any pa pb Aa Ab na ca nb cb xa xb _ HA.out DA.out HB.out DB.out (by have:=HN.out.1;omega) (by have:=HN.out.1;omega)).mono ?_
  rintro e w3 ⟨⟨g7,A7,n7,o7,e7,E7,m7,d7,g8,A8,n8,o8,e8,E8,m8,d8,rfl,hv,hr⟩,hb⟩
  obtain ⟨z,hz⟩ : ∃ z,ofN (withSign pa (val xa)) (withSign pb (val xb)) = z:=⟨_,rfl⟩
  obtain ⟨t,ht⟩ : ∃ t,ofD (withSign pa (val xa)) (withSign pb (val xb)) = t:=⟨_,rfl⟩
  rw [hz,ht] at hv hr
  clear hz ht
  replace hv:=hv.mono (show max na nb + 4 <= 8 by have:=HN.out.1;omega)
  replace hr:=hr.tight (K:=16) hv.lt16.1 hv.lt16.2
  clear c00 c01 c02 c03 f00 f01 f02 f03 s0
  clear HA
  clear HB
  replace B0:=Hd (B0.out.below hb)
  replace B1:=Hd (B1.out.below hb)
  replace HM:=Hd (HM.out.below hb)
  replace HC:=Hd (HC.out.below hb)
  replace HD:=Hd (HD.out.below hb)
  replace hw:=hw.trans (hb.mono hw.size)
  clear hb
  have hX:=below_two w3 (.cells #[.bool g7,.slice A7 n7 o7,.bool e7,.slice E7 m7 d7] 38) (.cells #[.bool g8,.slice A8 n8 o8,.bool e8,.slice E8 m8 d8] 43)
  replace B0:=Hd (B0.out.below hX)
  replace B1:=Hd (B1.out.below hX)
  replace HM:=Hd (HM.out.below hX)
  replace HC:=Hd (HC.out.below hX)
  replace HD:=Hd (HD.out.below hX)
  replace hw:=hw.trans (hX.mono hw.size)
  have B7:=Hd (Fx4.new1 w3 (.bool g7) (.slice A7 n7 o7) (.bool e7) (.slice E7 m7 d7) 38 (.cells #[.bool g8,.slice A8 n8 o8,.bool e8,.slice E8 m8 d8] 43))
  have B8:=Hd (Fx4.new2 w3 (.bool g8) (.slice A8 n8 o8) (.bool e8) (.slice E8 m8 d8) 43 #[.bool g7,.slice A7 n7 o7,.bool e7,.slice E7 m7 d7] 38)
  have V7:=Hd (hv.below hX)
  have V8:=Hd (hr.below hX)
  clear hX hv hr DA DB
  clear B0
  go_upto_region 4 with fail
  generalize (w3.alloc (.cells #[.bool g7,.slice A7 n7 o7,.bool e7,.slice E7 m7 d7] 38)).alloc (.cells #[.bool g8,.slice A8 n8 o8,.bool e8,.slice E8 m8 d8] 43) = W3 at *
  generalize w3.heap.size = k7 at *
  obtain ⟨c10,c11,c12,c13,f10,f11,f12,f13,s1⟩:=B1.out
  go_wp2_with fail
  refine (ofQ_any pc pd Ac Ad nc cc nd cd xc xd _ HC.out DC.out HD.out DD.out (by have:=HN.out.2;omega) (by have:=HN.out.2;omega)).mono ?_
  rintro e w4 ⟨⟨g9,A9,n9,o9,e9,E9,m9,d9,g10,A10,n10,o10,e10,E10,m10,d10,rfl,hv,hr⟩,hb⟩
  obtain ⟨u,hz⟩ : ∃ u,ofN (withSign pc (val xc)) (withSign pd (val xd)) = u:=⟨_,rfl⟩
  obtain ⟨s,ht⟩ : ∃ s,ofD (withSign pc (val xc)) (withSign pd (val xd)) = s:=⟨_,rfl⟩
  rw [hz,ht] at hv hr
  clear hz ht
  replace hv:=hv.mono (show max nc nd + 4 <= 8 by have:=HN.out.2;omega)
  replace hr:=hr.tight (K:=16) hv.lt16.1 hv.lt16.2
  clear c10 c11 c12 c13 f10 f11 f12 f13 s1
  clear HC
  clear HD
  replace B1:=Hd (B1.out.below hb)
  replace B7:=Hd (B7.out.below hb)
  replace B8:=Hd (B8.out.below hb)
  replace HM:=Hd (HM.out.below hb)
  replace V7:=Hd (V7.out.below hb)
  replace V8:=Hd (V8.out.below hb)
  replace hw:=hw.trans (hb.mono hw.size)
  clear hb
  have hX:=below_two w4 (.cells #[.bool g9,.slice A9 n9 o9,.bool e9,.slice E9 m9 d9] 38) (.cells #[.bool g10,.slice A10 n10 o10,.bool e10,.slice E10 m10 d10] 43)
  replace B1:=Hd (B1.out.below hX)
  replace B7:=Hd (B7.out.below hX)
  replace B8:=Hd (B8.out.below hX)
  replace HM:=Hd (HM.out.below hX)
  replace V7:=Hd (V7.out.below hX)
  replace V8:=Hd (V8.out.below hX)
  replace hw:=hw.trans (hX.mono hw.size)
  have B9:=Hd (Fx4.new1 w4 (.bool g9) (.slice A9 n9 o9) (.bool e9) (.slice E9 m9 d9) 38 (.cells #[.bool g10,.slice A10 n10 o10,.bool e10,.slice E10 m10 d10] 43))
  have B10:=Hd (Fx4.new2 w4 (.bool g10) (.slice A10 n10 o10) (.bool e10) (.slice E10 m10 d10) 43 #[.bool g9,.slice A9 n9 o9,.bool e9,.slice E9 m9 d9] 38)
  have V9:=Hd (hv.below hX)
  have V10:=Hd (hr.below hX)
  clear hX hv hr DC DD
  clear B1
  go_upto_region 5 with fail
  generalize (w4.alloc (.cells #[.bool g9,.slice A9 n9 o9,.bool e9,.slice E9 m9 d9] 38)).alloc (.cells #[.bool g10,.slice A10 n10 o10,.bool e10,.slice E10 m10 d10] 43) = W4 at *
  generalize w4.heap.size = k9 at *
  clear HN
  go_cut [57] (fun va wx=>FlagAns z t k W4 va wx)
  case first=>
   as_aux_lemma=>
    have hbW:=Below.refl W4.heap.size W4
    have X1:=Hd V8.out
    obtain ⟨hz1,hz2,hz3⟩ : Rval W4 (.agg #[.bool g8,.slice A8 n8 o8]) z 16 /\ Rval W4 (.agg #[.bool e8,.slice E8 m8 d8]) t 16 /\ 0 < t:=⟨V8.out.parts.1,V8.out.parts.2.1,V8.out.parts.2.2.1⟩
    have Z1:=Hd hz1
    have Z2:=Hd hz2
    have HT0:=Hd hz3
    clear hz1 hz2 hz3 X1
    have HW:=Hd (And.intro hbW hw.size)
    clear hbW
    by_cases h20:20 < k
    ·skip
     obtain ⟨c80,c81,c82,c83,f80,f81,f82,f83,s8⟩:=B8.out
     go_wp2_with fail
     refine (rabs_any _ z 16 _ Z1.out).mono ?_
     rintro e wa ⟨⟨ga,Aa1,na1,oa,rfl,hz⟩,hb⟩
     have hbb:=hb
     clear c80 c81 c82 c83 f80 f81 f82 f83 s8
     replace B7:=Hd (B7.out.below hb)
     replace B8:=Hd (B8.out.below hb)
     replace B9:=Hd (B9.out.below hb)
     replace B10:=Hd (B10.out.below hb)
     replace HM:=Hd (HM.out.below hb)
     replace V7:=Hd (V7.out.below hb)
     replace V8:=Hd (V8.out.below hb)
     replace V9:=Hd (V9.out.below hb)
     replace V10:=Hd (V10.out.below hb)
     replace Z1:=Hd (Z1.out.below hb)
     replace Z2:=Hd (Z2.out.below hb)
     replace hw:=hw.trans (hb.mono hw.size)
     have T1:=Hd hz
     clear hb hz
     go_wp2_with fail
     refine (rLength_any _ (if z < 0 then -z else z) 16 _ T1.out (by decide)).mono ?_
     rintro e wb ⟨⟨kl,rfl,hl,-⟩,hb⟩
     have hb2:=hbb.trans (hb.mono hbb.size)
     clear hbb
     replace B7:=Hd (B7.out.below hb)
     replace B8:=Hd (B8.out.below hb)
     replace B9:=Hd (B9.out.below hb)
     replace B10:=Hd (B10.out.below hb)
     replace HM:=Hd (HM.out.below hb)
     replace V7:=Hd (V7.out.below hb)
     replace V8:=Hd (V8.out.below hb)
     replace V9:=Hd (V9.out.below hb)
     replace V10:=Hd (V10.out.below hb)
     replace Z1:=Hd (Z1.out.below hb)
     replace Z2:=Hd (Z2.out.below hb)
     replace T1:=Hd (T1.out.below hb)
     replace hw:=hw.trans (hb.mono hw.size)
     clear hb
     by_cases h1:1 < (kl:Int)
     ·skip
      have hbb:=hb2
      clear hb2 hl
      go_wp2_with fail
      go_meet
      exact ⟨true,rfl,(fun h=>by cases h),hbb⟩
     ·skip
      have HL:=Hd (len_le1 (by split <;> omega) hl h1)
      clear hl
      obtain ⟨c80,c81,c82,c83,f80,f81,f82,f83,s8⟩:=B8.out
      go_wp2_with fail
      refine (rLength_any _ t 16 _ Z2.out (by decide)).mono ?_
      rintro e wc2 ⟨⟨kd,rfl,hl,-⟩,hb⟩
      have hbb:=hb2.trans (hb.mono hb2.size)
      clear hb2
      clear c80 c81 c82 c83 f80 f81 f82 f83 s8
      replace B7:=Hd (B7.out.below hb)
      replace B8:=Hd (B8.out.below hb)
      replace B9:=Hd (B9.out.below hb)
      replace B10:=Hd (B10.out.below hb)
      replace HM:=Hd (HM.out.below hb)
      replace V7:=Hd (V7.out.below hb)
      replace V8:=Hd (V8.out.below hb)
      replace V9:=Hd (V9.out.below hb)
      replace V10:=Hd (V10.out.below hb)
      replace Z1:=Hd (Z1.out.below hb)
      replace Z2:=Hd (Z2.out.below hb)
      replace T1:=Hd (T1.out.below hb)
      replace hw:=hw.trans (hb.mono hw.size)
      clear hb
      have hpo:decide (1 < (kd:Int)) = false -> PowOk z t k:=fun h=>Or.inr (by have h2:=len_le1 (Int.le_of_lt HT0.out) hl (of_decide_eq_false h);have h3:=HL.out;have h4:=HT0.out;split at h3 <;> omega)
      have HPO:=Hd hpo
      clear hpo hl
      go_wp2_with fail
      go_meet
      exact ⟨_,rfl,(fun h=>HPO.out (Bool.or_eq_false_iff.1 h).2),hbb⟩
    ·skip
     by_cases h21:k < -20
     ·skip
      obtain ⟨c80,c81,c82,c83,f80,f81,f82,f83,s8⟩:=B8.out
      go_wp2_with fail
      refine (rabs_any _ z 16 _ Z1.out).mono ?_
      rintro e wa ⟨⟨ga,Aa1,na1,oa,rfl,hz⟩,hb⟩
      have hbb:=hb
      clear c80 c81 c82 c83 f80 f81 f82 f83 s8
      replace B7:=Hd (B7.out.below hb)
      replace B8:=Hd (B8.out.below hb)
      replace B9:=Hd (B9.out.below hb)
      replace B10:=Hd (B10.out.below hb)
      replace HM:=Hd (HM.out.below hb)
      replace V7:=Hd (V7.out.below hb)
      replace V8:=Hd (V8.out.below hb)
      replace V9:=Hd (V9.out.below hb)
      replace V10:=Hd (V10.out.below hb)
      replace Z1:=Hd (Z1.out.below hb)
      replace Z2:=Hd (Z2.out.below hb)
      replace hw:=hw.trans (hb.mono hw.size)
      have T1:=Hd hz
      clear hb hz
      go_wp2_with fail
      refine (rLength_any _ (if z < 0 then -z else z) 16 _ T1.out (by decide)).mono ?_
      rintro e wb ⟨⟨kl,rfl,hl,-⟩,hb⟩
      have hb2:=hbb.trans (hb.mono hbb.size)
      clear hbb
      replace B7:=Hd (B7.out.below hb)
      replace B8:=Hd (B8.out.below hb)
      replace B9:=Hd (B9.out.below hb)
      replace B10:=Hd (B10.out.below hb)
      replace HM:=Hd (HM.out.below hb)
      replace V7:=Hd (V7.out.below hb)
      replace V8:=Hd (V8.out.below hb)
      replace V9:=Hd (V9.out.below hb)
      replace V10:=Hd (V10.out.below hb)
      replace Z1:=Hd (Z1.out.below hb)
      replace Z2:=Hd (Z2.out.below hb)
      replace T1:=Hd (T1.out.below hb)
      replace hw:=hw.trans (hb.mono hw.size)
      clear hb
      by_cases h1:1 < (kl:Int)
      ·skip
       have hbb:=hb2
       clear hb2 hl
       go_wp2_with fail
       go_meet
       exact ⟨true,rfl,(fun h=>by cases h),hbb⟩
      ·skip
       have HL:=Hd (len_le1 (by split <;> omega) hl h1)
       clear hl
       obtain ⟨c80,c81,c82,c83,f80,f81,f82,f83,s8⟩:=B8.out
       go_wp2_with fail
       refine (rLength_any _ t 16 _ Z2.out (by decide)).mono ?_
       rintro e wc2 ⟨⟨kd,rfl,hl,-⟩,hb⟩
       have hbb:=hb2.trans (hb.mono hb2.size)
       clear hb2
       clear c80 c81 c82 c83 f80 f81 f82 f83 s8
       replace B7:=Hd (B7.out.below hb)
       replace B8:=Hd (B8.out.below hb)
       replace B9:=Hd (B9.out.below hb)
       replace B10:=Hd (B10.out.below hb)
       replace HM:=Hd (HM.out.below hb)
       replace V7:=Hd (V7.out.below hb)
       replace V8:=Hd (V8.out.below hb)
       replace V9:=Hd (V9.out.below hb)
       replace V10:=Hd (V10.out.below hb)
       replace Z1:=Hd (Z1.out.below hb)
       replace Z2:=Hd (Z2.out.below hb)
       replace T1:=Hd (T1.out.below hb)
       replace hw:=hw.trans (hb.mono hw.size)
       clear hb
       have hpo:decide (1 < (kd:Int)) = false -> PowOk z t k:=fun h=>Or.inr (by have h2:=len_le1 (Int.le_of_lt HT0.out) hl (of_decide_eq_false h);have h3:=HL.out;have h4:=HT0.out;split at h3 <;> omega)
       have HPO:=Hd hpo
       clear hpo hl
       go_wp2_with fail
       go_meet
       exact ⟨_,rfl,(fun h=>HPO.out (Bool.or_eq_false_iff.1 h).2),hbb⟩
     ·skip
      have HPO:=Hd (show PowOk z t k from Or.inl (by omega))
      have hbb:=HW.out.1
      go_wp2_with fail
      go_meet
      exact ⟨false,rfl,(fun _=>HPO.out),hbb⟩
  obtain ⟨fl,rfl,hpo,hb⟩:=hcut
  obtain ⟨w5,rfl⟩ : ∃ w5,w5 = wc:=⟨wc,rfl⟩
  replace B7:=Hd (B7.out.below hb)
  replace B8:=Hd (B8.out.below hb)
  replace B9:=Hd (B9.out.below hb)
  replace B10:=Hd (B10.out.below hb)
  replace HM:=Hd (HM.out.below hb)
  replace V7:=Hd (V7.out.below hb)
  replace V8:=Hd (V8.out.below hb)
  replace V9:=Hd (V9.out.below hb)
  replace V10:=Hd (V10.out.below hb)
  replace hw:=hw.trans (hb.mono hw.size)
  have HPO:=Hd hpo
  clear hpo hb
  go_upto_if 57 with fail
  go_cut [2] (fun va wx=>KAns z t w5 va wx)
  case first=>
   as_aux_lemma=>
    cases fl with
    | false=>
     go_wp2_with fail
     go_meet
     exact ⟨k,rfl,HK.out,HPO.out (by first | rfl | trivial),Below.refl _ _⟩
    | true=>
     have hm20:=tmod20 k
     obtain ⟨r20,hr20⟩ : ∃ r20,k.tmod 20 = r20:=⟨_,rfl⟩
     rw [hr20] at hm20
     have HR20:=Hd hm20
     clear hm20
     go_wp2_with fail
     go_meet
     exact ⟨r20,rfl,by have:=HR20.out;omega,Or.inl (by have:=HR20.out;omega),Below.refl _ _⟩
  obtain ⟨kk,rfl,hk,hpo,hb⟩:=hcut
  obtain ⟨w6,rfl⟩ : ∃ w6,w6 = wc:=⟨wc,rfl⟩
  replace B7:=Hd (B7.out.below hb)
  replace B8:=Hd (B8.out.below hb)
  replace B9:=Hd (B9.out.below hb)
  replace B10:=Hd (B10.out.below hb)
  replace HM:=Hd (HM.out.below hb)
  replace V7:=Hd (V7.out.below hb)
  replace V8:=Hd (V8.out.below hb)
  replace V9:=Hd (V9.out.below hb)
  replace V10:=Hd (V10.out.below hb)
  replace hw:=hw.trans (hb.mono hw.size)
  have HKK:=Hd hk
  have HOK:=Hd hpo
  clear hk hpo hb HPO HK
  as_aux_lemma=>
   obtain ⟨c70,c71,c72,c73,f70,f71,f72,f73,s7⟩:=B7.out
   obtain ⟨c90,c91,c92,c93,f90,f91,f92,f93,s9⟩:=B9.out
   go_wp2_with fail
   refine (Div_w _ _ z t u s _ V7.out V9.out).mono ?_
   rintro e w11 ⟨⟨g11,A11,n11,o11,e11,E11,m11,d11,rfl,hz⟩,hb⟩
   obtain ⟨Pd,hP⟩ : ∃ Pd,newN (z * s) (t * u) = Pd:=⟨_,rfl⟩
   obtain ⟨Qd,hQ⟩ : ∃ Qd,newD (z * s) (t * u) = Qd:=⟨_,rfl⟩
   obtain ⟨ed,hE⟩ : ∃ ed,divE (t * u) = ed:=⟨_,rfl⟩
   rw [hP,hQ] at hz
   rw [hE]
   have HP11:=Hd hP
   have HQ11:=Hd hQ
   have HE11:=Hd hE
   clear hP hQ hE
   clear c70 c71 c72 c73 f70 f71 f72 f73 s7
   clear c90 c91 c92 c93 f90 f91 f92 f93 s9
   replace B7:=Hd (B7.out.below hb)
   replace B8:=Hd (B8.out.below hb)
   replace B9:=Hd (B9.out.below hb)
   replace B10:=Hd (B10.out.below hb)
   replace HM:=Hd (HM.out.below hb)
   replace V7:=Hd (V7.out.below hb)
   replace V8:=Hd (V8.out.below hb)
   replace V9:=Hd (V9.out.below hb)
   replace V10:=Hd (V10.out.below hb)
   replace hw:=hw.trans (hb.mono hw.size)
   have V11:=Hd hz
   clear hb hz
   have hX:=below_alloc w11 (.cells #[.bool g11,.slice A11 n11 o11,.bool e11,.slice E11 m11 d11] 38)
   replace B7:=Hd (B7.out.below hX)
   replace B8:=Hd (B8.out.below hX)
   replace B9:=Hd (B9.out.below hX)
   replace B10:=Hd (B10.out.below hX)
   replace HM:=Hd (HM.out.below hX)
   replace V7:=Hd (V7.out.below hX)
   replace V8:=Hd (V8.out.below hX)
   replace V9:=Hd (V9.out.below hX)
   replace V10:=Hd (V10.out.below hX)
   replace V11:=Hd (V11.out.below hX)
   replace hw:=hw.trans (hX.mono hw.size)
   have B11:=Hd (Fx4.new w11 (.bool g11) (.slice A11 n11 o11) (.bool e11) (.slice E11 m11 d11) 38)
   skip
   clear hX
   go_upto_region 8 with fail
   generalize w11.alloc (.cells #[.bool g11,.slice A11 n11 o11,.bool e11,.slice E11 m11 d11] 38) = W11 at *
   generalize w11.heap.size = k11 at *
   obtain ⟨c80,c81,c82,c83,f80,f81,f82,f83,s8⟩:=B8.out
   obtain ⟨c100,c101,c102,c103,f100,f101,f102,f103,s10⟩:=B10.out
   go_wp2_with fail
   refine (rDiv_q _ _ z t u s 16 _ V8.out V10.out (by decide)).mono ?_
   rintro e w13 ⟨⟨g13,A13,n13,o13,e13,E13,m13,d13,rfl,hz⟩,hb⟩
   rw [HP11.out,HQ11.out] at hz
   rw [HE11.out]
   clear HP11 HQ11 HE11
   clear c80 c81 c82 c83 f80 f81 f82 f83 s8
   clear c100 c101 c102 c103 f100 f101 f102 f103 s10
   replace B7:=Hd (B7.out.below hb)
   replace B8:=Hd (B8.out.below hb)
   replace B9:=Hd (B9.out.below hb)
   replace B10:=Hd (B10.out.below hb)
   replace B11:=Hd (B11.out.below hb)
   replace HM:=Hd (HM.out.below hb)
   replace V7:=Hd (V7.out.below hb)
   replace V8:=Hd (V8.out.below hb)
   replace V9:=Hd (V9.out.below hb)
   replace V10:=Hd (V10.out.below hb)
   replace V11:=Hd (V11.out.below hb)
   replace hw:=hw.trans (hb.mono hw.size)
   have V13:=Hd hz
   clear hb hz
   have hX:=below_alloc w13 (.cells #[.bool g13,.slice A13 n13 o13,.bool e13,.slice E13 m13 d13] 43)
   replace B7:=Hd (B7.out.below hX)
   replace B8:=Hd (B8.out.below hX)
   replace B9:=Hd (B9.out.below hX)
   replace B10:=Hd (B10.out.below hX)
   replace B11:=Hd (B11.out.below hX)
   replace HM:=Hd (HM.out.below hX)
   replace V7:=Hd (V7.out.below hX)
   replace V8:=Hd (V8.out.below hX)
   replace V9:=Hd (V9.out.below hX)
   replace V10:=Hd (V10.out.below hX)
   replace V11:=Hd (V11.out.below hX)
   replace V13:=Hd (V13.out.below hX)
   replace hw:=hw.trans (hX.mono hw.size)
   have B13:=Hd (Fx4.new w13 (.bool g13) (.slice A13 n13 o13) (.bool e13) (.slice E13 m13 d13) 43)
   skip
   clear hX
   go_upto_region 9 with fail
   generalize w13.alloc (.cells #[.bool g13,.slice A13 n13 o13,.bool e13,.slice E13 m13 d13] 43) = W13 at *
   generalize w13.heap.size = k13 at *
   obtain ⟨c70,c71,c72,c73,f70,f71,f72,f73,s7⟩:=B7.out
   go_wp2_with fail
   refine (Power_d _ z t kk _ V7.out HKK.out.1 HKK.out.2 HOK.out).mono ?_
   rintro e w15 ⟨⟨g15,A15,n15,o15,e15,E15,m15,d15,rfl,hz⟩,hb⟩
   obtain ⟨Pp,hP⟩ : ∃ Pp,pqN z t kk = Pp:=⟨_,rfl⟩
   obtain ⟨Qp,hQ⟩ : ∃ Qp,pqD z t kk = Qp:=⟨_,rfl⟩
   obtain ⟨ep,hE⟩ : ∃ ep,pqE z kk = ep:=⟨_,rfl⟩
   rw [hP,hQ] at hz
   rw [hE]
   have HP15:=Hd hP
   have HQ15:=Hd hQ
   have HE15:=Hd hE
   clear hP hQ hE
   clear c70 c71 c72 c73 f70 f71 f72 f73 s7
   replace B7:=Hd (B7.out.below hb)
   replace B8:=Hd (B8.out.below hb)
   replace B9:=Hd (B9.out.below hb)
   replace B10:=Hd (B10.out.below hb)
   replace B11:=Hd (B11.out.below hb)
   replace B13:=Hd (B13.out.below hb)
   replace HM:=Hd (HM.out.below hb)
   replace V7:=Hd (V7.out.below hb)
   replace V8:=Hd (V8.out.below hb)
   replace V9:=Hd (V9.out.below hb)
   replace V10:=Hd (V10.out.below hb)
   replace V11:=Hd (V11.out.below hb)
   replace V13:=Hd (V13.out.below hb)
   replace hw:=hw.trans (hb.mono hw.size)
   have V15:=Hd hz
   clear hb hz
   have hX:=below_alloc w15 (.cells #[.bool g15,.slice A15 n15 o15,.bool e15,.slice E15 m15 d15] 38)
   replace B7:=Hd (B7.out.below hX)
   replace B8:=Hd (B8.out.below hX)
   replace B9:=Hd (B9.out.below hX)
   replace B10:=Hd (B10.out.below hX)
   replace B11:=Hd (B11.out.below hX)
   replace B13:=Hd (B13.out.below hX)
   replace HM:=Hd (HM.out.below hX)
   replace V7:=Hd (V7.out.below hX)
   replace V8:=Hd (V8.out.below hX)
   replace V9:=Hd (V9.out.below hX)
   replace V10:=Hd (V10.out.below hX)
   replace V11:=Hd (V11.out.below hX)
   replace V13:=Hd (V13.out.below hX)
   replace V15:=Hd (V15.out.below hX)
   replace hw:=hw.trans (hX.mono hw.size)
   have B15:=Hd (Fx4.new w15 (.bool g15) (.slice A15 n15 o15) (.bool e15) (.slice E15 m15 d15) 38)
   skip
   clear hX
   go_upto_region 10 with fail
   generalize w15.alloc (.cells #[.bool g15,.slice A15 n15 o15,.bool e15,.slice E15 m15 d15] 38) = W15 at *
   generalize w15.heap.size = k15 at *
   obtain ⟨c80,c81,c82,c83,f80,f81,f82,f83,s8⟩:=B8.out
   go_wp2_with fail
   refine (rPower_d _ z t kk _ V8.out HKK.out.1 HKK.out.2 HOK.out).mono ?_
   rintro e w17 ⟨⟨g17,A17,n17,o17,e17,E17,m17,d17,rfl,hz⟩,hb⟩
   rw [HP15.out,HQ15.out] at hz
   rw [HE15.out]
   clear HP15 HQ15 HE15
   clear c80 c81 c82 c83 f80 f81 f82 f83 s8
   replace B7:=Hd (B7.out.below hb)
   replace B8:=Hd (B8.out.below hb)
   replace B9:=Hd (B9.out.below hb)
   replace B10:=Hd (B10.out.below hb)
   replace B11:=Hd (B11.out.below hb)
   replace B13:=Hd (B13.out.below hb)
   replace B15:=Hd (B15.out.below hb)
   replace HM:=Hd (HM.out.below hb)
   replace V7:=Hd (V7.out.below hb)
   replace V8:=Hd (V8.out.below hb)
   replace V9:=Hd (V9.out.below hb)
   replace V10:=Hd (V10.out.below hb)
   replace V11:=Hd (V11.out.below hb)
   replace V13:=Hd (V13.out.below hb)
   replace V15:=Hd (V15.out.below hb)
   replace hw:=hw.trans (hb.mono hw.size)
   have V17:=Hd hz
   clear hb hz
   have hX:=below_alloc w17 (.cells #[.bool g17,.slice A17 n17 o17,.bool e17,.slice E17 m17 d17] 43)
   replace B7:=Hd (B7.out.below hX)
   replace B8:=Hd (B8.out.below hX)
   replace B9:=Hd (B9.out.below hX)
   replace B10:=Hd (B10.out.below hX)
   replace B11:=Hd (B11.out.below hX)
   replace B13:=Hd (B13.out.below hX)
   replace B15:=Hd (B15.out.below hX)
   replace HM:=Hd (HM.out.below hX)
   replace V7:=Hd (V7.out.below hX)
   replace V8:=Hd (V8.out.below hX)
   replace V9:=Hd (V9.out.below hX)
   replace V10:=Hd (V10.out.below hX)
   replace V11:=Hd (V11.out.below hX)
   replace V13:=Hd (V13.out.below hX)
   replace V15:=Hd (V15.out.below hX)
   replace V17:=Hd (V17.out.below hX)
   replace hw:=hw.trans (hX.mono hw.size)
   have B17:=Hd (Fx4.new w17 (.bool g17) (.slice A17 n17 o17) (.bool e17) (.slice E17 m17 d17) 43)
   skip
   clear hX
   go_upto_region 11 with fail
   generalize w17.alloc (.cells #[.bool g17,.slice A17 n17 o17,.bool e17,.slice E17 m17 d17] 43) = W17 at *
   generalize w17.heap.size = k17 at *
   clear HKK HOK
   obtain ⟨c90,c91,c92,c93,f90,f91,f92,f93,s9⟩:=B9.out
   go_wp2_with fail
   refine (Root_d _ u s _ V9.out).mono ?_
   rintro e w19 ⟨⟨g19,A19,n19,o19,e19,E19,m19,d19,rfl,hz⟩,hb⟩
   obtain ⟨Pr,hP⟩ : ∃ Pr,rtN u s = Pr:=⟨_,rfl⟩
   obtain ⟨Qr,hQ⟩ : ∃ Qr,rtD u s = Qr:=⟨_,rfl⟩
   obtain ⟨er,hE⟩ : ∃ er,rtE u s = er:=⟨_,rfl⟩
   rw [hP,hQ] at hz
   rw [hE]
   have HP19:=Hd hP
   have HQ19:=Hd hQ
   have HE19:=Hd hE
   clear hP hQ hE
   clear c90 c91 c92 c93 f90 f91 f92 f93 s9
   replace B7:=Hd (B7.out.below hb)
   replace B8:=Hd (B8.out.below hb)
   replace B9:=Hd (B9.out.below hb)
   replace B10:=Hd (B10.out.below hb)
   replace B11:=Hd (B11.out.below hb)
   replace B13:=Hd (B13.out.below hb)
   replace B15:=Hd (B15.out.below hb)
   replace B17:=Hd (B17.out.below hb)
   replace HM:=Hd (HM.out.below hb)
   replace V7:=Hd (V7.out.below hb)
   replace V8:=Hd (V8.out.below hb)
   replace V9:=Hd (V9.out.below hb)
   replace V10:=Hd (V10.out.below hb)
   replace V11:=Hd (V11.out.below hb)
   replace V13:=Hd (V13.out.below hb)
   replace V15:=Hd (V15.out.below hb)
   replace V17:=Hd (V17.out.below hb)
   replace hw:=hw.trans (hb.mono hw.size)
   have V19:=Hd hz
   clear hb hz
   have hX:=below_alloc w19 (.cells #[.bool g19,.slice A19 n19 o19,.bool e19,.slice E19 m19 d19] 38)
   replace B7:=Hd (B7.out.below hX)
   replace B8:=Hd (B8.out.below hX)
   replace B9:=Hd (B9.out.below hX)
   replace B10:=Hd (B10.out.below hX)
   replace B11:=Hd (B11.out.below hX)
   replace B13:=Hd (B13.out.below hX)
   replace B15:=Hd (B15.out.below hX)
   replace B17:=Hd (B17.out.below hX)
   replace HM:=Hd (HM.out.below hX)
   replace V7:=Hd (V7.out.below hX)
   replace V8:=Hd (V8.out.below hX)
   replace V9:=Hd (V9.out.below hX)
   replace V10:=Hd (V10.out.below hX)
   replace V11:=Hd (V11.out.below hX)
   replace V13:=Hd (V13.out.below hX)
   replace V15:=Hd (V15.out.below hX)
   replace V17:=Hd (V17.out.below hX)
   replace V19:=Hd (V19.out.below hX)
   replace hw:=hw.trans (hX.mono hw.size)
   have B19:=Hd (Fx4.new w19 (.bool g19) (.slice A19 n19 o19) (.bool e19) (.slice E19 m19 d19) 38)
   skip
   clear hX
   go_upto_region 12 with fail
   generalize w19.alloc (.cells #[.bool g19,.slice A19 n19 o19,.bool e19,.slice E19 m19 d19] 38) = W19 at *
   generalize w19.heap.size = k19 at *
   obtain ⟨c100,c101,c102,c103,f100,f101,f102,f103,s10⟩:=B10.out
   go_wp2_with fail
   refine (rRoot_d _ u s _ V10.out).mono ?_
   rintro e w21 ⟨⟨g21,A21,n21,o21,e21,E21,m21,d21,rfl,hz⟩,hb⟩
   rw [HP19.out,HQ19.out] at hz
   rw [HE19.out]
   clear HP19 HQ19 HE19
   clear c100 c101 c102 c103 f100 f101 f102 f103 s10
   replace B7:=Hd (B7.out.below hb)
   replace B8:=Hd (B8.out.below hb)
   replace B9:=Hd (B9.out.below hb)
   replace B10:=Hd (B10.out.below hb)
   replace B11:=Hd (B11.out.below hb)
   replace B13:=Hd (B13.out.below hb)
   replace B15:=Hd (B15.out.below hb)
   replace B17:=Hd (B17.out.below hb)
   replace B19:=Hd (B19.out.below hb)
   replace HM:=Hd (HM.out.below hb)
   replace V7:=Hd (V7.out.below hb)
   replace V8:=Hd (V8.out.below hb)
   replace V9:=Hd (V9.out.below hb)
   replace V10:=Hd (V10.out.below hb)
   replace V11:=Hd (V11.out.below hb)
   replace V13:=Hd (V13.out.below hb)
   replace V15:=Hd (V15.out.below hb)
   replace V17:=Hd (V17.out.below hb)
   replace V19:=Hd (V19.out.below hb)
   replace hw:=hw.trans (hb.mono hw.size)
   have V21:=Hd hz
   clear hb hz
   have hX:=below_alloc w21 (.cells #[.bool g21,.slice A21 n21 o21,.bool e21,.slice E21 m21 d21] 43)
   replace B7:=Hd (B7.out.below hX)
   replace B8:=Hd (B8.out.below hX)
   replace B9:=Hd (B9.out.below hX)
   replace B10:=Hd (B10.out.below hX)
   replace B11:=Hd (B11.out.below hX)
   replace B13:=Hd (B13.out.below hX)
   replace B15:=Hd (B15.out.below hX)
   replace B17:=Hd (B17.out.below hX)
   replace B19:=Hd (B19.out.below hX)
   replace HM:=Hd (HM.out.below hX)
   replace V7:=Hd (V7.out.below hX)
   replace V8:=Hd (V8.out.below hX)
   replace V9:=Hd (V9.out.below hX)
   replace V10:=Hd (V10.out.below hX)
   replace V11:=Hd (V11.out.below hX)
   replace V13:=Hd (V13.out.below hX)
   replace V15:=Hd (V15.out.below hX)
   replace V17:=Hd (V17.out.below hX)
   replace V19:=Hd (V19.out.below hX)
   replace V21:=Hd (V21.out.below hX)
   replace hw:=hw.trans (hX.mono hw.size)
   have B21:=Hd (Fx4.new w21 (.bool g21) (.slice A21 n21 o21) (.bool e21) (.slice E21 m21 d21) 43)
   skip
   clear hX
   go_upto_region 13 with fail
   generalize w21.alloc (.cells #[.bool g21,.slice A21 n21 o21,.bool e21,.slice E21 m21 d21] 43) = W21 at *
   generalize w21.heap.size = k21 at *
   have ALL:=Hd (show Kept (fun w=>QP w k7 g7 A7 n7 o7 e7 E7 m7 d7 z t 8 /\ QR w (k7 + 1) g8 A8 n8 o8 e8 E8 m8 d8 z t 16 /\ QP w k9 g9 A9 n9 o9 e9 E9 m9 d9 u s 8 /\ QR w (k9 + 1) g10 A10 n10 o10 e10 E10 m10 d10 u s 16 /\ QP w k11 g11 A11 n11 o11 e11 E11 m11 d11 Pd Qd 20 /\ QR w k13 g13 A13 n13 o13 e13 E13 m13 d13 Pd Qd 97 /\ QP w k15 g15 A15 n15 o15 e15 E15 m15 d15 Pp Qp 200000 /\ QR w k17 g17 A17 n17 o17 e17 E17 m17 d17 Pp Qp 1000 /\ QP w k19 g19 A19 n19 o19 e19 E19 m19 d19 Pr Qr 9 /\ QR w k21 g21 A21 n21 o21 e21 E21 m21 d21 Pr Qr 1000 /\ MCell M w) W21 from ⟨⟨⟨B7.out,V7.out⟩,⟨B8.out,V8.out⟩,⟨B9.out,V9.out⟩,⟨B10.out,V10.out⟩,⟨B11.out,V11.out⟩,⟨B13.out,V13.out⟩,⟨B15.out,V15.out⟩,⟨B17.out,V17.out⟩,⟨B19.out,V19.out⟩,⟨B21.out,V21.out⟩,HM.out⟩,fun _ _ ⟨h7,h8,h9,h10,h11,h13,h15,h17,h19,h21,hm⟩ hb=>⟨h7.below hb,h8.below hb,h9.below hb,h10.below hb,h11.below hb,h13.below hb,h15.below hb,h17.below hb,h19.below hb,h21.below hb,hm.below hb⟩⟩)
   have HT:=Hd (fun (w1:World) (hb:Below W21.heap.size W21 w1)=>(show w1.cell? ⟨k7,0,none⟩ = some (.bool g7) /\ w1.cell? ⟨k7,1,none⟩ = some (.slice A7 n7 o7) /\ w1.cell? ⟨k7,2,none⟩ = some (.bool e7) /\ w1.cell? ⟨k7,3,none⟩ = some (.slice E7 m7 d7) /\ w1.cell? ⟨(k7 + 1),0,none⟩ = some (.bool g8) /\ w1.cell? ⟨(k7 + 1),1,none⟩ = some (.slice A8 n8 o8) /\ w1.cell? ⟨(k7 + 1),2,none⟩ = some (.bool e8) /\ w1.cell? ⟨(k7 + 1),3,none⟩ = some (.slice E8 m8 d8) /\ w1.cell? ⟨k9,0,none⟩ = some (.bool g9) /\ w1.cell? ⟨k9,1,none⟩ = some (.slice A9 n9 o9) /\ w1.cell? ⟨k9,2,none⟩ = some (.bool e9) /\ w1.cell? ⟨k9,3,none⟩ = some (.slice E9 m9 d9) /\ w1.cell? ⟨(k9 + 1),0,none⟩ = some (.bool g10) /\ w1.cell? ⟨(k9 + 1),1,none⟩ = some (.slice A10 n10 o10) /\ w1.cell? ⟨(k9 + 1),2,none⟩ = some (.bool e10) /\ w1.cell? ⟨(k9 + 1),3,none⟩ = some (.slice E10 m10 d10) /\ w1.cell? ⟨k11,0,none⟩ = some (.bool g11) /\ w1.cell? ⟨k11,1,none⟩ = some (.slice A11 n11 o11) /\ w1.cell? ⟨k11,2,none⟩ = some (.bool e11) /\ w1.cell? ⟨k11,3,none⟩ = some (.slice E11 m11 d11) /\ w1.cell? ⟨k13,0,none⟩ = some (.bool g13) /\ w1.cell? ⟨k13,1,none⟩ = some (.slice A13 n13 o13) /\ w1.cell? ⟨k13,2,none⟩ = some (.bool e13) /\ w1.cell? ⟨k13,3,none⟩ = some (.slice E13 m13 d13) /\ w1.cell? ⟨k15,0,none⟩ = some (.bool g15) /\ w1.cell? ⟨k15,1,none⟩ = some (.slice A15 n15 o15) /\ w1.cell? ⟨k15,2,none⟩ = some (.bool e15) /\ w1.cell? ⟨k15,3,none⟩ = some (.slice E15 m15 d15) /\ w1.cell? ⟨k17,0,none⟩ = some (.bool g17) /\ w1.cell? ⟨k17,1,none⟩ = some (.slice A17 n17 o17) /\ w1.cell? ⟨k17,2,none⟩ = some (.bool e17) /\ w1.cell? ⟨k17,3,none⟩ = some (.slice E17 m17 d17) /\ w1.cell? ⟨k19,0,none⟩ = some (.bool g19) /\ w1.cell? ⟨k19,1,none⟩ = some (.slice A19 n19 o19) /\ w1.cell? ⟨k19,2,none⟩ = some (.bool e19) /\ w1.cell? ⟨k19,3,none⟩ = some (.slice E19 m19 d19) /\ w1.cell? ⟨k21,0,none⟩ = some (.bool g21) /\ w1.cell? ⟨k21,1,none⟩ = some (.slice A21 n21 o21) /\ w1.cell? ⟨k21,2,none⟩ = some (.bool e21) /\ w1.cell? ⟨k21,3,none⟩ = some (.slice E21 m21 d21) from by obtain ⟨q7,q8,q9,q10,q11,q13,q15,q17,q19,q21,-⟩:=ALL.out.1;exact ⟨(q7.1.below hb).c0,(q7.1.below hb).c1,(q7.1.below hb).c2,(q7.1.below hb).c3,(q8.1.below hb).c0,(q8.1.below hb).c1,(q8.1.below hb).c2,(q8.1.below hb).c3,(q9.1.below hb).c0,(q9.1.below hb).c1,(q9.1.below hb).c2,(q9.1.below hb).c3,(q10.1.below hb).c0,(q10.1.below hb).c1,(q10.1.below hb).c2,(q10.1.below hb).c3,(q11.1.below hb).c0,(q11.1.below hb).c1,(q11.1.below hb).c2,(q11.1.below hb).c3,(q13.1.below hb).c0,(q13.1.below hb).c1,(q13.1.below hb).c2,(q13.1.below hb).c3,(q15.1.below hb).c0,(q15.1.below hb).c1,(q15.1.below hb).c2,(q15.1.below hb).c3,(q17.1.below hb).c0,(q17.1.below hb).c1,(q17.1.below hb).c2,(q17.1.below hb).c3,(q19.1.below hb).c0,(q19.1.below hb).c1,(q19.1.below hb).c2,(q19.1.below hb).c3,(q21.1.below hb).c0,(q21.1.below hb).c1,(q21.1.below hb).c2,(q21.1.below hb).c3⟩))
   clear B7 B8 B9 B10 B11 B13 B15 B17 B19 B21 HM V7 V8 V9 V10 V11 V13 V15 V17 V19 V21
   as_aux_lemma=>
    have hB:=(Below.refl W21.heap.size W21).drew
    replace ALL:=Hd (ALL.out.below hB)
    refine wp_region_held_drew (S:=fun w'=>w'.cell? ⟨k7,0,none⟩ = some (.bool g7) /\ w'.cell? ⟨k7,1,none⟩ = some (.slice A7 n7 o7) /\ w'.cell? ⟨k7,2,none⟩ = some (.bool e7) /\ w'.cell? ⟨k7,3,none⟩ = some (.slice E7 m7 d7) /\ w'.cell? ⟨(k7 + 1),0,none⟩ = some (.bool g8) /\ w'.cell? ⟨(k7 + 1),1,none⟩ = some (.slice A8 n8 o8) /\ w'.cell? ⟨(k7 + 1),2,none⟩ = some (.bool e8) /\ w'.cell? ⟨(k7 + 1),3,none⟩ = some (.slice E8 m8 d8) /\ w'.cell? ⟨k9,0,none⟩ = some (.bool g9) /\ w'.cell? ⟨k9,1,none⟩ = some (.slice A9 n9 o9) /\ w'.cell? ⟨k9,2,none⟩ = some (.bool e9) /\ w'.cell? ⟨k9,3,none⟩ = some (.slice E9 m9 d9) /\ w'.cell? ⟨(k9 + 1),0,none⟩ = some (.bool g10) /\ w'.cell? ⟨(k9 + 1),1,none⟩ = some (.slice A10 n10 o10) /\ w'.cell? ⟨(k9 + 1),2,none⟩ = some (.bool e10) /\ w'.cell? ⟨(k9 + 1),3,none⟩ = some (.slice E10 m10 d10) /\ w'.cell? ⟨k11,0,none⟩ = some (.bool g11) /\ w'.cell? ⟨k11,1,none⟩ = some (.slice A11 n11 o11) /\ w'.cell? ⟨k11,2,none⟩ = some (.bool e11) /\ w'.cell? ⟨k11,3,none⟩ = some (.slice E11 m11 d11) /\ w'.cell? ⟨k13,0,none⟩ = some (.bool g13) /\ w'.cell? ⟨k13,1,none⟩ = some (.slice A13 n13 o13) /\ w'.cell? ⟨k13,2,none⟩ = some (.bool e13) /\ w'.cell? ⟨k13,3,none⟩ = some (.slice E13 m13 d13) /\ w'.cell? ⟨k15,0,none⟩ = some (.bool g15) /\ w'.cell? ⟨k15,1,none⟩ = some (.slice A15 n15 o15) /\ w'.cell? ⟨k15,2,none⟩ = some (.bool e15) /\ w'.cell? ⟨k15,3,none⟩ = some (.slice E15 m15 d15) /\ w'.cell? ⟨k17,0,none⟩ = some (.bool g17) /\ w'.cell? ⟨k17,1,none⟩ = some (.slice A17 n17 o17) /\ w'.cell? ⟨k17,2,none⟩ = some (.bool e17) /\ w'.cell? ⟨k17,3,none⟩ = some (.slice E17 m17 d17) /\ w'.cell? ⟨k19,0,none⟩ = some (.bool g19) /\ w'.cell? ⟨k19,1,none⟩ = some (.slice A19 n19 o19) /\ w'.cell? ⟨k19,2,none⟩ = some (.bool e19) /\ w'.cell? ⟨k19,3,none⟩ = some (.slice E19 m19 d19) /\ w'.cell? ⟨k21,0,none⟩ = some (.bool g21) /\ w'.cell? ⟨k21,1,none⟩ = some (.slice A21 n21 o21) /\ w'.cell? ⟨k21,2,none⟩ = some (.bool e21) /\ w'.cell? ⟨k21,3,none⟩ = some (.slice E21 m21 d21)) (by kernel_rfl) (HT.out _ hB) (fun hH=>?_)
    clear hH
    generalize W21.drew = wr0 at *
    refine tk 0 94 (by first | assumption | exact HT.out _ hB) ?_
    try simp only [Act.put,tA,cZ,cS]
    refine tk 2 96 (by first | assumption | exact HT.out _ hB) ?_
    try simp only [Act.put,tA,cZ,cS]
    refine rd 1 (AllReadyH.cons rfl (fun K hK=>?_) AllReadyH.nil)
    (try simp only [gA]);(try simp only [gS]);(try simp only [gZ])
    go_simp
    (go_at_call 36;refine (Neg_any _ z t 8 _ (ALL.out.1.1.2) (by decide)).mono ?_;rintro e wc1 ⟨⟨g101,A101,n101,o101,e101,E101,m101,d101,rfl,hz⟩,hb⟩)
    replace ALL:=Hd (ALL.out.below hb)
    replace hB:=Below.trans hB (hb.mono hB.size)
    have T1:=Hd hz
    refine hK.out _ _ (HT.out _ hB) (fun hH=>?_)
    clear hK K hH
    try simp only [Act.put,tA,cZ,cS]
    clear hb hz
    refine rd 3 (AllReadyH.cons rfl (fun K hK=>?_) AllReadyH.nil)
    (try simp only [gA]);(try simp only [gS]);(try simp only [gZ])
    go_simp
    (go_at_call 37;refine (rNeg_q _ z t 16 _ (ALL.out.1.2.1.2) (by decide)).mono ?_;rintro e wc3 ⟨⟨g103,A103,n103,o103,e103,E103,m103,d103,rfl,hz⟩,hb⟩)
    replace ALL:=Hd (ALL.out.below hb)
    replace T1:=Hd (T1.out.below hb)
    replace hB:=Below.trans hB (hb.mono hB.size)
    have T2:=Hd hz
    refine hK.out _ _ (HT.out _ hB) (fun hH=>?_)
    clear hK K hH
    try simp only [Act.put,tA,cZ,cS]
    clear hb hz
    refine rd 4 (AllReadyH.cons rfl (fun K hK=>?_) AllReadyH.nil)
    (try simp only [gA]);(try simp only [gS]);(try simp only [gZ])
    go_simp
    (go_at_call 19;refine (Is_q _ _ (-z) t 8 16 _ T1.out T2.out (by decide) (by decide) (by decide)).mono ?_;rintro e wc4 ⟨rfl,hb⟩)
    replace ALL:=Hd (ALL.out.below hb)
    replace T1:=Hd (T1.out.below hb)
    replace T2:=Hd (T2.out.below hb)
    replace hB:=Below.trans hB (hb.mono hB.size)
    clear T1
    clear T2
    refine hK.out _ _ (HT.out _ hB) (fun hH=>?_)
    clear hK K hH
    try simp only [Act.put,tA,cZ,cS]
    clear hb
    refine tk 5 99 (by first | assumption | exact HT.out _ hB) ?_
    try simp only [Act.put,tA,cZ,cS]
    refine tk 6 100 (by first | assumption | exact HT.out _ hB) ?_
    try simp only [Act.put,tA,cZ,cS]
    refine tk 8 102 (by first | assumption | exact HT.out _ hB) ?_
    try simp only [Act.put,tA,cZ,cS]
    refine rd 7 (AllReadyH.cons rfl (fun K hK=>?_) AllReadyH.nil)
    (try simp only [gA]);(try simp only [gS]);(try simp only [gZ])
    go_simp
    (go_at_call 38;refine (Abs_any _ z t 8 _ (ALL.out.1.1.2) (by decide)).mono ?_;rintro e wc7 ⟨⟨g107,A107,n107,o107,e107,E107,m107,d107,rfl,hz⟩,hb⟩)
    replace ALL:=Hd (ALL.out.below hb)
    replace hB:=Below.trans hB (hb.mono hB.size)
    have T1:=Hd hz
    refine hK.out _ _ (HT.out _ hB) (fun hH=>?_)
    clear hK K hH
    try simp only [Act.put,tA,cZ,cS]
    clear hb hz
    refine rd 9 (AllReadyH.cons rfl (fun K hK=>?_) AllReadyH.nil)
    (try simp only [gA]);(try simp only [gS]);(try simp only [gZ])
    go_simp
    (go_at_call 39;refine (rAbs_q _ z t 16 _ (ALL.out.1.2.1.2)).mono ?_;rintro e wc9 ⟨⟨g109,A109,n109,o109,e109,E109,m109,d109,rfl,hz⟩,hb⟩)
    replace ALL:=Hd (ALL.out.below hb)
    replace T1:=Hd (T1.out.below hb)
    replace hB:=Below.trans hB (hb.mono hB.size)
    have T2:=Hd hz
    refine hK.out _ _ (HT.out _ hB) (fun hH=>?_)
    clear hK K hH
    try simp only [Act.put,tA,cZ,cS]
    clear hb hz
    refine rd 10 (AllReadyH.cons rfl (fun K hK=>?_) AllReadyH.nil)
    (try simp only [gA]);(try simp only [gS]);(try simp only [gZ])
    go_simp
    (go_at_call 19;refine (Is_q _ _ (absI z) t 8 16 _ T1.out T2.out (by decide) (by decide) (by decide)).mono ?_;rintro e wc10 ⟨rfl,hb⟩)
    replace ALL:=Hd (ALL.out.below hb)
    replace T1:=Hd (T1.out.below hb)
    replace T2:=Hd (T2.out.below hb)
    replace hB:=Below.trans hB (hb.mono hB.size)
    clear T1
    clear T2
    refine hK.out _ _ (HT.out _ hB) (fun hH=>?_)
    clear hK K hH
    try simp only [Act.put,tA,cZ,cS]
    clear hb
    refine tk 11 105 (by first | assumption | exact HT.out _ hB) ?_
    try simp only [Act.put,tA,cZ,cS]
    refine tk 12 106 (by first | assumption | exact HT.out _ hB) ?_
    try simp only [Act.put,tA,cZ,cS]
    refine tk 13 107 (by first | assumption | exact HT.out _ hB) ?_
    try simp only [Act.put,tA,cZ,cS]
    refine tk 14 108 (by first | assumption | exact HT.out _ hB) ?_
    try simp only [Act.put,tA,cZ,cS]
    refine tk 16 110 (by first | assumption | exact HT.out _ hB) ?_
    try simp only [Act.put,tA,cZ,cS]
    refine tk 17 111 (by first | assumption | exact HT.out _ hB) ?_
    try simp only [Act.put,tA,cZ,cS]
    refine rd 15 (AllReadyH.cons rfl (fun K hK=>?_) AllReadyH.nil)
    (try simp only [gA]);(try simp only [gS]);(try simp only [gZ])
    go_simp
    (go_at_call 40;refine (Add_w _ _ z t u s _ (ALL.out.1.1.2) (ALL.out.1.2.2.1.2)).mono ?_;rintro e wc15 ⟨⟨g115,A115,n115,o115,e115,E115,m115,d115,rfl,hz⟩,hb⟩)
    replace ALL:=Hd (ALL.out.below hb)
    replace hB:=Below.trans hB (hb.mono hB.size)
    have T1:=Hd hz
    refine hK.out _ _ (HT.out _ hB) (fun hH=>?_)
    clear hK K hH
    try simp only [Act.put,tA,cZ,cS]
    clear hb hz
    refine rd 18 (AllReadyH.cons rfl (fun K hK=>?_) AllReadyH.nil)
    (try simp only [gA]);(try simp only [gS]);(try simp only [gZ])
    go_simp
    (go_at_call 41;refine (rAdd_q _ _ z t u s 16 _ (ALL.out.1.2.1.2) (ALL.out.1.2.2.2.1.2) (by decide)).mono ?_;rintro e wc18 ⟨⟨g118,A118,n118,o118,e118,E118,m118,d118,rfl,hz⟩,hb⟩)
    replace ALL:=Hd (ALL.out.below hb)
    replace T1:=Hd (T1.out.below hb)
    replace hB:=Below.trans hB (hb.mono hB.size)
    have T2:=Hd hz
    refine hK.out _ _ (HT.out _ hB) (fun hH=>?_)
    clear hK K hH
    try simp only [Act.put,tA,cZ,cS]
    clear hb hz
    refine rd 19 (AllReadyH.cons rfl (fun K hK=>?_) AllReadyH.nil)
    (try simp only [gA]);(try simp only [gS]);(try simp only [gZ])
    go_simp
    (go_at_call 19;refine (Is_q _ _ _ _ 21 98 _ T1.out T2.out (by decide) (by decide) (by decide)).mono ?_;rintro e wc19 ⟨rfl,hb⟩)
    replace ALL:=Hd (ALL.out.below hb)
    replace T1:=Hd (T1.out.below hb)
    replace T2:=Hd (T2.out.below hb)
    replace hB:=Below.trans hB (hb.mono hB.size)
    clear T1
    clear T2
    refine hK.out _ _ (HT.out _ hB) (fun hH=>?_)
    clear hK K hH
    try simp only [Act.put,tA,cZ,cS]
    clear hb
    refine tk 20 114 (by first | assumption | exact HT.out _ hB) ?_
    try simp only [Act.put,tA,cZ,cS]
    refine tk 21 115 (by first | assumption | exact HT.out _ hB) ?_
    try simp only [Act.put,tA,cZ,cS]
    refine tk 22 116 (by first | assumption | exact HT.out _ hB) ?_
    try simp only [Act.put,tA,cZ,cS]
    refine tk 23 117 (by first | assumption | exact HT.out _ hB) ?_
    try simp only [Act.put,tA,cZ,cS]
    refine tk 25 119 (by first | assumption | exact HT.out _ hB) ?_
    try simp only [Act.put,tA,cZ,cS]
    refine tk 26 120 (by first | assumption | exact HT.out _ hB) ?_
    try simp only [Act.put,tA,cZ,cS]
    refine rd 24 (AllReadyH.cons rfl (fun K hK=>?_) AllReadyH.nil)
    (try simp only [gA]);(try simp only [gS]);(try simp only [gZ])
    go_simp
    (go_at_call 42;refine (Sub_w _ _ z t u s _ (ALL.out.1.1.2) (ALL.out.1.2.2.1.2)).mono ?_;rintro e wc24 ⟨⟨g124,A124,n124,o124,e124,E124,m124,d124,rfl,hz⟩,hb⟩)
    replace ALL:=Hd (ALL.out.below hb)
    replace hB:=Below.trans hB (hb.mono hB.size)
    have T1:=Hd hz
    refine hK.out _ _ (HT.out _ hB) (fun hH=>?_)
    clear hK K hH
    try simp only [Act.put,tA,cZ,cS]
    clear hb hz
    refine rd 27 (AllReadyH.cons rfl (fun K hK=>?_) AllReadyH.nil)
    (try simp only [gA]);(try simp only [gS]);(try simp only [gZ])
    go_simp
    (go_at_call 43;refine (rSub_q _ _ z t u s 16 _ (ALL.out.1.2.1.2) (ALL.out.1.2.2.2.1.2) (by decide)).mono ?_;rintro e wc27 ⟨⟨g127,A127,n127,o127,e127,E127,m127,d127,rfl,hz⟩,hb⟩)
    replace ALL:=Hd (ALL.out.below hb)
    replace T1:=Hd (T1.out.below hb)
    replace hB:=Below.trans hB (hb.mono hB.size)
    have T2:=Hd hz
    refine hK.out _ _ (HT.out _ hB) (fun hH=>?_)
    clear hK K hH
    try simp only [Act.put,tA,cZ,cS]
    clear hb hz
    refine rd 28 (AllReadyH.cons rfl (fun K hK=>?_) AllReadyH.nil)
    (try simp only [gA]);(try simp only [gS]);(try simp only [gZ])
    go_simp
    (go_at_call 19;refine (Is_q _ _ _ _ 21 98 _ T1.out T2.out (by decide) (by decide) (by decide)).mono ?_;rintro e wc28 ⟨rfl,hb⟩)
    replace ALL:=Hd (ALL.out.below hb)
    replace T1:=Hd (T1.out.below hb)
    replace T2:=Hd (T2.out.below hb)
    replace hB:=Below.trans hB (hb.mono hB.size)
    clear T1
    clear T2
    refine hK.out _ _ (HT.out _ hB) (fun hH=>?_)
    clear hK K hH
    try simp only [Act.put,tA,cZ,cS]
    clear hb
    refine tk 29 123 (by first | assumption | exact HT.out _ hB) ?_
    try simp only [Act.put,tA,cZ,cS]
    refine tk 30 124 (by first | assumption | exact HT.out _ hB) ?_
    try simp only [Act.put,tA,cZ,cS]
    refine tk 31 125 (by first | assumption | exact HT.out _ hB) ?_
    try simp only [Act.put,tA,cZ,cS]
    refine tk 32 126 (by first | assumption | exact HT.out _ hB) ?_
    try simp only [Act.put,tA,cZ,cS]
    refine tk 34 128 (by first | assumption | exact HT.out _ hB) ?_
    try simp only [Act.put,tA,cZ,cS]
    refine tk 35 129 (by first | assumption | exact HT.out _ hB) ?_
    try simp only [Act.put,tA,cZ,cS]
    refine rd 33 (AllReadyH.cons rfl (fun K hK=>?_) AllReadyH.nil)
    (try simp only [gA]);(try simp only [gS]);(try simp only [gZ])
    go_simp
    (go_at_call 44;refine (Mul_w _ _ z t u s _ (ALL.out.1.1.2) (ALL.out.1.2.2.1.2)).mono ?_;rintro e wc33 ⟨⟨g133,A133,n133,o133,e133,E133,m133,d133,rfl,hz⟩,hb⟩)
    replace ALL:=Hd (ALL.out.below hb)
    replace hB:=Below.trans hB (hb.mono hB.size)
    have T1:=Hd hz
    refine hK.out _ _ (HT.out _ hB) (fun hH=>?_)
    clear hK K hH
    try simp only [Act.put,tA,cZ,cS]
    clear hb hz
    refine rd 36 (AllReadyH.cons rfl (fun K hK=>?_) AllReadyH.nil)
    (try simp only [gA]);(try simp only [gS]);(try simp only [gZ])
    go_simp
    (go_at_call 45;refine (rMul_q _ _ z t u s 16 _ (ALL.out.1.2.1.2) (ALL.out.1.2.2.2.1.2) (by decide)).mono ?_;rintro e wc36 ⟨⟨g136,A136,n136,o136,e136,E136,m136,d136,rfl,hz⟩,hb⟩)
    replace ALL:=Hd (ALL.out.below hb)
    replace T1:=Hd (T1.out.below hb)
    replace hB:=Below.trans hB (hb.mono hB.size)
    have T2:=Hd hz
    refine hK.out _ _ (HT.out _ hB) (fun hH=>?_)
    clear hK K hH
    try simp only [Act.put,tA,cZ,cS]
    clear hb hz
    refine rd 37 (AllReadyH.cons rfl (fun K hK=>?_) AllReadyH.nil)
    (try simp only [gA]);(try simp only [gS]);(try simp only [gZ])
    go_simp
    (go_at_call 19;refine (Is_q _ _ _ _ 20 97 _ T1.out T2.out (by decide) (by decide) (by decide)).mono ?_;rintro e wc37 ⟨rfl,hb⟩)
    replace ALL:=Hd (ALL.out.below hb)
    replace T1:=Hd (T1.out.below hb)
    replace T2:=Hd (T2.out.below hb)
    replace hB:=Below.trans hB (hb.mono hB.size)
    clear T1
    clear T2
    refine hK.out _ _ (HT.out _ hB) (fun hH=>?_)
    clear hK K hH
    try simp only [Act.put,tA,cZ,cS]
    clear hb
    refine tk 38 132 (by first | assumption | exact HT.out _ hB) ?_
    try simp only [Act.put,tA,cZ,cS]
    refine tk 39 133 (by first | assumption | exact HT.out _ hB) ?_
    try simp only [Act.put,tA,cZ,cS]
    refine tk 40 134 (by first | assumption | exact HT.out _ hB) ?_
    try simp only [Act.put,tA,cZ,cS]
    refine tk 41 135 (by first | assumption | exact HT.out _ hB) ?_
    try simp only [Act.put,tA,cZ,cS]
    refine tk 42 136 (by first | assumption | exact HT.out _ hB) ?_
    try simp only [Act.put,tA,cZ,cS]
    refine tk 43 137 (by first | assumption | exact HT.out _ hB) ?_
    try simp only [Act.put,tA,cZ,cS]
    refine tk 44 138 (by first | assumption | exact HT.out _ hB) ?_
    try simp only [Act.put,tA,cZ,cS]
    refine tk 45 139 (by first | assumption | exact HT.out _ hB) ?_
    try simp only [Act.put,tA,cZ,cS]
    refine tk 46 140 (by first | assumption | exact HT.out _ hB) ?_
    try simp only [Act.put,tA,cZ,cS]
    refine rd 47 (AllReadyH.cons rfl (fun K hK=>?_) AllReadyH.nil)
    (try simp only [gA]);(try simp only [gS]);(try simp only [gZ])
    go_simp
    (go_at_call 19;refine (Is_q _ _ Pd Qd 20 97 _ (ALL.out.1.2.2.2.2.1.2) (ALL.out.1.2.2.2.2.2.1.2) (by decide) (by decide) (by decide)).mono ?_;rintro e wc47 ⟨rfl,hb⟩)
    replace ALL:=Hd (ALL.out.below hb)
    replace hB:=Below.trans hB (hb.mono hB.size)
    refine hK.out _ _ (HT.out _ hB) (fun hH=>?_)
    clear hK K hH
    try simp only [Act.put,tA,cZ,cS]
    clear hb
    refine tk 48 142 (by first | assumption | exact HT.out _ hB) ?_
    try simp only [Act.put,tA,cZ,cS]
    refine tk 49 143 (by first | assumption | exact HT.out _ hB) ?_
    try simp only [Act.put,tA,cZ,cS]
    refine tk 50 144 (by first | assumption | exact HT.out _ hB) ?_
    try simp only [Act.put,tA,cZ,cS]
    refine tk 51 145 (by first | assumption | exact HT.out _ hB) ?_
    try simp only [Act.put,tA,cZ,cS]
    refine tk 52 146 (by first | assumption | exact HT.out _ hB) ?_
    try simp only [Act.put,tA,cZ,cS]
    refine tk 53 147 (by first | assumption | exact HT.out _ hB) ?_
    try simp only [Act.put,tA,cZ,cS]
    refine tk 54 148 (by first | assumption | exact HT.out _ hB) ?_
    try simp only [Act.put,tA,cZ,cS]
    refine tk 55 149 (by first | assumption | exact HT.out _ hB) ?_
    try simp only [Act.put,tA,cZ,cS]
    refine tk 56 150 (by first | assumption | exact HT.out _ hB) ?_
    try simp only [Act.put,tA,cZ,cS]
    refine rd 57 (AllReadyH.cons rfl (fun K hK=>?_) AllReadyH.nil)
    (try simp only [gA]);(try simp only [gS]);(try simp only [gZ])
    go_simp
    (go_at_call 19;refine (Is_q _ _ Pp Qp 200000 1000 _ (ALL.out.1.2.2.2.2.2.2.1.2) (ALL.out.1.2.2.2.2.2.2.2.1.2) (by decide) (by decide) (by decide)).mono ?_;rintro e wc57 ⟨rfl,hb⟩)
    replace ALL:=Hd (ALL.out.below hb)
    replace hB:=Below.trans hB (hb.mono hB.size)
    refine hK.out _ _ (HT.out _ hB) (fun hH=>?_)
    clear hK K hH
    try simp only [Act.put,tA,cZ,cS]
    clear hb
    refine tk 58 152 (by first | assumption | exact HT.out _ hB) ?_
    try simp only [Act.put,tA,cZ,cS]
    refine tk 59 153 (by first | assumption | exact HT.out _ hB) ?_
    try simp only [Act.put,tA,cZ,cS]
    refine tk 60 154 (by first | assumption | exact HT.out _ hB) ?_
    try simp only [Act.put,tA,cZ,cS]
    refine tk 61 155 (by first | assumption | exact HT.out _ hB) ?_
    try simp only [Act.put,tA,cZ,cS]
    refine tk 62 156 (by first | assumption | exact HT.out _ hB) ?_
    try simp only [Act.put,tA,cZ,cS]
    refine tk 63 157 (by first | assumption | exact HT.out _ hB) ?_
    try simp only [Act.put,tA,cZ,cS]
    refine tk 64 158 (by first | assumption | exact HT.out _ hB) ?_
    try simp only [Act.put,tA,cZ,cS]
    refine tk 65 159 (by first | assumption | exact HT.out _ hB) ?_
    try simp only [Act.put,tA,cZ,cS]
    refine tk 66 160 (by first | assumption | exact HT.out _ hB) ?_
    try simp only [Act.put,tA,cZ,cS]
    refine rd 67 (AllReadyH.cons rfl (fun K hK=>?_) AllReadyH.nil)
    (try simp only [gA]);(try simp only [gS]);(try simp only [gZ])
    go_simp
    (go_at_call 19;refine (Is_q _ _ Pr Qr 9 1000 _ (ALL.out.1.2.2.2.2.2.2.2.2.1.2) (ALL.out.1.2.2.2.2.2.2.2.2.2.1.2) (by decide) (by decide) (by decide)).mono ?_;rintro e wc67 ⟨rfl,hb⟩)
    replace ALL:=Hd (ALL.out.below hb)
    replace hB:=Below.trans hB (hb.mono hB.size)
    refine hK.out _ _ (HT.out _ hB) (fun hH=>?_)
    clear hK K hH
    try simp only [Act.put,tA,cZ,cS]
    clear hb
    refine tk 68 162 (by first | assumption | exact HT.out _ hB) ?_
    try simp only [Act.put,tA,cZ,cS]
    refine tk 69 163 (by first | assumption | exact HT.out _ hB) ?_
    try simp only [Act.put,tA,cZ,cS]
    refine rd 70 (AllReadyH.cons rfl (fun K hK=>?_) AllReadyH.nil)
    (try simp only [gA]);(try simp only [gS]);(try simp only [gZ])
    go_simp
    (go_at_call 14;refine (awake_m _ M (ALL.out.1.2.2.2.2.2.2.2.2.2.2)).mono ?_;rintro e wc70 ⟨rfl,hb⟩)
    replace ALL:=Hd (ALL.out.below hb)
    replace hB:=Below.trans hB (hb.mono hB.size)
    refine hK.out _ _ (HT.out _ hB) (fun hH=>?_)
    clear hK K hH
    try simp only [Act.put,tA,cZ,cS]
    clear hb
    refine tk 71 165 (by first | assumption | exact HT.out _ hB) ?_
    try simp only [Act.put,tA,cZ,cS]
    refine tk 72 6 (by first | assumption | exact HT.out _ hB) ?_
    try simp only [Act.put,tA,cZ,cS]
    refine wpAnyH_done (by kernel_rfl) ?_ _
    replace hw:=hw.trans (hB.mono hw.size)
    go_wp2
    go_ret
    exact ⟨rfl,hw⟩
end Go.Proofs.YtbajnceoolkckaaGreat
