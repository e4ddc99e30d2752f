/- Of the proof of RationalRounds: RatN. -/
import Derived.Test.YtbajnceoolkckaaGreatRd24
open List renaming getElem_toArray → gA, getElem_cons_succ → gS, getElem_cons_zero → gZ, setIfInBounds_toArray → tA, set_cons_zero → cZ, set_cons_succ → cS
open Go.Lib renaming hid → Hd
set_option maxRecDepth 100000
set_option maxHeartbeats 16000000
namespace Go.Proofs.YtbajnceoolkckaaGreat
open Go.RowKit LM
def ctr:List Int -> Int × Int
 | []=>(1,0)
 | a :: r=>(a * (ctr r).1 + (ctr r).2,(ctr r).1)
def cbad (zs:List Int) : Prop:=∃ t,0 < t /\ t < zs.length /\ (ctr (zs.drop t)).1 = 0
def ContrAns (M:Nat) (zs:List Int) (w:World) (e:Ending) (w':World) : Prop:=
 (zs = [] /\ RatErr M 0 1 5 w e w') \/ (cbad zs /\ RatErr M 0 1 6 w e w') \/
 (zs ≠ [] /\ ¬ cbad zs /\ RatErr M (upN (ctr zs).1 (ctr zs).2) (upN (ctr zs).2 (ctr zs).2) 0 w e w')
theorem ctr_step {zs:List Int} {t:Nat} (h:t < zs.length) : ctr (zs.drop t) = (zs.getD t 0 * (ctr (zs.drop (t + 1))).1 + (ctr (zs.drop (t + 1))).2,(ctr (zs.drop (t + 1))).1):=by
 rw [List.drop_eq_getElem_cons h]
 simp [ctr,List.getD,List.getElem?_eq_getElem h]
theorem ctr_gcd:∀ zs:List Int,Int.gcd (ctr zs).1 (ctr zs).2 = 1
 | []=>by decide
 | a :: r=>by
  have h:=ctr_gcd r
  show Int.gcd (a * (ctr r).1 + (ctr r).2) (ctr r).1 = 1
  rw [Int.gcd_comm,Int.add_comm,Int.gcd_add_mul_right_right]
  exact h
theorem ctr_ne {zs:List Int} (h0:zs ≠ []) (h:¬ cbad zs) : (ctr zs).2 ≠ 0:=by
 match zs,h0 with
 | [a],_=>simp [ctr]
 | a :: b :: r,_=>
  intro e
  exact h ⟨1,by omega,by simp,e⟩
theorem drop_last {zs:List Int} {m:Nat} (h:zs.length = m + 1) : zs.drop m = [zs.getD m 0]:=by
 rw [List.drop_eq_getElem_cons (by omega),List.drop_of_length_le (by omega)]
 simp [List.getD,List.getElem?_eq_getElem (show m < zs.length by omega)]
theorem Contract_any (v:Value) (zs:List Int) (base L:Nat) (w:World) (h:OwnInts w base v zs L) (hL:(L + 2) * zs.length <= 800000) :
  Calls Tryz.prog 52 #[v] w (ContrAns ((L + 2) * zs.length + 4) zs w):=by
 obtain ⟨A,c,rfl⟩:=h.slice
 have hw:=below_alloc w (.cells #[.bool false,.slice none 0 0,.bool false,.slice none 0 0] 38)
 have BR:=Hd (Fx4.new w (.bool false) (.slice none 0 0) (.bool false) (.slice none 0 0) 38)
 have HV:=Hd (h.below hw)
 clear h
 obtain ⟨W0,hW0⟩ : ∃ W0,w.alloc (.cells #[.bool false,.slice none 0 0,.bool false,.slice none 0 0] 38) = W0:=⟨_,rfl⟩
 rw [hW0] at hw BR HV
 have BRlt:w.heap.size < W0.heap.size:=BR.out.lt
 go_enter Tryz.func52,Tryz.ntmps52
 go_upto_region 1 with fail
 clear hW0
 by_cases h0:zs.length = 0
 ·have h0i:(zs.length:Int) = 0:=by omega
  obtain ⟨r0,r1,r2,r3,r4,r5,r6,r7,r8⟩:=BR.out
  go_wp2
  refine bodyPost_ret (v:=.tuple #[.agg #[.bool false,.slice none 0 0,.bool false,.slice none 0 0],.int .i64 5]) (by simp [results,Tryz.results52,go_sem,r0,r1,r2,r3]) rfl (Or.inl ⟨List.eq_nil_of_length_eq_zero h0,⟨false,none,0,0,false,none,0,0,rfl,_,_,_,_,_,_,_,_,rfl,Ival.nought,Ival.nought,by decide,by decide⟩,below_put4 hw (by omega) _ _ _ _⟩)
 have h0i:¬ (zs.length:Int) = 0:=by omega
 go_upto_region 3 with fail
 have hlast:¬ (zs.length:Int) - 1 < 0:=by omega
 obtain ⟨m,hm⟩ : ∃ m,zs.length = m + 1:=⟨zs.length - 1,by omega⟩
 obtain ⟨gb,cap,gl,Al,nl,cl,hA,hge,hlt,cc0,cc1,hlv⟩:=HV.out.get (i:=m) (by omega)
 injection hA with hA1 _ hA2
 subst hA1 hA2
 have LV:=Hd hlv
 clear hlv
 rw [hm]
 clear h0i hlast h0
 have hmlt:(m:Int) < (m:Int) + 1:=by omega
 have hwm:IntKind.i64.wrap (m:Int) = (m:Int):=by have:=Nat.le_trans (Nat.le_mul_of_pos_left zs.length (show 0 < L + 2 by omega)) hL;rw [IntKind.wrap_i64];omega
 have hm63:(m:Int) < 1000000:=by have:=Nat.le_trans (Nat.le_mul_of_pos_left zs.length (show 0 < L + 2 by omega)) hL;omega
 have HT:=Hd (fun (w':World) (hb:Below W0.heap.size W0 w')=>(show w'.cell? ⟨gb,m * 2,none⟩ = some (.bool gl) /\ w'.cell? ⟨gb,m * 2 + 1,none⟩ = some (.slice Al nl cl) from ⟨(hb.cell (p:=⟨gb,m * 2,none⟩) hlt).trans cc0,(hb.cell (p:=⟨gb,m * 2 + 1,none⟩) hlt).trans cc1⟩))
 obtain ⟨Inv,hInv⟩ : ∃ J:(Nat -> Bool) -> (Value × Value × Value) -> World -> Prop,J = fun b v w'=>(Below W0.heap.size W0 w') /\ (b 6 = true -> Ival w' v.1 1 2) /\ (b 7 = true -> b 9 = false -> PBox (W0.heap.size) w' v.2.1 0 0) /\ (b 9 = true -> PBox (W0.heap.size) w' v.2.1 (zs.getD m 0) (L)) /\ (b 8 = true -> b 10 = false -> PBox (W0.heap.size) w' v.2.2 0 0) /\ (b 10 = true -> PBox (W0.heap.size) w' v.2.2 (1) (2)) /\ (b 7 = true -> b 8 = true -> v.2.1 ≠ v.2.2):=⟨_,rfl⟩
 have hB:=(Below.refl W0.heap.size W0).drew
 refine wp_region_held_drew (S:=fun w'=>w'.cell? ⟨gb,m * 2,none⟩ = some (.bool gl) /\ w'.cell? ⟨gb,m * 2 + 1,none⟩ = some (.slice Al nl cl)) (by kernel_rfl) (HT.out _ hB) (fun hH=>?_)
 clear hH
 generalize W0.drew = wr0 at *
 refine tk 0 11 (by first | assumption | exact HT.out _ hB | trivial) ?_
 try simp only [Act.put,tA,cZ,cS]
 refine tk 1 12 (by first | assumption | exact HT.out _ hB | trivial) ?_
 try simp only [Act.put,tA,cZ,cS]
 refine tk 2 13 (by first | assumption | exact HT.out _ hB | trivial) ?_
 try simp only [Act.put,tA,cZ,cS]
 refine tk 3 14 (by first | assumption | exact HT.out _ hB | trivial) ?_
 try simp only [Act.put,tA,cZ,cS]
 refine tk 4 15 (by first | assumption | exact HT.out _ hB | trivial) ?_
 try simp only [Act.put,tA,cZ,cS]
 refine tk 5 16 (by first | assumption | exact HT.out _ hB | trivial) ?_
 try simp only [Act.put,tA,cZ,cS]
 refine wpAnyH_begin (V:=Value × Value × Value) (I:=Inv) (A:=?_) [true,true,true,true,true,true,false,false,false,false,false] [17,4,5] (fun v=>[v.1,v.2.1,v.2.2]) (fun a=>(a.tmps.getD 17 undef,a.tmps.getD 4 undef,a.tmps.getD 5 undef)) ?_ ?_ (by kernel_rfl) (by kernel_rfl) (by kernel_rfl) (by kernel_rfl) (by kernel_rfl) ?_ ?_ ?_
 rotate_left 1
 ·intro v;simp only [fillA,Act.put,tA,cZ,cS];rfl
 ·rfl
 ·rw [hInv]
  exact ⟨(hB),(fun h=>absurd h (by decide)),(fun h _=>absurd h (by decide)),(fun h=>absurd h (by decide)),(fun h _=>absurd h (by decide)),(fun h=>absurd h (by decide)),(fun h _=>absurd h (by decide))⟩
 ·skip
  refine EachFrom.skip (by rfl) ?_
  refine EachFrom.skip (by rfl) ?_
  refine EachFrom.skip (by rfl) ?_
  refine EachFrom.skip (by rfl) ?_
  refine EachFrom.skip (by rfl) ?_
  refine EachFrom.skip (by rfl) ?_
  refine EachFrom.cons (k:=6) rfl rfl (ds:=[]) (by kernel_rfl) (fun v x=>(x,v.2.1,v.2.2)) (fun v x=>by rfl) (fun b v wz hb0 hcl hbk hdep hI Kc hK=>?_) ?_
  ·skip
   rw [hInv] at hI
   obtain ⟨x17,x4,x5⟩:=v
   dsimp only at hI hK ⊢
   (try simp only [Act.put] at hK);(try simp only [tA] at hK);(try simp only [cS] at hK);(try simp only [cZ] at hK)
   obtain ⟨famb,f17,fP4,fQ4,fP5,fQ5,fne4_5⟩:=hI
   (try simp only [gA]);(try simp only [gS]);(try simp only [gZ])
   go_simp
   (go_at_call 65;refine (new_q 1 _ (by decide) (by decide)).mono ?_;rintro e w1 ⟨⟨g17,A17,n17,c17,rfl,hz⟩,hb⟩)
   refine hK.out _ _ (HT.out _ ((famb).trans (hb.mono (famb).size))) ?_
   rw [hInv]
   exact ⟨((famb).trans (hb.mono (famb).size)),(fun h0=>hz),(fun h0 h1=>(fP4 h0 h1).below hb),(fun h=>absurd ((show AllT b [7,5,6,0,1,2,3,4,5,7,8] from hcl 9 _ rfl h).2.2.1) (by rw [hbk];decide)),(fun h0 h1=>(fP5 h0 h1).below hb),(fun h=>absurd ((show AllT b [8,6,9,0,1,2,3,4,5,6,7,8,9] from hcl 10 _ rfl h).2.1) (by rw [hbk];decide)),(fun h0 h1=>fne4_5 h0 h1)⟩
  refine EachFrom.cons (k:=7) rfl rfl (ds:=[]) (by kernel_rfl) (fun v x=>(v.1,x,v.2.2)) (fun v x=>by rfl) (fun b v wz hb0 hcl hbk hdep hI Kc hK=>?_) ?_
  ·skip
   rw [hInv] at hI
   obtain ⟨x17,x4,x5⟩:=v
   dsimp only at hI hK ⊢
   (try simp only [Act.put] at hK);(try simp only [tA] at hK);(try simp only [cS] at hK);(try simp only [cZ] at hK)
   obtain ⟨famb,f17,fP4,fQ4,fP5,fQ5,fne4_5⟩:=hI
   (try simp only [gA]);(try simp only [gS]);(try simp only [gZ])
   have hb:=below_alloc wz (.cells #[.bool false,.slice none 0 0] 31)
   go_simp
   refine hK.out _ _ (HT.out _ ((famb).trans (hb.mono (famb).size))) ?_
   rw [hInv]
   exact ⟨((famb).trans (hb.mono (famb).size)),(fun h0=>(f17 h0).below hb),(fun h0 h1=>⟨_,rfl,famb.size,IBox.nought _ _ _⟩),(fun h=>absurd ((show AllT b [7,5,6,0,1,2,3,4,5,7,8] from hcl 9 _ rfl h).1) (by rw [hbk];decide)),(fun h0 h1=>(fP5 h0 h1).below hb),(fun h=>absurd ((show AllT b [8,6,9,0,1,2,3,4,5,6,7,8,9] from hcl 10 _ rfl h).2.2.2.2.2.2.2.2.2.2.1) (by rw [hbk];decide)),(fun h0 h1=>(Ne.symm (by cases h:b 10 with | false=>exact (fP5 h1 h).fresh | true=>exact (fQ5 h).fresh)))⟩
  refine EachFrom.cons (k:=8) rfl rfl (ds:=[]) (by kernel_rfl) (fun v x=>(v.1,v.2.1,x)) (fun v x=>by rfl) (fun b v wz hb0 hcl hbk hdep hI Kc hK=>?_) ?_
  ·skip
   rw [hInv] at hI
   obtain ⟨x17,x4,x5⟩:=v
   dsimp only at hI hK ⊢
   (try simp only [Act.put] at hK);(try simp only [tA] at hK);(try simp only [cS] at hK);(try simp only [cZ] at hK)
   obtain ⟨famb,f17,fP4,fQ4,fP5,fQ5,fne4_5⟩:=hI
   (try simp only [gA]);(try simp only [gS]);(try simp only [gZ])
   have hb:=below_alloc wz (.cells #[.bool false,.slice none 0 0] 31)
   go_simp
   refine hK.out _ _ (HT.out _ ((famb).trans (hb.mono (famb).size))) ?_
   rw [hInv]
   exact ⟨((famb).trans (hb.mono (famb).size)),(fun h0=>(f17 h0).below hb),(fun h0 h1=>(fP4 h0 h1).below hb),(fun h=>absurd ((show AllT b [7,5,6,0,1,2,3,4,5,7,8] from hcl 9 _ rfl h).2.2.2.2.2.2.2.2.2.2.1) (by rw [hbk];decide)),(fun h0 h1=>⟨_,rfl,famb.size,IBox.nought _ _ _⟩),(fun h=>absurd ((show AllT b [8,6,9,0,1,2,3,4,5,6,7,8,9] from hcl 10 _ rfl h).1) (by rw [hbk];decide)),(fun h0 h1=>(by cases h:b 9 with | false=>exact (fP4 h0 h).fresh | true=>exact (fQ4 h).fresh))⟩
  refine EachFrom.cons (k:=9) rfl rfl (ds:=[7,5,6,0,1,2,3,4,5,7,8]) (by kernel_rfl) (fun v _=>v) (fun v x=>by rfl) (fun b v wz hb0 hcl hbk hdep hI Kc hK=>?_) ?_
  ·skip
   rw [hInv] at hI
   obtain ⟨x17,x4,x5⟩:=v
   dsimp only at hI hK ⊢
   (try simp only [Act.put] at hK);(try simp only [tA] at hK);(try simp only [cS] at hK);(try simp only [cZ] at hK)
   obtain ⟨famb,f17,fP4,fQ4,fP5,fQ5,fne4_5⟩:=hI
   obtain ⟨d7,d5,d6,d0,d1,d2,d3,d4,-,-,d8,-⟩:=hdep
   (try simp only [gA]);(try simp only [gS]);(try simp only [gZ])
   obtain ⟨k4,rfl,hk4,FB⟩:=fP4 d7 hbk
   obtain ⟨gx,Ax,nx,cx,Fq,-⟩:=id FB
   obtain ⟨c0,c1,c2,c3,c4⟩:=Fq
   go_simp
   refine hK.out (undef) _ (HT.out _ (((famb).setCell (p:=⟨k4,0,none⟩) (by show _ <= k4;omega) _).setCell (p:=⟨k4,1,none⟩) (by show _ <= k4;omega) _)) ?_
   rw [hInv]
   exact ⟨(((famb).setCell (p:=⟨k4,0,none⟩) (by show _ <= k4;omega) _).setCell (p:=⟨k4,1,none⟩) (by show _ <= k4;omega) _),(fun h0=>(f17 h0).at FB _ _),(fun _ h=>absurd (show true = false from h) (by decide)),(fun h0=>⟨_,rfl,hk4,FB.store (LV.out.below famb)⟩),(fun h0 h1=>(fP5 h0 h1).other FB (Ne.symm (fne4_5 d7 d8)) _ _),(fun h=>absurd ((show AllT b [8,6,9,0,1,2,3,4,5,6,7,8,9] from hcl 10 _ rfl h).2.2.1) (by rw [hbk];decide)),(fun h0 h1=>fne4_5 h0 h1)⟩
  refine EachFrom.cons (k:=10) rfl rfl (ds:=[8,6,9,0,1,2,3,4,5,6,7,8,9]) (by kernel_rfl) (fun v _=>v) (fun v x=>by rfl) (fun b v wz hb0 hcl hbk hdep hI Kc hK=>?_) ?_
  ·skip
   rw [hInv] at hI
   obtain ⟨x17,x4,x5⟩:=v
   dsimp only at hI hK ⊢
   (try simp only [Act.put] at hK);(try simp only [tA] at hK);(try simp only [cS] at hK);(try simp only [cZ] at hK)
   obtain ⟨famb,f17,fP4,fQ4,fP5,fQ5,fne4_5⟩:=hI
   obtain ⟨d8,d6,d9,d0,d1,d2,d3,d4,d5,-,d7,-,-,-⟩:=hdep
   (try simp only [gA]);(try simp only [gS]);(try simp only [gZ])
   obtain ⟨k5,rfl,hk5,FB⟩:=fP5 d8 hbk
   obtain ⟨g17,A17,n17,c17,rfl⟩:=(f17 d6).form
   obtain ⟨gx,Ax,nx,cx,Fq,-⟩:=id FB
   obtain ⟨c0,c1,c2,c3,c4⟩:=Fq
   go_simp
   refine hK.out (undef) _ (HT.out _ (((famb).setCell (p:=⟨k5,0,none⟩) (by show _ <= k5;omega) _).setCell (p:=⟨k5,1,none⟩) (by show _ <= k5;omega) _)) ?_
   rw [hInv]
   exact ⟨(((famb).setCell (p:=⟨k5,0,none⟩) (by show _ <= k5;omega) _).setCell (p:=⟨k5,1,none⟩) (by show _ <= k5;omega) _),(fun h0=>(f17 h0).at FB _ _),(fun _ h=>absurd (show b 9 = false from h) (by rw [d9];decide)),(fun h0=>(fQ4 h0).other FB (fne4_5 d7 d8) _ _),(fun _ h=>absurd (show true = false from h) (by decide)),(fun h0=>⟨_,rfl,hk5,FB.store (f17 d6)⟩),(fun h0 h1=>fne4_5 h0 h1)⟩
  exact EachFrom.nil (by kernel_rfl)
 ·intro v wE hI
  rw [hInv] at hI
  obtain ⟨x17,x4,x5⟩:=v
  dsimp only at hI ⊢
  obtain ⟨famb,f17,fP4,fQ4,fP5,fQ5,fne4_5⟩:=hI
  replace f17:=f17 rfl
  clear fP4
  replace fQ4:=fQ4 rfl
  clear fP5
  replace fQ5:=fQ5 rfl
  replace fne4_5:=fne4_5 rfl rfl
  clear hInv hB
  obtain ⟨k4,rfl,hk4,I4⟩:=fQ4
  obtain ⟨k5,rfl,hk5,I5⟩:=fQ5
  have hk45:k4 ≠ k5:=fun e=>fne4_5 (by rw [e])
  clear f17 fne4_5 HT LV
  replace hw:=hw.trans (famb.mono hw.size)
  have HL:=Hd hL
  have hmm:=hm
  clear hm hL
  replace BR:=Hd (BR.out.below famb)
  replace HV:=Hd (HV.out.below famb)
  have hkr4:w.heap.size < k4:=Nat.lt_of_lt_of_le BRlt hk4
  have hkr5:w.heap.size < k5:=Nat.lt_of_lt_of_le BRlt hk5
  have hg4:gb ≠ k4:=by omega
  have hg5:gb ≠ k5:=by omega
  have HKB:=Hd (show w.heap.size < k4 /\ w.heap.size < k5 /\ k4 ≠ k5 from ⟨hkr4,hkr5,hk45⟩)
  have HGB:=Hd (show (Value.slice (some ⟨gb,0,none⟩) zs.length c).ownBlock ≠ some k4 /\ (Value.slice (some ⟨gb,0,none⟩) zs.length c).ownBlock ≠ some k5 from ⟨fun e=>hg4 (by simpa [Value.ownBlock] using e),fun e=>hg5 (by simpa [Value.ownBlock] using e)⟩)
  clear famb cc0 cc1 hge hlt hk4 hk5 BRlt hkr4 hkr5 hk45 hg4 hg5
  replace I4:=Hd I4
  replace I5:=Hd I5
  replace hw:=Hd hw
  have hmm2:=Hd hmm
  clear hmm
  have hwz:IntKind.i64.wrap ((m:Int) + 1 - 2) = (m:Int) - 1:=by rw [IntKind.wrap_i64];omega
  have hwz2:IntKind.i64.wrap ((m:Int) - 1) = (m:Int) - 1:=by rw [IntKind.wrap_i64];omega
  go_wp2_with fail
  clear hwz hwz2 hwm hmlt
  have HM63:=Hd hm63
  clear hm63
  go_loopg [6] m (fun g iv wr=>∃ (j:Nat) (z:Int),iv = .int .i64 z /\ z + 1 = (j:Int) /\ g = j /\ Hid (j <= m) /\ Hid (IBox wr k4 (ctr (zs.drop j)).1 ((L + 2) * (zs.length - j) + 2)) /\ Hid (IBox wr k5 (ctr (zs.drop j)).2 ((L + 2) * (zs.length - j) + 2)) /\ Hid (OwnInts wr base (.slice (some ⟨gb,0,none⟩) zs.length c) zs L) /\ Hid (Fx4 wr w.heap.size (.bool false) (.slice none 0 0) (.bool false) (.slice none 0 0)) /\ Hid (Below w.heap.size w wr) /\ Hid (∀ t,j < t -> t < zs.length -> (ctr (zs.drop t)).1 ≠ 0))
  case atStart=>
   have hdr:zs.drop m = [zs.getD m 0]:=drop_last hmm2.out
   have hsz:zs.length - m = 1:=by have:=hmm2.out;omega
   refine ⟨m,(m:Int) - 1,rfl,by omega,rfl,Hd (Nat.le_refl _),Hd ?_,Hd ?_,HV,BR,hw,Hd (fun t h1 h2=>by have:=hmm2.out;omega)⟩
   ·rw [hdr,hsz];have:(ctr [zs.getD m 0]).1 = zs.getD m 0:=by simp [ctr]
    rw [this];exact I4.out.mono (by omega)
   ·rw [hdr,hsz];exact I5.out.mono (by omega)
  case round=>
   obtain ⟨j,z,rfl,hz,hgk,hj,J4,J5,hv,br,hb,hgood⟩:=hrel
   subst hgk
   by_cases hz0:0 <= z
   ·obtain ⟨t,rfl⟩ : ∃ t:Nat,z = (t:Int):=⟨z.toNat,by omega⟩
    obtain rfl:gk = t + 1:=by omega
    obtain ⟨K,hK⟩ : ∃ K,(L + 2) * (zs.length - (t + 1)) + 2 = K:=⟨_,rfl⟩
    have hKt:(L + 2) * (zs.length - t) + 2 = K + L + 2:=by have h1:=hmm2.out;have h2:=hj.out;rw [<- hK,show zs.length - t = (zs.length - (t + 1)) + 1 from by omega,Nat.mul_succ];omega
    have hKL:K + L + 2 <= 900000:=by have h1:=HL.out;have h2:(L + 2) * (zs.length - t) <= (L + 2) * zs.length:=Nat.mul_le_mul_left _ (by omega);omega
    have htl:t < zs.length:=by have h1:=hmm2.out;have h2:=hj.out;omega
    have hdt:ctr (zs.drop t) = (zs.getD t 0 * (ctr (zs.drop (t + 1))).1 + (ctr (zs.drop (t + 1))).2,(ctr (zs.drop (t + 1))).1):=ctr_step htl
    rw [hK] at J4 J5
    obtain ⟨X,hX⟩ : ∃ X,(ctr (zs.drop (t + 1))).1 = X:=⟨_,rfl⟩
    obtain ⟨Y,hY⟩ : ∃ Y,(ctr (zs.drop (t + 1))).2 = Y:=⟨_,rfl⟩
    rw [hX] at J4 hdt
    rw [hY] at J5 hdt
    skip
    have HKL:=Hd hKL
    clear hKL
    have HKt:=Hd hKt
    have HDT:=Hd hdt
    have HX:=Hd hX
    have HTL:=Hd htl
    clear hK hKt hdt hX hY htl hz hz0
    obtain ⟨g4,A4,n4,c4,F4,V4⟩:=J4.out
    obtain ⟨a0,a1,-,-,-⟩:=F4
    have VV4:=Hd V4
    clear V4
    go_wp2_with fail
    refine (sign_int _ X K _ VV4.out).mono ?_
    rintro e w2 ⟨rfl,hb2⟩
    replace hb:=Hd (hb.out.trans (hb2.mono hb.out.size))
    replace J4:=Hd (J4.out.below hb2)
    replace J5:=Hd (J5.out.below hb2)
    replace hv:=Hd (hv.out.below hb2)
    replace br:=Hd (br.out.below hb2)
    clear a0 a1 VV4 hb2
    by_cases hx0:X = 0
    ·have hcm:cmpI X 0 = 0:=cmpI_eq hx0
     have HX0:=Hd hx0
     clear hx0
     obtain ⟨r0,r1,r2,r3,r4,r5,r6,r7,r8⟩:=br.out
     go_wp2
     refine bodyPost_ret (v:=.tuple #[.agg #[.bool false,.slice none 0 0,.bool false,.slice none 0 0],.int .i64 6]) (by simp [results,Tryz.results52,go_sem,r0,r1,r2,r3]) rfl (Or.inr (Or.inl ⟨⟨t + 1,by omega,by have h1:=hmm2.out;have h2:=hj.out;omega,by rw [HX.out];exact HX0.out⟩,⟨false,none,0,0,false,none,0,0,rfl,_,_,_,_,_,_,_,_,rfl,Ival.nought,Ival.nought,by decide,by decide⟩,below_put4 hb.out (by omega) _ _ _ _⟩))
    ·have hcm:(cmpI X 0 == 0) = false:=by simpa using (fun h=>hx0 (cmpI_zero h) : cmpI X 0 ≠ 0)
     have HX0:=Hd hx0
     clear hx0
     go_upto_region 9 with fail
     clear hcm
     obtain ⟨gb',cap,gl',Al',nl',cl',hA,hge,hlt,cc0,cc1,hlv⟩:=hv.out.get (i:=t) HTL.out
     injection hA with hA1 hA3 hA2
     injection hA1 with hA1
     injection hA1 with hA1
     clear hA3
     subst hA1 hA2
     have EV:=Hd hlv
     have htlen:(t:Int) < (m:Int) + 1:=by have:=HTL.out;have:=hmm2.out;omega
     clear hlv hge
     skip
     obtain ⟨Inv,hInv⟩ : ∃ J:(Nat -> Bool) -> (Value × Value × Value × Value × Value × Value) -> World -> Prop,J = fun b v w'=>(Below w.heap.size w w') /\ (b 9 = false -> Below w2.heap.size w2 w') /\ (b 3 = true -> Ival w' v.1 (zs.getD t 0) L) /\ (b 4 = true -> Ival w' v.2.1 X K) /\ (b 6 = true -> Ival w' v.2.2.2.1 Y K) /\ (b 8 = true -> Ival w' v.2.2.2.2.2 X K) /\ (b 5 = true -> Ival w' v.2.2.1 (zs.getD t 0 * X) (L + K)) /\ (b 7 = true -> Ival w' v.2.2.2.2.1 (zs.getD t 0 * X + Y) (max (L + K) K + 1)) /\ (b 9 = true -> IBox w' k4 (zs.getD t 0 * X + Y) (K + L + 2)) /\ (b 9 = true -> b 10 = false -> IBox w' k5 Y K) /\ (b 10 = true -> IBox w' k5 X (K + L + 2)) /\ (OwnInts w' base (.slice (some ⟨gb,0,none⟩) zs.length c) zs L) /\ (Fx4 w' w.heap.size (.bool false) (.slice none 0 0) (.bool false) (.slice none 0 0)):=⟨_,rfl⟩
     have hB:=(Below.refl w2.heap.size w2).drew
     refine wp_region_held_drew (S:=fun w'=>True) (by kernel_rfl) (trivial) (fun hH=>?_)
     clear hH
     generalize w2.drew = wr0 at *
     refine tk 0 29 (by first | assumption | exact HT.out _ hB | trivial) ?_
     try simp only [Act.put,tA,cZ,cS]
     refine tk 1 30 (by first | assumption | exact HT.out _ hB | trivial) ?_
     try simp only [Act.put,tA,cZ,cS]
     refine tk 2 31 (by first | assumption | exact HT.out _ hB | trivial) ?_
     try simp only [Act.put,tA,cZ,cS]
     refine wpAnyH_begin (V:=Value × Value × Value × Value × Value × Value) (I:=Inv) (A:=?_) [true,true,true,false,false,false,false,false,false,false,false] [32,33,34,35,36,37] (fun v=>[v.1,v.2.1,v.2.2.1,v.2.2.2.1,v.2.2.2.2.1,v.2.2.2.2.2]) (fun a=>(a.tmps.getD 32 undef,a.tmps.getD 33 undef,a.tmps.getD 34 undef,a.tmps.getD 35 undef,a.tmps.getD 36 undef,a.tmps.getD 37 undef)) ?_ ?_ (by kernel_rfl) (by kernel_rfl) (by kernel_rfl) (by kernel_rfl) (by kernel_rfl) ?_ ?_ ?_
     rotate_left 1
     ·intro v;simp only [fillA,Act.put,tA,cZ,cS];rfl
     ·rfl
     ·rw [hInv]
      exact ⟨(hb.out.trans (hB.mono hb.out.size)),(fun _=>hB),(fun h=>absurd h (by decide)),(fun h=>absurd h (by decide)),(fun h=>absurd h (by decide)),(fun h=>absurd h (by decide)),(fun h=>absurd h (by decide)),(fun h=>absurd h (by decide)),(fun h=>absurd h (by decide)),(fun h _=>absurd h (by decide)),(fun h=>absurd h (by decide)),(hv.out.below hB),(br.out.below hB)⟩
     ·skip
      refine EachFrom.skip (by rfl) ?_
      refine EachFrom.skip (by rfl) ?_
      refine EachFrom.skip (by rfl) ?_
      refine EachFrom.cons (k:=3) rfl rfl (ds:=[2]) (by kernel_rfl) (fun v x=>(x,v.2.1,v.2.2.1,v.2.2.2.1,v.2.2.2.2.1,v.2.2.2.2.2)) (fun v x=>by rfl) (fun b v wz hb0 hcl hbk hdep hI Kc hK=>?_) ?_
      ·skip
       rw [hInv] at hI
       obtain ⟨x32,x33,x34,x35,x36,x37⟩:=v
       dsimp only at hI hK ⊢
       (try simp only [Act.put] at hK);(try simp only [tA] at hK);(try simp only [cS] at hK);(try simp only [cZ] at hK)
       obtain ⟨fn,famb,f32,f33,f35,f37,f34,f36,fq4,fr5,fq5,fv,fbr⟩:=hI
       obtain ⟨d2,-⟩:=hdep
       (try simp only [gA]);(try simp only [gS]);(try simp only [gZ])
       have hA:=famb (by cases h:b 9 with | false=>rfl | true=>exact absurd ((show AllT b [7,7,0,1,2,3,4,5,6,7,8] from hcl 9 _ rfl h).2.2.2.2.2.1) (by rw [hbk];decide))
       have e0:=(hA.cell (p:=⟨gb,t * 2,none⟩) hlt).trans cc0
       have e1:=(hA.cell (p:=⟨gb,t * 2 + 1,none⟩) hlt).trans cc1
       go_simp
       refine hK.out _ _ trivial ?_
       rw [hInv]
       exact ⟨(fn),(fun h0=>famb h0),(fun h0=>EV.out.below hA),(fun h0=>f33 h0),(fun h0=>f35 h0),(fun h0=>f37 h0),(fun h=>absurd ((show AllT b [3,4] from hcl 5 _ rfl h).1) (by rw [hbk];decide)),(fun h=>absurd ((show AllT b [3,4] from hcl 5 _ rfl ((show AllT b [5,6,5] from hcl 7 _ rfl h).1)).1) (by rw [hbk];decide)),(fun h=>absurd ((show AllT b [7,7,0,1,2,3,4,5,6,7,8] from hcl 9 _ rfl h).2.2.2.2.2.1) (by rw [hbk];decide)),(fun h _=>absurd ((show AllT b [7,7,0,1,2,3,4,5,6,7,8] from hcl 9 _ rfl h).2.2.2.2.2.1) (by rw [hbk];decide)),(fun h=>absurd ((show AllT b [8,9,0,1,2,3,4,5,6,7,8,9] from hcl 10 _ rfl h).2.2.2.2.2.1) (by rw [hbk];decide)),(fv),(fbr)⟩
      refine EachFrom.cons (k:=4) rfl rfl (ds:=[]) (by kernel_rfl) (fun v x=>(v.1,x,v.2.2.1,v.2.2.2.1,v.2.2.2.2.1,v.2.2.2.2.2)) (fun v x=>by rfl) (fun b v wz hb0 hcl hbk hdep hI Kc hK=>?_) ?_
      ·skip
       rw [hInv] at hI
       obtain ⟨x32,x33,x34,x35,x36,x37⟩:=v
       dsimp only at hI hK ⊢
       (try simp only [Act.put] at hK);(try simp only [tA] at hK);(try simp only [cS] at hK);(try simp only [cZ] at hK)
       obtain ⟨fn,famb,f32,f33,f35,f37,f34,f36,fq4,fr5,fq5,fv,fbr⟩:=hI
       (try simp only [gA]);(try simp only [gS]);(try simp only [gZ])
       have hA:=famb (by cases h:b 9 with | false=>rfl | true=>exact absurd ((show AllT b [7,7,0,1,2,3,4,5,6,7,8] from hcl 9 _ rfl h).2.2.2.2.2.2.1) (by rw [hbk];decide))
       obtain ⟨g,A,n,c,Fq,Z33⟩:=J4.out.below hA
       obtain ⟨c0,c1,-,-,-⟩:=Fq
       go_simp
       refine hK.out _ _ trivial ?_
       rw [hInv]
       exact ⟨(fn),(fun h0=>famb h0),(fun h0=>f32 h0),(fun h0=>Z33),(fun h0=>f35 h0),(fun h0=>f37 h0),(fun h=>absurd ((show AllT b [3,4] from hcl 5 _ rfl h).2.1) (by rw [hbk];decide)),(fun h=>absurd ((show AllT b [3,4] from hcl 5 _ rfl ((show AllT b [5,6,5] from hcl 7 _ rfl h).1)).2.1) (by rw [hbk];decide)),(fun h=>absurd ((show AllT b [7,7,0,1,2,3,4,5,6,7,8] from hcl 9 _ rfl h).2.2.2.2.2.2.1) (by rw [hbk];decide)),(fun h _=>absurd ((show AllT b [7,7,0,1,2,3,4,5,6,7,8] from hcl 9 _ rfl h).2.2.2.2.2.2.1) (by rw [hbk];decide)),(fun h=>absurd ((show AllT b [8,9,0,1,2,3,4,5,6,7,8,9] from hcl 10 _ rfl h).2.2.2.2.2.2.1) (by rw [hbk];decide)),(fv),(fbr)⟩
      refine EachFrom.cons (k:=5) rfl rfl (ds:=[3,4]) (by kernel_rfl) (fun v x=>(v.1,v.2.1,x,v.2.2.2.1,v.2.2.2.2.1,v.2.2.2.2.2)) (fun v x=>by rfl) (fun b v wz hb0 hcl hbk hdep hI Kc hK=>?_) ?_
      ·skip
       rw [hInv] at hI
       obtain ⟨x32,x33,x34,x35,x36,x37⟩:=v
       dsimp only at hI hK ⊢
       (try simp only [Act.put] at hK);(try simp only [tA] at hK);(try simp only [cS] at hK);(try simp only [cZ] at hK)
       obtain ⟨fn,famb,f32,f33,f35,f37,f34,f36,fq4,fr5,fq5,fv,fbr⟩:=hI
       obtain ⟨d3,d4,-⟩:=hdep
       (try simp only [gA]);(try simp only [gS]);(try simp only [gZ])
       go_simp
       (go_at_call 97;refine (mul_t _ _ (zs.getD t 0) X L K _ (f32 d3) (f33 d4) (by have:=HKL.out;omega) (by have:=HKL.out;omega)).mono ?_;rintro e w1 ⟨⟨g34,A34,n34,c34,rfl,hz⟩,hb⟩)
       refine hK.out _ _ trivial ?_
       rw [hInv]
       exact ⟨((fn).trans (hb.mono (fn).size)),(fun h0=>(famb h0).trans (hb.mono (famb h0).size)),(fun h0=>(f32 h0).below hb),(fun h0=>(f33 h0).below hb),(fun h0=>(f35 h0).below hb),(fun h0=>(f37 h0).below hb),(fun h0=>hz),(fun h=>absurd ((show AllT b [5,6,5] from hcl 7 _ rfl h).1) (by rw [hbk];decide)),(fun h=>absurd ((show AllT b [7,7,0,1,2,3,4,5,6,7,8] from hcl 9 _ rfl h).2.2.2.2.2.2.2.1) (by rw [hbk];decide)),(fun h _=>absurd ((show AllT b [7,7,0,1,2,3,4,5,6,7,8] from hcl 9 _ rfl h).2.2.2.2.2.2.2.1) (by rw [hbk];decide)),(fun h=>absurd ((show AllT b [8,9,0,1,2,3,4,5,6,7,8,9] from hcl 10 _ rfl h).2.2.2.2.2.2.2.1) (by rw [hbk];decide)),((fv).below hb),((fbr).below hb)⟩
      refine EachFrom.cons (k:=6) rfl rfl (ds:=[]) (by kernel_rfl) (fun v x=>(v.1,v.2.1,v.2.2.1,x,v.2.2.2.2.1,v.2.2.2.2.2)) (fun v x=>by rfl) (fun b v wz hb0 hcl hbk hdep hI Kc hK=>?_) ?_
      ·skip
       rw [hInv] at hI
       obtain ⟨x32,x33,x34,x35,x36,x37⟩:=v
       dsimp only at hI hK ⊢
       (try simp only [Act.put] at hK);(try simp only [tA] at hK);(try simp only [cS] at hK);(try simp only [cZ] at hK)
       obtain ⟨fn,famb,f32,f33,f35,f37,f34,f36,fq4,fr5,fq5,fv,fbr⟩:=hI
       (try simp only [gA]);(try simp only [gS]);(try simp only [gZ])
       have hA:=famb (by cases h:b 9 with | false=>rfl | true=>exact absurd ((show AllT b [7,7,0,1,2,3,4,5,6,7,8] from hcl 9 _ rfl h).2.2.2.2.2.2.2.2.1) (by rw [hbk];decide))
       obtain ⟨g,A,n,c,Fq,Z35⟩:=J5.out.below hA
       obtain ⟨c0,c1,-,-,-⟩:=Fq
       go_simp
       refine hK.out _ _ trivial ?_
       rw [hInv]
       exact ⟨(fn),(fun h0=>famb h0),(fun h0=>f32 h0),(fun h0=>f33 h0),(fun h0=>Z35),(fun h0=>f37 h0),(fun h0=>f34 h0),(fun h=>absurd ((show AllT b [5,6,5] from hcl 7 _ rfl h).2.1) (by rw [hbk];decide)),(fun h=>absurd ((show AllT b [7,7,0,1,2,3,4,5,6,7,8] from hcl 9 _ rfl h).2.2.2.2.2.2.2.2.1) (by rw [hbk];decide)),(fun h _=>absurd ((show AllT b [7,7,0,1,2,3,4,5,6,7,8] from hcl 9 _ rfl h).2.2.2.2.2.2.2.2.1) (by rw [hbk];decide)),(fun h=>absurd ((show AllT b [8,9,0,1,2,3,4,5,6,7,8,9] from hcl 10 _ rfl h).2.2.2.2.2.2.2.2.1) (by rw [hbk];decide)),(fv),(fbr)⟩
      refine EachFrom.cons (k:=7) rfl rfl (ds:=[5,6,5]) (by kernel_rfl) (fun v x=>(v.1,v.2.1,v.2.2.1,v.2.2.2.1,x,v.2.2.2.2.2)) (fun v x=>by rfl) (fun b v wz hb0 hcl hbk hdep hI Kc hK=>?_) ?_
      ·skip
       rw [hInv] at hI
       obtain ⟨x32,x33,x34,x35,x36,x37⟩:=v
       dsimp only at hI hK ⊢
       (try simp only [Act.put] at hK);(try simp only [tA] at hK);(try simp only [cS] at hK);(try simp only [cZ] at hK)
       obtain ⟨fn,famb,f32,f33,f35,f37,f34,f36,fq4,fr5,fq5,fv,fbr⟩:=hI
       obtain ⟨d5,d6,-,-⟩:=hdep
       (try simp only [gA]);(try simp only [gS]);(try simp only [gZ])
       go_simp
       (go_at_call 99;refine (add_t _ _ (zs.getD t 0 * X) Y (L + K) K _ (f34 d5) (f35 d6) (by have:=HKL.out;omega) (by have:=HKL.out;omega)).mono ?_;rintro e w1 ⟨⟨g36,A36,n36,c36,rfl,hz⟩,hb⟩)
       refine hK.out _ _ trivial ?_
       rw [hInv]
       exact ⟨((fn).trans (hb.mono (fn).size)),(fun h0=>(famb h0).trans (hb.mono (famb h0).size)),(fun h0=>(f32 h0).below hb),(fun h0=>(f33 h0).below hb),(fun h0=>(f35 h0).below hb),(fun h0=>(f37 h0).below hb),(fun h0=>(f34 h0).below hb),(fun h0=>hz),(fun h=>absurd ((show AllT b [7,7,0,1,2,3,4,5,6,7,8] from hcl 9 _ rfl h).1) (by rw [hbk];decide)),(fun h _=>absurd ((show AllT b [7,7,0,1,2,3,4,5,6,7,8] from hcl 9 _ rfl h).1) (by rw [hbk];decide)),(fun h=>absurd ((show AllT b [8,9,0,1,2,3,4,5,6,7,8,9] from hcl 10 _ rfl h).2.2.2.2.2.2.2.2.2.1) (by rw [hbk];decide)),((fv).below hb),((fbr).below hb)⟩
      refine EachFrom.cons (k:=8) rfl rfl (ds:=[]) (by kernel_rfl) (fun v x=>(v.1,v.2.1,v.2.2.1,v.2.2.2.1,v.2.2.2.2.1,x)) (fun v x=>by rfl) (fun b v wz hb0 hcl hbk hdep hI Kc hK=>?_) ?_
      ·skip
       rw [hInv] at hI
       obtain ⟨x32,x33,x34,x35,x36,x37⟩:=v
       dsimp only at hI hK ⊢
       (try simp only [Act.put] at hK);(try simp only [tA] at hK);(try simp only [cS] at hK);(try simp only [cZ] at hK)
       obtain ⟨fn,famb,f32,f33,f35,f37,f34,f36,fq4,fr5,fq5,fv,fbr⟩:=hI
       (try simp only [gA]);(try simp only [gS]);(try simp only [gZ])
       have hA:=famb (by cases h:b 9 with | false=>rfl | true=>exact absurd ((show AllT b [7,7,0,1,2,3,4,5,6,7,8] from hcl 9 _ rfl h).2.2.2.2.2.2.2.2.2.2.1) (by rw [hbk];decide))
       obtain ⟨g,A,n,c,Fq,Z37⟩:=J4.out.below hA
       obtain ⟨c0,c1,-,-,-⟩:=Fq
       go_simp
       refine hK.out _ _ trivial ?_
       rw [hInv]
       exact ⟨(fn),(fun h0=>famb h0),(fun h0=>f32 h0),(fun h0=>f33 h0),(fun h0=>f35 h0),(fun h0=>Z37),(fun h0=>f34 h0),(fun h0=>f36 h0),(fun h=>absurd ((show AllT b [7,7,0,1,2,3,4,5,6,7,8] from hcl 9 _ rfl h).2.2.2.2.2.2.2.2.2.2.1) (by rw [hbk];decide)),(fun h _=>absurd ((show AllT b [7,7,0,1,2,3,4,5,6,7,8] from hcl 9 _ rfl h).2.2.2.2.2.2.2.2.2.2.1) (by rw [hbk];decide)),(fun h=>absurd ((show AllT b [8,9,0,1,2,3,4,5,6,7,8,9] from hcl 10 _ rfl h).1) (by rw [hbk];decide)),(fv),(fbr)⟩
      refine EachFrom.cons (k:=9) rfl rfl (ds:=[7,7,0,1,2,3,4,5,6,7,8]) (by kernel_rfl) (fun v _=>v) (fun v x=>by rfl) (fun b v wz hb0 hcl hbk hdep hI Kc hK=>?_) ?_
      ·skip
       rw [hInv] at hI
       obtain ⟨x32,x33,x34,x35,x36,x37⟩:=v
       dsimp only at hI hK ⊢
       (try simp only [Act.put] at hK);(try simp only [tA] at hK);(try simp only [cS] at hK);(try simp only [cZ] at hK)
       obtain ⟨fn,famb,f32,f33,f35,f37,f34,f36,fq4,fr5,fq5,fv,fbr⟩:=hI
       obtain ⟨d7,-,d0,d1,d2,d3,d4,d5,d6,-,d8,-⟩:=hdep
       (try simp only [gA]);(try simp only [gS]);(try simp only [gZ])
       have hA:=famb hbk
       have FB:=J4.out.below hA
       obtain ⟨g36,A36,n36,c36,rfl⟩:=(f36 d7).form
       obtain ⟨g,A,n,c,Fq,-⟩:=id FB
       obtain ⟨c0,c1,c2,c3,c4⟩:=Fq
       go_simp
       refine hK.out (undef) _ trivial ?_
       rw [hInv]
       exact ⟨(((fn).setCell (p:=⟨k4,0,none⟩) (by have:=HKB.out;show w.heap.size <= k4;omega) _).setCell (p:=⟨k4,1,none⟩) (by have:=HKB.out;show w.heap.size <= k4;omega) _),(fun h=>absurd (show true = false from h) (by decide)),(fun h0=>(f32 h0).at FB _ _),(fun h0=>(f33 h0).at FB _ _),(fun h0=>(f35 h0).at FB _ _),(fun h0=>(f37 h0).at FB _ _),(fun h0=>(f34 h0).at FB _ _),(fun h0=>(f36 h0).at FB _ _),(fun h0=>(FB.store ((f36 d7).mono (by omega)))),(fun h0 h1=>((J5.out.below hA).other FB HKB.out.2.2 _ _)),(fun h=>absurd ((show AllT b [8,9,0,1,2,3,4,5,6,7,8,9] from hcl 10 _ rfl h).2.1) (by rw [hbk];decide)),((fv).other FB HGB.out.1 _ _),((fbr).other2 (by have:=HKB.out;omega) _ _)⟩
      refine EachFrom.cons (k:=10) rfl rfl (ds:=[8,9,0,1,2,3,4,5,6,7,8,9]) (by kernel_rfl) (fun v _=>v) (fun v x=>by rfl) (fun b v wz hb0 hcl hbk hdep hI Kc hK=>?_) ?_
      ·skip
       rw [hInv] at hI
       obtain ⟨x32,x33,x34,x35,x36,x37⟩:=v
       dsimp only at hI hK ⊢
       (try simp only [Act.put] at hK);(try simp only [tA] at hK);(try simp only [cS] at hK);(try simp only [cZ] at hK)
       obtain ⟨fn,famb,f32,f33,f35,f37,f34,f36,fq4,fr5,fq5,fv,fbr⟩:=hI
       obtain ⟨d8,d9,d0,d1,d2,d3,d4,d5,d6,d7,-,-,-⟩:=hdep
       (try simp only [gA]);(try simp only [gS]);(try simp only [gZ])
       have FB:=fr5 d9 hbk
       obtain ⟨g37,A37,n37,c37,rfl⟩:=(f37 d8).form
       obtain ⟨g,A,n,c,Fq,-⟩:=id FB
       obtain ⟨c0,c1,c2,c3,c4⟩:=Fq
       go_simp
       refine hK.out (undef) _ trivial ?_
       rw [hInv]
       exact ⟨(((fn).setCell (p:=⟨k5,0,none⟩) (by have:=HKB.out;show w.heap.size <= k5;omega) _).setCell (p:=⟨k5,1,none⟩) (by have:=HKB.out;show w.heap.size <= k5;omega) _),(fun h=>absurd (show b 9 = false from h) (by rw [d9];decide)),(fun h0=>(f32 h0).at FB _ _),(fun h0=>(f33 h0).at FB _ _),(fun h0=>(f35 h0).at FB _ _),(fun h0=>(f37 h0).at FB _ _),(fun h0=>(f34 h0).at FB _ _),(fun h0=>(f36 h0).at FB _ _),(fun h0=>(fq4 h0).other FB HKB.out.2.2.symm _ _),(fun _ h=>absurd (show true = false from h) (by decide)),(fun h0=>(FB.store ((f37 d8).mono (by omega)))),((fv).other FB HGB.out.2 _ _),((fbr).other2 (by have:=HKB.out;omega) _ _)⟩
      exact EachFrom.nil (by kernel_rfl)
     ·intro v wE hI
      rw [hInv] at hI
      obtain ⟨x32,x33,x34,x35,x36,x37⟩:=v
      dsimp only at hI ⊢
      obtain ⟨fn,famb,f32,f33,f35,f37,f34,f36,fq4,fr5,fq5,fv,fbr⟩:=hI
      clear famb
      replace f32:=f32 rfl
      replace f33:=f33 rfl
      replace f35:=f35 rfl
      replace f37:=f37 rfl
      replace f34:=f34 rfl
      replace f36:=f36 rfl
      replace fq4:=fq4 rfl
      clear fr5
      replace fq5:=fq5 rfl
      clear hInv hB
      clear f32 f33 f34 f35 f36 f37
      replace fq4:=Hd fq4
      replace fq5:=Hd fq5
      replace fv:=Hd fv
      replace fbr:=Hd fbr
      replace fn:=Hd fn
      have hwt:IntKind.i64.wrap ((t:Int) - 1) = (t:Int) - 1:=by have:=HTL.out;rw [IntKind.wrap_i64];have:=HM63.out;have:=hmm2.out;omega
      go_wp2_with fail
      go_roundg t
      case rel=>
       refine ⟨t,(t:Int) - 1,rfl,by omega,rfl,Hd (by have:=hj.out;omega),Hd ?_,Hd ?_,fv,fbr,fn,Hd (fun s h1 h2=>?_)⟩
       ·rw [HDT.out,HKt.out];exact fq4.out
       ·rw [HDT.out,HKt.out];exact fq5.out
       ·by_cases hs:s = t + 1
        ·rw [hs,HX.out];exact HX0.out
        ·exact hgood.out s (by omega) h2
      case measure=>omega
   ·obtain rfl:gk = 0:=by omega
    obtain ⟨K,hK⟩ : ∃ K,(L + 2) * (zs.length - 0) + 2 = K:=⟨_,rfl⟩
    have hKL:K + 2 = (L + 2) * zs.length + 4:=by rw [<- hK,Nat.sub_zero]
    have hK9:K <= 900000:=by have h1:=HL.out;omega
    rw [hK,List.drop_zero] at J4 J5
    have HKL:=Hd hKL
    have HK9:=Hd hK9
    clear hK hKL hK9
    have hne:zs ≠ []:=fun e=>by have:=hmm2.out;rw [e] at this;simp at this
    have hnb:¬ cbad zs:=fun ⟨t,h1,h2,h3⟩=>hgood.out t h1 h2 h3
    have hco:Int.gcd (ctr zs).1 (ctr zs).2 = 1:=ctr_gcd zs
    have hy0:(ctr zs).2 ≠ 0:=ctr_ne hne hnb
    have HF:=Hd (And.intro hne (And.intro hnb (And.intro hco hy0)))
    clear hne hnb hco hy0
    obtain ⟨X,hX⟩ : ∃ X,(ctr zs).1 = X:=⟨_,rfl⟩
    obtain ⟨Y,hY⟩ : ∃ Y,(ctr zs).2 = Y:=⟨_,rfl⟩
    rw [hX] at J4
    rw [hY] at J5
    have HX:=Hd hX
    have HY:=Hd hY
    clear hX hY
    obtain ⟨g4,A4,n4,c4,F4,V4⟩:=J4.out
    obtain ⟨a0,a1,-,-,-⟩:=F4
    have VV4:=Hd V4
    obtain ⟨g5,A5,n5,c5,F5,V5⟩:=J5.out
    obtain ⟨b0,b1,-,-,-⟩:=F5
    have VV5:=Hd V5
    clear V4 V5
    go_wp2_with fail
    refine (coprime_c _ _ X Y K _ VV4.out VV5.out (by have:=HK9.out;omega)).mono ?_
    rintro e w2 ⟨⟨gn,An,nn,cn,gd,Ad,nd,cd,rfl,hzn,hzd⟩,hb2⟩
    have Z:=Hd hzn
    have ZD:=Hd hzd
    replace hb:=Hd (hb.out.trans (hb2.mono hb.out.size))
    replace br:=Hd (br.out.below hb2)
    clear hzn hzd hb2 a0 a1 b0 b1
    obtain ⟨r0,r1,r2,r3,r4,r5,r6,r7,r8⟩:=br.out
    go_wp2
    refine bodyPost_ret (v:=.tuple #[.agg #[.bool gn,.slice An nn cn,.bool gd,.slice Ad nd cd],.int .i64 0]) (by simp [results,Tryz.results52,go_sem,r0,r1,r2,r3]) rfl (Or.inr (Or.inr ⟨HF.out.1,HF.out.2.1,⟨gn,An,nn,cn,gd,Ad,nd,cd,rfl,?_⟩,below_put4 hb.out (by omega) _ _ _ _⟩))
    rw [<- HKL.out,HX.out,HY.out]
    have hy0:Y ≠ 0:=by rw [<- HY.out];exact HF.out.2.2.2
    exact (Rat.mk' (Z.out.mono (by omega)) (ZD.out.mono (by omega)) (upN_pos hy0) (by rw [gcd_upN,<- HX.out,<- HY.out];exact HF.out.2.2.1)).put4 br.out _ _ _ _
end Go.Proofs.YtbajnceoolkckaaGreat
