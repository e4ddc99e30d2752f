/- Of the proof of RationalQuotients: RFloor, Shift2, Deposit, Boxes, PatKit, ShiftV, RShift, RPower, RPower2, PowInt, RAbs. -/
import Derived.Test.YtbajnceoolkckaaGreatQp16
import Derived.Test.YtbajnceoolkckaaGreatQp10
import Derived.RegionTactic
import Derived.ChangeAlike
open List renaming getElem_toArray → gA, getElem_cons_succ → gS, getElem_cons_zero → gZ, setIfInBounds_toArray → tA, set_cons_zero → cZ, set_cons_succ → cS
open Go.Lib renaming hid → Hd
set_option maxRecDepth 100000
set_option maxHeartbeats 16000000
namespace Go.Proofs.YtbajnceoolkckaaGreat
open Go.RowKit LM
theorem floor_parts {a b:Int} (p:Bool) (hb:0 < b) : withSign p a / b = withSign p (a / b) - if p && decide (a % b ≠ 0) then 1 else 0:=by
 cases p with
 | false=>simp [withSign]
 | true=>
  have h1:=Int.emod_add_mul_ediv a b
  have h2:=Int.emod_nonneg a (show b ≠ 0 by omega)
  have h3:=Int.emod_lt_of_pos a hb
  simp only [withSign,if_true,Bool.true_and]
  by_cases h0:a % b = 0
  ·rw [decide_eq_false (by simpa using h0)]
   generalize a / b = q at *
   have e:-a = b * (-q):=by rw [<- h1,h0,Int.mul_neg];omega
   rw [e,Int.mul_ediv_cancel_left _ (by omega)];simp
  ·rw [decide_eq_true (by simpa using h0)]
   generalize a / b = q at *
   generalize a % b = r at *
   have e:-a = (b - r) + b * (-q - 1):=by rw [<- h1,Int.mul_sub,Int.mul_neg,Int.mul_one];omega
   rw [e,Int.add_mul_ediv_left _ _ (by omega),Int.ediv_eq_zero_of_lt (by omega) (by omega)]
   simp only [if_true];omega
theorem rFloor_any (u v:Value) (x y:Int) (L M:Nat) (w:World) (h:Rval w u x L) (g:Rval w v y M) (hy:0 < y) (hL:L <= 100000) (hM:M <= 100000) :
  Calls Tryz.prog 147 #[u,v] w fun e w'=>(∃ ng A2 n2 c2,e = .returned (.agg #[.bool ng,.slice A2 n2 c2]) /\ Rval w' (.agg #[.bool ng,.slice A2 n2 c2]) (x / y) (L + 100)) /\ Below w.heap.size w w':=by
 obtain ⟨p,A,n,c,xs,rfl,hr,hd,ht,hz,hp,hn⟩:=h
 obtain ⟨q,B,m,d,ys,rfl,gr,gd,gt,gz,gq,gm⟩:=g
 have hy0:=valR_nonneg (by decide:(0:Int) <= 65536) gd
 obtain rfl:q = false:=by
  cases q with
  | false=>rfl
  | true=>simp [withSign] at gz;omega
 have hby:valR 65536 ys = y:=by rw [gz];simp [withSign]
 have hpos:0 < valR 65536 ys:=by omega
 have hW:Below w.heap.size w (((w.alloc (.cells #[.bool p,.slice A n c] 34)).alloc (.cells #[.bool false,.slice B m d] 34)).alloc (.cells #[.bool false,.slice none 0 0] 34)):=(below_two w _ _).alloc (by simp;omega) _
 have hs3:w.heap.size + 3 <= (((w.alloc (.cells #[.bool p,.slice A n c] 34)).alloc (.cells #[.bool false,.slice B m d] 34)).alloc (.cells #[.bool false,.slice none 0 0] 34)).heap.size:=by simp <;> omega
 have HX:=Hd (hr.below hW)
 have HY:=Hd (gr.below hW)
 have HB:=Hd (fun (w':World) (hb:Below (w.heap.size + 3) (((w.alloc (.cells #[.bool p,.slice A n c] 34)).alloc (.cells #[.bool false,.slice B m d] 34)).alloc (.cells #[.bool false,.slice none 0 0] 34)) w')=>add_boxes (hb.mono (by omega)))
 have HRM:=Hd (fun (w':World) (hb:Below (w.heap.size + 3) (((w.alloc (.cells #[.bool p,.slice A n c] 34)).alloc (.cells #[.bool false,.slice B m d] 34)).alloc (.cells #[.bool false,.slice none 0 0] 34)) w')=>add_room hb)
 have hB0:=Below.refl (w.heap.size + 3) (((w.alloc (.cells #[.bool p,.slice A n c] 34)).alloc (.cells #[.bool false,.slice B m d] 34)).alloc (.cells #[.bool false,.slice none 0 0] 34))
 have HE:=Hd (show x / y = withSign p (valR 65536 xs / valR 65536 ys) - (if p && decide (valR 65536 xs % valR 65536 ys ≠ 0) then 1 else 0) by rw [hz,<- hby];exact floor_parts p hpos)
 have hmod0:0 <= valR 65536 xs % valR 65536 ys:=Int.emod_nonneg _ (by omega)
 clear hr gr gz hby hz hy
 go_enter Tryz.func147,Tryz.ntmps147
 go_wp2_with fail
 refine (rDivide_any p false A B n c m d xs ys _ HX.out HY.out hd gd gt hpos (by omega) (by omega)).mono ?_
 rintro e w2 ⟨⟨g1,A1,n1,c1,g2,A2,n2,c2,rfl,hq,hrm⟩,hb2⟩
 have hB2:=hB0.trans (hb2.mono (B':=w.heap.size + 3) hs3)
 have hz2:=Nat.le_trans hs3 hB2.size
 have h2:=below_two w2 (.cells #[.bool g1,.slice A1 n1 c1] 34) (.cells #[.bool g2,.slice A2 n2 c2] 34)
 have hB3:=hB2.trans (h2.mono (B':=w.heap.size + 3) hz2)
 have hz3:=Nat.le_trans hs3 hB3.size
 have hQ3:=Below.refl (w2.heap.size + 2) ((w2.alloc (.cells #[.bool g1,.slice A1 n1 c1] 34)).alloc (.cells #[.bool g2,.slice A2 n2 c2] 34))
 have hsz:w2.heap.size + 2 <= ((w2.alloc (.cells #[.bool g1,.slice A1 n1 c1] 34)).alloc (.cells #[.bool g2,.slice A2 n2 c2] 34)).heap.size:=by simp
 rw [Bool.bne_false] at hq
 have HQ:=Hd (hq.below h2)
 have HR:=Hd (hrm.below h2)
 obtain ⟨k0,k1,k2,k3⟩:=boxes_gen hQ3
 clear hq hrm
 go_wp2_with fail
 refine (rsign_any _ _ n _ HR.out (by omega)).mono ?_
 rintro e w4 ⟨rfl,hb4⟩
 have hB4:=hB3.trans (hb4.mono (B':=w.heap.size + 3) hz3)
 have hz4:=Nat.le_trans hs3 hB4.size
 have hQ4:=hQ3.trans (hb4.mono (B':=w2.heap.size + 2) hsz)
 have hsz4:=Nat.le_trans hsz hQ4.size
 have HQ4:=Hd (HQ.out.below hb4)
 obtain ⟨sg,hsg⟩ : ∃ sg,cmpI (withSign p (valR 65536 xs % valR 65536 ys)) 0 = sg:=⟨_,rfl⟩
 rw [hsg]
 have HSG:=Hd hsg
 clear k0 k1 k2 k3 hsg
 obtain ⟨k0,k1,k2,k3⟩:=boxes_gen hQ4
 obtain ⟨j0,j1,j2,j3,_⟩:=HB.out _ hB4
 by_cases hc:(p && decide (valR 65536 xs % valR 65536 ys ≠ 0)) = true
 ·have hif:(if p && decide (valR 65536 xs % valR 65536 ys ≠ 0) then (1:Int) else 0) = 1:=by rw [hc];rfl
  have HIF:=Hd hif
  obtain ⟨hp1,hm1⟩:=Bool.and_eq_true_iff.1 hc
  subst hp1
  have hm2:valR 65536 xs % valR 65536 ys ≠ 0:=of_decide_eq_true hm1
  have hs0:(sg != 0) = true:=by
   rw [<- HSG.out,cmpI_lt (by simp [withSign];omega)];rfl
  clear hc hm1 hm2 hif
  go_wp2_with fail
  have hBd:=hB4.drew
  have hQd:=hQ4.drew
  have HQd:=Hd (HQ4.out.below ((Below.refl w4.heap.size w4).drew))
  refine wp_region_held_drew (S:=fun w'=>w'.cell? ⟨w2.heap.size,0,none⟩ = some (.bool g1) /\ w'.cell? ⟨w2.heap.size,1,none⟩ = some (.slice A1 n1 c1)) (by kernel_rfl) ⟨k0,k1⟩ (fun hHeld0=>?_)
  refine tk 0 25 (by assumption) ?_
  try simp only [Act.put,tA,cZ,cS]
  refine rd 1 (AllReadyH.cons rfl (fun K hK=>?_) AllReadyH.nil)
  try simp only [gA,gZ,gS]
  go_simp
  (go_at_call 87;refine (rnew_any 1 _ (by decide) (by decide)).mono ?_;rintro e w5 ⟨⟨ng5,A5,n5,c5,rfl,hv5⟩,hb5⟩)
  have hB5:=hBd.trans (hb5.mono (B':=w.heap.size + 3) (Nat.le_trans hs3 hBd.size))
  have hQ5:=hQd.trans (hb5.mono (B':=w2.heap.size + 2) (Nat.le_trans hsz hQd.size))
  have HV5:=Hd hv5
  have HQ5:=Hd (HQd.out.below hb5)
  clear hv5 k0 k1 k2 k3
  obtain ⟨k0,k1,k2,k3⟩:=boxes_gen hQ5
  refine hK.out _ _ ⟨k0,k1⟩ (fun hHeld1=>?_)
  clear hK K
  try simp only [Act.put,tA,cZ,cS]
  refine rd 2 (AllReadyH.cons rfl (fun K hK=>?_) AllReadyH.nil)
  try simp only [gA,gZ,gS]
  go_simp
  (go_at_call 123;refine (rsub_any _ _ _ 1 n 64 _ HQ5.out HV5.out (by omega) (by decide)).mono ?_;rintro e w6 ⟨⟨ng6,A6,n6,c6,rfl,hv6⟩,hb6⟩)
  have hB6:=hB5.trans (hb6.mono (B':=w.heap.size + 3) (Nat.le_trans hs3 hB5.size))
  have hQ6:=hQ5.trans (hb6.mono (B':=w2.heap.size + 2) (Nat.le_trans hsz hQ5.size))
  have HV6:=Hd hv6
  clear hv6 k0 k1 k2 k3
  obtain ⟨k0,k1,k2,k3⟩:=boxes_gen hQ6
  obtain ⟨e1,e2,f1,f2⟩:=HRM.out _ hB6
  refine hK.out _ _ ⟨k0,k1⟩ (fun hHeld2=>?_)
  clear hK K
  try simp only [Act.put,tA,cZ,cS]
  refine rd 3 (AllReadyH.cons rfl (fun K hK=>?_) AllReadyH.nil)
  try simp only [gA,gZ,gS]
  go_simp
  refine hK.out _ _ ⟨?_,?_⟩ (fun hHeld3=>?_)
  ·rw [World.cell?_setCell_other _ _ _ _ (by simp <;> omega),World.cell?_setCell_other _ _ _ _ (by simp <;> omega)];exact k0
  ·rw [World.cell?_setCell_other _ _ _ _ (by simp <;> omega),World.cell?_setCell_other _ _ _ _ (by simp <;> omega)];exact k1
  clear hK K
  try simp only [Act.put,tA,cZ,cS]
  refine wpAnyH_done (by kernel_rfl) ?_ _
  go_wp2
  refine bodyPost_ret (v:=.agg #[.bool ng6,.slice A6 n6 c6]) (by simp [results,Tryz.results147,go_sem,e1,e2]) rfl ⟨⟨_,_,_,_,rfl,?_⟩,?_⟩
  ·rw [HE.out,HIF.out];exact (HV6.out.mono (by omega)).stored e1 e2 _ _
  ·exact ((hW.trans (hB6.mono (by omega))).setCell (by show _ <= _;simp;omega) _).setCell (by show _ <= _;simp;omega) _
 ·have hif:(if p && decide (valR 65536 xs % valR 65536 ys ≠ 0) then (1:Int) else 0) = 0:=by rw [if_neg hc]
  have HIF:=Hd hif
  obtain ⟨e1,e2,f1,f2⟩:=HRM.out _ hB4
  cases p with
  | false=>
   clear hc hif
   by_cases hs0:sg = 0
   ·have hs1:(sg != 0) = false:=by simpa using hs0
    clear hs0
    go_wp2
    refine bodyPost_ret (v:=.agg #[.bool g1,.slice A1 n1 c1]) (by simp [results,Tryz.results147,go_sem,e1,e2]) rfl ⟨⟨_,_,_,_,rfl,?_⟩,?_⟩
    ·rw [HE.out,HIF.out,Int.sub_zero];exact (HQ4.out.mono (by omega)).stored e1 e2 _ _
    ·exact ((hW.trans (hB4.mono (by omega))).setCell (by show _ <= _;simp;omega) _).setCell (by show _ <= _;simp;omega) _
   ·have hs1:(sg != 0) = true:=by simpa using hs0
    clear hs0
    go_wp2
    refine bodyPost_ret (v:=.agg #[.bool g1,.slice A1 n1 c1]) (by simp [results,Tryz.results147,go_sem,e1,e2]) rfl ⟨⟨_,_,_,_,rfl,?_⟩,?_⟩
    ·rw [HE.out,HIF.out,Int.sub_zero];exact (HQ4.out.mono (by omega)).stored e1 e2 _ _
    ·exact ((hW.trans (hB4.mono (by omega))).setCell (by show _ <= _;simp;omega) _).setCell (by show _ <= _;simp;omega) _
  | true=>
   have hm0:valR 65536 xs % valR 65536 ys = 0:=by simpa using hc
   have hs0:(sg != 0) = false:=by rw [<- HSG.out,hm0];decide
   clear hc hif hm0
   go_wp2
   refine bodyPost_ret (v:=.agg #[.bool g1,.slice A1 n1 c1]) (by simp [results,Tryz.results147,go_sem,e1,e2]) rfl ⟨⟨_,_,_,_,rfl,?_⟩,?_⟩
   ·rw [HE.out,HIF.out,Int.sub_zero];exact (HQ4.out.mono (by omega)).stored e1 e2 _ _
   ·exact ((hW.trans (hB4.mono (by omega))).setCell (by show _ <= _;simp;omega) _).setCell (by show _ <= _;simp;omega) _
def shiftOf (x t:Int) : Int:=if 0 <= t then x * 2 ^ t.toNat else x / 2 ^ (-t).toNat
def RoomAt (v:World) (b:Nat) : Prop:=(v.cell? ⟨b,0,none⟩ = some (.bool false) /\ v.cell? ⟨b,1,none⟩ = some (.slice none 0 0) /\ v.frozen? ⟨b,0,none⟩ = false /\ v.frozen? ⟨b,1,none⟩ = false) /\ b < v.heap.size
theorem RoomAt.below {v w':World} {b:Nat} (h:RoomAt v b) (hb:Below v.heap.size v w') : RoomAt w' b:=
 ⟨⟨(hb.cell (p:=⟨b,0,none⟩) h.2).trans h.1.1,(hb.cell (p:=⟨b,1,none⟩) h.2).trans h.1.2.1,(hb.frozen (p:=⟨b,0,none⟩) h.2).trans h.1.2.2.1,(hb.frozen (p:=⟨b,1,none⟩) h.2).trans h.1.2.2.2⟩,Nat.lt_of_lt_of_le h.2 hb.size⟩
def BoxV (w:World) (b:Nat) (z:Int) (L:Nat) : Prop:=
 b < w.heap.size /\ ∃ g A n c,w.cell? ⟨b,0,none⟩ = some (.bool g) /\ w.cell? ⟨b,1,none⟩ = some (.slice A n c) /\ Ival w (.agg #[.bool g,.slice A n c]) z L
theorem BoxV.below {w w':World} {b:Nat} {z:Int} {L:Nat} (h:BoxV w b z L) (hb:Below w.heap.size w w') : BoxV w' b z L:=by
 obtain ⟨h1,g,A,n,c,c0,c1,hv⟩:=h
 exact ⟨Nat.lt_of_lt_of_le h1 hb.size,g,A,n,c,(hb.cell (p:=⟨b,0,none⟩) h1).trans c0,(hb.cell (p:=⟨b,1,none⟩) h1).trans c1,hv.below hb⟩
def Boxes (w:World) (l:List (Nat × Int × Nat)) : Prop:=∀ t ∈ l,BoxV w t.1 t.2.1 t.2.2
theorem Boxes.below {w w':World} {l:List (Nat × Int × Nat)} (h:Boxes w l) (hb:Below w.heap.size w w') : Boxes w' l:=fun t ht=>(h t ht).below hb
theorem Boxes.nil {w:World} : Boxes w []:=fun t ht=>by simp at ht
theorem Boxes.get {w:World} {l:List (Nat × Int × Nat)} (h:Boxes w l) {b:Nat} {z:Int} {L:Nat} (hm:(b,z,L) ∈ l) : BoxV w b z L:=h _ hm
theorem Boxes.add {w:World} {l:List (Nat × Int × Nat)} (h:Boxes w l) {g:Bool} {A:Option Addr} {n c L:Nat} {z:Int} (t:TypeId) (hv:Ival w (.agg #[.bool g,.slice A n c]) z L) :
  Boxes (w.alloc (.cells #[.bool g,.slice A n c] t)) ((w.heap.size,z,L) :: l):=by
 have hb:=below_alloc w (.cells #[.bool g,.slice A n c] t)
 intro x hx
 rcases List.mem_cons.1 hx with rfl | hx
 ·refine ⟨by simp,g,A,n,c,?_,?_,hv.below hb⟩
  ·rw [World.cell?_alloc_at _ _ _ _ rfl];rfl
  ·rw [World.cell?_alloc_at _ _ _ _ rfl];rfl
 ·exact (h x hx).below hb
theorem IsLen.le_of_lt {z:Int} {k N:Nat} (h:IsLen z k) (hz:z < 2 ^ N) : k <= N:=by
 rcases h with ⟨_,rfl⟩ | ⟨h1,h2,_⟩
 ·omega
 ·have:=two_lt (show (2:Int) ^ (k - 1) < 2 ^ N by omega)
  omega
def NewBox (wk:World) (l:List (Nat × Int × Nat)) (z:Int) (L:Nat) (v:Value) (wx:World) : Prop:=
 ∃ b,v = .pointer (some ⟨b,0,none⟩) /\ Boxes wx ((b,z,L) :: l) /\ Below wk.heap.size wk wx
theorem NewBox.mk {wk wx:World} {l:List (Nat × Int × Nat)} {b:Nat} {z:Int} {L:Nat} (h:Boxes wk l) (hb:Below wk.heap.size wk wx) (hn:BoxV wx b z L) : NewBox wk l z L (.pointer (some ⟨b,0,none⟩)) wx:=by
 refine ⟨b,rfl,fun t ht=>?_,hb⟩
 rcases List.mem_cons.1 ht with rfl | ht
 ·exact hn
 ·exact (h t ht).below hb
def TooFar (x t:Int) : Prop:=0 < t /\ x ≠ 0 /\ ∃ k:Nat,IsLen (patOf x) k /\ 65536 < (k:Int) + t
def ShiftV (x t z err:Int) : Prop:=TooFar x t /\ z = 0 /\ err = 14 \/ ¬ TooFar x t /\ z = shiftOf x t /\ err = 0
theorem ShiftV.same {x t z err z' err':Int} (h:ShiftV x t z err) (g:ShiftV x t z' err') : z' = z /\ err' = err:=by
 rcases h with ⟨a,rfl,rfl⟩ | ⟨a,rfl,rfl⟩ <;> rcases g with ⟨b,rfl,rfl⟩ | ⟨b,rfl,rfl⟩
 ·exact ⟨rfl,rfl⟩
 ·exact absurd a b
 ·exact absurd b a
 ·exact ⟨rfl,rfl⟩
theorem IsLen.some {z:Int} (h0:0 <= z) : ∃ k,IsLen z k:=by
 have key:∀ N:Nat,∀ z:Int,0 <= z -> z < 2 ^ N -> ∃ k,IsLen z k:=by
  intro N
  induction N with
  | zero=>intro z h0 h1;exact ⟨0,.inl ⟨by simp at h1;omega,rfl⟩⟩
  | succ N ih=>
   intro z h0 h1
   by_cases hz:z < 2 ^ N
   ·exact ih z h0 hz
   ·exact ⟨N + 1,.inr ⟨by omega,by rw [Nat.add_sub_cancel];omega,h1⟩⟩
 have hlt:=Nat.lt_two_pow_self (n:=z.toNat)
 refine key z.toNat z h0 ?_
 have e:(((2:Nat) ^ z.toNat:Nat) : Int) = (2:Int) ^ z.toNat:=by simp
 rw [<- e];omega
theorem rbox_new {w w':World} {p:Bool} {u:Value} {t:TypeId} (h:Below (w.heap.size + 1) (w.alloc (.cells #[.bool p,u] t)) w') : w'.cell? ⟨w.heap.size,0,none⟩ = some (.bool p) /\ w'.cell? ⟨w.heap.size,1,none⟩ = some u:=by
 refine ⟨?_,?_⟩
 ·rw [h.cell (by simp),World.cell?_alloc_at _ _ _ _ (by simp)];rfl
 ·rw [h.cell (by simp),World.cell?_alloc_at _ _ _ _ (by simp)];rfl
theorem Rval.restored {w:World} {s:Value} {z:Int} {L:Nat} (h:Rval w s z L) {r:Nat} {g:Bool} {A:Option Addr} {n c:Nat} (e1:w.cell? ⟨r,0,none⟩ = some (.bool g)) (e2:w.cell? ⟨r,1,none⟩ = some (.slice A n c)) (x y:Value) :
  Rval ((w.setCell ⟨r,0,none⟩ x).setCell ⟨r,1,none⟩ y) s z L:=by
 obtain ⟨neg,A',n',c',ds,e,hr,t⟩:=h
 refine ⟨neg,A',n',c',ds,e,(hr.setOther (fun u=>by rw [e1];simp) x).setOther (fun u=>?_) y,t⟩
 rw [World.cell?_setCell_other _ _ _ _ (by simp),e2];simp
def RBox (w:World) (b:Nat) (z:Int) (L:Nat) : Prop:=
 ∃ g A n c,w.cell? ⟨b,0,none⟩ = some (.bool g) /\ w.cell? ⟨b,1,none⟩ = some (.slice A n c) /\ w.frozen? ⟨b,0,none⟩ = false /\ w.frozen? ⟨b,1,none⟩ = false /\ b < w.heap.size /\ Rval w (.agg #[.bool g,.slice A n c]) z L
theorem RBox.new (w:World) (g:Bool) (A:Option Addr) (n c L:Nat) (z:Int) (h:Rval w (.agg #[.bool g,.slice A n c]) z L) : RBox (w.alloc (.cells #[.bool g,.slice A n c] 34)) w.heap.size z L:=
 ⟨g,A,n,c,(rbox_new (Below.refl _ _)).1,(rbox_new (Below.refl _ _)).2,World.frozen?_alloc_at _ _ _ _ rfl,World.frozen?_alloc_at _ _ _ _ rfl,by simp,h.below (below_alloc _ _)⟩
theorem RBox.below {w w':World} {b:Nat} {z:Int} {L:Nat} (h:RBox w b z L) (hb:Below w.heap.size w w') : RBox w' b z L:=by
 obtain ⟨g,A,n,c,h1,h2,h3,h4,h5,h6⟩:=h
 exact ⟨g,A,n,c,(hb.cell (p:=⟨b,0,none⟩) h5).trans h1,(hb.cell (p:=⟨b,1,none⟩) h5).trans h2,(hb.frozen (p:=⟨b,0,none⟩) h5).trans h3,(hb.frozen (p:=⟨b,1,none⟩) h5).trans h4,Nat.lt_of_lt_of_le h5 hb.size,h6.below hb⟩
theorem RBox.set {w:World} {b:Nat} {z y:Int} {L M:Nat} (h:RBox w b z L) {g:Bool} {A:Option Addr} {n c:Nat} (hv:Rval w (.agg #[.bool g,.slice A n c]) y M) :
  ((w.setCell ⟨b,0,none⟩ (.bool g)).setCell ⟨b,1,none⟩ (.slice A n c)).cell? ⟨b,0,none⟩ = some (.bool g) /\ ((w.setCell ⟨b,0,none⟩ (.bool g)).setCell ⟨b,1,none⟩ (.slice A n c)).cell? ⟨b,1,none⟩ = some (.slice A n c) /\
  Rval ((w.setCell ⟨b,0,none⟩ (.bool g)).setCell ⟨b,1,none⟩ (.slice A n c)) (.agg #[.bool g,.slice A n c]) y M /\ RBox ((w.setCell ⟨b,0,none⟩ (.bool g)).setCell ⟨b,1,none⟩ (.slice A n c)) b y M:=by
 obtain ⟨g0,A0,n0,c0,h1,h2,h3,h4,h5,h6⟩:=h
 have e1:((w.setCell ⟨b,0,none⟩ (.bool g)).setCell ⟨b,1,none⟩ (.slice A n c)).cell? ⟨b,0,none⟩ = some (.bool g):=by
  rw [World.cell?_setCell_other _ _ _ _ (by simp)];exact World.cell?_setCell_same _ _ _ h1
 have e2:((w.setCell ⟨b,0,none⟩ (.bool g)).setCell ⟨b,1,none⟩ (.slice A n c)).cell? ⟨b,1,none⟩ = some (.slice A n c):=
  World.cell?_setCell_same _ _ _ ((World.cell?_setCell_other _ _ _ _ (by simp)).trans h2)
 exact ⟨e1,e2,hv.restored h1 h2 _ _,g,A,n,c,e1,e2,by simpa using h3,by simpa using h4,by simpa using h5,hv.restored h1 h2 _ _⟩
def powV (x n:Int) : Int:=if n < 0 then 0 else x ^ n.toNat
theorem IsLen.le {z:Int} {k N:Nat} (h:IsLen z k) (hz:z < 2 ^ N) : k <= N:=by
 rcases h with ⟨_,rfl⟩ | ⟨h1,h2,_⟩
 ·exact Nat.zero_le _
 ·have:=two_lt (show (2:Int) ^ (k - 1) < 2 ^ N by omega)
  omega
theorem Rval.abs {w:World} {g:Bool} {A:Option Addr} {n c:Nat} {x:Int} {L:Nat} (h:Rval w (.agg #[.bool g,.slice A n c]) x L) : Rval w (.agg #[.bool false,.slice A n c]) (if x < 0 then -x else x) L:=by
 obtain ⟨neg,A',n',c',ds,e,hr,hd,ht,hz,hp,hn⟩:=h
 simp only [Value.agg.injEq] at e
 injection e with e
 simp only [List.cons.injEq,Value.bool.injEq,Value.slice.injEq,and_true] at e
 obtain ⟨rfl,rfl,rfl,rfl⟩:=e
 refine ⟨false,A,n,c,ds,rfl,hr,hd,ht,?_,(fun h=>by cases h),hn⟩
 have h0:=valR_nonneg (by decide) hd
 rw [hz]
 cases g <;> simp [withSign] <;> omega
theorem rabs_any (u:Value) (x:Int) (L:Nat) (w:World) (h:Rval w u x L) :
  Calls Tryz.prog 29 #[u] w fun e w'=>(∃ ng A2 n2 c2,e = .returned (.agg #[.bool ng,.slice A2 n2 c2]) /\ Rval w' (.agg #[.bool ng,.slice A2 n2 c2]) (if x < 0 then -x else x) L) /\ Below w.heap.size w w':=by
 obtain ⟨p,A,n,c,rfl⟩:=h.form
 have hW:=below_two w (.cells #[.bool p,.slice A n c] 34) (.cells #[.bool false,.slice none 0 0] 34)
 have hA:=h.abs
 obtain ⟨y,hy⟩ : ∃ y,(if x < 0 then -x else x) = y:=⟨_,rfl⟩
 rw [hy] at hA ⊢
 have HA:=Hd hA
 clear h hy hA
 go_enter Tryz.func29,Tryz.ntmps29
 go_wp2
 refine bodyPost_ret (v:=.agg #[.bool false,.slice A n c]) (by simp [results,Tryz.results29,go_sem]) rfl ⟨⟨_,_,_,_,rfl,HA.out.below (below_two _ _ _)⟩,below_two _ _ _⟩
end Go.Proofs.YtbajnceoolkckaaGreat
