/- Of the proof of RationalRounds: Root, RatR2, RatV, RatW, RatX, RatY, RatZ, RatAc. -/
import Derived.Test.YtbajnceoolkckaaGreatRd31
open Go.Lib renaming hid → Hd
set_option maxRecDepth 100000
set_option maxHeartbeats 16000000
namespace Go.Proofs.YtbajnceoolkckaaGreat
open Go.RowKit LM
theorem Num.cut {w:World} {u:Value} {z:Int} {L K:Nat} (h:Num w u z L) (hz:z < BB ^ K) : Num w u z K:=by
 obtain ⟨A,n,c,xs,rfl,hr,hd,ht,rfl,hn⟩:=h
 refine ⟨A,n,c,xs,rfl,hr,hd,ht,rfl,?_⟩
 by_cases h0:n = 0
 ·omega
 ·have h1:=val_ge hd ht (by rw [hr.1];exact h0)
  by_cases h2:n <= K
  ·exact h2
  ·exfalso
   have h3:BB ^ K <= BB ^ (xs.length - 1):=pow_le (by rw [hr.1];omega)
   omega
def RootOf (x r:Int) : Prop:=(x < 0 /\ r = 0) \/ (0 <= x /\ IsRoot x r)
theorem RootOf.same {x r s:Int} (h:RootOf x r) (g:RootOf x s) : r = s:=by
 rcases h with ⟨h1,h2⟩ | ⟨h1,h2⟩ <;> rcases g with ⟨g1,g2⟩ | ⟨g1,g2⟩
 ·omega
 ·omega
 ·omega
 ·exact h2.same g2
def put2 (w:World) (b:Nat) (x0 x1:Value) : World:=(w.setCell ⟨b,0,none⟩ x0).setCell ⟨b,1,none⟩ x1
theorem cell_put2 {w:World} {b c i:Nat} (hne:b ≠ c) (x0 x1:Value) : (put2 w b x0 x1).cell? ⟨c,i,none⟩ = w.cell? ⟨c,i,none⟩:=by
 unfold put2
 rw [World.cell?_setCell_other _ _ _ _ (by simp;try omega),World.cell?_setCell_other _ _ _ _ (by simp;try omega)]
theorem short1Q_any (p q:Bool) (A B:Option Addr) (n c m d:Nat) (most:Int) (b:Nat) (w:World) (hb:b < w.heap.size) (hc:w.cell? ⟨b,0,none⟩ = some (.int .i64 most)) :
  Calls Tryz.prog 73 #[.agg #[.bool p,.slice A n c,.bool q,.slice B m d],.pointer (some ⟨b,0,none⟩)] w fun e w'=>e = .returned (.bool (tooLong [n,m] most)) /\ Below w.heap.size w w':=by
 have hW:=below_alloc' w (.cells #[.bool p,.slice A n c,.bool q,.slice B m d] 26)
 have B0:=Hd (Fx4.new w (.bool p) (.slice A n c) (.bool q) (.slice B m d) 26)
 have hm:=Hd ((hW.cell (p:=⟨b,0,none⟩) hb).trans hc)
 clear hc
 go_enter Tryz.func73,Tryz.ntmps73
 go_upto_region 1 with fail
 generalize w.alloc (.cells #[.bool p,.slice A n c,.bool q,.slice B m d] 26) = W0 at *
 obtain ⟨a0,a1,a2,a3,-,-,-,-,-⟩:=B0.out
 have hmo:=hm.out
 go_wp2_with fail
 refine (short_any _ 2 [n,m] most _ (lens2 W0 rfl p q A B n c m d) (by omega)).mono ?_
 rintro e w1 ⟨rfl,hb1⟩
 have hX:=below_alloc' W0 (.cells #[.bool p,.slice A n c,.bool q,.slice B m d] 24)
 have hw:=Hd (hW.trans ((hX.trans (hb1.mono (by simp))).mono hW.size))
 clear a0 a1 a2 a3 hmo hb1 hX hW
 go_wp2
 go_ret
 exact ⟨by simp,hw.out⟩
def LensQ (w:World) (g N:Nat) (lens:List (Nat × Nat)) : Prop:=
 lens.length = N /\ g < w.heap.size /\ ∀ i,i < N -> ∃ p A c q B d,w.cell? ⟨g,i * 4,none⟩ = some (.bool p) /\ w.cell? ⟨g,i * 4 + 1,none⟩ = some (.slice A (lens.getD i (0,0)).1 c) /\ w.cell? ⟨g,i * 4 + 2,none⟩ = some (.bool q) /\ w.cell? ⟨g,i * 4 + 3,none⟩ = some (.slice B (lens.getD i (0,0)).2 d)
theorem LensQ.below {w w':World} {g N:Nat} {lens:List (Nat × Nat)} (h:LensQ w g N lens) (hb:Below w.heap.size w w') : LensQ w' g N lens:=by
 obtain ⟨h1,h2,h3⟩:=h
 refine ⟨h1,Nat.lt_of_lt_of_le h2 hb.size,fun i hi=>?_⟩
 obtain ⟨p,A,c,q,B,d,c0,c1,c2,c3⟩:=h3 i hi
 exact ⟨p,A,c,q,B,d,(hb.cell (p:=⟨g,i * 4,none⟩) h2).trans c0,(hb.cell (p:=⟨g,i * 4 + 1,none⟩) h2).trans c1,(hb.cell (p:=⟨g,i * 4 + 2,none⟩) h2).trans c2,(hb.cell (p:=⟨g,i * 4 + 3,none⟩) h2).trans c3⟩
def anyLong (lens:List (Nat × Nat)) (most:Int) : Bool:=lens.any (fun p=>tooLong [p.1,p.2] most)
theorem anyLong_yes {lens:List (Nat × Nat)} {most:Int} {k:Nat} (hk:k < lens.length) (h:tooLong [(lens.getD k (0,0)).1,(lens.getD k (0,0)).2] most = true) : anyLong lens most = true:=by
 unfold anyLong
 rw [List.any_eq_true]
 refine ⟨lens[k],List.getElem_mem hk,?_⟩
 have:lens.getD k (0,0) = lens[k]:=by simp [List.getD,hk]
 rw [this] at h
 exact h
theorem anyLong_no {lens:List (Nat × Nat)} {most:Int} (h:∀ i,i < lens.length -> tooLong [(lens.getD i (0,0)).1,(lens.getD i (0,0)).2] most = false) : anyLong lens most = false:=by
 unfold anyLong
 rw [List.any_eq_false]
 intro n hn
 obtain ⟨i,hi,rfl⟩:=List.mem_iff_getElem.1 hn
 have:=h i hi
 have e:lens.getD i (0,0) = lens[i]:=by simp [List.getD,hi]
 rw [e] at this
 simp [this]
theorem indexQ_any (g N:Nat) (lens:List (Nat × Nat)) (most:Int) (b:Nat) (w:World) (h:LensQ w g N lens) (hN:N <= 1000) (hb:b < w.heap.size) (hc:w.cell? ⟨b,0,none⟩ = some (.int .i64 most)) :
  Calls Tryz.prog 120 #[.slice (some ⟨g,0,none⟩) N N,.func (Fn.func 73) #[] #[.pointer (some ⟨b,0,none⟩)]] w fun e w'=>(∃ r:Int,e = .returned (.int .i64 r) /\ decide (0 <= r) = anyLong lens most) /\ Below w.heap.size w w':=by
 obtain ⟨hl,hg,hlens⟩:=h
 have HL:=Hd hl
 have HH:=Hd hlens
 clear hl hlens
 go_enter Tryz.func120,Tryz.ntmps120
 go_wp2_with fail
 go_loopw [8] (fun iv wr=>∃ k:Nat,iv = .int .i64 k /\ k <= N /\ Hid (∀ i,i < k -> tooLong [(lens.getD i (0,0)).1,(lens.getD i (0,0)).2] most = false) /\ Below w.heap.size w wr) (fun iv _=>N - (intOf iv).toNat)
 case atStart=>exact ⟨0,rfl,Nat.zero_le _,Hd (fun i hi=>absurd hi (by omega)),Below.refl _ _⟩
 case round=>
  obtain ⟨k,rfl,hk,HA,hbw⟩:=hrel
  by_cases hlt:k < N
  ·obtain ⟨p,A,c,q,B,d,c0,c1,c2,c3⟩:=HH.out k hlt
   have d0:wr.cell? ⟨g,k * 4,none⟩ = _:=(hbw.cell (p:=⟨g,k * 4,none⟩) hg).trans c0
   have d1:wr.cell? ⟨g,k * 4 + 1,none⟩ = _:=(hbw.cell (p:=⟨g,k * 4 + 1,none⟩) hg).trans c1
   have d2:wr.cell? ⟨g,k * 4 + 2,none⟩ = _:=(hbw.cell (p:=⟨g,k * 4 + 2,none⟩) hg).trans c2
   have d3:wr.cell? ⟨g,k * 4 + 3,none⟩ = _:=(hbw.cell (p:=⟨g,k * 4 + 3,none⟩) hg).trans c3
   have hcb:=(hbw.cell (p:=⟨b,0,none⟩) hb).trans hc
   have hbr:b < wr.heap.size:=Nat.lt_of_lt_of_le hb hbw.size
   clear c0 c1 c2 c3
   obtain ⟨m,hm⟩ : ∃ m,(lens.getD k (0,0)).1 = m:=⟨_,rfl⟩
   obtain ⟨m2,hm2⟩ : ∃ m,(lens.getD k (0,0)).2 = m:=⟨_,rfl⟩
   rw [hm] at d1
   rw [hm2] at d3
   have HM:=Hd (And.intro hm hm2)
   clear hm hm2
   cases hlong:tooLong [m,m2] most with
   | true=>
    have HLo:=Hd hlong
    clear hlong
    go_wp2_with (go_at_call 73;refine (short1Q_any p q A B m c m2 d most b _ hbr hcb).mono ?_;rintro e w1 ⟨rfl,hb1⟩;rw [HLo.out])
    go_ret
    refine ⟨⟨(k:Int),rfl,?_⟩,hbw.trans (hb1.mono hbw.size)⟩
    rw [anyLong_yes (k:=k) (by rw [HL.out];exact hlt) (by rw [HM.out.1,HM.out.2];exact HLo.out)]
    simp
   | false=>
    have HLo:=Hd hlong
    clear hlong
    go_wp2_with (go_at_call 73;refine (short1Q_any p q A B m c m2 d most b _ hbr hcb).mono ?_;rintro e w1 ⟨rfl,hb1⟩;rw [HLo.out])
    refine ⟨⟨k + 1,by go_num,hlt,Hd (fun i hi=>?_),hbw.trans (hb1.mono hbw.size)⟩,by simp [intOf];omega⟩
    by_cases hik:i = k
    ·subst hik;rw [HM.out.1,HM.out.2];exact HLo.out
    ·exact HA.out i (by omega)
  ·obtain rfl:k = N:=by omega
   go_wp2
   go_ret
   refine ⟨⟨-1,rfl,?_⟩,hbw⟩
   rw [anyLong_no (fun i hi=>HA.out i (by rw [HL.out] at hi;exact hi))]
   decide
theorem containsQ_any (g N:Nat) (lens:List (Nat × Nat)) (most:Int) (b:Nat) (w:World) (h:LensQ w g N lens) (hN:N <= 1000) (hb:b < w.heap.size) (hc:w.cell? ⟨b,0,none⟩ = some (.int .i64 most)) :
  Calls Tryz.prog 72 #[.slice (some ⟨g,0,none⟩) N N,.func (Fn.func 73) #[] #[.pointer (some ⟨b,0,none⟩)]] w fun e w'=>e = .returned (.bool (anyLong lens most)) /\ Below w.heap.size w w':=by
 go_enter Tryz.func72,Tryz.ntmps72
 go_wp2_with fail
 refine (indexQ_any g N lens most b w h hN hb hc).mono ?_
 rintro e w1 ⟨⟨r,rfl,hr⟩,hb1⟩
 have HR:=Hd hr
 clear hr
 go_wp2
 go_ret
 exact ⟨by rw [<- HR.out];rfl,hb1⟩
theorem shortQ_any (g N:Nat) (lens:List (Nat × Nat)) (most:Int) (w:World) (h:LensQ w g N lens) (hN:N <= 1000) :
  Calls Tryz.prog 13 #[.int .i64 most,.slice (some ⟨g,0,none⟩) N N] w fun e w'=>e = .returned (.bool (!anyLong lens most)) /\ Below w.heap.size w w':=by
 have hmf:∀ (fn:Fn) (first cap:Array Value) (w:World),(Instr.makeFunc fn first cap).run Tryz.prog w = .ok (.func fn first cap) w:=fun _ _ _ _=>rfl
 have hA:=below_alloc' w (.cells #[.int .i64 most] 3)
 have hc:(w.alloc (.cells #[.int .i64 most] 3)).cell? ⟨w.heap.size,0,none⟩ = some (.int .i64 most):=by rw [World.cell?_alloc_at _ _ _ _ rfl];rfl
 have HC:=Hd hc
 clear hc
 go_enter Tryz.func13,Tryz.ntmps13
 go_wp2_with fail
 refine (containsQ_any g N lens most w.heap.size _ (h.below hA) hN (by simp) HC.out).mono ?_
 rintro e w1 ⟨rfl,hb1⟩
 go_wp2
 go_ret
 exact ⟨rfl,hA.trans (hb1.mono (by simp))⟩
theorem same_any (u v:Value) (n d m c:Int) (L:Nat) (w:World) (h:Rat w u n d L) (g:Rat w v m c L) (hL:L <= 400000) :
  Calls Tryz.prog 61 #[u,v] w fun e w'=>e = .returned (.bool (cmpI (n * c) (m * d) == 0)) /\ Below w.heap.size w w':=by
 obtain ⟨g1,A1,n1,c1,e1,E1,m1,d1,rfl⟩:=h.form
 obtain ⟨g2,A2,n2,c2,e2,E2,m2,d2,rfl⟩:=g.form
 obtain ⟨hw,F0,F1,hs⟩:=two44 w (.bool g1) (.slice A1 n1 c1) (.bool e1) (.slice E1 m1 d1) (.bool g2) (.slice A2 n2 c2) (.bool e2) (.slice E2 m2 d2)
 have X:=Hd (h.below hw)
 have Y:=Hd (g.below hw)
 obtain ⟨W0,hW0⟩ : ∃ W0,(w.alloc (.cells #[.bool g1,.slice A1 n1 c1,.bool e1,.slice E1 m1 d1] 38)).alloc (.cells #[.bool g2,.slice A2 n2 c2,.bool e2,.slice E2 m2 d2] 38) = W0:=⟨_,rfl⟩
 rw [hW0] at hw F0 F1 hs X Y
 replace F0:=Hd F0
 replace F1:=Hd F1
 replace hw:=Hd hw
 clear h g hs
 go_enter Tryz.func61,Tryz.ntmps61
 go_upto_region 1 with fail
 clear hW0
 obtain ⟨a0,a1,a2,a3,-,-,-,-,-⟩:=F0.out
 obtain ⟨b0,b1,b2,b3,-,-,-,-,-⟩:=F1.out
 go_wp2_with fail
 refine (Cmp_q _ _ n d m c L _ X.out Y.out hL).mono ?_
 rintro e w1 ⟨rfl,hb⟩
 replace hw:=Hd (hw.out.trans (hb.mono hw.out.size))
 clear a0 a1 a2 a3 b0 b1 b2 b3 hb
 go_wp2
 go_ret
 exact ⟨rfl,hw.out⟩
theorem Tryz.info38:(Tryz.prog.info? 38).map (fun i=>(i.zero,i.size,i.bytes)) = some (some (.agg #[.bool false,.slice none 0 0,.bool false,.slice none 0 0]),4,64):=by kernel_rfl
def OwnRats (w:World) (base:Nat) (v:Value) (xs:List (Int × Int)) (L:Nat) : Prop:=
 ∃ vs,vs.length = xs.length /\ w.ownsRow base 38 4 v xs.length (flat vs) /\ NIrow w v /\ ∀ i,i < xs.length -> Rat w (vs.getD i .nilFunc) (xs.getD i (0,1)).1 (xs.getD i (0,1)).2 L
theorem OwnRats.nil (w:World) (base L:Nat) : OwnRats w base (.slice none 0 0) [] L:=⟨[],rfl,World.ownsRow_nil ..,NIrow.nil w,fun i hi=>absurd hi (by simp)⟩
theorem OwnRats.below {w w':World} {base:Nat} {v:Value} {xs:List (Int × Int)} {L:Nat} (h:OwnRats w base v xs L) (hb:Below w.heap.size w w') : OwnRats w' base v xs L:=by
 obtain ⟨vs,hl,ho,hn,hv⟩:=h
 exact ⟨vs,hl,ownsRow_below ho hb,hn.below hb,fun i hi=>(hv i hi).below hb⟩
theorem flat_snoc4 (vs:List Value) (p q:Bool) (x y:Value) : flat (vs ++ [.agg #[.bool p,x,.bool q,y]]) = flat vs ++ [.bool p,x,.bool q,y]:=by
 simp [flat,Value.cells]
theorem flat_get4:∀ (vs:List Value) (i:Nat),(∀ j,j < vs.length -> ∃ g A n c q B m d,vs.getD j .nilFunc = .agg #[.bool g,.slice A n c,.bool q,.slice B m d]) -> i < vs.length -> ∀ g A n c q B m d,vs.getD i .nilFunc = .agg #[.bool g,.slice A n c,.bool q,.slice B m d] ->
  (flat vs)[4 * i]? = some (.bool g) /\ (flat vs)[4 * i + 1]? = some (.slice A n c) /\ (flat vs)[4 * i + 2]? = some (.bool q) /\ (flat vs)[4 * i + 3]? = some (.slice B m d)
 | [],i,_,hi,_,_,_,_,_,_,_,_,_=>absurd hi (by simp)
 | v :: vs,0,hf,hi,g,A,n,c,q,B,m,d,e=>by
  simp at e
  subst e
  simp [flat,Value.cells]
 | v :: vs,i + 1,hf,hi,g,A,n,c,q,B,m,d,e=>by
  obtain ⟨g0,A0,n0,c0,q0,B0,m0,d0,e0⟩:=hf 0 (by simp)
  simp at e0
  subst e0
  have:=flat_get4 vs i (fun j hj=>by have:=hf (j + 1) (by simpa using hj);simpa using this) (by simpa using hi) g A n c q B m d (by simpa using e)
  rw [show 4 * (i + 1) = 4 * i + 4 from by omega,show 4 * i + 4 + 1 = 4 * i + 1 + 4 from by omega,show 4 * i + 4 + 2 = 4 * i + 2 + 4 from by omega,show 4 * i + 4 + 3 = 4 * i + 3 + 4 from by omega]
  simpa [flat,Value.cells] using this
theorem OwnRats.get {w:World} {base:Nat} {v:Value} {xs:List (Int × Int)} {L:Nat} (h:OwnRats w base v xs L) {i:Nat} (hi:i < xs.length) :
  ∃ b cap g A n c q B m d,v = .slice (some ⟨b,0,none⟩) xs.length cap /\ base <= b /\ b < w.heap.size /\ w.cell? ⟨b,i * 4,none⟩ = some (.bool g) /\ w.cell? ⟨b,i * 4 + 1,none⟩ = some (.slice A n c) /\ w.cell? ⟨b,i * 4 + 2,none⟩ = some (.bool q) /\ w.cell? ⟨b,i * 4 + 3,none⟩ = some (.slice B m d) /\
   Rat w (.agg #[.bool g,.slice A n c,.bool q,.slice B m d]) (xs.getD i (0,1)).1 (xs.getD i (0,1)).2 L:=by
 obtain ⟨vs,hl,ho,hn,hv⟩:=h
 have hform:∀ j,j < vs.length -> ∃ g A n c q B m d,vs.getD j .nilFunc = .agg #[.bool g,.slice A n c,.bool q,.slice B m d]:=fun j hj=>(hv j (by omega)).form
 obtain ⟨g,A,n,c,q,B,m,d,e⟩:=hform i (by omega)
 obtain ⟨f0,f1,f2,f3⟩:=flat_get4 vs i hform (by omega) g A n c q B m d e
 have hvi:=hv i hi
 rw [e] at hvi
 rcases ho.2 with ⟨_,h0⟩ | ⟨b,cap,cur,rfl,hb,hh,hrest⟩
 ·omega
 ·have h0:=ho.cells (g:=b) rfl (4 * i) _ f0
  have h1:=ho.cells (g:=b) rfl (4 * i + 1) _ f1
  have h2:=ho.cells (g:=b) rfl (4 * i + 2) _ f2
  have h3:=ho.cells (g:=b) rfl (4 * i + 3) _ f3
  have hadd:∀ j,(⟨b,0,none⟩ : Addr).add j = ⟨b,j,none⟩:=fun j=>by unfold Addr.add;split <;> simp_all
  rw [hadd] at h0 h1 h2 h3
  exact ⟨b,cap,g,A,n,c,q,B,m,d,rfl,hb,(Array.getElem?_eq_some_iff.1 hh).1,by rw [Nat.mul_comm];exact h0,by rw [Nat.mul_comm];exact h1,by rw [Nat.mul_comm];exact h2,by rw [Nat.mul_comm];exact h3,hvi⟩
theorem OwnRats.snoc {w w':World} {base:Nat} {v v':Value} {xs:List (Int × Int)} {L:Nat} {vs:List Value} {x:Int × Int} {g q:Bool} {A B:Option Addr} {n c m d:Nat} (hl:vs.length = xs.length) (hv:∀ i,i < xs.length -> Rat w (vs.getD i .nilFunc) (xs.getD i (0,1)).1 (xs.getD i (0,1)).2 L) (hz:Rat w (.agg #[.bool g,.slice A n c,.bool q,.slice B m d]) x.1 x.2 L)
  (hni:NIrow w v) (ho:w'.ownsRow base 38 4 v' (xs.length + 1) (flat vs ++ [.bool g,.slice A n c,.bool q,.slice B m d])) (hg:w.grownBy w' v.ownBlock) (hn:NIrow w' v') : OwnRats w' base v' (xs ++ [x]) L:=by
 refine ⟨vs ++ [.agg #[.bool g,.slice A n c,.bool q,.slice B m d]],by simp [hl],?_,hn,fun i hi=>?_⟩
 ·rw [flat_snoc4,List.length_append];exact ho
 ·rw [List.length_append,List.length_singleton] at hi
  by_cases h:i < xs.length
  ·have e1:(vs ++ [Value.agg #[.bool g,.slice A n c,.bool q,.slice B m d]]).getD i .nilFunc = vs.getD i .nilFunc:=by simp [List.getD,List.getElem?_append_left,hl,h]
   have e2:(xs ++ [x]).getD i (0,1) = xs.getD i (0,1):=by simp [List.getD,List.getElem?_append_left,h]
   rw [e1,e2];exact (hv i h).off hni hg
  ·obtain rfl:i = xs.length:=by omega
   have e1:(vs ++ [Value.agg #[.bool g,.slice A n c,.bool q,.slice B m d]]).getD xs.length .nilFunc = .agg #[.bool g,.slice A n c,.bool q,.slice B m d]:=by simp [List.getD,hl]
   have e2:(xs ++ [x]).getD xs.length (0,1) = x:=by simp [List.getD]
   rw [e1,e2];exact hz.off hni hg
theorem wpList_append_rat (w:World) {ops:Array Oper} {rest:List Oper} {o:Oper} {a:Act} {Q:Exit -> Act -> World -> Prop} (hgd:o.guard = none) (s x:Operand)
  (ho:o.op = .call { callee:=.builtin .append,args:=#[s,x],argTypes:=#[92,92] })
  {base:Nat} {v:Value} {xs:List (Int × Int)} {L:Nat} (hs:a.eval s = v) (hown:OwnRats w base v xs L) {b:Nat} {g q:Bool} {A B:Option Addr} {n c m d:Nat} {z:Int × Int} (hx:a.eval x = .slice (some ⟨b,0,none⟩) 1 1)
  (h0:w.cell? ⟨b,0,none⟩ = some (.bool g)) (h1:w.cell? ⟨b,1,none⟩ = some (.slice A n c)) (h2:w.cell? ⟨b,2,none⟩ = some (.bool q)) (h3:w.cell? ⟨b,3,none⟩ = some (.slice B m d)) (hz:Rat w (.agg #[.bool g,.slice A n c,.bool q,.slice B m d]) z.1 z.2 L) (hlen:xs.length <= 1000000) (hbase:base <= w.heap.size)
  (h:∀ v' w',OwnRats w' base v' (xs ++ [z]) L -> NIrow w v -> w.grownBy w' v.ownBlock -> (∀ g,v.ownBlock = some g -> base <= g) -> wpList Tryz.prog ops Q rest (a.put o.dst v') w') : wpList Tryz.prog ops Q (o :: rest) a w:=by
 obtain ⟨i0,hi,hz0,hz1,hz2⟩:=info_parts Tryz.info38
 obtain ⟨vs,hl,ow,hni,hv⟩:=hown
 refine wpList_append_ni w hgd s x 92 ho base 38 i0 (.agg #[.bool false,.slice none 0 0,.bool false,.slice none 0 0]) 4 64 Tryz.underlying92 hi hz0 hz1 hz2 rfl (by decide) v xs.length (flat vs) hs ow ⟨b,0,none⟩ 1 1 [.bool g,.slice A n c,.bool q,.slice B m d] hx rfl ?_ ?_ (by unfold maxLen;omega) (by omega) hbase hni ?_ ?_ ?_
 ·intro j u hj
  match j,hj with
  | 0,hj=>simp at hj;subst hj;simpa [Addr.add] using h0
  | 1,hj=>simp at hj;subst hj;simpa [Addr.add] using h1
  | 2,hj=>simp at hj;subst hj;simpa [Addr.add] using h2
  | 3,hj=>simp at hj;subst hj;simpa [Addr.add] using h3
 ·intro u hu;simp at hu;rcases hu with rfl | rfl | rfl | rfl <;> rfl
 ·intro y hy;simp [Value.cells] at hy;rcases hy with rfl | rfl | rfl | rfl
  ·exact noInt_bool _
  ·exact noInt_slice _ _ _
  ·exact noInt_bool _
  ·exact noInt_slice _ _ _
 ·intro y hy;simp at hy;rcases hy with rfl | rfl | rfl | rfl
  ·exact noInt_bool _
  ·exact noInt_slice _ _ _
  ·exact noInt_bool _
  ·exact noInt_slice _ _ _
 ·intro v' w' ho' hg hn'
  exact h v' w' (OwnRats.snoc hl hv hz hni ho' hg hn') hni hg (fun g hg'=>(ow.lt g hg').1)
theorem take_snoc' {zs:List (Int × Int)} {N k:Nat} (hz:zs.length = N) (hk:k < N) : zs.take (k + 1) = zs.take k ++ [zs.getD k (0,1)]:=by
 rw [List.take_succ_eq_append_getElem (by omega)]
 simp [List.getD,List.getElem?_eq_getElem (show k < zs.length by omega)]
def GivenQ (w:World) (g N L:Nat) (zs:List (Int × Int)) : Prop:=
 zs.length = N /\ g < w.heap.size /\ ∀ i,i < N -> ∃ p A n c xs q B m d ys,w.cell? ⟨g,i * 4,none⟩ = some (.bool p) /\ w.cell? ⟨g,i * 4 + 1,none⟩ = some (.slice A n c) /\ w.cell? ⟨g,i * 4 + 2,none⟩ = some (.bool q) /\ w.cell? ⟨g,i * 4 + 3,none⟩ = some (.slice B m d) /\
  Row .u32 w A n c xs /\ Dig xs /\ n <= L /\ Row .u32 w B m d ys /\ Dig ys /\ m <= L /\ zs.getD i (0,1) = (ofN (withSign p (val xs)) (withSign q (val ys)),ofD (withSign p (val xs)) (withSign q (val ys)))
theorem ofList_any (g N L:Nat) (zs:List (Int × Int)) (w:World) (h:GivenQ w g N L zs) (hN:N <= 1000) (hL:L <= 400) :
  Calls Tryz.prog 60 #[.slice (some ⟨g,0,none⟩) N N] w fun e w'=>(∃ v,e = .returned v /\ OwnRats w' w.heap.size v zs (L + 4)) /\ Below w.heap.size w w':=by
 obtain ⟨hzl,hg,hgive⟩:=h
 have HZ:=Hd hzl
 have HG:=Hd hgive
 clear hzl hgive
 go_enter Tryz.func60,Tryz.ntmps60
 go_wp2_with fail
 go_loopw [3,10] (fun vv iv wr=>∃ k:Nat,iv = .int .i64 k /\ k <= N /\ Hid (OwnRats wr w.heap.size vv (zs.take k) (L + 4)) /\ Hid (Below w.heap.size w wr)) (fun _ iv _=>N - (intOf iv).toNat)
 case atStart=>exact ⟨0,rfl,Nat.zero_le _,Hd (OwnRats.nil _ _ _),Hd (Below.refl _ _)⟩
 case round=>
  obtain ⟨k,rfl,hk,hv,hb⟩:=hrel
  by_cases hlt:k < N
  ·obtain ⟨p,A,n,c,xs,q,B,m,d,ys,c0,c1,c2,c3,hr1,hd1,hn1,hr2,hd2,hn2,hz⟩:=HG.out k hlt
   have e0:wr.cell? ⟨g,k * 4,none⟩ = _:=(hb.out.cell (p:=⟨g,k * 4,none⟩) hg).trans c0
   have e1:wr.cell? ⟨g,k * 4 + 1,none⟩ = _:=(hb.out.cell (p:=⟨g,k * 4 + 1,none⟩) hg).trans c1
   have e2:wr.cell? ⟨g,k * 4 + 2,none⟩ = _:=(hb.out.cell (p:=⟨g,k * 4 + 2,none⟩) hg).trans c2
   have e3:wr.cell? ⟨g,k * 4 + 3,none⟩ = _:=(hb.out.cell (p:=⟨g,k * 4 + 3,none⟩) hg).trans c3
   have hA:=below_alloc wr (.cells #[.bool p,.slice A n c,.bool q,.slice B m d] 26)
   have R1:=Hd ((hr1.below hb.out).below hA)
   have R2:=Hd ((hr2.below hb.out).below hA)
   have HD:=Hd (And.intro hd1 hd2)
   have HL:=Hd (And.intro hn1 hn2)
   have HZk:=Hd hz
   replace hv:=Hd (hv.out.below hA)
   replace hb:=Hd (hb.out.trans (hA.mono hb.out.size))
   clear c0 c1 c2 c3 hr1 hr2 hd1 hd2 hn1 hn2 hz hA
   go_wp2_with fail
   refine (ofQ_any p q A B n c m d xs ys _ R1.out HD.out.1 R2.out HD.out.2 (by have:=HL.out;omega) (by have:=HL.out;omega)).mono ?_
   rintro e w1 ⟨⟨q1,K1,m1,d1,q2,K2,m2,d2,q3,K3,m3,d3,q4,K4,m4,d4,rfl,hq,-⟩,hb1⟩
   have HQ:=Hd hq
   replace hv:=Hd (hv.out.below hb1)
   replace hb:=Hd (hb.out.trans (hb1.mono hb.out.size))
   clear hq hb1 e0 e1 e2 e3 R1 R2
   have hX:=below_two w1 (.cells #[.bool q1,.slice K1 m1 d1,.bool q2,.slice K2 m2 d2] 38) (.cells #[.bool q3,.slice K3 m3 d3,.bool q4,.slice K4 m4 d4] 43)
   have B6:=Hd ((Fx4.new w1 (.bool q1) (.slice K1 m1 d1) (.bool q2) (.slice K2 m2 d2) 38).below (below_alloc _ (.cells #[.bool q3,.slice K3 m3 d3,.bool q4,.slice K4 m4 d4] 43)))
   replace HQ:=Hd (HQ.out.below hX)
   replace hv:=Hd (hv.out.below hX)
   replace hb:=Hd (hb.out.trans (hX.mono hb.out.size))
   clear hX
   go_upto_region 6 with fail
   generalize (w1.alloc (.cells #[.bool q1,.slice K1 m1 d1,.bool q2,.slice K2 m2 d2] 38)).alloc (.cells #[.bool q3,.slice K3 m3 d3,.bool q4,.slice K4 m4 d4] 43) = W2 at *
   generalize w1.heap.size = j6 at *
   have HX:=Hd (below_alloc W2 (.cells #[.bool q1,.slice K1 m1 d1,.bool q2,.slice K2 m2 d2] 38))
   obtain ⟨f0,f1,f2,f3,-,-,-,-,-⟩:=B6.out
   have hbz:=hb.out.size
   go_wp2_with (at_builtin;refine wpList_append_rat _ rfl (.tmp 19) (.tmp 21) rfl (xs:=zs.take k) (L:=L + 4) (z:=zs.getD k (0,1)) rfl (hv.out.below HX.out) rfl (World.cell?_alloc_at _ _ _ _ rfl) (World.cell?_alloc_at _ _ _ _ rfl) (World.cell?_alloc_at _ _ _ _ rfl) (World.cell?_alloc_at _ _ _ _ rfl) ?c1 ?c2 ?c3 ?_)
   case c1=>rw [HZk.out];exact (HQ.out.below HX.out).mono (by have:=HL.out;omega)
   case c2=>rw [List.length_take];omega
   case c3=>have:=HX.out.size;omega
   intro v' w2 hown hni hgr hge
   have hbn:=Hd ((hb.out.trans (HX.out.mono hb.out.size)).grown hgr (by have:=HX.out.size;omega) (fun j hj=>hge j hj))
   have HO:=Hd hown
   clear hown hni hgr hge
   go_wp2
   exact ⟨⟨k + 1,by go_num,hlt,Hd (by rw [take_snoc' HZ.out hlt];exact HO.out),hbn⟩,by simp [intOf];omega⟩
  ·obtain rfl:k = N:=by omega
   go_wp2
   go_ret
   have:=hv.out
   rw [List.take_of_length_le (by rw [HZ.out];exact Nat.le_refl _)] at this
   exact ⟨⟨_,rfl,this⟩,hb.out⟩
def VRat (w:World) (v:Value) (Q P:Int) (L:Nat) : Prop:=∃ N D,Rat w v N D L /\ N * P = Q * D /\ 0 < P
theorem VRat.below {w w':World} {v:Value} {Q P:Int} {L:Nat} (h:VRat w v Q P L) (hb:Below w.heap.size w w') : VRat w' v Q P L:=by
 obtain ⟨N,D,hr,h⟩:=h;exact ⟨N,D,hr.below hb,h⟩
theorem VRat.form {w:World} {v:Value} {Q P:Int} {L:Nat} (h:VRat w v Q P L) : ∃ g1 A1 n1 c1 g2 A2 n2 c2,v = .agg #[.bool g1,.slice A1 n1 c1,.bool g2,.slice A2 n2 c2]:=by
 obtain ⟨N,D,hr,h⟩:=h;exact hr.form
theorem VRat.mono {w:World} {v:Value} {Q P:Int} {L M:Nat} (h:VRat w v Q P L) (hl:L <= M) : VRat w v Q P M:=by
 obtain ⟨N,D,hr,h⟩:=h;exact ⟨N,D,hr.mono hl,h⟩
theorem Rat.d0 {w:World} {v:Value} {n d:Int} {L:Nat} (h:Rat w v n d L) : 0 < d:=by
 obtain ⟨g1,A1,n1,c1,g2,A2,n2,c2,e,h1,h2,h3,h4⟩:=h;exact h3
theorem Rat.v {w:World} {v:Value} {n d:Int} {L:Nat} (h:Rat w v n d L) : VRat w v n d L:=⟨n,d,h,rfl,h.d0⟩
def VRes (L:Nat) (Q P:Int) (w:World) (e:Ending) (w':World) : Prop:=
 (∃ g1 A1 n1 c1 g2 A2 n2 c2,e = .returned (.agg #[.bool g1,.slice A1 n1 c1,.bool g2,.slice A2 n2 c2]) /\ VRat w' (.agg #[.bool g1,.slice A1 n1 c1,.bool g2,.slice A2 n2 c2]) Q P L) /\ Below w.heap.size w w'
theorem cancel {a b c:Int} (hc:0 < c) (h:a * c = b * c) : a = b:=Int.eq_of_mul_eq_mul_right (by omega) h
theorem add_v (u v:Value) (Q1 P1 Q2 P2:Int) (L:Nat) (w:World) (h:VRat w u Q1 P1 L) (g:VRat w v Q2 P2 L) (hL:L <= 400000) (hL2:2 <= L) :
  Calls Tryz.prog 40 #[u,v] w (VRes (2 * L + 5) (Q1 * P2 + Q2 * P1) (P1 * P2) w):=by
 obtain ⟨N1,D1,h,h1,h0⟩:=h
 obtain ⟨N2,D2,g,g1,g0⟩:=g
 refine (Add_q u v N1 D1 N2 D2 L w h g hL hL2).mono ?_
 rintro e w' ⟨N,D,hc,⟨y1,y2,y3,y4,y5,y6,y7,y8,rfl,hr⟩,hb⟩
 refine ⟨⟨y1,y2,y3,y4,y5,y6,y7,y8,rfl,N,D,hr,?_,Int.mul_pos h0 g0⟩,hb⟩
 refine cancel (Int.mul_pos h.d0 g.d0) ?_
 clear h g hr hb
 grind
theorem mul_v (u v:Value) (Q1 P1 Q2 P2:Int) (L:Nat) (w:World) (h:VRat w u Q1 P1 L) (g:VRat w v Q2 P2 L) (hL:L <= 400000) (hL2:2 <= L) :
  Calls Tryz.prog 44 #[u,v] w (VRes (2 * L + 5) (Q1 * Q2) (P1 * P2) w):=by
 obtain ⟨N1,D1,h,h1,h0⟩:=h
 obtain ⟨N2,D2,g,g1,g0⟩:=g
 refine (Mul_q u v N1 D1 N2 D2 L w h g hL hL2).mono ?_
 rintro e w' ⟨N,D,hc,⟨y1,y2,y3,y4,y5,y6,y7,y8,rfl,hr⟩,hb⟩
 refine ⟨⟨y1,y2,y3,y4,y5,y6,y7,y8,rfl,N,D,hr.mono (by omega),?_,Int.mul_pos h0 g0⟩,hb⟩
 refine cancel (Int.mul_pos h.d0 g.d0) ?_
 clear h g hr hb
 grind
theorem cmpI_scale {a b k:Int} (hk:0 < k) : cmpI (a * k) (b * k) = cmpI a b:=by
 rcases Int.lt_trichotomy a b with h | h | h
 ·rw [cmpI_lt h,cmpI_lt (Int.mul_lt_mul_of_pos_right h hk)]
 ·rw [h];rw [cmpI_eq rfl,cmpI_eq rfl]
 ·rw [cmpI_gt h,cmpI_gt (Int.mul_lt_mul_of_pos_right h hk)]
theorem cross_cmp {N1 D1 N2 D2 Q1 P1 Q2 P2:Int} (h1:N1 * P1 = Q1 * D1) (g1:N2 * P2 = Q2 * D2) (h0:0 < P1) (g0:0 < P2) (d1:0 < D1) (d2:0 < D2) : cmpI (N1 * D2) (N2 * D1) = cmpI (Q1 * P2) (Q2 * P1):=by
 rw [<- cmpI_scale (a:=N1 * D2) (Int.mul_pos h0 g0),<- cmpI_scale (a:=Q1 * P2) (Int.mul_pos d1 d2)]
 have e1:N1 * D2 * (P1 * P2) = Q1 * P2 * (D1 * D2):=by grind
 have e2:N2 * D1 * (P1 * P2) = Q2 * P1 * (D1 * D2):=by grind
 rw [e1,e2]
theorem same_v (u v:Value) (Q1 P1 Q2 P2:Int) (L:Nat) (w:World) (h:VRat w u Q1 P1 L) (g:VRat w v Q2 P2 L) (hL:L <= 400000) :
  Calls Tryz.prog 61 #[u,v] w fun e w'=>e = .returned (.bool (cmpI (Q1 * P2) (Q2 * P1) == 0)) /\ Below w.heap.size w w':=by
 obtain ⟨N1,D1,h,h1,h0⟩:=h
 obtain ⟨N2,D2,g,g1,g0⟩:=g
 rw [<- cross_cmp h1 g1 h0 g0 h.d0 g.d0]
 exact same_any u v N1 D1 N2 D2 L w h g hL
theorem same_v_yes (u v:Value) (Q1 P1 Q2 P2:Int) (L:Nat) (w:World) (h:VRat w u Q1 P1 L) (g:VRat w v Q2 P2 L) (hL:L <= 400000) (he:Q1 * P2 = Q2 * P1) :
  Calls Tryz.prog 61 #[u,v] w fun e w'=>e = .returned (.bool true) /\ Below w.heap.size w w':=by
 refine (same_v u v Q1 P1 Q2 P2 L w h g hL).mono ?_
 rintro e w' ⟨rfl,hb⟩
 refine ⟨?_,hb⟩
 rw [cmpI_eq he];rfl
theorem QText.err {R n d err:Int} {T:ByteArray} (h0:2 <= R) (h1:R <= 36) (h:QText R n d T err) : err = 0:=by
 obtain ⟨T1,ht1,_⟩:=h
 exact (ht1.of h0 h1).1
theorem QText.det {R n d e1 e2:Int} {S T:ByteArray} (h:QText R n d S e1) (g:QText R n d T e2) : S = T:=by
 obtain ⟨T1,a1,h⟩:=h
 obtain ⟨T2,a2,g⟩:=g
 obtain ⟨rfl,rfl⟩:=a1.det a2
 rcases h with ⟨h0,rfl⟩ | ⟨h0,h1,S2,b1,rfl⟩ <;> rcases g with ⟨g0,rfl⟩ | ⟨g0,g1,U2,b2,rfl⟩
 ·rfl
 ·rcases h0 with h0 | h0
  ·exact absurd g0 h0
  ·exact absurd h0 g1
 ·rcases g0 with g0 | g0
  ·exact absurd h0 g0
  ·exact absurd g0 h1
 ·rw [(b1.det b2).1]
theorem Rat.bound {w:World} {v:Value} {n d:Int} {L:Nat} (h:Rat w v n d L) (hL:1 <= L) : (if n < 0 then -n else n) < BB ^ L /\ (if d < 0 then -d else d) < BB ^ L:=by
 obtain ⟨g1,A1,n1,c1,g2,A2,n2,c2,e,h1,h2,h3,h4⟩:=h
 refine ⟨ival_lt h1,?_⟩
 have:=ival_lt h2
 unfold dn at this
 rw [if_neg (by omega:¬ d < 0)]
 split at this
 ·have hp:(1:Int) < BB ^ L:=by
   obtain ⟨m,rfl⟩ : ∃ m,L = m + 1:=⟨L - 1,by omega⟩
   have:(0:Int) < BB ^ m:=Int.pow_pos (by decide)
   have hB:BB = 4294967296:=rfl
   have h5:=Int.mul_le_mul_of_nonneg_right (show 1 <= BB ^ m by omega) (show 0 <= BB by decide)
   rw [Int.pow_succ]
   omega
  omega
 ·rw [if_neg (by omega)] at this;exact this
theorem Rat.cop {w:World} {v:Value} {n d:Int} {L:Nat} (h:Rat w v n d L) : Int.gcd n d = 1:=by
 obtain ⟨g1,A1,n1,c1,g2,A2,n2,c2,e,h1,h2,h3,h4⟩:=h;exact h4
theorem RQ.parts {w:World} {g1 g2:Bool} {A1 A2:Option Addr} {n1 c1 n2 c2:Nat} {n d:Int} {L:Nat} (h:RQ w (.agg #[.bool g1,.slice A1 n1 c1,.bool g2,.slice A2 n2 c2]) n d L) :
  Rval w (.agg #[.bool g1,.slice A1 n1 c1]) n L /\ Rval w (.agg #[.bool g2,.slice A2 n2 c2]) d L /\ 0 < d /\ Int.gcd n d = 1:=by
 obtain ⟨g1',A1',n1',c1',g2',A2',n2',c2',e,h1,h2,h3,h4⟩:=h
 injection e with e
 injection e with e
 simp at e
 obtain ⟨⟨⟩,⟨rfl,rfl,rfl⟩,⟨⟩,⟨rfl,rfl,rfl⟩⟩:=e
 exact ⟨h1,h2,h3,h4⟩
theorem RQ.pos {w:World} {v:Value} {n d:Int} {L:Nat} (h:RQ w v n d L) : 0 < d:=by
 obtain ⟨_,_,_,_,_,_,_,_,_,_,_,h3,_⟩:=h;exact h3
theorem p16_le {i j:Nat} (h:i <= j) : (65536:Int) ^ i <= 65536 ^ j:=by
 obtain ⟨B,hB⟩ : ∃ B:Nat,65536 = B:=⟨_,rfl⟩
 have hc:(65536:Int) = (B:Int):=by omega
 rw [hc]
 have:=Nat.pow_le_pow_right (show 0 < B by omega) h
 exact_mod_cast this
theorem Rval.tight {w:World} {v:Value} {z:Int} {L K:Nat} (h:Rval w v z L) (hz:(z.natAbs:Int) < 65536 ^ K) : Rval w v z K:=by
 obtain ⟨neg,A,n,c,ds,e,hr,hd,ht,hs,hneg,hn⟩:=h
 refine ⟨neg,A,n,c,ds,e,hr,hd,ht,hs,hneg,?_⟩
 by_cases h0:n = 0
 ·omega
 ·have h1:=valR_ge hd ht (by rw [hr.1];exact h0)
  by_cases h2:n <= K
  ·exact h2
  ·exfalso
   have h3:(65536:Int) ^ K <= 65536 ^ (ds.length - 1):=p16_le (by rw [hr.1];omega)
   have h4:0 <= valR 65536 ds:=valR_nonneg (by decide) hd
   have h5:(z.natAbs:Int) = valR 65536 ds:=by
    cases neg <;> simp [withSign] at hs <;> omega
   omega
theorem Rval.lt_pow {w:World} {v:Value} {z:Int} {L:Nat} (h:Rval w v z L) : (z.natAbs:Int) < 65536 ^ L:=by
 obtain ⟨neg,A,n,c,ds,e,hr,hd,ht,hs,hneg,hn⟩:=h
 have h1:=valR_lt (R:=65536) (by decide) hd
 have h3:(65536:Int) ^ ds.length <= 65536 ^ L:=p16_le (by rw [hr.1];exact hn)
 have h4:0 <= valR 65536 ds:=valR_nonneg (by decide) hd
 have h5:(z.natAbs:Int) = valR 65536 ds:=by
  cases neg <;> simp [withSign] at hs <;> omega
 omega
theorem RQ.tight {w:World} {v:Value} {n d:Int} {L K:Nat} (h:RQ w v n d L) (hn:(n.natAbs:Int) < 65536 ^ K) (hd:(d.natAbs:Int) < 65536 ^ K) : RQ w v n d K:=by
 obtain ⟨g1,A1,n1,c1,g2,A2,n2,c2,e,h1,h2,h3⟩:=h
 exact ⟨g1,A1,n1,c1,g2,A2,n2,c2,e,h1.tight hn,h2.tight hd,h3⟩
theorem unit_even {a:Int} (h:a = 1 \/ a = -1) {p q:Nat} (hp:p % 2 = q % 2) : a ^ p = a ^ q:=by
 have ha:a ^ 2 = 1:=by rcases h with rfl | rfl <;> rfl
 have key:∀ r:Nat,a ^ r = a ^ (r % 2):=fun r=>by
  have e:r = 2 * (r / 2) + r % 2:=by omega
  have h1:a ^ r = a ^ (2 * (r / 2) + r % 2):=congrArg (fun t=>a ^ t) e
  rw [h1,Int.pow_add,Int.pow_mul,ha,Int.one_pow,Int.one_mul]
 rw [key p,key q,hp]
def PowOk (n d k:Int) : Prop:=(-40 <= k /\ k <= 40) \/ (-1 <= n /\ n <= 1 /\ d = 1)
theorem PowOk.unit {n d k:Int} (h:PowOk n d k) (hk:¬ (-40 <= k /\ k <= 40)) (hn:n ≠ 0) : (upN d n = 1 \/ upN d n = -1) /\ upN n n = 1:=by
 rcases h with h | ⟨h1,h2,rfl⟩
 ·exact absurd h hk
 ·rcases (show n = 1 \/ n = -1 by omega) with rfl | rfl
  ·exact ⟨Or.inl rfl,rfl⟩
  ·exact ⟨Or.inr rfl,rfl⟩
theorem PowOk.up {n d k kk:Int} (h:PowOk n d k) (hn:n ≠ 0) (hkk:kk <= 40 \/ ¬ (-40 <= k /\ k <= 40)) : (kk <= 40 \/ -1 <= upN d n /\ upN d n <= 1) /\ (kk <= 40 \/ -1 <= upN n n /\ upN n n <= 1):=by
 rcases hkk with h0 | h0
 ·exact ⟨Or.inl h0,Or.inl h0⟩
 ·obtain ⟨h1,h2⟩:=h.unit h0 hn
  exact ⟨Or.inr (by omega),Or.inr (by omega)⟩
theorem PowOk.same {n d k kk:Int} (h:PowOk n d k) (hn:n ≠ 0) (h0:0 <= kk) (hkk:kk.toNat = k.natAbs \/ (¬ (-40 <= k /\ k <= 40) /\ kk.toNat % 2 = k.natAbs % 2)) : powV (upN d n) kk = upN d n ^ k.natAbs /\ powV (upN n n) kk = upN n n ^ k.natAbs:=by
 rw [pow_nat h0,pow_nat h0]
 rcases hkk with e | ⟨h1,h2⟩
 ·rw [e];exact ⟨rfl,rfl⟩
 ·obtain ⟨h3,h4⟩:=h.unit h1 hn
  exact ⟨unit_even h3 h2,unit_even (Or.inl h4) h2⟩
end Go.Proofs.YtbajnceoolkckaaGreat
