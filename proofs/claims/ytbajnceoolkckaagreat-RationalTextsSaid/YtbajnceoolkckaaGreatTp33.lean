/- Of the proof of RationalTexts: RatV, RatW, RatX, RatY, RatPw, RRoot, Root, RatZ, RatAc. -/
import Derived.Test.YtbajnceoolkckaaGreatTp32
open List renaming getElem_toArray → gA, getElem_cons_succ → gS, getElem_cons_zero → gZ, setIfInBounds_toArray → tA, set_cons_zero → cZ, set_cons_succ → cS
open Go.Lib renaming hid → Hd
set_option maxRecDepth 100000
set_option maxHeartbeats 16000000
namespace Go.Proofs.YtbajnceoolkckaaGreat
open Go.RowKit LM
theorem short1Q_any (p q:Bool) (A B:Option Addr) (n c m d:Nat) (most:Int) (b:Nat) (w:World) (hb:b < w.heap.size) (hc:w.cell? ⟨b,0,none⟩ = some (.int .i64 most)) :
  Calls Tryz.prog 73 #[.agg #[.bool p,.slice A n c,.bool q,.slice B m d],.pointer (some ⟨b,0,none⟩)] w fun e w'=>e = .returned (.bool (tooLong [n,m] most)) /\ Below w.heap.size w w':=by
 have hW:=below_alloc' w (.cells #[.bool p,.slice A n c,.bool q,.slice B m d] 26)
 have B0:=Hd (Fx4.new w (.bool p) (.slice A n c) (.bool q) (.slice B m d) 26)
 have hm:=Hd ((hW.cell (p:=⟨b,0,none⟩) hb).trans hc)
 clear hc
 go_enter Tryz.func73,Tryz.ntmps73
 go_upto_region 1 with fail
 generalize w.alloc (.cells #[.bool p,.slice A n c,.bool q,.slice B m d] 26) = W0 at *
 obtain ⟨a0,a1,a2,a3,-,-,-,-,-⟩:=B0.out
 have hmo:=hm.out
 go_wp2_with fail
 refine (short_any _ 2 [n,m] most _ (lens2 W0 rfl p q A B n c m d) (by omega)).mono ?_
 rintro e w1 ⟨rfl,hb1⟩
 have hX:=below_alloc' W0 (.cells #[.bool p,.slice A n c,.bool q,.slice B m d] 24)
 have hw:=Hd (hW.trans ((hX.trans (hb1.mono (by simp))).mono hW.size))
 clear a0 a1 a2 a3 hmo hb1 hX hW
 go_wp2
 go_ret
 exact ⟨by simp,hw.out⟩
def LensQ (w:World) (g N:Nat) (lens:List (Nat × Nat)) : Prop:=
 lens.length = N /\ g < w.heap.size /\ ∀ i,i < N -> ∃ p A c q B d,w.cell? ⟨g,i * 4,none⟩ = some (.bool p) /\ w.cell? ⟨g,i * 4 + 1,none⟩ = some (.slice A (lens.getD i (0,0)).1 c) /\ w.cell? ⟨g,i * 4 + 2,none⟩ = some (.bool q) /\ w.cell? ⟨g,i * 4 + 3,none⟩ = some (.slice B (lens.getD i (0,0)).2 d)
theorem LensQ.below {w w':World} {g N:Nat} {lens:List (Nat × Nat)} (h:LensQ w g N lens) (hb:Below w.heap.size w w') : LensQ w' g N lens:=by
 obtain ⟨h1,h2,h3⟩:=h
 refine ⟨h1,Nat.lt_of_lt_of_le h2 hb.size,fun i hi=>?_⟩
 obtain ⟨p,A,c,q,B,d,c0,c1,c2,c3⟩:=h3 i hi
 exact ⟨p,A,c,q,B,d,(hb.cell (p:=⟨g,i * 4,none⟩) h2).trans c0,(hb.cell (p:=⟨g,i * 4 + 1,none⟩) h2).trans c1,(hb.cell (p:=⟨g,i * 4 + 2,none⟩) h2).trans c2,(hb.cell (p:=⟨g,i * 4 + 3,none⟩) h2).trans c3⟩
def anyLong (lens:List (Nat × Nat)) (most:Int) : Bool:=lens.any (fun p=>tooLong [p.1,p.2] most)
theorem anyLong_yes {lens:List (Nat × Nat)} {most:Int} {k:Nat} (hk:k < lens.length) (h:tooLong [(lens.getD k (0,0)).1,(lens.getD k (0,0)).2] most = true) : anyLong lens most = true:=by
 unfold anyLong
 rw [List.any_eq_true]
 refine ⟨lens[k],List.getElem_mem hk,?_⟩
 have:lens.getD k (0,0) = lens[k]:=by simp [List.getD,hk]
 rw [this] at h
 exact h
theorem anyLong_no {lens:List (Nat × Nat)} {most:Int} (h:∀ i,i < lens.length -> tooLong [(lens.getD i (0,0)).1,(lens.getD i (0,0)).2] most = false) : anyLong lens most = false:=by
 unfold anyLong
 rw [List.any_eq_false]
 intro n hn
 obtain ⟨i,hi,rfl⟩:=List.mem_iff_getElem.1 hn
 have:=h i hi
 have e:lens.getD i (0,0) = lens[i]:=by simp [List.getD,hi]
 rw [e] at this
 simp [this]
theorem indexQ_any (g N:Nat) (lens:List (Nat × Nat)) (most:Int) (b:Nat) (w:World) (h:LensQ w g N lens) (hN:N <= 1000) (hb:b < w.heap.size) (hc:w.cell? ⟨b,0,none⟩ = some (.int .i64 most)) :
  Calls Tryz.prog 120 #[.slice (some ⟨g,0,none⟩) N N,.func (Fn.func 73) #[] #[.pointer (some ⟨b,0,none⟩)]] w fun e w'=>(∃ r:Int,e = .returned (.int .i64 r) /\ decide (0 <= r) = anyLong lens most) /\ Below w.heap.size w w':=by
 obtain ⟨hl,hg,hlens⟩:=h
 have HL:=Hd hl
 have HH:=Hd hlens
 clear hl hlens
 go_enter Tryz.func120,Tryz.ntmps120
 go_wp2_with fail
 go_loopw [8] (fun iv wr=>∃ k:Nat,iv = .int .i64 k /\ k <= N /\ Hid (∀ i,i < k -> tooLong [(lens.getD i (0,0)).1,(lens.getD i (0,0)).2] most = false) /\ Below w.heap.size w wr) (fun iv _=>N - (intOf iv).toNat)
 case atStart=>exact ⟨0,rfl,Nat.zero_le _,Hd (fun i hi=>absurd hi (by omega)),Below.refl _ _⟩
 case round=>
  obtain ⟨k,rfl,hk,HA,hbw⟩:=hrel
  by_cases hlt:k < N
  ·obtain ⟨p,A,c,q,B,d,c0,c1,c2,c3⟩:=HH.out k hlt
   have d0:wr.cell? ⟨g,k * 4,none⟩ = _:=(hbw.cell (p:=⟨g,k * 4,none⟩) hg).trans c0
   have d1:wr.cell? ⟨g,k * 4 + 1,none⟩ = _:=(hbw.cell (p:=⟨g,k * 4 + 1,none⟩) hg).trans c1
   have d2:wr.cell? ⟨g,k * 4 + 2,none⟩ = _:=(hbw.cell (p:=⟨g,k * 4 + 2,none⟩) hg).trans c2
   have d3:wr.cell? ⟨g,k * 4 + 3,none⟩ = _:=(hbw.cell (p:=⟨g,k * 4 + 3,none⟩) hg).trans c3
   have hcb:=(hbw.cell (p:=⟨b,0,none⟩) hb).trans hc
   have hbr:b < wr.heap.size:=Nat.lt_of_lt_of_le hb hbw.size
   clear c0 c1 c2 c3
   obtain ⟨m,hm⟩ : ∃ m,(lens.getD k (0,0)).1 = m:=⟨_,rfl⟩
   obtain ⟨m2,hm2⟩ : ∃ m,(lens.getD k (0,0)).2 = m:=⟨_,rfl⟩
   rw [hm] at d1
   rw [hm2] at d3
   have HM:=Hd (And.intro hm hm2)
   clear hm hm2
   cases hlong:tooLong [m,m2] most with
   | true=>
    have HLo:=Hd hlong
    clear hlong
    go_wp2_with (go_at_call 73;refine (short1Q_any p q A B m c m2 d most b _ hbr hcb).mono ?_;rintro e w1 ⟨rfl,hb1⟩;rw [HLo.out])
    go_ret
    refine ⟨⟨(k:Int),rfl,?_⟩,hbw.trans (hb1.mono hbw.size)⟩
    rw [anyLong_yes (k:=k) (by rw [HL.out];exact hlt) (by rw [HM.out.1,HM.out.2];exact HLo.out)]
    simp
   | false=>
    have HLo:=Hd hlong
    clear hlong
    go_wp2_with (go_at_call 73;refine (short1Q_any p q A B m c m2 d most b _ hbr hcb).mono ?_;rintro e w1 ⟨rfl,hb1⟩;rw [HLo.out])
    refine ⟨⟨k + 1,by go_num,hlt,Hd (fun i hi=>?_),hbw.trans (hb1.mono hbw.size)⟩,by simp [intOf];omega⟩
    by_cases hik:i = k
    ·subst hik;rw [HM.out.1,HM.out.2];exact HLo.out
    ·exact HA.out i (by omega)
  ·obtain rfl:k = N:=by omega
   go_wp2
   go_ret
   refine ⟨⟨-1,rfl,?_⟩,hbw⟩
   rw [anyLong_no (fun i hi=>HA.out i (by rw [HL.out] at hi;exact hi))]
   decide
theorem containsQ_any (g N:Nat) (lens:List (Nat × Nat)) (most:Int) (b:Nat) (w:World) (h:LensQ w g N lens) (hN:N <= 1000) (hb:b < w.heap.size) (hc:w.cell? ⟨b,0,none⟩ = some (.int .i64 most)) :
  Calls Tryz.prog 72 #[.slice (some ⟨g,0,none⟩) N N,.func (Fn.func 73) #[] #[.pointer (some ⟨b,0,none⟩)]] w fun e w'=>e = .returned (.bool (anyLong lens most)) /\ Below w.heap.size w w':=by
 go_enter Tryz.func72,Tryz.ntmps72
 go_wp2_with fail
 refine (indexQ_any g N lens most b w h hN hb hc).mono ?_
 rintro e w1 ⟨⟨r,rfl,hr⟩,hb1⟩
 have HR:=Hd hr
 clear hr
 go_wp2
 go_ret
 exact ⟨by rw [<- HR.out];rfl,hb1⟩
theorem shortQ_any (g N:Nat) (lens:List (Nat × Nat)) (most:Int) (w:World) (h:LensQ w g N lens) (hN:N <= 1000) :
  Calls Tryz.prog 13 #[.int .i64 most,.slice (some ⟨g,0,none⟩) N N] w fun e w'=>e = .returned (.bool (!anyLong lens most)) /\ Below w.heap.size w w':=by
 have hmf:∀ (fn:Fn) (first cap:Array Value) (w:World),(Instr.makeFunc fn first cap).run Tryz.prog w = .ok (.func fn first cap) w:=fun _ _ _ _=>rfl
 have hA:=below_alloc' w (.cells #[.int .i64 most] 3)
 have hc:(w.alloc (.cells #[.int .i64 most] 3)).cell? ⟨w.heap.size,0,none⟩ = some (.int .i64 most):=by rw [World.cell?_alloc_at _ _ _ _ rfl];rfl
 have HC:=Hd hc
 clear hc
 go_enter Tryz.func13,Tryz.ntmps13
 go_wp2_with fail
 refine (containsQ_any g N lens most w.heap.size _ (h.below hA) hN (by simp) HC.out).mono ?_
 rintro e w1 ⟨rfl,hb1⟩
 go_wp2
 go_ret
 exact ⟨rfl,hA.trans (hb1.mono (by simp))⟩
def OwnRats (w:World) (base:Nat) (v:Value) (xs:List (Int × Int)) (L:Nat) : Prop:=
 ∃ vs,vs.length = xs.length /\ w.ownsRow base 38 4 v xs.length (flat vs) /\ NIrow w v /\ ∀ i,i < xs.length -> Rat w (vs.getD i .nilFunc) (xs.getD i (0,1)).1 (xs.getD i (0,1)).2 L
theorem OwnRats.nil (w:World) (base L:Nat) : OwnRats w base (.slice none 0 0) [] L:=⟨[],rfl,World.ownsRow_nil ..,NIrow.nil w,fun i hi=>absurd hi (by simp)⟩
theorem OwnRats.below {w w':World} {base:Nat} {v:Value} {xs:List (Int × Int)} {L:Nat} (h:OwnRats w base v xs L) (hb:Below w.heap.size w w') : OwnRats w' base v xs L:=by
 obtain ⟨vs,hl,ho,hn,hv⟩:=h
 exact ⟨vs,hl,ownsRow_below ho hb,hn.below hb,fun i hi=>(hv i hi).below hb⟩
theorem flat_snoc4 (vs:List Value) (p q:Bool) (x y:Value) : flat (vs ++ [.agg #[.bool p,x,.bool q,y]]) = flat vs ++ [.bool p,x,.bool q,y]:=by
 simp [flat,Value.cells]
theorem flat_get4:∀ (vs:List Value) (i:Nat),(∀ j,j < vs.length -> ∃ g A n c q B m d,vs.getD j .nilFunc = .agg #[.bool g,.slice A n c,.bool q,.slice B m d]) -> i < vs.length -> ∀ g A n c q B m d,vs.getD i .nilFunc = .agg #[.bool g,.slice A n c,.bool q,.slice B m d] ->
  (flat vs)[4 * i]? = some (.bool g) /\ (flat vs)[4 * i + 1]? = some (.slice A n c) /\ (flat vs)[4 * i + 2]? = some (.bool q) /\ (flat vs)[4 * i + 3]? = some (.slice B m d)
 | [],i,_,hi,_,_,_,_,_,_,_,_,_=>absurd hi (by simp)
 | v :: vs,0,hf,hi,g,A,n,c,q,B,m,d,e=>by
  simp at e
  subst e
  simp [flat,Value.cells]
 | v :: vs,i + 1,hf,hi,g,A,n,c,q,B,m,d,e=>by
  obtain ⟨g0,A0,n0,c0,q0,B0,m0,d0,e0⟩:=hf 0 (by simp)
  simp at e0
  subst e0
  have:=flat_get4 vs i (fun j hj=>by have:=hf (j + 1) (by simpa using hj);simpa using this) (by simpa using hi) g A n c q B m d (by simpa using e)
  rw [show 4 * (i + 1) = 4 * i + 4 from by omega,show 4 * i + 4 + 1 = 4 * i + 1 + 4 from by omega,show 4 * i + 4 + 2 = 4 * i + 2 + 4 from by omega,show 4 * i + 4 + 3 = 4 * i + 3 + 4 from by omega]
  simpa [flat,Value.cells] using this
theorem OwnRats.get {w:World} {base:Nat} {v:Value} {xs:List (Int × Int)} {L:Nat} (h:OwnRats w base v xs L) {i:Nat} (hi:i < xs.length) :
  ∃ b cap g A n c q B m d,v = .slice (some ⟨b,0,none⟩) xs.length cap /\ base <= b /\ b < w.heap.size /\ w.cell? ⟨b,i * 4,none⟩ = some (.bool g) /\ w.cell? ⟨b,i * 4 + 1,none⟩ = some (.slice A n c) /\ w.cell? ⟨b,i * 4 + 2,none⟩ = some (.bool q) /\ w.cell? ⟨b,i * 4 + 3,none⟩ = some (.slice B m d) /\
   Rat w (.agg #[.bool g,.slice A n c,.bool q,.slice B m d]) (xs.getD i (0,1)).1 (xs.getD i (0,1)).2 L:=by
 obtain ⟨vs,hl,ho,hn,hv⟩:=h
 have hform:∀ j,j < vs.length -> ∃ g A n c q B m d,vs.getD j .nilFunc = .agg #[.bool g,.slice A n c,.bool q,.slice B m d]:=fun j hj=>(hv j (by omega)).form
 obtain ⟨g,A,n,c,q,B,m,d,e⟩:=hform i (by omega)
 obtain ⟨f0,f1,f2,f3⟩:=flat_get4 vs i hform (by omega) g A n c q B m d e
 have hvi:=hv i hi
 rw [e] at hvi
 rcases ho.2 with ⟨_,h0⟩ | ⟨b,cap,cur,rfl,hb,hh,hrest⟩
 ·omega
 ·have h0:=ho.cells (g:=b) rfl (4 * i) _ f0
  have h1:=ho.cells (g:=b) rfl (4 * i + 1) _ f1
  have h2:=ho.cells (g:=b) rfl (4 * i + 2) _ f2
  have h3:=ho.cells (g:=b) rfl (4 * i + 3) _ f3
  have hadd:∀ j,(⟨b,0,none⟩ : Addr).add j = ⟨b,j,none⟩:=fun j=>by unfold Addr.add;split <;> simp_all
  rw [hadd] at h0 h1 h2 h3
  exact ⟨b,cap,g,A,n,c,q,B,m,d,rfl,hb,(Array.getElem?_eq_some_iff.1 hh).1,by rw [Nat.mul_comm];exact h0,by rw [Nat.mul_comm];exact h1,by rw [Nat.mul_comm];exact h2,by rw [Nat.mul_comm];exact h3,hvi⟩
theorem OwnRats.snoc {w w':World} {base:Nat} {v v':Value} {xs:List (Int × Int)} {L:Nat} {vs:List Value} {x:Int × Int} {g q:Bool} {A B:Option Addr} {n c m d:Nat} (hl:vs.length = xs.length) (hv:∀ i,i < xs.length -> Rat w (vs.getD i .nilFunc) (xs.getD i (0,1)).1 (xs.getD i (0,1)).2 L) (hz:Rat w (.agg #[.bool g,.slice A n c,.bool q,.slice B m d]) x.1 x.2 L)
  (hni:NIrow w v) (ho:w'.ownsRow base 38 4 v' (xs.length + 1) (flat vs ++ [.bool g,.slice A n c,.bool q,.slice B m d])) (hg:w.grownBy w' v.ownBlock) (hn:NIrow w' v') : OwnRats w' base v' (xs ++ [x]) L:=by
 refine ⟨vs ++ [.agg #[.bool g,.slice A n c,.bool q,.slice B m d]],by simp [hl],?_,hn,fun i hi=>?_⟩
 ·rw [flat_snoc4,List.length_append];exact ho
 ·rw [List.length_append,List.length_singleton] at hi
  by_cases h:i < xs.length
  ·have e1:(vs ++ [Value.agg #[.bool g,.slice A n c,.bool q,.slice B m d]]).getD i .nilFunc = vs.getD i .nilFunc:=by simp [List.getD,List.getElem?_append_left,hl,h]
   have e2:(xs ++ [x]).getD i (0,1) = xs.getD i (0,1):=by simp [List.getD,List.getElem?_append_left,h]
   rw [e1,e2];exact (hv i h).off hni hg
  ·obtain rfl:i = xs.length:=by omega
   have e1:(vs ++ [Value.agg #[.bool g,.slice A n c,.bool q,.slice B m d]]).getD xs.length .nilFunc = .agg #[.bool g,.slice A n c,.bool q,.slice B m d]:=by simp [List.getD,hl]
   have e2:(xs ++ [x]).getD xs.length (0,1) = x:=by simp [List.getD]
   rw [e1,e2];exact hz.off hni hg
def VRat (w:World) (v:Value) (Q P:Int) (L:Nat) : Prop:=∃ N D,Rat w v N D L /\ N * P = Q * D /\ 0 < P
theorem VRat.below {w w':World} {v:Value} {Q P:Int} {L:Nat} (h:VRat w v Q P L) (hb:Below w.heap.size w w') : VRat w' v Q P L:=by
 obtain ⟨N,D,hr,h⟩:=h;exact ⟨N,D,hr.below hb,h⟩
theorem VRat.form {w:World} {v:Value} {Q P:Int} {L:Nat} (h:VRat w v Q P L) : ∃ g1 A1 n1 c1 g2 A2 n2 c2,v = .agg #[.bool g1,.slice A1 n1 c1,.bool g2,.slice A2 n2 c2]:=by
 obtain ⟨N,D,hr,h⟩:=h;exact hr.form
theorem VRat.mono {w:World} {v:Value} {Q P:Int} {L M:Nat} (h:VRat w v Q P L) (hl:L <= M) : VRat w v Q P M:=by
 obtain ⟨N,D,hr,h⟩:=h;exact ⟨N,D,hr.mono hl,h⟩
theorem Rat.d0 {w:World} {v:Value} {n d:Int} {L:Nat} (h:Rat w v n d L) : 0 < d:=by
 obtain ⟨g1,A1,n1,c1,g2,A2,n2,c2,e,h1,h2,h3,h4⟩:=h;exact h3
theorem Rat.v {w:World} {v:Value} {n d:Int} {L:Nat} (h:Rat w v n d L) : VRat w v n d L:=⟨n,d,h,rfl,h.d0⟩
theorem prefix_one (b:UInt8) (l:List UInt8) : List.isPrefixOf [47] (b :: l) = (47 == b):=by simp [List.isPrefixOf]
theorem index_bar:∀ (l r:List UInt8),(∀ b ∈ l,b ≠ 47) -> Lib.index (l ++ 47 :: r) [47] = l.length
 | [],r,_=>by simp [Lib.index]
 | b :: l,r,h=>by
  have hb:b ≠ 47:=h b (by simp)
  have ih:=index_bar l r (fun x hx=>h x (by simp [hx]))
  rw [List.cons_append]
  unfold Lib.index
  rw [prefix_one,if_neg (by simpa using fun e:47 = b=>hb e.symm),ih,if_neg (by simp)]
  simp
theorem index_none:∀ (l:List UInt8),(∀ b ∈ l,b ≠ 47) -> Lib.index l [47] = -1
 | [],_=>by simp [Lib.index]
 | b :: l,h=>by
  have hb:b ≠ 47:=h b (by simp)
  have ih:=index_none l (fun x hx=>h x (by simp [hx]))
  unfold Lib.index
  rw [prefix_one,if_neg (by simpa using fun e:47 = b=>hb e.symm),ih,if_pos (by simp)]
theorem cut_none {T:ByteArray} (h:∀ b ∈ T.data.toList,b ≠ 47) : bs (topOf T) = bs T /\ hasBar T = false:=by
 unfold topOf hasBar Lib.cut
 rw [index_none _ h,if_neg (by decide)]
 exact ⟨by simp [bs],rfl⟩
theorem QText.err {R n d err:Int} {T:ByteArray} (h0:2 <= R) (h1:R <= 36) (h:QText R n d T err) : err = 0:=by
 obtain ⟨T1,ht1,_⟩:=h
 exact (ht1.of h0 h1).1
theorem QText.det {R n d e1 e2:Int} {S T:ByteArray} (h:QText R n d S e1) (g:QText R n d T e2) : S = T:=by
 obtain ⟨T1,a1,h⟩:=h
 obtain ⟨T2,a2,g⟩:=g
 obtain ⟨rfl,rfl⟩:=a1.det a2
 rcases h with ⟨h0,rfl⟩ | ⟨h0,h1,S2,b1,rfl⟩ <;> rcases g with ⟨g0,rfl⟩ | ⟨g0,g1,U2,b2,rfl⟩
 ·rfl
 ·rcases h0 with h0 | h0
  ·exact absurd g0 h0
  ·exact absurd h0 g1
 ·rcases g0 with g0 | g0
  ·exact absurd h0 g0
  ·exact absurd g0 h1
 ·rw [(b1.det b2).1]
theorem Rat.bound {w:World} {v:Value} {n d:Int} {L:Nat} (h:Rat w v n d L) (hL:1 <= L) : (if n < 0 then -n else n) < BB ^ L /\ (if d < 0 then -d else d) < BB ^ L:=by
 obtain ⟨g1,A1,n1,c1,g2,A2,n2,c2,e,h1,h2,h3,h4⟩:=h
 refine ⟨ival_lt h1,?_⟩
 have:=ival_lt h2
 unfold dn at this
 rw [if_neg (by omega:¬ d < 0)]
 split at this
 ·have hp:(1:Int) < BB ^ L:=by
   obtain ⟨m,rfl⟩ : ∃ m,L = m + 1:=⟨L - 1,by omega⟩
   have:(0:Int) < BB ^ m:=Int.pow_pos (by decide)
   have hB:BB = 4294967296:=rfl
   have h5:=Int.mul_le_mul_of_nonneg_right (show 1 <= BB ^ m by omega) (show 0 <= BB by decide)
   rw [Int.pow_succ]
   omega
  omega
 ·rw [if_neg (by omega)] at this;exact this
theorem pow_nat {z n:Int} (h:0 <= n) : powV z n = z ^ n.toNat:=if_neg (by omega)
def IsRoot (x r:Int) : Prop:=0 <= r /\ r * r <= x /\ x < (r + 1) * (r + 1)
theorem IsRoot.same {x r s:Int} (h:IsRoot x r) (g:IsRoot x s) : r = s:=by
 obtain ⟨h0,h1,h2⟩:=h
 obtain ⟨g0,g1,g2⟩:=g
 have key:∀ a b:Int,0 <= a -> 0 <= b -> a * a <= x -> x < (b + 1) * (b + 1) -> a <= b:=by
  intro a b ha hb h1 h2
  refine Int.not_lt.1 fun hlt=>?_
  have h3:(b + 1) * (b + 1) <= a * a:=Int.mul_le_mul (by omega) (by omega) (by omega) ha
  omega
 exact Int.le_antisymm (key r s h0 g0 h1 g2) (key s r g0 h0 g1 h2)
theorem RBox.mono {w:World} {b:Nat} {z:Int} {L M:Nat} (h:RBox w b z L) (hm:L <= M) : RBox w b z M:=by
 obtain ⟨g,A,n,c,h1,h2,h3,h4,h5,h6⟩:=h
 exact ⟨g,A,n,c,h1,h2,h3,h4,h5,h6.mono hm⟩
def RootAt (x:Int) (j:Nat) (r:Int) : Prop:=0 <= r /\ r * r <= x /\ x < (r + 2 ^ j) * (r + 2 ^ j)
theorem RootAt.start {x:Int} (h0:0 <= x) {d:Nat} (hd:x < 2 ^ d) : RootAt x (d / 2 + 1) 0:=by
 refine ⟨Int.le_refl _,by omega,?_⟩
 have h1:=two_mono (show d <= (d / 2 + 1) + (d / 2 + 1) by omega)
 rw [Int.pow_add] at h1
 rw [Int.zero_add]
 omega
theorem RootAt.low {x:Int} {j:Nat} {r:Int} (h:RootAt x (j + 1) r) (hc:x < (r + 2 ^ j) * (r + 2 ^ j)) : RootAt x j r:=⟨h.1,h.2.1,hc⟩
theorem RootAt.high {x:Int} {j:Nat} {r:Int} (h:RootAt x (j + 1) r) (hc:(r + 2 ^ j) * (r + 2 ^ j) <= x) : RootAt x j (r + 2 ^ j):=by
 have:=two_pos j
 refine ⟨by have:=h.1;omega,hc,?_⟩
 have h3:=h.2.2
 rw [Int.pow_succ] at h3
 rw [show r + 2 ^ j + 2 ^ j = r + 2 ^ j * 2 by omega]
 exact h3
theorem RootAt.done {x r:Int} (h:RootAt x 0 r) : IsRoot x r:=⟨h.1,h.2.1,by have:=h.2.2;rwa [Int.pow_zero] at this⟩
theorem Num.cut {w:World} {u:Value} {z:Int} {L K:Nat} (h:Num w u z L) (hz:z < BB ^ K) : Num w u z K:=by
 obtain ⟨A,n,c,xs,rfl,hr,hd,ht,rfl,hn⟩:=h
 refine ⟨A,n,c,xs,rfl,hr,hd,ht,rfl,?_⟩
 by_cases h0:n = 0
 ·omega
 ·have h1:=val_ge hd ht (by rw [hr.1];exact h0)
  by_cases h2:n <= K
  ·exact h2
  ·exfalso
   have h3:BB ^ K <= BB ^ (xs.length - 1):=pow_le (by rw [hr.1];omega)
   omega
def RootOf (x r:Int) : Prop:=(x < 0 /\ r = 0) \/ (0 <= x /\ IsRoot x r)
theorem RootOf.same {x r s:Int} (h:RootOf x r) (g:RootOf x s) : r = s:=by
 rcases h with ⟨h1,h2⟩ | ⟨h1,h2⟩ <;> rcases g with ⟨g1,g2⟩ | ⟨g1,g2⟩
 ·omega
 ·omega
 ·omega
 ·exact h2.same g2
theorem cmp_one (d:Int) : (cmpI d 1 == 0) = decide (d = 1):=by
 by_cases h:d = 1
 ·rw [cmpI_eq h,decide_eq_true h];rfl
 ·rw [decide_eq_false h];simpa using (fun e=>h (cmpI_zero e) : cmpI d 1 ≠ 0)
theorem RQ.parts {w:World} {g1 g2:Bool} {A1 A2:Option Addr} {n1 c1 n2 c2:Nat} {n d:Int} {L:Nat} (h:RQ w (.agg #[.bool g1,.slice A1 n1 c1,.bool g2,.slice A2 n2 c2]) n d L) :
  Rval w (.agg #[.bool g1,.slice A1 n1 c1]) n L /\ Rval w (.agg #[.bool g2,.slice A2 n2 c2]) d L /\ 0 < d /\ Int.gcd n d = 1:=by
 obtain ⟨g1',A1',n1',c1',g2',A2',n2',c2',e,h1,h2,h3,h4⟩:=h
 injection e with e
 injection e with e
 simp at e
 obtain ⟨⟨⟩,⟨rfl,rfl,rfl⟩,⟨⟩,⟨rfl,rfl,rfl⟩⟩:=e
 exact ⟨h1,h2,h3,h4⟩
def RQRes (L:Nat) (n d:Int) (w:World) (e:Ending) (w':World) : Prop:=
 (∃ g1 A1 n1 c1 g2 A2 n2 c2,e = .returned (.agg #[.bool g1,.slice A1 n1 c1,.bool g2,.slice A2 n2 c2]) /\ RQ w' (.agg #[.bool g1,.slice A1 n1 c1,.bool g2,.slice A2 n2 c2]) n d L) /\ Below w.heap.size w w'
theorem rWhole_q (v:Value) (n d:Int) (L:Nat) (w:World) (h:RQ w v n d L) (hL:L <= 100000) :
  Calls Tryz.prog 23 #[v] w fun e w'=>e = .returned (.bool (decide (d = 1))) /\ Below w.heap.size w w':=by
 obtain ⟨g1,A1,n1,c1,e1,E1,m1,d1,rfl⟩:=h.form
 have hw:=below_alloc w (.cells #[.bool g1,.slice A1 n1 c1,.bool e1,.slice E1 m1 d1] 43)
 have B0:=Hd (Fx4.new w (.bool g1) (.slice A1 n1 c1) (.bool e1) (.slice E1 m1 d1) 43)
 have X:=Hd (h.parts.1.below hw)
 have Y:=Hd (h.parts.2.1.below hw)
 have hd:=h.parts.2.2.1
 have hco:=h.parts.2.2.2
 clear h
 obtain ⟨W0,hW0⟩ : ∃ W0,w.alloc (.cells #[.bool g1,.slice A1 n1 c1,.bool e1,.slice E1 m1 d1] 43) = W0:=⟨_,rfl⟩
 rw [hW0] at hw B0 X Y
 go_enter Tryz.func23,Tryz.ntmps23
 go_upto_region 1 with fail
 clear hW0
 have HT:=Hd (fun (w':World) (hb:Below W0.heap.size W0 w')=>(show w'.cell? ⟨w.heap.size,0,none⟩ = some (.bool g1) /\ w'.cell? ⟨w.heap.size,1,none⟩ = some (.slice A1 n1 c1) /\ w'.cell? ⟨w.heap.size,2,none⟩ = some (.bool e1) /\ w'.cell? ⟨w.heap.size,3,none⟩ = some (.slice E1 m1 d1) from ⟨(B0.out.below hb).c0,(B0.out.below hb).c1,(B0.out.below hb).c2,(B0.out.below hb).c3⟩))
 have hB:=(Below.refl W0.heap.size W0).drew
 replace X:=Hd (X.out.below hB)
 replace Y:=Hd (Y.out.below hB)
 refine wp_region_held_drew (S:=fun w'=>w'.cell? ⟨w.heap.size,0,none⟩ = some (.bool g1) /\ w'.cell? ⟨w.heap.size,1,none⟩ = some (.slice A1 n1 c1) /\ w'.cell? ⟨w.heap.size,2,none⟩ = some (.bool e1) /\ w'.cell? ⟨w.heap.size,3,none⟩ = some (.slice E1 m1 d1)) (by kernel_rfl) (HT.out _ hB) (fun hH=>?_)
 clear hH
 generalize W0.drew = wr0 at *
 refine tk 0 3 (by first | assumption | exact HT.out _ hB) ?_
 try simp only [Act.put,tA,cZ,cS]
 refine tk 1 4 (by first | assumption | exact HT.out _ hB) ?_
 try simp only [Act.put,tA,cZ,cS]
 refine rd 2 (AllReadyH.cons rfl (fun K hK=>?_) AllReadyH.nil)
 (try simp only [gA]);(try simp only [gS]);(try simp only [gZ])
 go_simp
 (go_at_call 82;refine (one_any _).mono ?_;rintro e wc1 ⟨⟨gt1,At1,nt1,ct1,rfl,hz⟩,hb⟩)
 replace X:=Hd (X.out.below hb)
 replace Y:=Hd (Y.out.below hb)
 replace hB:=Below.trans hB (hb.mono hB.size)
 have T1:=Hd hz
 refine hK.out _ _ (HT.out _ hB) (fun hH=>?_)
 clear hK K hH
 try simp only [Act.put,tA,cZ,cS]
 clear hb hz
 refine rd 3 (AllReadyH.cons rfl (fun K hK=>?_) AllReadyH.nil)
 (try simp only [gA]);(try simp only [gS]);(try simp only [gZ])
 go_simp
 (go_at_call 83;refine (rcmp_any _ _ d 1 L 64 _ Y.out T1.out (by omega) (by omega)).mono ?_;rintro e wc2 ⟨rfl,hb⟩)
 replace X:=Hd (X.out.below hb)
 replace Y:=Hd (Y.out.below hb)
 replace T1:=Hd (T1.out.below hb)
 replace hB:=Below.trans hB (hb.mono hB.size)
 refine hK.out _ _ (HT.out _ hB) (fun hH=>?_)
 clear hK K hH
 try simp only [Act.put,tA,cZ,cS]
 clear hb
 refine tk 4 7 (by first | assumption | exact HT.out _ hB) ?_
 try simp only [Act.put,tA,cZ,cS]
 refine tk 5 2 (by first | assumption | exact HT.out _ hB) ?_
 try simp only [Act.put,tA,cZ,cS]
 refine wpAnyH_done (by kernel_rfl) ?_ _
 replace B0:=Hd (B0.out.below hB)
 replace hw:=hw.trans (hB.mono hw.size)
 go_wp2
 go_ret
 exact ⟨congrArg Ending.returned (congrArg Value.bool (cmp_one d)),hw⟩
theorem RQ.pos {w:World} {v:Value} {n d:Int} {L:Nat} (h:RQ w v n d L) : 0 < d:=by
 obtain ⟨_,_,_,_,_,_,_,_,_,_,_,h3,_⟩:=h;exact h3
theorem Is_q (u v:Value) (n d:Int) (L M:Nat) (w:World) (h:Rat w u n d L) (g:RQ w v n d M) (hL2:2 <= L) (hL:L <= 1000000) (hM:M <= 1000000) :
  Calls Tryz.prog 19 #[u,v] w fun e w'=>e = .returned (.bool true) /\ Below w.heap.size w w':=by
 obtain ⟨g1,A1,n1,c1,e1,E1,m1,d1,rfl⟩:=h.form
 obtain ⟨g2,A2,n2,c2,e2,E2,m2,d2,rfl⟩:=g.form
 obtain ⟨W1,hW1⟩ : ∃ W1,w.alloc (.cells #[.bool g1,.slice A1 n1 c1,.bool e1,.slice E1 m1 d1] 38) = W1:=⟨_,rfl⟩
 have F0:=Fx4.new w (.bool g1) (.slice A1 n1 c1) (.bool e1) (.slice E1 m1 d1) 38
 have hw0:=below_alloc w (.cells #[.bool g1,.slice A1 n1 c1,.bool e1,.slice E1 m1 d1] 38)
 have hs1:(w.alloc (.cells #[.bool g1,.slice A1 n1 c1,.bool e1,.slice E1 m1 d1] 38)).heap.size = w.heap.size + 1:=by simp
 rw [hW1] at F0 hw0 hs1
 have hX:=below_alloc W1 (.cells #[.bool g2,.slice A2 n2 c2,.bool e2,.slice E2 m2 d2] 43)
 have F1:=Fx4.new W1 (.bool g2) (.slice A2 n2 c2) (.bool e2) (.slice E2 m2 d2) 43
 rw [hs1] at F1
 have hw:=hw0.trans (hX.mono hw0.size)
 have X:=Hd (h.below hw)
 have Y1:=Hd (g.parts.1.below hw)
 have Y2:=Hd (g.parts.2.1.below hw)
 have B0:=Hd (F0.below hX)
 have B1:=Hd F1
 obtain ⟨W0,hW0⟩ : ∃ W0,W1.alloc (.cells #[.bool g2,.slice A2 n2 c2,.bool e2,.slice E2 m2 d2] 43) = W0:=⟨_,rfl⟩
 rw [hW0] at hw X Y1 Y2 B0 B1
 clear F0 F1 hX hw0 h g
 go_enter Tryz.func19,Tryz.ntmps19
 go_upto_region 1 with fail
 clear hW0 hW1 hs1
 have HT:=Hd (fun (w':World) (hb:Below W0.heap.size W0 w')=>(show w'.cell? ⟨w.heap.size,0,none⟩ = some (.bool g1) /\ w'.cell? ⟨w.heap.size,1,none⟩ = some (.slice A1 n1 c1) /\ w'.cell? ⟨w.heap.size,2,none⟩ = some (.bool e1) /\ w'.cell? ⟨w.heap.size,3,none⟩ = some (.slice E1 m1 d1) /\ w'.cell? ⟨(w.heap.size + 1),0,none⟩ = some (.bool g2) /\ w'.cell? ⟨(w.heap.size + 1),1,none⟩ = some (.slice A2 n2 c2) /\ w'.cell? ⟨(w.heap.size + 1),2,none⟩ = some (.bool e2) /\ w'.cell? ⟨(w.heap.size + 1),3,none⟩ = some (.slice E2 m2 d2) from ⟨(B0.out.below hb).c0,(B0.out.below hb).c1,(B0.out.below hb).c2,(B0.out.below hb).c3,(B1.out.below hb).c0,(B1.out.below hb).c1,(B1.out.below hb).c2,(B1.out.below hb).c3⟩))
 have hB:=(Below.refl W0.heap.size W0).drew
 replace X:=Hd (X.out.below hB)
 replace Y1:=Hd (Y1.out.below hB)
 replace Y2:=Hd (Y2.out.below hB)
 refine wp_region_held_drew (S:=fun w'=>w'.cell? ⟨w.heap.size,0,none⟩ = some (.bool g1) /\ w'.cell? ⟨w.heap.size,1,none⟩ = some (.slice A1 n1 c1) /\ w'.cell? ⟨w.heap.size,2,none⟩ = some (.bool e1) /\ w'.cell? ⟨w.heap.size,3,none⟩ = some (.slice E1 m1 d1) /\ w'.cell? ⟨(w.heap.size + 1),0,none⟩ = some (.bool g2) /\ w'.cell? ⟨(w.heap.size + 1),1,none⟩ = some (.slice A2 n2 c2) /\ w'.cell? ⟨(w.heap.size + 1),2,none⟩ = some (.bool e2) /\ w'.cell? ⟨(w.heap.size + 1),3,none⟩ = some (.slice E2 m2 d2)) (by kernel_rfl) (HT.out _ hB) (fun hH=>?_)
 clear hH
 generalize W0.drew = wr0 at *
 refine tk 0 5 (by first | assumption | exact HT.out _ hB) ?_
 try simp only [Act.put,tA,cZ,cS]
 refine tk 2 7 (by first | assumption | exact HT.out _ hB) ?_
 try simp only [Act.put,tA,cZ,cS]
 refine tk 3 8 (by first | assumption | exact HT.out _ hB) ?_
 try simp only [Act.put,tA,cZ,cS]
 refine rd 1 (AllReadyH.cons rfl (fun K hK=>?_) AllReadyH.nil)
 (try simp only [gA]);(try simp only [gS]);(try simp only [gZ])
 go_simp
 (go_at_call 68;refine (Numerator_any _ n d L _ X.out).mono ?_;rintro e wc1 ⟨⟨gt1,At1,nt1,ct1,rfl,hz⟩,hb⟩)
 replace X:=Hd (X.out.below hb)
 replace Y1:=Hd (Y1.out.below hb)
 replace Y2:=Hd (Y2.out.below hb)
 replace hB:=Below.trans hB (hb.mono hB.size)
 have T1:=Hd hz
 refine hK.out _ _ (HT.out _ hB) (fun hH=>?_)
 clear hK K hH
 try simp only [Act.put,tA,cZ,cS]
 clear hb hz
 refine rd 4 (AllReadyH.cons rfl (fun K hK=>?_) AllReadyH.nil)
 (try simp only [gA]);(try simp only [gS]);(try simp only [gZ])
 go_simp
 (go_at_call 48;refine (is_yes _ _ n L M _ T1.out Y1.out (by omega) (by omega)).mono ?_;rintro e wc2 ⟨rfl,hb⟩)
 replace X:=Hd (X.out.below hb)
 replace Y1:=Hd (Y1.out.below hb)
 replace Y2:=Hd (Y2.out.below hb)
 replace T1:=Hd (T1.out.below hb)
 replace hB:=Below.trans hB (hb.mono hB.size)
 refine hK.out _ _ (HT.out _ hB) (fun hH=>?_)
 clear hK K hH
 try simp only [Act.put,tA,cZ,cS]
 clear hb
 refine tk 5 10 (by first | assumption | exact HT.out _ hB) ?_
 try simp only [Act.put,tA,cZ,cS]
 refine tk 6 11 (by first | assumption | exact HT.out _ hB) ?_
 try simp only [Act.put,tA,cZ,cS]
 refine tk 8 13 (by first | assumption | exact HT.out _ hB) ?_
 try simp only [Act.put,tA,cZ,cS]
 refine tk 9 14 (by first | assumption | exact HT.out _ hB) ?_
 try simp only [Act.put,tA,cZ,cS]
 refine rd 7 (AllReadyH.cons rfl (fun K hK=>?_) AllReadyH.nil)
 (try simp only [gA]);(try simp only [gS]);(try simp only [gZ])
 go_simp
 (go_at_call 67;refine (Denominator_any _ n d L _ X.out hL2).mono ?_;rintro e wc3 ⟨⟨gt2,At2,nt2,ct2,rfl,hz⟩,hb⟩)
 replace X:=Hd (X.out.below hb)
 replace Y1:=Hd (Y1.out.below hb)
 replace Y2:=Hd (Y2.out.below hb)
 replace T1:=Hd (T1.out.below hb)
 replace hB:=Below.trans hB (hb.mono hB.size)
 have T2:=Hd hz
 refine hK.out _ _ (HT.out _ hB) (fun hH=>?_)
 clear hK K hH
 try simp only [Act.put,tA,cZ,cS]
 clear hb hz
 refine rd 10 (AllReadyH.cons rfl (fun K hK=>?_) AllReadyH.nil)
 (try simp only [gA]);(try simp only [gS]);(try simp only [gZ])
 go_simp
 (go_at_call 48;refine (is_yes _ _ d L M _ T2.out Y2.out (by omega) (by omega)).mono ?_;rintro e wc4 ⟨rfl,hb⟩)
 replace X:=Hd (X.out.below hb)
 replace Y1:=Hd (Y1.out.below hb)
 replace Y2:=Hd (Y2.out.below hb)
 replace T1:=Hd (T1.out.below hb)
 replace T2:=Hd (T2.out.below hb)
 replace hB:=Below.trans hB (hb.mono hB.size)
 refine hK.out _ _ (HT.out _ hB) (fun hH=>?_)
 clear hK K hH
 try simp only [Act.put,tA,cZ,cS]
 clear hb
 refine tk 11 16 (by first | assumption | exact HT.out _ hB) ?_
 try simp only [Act.put,tA,cZ,cS]
 refine tk 12 4 (by first | assumption | exact HT.out _ hB) ?_
 try simp only [Act.put,tA,cZ,cS]
 refine wpAnyH_done (by kernel_rfl) ?_ _
 replace B0:=Hd (B0.out.below hB)
 replace B1:=Hd (B1.out.below hB)
 replace hw:=hw.trans (hB.mono hw.size)
 go_wp2
 go_ret
 exact ⟨rfl,hw⟩
theorem p16_le {i j:Nat} (h:i <= j) : (65536:Int) ^ i <= 65536 ^ j:=by
 obtain ⟨B,hB⟩ : ∃ B:Nat,65536 = B:=⟨_,rfl⟩
 have hc:(65536:Int) = (B:Int):=by omega
 rw [hc]
 have:=Nat.pow_le_pow_right (show 0 < B by omega) h
 exact_mod_cast this
theorem Rval.tight {w:World} {v:Value} {z:Int} {L K:Nat} (h:Rval w v z L) (hz:(z.natAbs:Int) < 65536 ^ K) : Rval w v z K:=by
 obtain ⟨neg,A,n,c,ds,e,hr,hd,ht,hs,hneg,hn⟩:=h
 refine ⟨neg,A,n,c,ds,e,hr,hd,ht,hs,hneg,?_⟩
 by_cases h0:n = 0
 ·omega
 ·have h1:=valR_ge hd ht (by rw [hr.1];exact h0)
  by_cases h2:n <= K
  ·exact h2
  ·exfalso
   have h3:(65536:Int) ^ K <= 65536 ^ (ds.length - 1):=p16_le (by rw [hr.1];omega)
   have h4:0 <= valR 65536 ds:=valR_nonneg (by decide) hd
   have h5:(z.natAbs:Int) = valR 65536 ds:=by
    cases neg <;> simp [withSign] at hs <;> omega
   omega
theorem Rval.lt_pow {w:World} {v:Value} {z:Int} {L:Nat} (h:Rval w v z L) : (z.natAbs:Int) < 65536 ^ L:=by
 obtain ⟨neg,A,n,c,ds,e,hr,hd,ht,hs,hneg,hn⟩:=h
 have h1:=valR_lt (R:=65536) (by decide) hd
 have h3:(65536:Int) ^ ds.length <= 65536 ^ L:=p16_le (by rw [hr.1];exact hn)
 have h4:0 <= valR 65536 ds:=valR_nonneg (by decide) hd
 have h5:(z.natAbs:Int) = valR 65536 ds:=by
  cases neg <;> simp [withSign] at hs <;> omega
 omega
theorem RQ.tight {w:World} {v:Value} {n d:Int} {L K:Nat} (h:RQ w v n d L) (hn:(n.natAbs:Int) < 65536 ^ K) (hd:(d.natAbs:Int) < 65536 ^ K) : RQ w v n d K:=by
 obtain ⟨g1,A1,n1,c1,g2,A2,n2,c2,e,h1,h2,h3⟩:=h
 exact ⟨g1,A1,n1,c1,g2,A2,n2,c2,e,h1.tight hn,h2.tight hd,h3⟩
theorem unit_even {a:Int} (h:a = 1 \/ a = -1) {p q:Nat} (hp:p % 2 = q % 2) : a ^ p = a ^ q:=by
 have ha:a ^ 2 = 1:=by rcases h with rfl | rfl <;> rfl
 have key:∀ r:Nat,a ^ r = a ^ (r % 2):=fun r=>by
  have e:r = 2 * (r / 2) + r % 2:=by omega
  have h1:a ^ r = a ^ (2 * (r / 2) + r % 2):=congrArg (fun t=>a ^ t) e
  rw [h1,Int.pow_add,Int.pow_mul,ha,Int.one_pow,Int.one_mul]
 rw [key p,key q,hp]
def PowOk (n d k:Int) : Prop:=(-40 <= k /\ k <= 40) \/ (-1 <= n /\ n <= 1 /\ d = 1)
theorem PowOk.unit {n d k:Int} (h:PowOk n d k) (hk:¬ (-40 <= k /\ k <= 40)) (hn:n ≠ 0) : (upN d n = 1 \/ upN d n = -1) /\ upN n n = 1:=by
 rcases h with h | ⟨h1,h2,rfl⟩
 ·exact absurd h hk
 ·rcases (show n = 1 \/ n = -1 by omega) with rfl | rfl
  ·exact ⟨Or.inl rfl,rfl⟩
  ·exact ⟨Or.inr rfl,rfl⟩
theorem PowOk.up {n d k kk:Int} (h:PowOk n d k) (hn:n ≠ 0) (hkk:kk <= 40 \/ ¬ (-40 <= k /\ k <= 40)) : (kk <= 40 \/ -1 <= upN d n /\ upN d n <= 1) /\ (kk <= 40 \/ -1 <= upN n n /\ upN n n <= 1):=by
 rcases hkk with h0 | h0
 ·exact ⟨Or.inl h0,Or.inl h0⟩
 ·obtain ⟨h1,h2⟩:=h.unit h0 hn
  exact ⟨Or.inr (by omega),Or.inr (by omega)⟩
theorem PowOk.same {n d k kk:Int} (h:PowOk n d k) (hn:n ≠ 0) (h0:0 <= kk) (hkk:kk.toNat = k.natAbs \/ (¬ (-40 <= k /\ k <= 40) /\ kk.toNat % 2 = k.natAbs % 2)) : powV (upN d n) kk = upN d n ^ k.natAbs /\ powV (upN n n) kk = upN n n ^ k.natAbs:=by
 rw [pow_nat h0,pow_nat h0]
 rcases hkk with e | ⟨h1,h2⟩
 ·rw [e];exact ⟨rfl,rfl⟩
 ·obtain ⟨h3,h4⟩:=h.unit h1 hn
  exact ⟨unit_even h3 h2,unit_even (Or.inl h4) h2⟩
end Go.Proofs.YtbajnceoolkckaaGreat
