/- Of the proof of RationalRounds: RatM. -/
import Derived.Test.YtbajnceoolkckaaGreatRd23
set_option maxRecDepth 100000
set_option maxHeartbeats 16000000
namespace Go.Proofs.YtbajnceoolkckaaGreat
open Go.RowKit LM
def NoInt (x:Value) : Prop:=∀ k d,x ≠ .int k d
def NIrow (w:World) (v:Value) : Prop:=∀ g,v.ownBlock = some g -> ∃ cur e fr,w.heap[g]? = some (.cells cur e fr) /\ ∀ x ∈ cur.toList,NoInt x
theorem NIrow.below {w w':World} {v:Value} (h:NIrow w v) (hb:Below w.heap.size w w') : NIrow w' v:=fun g hg=>by
 obtain ⟨cur,e,fr,hh,hc⟩:=h g hg
 exact ⟨cur,e,fr,(hb.block g (Array.getElem?_eq_some_iff.1 hh).1).trans hh,hc⟩
theorem NIrow.nil (w:World) : NIrow w (.slice none 0 0):=fun g hg=>by simp [Value.ownBlock] at hg
theorem Row.off {w w':World} {v:Value} {A:Option Addr} {n c:Nat} {xs:List Int} (h:Row .u32 w A n c xs) (hn:NIrow w v) (hg:w.grownBy w' v.ownBlock) : Row .u32 w' A n c xs:=by
 refine ⟨h.1,h.2.1,fun h0=>?_⟩
 obtain ⟨b,o,hA,hlt,hc⟩:=h.2.2 h0
 have hne:some b ≠ v.ownBlock:=fun e=>by
  obtain ⟨cur,e',fr,hh,hni⟩:=hn b e.symm
  have h1:=hc 0 (by omega)
  rw [cell_of_row w b (o + 0) cur e' fr hh] at h1
  have h2:(Value.int .u32 (xs.getD 0 0)) ∈ cur.toList:=by
   obtain ⟨hi,he⟩:=Array.getElem?_eq_some_iff.1 h1
   rw [<- he];exact Array.mem_toList_iff.2 (Array.getElem_mem hi)
  exact hni _ h2 _ _ rfl
 exact ⟨b,o,hA,Nat.lt_of_lt_of_le hlt hg.size,fun i hi=>(World.cell?_of_block (a:=⟨b,o + i,none⟩) (hg.block b hlt hne)).trans (hc i hi)⟩
theorem Num.off {w w':World} {v u:Value} {z:Int} {L:Nat} (h:Num w u z L) (hn:NIrow w v) (hg:w.grownBy w' v.ownBlock) : Num w' u z L:=by
 obtain ⟨A,n,c,xs,e,hr,r⟩:=h
 exact ⟨A,n,c,xs,e,hr.off hn hg,r⟩
theorem Ival.off {w w':World} {v u:Value} {z:Int} {L:Nat} (h:Ival w u z L) (hn:NIrow w v) (hg:w.grownBy w' v.ownBlock) : Ival w' u z L:=by
 obtain ⟨neg,s,a,e,hm,r⟩:=h
 exact ⟨neg,s,a,e,hm.off hn hg,r⟩
theorem Rat.off {w w':World} {v u:Value} {n d:Int} {L:Nat} (h:Rat w u n d L) (hn:NIrow w v) (hg:w.grownBy w' v.ownBlock) : Rat w' u n d L:=by
 obtain ⟨g1,A1,n1,c1,g2,A2,n2,c2,e,h1,h2,r⟩:=h
 exact ⟨g1,A1,n1,c1,g2,A2,n2,c2,e,h1.off hn hg,h2.off hn hg,r⟩
theorem Fx.off {w w':World} {v:Value} {b:Nat} {x y:Value} (h:Fx w b x y) (hne:v.ownBlock ≠ some b) (hg:w.grownBy w' v.ownBlock) : Fx w' b x y:=by
 have hb:=hg.block b h.2.2.2.2 (fun e=>hne e.symm)
 refine ⟨(World.cell?_of_block (a:=⟨b,0,none⟩) hb).trans h.1,(World.cell?_of_block (a:=⟨b,1,none⟩) hb).trans h.2.1,(World.frozen?_of_block (a:=⟨b,0,none⟩) hb).trans h.2.2.1,(World.frozen?_of_block (a:=⟨b,1,none⟩) hb).trans h.2.2.2.1,Nat.lt_of_lt_of_le h.2.2.2.2 hg.size⟩
theorem IBox.off {w w':World} {v:Value} {b:Nat} {z:Int} {L:Nat} (h:IBox w b z L) (hne:v.ownBlock ≠ some b) (hn:NIrow w v) (hg:w.grownBy w' v.ownBlock) : IBox w' b z L:=by
 obtain ⟨g,A,n,c,F,V⟩:=h
 exact ⟨g,A,n,c,F.off hne hg,V.off hn hg⟩
theorem mem_zeroCells {z:Array Value} {n:Nat} {x:Value} (h:x ∈ (Builtin.zeroCells z n).toList) : x ∈ z.toList:=by
 simp [Builtin.zeroCells] at h
 obtain ⟨k,hk,rfl⟩:=h
 have h0:0 < z.size:=by
  rcases Nat.eq_zero_or_pos z.size with h | h
  ·rw [h] at hk;simp at hk
  ·exact h
 have h1:k % z.size < z.size:=Nat.mod_lt _ h0
 rw [getElem!_pos z _ h1]
 exact Array.mem_toList_iff.2 (Array.getElem_mem h1)
section
variable {P:Program}
theorem run_append_ni (w:World) (base:Nat) (t ty e:TypeId) (i:TypeInfo) (z:Value) (size bytes:Nat) (ht:P.underlying t = some (.slice e)) (hi:P.info? e = some i) (hz:i.zero = some z)
  (hsize:i.size = size) (hby:i.bytes = bytes) (hzs:z.cells.size = size) (hsz:0 < size)
  (v:Value) (n:Nat) (xs:List Value) (hown:w.ownsRow base e size v n xs)
  (a:Addr) (m c:Nat) (news:List Value) (hl:news.length = m * size) (hnews:∀ j u,news[j]? = some u -> w.cell? (a.add j) = some u) (h1:∀ u ∈ news,u.oneCell' = true)
  (h63:n + m <= maxLen) (hbytes:(n + m) * bytes <= 140737488355328) (hbase:base <= w.heap.size)
  (hni:NIrow w v) (hzn:∀ x ∈ z.cells.toList,NoInt x) (hnn:∀ x ∈ news,NoInt x) :
  ∃ v' w',(Builtin.append_ #[t,t] ty #[v,.slice (some a) m c]).run P w = .ok v' w' /\ w'.ownsRow base e size v' (n + m) (xs ++ news) /\ w.grownBy w' v.ownBlock /\ NIrow w' v':=by
 obtain ⟨v',w',hr,ho,hg,h0⟩:=run_append_own (P:=P) w base t ty e i z size bytes ht hi hz hsize hby hzs hsz v n xs hown a m c news hl hnews h1 h63 hbytes hbase
 refine ⟨v',w',hr,ho,hg,?_⟩
 subst hsize
 subst hby
 have hsmall:n + m <= 9223372036854775807:=by simp only [maxLen] at h63;omega
 by_cases hm:m = 0
 ·subst hm
  have hn:news = []:=List.eq_nil_of_length_eq_zero (by simpa using hl)
  subst hn
  rcases hown.2 with ⟨rfl,rfl⟩ | ⟨g,cap,cur,rfl,hbg,hgg,hnc,hcm,hcs,htake⟩
  ·have:=(h0.2 ⟨rfl,rfl⟩);subst this;exact NIrow.nil _
  ·have hfit:n * i.size + ([] : List Value).length <= cur.size:=by rw [hcs];simpa using Nat.mul_le_mul_right _ hnc
   have hr2:=run_append_room (P:=P) w t ty e i ht hi g n cap cur hgg a 0 c [] (by simp) hnews h1 (by omega) hfit
   rw [hr] at hr2
   injection hr2 with e1 e2
   subst e1 e2
   intro g' hg'
   simp [Value.ownBlock] at hg'
   subst hg'
   obtain ⟨cur0,e0,fr0,hh,hc⟩:=hni g (by simp [Value.ownBlock])
   rw [hgg] at hh
   simp at hh
   obtain ⟨rfl,rfl,rfl⟩:=hh
   refine ⟨_,_,_,setRow_heap w g cur _ e _ hgg,fun x hx=>hc x ?_⟩
   simpa using hx
 rcases hown.2 with ⟨rfl,rfl⟩ | ⟨g,cap,cur,rfl,hbg,hgg,hnc,hcm,hcs,htake⟩
 ·have hx:xs = []:=List.eq_nil_of_length_eq_zero (by simpa using hown.1)
  subst hx
  have hr2:=run_append_nil (P:=P) w t ty e i z ht hi hz a m c news hl hnews (by omega) (by omega) (by have hb:=hbytes;simp only [Nat.zero_add] at hb;omega)
  rw [hr] at hr2
  injection hr2 with e1 e2
  subst e1 e2
  intro g' hg'
  simp [Value.ownBlock] at hg'
  subst hg'
  refine ⟨_,_,_,heap_alloc_new w.drew _,fun x hx=>?_⟩
  simp only [Array.toList_append,List.mem_append] at hx
  rcases hx with hx | hx
  ·exact hnn x (by simpa using hx)
  ·exact hzn x (mem_zeroCells hx)
 ·obtain ⟨cur0,e0,fr0,hh,hc⟩:=hni g (by simp [Value.ownBlock])
  rw [hgg] at hh
  simp at hh
  obtain ⟨rfl,rfl,rfl⟩:=hh
  by_cases hroom:n + m <= cap
  ·have hfit:n * i.size + news.length <= cur.size:=by rw [hl,hcs,<- Nat.add_mul];exact Nat.mul_le_mul_right _ hroom
   have hr2:=run_append_room (P:=P) w t ty e i ht hi g n cap cur hgg a m c news hl hnews h1 hroom hfit
   rw [hr] at hr2
   injection hr2 with e1 e2
   subst e1 e2
   intro g' hg'
   simp [Value.ownBlock] at hg'
   subst hg'
   refine ⟨_,_,_,setRow_heap w g cur _ e _ hgg,fun x hx=>?_⟩
   simp only [List.mem_append] at hx
   rcases hx with (hx | hx) | hx
   ·exact hc x (List.mem_of_mem_take hx)
   ·exact hnn x hx
   ·exact hc x (List.mem_of_mem_drop hx)
  ·have holds:∀ j u,xs[j]? = some u -> w.cell? ((⟨g,0,none⟩ : Addr).add j) = some u:=hown.cells (g:=g) rfl
   have hr2:=run_append_grow (P:=P) w t ty e i z ht hi hz ⟨g,0,none⟩ n cap xs hown.1 holds a m c news hl hnews (by omega) (by omega) (growslice_fits (by omega) hbytes)
   rw [hr] at hr2
   injection hr2 with e1 e2
   subst e1 e2
   intro g' hg'
   simp [Value.ownBlock] at hg'
   subst hg'
   refine ⟨_,_,_,heap_alloc_new w.drew _,fun x hx=>?_⟩
   simp only [Array.toList_append,List.mem_append] at hx
   rcases hx with (hx | hx) | hx
   ·refine hc x ?_
    rw [<- htake] at hx
    exact List.mem_of_mem_take (by simpa using hx)
   ·exact hnn x (by simpa using hx)
   ·exact hzn x (mem_zeroCells hx)
theorem wp_append_ni {o:Oper} {a:Act} {w:World} {K:Act -> World -> Prop} {Q:Exit -> Act -> World -> Prop} (s x:Operand) (t:TypeId)
  (ho:o.op = .call { callee:=.builtin .append,args:=#[s,x],argTypes:=#[t,t] })
  (base:Nat) (e:TypeId) (i:TypeInfo) (z:Value) (size bytes:Nat) (ht:P.underlying t = some (.slice e)) (hi:P.info? e = some i) (hz:i.zero = some z)
  (hsize:i.size = size) (hby:i.bytes = bytes) (hzs:z.cells.size = size) (hsz:0 < size)
  (v:Value) (n:Nat) (xs:List Value) (hs:a.eval s = v) (hown:w.ownsRow base e size v n xs)
  (ad:Addr) (m c:Nat) (news:List Value) (hx:a.eval x = .slice (some ad) m c) (hl:news.length = m * size) (hnews:∀ j u,news[j]? = some u -> w.cell? (ad.add j) = some u) (h1:∀ u ∈ news,u.oneCell' = true)
  (h63:n + m <= maxLen) (hbytes:(n + m) * bytes <= 140737488355328) (hbase:base <= w.heap.size)
  (hni:NIrow w v) (hzn:∀ x ∈ z.cells.toList,NoInt x) (hnn:∀ x ∈ news,NoInt x)
  (h:∀ v' w',w'.ownsRow base e size v' (n + m) (xs ++ news) -> w.grownBy w' v.ownBlock -> NIrow w' v' -> K (a.put o.dst v') w') : o.wp P a w K Q:=by
 obtain ⟨v',w',hr,h2,h3,h4⟩:=run_append_ni (P:=P) w base t o.type e i z size bytes ht hi hz hsize hby hzs hsz v n xs hown ad m c news hl hnews h1 h63 hbytes hbase hni hzn hnn
 unfold Oper.wp execOp
 simp only [ho,resolve,invoke,builtin,Sem.run_bind,Sem.run_pure,Result.andThen_ok,List.map_toArray,List.map_cons,List.map_nil,hs,hx,hr]
 exact h v' w' h2 h3 h4
theorem wpList_append_ni (w:World) {ops:Array Oper} {rest:List Oper} {o:Oper} {a:Act} {Q:Exit -> Act -> World -> Prop} (hgd:o.guard = none) (s x:Operand) (t:TypeId)
  (ho:o.op = .call { callee:=.builtin .append,args:=#[s,x],argTypes:=#[t,t] })
  (base:Nat) (e:TypeId) (i:TypeInfo) (z:Value) (size bytes:Nat) (ht:P.underlying t = some (.slice e)) (hi:P.info? e = some i) (hz:i.zero = some z)
  (hsize:i.size = size) (hby:i.bytes = bytes) (hzs:z.cells.size = size) (hsz:0 < size)
  (v:Value) (n:Nat) (xs:List Value) (hs:a.eval s = v) (hown:w.ownsRow base e size v n xs)
  (ad:Addr) (m c:Nat) (news:List Value) (hx:a.eval x = .slice (some ad) m c) (hl:news.length = m * size) (hnews:∀ j u,news[j]? = some u -> w.cell? (ad.add j) = some u) (h1:∀ u ∈ news,u.oneCell' = true)
  (h63:n + m <= maxLen) (hbytes:(n + m) * bytes <= 140737488355328) (hbase:base <= w.heap.size)
  (hni:NIrow w v) (hzn:∀ x ∈ z.cells.toList,NoInt x) (hnn:∀ x ∈ news,NoInt x)
  (h:∀ v' w',w'.ownsRow base e size v' (n + m) (xs ++ news) -> w.grownBy w' v.ownBlock -> NIrow w' v' -> wpList P ops Q rest (a.put o.dst v') w') : wpList P ops Q (o :: rest) a w:=
 wpList_plain hgd fun _ hK=>wp_append_ni s x t ho base e i z size bytes ht hi hz hsize hby hzs hsz v n xs hs hown ad m c news hx hl hnews h1 h63 hbytes hbase hni hzn hnn fun v' w' h2 h3 h4=>hK _ _ (h v' w' h2 h3 h4)
end
def OwnInts (w:World) (base:Nat) (v:Value) (zs:List Int) (L:Nat) : Prop:=
 ∃ vs,vs.length = zs.length /\ w.ownsRow base 31 2 v zs.length (flat vs) /\ NIrow w v /\ ∀ i,i < zs.length -> Ival w (vs.getD i .nilFunc) (zs.getD i 0) L
theorem OwnInts.nil (w:World) (base L:Nat) : OwnInts w base (.slice none 0 0) [] L:=⟨[],rfl,World.ownsRow_nil ..,NIrow.nil w,fun i hi=>absurd hi (by simp)⟩
theorem OwnInts.below {w w':World} {base:Nat} {v:Value} {zs:List Int} {L:Nat} (h:OwnInts w base v zs L) (hb:Below w.heap.size w w') : OwnInts w' base v zs L:=by
 obtain ⟨vs,hl,ho,hn,hv⟩:=h
 exact ⟨vs,hl,ownsRow_below ho hb,hn.below hb,fun i hi=>(hv i hi).below hb⟩
theorem OwnInts.snoc {w w':World} {base:Nat} {v v':Value} {zs:List Int} {L:Nat} {vs:List Value} {z:Int} {g:Bool} {A:Option Addr} {n c:Nat} (hl:vs.length = zs.length) (hv:∀ i,i < zs.length -> Ival w (vs.getD i .nilFunc) (zs.getD i 0) L) (hz:Ival w (.agg #[.bool g,.slice A n c]) z L)
  (hni:NIrow w v) (ho:w'.ownsRow base 31 2 v' (zs.length + 1) (flat vs ++ [.bool g,.slice A n c])) (hg:w.grownBy w' v.ownBlock) (hn:NIrow w' v') : OwnInts w' base v' (zs ++ [z]) L:=by
 refine ⟨vs ++ [.agg #[.bool g,.slice A n c]],by simp [hl],?_,hn,fun i hi=>?_⟩
 ·rw [flat_snoc,List.length_append];exact ho
 ·rw [List.length_append,List.length_singleton] at hi
  by_cases h:i < zs.length
  ·have e1:(vs ++ [Value.agg #[.bool g,.slice A n c]]).getD i .nilFunc = vs.getD i .nilFunc:=by simp [List.getD,List.getElem?_append_left,hl,h]
   have e2:(zs ++ [z]).getD i 0 = zs.getD i 0:=by simp [List.getD,List.getElem?_append_left,h]
   rw [e1,e2];exact (hv i h).off hni hg
  ·obtain rfl:i = zs.length:=by omega
   have e1:(vs ++ [Value.agg #[.bool g,.slice A n c]]).getD zs.length .nilFunc = .agg #[.bool g,.slice A n c]:=by simp [List.getD,hl]
   have e2:(zs ++ [z]).getD zs.length 0 = z:=by simp [List.getD]
   rw [e1,e2];exact hz.off hni hg
theorem flat_get:∀ (vs:List Value) (i:Nat),(∀ j,j < vs.length -> ∃ g A n c,vs.getD j .nilFunc = .agg #[.bool g,.slice A n c]) -> i < vs.length -> ∀ g A n c,vs.getD i .nilFunc = .agg #[.bool g,.slice A n c] -> (flat vs)[2 * i]? = some (.bool g) /\ (flat vs)[2 * i + 1]? = some (.slice A n c)
 | [],i,_,hi,_,_,_,_,_=>absurd hi (by simp)
 | v :: vs,0,hf,hi,g,A,n,c,e=>by
  simp at e
  subst e
  simp [flat,Value.cells]
 | v :: vs,i + 1,hf,hi,g,A,n,c,e=>by
  obtain ⟨g0,A0,n0,c0,e0⟩:=hf 0 (by simp)
  simp at e0
  subst e0
  have:=flat_get vs i (fun j hj=>by have:=hf (j + 1) (by simpa using hj);simpa using this) (by simpa using hi) g A n c (by simpa using e)
  rw [show 2 * (i + 1) = 2 * i + 2 from by omega,show 2 * i + 2 + 1 = 2 * i + 1 + 2 from by omega]
  simpa [flat,Value.cells] using this
theorem grownBy_store (w:World) (k i:Nat) (x:Value) : w.grownBy (w.setCell ⟨k,i,none⟩ x) (some k):=
 ⟨rfl,rfl,rfl,by simp,fun j _ hne=>Below.heap_setCell _ _ _ _ (fun e=>hne (by rw [e]))⟩
theorem NIrow.kept {w w':World} {v:Value} {k:Nat} (h:NIrow w v) (hg:w.grownBy w' (some k)) (hne:v.ownBlock ≠ some k) : NIrow w' v:=fun g hgv=>by
 obtain ⟨cur,e,fr,hh,hc⟩:=h g hgv
 exact ⟨cur,e,fr,(hg.block g (Array.getElem?_eq_some_iff.1 hh).1 (fun e=>hne (by rw [hgv,e]))).trans hh,hc⟩
theorem OwnInts.other {w:World} {base:Nat} {v:Value} {zs:List Int} {L k M:Nat} {y:Int} (h:OwnInts w base v zs L) (F:IBox w k y M) (hne:v.ownBlock ≠ some k) (x u:Value) : OwnInts ((w.setCell ⟨k,0,none⟩ x).setCell ⟨k,1,none⟩ u) base v zs L:=by
 obtain ⟨vs,hl,ho,hn,hv⟩:=h
 exact ⟨vs,hl,(ho.kept (grownBy_store w k 0 x) (Or.inr hne)).kept (grownBy_store _ k 1 u) (Or.inr hne),(hn.kept (grownBy_store w k 0 x) hne).kept (grownBy_store _ k 1 u) hne,fun i hi=>(hv i hi).at F x u⟩
theorem OwnInts.get {w:World} {base:Nat} {v:Value} {zs:List Int} {L:Nat} (h:OwnInts w base v zs L) {i:Nat} (hi:i < zs.length) :
  ∃ b cap g A n c,v = .slice (some ⟨b,0,none⟩) zs.length cap /\ base <= b /\ b < w.heap.size /\ w.cell? ⟨b,i * 2,none⟩ = some (.bool g) /\ w.cell? ⟨b,i * 2 + 1,none⟩ = some (.slice A n c) /\ Ival w (.agg #[.bool g,.slice A n c]) (zs.getD i 0) L:=by
 obtain ⟨vs,hl,ho,hn,hv⟩:=h
 have hform:∀ j,j < vs.length -> ∃ g A n c,vs.getD j .nilFunc = .agg #[.bool g,.slice A n c]:=fun j hj=>(hv j (by omega)).form
 obtain ⟨g,A,n,c,e⟩:=hform i (by omega)
 obtain ⟨f0,f1⟩:=flat_get vs i hform (by omega) g A n c e
 have hvi:=hv i hi
 rw [e] at hvi
 rcases ho.2 with ⟨_,h0⟩ | ⟨b,cap,cur,rfl,hb,hh,hrest⟩
 ·omega
 ·have h0:=ho.cells (g:=b) rfl (2 * i) _ f0
  have h1:=ho.cells (g:=b) rfl (2 * i + 1) _ f1
  have hadd:∀ j,(⟨b,0,none⟩ : Addr).add j = ⟨b,j,none⟩:=fun j=>by unfold Addr.add;split <;> simp_all
  rw [hadd] at h0 h1
  exact ⟨b,cap,g,A,n,c,rfl,hb,(Array.getElem?_eq_some_iff.1 hh).1,by rw [Nat.mul_comm];exact h0,by rw [Nat.mul_comm];exact h1,hvi⟩
theorem OwnInts.slice {w:World} {base:Nat} {v:Value} {zs:List Int} {L:Nat} (h:OwnInts w base v zs L) : ∃ A c,v = .slice A zs.length c:=by
 obtain ⟨vs,hl,ho,hn,hv⟩:=h
 rcases ho.2 with ⟨rfl,h0⟩ | ⟨b,cap,cur,rfl,hb,hh,hrest⟩
 ·exact ⟨none,0,by rw [h0]⟩
 ·exact ⟨_,_,rfl⟩
end Go.Proofs.YtbajnceoolkckaaGreat
