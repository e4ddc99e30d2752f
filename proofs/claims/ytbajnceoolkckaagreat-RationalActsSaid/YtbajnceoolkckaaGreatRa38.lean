/- Of the proof of RationalActs: RatW, RatX, RatY, RatPl. -/
import Derived.Test.YtbajnceoolkckaaGreatRa37
set_option maxRecDepth 100000
set_option maxHeartbeats 16000000
namespace Go.Proofs.YtbajnceoolkckaaGreat
open Go.RowKit LM
def OwnRats (w:World) (base:Nat) (v:Value) (xs:List (Int × Int)) (L:Nat) : Prop:=
 ∃ vs,vs.length = xs.length /\ w.ownsRow base 38 4 v xs.length (flat vs) /\ NIrow w v /\ ∀ i,i < xs.length -> Rat w (vs.getD i .nilFunc) (xs.getD i (0,1)).1 (xs.getD i (0,1)).2 L
theorem OwnRats.nil (w:World) (base L:Nat) : OwnRats w base (.slice none 0 0) [] L:=⟨[],rfl,World.ownsRow_nil ..,NIrow.nil w,fun i hi=>absurd hi (by simp)⟩
theorem OwnRats.below {w w':World} {base:Nat} {v:Value} {xs:List (Int × Int)} {L:Nat} (h:OwnRats w base v xs L) (hb:Below w.heap.size w w') : OwnRats w' base v xs L:=by
 obtain ⟨vs,hl,ho,hn,hv⟩:=h
 exact ⟨vs,hl,ownsRow_below ho hb,hn.below hb,fun i hi=>(hv i hi).below hb⟩
theorem flat_snoc4 (vs:List Value) (p q:Bool) (x y:Value) : flat (vs ++ [.agg #[.bool p,x,.bool q,y]]) = flat vs ++ [.bool p,x,.bool q,y]:=by
 simp [flat,Value.cells]
theorem flat_get4:∀ (vs:List Value) (i:Nat),(∀ j,j < vs.length -> ∃ g A n c q B m d,vs.getD j .nilFunc = .agg #[.bool g,.slice A n c,.bool q,.slice B m d]) -> i < vs.length -> ∀ g A n c q B m d,vs.getD i .nilFunc = .agg #[.bool g,.slice A n c,.bool q,.slice B m d] ->
  (flat vs)[4 * i]? = some (.bool g) /\ (flat vs)[4 * i + 1]? = some (.slice A n c) /\ (flat vs)[4 * i + 2]? = some (.bool q) /\ (flat vs)[4 * i + 3]? = some (.slice B m d)
 | [],i,_,hi,_,_,_,_,_,_,_,_,_=>absurd hi (by simp)
 | v :: vs,0,hf,hi,g,A,n,c,q,B,m,d,e=>by
  simp at e
  subst e
  simp [flat,Value.cells]
 | v :: vs,i + 1,hf,hi,g,A,n,c,q,B,m,d,e=>by
  obtain ⟨g0,A0,n0,c0,q0,B0,m0,d0,e0⟩:=hf 0 (by simp)
  simp at e0
  subst e0
  have:=flat_get4 vs i (fun j hj=>by have:=hf (j + 1) (by simpa using hj);simpa using this) (by simpa using hi) g A n c q B m d (by simpa using e)
  rw [show 4 * (i + 1) = 4 * i + 4 from by omega,show 4 * i + 4 + 1 = 4 * i + 1 + 4 from by omega,show 4 * i + 4 + 2 = 4 * i + 2 + 4 from by omega,show 4 * i + 4 + 3 = 4 * i + 3 + 4 from by omega]
  simpa [flat,Value.cells] using this
theorem OwnRats.get {w:World} {base:Nat} {v:Value} {xs:List (Int × Int)} {L:Nat} (h:OwnRats w base v xs L) {i:Nat} (hi:i < xs.length) :
  ∃ b cap g A n c q B m d,v = .slice (some ⟨b,0,none⟩) xs.length cap /\ base <= b /\ b < w.heap.size /\ w.cell? ⟨b,i * 4,none⟩ = some (.bool g) /\ w.cell? ⟨b,i * 4 + 1,none⟩ = some (.slice A n c) /\ w.cell? ⟨b,i * 4 + 2,none⟩ = some (.bool q) /\ w.cell? ⟨b,i * 4 + 3,none⟩ = some (.slice B m d) /\
   Rat w (.agg #[.bool g,.slice A n c,.bool q,.slice B m d]) (xs.getD i (0,1)).1 (xs.getD i (0,1)).2 L:=by
 obtain ⟨vs,hl,ho,hn,hv⟩:=h
 have hform:∀ j,j < vs.length -> ∃ g A n c q B m d,vs.getD j .nilFunc = .agg #[.bool g,.slice A n c,.bool q,.slice B m d]:=fun j hj=>(hv j (by omega)).form
 obtain ⟨g,A,n,c,q,B,m,d,e⟩:=hform i (by omega)
 obtain ⟨f0,f1,f2,f3⟩:=flat_get4 vs i hform (by omega) g A n c q B m d e
 have hvi:=hv i hi
 rw [e] at hvi
 rcases ho.2 with ⟨_,h0⟩ | ⟨b,cap,cur,rfl,hb,hh,hrest⟩
 ·omega
 ·have h0:=ho.cells (g:=b) rfl (4 * i) _ f0
  have h1:=ho.cells (g:=b) rfl (4 * i + 1) _ f1
  have h2:=ho.cells (g:=b) rfl (4 * i + 2) _ f2
  have h3:=ho.cells (g:=b) rfl (4 * i + 3) _ f3
  have hadd:∀ j,(⟨b,0,none⟩ : Addr).add j = ⟨b,j,none⟩:=fun j=>by unfold Addr.add;split <;> simp_all
  rw [hadd] at h0 h1 h2 h3
  exact ⟨b,cap,g,A,n,c,q,B,m,d,rfl,hb,(Array.getElem?_eq_some_iff.1 hh).1,by rw [Nat.mul_comm];exact h0,by rw [Nat.mul_comm];exact h1,by rw [Nat.mul_comm];exact h2,by rw [Nat.mul_comm];exact h3,hvi⟩
theorem OwnRats.snoc {w w':World} {base:Nat} {v v':Value} {xs:List (Int × Int)} {L:Nat} {vs:List Value} {x:Int × Int} {g q:Bool} {A B:Option Addr} {n c m d:Nat} (hl:vs.length = xs.length) (hv:∀ i,i < xs.length -> Rat w (vs.getD i .nilFunc) (xs.getD i (0,1)).1 (xs.getD i (0,1)).2 L) (hz:Rat w (.agg #[.bool g,.slice A n c,.bool q,.slice B m d]) x.1 x.2 L)
  (hni:NIrow w v) (ho:w'.ownsRow base 38 4 v' (xs.length + 1) (flat vs ++ [.bool g,.slice A n c,.bool q,.slice B m d])) (hg:w.grownBy w' v.ownBlock) (hn:NIrow w' v') : OwnRats w' base v' (xs ++ [x]) L:=by
 refine ⟨vs ++ [.agg #[.bool g,.slice A n c,.bool q,.slice B m d]],by simp [hl],?_,hn,fun i hi=>?_⟩
 ·rw [flat_snoc4,List.length_append];exact ho
 ·rw [List.length_append,List.length_singleton] at hi
  by_cases h:i < xs.length
  ·have e1:(vs ++ [Value.agg #[.bool g,.slice A n c,.bool q,.slice B m d]]).getD i .nilFunc = vs.getD i .nilFunc:=by simp [List.getD,List.getElem?_append_left,hl,h]
   have e2:(xs ++ [x]).getD i (0,1) = xs.getD i (0,1):=by simp [List.getD,List.getElem?_append_left,h]
   rw [e1,e2];exact (hv i h).off hni hg
  ·obtain rfl:i = xs.length:=by omega
   have e1:(vs ++ [Value.agg #[.bool g,.slice A n c,.bool q,.slice B m d]]).getD xs.length .nilFunc = .agg #[.bool g,.slice A n c,.bool q,.slice B m d]:=by simp [List.getD,hl]
   have e2:(xs ++ [x]).getD xs.length (0,1) = x:=by simp [List.getD]
   rw [e1,e2];exact hz.off hni hg
open Go.RowKit LM
def VRat (w:World) (v:Value) (Q P:Int) (L:Nat) : Prop:=∃ N D,Rat w v N D L /\ N * P = Q * D /\ 0 < P
theorem VRat.below {w w':World} {v:Value} {Q P:Int} {L:Nat} (h:VRat w v Q P L) (hb:Below w.heap.size w w') : VRat w' v Q P L:=by
 obtain ⟨N,D,hr,h⟩:=h;exact ⟨N,D,hr.below hb,h⟩
theorem VRat.form {w:World} {v:Value} {Q P:Int} {L:Nat} (h:VRat w v Q P L) : ∃ g1 A1 n1 c1 g2 A2 n2 c2,v = .agg #[.bool g1,.slice A1 n1 c1,.bool g2,.slice A2 n2 c2]:=by
 obtain ⟨N,D,hr,h⟩:=h;exact hr.form
theorem VRat.mono {w:World} {v:Value} {Q P:Int} {L M:Nat} (h:VRat w v Q P L) (hl:L <= M) : VRat w v Q P M:=by
 obtain ⟨N,D,hr,h⟩:=h;exact ⟨N,D,hr.mono hl,h⟩
theorem Rat.d0 {w:World} {v:Value} {n d:Int} {L:Nat} (h:Rat w v n d L) : 0 < d:=by
 obtain ⟨g1,A1,n1,c1,g2,A2,n2,c2,e,h1,h2,h3,h4⟩:=h;exact h3
theorem Rat.v {w:World} {v:Value} {n d:Int} {L:Nat} (h:Rat w v n d L) : VRat w v n d L:=⟨n,d,h,rfl,h.d0⟩
open Go.RowKit LM
theorem QText.err {R n d err:Int} {T:ByteArray} (h0:2 <= R) (h1:R <= 36) (h:QText R n d T err) : err = 0:=by
 obtain ⟨T1,ht1,_⟩:=h
 exact (ht1.of h0 h1).1
theorem QText.det {R n d e1 e2:Int} {S T:ByteArray} (h:QText R n d S e1) (g:QText R n d T e2) : S = T:=by
 obtain ⟨T1,a1,h⟩:=h
 obtain ⟨T2,a2,g⟩:=g
 obtain ⟨rfl,rfl⟩:=a1.det a2
 rcases h with ⟨h0,rfl⟩ | ⟨h0,h1,S2,b1,rfl⟩ <;> rcases g with ⟨g0,rfl⟩ | ⟨g0,g1,U2,b2,rfl⟩
 ·rfl
 ·rcases h0 with h0 | h0
  ·exact absurd g0 h0
  ·exact absurd h0 g1
 ·rcases g0 with g0 | g0
  ·exact absurd h0 g0
  ·exact absurd g0 h1
 ·rw [(b1.det b2).1]
theorem Rat.bound {w:World} {v:Value} {n d:Int} {L:Nat} (h:Rat w v n d L) (hL:1 <= L) : (if n < 0 then -n else n) < BB ^ L /\ (if d < 0 then -d else d) < BB ^ L:=by
 obtain ⟨g1,A1,n1,c1,g2,A2,n2,c2,e,h1,h2,h3,h4⟩:=h
 refine ⟨ival_lt h1,?_⟩
 have:=ival_lt h2
 unfold dn at this
 rw [if_neg (by omega:¬ d < 0)]
 split at this
 ·have hp:(1:Int) < BB ^ L:=by
   obtain ⟨m,rfl⟩ : ∃ m,L = m + 1:=⟨L - 1,by omega⟩
   have:(0:Int) < BB ^ m:=Int.pow_pos (by decide)
   have hB:BB = 4294967296:=rfl
   have h5:=Int.mul_le_mul_of_nonneg_right (show 1 <= BB ^ m by omega) (show 0 <= BB by decide)
   rw [Int.pow_succ]
   omega
  omega
 ·rw [if_neg (by omega)] at this;exact this
theorem Rat.cop {w:World} {v:Value} {n d:Int} {L:Nat} (h:Rat w v n d L) : Int.gcd n d = 1:=by
 obtain ⟨g1,A1,n1,c1,g2,A2,n2,c2,e,h1,h2,h3,h4⟩:=h;exact h4
open Go.RowKit LM
theorem sq_eq {a b:Int} (h:a * a = b * b) : a = b \/ a = -b:=by
 have e:(a - b) * (a + b) = 0:=by grind
 rcases Int.mul_eq_zero.1 e with h | h
 ·exact Or.inl (by omega)
 ·exact Or.inr (by omega)
def pN (x y k:Int) : Int:=if 0 <= k then x ^ k.natAbs else (upN y x) ^ k.natAbs
def pD (x y k:Int) : Int:=if 0 <= k then y ^ k.natAbs else (upN x x) ^ k.natAbs
end Go.Proofs.YtbajnceoolkckaaGreat
