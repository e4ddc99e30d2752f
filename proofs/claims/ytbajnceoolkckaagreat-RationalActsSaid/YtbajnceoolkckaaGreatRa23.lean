/- Of the proof of RationalActs: Box. -/
import Derived.Test.YtbajnceoolkckaaGreatRa22
set_option maxRecDepth 100000
set_option maxHeartbeats 16000000
namespace Go.Proofs.YtbajnceoolkckaaGreat
open Go.RowKit LM
def IBox (w:World) (b:Nat) (z:Int) (L:Nat) : Prop:=
 ∃ g A n c,Fx w b (.bool g) (.slice A n c) /\ Ival w (.agg #[.bool g,.slice A n c]) z L
theorem IBox.mk {w:World} {b:Nat} {g:Bool} {A:Option Addr} {n c:Nat} {z:Int} {L:Nat} (F:Fx w b (.bool g) (.slice A n c)) (V:Ival w (.agg #[.bool g,.slice A n c]) z L) : IBox w b z L:=⟨g,A,n,c,F,V⟩
theorem IBox.lt {w:World} {b:Nat} {z:Int} {L:Nat} (h:IBox w b z L) : b < w.heap.size:=by
 obtain ⟨g,A,n,c,F,_⟩:=h;exact F.2.2.2.2
theorem IBox.below {w w':World} {b:Nat} {z:Int} {L:Nat} (h:IBox w b z L) (hb:Below w.heap.size w w') : IBox w' b z L:=by
 obtain ⟨g,A,n,c,F,V⟩:=h;exact ⟨g,A,n,c,F.below hb,V.below hb⟩
theorem IBox.mono {w:World} {b:Nat} {z:Int} {L M:Nat} (h:IBox w b z L) (hl:L <= M) : IBox w b z M:=by
 obtain ⟨g,A,n,c,F,V⟩:=h;exact ⟨g,A,n,c,F,V.mono hl⟩
theorem IBox.new (w:World) {g:Bool} {A:Option Addr} {n c:Nat} {z:Int} {L:Nat} (t:TypeId) (V:Ival w (.agg #[.bool g,.slice A n c]) z L) : IBox (w.alloc (.cells #[.bool g,.slice A n c] t)) w.heap.size z L:=
 ⟨g,A,n,c,Fx.new w _ _ t,V.below (below_alloc _ _)⟩
theorem IBox.nought (w:World) (t:TypeId) (L:Nat) : IBox (w.alloc (.cells #[.bool false,.slice none 0 0] t)) w.heap.size 0 L:=IBox.new w t Ival.nought
theorem IBox.other {w:World} {b b':Nat} {y z:Int} {L M:Nat} (h:IBox w b z L) (F:IBox w b' y M) (hne:b' ≠ b) (u v:Value) : IBox ((w.setCell ⟨b',0,none⟩ u).setCell ⟨b',1,none⟩ v) b z L:=by
 obtain ⟨g,A,n,c,G,V⟩:=h;obtain ⟨g',A',n',c',G',_⟩:=F
 exact ⟨g,A,n,c,G.other hne u v,V.fx G' u v⟩
theorem IBox.store {w:World} {b:Nat} {y z:Int} {L M:Nat} (F:IBox w b y M) {g:Bool} {A:Option Addr} {n c:Nat} (V:Ival w (.agg #[.bool g,.slice A n c]) z L) : IBox ((w.setCell ⟨b,0,none⟩ (.bool g)).setCell ⟨b,1,none⟩ (.slice A n c)) b z L:=by
 obtain ⟨g',A',n',c',G',_⟩:=F
 exact ⟨g,A,n,c,G'.store _ _,V.fx G' _ _⟩
theorem Ival.at {w:World} {s:Value} {z:Int} {L:Nat} (h:Ival w s z L) {b:Nat} {y:Int} {M:Nat} (F:IBox w b y M) (u v:Value) : Ival ((w.setCell ⟨b,0,none⟩ u).setCell ⟨b,1,none⟩ v) s z L:=by
 obtain ⟨g',A',n',c',G',_⟩:=F
 exact h.fx G' u v
def PBox (n:Nat) (w:World) (x:Value) (z:Int) (L:Nat) : Prop:=∃ k,x = .pointer (some ⟨k,0,none⟩) /\ n <= k /\ IBox w k z L
theorem PBox.below {n:Nat} {w w':World} {x:Value} {z:Int} {L:Nat} (h:PBox n w x z L) (hb:Below w.heap.size w w') : PBox n w' x z L:=by
 obtain ⟨k,e,hk,F⟩:=h;exact ⟨k,e,hk,F.below hb⟩
theorem PBox.other {n:Nat} {w:World} {x:Value} {z y:Int} {L M k:Nat} (h:PBox n w x z L) (F:IBox w k y M) (hne:x ≠ .pointer (some ⟨k,0,none⟩)) (u v:Value) : PBox n ((w.setCell ⟨k,0,none⟩ u).setCell ⟨k,1,none⟩ v) x z L:=by
 obtain ⟨j,rfl,hj,G⟩:=h
 exact ⟨j,rfl,hj,G.other F (fun e=>hne (by rw [e])) u v⟩
theorem PBox.fresh {n:Nat} {w:World} {x:Value} {z:Int} {L:Nat} (h:PBox n w x z L) : x ≠ .pointer (some ⟨w.heap.size,0,none⟩):=by
 obtain ⟨j,rfl,hj,G⟩:=h
 intro e
 have:=G.lt
 injection e with e1
 injection e1 with e2
 injection e2 with e3
 omega
def QBox (w:World) (b:Nat) (n d:Int) (L:Nat) : Prop:=
 ∃ g1 A1 n1 c1 g2 A2 n2 c2,Fx4 w b (.bool g1) (.slice A1 n1 c1) (.bool g2) (.slice A2 n2 c2) /\ Rat w (.agg #[.bool g1,.slice A1 n1 c1,.bool g2,.slice A2 n2 c2]) n d L
theorem QBox.lt {w:World} {b:Nat} {n d:Int} {L:Nat} (h:QBox w b n d L) : b < w.heap.size:=by
 obtain ⟨g1,A1,n1,c1,g2,A2,n2,c2,F,_⟩:=h;exact F.lt
theorem QBox.below {w w':World} {b:Nat} {n d:Int} {L:Nat} (h:QBox w b n d L) (hb:Below w.heap.size w w') : QBox w' b n d L:=by
 obtain ⟨g1,A1,n1,c1,g2,A2,n2,c2,F,V⟩:=h
 exact ⟨g1,A1,n1,c1,g2,A2,n2,c2,F.below hb,V.below hb⟩
theorem QBox.new (w:World) {g1 g2:Bool} {A1 A2:Option Addr} {n1 c1 n2 c2:Nat} {n d:Int} {L:Nat} (t:TypeId) (V:Rat w (.agg #[.bool g1,.slice A1 n1 c1,.bool g2,.slice A2 n2 c2]) n d L) : QBox (w.alloc (.cells #[.bool g1,.slice A1 n1 c1,.bool g2,.slice A2 n2 c2] t)) w.heap.size n d L:=
 ⟨g1,A1,n1,c1,g2,A2,n2,c2,Fx4.new w _ _ _ _ t,V.below (below_alloc _ _)⟩
end Go.Proofs.YtbajnceoolkckaaGreat
