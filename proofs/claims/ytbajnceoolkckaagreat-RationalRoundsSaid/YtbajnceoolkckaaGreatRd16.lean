/- Of the proof of RationalRounds: RAbs. -/
import Derived.Test.YtbajnceoolkckaaGreatRd15
open Go.Lib renaming hid → Hd
set_option maxRecDepth 100000
set_option maxHeartbeats 16000000
namespace Go.Proofs.YtbajnceoolkckaaGreat
open Go.RowKit LM
theorem Rval.abs {w:World} {g:Bool} {A:Option Addr} {n c:Nat} {x:Int} {L:Nat} (h:Rval w (.agg #[.bool g,.slice A n c]) x L) : Rval w (.agg #[.bool false,.slice A n c]) (if x < 0 then -x else x) L:=by
 obtain ⟨neg,A',n',c',ds,e,hr,hd,ht,hz,hp,hn⟩:=h
 simp only [Value.agg.injEq] at e
 injection e with e
 simp only [List.cons.injEq,Value.bool.injEq,Value.slice.injEq,and_true] at e
 obtain ⟨rfl,rfl,rfl,rfl⟩:=e
 refine ⟨false,A,n,c,ds,rfl,hr,hd,ht,?_,(fun h=>by cases h),hn⟩
 have h0:=valR_nonneg (by decide) hd
 rw [hz]
 cases g <;> simp [withSign] <;> omega
theorem rabs_any (u:Value) (x:Int) (L:Nat) (w:World) (h:Rval w u x L) :
  Calls Tryz.prog 29 #[u] w fun e w'=>(∃ ng A2 n2 c2,e = .returned (.agg #[.bool ng,.slice A2 n2 c2]) /\ Rval w' (.agg #[.bool ng,.slice A2 n2 c2]) (if x < 0 then -x else x) L) /\ Below w.heap.size w w':=by
 obtain ⟨p,A,n,c,rfl⟩:=h.form
 have hW:=below_two w (.cells #[.bool p,.slice A n c] 34) (.cells #[.bool false,.slice none 0 0] 34)
 have hA:=h.abs
 obtain ⟨y,hy⟩ : ∃ y,(if x < 0 then -x else x) = y:=⟨_,rfl⟩
 rw [hy] at hA ⊢
 have HA:=Hd hA
 clear h hy hA
 go_enter Tryz.func29,Tryz.ntmps29
 go_wp2
 refine bodyPost_ret (v:=.agg #[.bool false,.slice A n c]) (by simp [results,Tryz.results29,go_sem]) rfl ⟨⟨_,_,_,_,rfl,HA.out.below (below_two _ _ _)⟩,below_two _ _ _⟩
end Go.Proofs.YtbajnceoolkckaaGreat
