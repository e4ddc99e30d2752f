/- Of the proof of RationalRounds: RatAe, RatQm, RatNum. -/
import Derived.Test.YtbajnceoolkckaaGreatRd32
set_option maxRecDepth 100000
set_option maxHeartbeats 16000000
namespace Go.Proofs.YtbajnceoolkckaaGreat
open Go.RowKit LM
theorem new_cross {x y:Int} (hy:y ≠ 0) : newN x y * y = x * newD x y:=by
 have hg0:(Int.gcd x y:Int) ≠ 0:=fun h0=>hy (Int.gcd_eq_zero_iff.1 (by exact_mod_cast h0)).2
 obtain ⟨a,ha⟩ : (Int.gcd x y:Int) ∣ x:=Int.gcd_dvd_left ..
 obtain ⟨b,hb⟩ : (Int.gcd x y:Int) ∣ y:=Int.gcd_dvd_right ..
 have ea:x.tdiv (Int.gcd x y) = a:=by
  conv=>lhs;arg 1;rw [ha]
  exact Int.mul_tdiv_cancel_left _ hg0
 have eb:y.tdiv (Int.gcd x y) = b:=by
  conv=>lhs;arg 1;rw [hb]
  exact Int.mul_tdiv_cancel_left _ hg0
 unfold newN newD
 rw [if_neg hy,if_neg hy,ea,eb]
 generalize (Int.gcd x y:Int) = g at *
 have e:a * y = x * b:=by rw [ha,hb];grind
 unfold upN
 split
 ·rw [Int.neg_mul,Int.mul_neg,e]
 ·exact e
theorem new_same {N D x y:Int} (hD:0 < D) (hc:Int.gcd N D = 1) (hy:y ≠ 0) (h:N * y = x * D) : N = newN x y /\ D = newD x y:=by
  refine frac_unique hD (newD_pos x y) hc (new_gcd x y) ?_
  have e:=new_cross (x:=x) hy
  apply Int.eq_of_mul_eq_mul_right hy
  calc N * newD x y * y = N * y * newD x y:=by grind
    _ = x * D * newD x y:=by rw [h]
    _ = (x * newD x y) * D:=by grind
    _ = newN x y * D * y:=by rw [<- e];grind
theorem RatRes.same {N D x y:Int} {L:Nat} {w w':World} {e:Ending} (h:RatRes L N D w e w') (hy:y ≠ 0) (hx:N * y = x * D) : RatRes L (newN x y) (newD x y) w e w':=by
 obtain ⟨⟨g1,A1,n1,c1,g2,A2,n2,c2,he,hr⟩,hb⟩:=h
 obtain ⟨e1,e2⟩:=new_same hr.d0 hr.cop hy hx
 rw [<- e1,<- e2]
 exact ⟨⟨g1,A1,n1,c1,g2,A2,n2,c2,he,hr⟩,hb⟩
theorem RatErr.mono {n d err:Int} {L M:Nat} {w w':World} {e:Ending} (h:RatErr L n d err w e w') (hl:L <= M) : RatErr M n d err w e w':=by
 obtain ⟨⟨g1,A1,n1,c1,g2,A2,n2,c2,he,hr⟩,hb⟩:=h
 exact ⟨⟨g1,A1,n1,c1,g2,A2,n2,c2,he,hr.mono hl⟩,hb⟩
theorem RQErr.mono {n d err:Int} {L M:Nat} {w w':World} {e:Ending} (h:RQErr L n d err w e w') (hl:L <= M) : RQErr M n d err w e w':=by
 obtain ⟨⟨g1,A1,n1,c1,g2,A2,n2,c2,he,hr⟩,hb⟩:=h
 exact ⟨⟨g1,A1,n1,c1,g2,A2,n2,c2,he,hr.mono hl⟩,hb⟩
def goesUp (way q h:Int) : Bool:=if way = 0 then false else if way = 1 then true else if way = 2 then decide (q < 0) else (decide (0 < h) || (decide (h = 0) && decide (q % 2 = 1)))
def rdI (way n d:Int) : Int:=if n % d = 0 then n / d else if goesUp way (n / d) (cmpI (n % d + n % d) d) = true then n / d + 1 else n / d
theorem cmp_mul {g a b:Int} (hg:0 < g) : cmpI (g * a) (g * b) = cmpI a b:=by
 rcases Int.lt_trichotomy a b with h | h | h
 ·rw [cmpI_lt h,cmpI_lt (Int.mul_lt_mul_of_pos_left h hg)]
 ·rw [h,cmpI_eq rfl,cmpI_eq rfl]
 ·rw [cmpI_gt h,cmpI_gt (Int.mul_lt_mul_of_pos_left h hg)]
theorem up_pos {d:Int} (hd:d ≠ 0) : 0 < upN d d:=by unfold upN;split <;> omega
theorem floor_neg {p q:Int} (hq:0 < q) : p / q < 0 ↔ p < 0:=by
 constructor
 ·intro h
  rcases Int.lt_or_le p 0 with h1 | h1
  ·exact h1
  ·have:=Int.ediv_nonneg h1 (Int.le_of_lt hq);omega
 ·intro h;exact Int.ediv_neg_of_neg_of_pos h hq
def MCell (M:Int) (w:World) : Prop:=w.cell? ⟨0,0,none⟩ = some (.int .i64 M)
theorem MCell.below {w w':World} {M:Int} (h:MCell M w) (hb:Below w.heap.size w w') : MCell M w':=(hb.cell (p:=⟨0,0,none⟩) (World.block_lt_of_cell? _ _ h)).trans h
theorem awake_m (w:World) (M:Int) (h:MCell M w) : Calls Tryz.prog 14 #[] w fun e w'=>e = .returned (.bool true) /\ Below w.heap.size w w':=awake_any w M h
theorem Fx4.new1 (w:World) (v0 v1 v2 v3:Value) (t:TypeId) (o:Obj) : Fx4 ((w.alloc (.cells #[v0,v1,v2,v3] t)).alloc o) w.heap.size v0 v1 v2 v3:=(Fx4.new w v0 v1 v2 v3 t).below (below_alloc _ _)
theorem Fx4.new2 (w:World) (v0 v1 v2 v3:Value) (t:TypeId) (C:Array Value) (s:TypeId) : Fx4 ((w.alloc (.cells C s)).alloc (.cells #[v0,v1,v2,v3] t)) (w.heap.size + 1) v0 v1 v2 v3:=by
 have h:=Fx4.new (w.alloc (.cells C s)) v0 v1 v2 v3 t
 rw [show (w.alloc (.cells C s)).heap.size = w.heap.size + 1 from by simp] at h
 exact h
theorem Fx.newA (w:World) (v0 v1:Value) (t:TypeId) (o:Obj) : Fx ((w.alloc (.cells #[v0,v1] t)).alloc o) w.heap.size v0 v1:=(Fx.new w v0 v1 t).below (below_alloc _ _)
theorem Fx.newB (w:World) (v0 v1:Value) (t:TypeId) (C:Array Value) (s:TypeId) : Fx ((w.alloc (.cells C s)).alloc (.cells #[v0,v1] t)) (w.heap.size + 1) v0 v1:=by
 have h:=Fx.new (w.alloc (.cells C s)) v0 v1 t
 rw [show (w.alloc (.cells C s)).heap.size = w.heap.size + 1 from by simp] at h
 exact h
theorem Of_rat (u:Value) (x:Int) (L:Nat) (w:World) (h:Ival w u x L) :
  Calls Tryz.prog 20 #[u] w fun e w'=>(∃ g1 A1 n1 c1 g2 A2 n2 c2,e = .returned (.agg #[.bool g1,.slice A1 n1 c1,.bool g2,.slice A2 n2 c2]) /\ Rat w' (.agg #[.bool g1,.slice A1 n1 c1,.bool g2,.slice A2 n2 c2]) x 1 L) /\ Below w.heap.size w w':=
 (Of_any u x L w h).mono fun _ _ ⟨⟨ng,A2,n2,c2,he,hv⟩,hb⟩=>⟨⟨ng,A2,n2,c2,false,none,0,0,he,Rat.mk' hv Ival.nought (by decide) (Int.gcd_one_right ..)⟩,hb⟩
end Go.Proofs.YtbajnceoolkckaaGreat
