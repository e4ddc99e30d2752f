/- Of the proof of RationalActs: RatAe, RatNum. -/
import Derived.Test.YtbajnceoolkckaaGreatRa42
set_option maxRecDepth 100000
set_option maxHeartbeats 16000000
namespace Go.Proofs.YtbajnceoolkckaaGreat
open Go.RowKit LM
theorem new_cross {x y:Int} (hy:y ≠ 0) : newN x y * y = x * newD x y:=by
 have hg0:(Int.gcd x y:Int) ≠ 0:=fun h0=>hy (Int.gcd_eq_zero_iff.1 (by exact_mod_cast h0)).2
 obtain ⟨a,ha⟩ : (Int.gcd x y:Int) ∣ x:=Int.gcd_dvd_left ..
 obtain ⟨b,hb⟩ : (Int.gcd x y:Int) ∣ y:=Int.gcd_dvd_right ..
 have ea:x.tdiv (Int.gcd x y) = a:=by
  conv=>lhs;arg 1;rw [ha]
  exact Int.mul_tdiv_cancel_left _ hg0
 have eb:y.tdiv (Int.gcd x y) = b:=by
  conv=>lhs;arg 1;rw [hb]
  exact Int.mul_tdiv_cancel_left _ hg0
 unfold newN newD
 rw [if_neg hy,if_neg hy,ea,eb]
 generalize (Int.gcd x y:Int) = g at *
 have e:a * y = x * b:=by rw [ha,hb];grind
 unfold upN
 split
 ·rw [Int.neg_mul,Int.mul_neg,e]
 ·exact e
theorem new_same {N D x y:Int} (hD:0 < D) (hc:Int.gcd N D = 1) (hy:y ≠ 0) (h:N * y = x * D) : N = newN x y /\ D = newD x y:=by
  refine frac_unique hD (newD_pos x y) hc (new_gcd x y) ?_
  have e:=new_cross (x:=x) hy
  apply Int.eq_of_mul_eq_mul_right hy
  calc N * newD x y * y = N * y * newD x y:=by grind
    _ = x * D * newD x y:=by rw [h]
    _ = (x * newD x y) * D:=by grind
    _ = newN x y * D * y:=by rw [<- e];grind
theorem RatRes.same {N D x y:Int} {L:Nat} {w w':World} {e:Ending} (h:RatRes L N D w e w') (hy:y ≠ 0) (hx:N * y = x * D) : RatRes L (newN x y) (newD x y) w e w':=by
 obtain ⟨⟨g1,A1,n1,c1,g2,A2,n2,c2,he,hr⟩,hb⟩:=h
 obtain ⟨e1,e2⟩:=new_same hr.d0 hr.cop hy hx
 rw [<- e1,<- e2]
 exact ⟨⟨g1,A1,n1,c1,g2,A2,n2,c2,he,hr⟩,hb⟩
theorem Mul_w (u v:Value) (n d m c:Int) (w:World) (h:Rat w u n d 8) (g:Rat w v m c 8) :
  Calls Tryz.prog 44 #[u,v] w (RatRes 20 (newN (n * m) (d * c)) (newD (n * m) (d * c)) w):=
 (Mul_q u v n d m c 8 w h g (by decide) (by decide)).mono fun _ _ ⟨_,_,h1,h2⟩=>h2.same (Int.ne_of_gt (Int.mul_pos h.d0 g.d0)) h1
theorem Add_w (u v:Value) (n d m c:Int) (w:World) (h:Rat w u n d 8) (g:Rat w v m c 8) :
  Calls Tryz.prog 40 #[u,v] w (RatRes 21 (newN (n * c + m * d) (d * c)) (newD (n * c + m * d) (d * c)) w):=
 (Add_q u v n d m c 8 w h g (by decide) (by decide)).mono fun _ _ ⟨_,_,h1,h2⟩=>h2.same (Int.ne_of_gt (Int.mul_pos h.d0 g.d0)) h1
theorem Sub_w (u v:Value) (n d m c:Int) (w:World) (h:Rat w u n d 8) (g:Rat w v m c 8) :
  Calls Tryz.prog 42 #[u,v] w (RatRes 21 (newN (n * c + -m * d) (d * c)) (newD (n * c + -m * d) (d * c)) w):=
 (Sub_q u v n d m c 8 w h g (by decide) (by decide)).mono fun _ _ ⟨_,_,h1,h2⟩=>h2.same (Int.ne_of_gt (Int.mul_pos h.d0 g.d0)) (by rw [h1,Int.neg_mul,<- Int.sub_eq_add_neg])
theorem divE_mul {d m:Int} (hd:0 < d) : divE (d * m) = divE m:=by
 unfold divE
 by_cases hm:m = 0
 ·rw [if_pos hm,if_pos (by rw [hm,Int.mul_zero])]
 ·rw [if_neg hm,if_neg (by intro e;rcases Int.mul_eq_zero.1 e with h | h <;> omega)]
theorem Div_w (u v:Value) (n d m c:Int) (w:World) (h:Rat w u n d 8) (g:Rat w v m c 8) :
  Calls Tryz.prog 30 #[u,v] w (RatErr 20 (newN (n * c) (d * m)) (newD (n * c) (d * m)) (divE (d * m)) w):=by
 have hd:=h.d0
 refine (Div_q u v n d m c 8 w h g (by decide) (by decide)).mono ?_
 rintro e w' ⟨N,D,⟨h1,h2⟩,⟨g1,A1,n1,c1,g2,A2,n2,c2,he,hr⟩,hb⟩
 rw [divE_mul hd]
 by_cases hm:m = 0
 ·obtain ⟨e1,e2⟩:=h2 hm
  have e3:newN (n * c) (d * m) = N:=by rw [e1];exact if_pos (by rw [hm,Int.mul_zero])
  have e4:newD (n * c) (d * m) = D:=by rw [e2];exact if_pos (by rw [hm,Int.mul_zero])
  rw [e3,e4]
  exact ⟨⟨g1,A1,n1,c1,g2,A2,n2,c2,he,hr⟩,hb⟩
 ·obtain ⟨e1,e2⟩:=new_same hr.d0 hr.cop (by intro e;rcases Int.mul_eq_zero.1 e with h | h <;> omega) (h1 hm)
  rw [<- e1,<- e2]
  exact ⟨⟨g1,A1,n1,c1,g2,A2,n2,c2,he,hr⟩,hb⟩
theorem RatErr.mono {n d err:Int} {L M:Nat} {w w':World} {e:Ending} (h:RatErr L n d err w e w') (hl:L <= M) : RatErr M n d err w e w':=by
 obtain ⟨⟨g1,A1,n1,c1,g2,A2,n2,c2,he,hr⟩,hb⟩:=h
 exact ⟨⟨g1,A1,n1,c1,g2,A2,n2,c2,he,hr.mono hl⟩,hb⟩
theorem RQErr.mono {n d err:Int} {L M:Nat} {w w':World} {e:Ending} (h:RQErr L n d err w e w') (hl:L <= M) : RQErr M n d err w e w':=by
 obtain ⟨⟨g1,A1,n1,c1,g2,A2,n2,c2,he,hr⟩,hb⟩:=h
 exact ⟨⟨g1,A1,n1,c1,g2,A2,n2,c2,he,hr.mono hl⟩,hb⟩
def pqE (n k:Int) : Int:=if k < 0 /\ n = 0 then 6 else 0
def pqN (n d k:Int) : Int:=if k < 0 /\ n = 0 then 0 else pN n d k
def pqD (n d k:Int) : Int:=if k < 0 /\ n = 0 then 1 else pD n d k
theorem pq_no {n d k:Int} (h:¬ (k < 0 /\ n = 0)) : pqE n k = 0 /\ pqN n d k = pN n d k /\ pqD n d k = pD n d k:=⟨if_neg h,if_neg h,if_neg h⟩
theorem pq_yes {n d k:Int} (h:k < 0 /\ n = 0) : pqE n k = 6 /\ pqN n d k = 0 /\ pqD n d k = 1:=⟨if_pos h,if_pos h,if_pos h⟩
theorem pq_get {n d k a b:Int} (h:(0 <= k /\ a = n /\ b = d) \/ (k < 0 /\ n ≠ 0 /\ a = upN d n /\ b = upN n n)) : pqE n k = 0 /\ pqN n d k = a ^ k.natAbs /\ pqD n d k = b ^ k.natAbs:=by
 rcases h with ⟨h1,rfl,rfl⟩ | ⟨h1,h2,rfl,rfl⟩
 ·obtain ⟨e1,e2,e3⟩:=pq_no (n:=a) (d:=b) (k:=k) (fun h=>by omega)
  rw [e1,e2,e3]
  exact ⟨rfl,if_pos h1,if_pos h1⟩
 ·obtain ⟨e1,e2,e3⟩:=pq_no (n:=n) (d:=d) (k:=k) (fun h=>h2 h.2)
  rw [e1,e2,e3]
  exact ⟨rfl,if_neg (by omega),if_neg (by omega)⟩
theorem Power_d (v:Value) (n d k:Int) (w:World) (h:Rat w v n d 8) (hk1:-9223372036854775808 <= k) (hk2:k <= 9223372036854775807) (hok:PowOk n d k) :
  Calls Tryz.prog 32 #[v,.int .i64 k] w (RatErr 200000 (pqN n d k) (pqD n d k) (pqE n k) w):=by
 refine (Power_w v n d k 8 w h (by decide) (by decide) hk1 hk2 hok).mono ?_
 rintro e w' (⟨h1,h2,h3⟩ | ⟨a,b,-,-,h1,h2⟩)
 ·obtain ⟨e1,e2,e3⟩:=pq_yes (d:=d) (And.intro h1 h2)
  rw [e1,e2,e3];exact h3.mono (by decide)
 ·obtain ⟨e1,e2,e3⟩:=pq_get h1
  rw [e1,e2,e3];exact h2
theorem rPower_d (v:Value) (n d k:Int) (w:World) (h:RQ w v n d 16) (hk1:-9223372036854775808 <= k) (hk2:k <= 9223372036854775807) (hok:PowOk n d k) :
  Calls Tryz.prog 33 #[v,.int .i64 k] w (RQErr 1000 (pqN n d k) (pqD n d k) (pqE n k) w):=by
 refine (rPower_w v n d k w h hk1 hk2 hok).mono ?_
 rintro e w' (⟨h1,h2,h3⟩ | ⟨a,b,-,-,h1,h2⟩)
 ·obtain ⟨e1,e2,e3⟩:=pq_yes (d:=d) (And.intro h1 h2)
  rw [e1,e2,e3];exact h3.mono (by decide)
 ·obtain ⟨e1,e2,e3⟩:=pq_get h1
  rw [e1,e2,e3];exact h2
def Sq (n d:Int) : Prop:=∃ p:Int × Int,0 <= p.1 /\ 0 < p.2 /\ p.1 * p.1 = n /\ p.2 * p.2 = d
open Classical in
noncomputable def rtE (n d:Int) : Int:=if n < 0 then 1 else if Sq n d then 0 else 5
open Classical in
noncomputable def rtN (n d:Int) : Int:=if h:Sq n d then (Classical.choose h).1 else 0
open Classical in
noncomputable def rtD (n d:Int) : Int:=if h:Sq n d then (Classical.choose h).2 else 1
theorem sq_up {r s:Int} (hr:0 <= r) (hs:0 <= s) (h:r * r = s * s) : r = s:=by
 rcases sq_eq h with e | e <;> omega
theorem rt_get {n d r s:Int} (h0:0 <= r) (h1:0 < s) (h2:r * r = n) (h3:s * s = d) : rtE n d = 0 /\ rtN n d = r /\ rtD n d = s:=by
 have hs:Sq n d:=⟨(r,s),h0,h1,h2,h3⟩
 have hn:¬ n < 0:=by rw [<- h2];have:=Int.mul_nonneg h0 h0;omega
 obtain ⟨c0,c1,c2,c3⟩:=Classical.choose_spec hs
 refine ⟨?_,?_,?_⟩
 ·unfold rtE;rw [if_neg hn,if_pos hs]
 ·unfold rtN;rw [dif_pos hs];exact sq_up c0 h0 (c2.trans h2.symm)
 ·unfold rtD;rw [dif_pos hs];exact sq_up (Int.le_of_lt c1) (Int.le_of_lt h1) (c3.trans h3.symm)
theorem rt_neg {n d:Int} (h:n < 0) : rtE n d = 1 /\ rtN n d = 0 /\ rtD n d = 1:=by
 have hs:¬ Sq n d:=fun ⟨p,c0,_,c2,_⟩=>by have:=Int.mul_nonneg c0 c0;omega
 exact ⟨if_pos h,dif_neg hs,dif_neg hs⟩
theorem rt_no {n d:Int} (h:0 <= n) (hn:¬ ∃ r s:Int,r * r = n /\ s * s = d) : rtE n d = 5 /\ rtN n d = 0 /\ rtD n d = 1:=by
 have hs:¬ Sq n d:=fun ⟨p,_,_,c2,c3⟩=>hn ⟨p.1,p.2,c2,c3⟩
 refine ⟨?_,dif_neg hs,dif_neg hs⟩
 unfold rtE
 rw [if_neg (by omega),if_neg hs]
theorem Root_d (v:Value) (n d:Int) (w:World) (h:Rat w v n d 8) :
  Calls Tryz.prog 34 #[v] w (RatErr 9 (rtN n d) (rtD n d) (rtE n d) w):=by
 refine (Root_q v n d 8 w h (by decide) (by decide)).mono ?_
 rintro e w' (⟨h1,h2⟩ | ⟨h1,h2,h3⟩ | ⟨r,s,h1,h2,h3,h4,h5⟩)
 ·obtain ⟨e1,e2,e3⟩:=rt_neg (d:=d) h1
  rw [e1,e2,e3];exact h2.mono (by decide)
 ·obtain ⟨e1,e2,e3⟩:=rt_no h1 h2
  rw [e1,e2,e3];exact h3.mono (by decide)
 ·obtain ⟨e1,e2,e3⟩:=rt_get h1 h2 h3 h4
  rw [e1,e2,e3];exact h5
theorem rRoot_d (v:Value) (n d:Int) (w:World) (h:RQ w v n d 16) :
  Calls Tryz.prog 35 #[v] w (RQErr 1000 (rtN n d) (rtD n d) (rtE n d) w):=by
 refine (rRoot_w v n d w h).mono ?_
 rintro e w' (⟨h1,h2⟩ | ⟨h1,h2,h3⟩ | ⟨r,s,h1,h2,h3,h4,h5⟩)
 ·obtain ⟨e1,e2,e3⟩:=rt_neg (d:=d) h1
  rw [e1,e2,e3];exact h2.mono (by decide)
 ·obtain ⟨e1,e2,e3⟩:=rt_no h1 h2
  rw [e1,e2,e3];exact h3.mono (by decide)
 ·obtain ⟨e1,e2,e3⟩:=rt_get h1 h2 h3 h4
  rw [e1,e2,e3];exact h5
theorem Ival.ltN {w:World} {v:Value} {z:Int} {L:Nat} (h:Ival w v z L) : (z.natAbs:Int) < BB ^ L:=by
 obtain ⟨neg,s,a,e,hn,ha,hs,hneg⟩:=h
 have h1:=hn.lt_pow
 have h5:(z.natAbs:Int) = a:=by cases neg <;> simp [withSign] at hs <;> omega
 omega
theorem BB8:BB ^ 8 = (65536:Int) ^ 16:=by decide
theorem Rat.lt16 {w:World} {v:Value} {n d:Int} (h:Rat w v n d 8) : (n.natAbs:Int) < 65536 ^ 16 /\ (d.natAbs:Int) < 65536 ^ 16:=by
 obtain ⟨g1,A1,n1,c1,g2,A2,n2,c2,e,h1,h2,h3⟩:=h
 rw [<- BB8]
 refine ⟨h1.ltN,?_⟩
 have h4:=h2.ltN
 unfold dn at h4
 split at h4
 ·rename_i hd;rw [hd];decide
 ·exact h4
open Go.RowKit LM
def MCell (M:Int) (w:World) : Prop:=w.cell? ⟨0,0,none⟩ = some (.int .i64 M)
theorem MCell.below {w w':World} {M:Int} (h:MCell M w) (hb:Below w.heap.size w w') : MCell M w':=(hb.cell (p:=⟨0,0,none⟩) (World.block_lt_of_cell? _ _ h)).trans h
theorem awake_m (w:World) (M:Int) (h:MCell M w) : Calls Tryz.prog 14 #[] w fun e w'=>e = .returned (.bool true) /\ Below w.heap.size w w':=awake_any w M h
theorem Fx4.new1 (w:World) (v0 v1 v2 v3:Value) (t:TypeId) (o:Obj) : Fx4 ((w.alloc (.cells #[v0,v1,v2,v3] t)).alloc o) w.heap.size v0 v1 v2 v3:=(Fx4.new w v0 v1 v2 v3 t).below (below_alloc _ _)
theorem Fx4.new2 (w:World) (v0 v1 v2 v3:Value) (t:TypeId) (C:Array Value) (s:TypeId) : Fx4 ((w.alloc (.cells C s)).alloc (.cells #[v0,v1,v2,v3] t)) (w.heap.size + 1) v0 v1 v2 v3:=by
 have h:=Fx4.new (w.alloc (.cells C s)) v0 v1 v2 v3 t
 rw [show (w.alloc (.cells C s)).heap.size = w.heap.size + 1 from by simp] at h
 exact h
end Go.Proofs.YtbajnceoolkckaaGreat
