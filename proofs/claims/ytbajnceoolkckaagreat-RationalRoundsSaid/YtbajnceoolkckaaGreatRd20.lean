/- Of the proof of RationalRounds: RatG. -/
import Derived.Test.YtbajnceoolkckaaGreatRd19
open List renaming getElem_toArray → gA, getElem_cons_succ → gS, getElem_cons_zero → gZ, setIfInBounds_toArray → tA, set_cons_zero → cZ, set_cons_succ → cS
open Go.Lib renaming hid → Hd
set_option maxRecDepth 100000
set_option maxHeartbeats 16000000
namespace Go.Proofs.YtbajnceoolkckaaGreat
open Go.RowKit LM
theorem Fx4.put {w:World} {b:Nat} {u0 u1 u2 u3:Value} (h:Fx4 w b u0 u1 u2 u3) (v0 v1 v2 v3:Value) : Fx4 (put4 w b v0 v1 v2 v3) b v0 v1 v2 v3:=by
 unfold put4
 obtain ⟨c0,c1,c2,c3,f0,f1,f2,f3,hl⟩:=h
 refine ⟨?_,?_,?_,?_,by simpa using f0,by simpa using f1,by simpa using f2,by simpa using f3,by simpa using hl⟩
 ·rw [World.cell?_setCell_other _ _ _ _ (by simp),World.cell?_setCell_other _ _ _ _ (by simp),World.cell?_setCell_other _ _ _ _ (by simp)];exact World.cell?_setCell_same _ _ _ c0
 ·rw [World.cell?_setCell_other _ _ _ _ (by simp),World.cell?_setCell_other _ _ _ _ (by simp)];exact World.cell?_setCell_same _ _ _ ((World.cell?_setCell_other _ _ _ _ (by simp)).trans c1)
 ·rw [World.cell?_setCell_other _ _ _ _ (by simp)];exact World.cell?_setCell_same _ _ _ (((World.cell?_setCell_other _ _ _ _ (by simp)).trans (World.cell?_setCell_other _ _ _ _ (by simp))).trans c2)
 ·exact World.cell?_setCell_same _ _ _ ((((World.cell?_setCell_other _ _ _ _ (by simp)).trans (World.cell?_setCell_other _ _ _ _ (by simp))).trans (World.cell?_setCell_other _ _ _ _ (by simp))).trans c3)
theorem three444 (w:World) (v0 v1 v2 v3 u0 u1 u2 u3:Value) :
  Below w.heap.size w (((w.alloc (.cells #[v0,v1,v2,v3] 38)).alloc (.cells #[u0,u1,u2,u3] 38)).alloc (.cells #[.bool false,.slice none 0 0,.bool false,.slice none 0 0] 38)) /\
  Fx4 (((w.alloc (.cells #[v0,v1,v2,v3] 38)).alloc (.cells #[u0,u1,u2,u3] 38)).alloc (.cells #[.bool false,.slice none 0 0,.bool false,.slice none 0 0] 38)) w.heap.size v0 v1 v2 v3 /\
  Fx4 (((w.alloc (.cells #[v0,v1,v2,v3] 38)).alloc (.cells #[u0,u1,u2,u3] 38)).alloc (.cells #[.bool false,.slice none 0 0,.bool false,.slice none 0 0] 38)) (w.heap.size + 1) u0 u1 u2 u3 /\
  Fx4 (((w.alloc (.cells #[v0,v1,v2,v3] 38)).alloc (.cells #[u0,u1,u2,u3] 38)).alloc (.cells #[.bool false,.slice none 0 0,.bool false,.slice none 0 0] 38)) (w.heap.size + 1 + 1) (.bool false) (.slice none 0 0) (.bool false) (.slice none 0 0) /\
  (((w.alloc (.cells #[v0,v1,v2,v3] 38)).alloc (.cells #[u0,u1,u2,u3] 38)).alloc (.cells #[.bool false,.slice none 0 0,.bool false,.slice none 0 0] 38)).heap.size = w.heap.size + 1 + 1 + 1:=by
 obtain ⟨hw,F0,F1,hs⟩:=two44 w v0 v1 v2 v3 u0 u1 u2 u3
 have hX:=below_alloc ((w.alloc (.cells #[v0,v1,v2,v3] 38)).alloc (.cells #[u0,u1,u2,u3] 38)) (.cells #[.bool false,.slice none 0 0,.bool false,.slice none 0 0] 38)
 have F2:=Fx4.new ((w.alloc (.cells #[v0,v1,v2,v3] 38)).alloc (.cells #[u0,u1,u2,u3] 38)) (.bool false) (.slice none 0 0) (.bool false) (.slice none 0 0) 38
 rw [hs] at F2
 exact ⟨hw.trans (hX.mono hw.size),F0.below hX,F1.below hX,F2,by simp⟩
theorem gcd_ne {a b:Int} (h:a ≠ 0 \/ b ≠ 0) : (Int.gcd a b:Int) ≠ 0:=fun e=>by
 have:=Int.gcd_eq_zero_iff.1 (show Int.gcd a b = 0 by exact_mod_cast e)
 omega
def TwoI (W0:World) (x y:Int) (L:Nat) (va vb:Value) (wx:World) : Prop:=
 ∃ b5 b6:Nat,∃ g A n c g' A' n' c',va = .pointer (some ⟨b5,0,none⟩) /\ vb = .pointer (some ⟨b6,0,none⟩) /\ Fx wx b5 (.bool g) (.slice A n c) /\ Ival wx (.agg #[.bool g,.slice A n c]) x L /\ Fx wx b6 (.bool g') (.slice A' n' c') /\ Ival wx (.agg #[.bool g',.slice A' n' c']) y L /\ W0.heap.size <= b5 /\ W0.heap.size <= b6 /\ Below W0.heap.size W0 wx
theorem mul_math {n d m c:Int} (hd:0 < d) (hc:0 < c) (h1:Int.gcd n d = 1) (h2:Int.gcd m c = 1) :
  ∃ N D,upN (n.tdiv (Int.gcd n c) * m.tdiv (Int.gcd m d)) (d.tdiv (Int.gcd m d) * c.tdiv (Int.gcd n c)) = N /\ upN (d.tdiv (Int.gcd m d) * c.tdiv (Int.gcd n c)) (d.tdiv (Int.gcd m d) * c.tdiv (Int.gcd n c)) = D /\ 0 < D /\ Int.gcd N D = 1 /\ N * (d * c) = (n * m) * D:=by
 obtain ⟨g,hg⟩ : ∃ g,Int.gcd n c = g:=⟨_,rfl⟩
 obtain ⟨h,hh⟩ : ∃ h,Int.gcd m d = h:=⟨_,rfl⟩
 have g0:0 < (g:Int):=by
  have:g ≠ 0:=fun e=>by rw [e] at hg;have:=(Int.gcd_eq_zero_iff.1 hg).2;omega
  omega
 have h0:0 < (h:Int):=by
  have:h ≠ 0:=fun e=>by rw [e] at hh;have:=(Int.gcd_eq_zero_iff.1 hh).2;omega
  omega
 have k1:=gcd_parts (x:=n) (y:=c) (by omega)
 have k2:=gcd_parts (x:=m) (y:=d) (by omega)
 obtain ⟨a,ha⟩ : (g:Int) ∣ n:=hg ▸ Int.gcd_dvd_left ..
 obtain ⟨b,hb⟩ : (g:Int) ∣ c:=hg ▸ Int.gcd_dvd_right ..
 obtain ⟨p,hp⟩ : (h:Int) ∣ m:=hh ▸ Int.gcd_dvd_left ..
 obtain ⟨q,hq⟩ : (h:Int) ∣ d:=hh ▸ Int.gcd_dvd_right ..
 rw [hg] at k1
 rw [hh] at k2
 rw [hg,hh]
 subst ha hb hp hq
 rw [Int.mul_tdiv_cancel_left _ (by omega),Int.mul_tdiv_cancel_left _ (by omega)] at k1 k2
 rw [Int.mul_tdiv_cancel_left _ (by omega:(g:Int) ≠ 0),Int.mul_tdiv_cancel_left _ (by omega:(h:Int) ≠ 0),Int.mul_tdiv_cancel_left _ (by omega:(h:Int) ≠ 0),Int.mul_tdiv_cancel_left _ (by omega:(g:Int) ≠ 0)]
 have hb0:0 < b:=by
  rcases Int.lt_or_le 0 b with h | h
  ·exact h
  ·have:=Int.mul_nonpos_of_nonneg_of_nonpos (Int.le_of_lt g0) h;omega
 have hq0:0 < q:=by
  rcases Int.lt_or_le 0 q with h' | h'
  ·exact h'
  ·have:=Int.mul_nonpos_of_nonneg_of_nonpos (Int.le_of_lt h0) h';omega
 have hqb:0 < q * b:=Int.mul_pos hq0 hb0
 have e1:upN (a * p) (q * b) = a * p:=if_neg (by omega)
 have e2:upN (q * b) (q * b) = q * b:=if_neg (by omega)
 refine ⟨a * p,q * b,e1,e2,hqb,?_,?_⟩
 ·have aq:Nat.Coprime a.natAbs q.natAbs:=by
   have h1':Nat.Coprime ((g:Int) * a).natAbs ((h:Int) * q).natAbs:=h1
   rw [Int.natAbs_mul,Int.natAbs_mul] at h1'
   exact (h1'.coprime_mul_left).coprime_mul_left_right
  have pb:Nat.Coprime p.natAbs b.natAbs:=by
   have h2':Nat.Coprime ((h:Int) * p).natAbs ((g:Int) * b).natAbs:=h2
   rw [Int.natAbs_mul,Int.natAbs_mul] at h2'
   exact (h2'.coprime_mul_left).coprime_mul_left_right
  have ab:Nat.Coprime a.natAbs b.natAbs:=k1
  have pq:Nat.Coprime p.natAbs q.natAbs:=k2
  show Nat.Coprime (a * p).natAbs (q * b).natAbs
  rw [Int.natAbs_mul,Int.natAbs_mul]
  exact Nat.Coprime.mul_right (Nat.Coprime.mul_left aq pq) (Nat.Coprime.mul_left ab pb)
 ·have e:∀ g h a b p q:Int,a * p * (h * q * (g * b)) = g * a * (h * p) * (q * b):=by
   intro g h a b p q
   simp only [Int.mul_comm,Int.mul_left_comm]
  exact e _ _ _ _ _ _
theorem Mul_q (u v:Value) (n d m c:Int) (L:Nat) (w:World) (h:Rat w u n d L) (g:Rat w v m c L) (hL:L <= 400000) (hL2:2 <= L) :
  Calls Tryz.prog 44 #[u,v] w fun e w'=>∃ N D,N * (d * c) = (n * m) * D /\ RatRes (L + 2 + (L + 2)) N D w e w':=by
 have hL1:L <= 1000000:=by omega
 obtain ⟨g1,A1,n1,c1,e1,E1,m1,d1,rfl⟩:=h.form
 obtain ⟨g2,A2,n2,c2,e2,E2,m2,d2,rfl⟩:=g.form
 obtain ⟨hw,F0,F1,F2,hs⟩:=three444 w (.bool g1) (.slice A1 n1 c1) (.bool e1) (.slice E1 m1 d1) (.bool g2) (.slice A2 n2 c2) (.bool e2) (.slice E2 m2 d2)
 have X:=Hd (h.below hw)
 have Y:=Hd (g.below hw)
 obtain ⟨W0,hW0⟩ : ∃ W0,((w.alloc (.cells #[.bool g1,.slice A1 n1 c1,.bool e1,.slice E1 m1 d1] 38)).alloc (.cells #[.bool g2,.slice A2 n2 c2,.bool e2,.slice E2 m2 d2] 38)).alloc (.cells #[.bool false,.slice none 0 0,.bool false,.slice none 0 0] 38) = W0:=⟨_,rfl⟩
 rw [hW0] at hw F0 F1 F2 hs X Y
 have B0:=Hd F0
 have B1:=Hd F1
 have BR:=Hd F2
 clear F0 F1 F2 h g
 go_enter Tryz.func44,Tryz.ntmps44
 go_upto_region 1 with fail
 clear hW0
 have X1:=Hd X.out.parts.1
 have Y1:=Hd Y.out.parts.1
 have hd:=X.out.parts.2.2.1
 have hc:=Y.out.parts.2.2.1
 have hco1:=X.out.parts.2.2.2
 have hco2:=Y.out.parts.2.2.2
 go_cut [5,6] (fun va vb wx=>TwoI W0 (d) (c) L va vb wx)
 case first=>
  have HT:=Hd (fun (w':World) (hb:Below W0.heap.size W0 w')=>(show w'.cell? ⟨w.heap.size,0,none⟩ = some (.bool g1) /\ w'.cell? ⟨w.heap.size,1,none⟩ = some (.slice A1 n1 c1) /\ w'.cell? ⟨w.heap.size,2,none⟩ = some (.bool e1) /\ w'.cell? ⟨w.heap.size,3,none⟩ = some (.slice E1 m1 d1) /\ w'.cell? ⟨(w.heap.size + 1),0,none⟩ = some (.bool g2) /\ w'.cell? ⟨(w.heap.size + 1),1,none⟩ = some (.slice A2 n2 c2) /\ w'.cell? ⟨(w.heap.size + 1),2,none⟩ = some (.bool e2) /\ w'.cell? ⟨(w.heap.size + 1),3,none⟩ = some (.slice E2 m2 d2) from ⟨(B0.out.below hb).c0,(B0.out.below hb).c1,(B0.out.below hb).c2,(B0.out.below hb).c3,(B1.out.below hb).c0,(B1.out.below hb).c1,(B1.out.below hb).c2,(B1.out.below hb).c3⟩))
  obtain ⟨Inv,hInv⟩ : ∃ J:(Nat -> Bool) -> (Value × Value × Value × Value) -> World -> Prop,J = fun b v w'=>(Below W0.heap.size W0 w') /\ (b 1 = true -> Ival w' v.1 (d) (L)) /\ (b 3 = true -> Ival w' v.2.1 (c) (L)) /\ (b 4 = true -> b 6 = false -> PBox (W0.heap.size) w' v.2.2.1 0 0) /\ (b 6 = true -> PBox (W0.heap.size) w' v.2.2.1 (d) (L)) /\ (b 5 = true -> b 7 = false -> PBox (W0.heap.size) w' v.2.2.2 0 0) /\ (b 7 = true -> PBox (W0.heap.size) w' v.2.2.2 (c) (L)) /\ (b 4 = true -> b 5 = true -> v.2.2.1 ≠ v.2.2.2):=⟨_,rfl⟩
  have hB:=(Below.refl W0.heap.size W0).drew
  refine wp_region_held_drew (S:=fun w'=>w'.cell? ⟨w.heap.size,0,none⟩ = some (.bool g1) /\ w'.cell? ⟨w.heap.size,1,none⟩ = some (.slice A1 n1 c1) /\ w'.cell? ⟨w.heap.size,2,none⟩ = some (.bool e1) /\ w'.cell? ⟨w.heap.size,3,none⟩ = some (.slice E1 m1 d1) /\ w'.cell? ⟨(w.heap.size + 1),0,none⟩ = some (.bool g2) /\ w'.cell? ⟨(w.heap.size + 1),1,none⟩ = some (.slice A2 n2 c2) /\ w'.cell? ⟨(w.heap.size + 1),2,none⟩ = some (.bool e2) /\ w'.cell? ⟨(w.heap.size + 1),3,none⟩ = some (.slice E2 m2 d2)) (by kernel_rfl) (HT.out _ hB) (fun hH=>?_)
  clear hH
  generalize W0.drew = wr0 at *
  refine tk 0 9 (by first | assumption | exact HT.out _ hB | trivial) ?_
  try simp only [Act.put,tA,cZ,cS]
  refine tk 2 11 (by first | assumption | exact HT.out _ hB | trivial) ?_
  try simp only [Act.put,tA,cZ,cS]
  refine wpAnyH_begin (V:=Value × Value × Value × Value) (I:=Inv) (A:=?_) [true,false,true,false,false,false,false,false] [10,12,5,6] (fun v=>[v.1,v.2.1,v.2.2.1,v.2.2.2]) (fun a=>(a.tmps.getD 10 undef,a.tmps.getD 12 undef,a.tmps.getD 5 undef,a.tmps.getD 6 undef)) ?_ ?_ (by kernel_rfl) (by kernel_rfl) (by kernel_rfl) (by kernel_rfl) (by kernel_rfl) ?_ ?_ ?_
  rotate_left 1
  ·intro v;simp only [fillA,Act.put,tA,cZ,cS];rfl
  ·rfl
  ·rw [hInv]
   exact ⟨(hB),(fun h=>absurd h (by decide)),(fun h=>absurd h (by decide)),(fun h _=>absurd h (by decide)),(fun h=>absurd h (by decide)),(fun h _=>absurd h (by decide)),(fun h=>absurd h (by decide)),(fun h _=>absurd h (by decide))⟩
  ·skip
   refine EachFrom.skip (by rfl) ?_
   refine EachFrom.cons (k:=1) rfl rfl (ds:=[0]) (by kernel_rfl) (fun v x=>(x,v.2.1,v.2.2.1,v.2.2.2)) (fun v x=>by rfl) (fun b v wz hb0 hcl hbk hdep hI Kc hK=>?_) ?_
   ·skip
    rw [hInv] at hI
    obtain ⟨x10,x12,x5,x6⟩:=v
    dsimp only at hI hK ⊢
    (try simp only [Act.put] at hK);(try simp only [tA] at hK);(try simp only [cS] at hK);(try simp only [cZ] at hK)
    obtain ⟨famb,f10,f12,fP5,fQ5,fP6,fQ6,fne5_6⟩:=hI
    obtain ⟨d0,-⟩:=hdep
    (try simp only [gA]);(try simp only [gS]);(try simp only [gZ])
    have hA:=famb
    go_simp
    (go_at_call 67;refine (Denominator_any _ n d L _ (X.out.below hA) hL2).mono ?_;rintro e w1 ⟨⟨g10,A10,n10,c10,rfl,hz⟩,hb⟩)
    refine hK.out _ _ (HT.out _ ((famb).trans (hb.mono (famb).size))) ?_
    rw [hInv]
    exact ⟨((famb).trans (hb.mono (famb).size)),(fun h0=>hz),(fun h=>absurd ((show AllT b [2,1] from hcl 3 _ rfl h).2.1) (by rw [hbk];decide)),(fun h0 h1=>(fP5 h0 h1).below hb),(fun h=>absurd ((show AllT b [4,1,3,0,1,4,5] from hcl 6 _ rfl h).2.1) (by rw [hbk];decide)),(fun h0 h1=>(fP6 h0 h1).below hb),(fun h=>absurd ((show AllT b [5,3,6,0,1,2,3,4,5,6] from hcl 7 _ rfl h).2.2.2.2.1) (by rw [hbk];decide)),(fun h0 h1=>fne5_6 h0 h1)⟩
   refine EachFrom.skip (by rfl) ?_
   refine EachFrom.cons (k:=3) rfl rfl (ds:=[2,1]) (by kernel_rfl) (fun v x=>(v.1,x,v.2.2.1,v.2.2.2)) (fun v x=>by rfl) (fun b v wz hb0 hcl hbk hdep hI Kc hK=>?_) ?_
   ·skip
    rw [hInv] at hI
    obtain ⟨x10,x12,x5,x6⟩:=v
    dsimp only at hI hK ⊢
    (try simp only [Act.put] at hK);(try simp only [tA] at hK);(try simp only [cS] at hK);(try simp only [cZ] at hK)
    obtain ⟨famb,f10,f12,fP5,fQ5,fP6,fQ6,fne5_6⟩:=hI
    obtain ⟨d2,d1,-⟩:=hdep
    (try simp only [gA]);(try simp only [gS]);(try simp only [gZ])
    have hA:=famb
    go_simp
    (go_at_call 67;refine (Denominator_any _ m c L _ (Y.out.below hA) hL2).mono ?_;rintro e w1 ⟨⟨g12,A12,n12,c12,rfl,hz⟩,hb⟩)
    refine hK.out _ _ (HT.out _ ((famb).trans (hb.mono (famb).size))) ?_
    rw [hInv]
    exact ⟨((famb).trans (hb.mono (famb).size)),(fun h0=>(f10 h0).below hb),(fun h0=>hz),(fun h0 h1=>(fP5 h0 h1).below hb),(fun h=>absurd ((show AllT b [4,1,3,0,1,4,5] from hcl 6 _ rfl h).2.2.1) (by rw [hbk];decide)),(fun h0 h1=>(fP6 h0 h1).below hb),(fun h=>absurd ((show AllT b [5,3,6,0,1,2,3,4,5,6] from hcl 7 _ rfl h).2.1) (by rw [hbk];decide)),(fun h0 h1=>fne5_6 h0 h1)⟩
   refine EachFrom.cons (k:=4) rfl rfl (ds:=[]) (by kernel_rfl) (fun v x=>(v.1,v.2.1,x,v.2.2.2)) (fun v x=>by rfl) (fun b v wz hb0 hcl hbk hdep hI Kc hK=>?_) ?_
   ·skip
    rw [hInv] at hI
    obtain ⟨x10,x12,x5,x6⟩:=v
    dsimp only at hI hK ⊢
    (try simp only [Act.put] at hK);(try simp only [tA] at hK);(try simp only [cS] at hK);(try simp only [cZ] at hK)
    obtain ⟨famb,f10,f12,fP5,fQ5,fP6,fQ6,fne5_6⟩:=hI
    (try simp only [gA]);(try simp only [gS]);(try simp only [gZ])
    have hb:=below_alloc wz (.cells #[.bool false,.slice none 0 0] 31)
    go_simp
    refine hK.out _ _ (HT.out _ ((famb).trans (hb.mono (famb).size))) ?_
    rw [hInv]
    exact ⟨((famb).trans (hb.mono (famb).size)),(fun h0=>(f10 h0).below hb),(fun h0=>(f12 h0).below hb),(fun h0 h1=>⟨_,rfl,famb.size,IBox.nought _ _ _⟩),(fun h=>absurd ((show AllT b [4,1,3,0,1,4,5] from hcl 6 _ rfl h).1) (by rw [hbk];decide)),(fun h0 h1=>(fP6 h0 h1).below hb),(fun h=>absurd ((show AllT b [5,3,6,0,1,2,3,4,5,6] from hcl 7 _ rfl h).2.2.2.2.2.2.2.1) (by rw [hbk];decide)),(fun h0 h1=>(Ne.symm (by cases h:b 7 with | false=>exact (fP6 h1 h).fresh | true=>exact (fQ6 h).fresh)))⟩
   refine EachFrom.cons (k:=5) rfl rfl (ds:=[]) (by kernel_rfl) (fun v x=>(v.1,v.2.1,v.2.2.1,x)) (fun v x=>by rfl) (fun b v wz hb0 hcl hbk hdep hI Kc hK=>?_) ?_
   ·skip
    rw [hInv] at hI
    obtain ⟨x10,x12,x5,x6⟩:=v
    dsimp only at hI hK ⊢
    (try simp only [Act.put] at hK);(try simp only [tA] at hK);(try simp only [cS] at hK);(try simp only [cZ] at hK)
    obtain ⟨famb,f10,f12,fP5,fQ5,fP6,fQ6,fne5_6⟩:=hI
    (try simp only [gA]);(try simp only [gS]);(try simp only [gZ])
    have hb:=below_alloc wz (.cells #[.bool false,.slice none 0 0] 31)
    go_simp
    refine hK.out _ _ (HT.out _ ((famb).trans (hb.mono (famb).size))) ?_
    rw [hInv]
    exact ⟨((famb).trans (hb.mono (famb).size)),(fun h0=>(f10 h0).below hb),(fun h0=>(f12 h0).below hb),(fun h0 h1=>(fP5 h0 h1).below hb),(fun h=>absurd ((show AllT b [4,1,3,0,1,4,5] from hcl 6 _ rfl h).2.2.2.2.2.2.1) (by rw [hbk];decide)),(fun h0 h1=>⟨_,rfl,famb.size,IBox.nought _ _ _⟩),(fun h=>absurd ((show AllT b [5,3,6,0,1,2,3,4,5,6] from hcl 7 _ rfl h).1) (by rw [hbk];decide)),(fun h0 h1=>(by cases h:b 6 with | false=>exact (fP5 h0 h).fresh | true=>exact (fQ5 h).fresh))⟩
   refine EachFrom.cons (k:=6) rfl rfl (ds:=[4,1,3,0,1,4,5]) (by kernel_rfl) (fun v _=>v) (fun v x=>by rfl) (fun b v wz hb0 hcl hbk hdep hI Kc hK=>?_) ?_
   ·skip
    rw [hInv] at hI
    obtain ⟨x10,x12,x5,x6⟩:=v
    dsimp only at hI hK ⊢
    (try simp only [Act.put] at hK);(try simp only [tA] at hK);(try simp only [cS] at hK);(try simp only [cZ] at hK)
    obtain ⟨famb,f10,f12,fP5,fQ5,fP6,fQ6,fne5_6⟩:=hI
    obtain ⟨d4,d1,d3,d0,-,-,d5,-⟩:=hdep
    (try simp only [gA]);(try simp only [gS]);(try simp only [gZ])
    obtain ⟨k5,rfl,hk5,FB⟩:=fP5 d4 hbk
    obtain ⟨g10,A10,n10,c10,rfl⟩:=(f10 d1).form
    obtain ⟨gx,Ax,nx,cx,Fq,-⟩:=id FB
    obtain ⟨c0,c1,c2,c3,c4⟩:=Fq
    go_simp
    refine hK.out (undef) _ (HT.out _ (((famb).setCell (p:=⟨k5,0,none⟩) (by show _ <= k5;omega) _).setCell (p:=⟨k5,1,none⟩) (by show _ <= k5;omega) _)) ?_
    rw [hInv]
    exact ⟨(((famb).setCell (p:=⟨k5,0,none⟩) (by show _ <= k5;omega) _).setCell (p:=⟨k5,1,none⟩) (by show _ <= k5;omega) _),(fun h0=>(f10 h0).at FB _ _),(fun h0=>(f12 h0).at FB _ _),(fun _ h=>absurd (show true = false from h) (by decide)),(fun h0=>⟨_,rfl,hk5,FB.store (f10 d1)⟩),(fun h0 h1=>(fP6 h0 h1).other FB (Ne.symm (fne5_6 d4 d5)) _ _),(fun h=>absurd ((show AllT b [5,3,6,0,1,2,3,4,5,6] from hcl 7 _ rfl h).2.2.1) (by rw [hbk];decide)),(fun h0 h1=>fne5_6 h0 h1)⟩
   refine EachFrom.cons (k:=7) rfl rfl (ds:=[5,3,6,0,1,2,3,4,5,6]) (by kernel_rfl) (fun v _=>v) (fun v x=>by rfl) (fun b v wz hb0 hcl hbk hdep hI Kc hK=>?_) ?_
   ·skip
    rw [hInv] at hI
    obtain ⟨x10,x12,x5,x6⟩:=v
    dsimp only at hI hK ⊢
    (try simp only [Act.put] at hK);(try simp only [tA] at hK);(try simp only [cS] at hK);(try simp only [cZ] at hK)
    obtain ⟨famb,f10,f12,fP5,fQ5,fP6,fQ6,fne5_6⟩:=hI
    obtain ⟨d5,d3,d6,d0,d1,d2,-,d4,-,-,-⟩:=hdep
    (try simp only [gA]);(try simp only [gS]);(try simp only [gZ])
    obtain ⟨k6,rfl,hk6,FB⟩:=fP6 d5 hbk
    obtain ⟨g12,A12,n12,c12,rfl⟩:=(f12 d3).form
    obtain ⟨gx,Ax,nx,cx,Fq,-⟩:=id FB
    obtain ⟨c0,c1,c2,c3,c4⟩:=Fq
    go_simp
    refine hK.out (undef) _ (HT.out _ (((famb).setCell (p:=⟨k6,0,none⟩) (by show _ <= k6;omega) _).setCell (p:=⟨k6,1,none⟩) (by show _ <= k6;omega) _)) ?_
    rw [hInv]
    exact ⟨(((famb).setCell (p:=⟨k6,0,none⟩) (by show _ <= k6;omega) _).setCell (p:=⟨k6,1,none⟩) (by show _ <= k6;omega) _),(fun h0=>(f10 h0).at FB _ _),(fun h0=>(f12 h0).at FB _ _),(fun _ h=>absurd (show b 6 = false from h) (by rw [d6];decide)),(fun h0=>(fQ5 h0).other FB (fne5_6 d4 d5) _ _),(fun _ h=>absurd (show true = false from h) (by decide)),(fun h0=>⟨_,rfl,hk6,FB.store (f12 d3)⟩),(fun h0 h1=>fne5_6 h0 h1)⟩
   exact EachFrom.nil (by kernel_rfl)
  ·intro v wE hI
   rw [hInv] at hI
   obtain ⟨x10,x12,x5,x6⟩:=v
   dsimp only at hI ⊢
   obtain ⟨famb,f10,f12,fP5,fQ5,fP6,fQ6,fne5_6⟩:=hI
   replace f10:=f10 rfl
   replace f12:=f12 rfl
   clear fP5
   replace fQ5:=fQ5 rfl
   clear fP6
   replace fQ6:=fQ6 rfl
   replace fne5_6:=fne5_6 rfl rfl
   clear hInv hB
   obtain ⟨k5,rfl,hk5,g5,A5,n5,c5,F5,V5⟩:=fQ5
   obtain ⟨k6,rfl,hk6,g6,A6,n6,c6,F6,V6⟩:=fQ6
   clear f10 f12
   go_wp2_with fail
   go_meet
   exact ⟨k5,k6,_,_,_,_,_,_,_,_,rfl,rfl,F5,V5,F6,V6,hk5,hk6,famb⟩
 case rest=>
  obtain ⟨k5,k6,u5,a5,l5,o5,u6,a6,l6,o6,rfl,rfl,hf1,hv1,hf2,hv2,hq5,hq6,hb⟩:=hcut
  obtain ⟨wA,rfl⟩ : ∃ wk,wk = wc:=⟨wc,rfl⟩
  have hswA:=hb.size
  replace B0:=Hd (B0.out.below hb)
  replace B1:=Hd (B1.out.below hb)
  replace BR:=Hd (BR.out.below hb)
  replace X:=Hd (X.out.below hb)
  replace Y:=Hd (Y.out.below hb)
  replace X1:=Hd (X1.out.below hb)
  replace Y1:=Hd (Y1.out.below hb)
  replace hw:=hw.trans (hb.mono hw.size)
  have B5:=Hd hf1
  have B6:=Hd hf2
  have T1:=Hd hv1
  have T2:=Hd hv2
  clear hf1 hf2 hv1 hv2 hb
  clear X
  clear Y
  go_upto_region 2 with fail
  go_cut [7,8] (fun va vb wx=>TwoI wA ((Int.gcd n c:Int)) ((Int.gcd m d:Int)) L va vb wx)
  case first=>
   have HT:=Hd (fun (w':World) (hb:Below wA.heap.size wA w')=>(show w'.cell? ⟨w.heap.size,0,none⟩ = some (.bool g1) /\ w'.cell? ⟨w.heap.size,1,none⟩ = some (.slice A1 n1 c1) /\ w'.cell? ⟨w.heap.size,2,none⟩ = some (.bool e1) /\ w'.cell? ⟨w.heap.size,3,none⟩ = some (.slice E1 m1 d1) /\ w'.cell? ⟨(w.heap.size + 1),0,none⟩ = some (.bool g2) /\ w'.cell? ⟨(w.heap.size + 1),1,none⟩ = some (.slice A2 n2 c2) /\ w'.cell? ⟨(w.heap.size + 1),2,none⟩ = some (.bool e2) /\ w'.cell? ⟨(w.heap.size + 1),3,none⟩ = some (.slice E2 m2 d2) /\ w'.cell? ⟨k5,0,none⟩ = some (.bool u5) /\ w'.cell? ⟨k5,1,none⟩ = some (.slice a5 l5 o5) /\ w'.cell? ⟨k6,0,none⟩ = some (.bool u6) /\ w'.cell? ⟨k6,1,none⟩ = some (.slice a6 l6 o6) from ⟨(B0.out.below hb).c0,(B0.out.below hb).c1,(B0.out.below hb).c2,(B0.out.below hb).c3,(B1.out.below hb).c0,(B1.out.below hb).c1,(B1.out.below hb).c2,(B1.out.below hb).c3,(B5.out.below hb).1,(B5.out.below hb).2.1,(B6.out.below hb).1,(B6.out.below hb).2.1⟩))
   obtain ⟨Inv,hInv⟩ : ∃ J:(Nat -> Bool) -> (Value × Value × Value × Value) -> World -> Prop,J = fun b v w'=>(Below wA.heap.size wA w') /\ (b 3 = true -> Ival w' v.1 ((Int.gcd n c:Int)) (L)) /\ (b 7 = true -> Ival w' v.2.1 ((Int.gcd m d:Int)) (L)) /\ (b 8 = true -> b 10 = false -> PBox (wA.heap.size) w' v.2.2.1 0 0) /\ (b 10 = true -> PBox (wA.heap.size) w' v.2.2.1 ((Int.gcd n c:Int)) (L)) /\ (b 9 = true -> b 11 = false -> PBox (wA.heap.size) w' v.2.2.2 0 0) /\ (b 11 = true -> PBox (wA.heap.size) w' v.2.2.2 ((Int.gcd m d:Int)) (L)) /\ (b 8 = true -> b 9 = true -> v.2.2.1 ≠ v.2.2.2):=⟨_,rfl⟩
   have hB:=(Below.refl wA.heap.size wA).drew
   refine wp_region_held_drew (S:=fun w'=>w'.cell? ⟨w.heap.size,0,none⟩ = some (.bool g1) /\ w'.cell? ⟨w.heap.size,1,none⟩ = some (.slice A1 n1 c1) /\ w'.cell? ⟨w.heap.size,2,none⟩ = some (.bool e1) /\ w'.cell? ⟨w.heap.size,3,none⟩ = some (.slice E1 m1 d1) /\ w'.cell? ⟨(w.heap.size + 1),0,none⟩ = some (.bool g2) /\ w'.cell? ⟨(w.heap.size + 1),1,none⟩ = some (.slice A2 n2 c2) /\ w'.cell? ⟨(w.heap.size + 1),2,none⟩ = some (.bool e2) /\ w'.cell? ⟨(w.heap.size + 1),3,none⟩ = some (.slice E2 m2 d2) /\ w'.cell? ⟨k5,0,none⟩ = some (.bool u5) /\ w'.cell? ⟨k5,1,none⟩ = some (.slice a5 l5 o5) /\ w'.cell? ⟨k6,0,none⟩ = some (.bool u6) /\ w'.cell? ⟨k6,1,none⟩ = some (.slice a6 l6 o6)) (by kernel_rfl) (HT.out _ hB) (fun hH=>?_)
   clear hH
   generalize wA.drew = wr0 at *
   refine tk 0 13 (by first | assumption | exact HT.out _ hB | trivial) ?_
   try simp only [Act.put,tA,cZ,cS]
   refine tk 2 15 (by first | assumption | exact HT.out _ hB | trivial) ?_
   try simp only [Act.put,tA,cZ,cS]
   refine tk 4 17 (by first | assumption | exact HT.out _ hB | trivial) ?_
   try simp only [Act.put,tA,cZ,cS]
   refine tk 6 19 (by first | assumption | exact HT.out _ hB | trivial) ?_
   try simp only [Act.put,tA,cZ,cS]
   refine tk 1 14 (by first | assumption | exact HT.out _ hB | trivial) ?_
   try simp only [Act.put,tA,cZ,cS]
   refine tk 5 18 (by first | assumption | exact HT.out _ hB | trivial) ?_
   try simp only [Act.put,tA,cZ,cS]
   refine wpAnyH_begin (V:=Value × Value × Value × Value) (I:=Inv) (A:=?_) [true,true,true,false,true,true,true,false,false,false,false,false] [16,20,7,8] (fun v=>[v.1,v.2.1,v.2.2.1,v.2.2.2]) (fun a=>(a.tmps.getD 16 undef,a.tmps.getD 20 undef,a.tmps.getD 7 undef,a.tmps.getD 8 undef)) ?_ ?_ (by kernel_rfl) (by kernel_rfl) (by kernel_rfl) (by kernel_rfl) (by kernel_rfl) ?_ ?_ ?_
   rotate_left 1
   ·intro v;simp only [fillA,Act.put,tA,cZ,cS];rfl
   ·rfl
   ·rw [hInv]
    exact ⟨(hB),(fun h=>absurd h (by decide)),(fun h=>absurd h (by decide)),(fun h _=>absurd h (by decide)),(fun h=>absurd h (by decide)),(fun h _=>absurd h (by decide)),(fun h=>absurd h (by decide)),(fun h _=>absurd h (by decide))⟩
   ·skip
    refine EachFrom.skip (by rfl) ?_
    refine EachFrom.skip (by rfl) ?_
    refine EachFrom.skip (by rfl) ?_
    refine EachFrom.cons (k:=3) rfl rfl (ds:=[1,2]) (by kernel_rfl) (fun v x=>(x,v.2.1,v.2.2.1,v.2.2.2)) (fun v x=>by rfl) (fun b v wz hb0 hcl hbk hdep hI Kc hK=>?_) ?_
    ·skip
     rw [hInv] at hI
     obtain ⟨x16,x20,x7,x8⟩:=v
     dsimp only at hI hK ⊢
     (try simp only [Act.put] at hK);(try simp only [tA] at hK);(try simp only [cS] at hK);(try simp only [cZ] at hK)
     obtain ⟨famb,f16,f20,fP7,fQ7,fP8,fQ8,fne7_8⟩:=hI
     obtain ⟨d1,d2,-⟩:=hdep
     (try simp only [gA]);(try simp only [gS]);(try simp only [gZ])
     have hA:=famb
     go_simp
     (go_at_call 96;refine (Gcd_int _ _ n c L _ (X1.out.below hA) (T2.out.below hA) hL1 hL2).mono ?_;rintro e w1 ⟨⟨g16,A16,n16,c16,rfl,hz⟩,hb⟩)
     refine hK.out _ _ (HT.out _ ((famb).trans (hb.mono (famb).size))) ?_
     rw [hInv]
     exact ⟨((famb).trans (hb.mono (famb).size)),(fun h0=>hz),(fun h=>absurd ((show AllT b [5,6,3] from hcl 7 _ rfl h).2.2.1) (by rw [hbk];decide)),(fun h0 h1=>(fP7 h0 h1).below hb),(fun h=>absurd ((show AllT b [8,3,7,0,1,2,3,8,9] from hcl 10 _ rfl h).2.1) (by rw [hbk];decide)),(fun h0 h1=>(fP8 h0 h1).below hb),(fun h=>absurd ((show AllT b [9,7,10,0,1,2,3,4,5,6,7,8,9,10] from hcl 11 _ rfl h).2.2.2.2.2.2.1) (by rw [hbk];decide)),(fun h0 h1=>fne7_8 h0 h1)⟩
    refine EachFrom.skip (by rfl) ?_
    refine EachFrom.skip (by rfl) ?_
    refine EachFrom.skip (by rfl) ?_
    refine EachFrom.cons (k:=7) rfl rfl (ds:=[5,6,3]) (by kernel_rfl) (fun v x=>(v.1,x,v.2.2.1,v.2.2.2)) (fun v x=>by rfl) (fun b v wz hb0 hcl hbk hdep hI Kc hK=>?_) ?_
    ·skip
     rw [hInv] at hI
     obtain ⟨x16,x20,x7,x8⟩:=v
     dsimp only at hI hK ⊢
     (try simp only [Act.put] at hK);(try simp only [tA] at hK);(try simp only [cS] at hK);(try simp only [cZ] at hK)
     obtain ⟨famb,f16,f20,fP7,fQ7,fP8,fQ8,fne7_8⟩:=hI
     obtain ⟨d5,d6,d3,-⟩:=hdep
     (try simp only [gA]);(try simp only [gS]);(try simp only [gZ])
     have hA:=famb
     go_simp
     (go_at_call 96;refine (Gcd_int _ _ m d L _ (Y1.out.below hA) (T1.out.below hA) hL1 hL2).mono ?_;rintro e w1 ⟨⟨g20,A20,n20,c20,rfl,hz⟩,hb⟩)
     refine hK.out _ _ (HT.out _ ((famb).trans (hb.mono (famb).size))) ?_
     rw [hInv]
     exact ⟨((famb).trans (hb.mono (famb).size)),(fun h0=>(f16 h0).below hb),(fun h0=>hz),(fun h0 h1=>(fP7 h0 h1).below hb),(fun h=>absurd ((show AllT b [8,3,7,0,1,2,3,8,9] from hcl 10 _ rfl h).2.2.1) (by rw [hbk];decide)),(fun h0 h1=>(fP8 h0 h1).below hb),(fun h=>absurd ((show AllT b [9,7,10,0,1,2,3,4,5,6,7,8,9,10] from hcl 11 _ rfl h).2.1) (by rw [hbk];decide)),(fun h0 h1=>fne7_8 h0 h1)⟩
    refine EachFrom.cons (k:=8) rfl rfl (ds:=[]) (by kernel_rfl) (fun v x=>(v.1,v.2.1,x,v.2.2.2)) (fun v x=>by rfl) (fun b v wz hb0 hcl hbk hdep hI Kc hK=>?_) ?_
    ·skip
     rw [hInv] at hI
     obtain ⟨x16,x20,x7,x8⟩:=v
     dsimp only at hI hK ⊢
     (try simp only [Act.put] at hK);(try simp only [tA] at hK);(try simp only [cS] at hK);(try simp only [cZ] at hK)
     obtain ⟨famb,f16,f20,fP7,fQ7,fP8,fQ8,fne7_8⟩:=hI
     (try simp only [gA]);(try simp only [gS]);(try simp only [gZ])
     have hb:=below_alloc wz (.cells #[.bool false,.slice none 0 0] 31)
     go_simp
     refine hK.out _ _ (HT.out _ ((famb).trans (hb.mono (famb).size))) ?_
     rw [hInv]
     exact ⟨((famb).trans (hb.mono (famb).size)),(fun h0=>(f16 h0).below hb),(fun h0=>(f20 h0).below hb),(fun h0 h1=>⟨_,rfl,famb.size,IBox.nought _ _ _⟩),(fun h=>absurd ((show AllT b [8,3,7,0,1,2,3,8,9] from hcl 10 _ rfl h).1) (by rw [hbk];decide)),(fun h0 h1=>(fP8 h0 h1).below hb),(fun h=>absurd ((show AllT b [9,7,10,0,1,2,3,4,5,6,7,8,9,10] from hcl 11 _ rfl h).2.2.2.2.2.2.2.2.2.2.2.1) (by rw [hbk];decide)),(fun h0 h1=>(Ne.symm (by cases h:b 11 with | false=>exact (fP8 h1 h).fresh | true=>exact (fQ8 h).fresh)))⟩
    refine EachFrom.cons (k:=9) rfl rfl (ds:=[]) (by kernel_rfl) (fun v x=>(v.1,v.2.1,v.2.2.1,x)) (fun v x=>by rfl) (fun b v wz hb0 hcl hbk hdep hI Kc hK=>?_) ?_
    ·skip
     rw [hInv] at hI
     obtain ⟨x16,x20,x7,x8⟩:=v
     dsimp only at hI hK ⊢
     (try simp only [Act.put] at hK);(try simp only [tA] at hK);(try simp only [cS] at hK);(try simp only [cZ] at hK)
     obtain ⟨famb,f16,f20,fP7,fQ7,fP8,fQ8,fne7_8⟩:=hI
     (try simp only [gA]);(try simp only [gS]);(try simp only [gZ])
     have hb:=below_alloc wz (.cells #[.bool false,.slice none 0 0] 31)
     go_simp
     refine hK.out _ _ (HT.out _ ((famb).trans (hb.mono (famb).size))) ?_
     rw [hInv]
     exact ⟨((famb).trans (hb.mono (famb).size)),(fun h0=>(f16 h0).below hb),(fun h0=>(f20 h0).below hb),(fun h0 h1=>(fP7 h0 h1).below hb),(fun h=>absurd ((show AllT b [8,3,7,0,1,2,3,8,9] from hcl 10 _ rfl h).2.2.2.2.2.2.2.2.1) (by rw [hbk];decide)),(fun h0 h1=>⟨_,rfl,famb.size,IBox.nought _ _ _⟩),(fun h=>absurd ((show AllT b [9,7,10,0,1,2,3,4,5,6,7,8,9,10] from hcl 11 _ rfl h).1) (by rw [hbk];decide)),(fun h0 h1=>(by cases h:b 10 with | false=>exact (fP7 h0 h).fresh | true=>exact (fQ7 h).fresh))⟩
    refine EachFrom.cons (k:=10) rfl rfl (ds:=[8,3,7,0,1,2,3,8,9]) (by kernel_rfl) (fun v _=>v) (fun v x=>by rfl) (fun b v wz hb0 hcl hbk hdep hI Kc hK=>?_) ?_
    ·skip
     rw [hInv] at hI
     obtain ⟨x16,x20,x7,x8⟩:=v
     dsimp only at hI hK ⊢
     (try simp only [Act.put] at hK);(try simp only [tA] at hK);(try simp only [cS] at hK);(try simp only [cZ] at hK)
     obtain ⟨famb,f16,f20,fP7,fQ7,fP8,fQ8,fne7_8⟩:=hI
     obtain ⟨d8,d3,d7,d0,d1,d2,-,-,d9,-⟩:=hdep
     (try simp only [gA]);(try simp only [gS]);(try simp only [gZ])
     obtain ⟨k7,rfl,hk7,FB⟩:=fP7 d8 hbk
     obtain ⟨g16,A16,n16,c16,rfl⟩:=(f16 d3).form
     obtain ⟨gx,Ax,nx,cx,Fq,-⟩:=id FB
     obtain ⟨c0,c1,c2,c3,c4⟩:=Fq
     go_simp
     refine hK.out (undef) _ (HT.out _ (((famb).setCell (p:=⟨k7,0,none⟩) (by show _ <= k7;omega) _).setCell (p:=⟨k7,1,none⟩) (by show _ <= k7;omega) _)) ?_
     rw [hInv]
     exact ⟨(((famb).setCell (p:=⟨k7,0,none⟩) (by show _ <= k7;omega) _).setCell (p:=⟨k7,1,none⟩) (by show _ <= k7;omega) _),(fun h0=>(f16 h0).at FB _ _),(fun h0=>(f20 h0).at FB _ _),(fun _ h=>absurd (show true = false from h) (by decide)),(fun h0=>⟨_,rfl,hk7,FB.store (f16 d3)⟩),(fun h0 h1=>(fP8 h0 h1).other FB (Ne.symm (fne7_8 d8 d9)) _ _),(fun h=>absurd ((show AllT b [9,7,10,0,1,2,3,4,5,6,7,8,9,10] from hcl 11 _ rfl h).2.2.1) (by rw [hbk];decide)),(fun h0 h1=>fne7_8 h0 h1)⟩
    refine EachFrom.cons (k:=11) rfl rfl (ds:=[9,7,10,0,1,2,3,4,5,6,7,8,9,10]) (by kernel_rfl) (fun v _=>v) (fun v x=>by rfl) (fun b v wz hb0 hcl hbk hdep hI Kc hK=>?_) ?_
    ·skip
     rw [hInv] at hI
     obtain ⟨x16,x20,x7,x8⟩:=v
     dsimp only at hI hK ⊢
     (try simp only [Act.put] at hK);(try simp only [tA] at hK);(try simp only [cS] at hK);(try simp only [cZ] at hK)
     obtain ⟨famb,f16,f20,fP7,fQ7,fP8,fQ8,fne7_8⟩:=hI
     obtain ⟨d9,d7,d10,d0,d1,d2,d3,d4,d5,d6,-,d8,-,-,-⟩:=hdep
     (try simp only [gA]);(try simp only [gS]);(try simp only [gZ])
     obtain ⟨k8,rfl,hk8,FB⟩:=fP8 d9 hbk
     obtain ⟨g20,A20,n20,c20,rfl⟩:=(f20 d7).form
     obtain ⟨gx,Ax,nx,cx,Fq,-⟩:=id FB
     obtain ⟨c0,c1,c2,c3,c4⟩:=Fq
     go_simp
     refine hK.out (undef) _ (HT.out _ (((famb).setCell (p:=⟨k8,0,none⟩) (by show _ <= k8;omega) _).setCell (p:=⟨k8,1,none⟩) (by show _ <= k8;omega) _)) ?_
     rw [hInv]
     exact ⟨(((famb).setCell (p:=⟨k8,0,none⟩) (by show _ <= k8;omega) _).setCell (p:=⟨k8,1,none⟩) (by show _ <= k8;omega) _),(fun h0=>(f16 h0).at FB _ _),(fun h0=>(f20 h0).at FB _ _),(fun _ h=>absurd (show b 10 = false from h) (by rw [d10];decide)),(fun h0=>(fQ7 h0).other FB (fne7_8 d8 d9) _ _),(fun _ h=>absurd (show true = false from h) (by decide)),(fun h0=>⟨_,rfl,hk8,FB.store (f20 d7)⟩),(fun h0 h1=>fne7_8 h0 h1)⟩
    exact EachFrom.nil (by kernel_rfl)
   ·intro v wE hI
    rw [hInv] at hI
    obtain ⟨x16,x20,x7,x8⟩:=v
    dsimp only at hI ⊢
    obtain ⟨famb,f16,f20,fP7,fQ7,fP8,fQ8,fne7_8⟩:=hI
    replace f16:=f16 rfl
    replace f20:=f20 rfl
    clear fP7
    replace fQ7:=fQ7 rfl
    clear fP8
    replace fQ8:=fQ8 rfl
    replace fne7_8:=fne7_8 rfl rfl
    clear hInv hB
    obtain ⟨k7,rfl,hk7,g7,A7,n7,c7,F7,V7⟩:=fQ7
    obtain ⟨k8,rfl,hk8,g8,A8,n8,c8,F8,V8⟩:=fQ8
    clear f16 f20
    go_wp2_with fail
    go_meet
    exact ⟨k7,k8,_,_,_,_,_,_,_,_,rfl,rfl,F7,V7,F8,V8,hk7,hk8,famb⟩
  case rest=>
   obtain ⟨k7,k8,u7,a7,l7,o7,u8,a8,l8,o8,rfl,rfl,hf1,hv1,hf2,hv2,hq7,hq8,hb⟩:=hcut
   obtain ⟨wB,rfl⟩ : ∃ wk,wk = wc:=⟨wc,rfl⟩
   have hswB:=hb.size
   replace B0:=Hd (B0.out.below hb)
   replace B1:=Hd (B1.out.below hb)
   replace BR:=Hd (BR.out.below hb)
   replace B5:=Hd (B5.out.below hb)
   replace B6:=Hd (B6.out.below hb)
   replace X1:=Hd (X1.out.below hb)
   replace Y1:=Hd (Y1.out.below hb)
   replace T1:=Hd (T1.out.below hb)
   replace T2:=Hd (T2.out.below hb)
   replace hw:=hw.trans (hb.mono hw.size)
   have B7:=Hd hf1
   have B8:=Hd hf2
   have T3:=Hd hv1
   have T4:=Hd hv2
   clear hf1 hf2 hv1 hv2 hb
   obtain ⟨N,D,hN,hD,hpos,hgc,hcross⟩:=mul_math hd hc hco1 hco2
   have HG1:=Hd (show (Int.gcd n c:Int) ≠ 0 from gcd_ne (by omega))
   have HG2:=Hd (show (Int.gcd m d:Int) ≠ 0 from gcd_ne (by omega))
   have HN:=Hd hN
   have HD:=Hd hD
   have HC:=Hd (And.intro hpos (And.intro hgc hcross))
   have hwn:=hw
   clear hN hD hpos hgc hcross
   go_upto_region 3 with fail
   have HT:=Hd (fun (w':World) (hb:Below wB.heap.size wB w')=>(show w'.cell? ⟨w.heap.size,0,none⟩ = some (.bool g1) /\ w'.cell? ⟨w.heap.size,1,none⟩ = some (.slice A1 n1 c1) /\ w'.cell? ⟨w.heap.size,2,none⟩ = some (.bool e1) /\ w'.cell? ⟨w.heap.size,3,none⟩ = some (.slice E1 m1 d1) /\ w'.cell? ⟨(w.heap.size + 1),0,none⟩ = some (.bool g2) /\ w'.cell? ⟨(w.heap.size + 1),1,none⟩ = some (.slice A2 n2 c2) /\ w'.cell? ⟨(w.heap.size + 1),2,none⟩ = some (.bool e2) /\ w'.cell? ⟨(w.heap.size + 1),3,none⟩ = some (.slice E2 m2 d2) /\ w'.cell? ⟨k5,0,none⟩ = some (.bool u5) /\ w'.cell? ⟨k5,1,none⟩ = some (.slice a5 l5 o5) /\ w'.cell? ⟨k6,0,none⟩ = some (.bool u6) /\ w'.cell? ⟨k6,1,none⟩ = some (.slice a6 l6 o6) /\ w'.cell? ⟨k7,0,none⟩ = some (.bool u7) /\ w'.cell? ⟨k7,1,none⟩ = some (.slice a7 l7 o7) /\ w'.cell? ⟨k8,0,none⟩ = some (.bool u8) /\ w'.cell? ⟨k8,1,none⟩ = some (.slice a8 l8 o8) from ⟨(B0.out.below hb).c0,(B0.out.below hb).c1,(B0.out.below hb).c2,(B0.out.below hb).c3,(B1.out.below hb).c0,(B1.out.below hb).c1,(B1.out.below hb).c2,(B1.out.below hb).c3,(B5.out.below hb).1,(B5.out.below hb).2.1,(B6.out.below hb).1,(B6.out.below hb).2.1,(B7.out.below hb).1,(B7.out.below hb).2.1,(B8.out.below hb).1,(B8.out.below hb).2.1⟩))
   have HP:=Hd (fun (w':World) (x0 x1 x2 x3:Value) (h:w'.cell? ⟨w.heap.size,0,none⟩ = some (.bool g1) /\ w'.cell? ⟨w.heap.size,1,none⟩ = some (.slice A1 n1 c1) /\ w'.cell? ⟨w.heap.size,2,none⟩ = some (.bool e1) /\ w'.cell? ⟨w.heap.size,3,none⟩ = some (.slice E1 m1 d1) /\ w'.cell? ⟨(w.heap.size + 1),0,none⟩ = some (.bool g2) /\ w'.cell? ⟨(w.heap.size + 1),1,none⟩ = some (.slice A2 n2 c2) /\ w'.cell? ⟨(w.heap.size + 1),2,none⟩ = some (.bool e2) /\ w'.cell? ⟨(w.heap.size + 1),3,none⟩ = some (.slice E2 m2 d2) /\ w'.cell? ⟨k5,0,none⟩ = some (.bool u5) /\ w'.cell? ⟨k5,1,none⟩ = some (.slice a5 l5 o5) /\ w'.cell? ⟨k6,0,none⟩ = some (.bool u6) /\ w'.cell? ⟨k6,1,none⟩ = some (.slice a6 l6 o6) /\ w'.cell? ⟨k7,0,none⟩ = some (.bool u7) /\ w'.cell? ⟨k7,1,none⟩ = some (.slice a7 l7 o7) /\ w'.cell? ⟨k8,0,none⟩ = some (.bool u8) /\ w'.cell? ⟨k8,1,none⟩ = some (.slice a8 l8 o8))=>(show (fun w'=>w'.cell? ⟨w.heap.size,0,none⟩ = some (.bool g1) /\ w'.cell? ⟨w.heap.size,1,none⟩ = some (.slice A1 n1 c1) /\ w'.cell? ⟨w.heap.size,2,none⟩ = some (.bool e1) /\ w'.cell? ⟨w.heap.size,3,none⟩ = some (.slice E1 m1 d1) /\ w'.cell? ⟨(w.heap.size + 1),0,none⟩ = some (.bool g2) /\ w'.cell? ⟨(w.heap.size + 1),1,none⟩ = some (.slice A2 n2 c2) /\ w'.cell? ⟨(w.heap.size + 1),2,none⟩ = some (.bool e2) /\ w'.cell? ⟨(w.heap.size + 1),3,none⟩ = some (.slice E2 m2 d2) /\ w'.cell? ⟨k5,0,none⟩ = some (.bool u5) /\ w'.cell? ⟨k5,1,none⟩ = some (.slice a5 l5 o5) /\ w'.cell? ⟨k6,0,none⟩ = some (.bool u6) /\ w'.cell? ⟨k6,1,none⟩ = some (.slice a6 l6 o6) /\ w'.cell? ⟨k7,0,none⟩ = some (.bool u7) /\ w'.cell? ⟨k7,1,none⟩ = some (.slice a7 l7 o7) /\ w'.cell? ⟨k8,0,none⟩ = some (.bool u8) /\ w'.cell? ⟨k8,1,none⟩ = some (.slice a8 l8 o8)) (put4 w' (w.heap.size + 1 + 1) x0 x1 x2 x3) from ⟨(cell_put4 (by omega) _ _ _ _).trans h.1,(cell_put4 (by omega) _ _ _ _).trans h.2.1,(cell_put4 (by omega) _ _ _ _).trans h.2.2.1,(cell_put4 (by omega) _ _ _ _).trans h.2.2.2.1,(cell_put4 (by omega) _ _ _ _).trans h.2.2.2.2.1,(cell_put4 (by omega) _ _ _ _).trans h.2.2.2.2.2.1,(cell_put4 (by omega) _ _ _ _).trans h.2.2.2.2.2.2.1,(cell_put4 (by omega) _ _ _ _).trans h.2.2.2.2.2.2.2.1,(cell_put4 (by omega) _ _ _ _).trans h.2.2.2.2.2.2.2.2.1,(cell_put4 (by omega) _ _ _ _).trans h.2.2.2.2.2.2.2.2.2.1,(cell_put4 (by omega) _ _ _ _).trans h.2.2.2.2.2.2.2.2.2.2.1,(cell_put4 (by omega) _ _ _ _).trans h.2.2.2.2.2.2.2.2.2.2.2.1,(cell_put4 (by omega) _ _ _ _).trans h.2.2.2.2.2.2.2.2.2.2.2.2.1,(cell_put4 (by omega) _ _ _ _).trans h.2.2.2.2.2.2.2.2.2.2.2.2.2.1,(cell_put4 (by omega) _ _ _ _).trans h.2.2.2.2.2.2.2.2.2.2.2.2.2.2.1,(cell_put4 (by omega) _ _ _ _).trans h.2.2.2.2.2.2.2.2.2.2.2.2.2.2.2⟩))
   obtain ⟨Inv,hInv⟩ : ∃ J:(Nat -> Bool) -> (Value × Value × Value × Value × Value × Value × Value) -> World -> Prop,J = fun b v w'=>(b 17 = false -> Below wB.heap.size wB w') /\ (Below w.heap.size w w') /\ (b 3 = true -> Ival w' v.1 (n.tdiv (Int.gcd n c:Int)) (L + 2)) /\ (b 7 = true -> Ival w' v.2.1 (m.tdiv (Int.gcd m d:Int)) (L + 2)) /\ (b 8 = true -> Ival w' v.2.2.1 (n.tdiv (Int.gcd n c:Int) * m.tdiv (Int.gcd m d:Int)) (L + 2 + (L + 2))) /\ (b 11 = true -> Ival w' v.2.2.2.1 (d.tdiv (Int.gcd m d:Int)) (L + 2)) /\ (b 14 = true -> Ival w' v.2.2.2.2.1 (c.tdiv (Int.gcd n c:Int)) (L + 2)) /\ (b 15 = true -> Ival w' v.2.2.2.2.2.1 (d.tdiv (Int.gcd m d:Int) * c.tdiv (Int.gcd n c:Int)) (L + 2 + (L + 2))) /\ (b 16 = true -> Rat w' v.2.2.2.2.2.2 (N) (D) (L + 2 + (L + 2))) /\ (b 17 = true -> ∃ u1 K1 l1 o1 u2 K2 l2 o2,Fx4 w' (w.heap.size + 1 + 1) (.bool u1) (.slice K1 l1 o1) (.bool u2) (.slice K2 l2 o2) /\ Rat w' (.agg #[.bool u1,.slice K1 l1 o1,.bool u2,.slice K2 l2 o2]) (N) (D) (L + 2 + (L + 2))):=⟨_,rfl⟩
   have hB:=(Below.refl wB.heap.size wB).drew
   refine wp_region_held_drew (S:=fun w'=>w'.cell? ⟨w.heap.size,0,none⟩ = some (.bool g1) /\ w'.cell? ⟨w.heap.size,1,none⟩ = some (.slice A1 n1 c1) /\ w'.cell? ⟨w.heap.size,2,none⟩ = some (.bool e1) /\ w'.cell? ⟨w.heap.size,3,none⟩ = some (.slice E1 m1 d1) /\ w'.cell? ⟨(w.heap.size + 1),0,none⟩ = some (.bool g2) /\ w'.cell? ⟨(w.heap.size + 1),1,none⟩ = some (.slice A2 n2 c2) /\ w'.cell? ⟨(w.heap.size + 1),2,none⟩ = some (.bool e2) /\ w'.cell? ⟨(w.heap.size + 1),3,none⟩ = some (.slice E2 m2 d2) /\ w'.cell? ⟨k5,0,none⟩ = some (.bool u5) /\ w'.cell? ⟨k5,1,none⟩ = some (.slice a5 l5 o5) /\ w'.cell? ⟨k6,0,none⟩ = some (.bool u6) /\ w'.cell? ⟨k6,1,none⟩ = some (.slice a6 l6 o6) /\ w'.cell? ⟨k7,0,none⟩ = some (.bool u7) /\ w'.cell? ⟨k7,1,none⟩ = some (.slice a7 l7 o7) /\ w'.cell? ⟨k8,0,none⟩ = some (.bool u8) /\ w'.cell? ⟨k8,1,none⟩ = some (.slice a8 l8 o8)) (by kernel_rfl) (HT.out _ hB) (fun hH=>?_)
   clear hH
   generalize wB.drew = wr0 at *
   refine tk 0 21 (by first | assumption | exact HT.out _ hB | trivial) ?_
   try simp only [Act.put,tA,cZ,cS]
   refine tk 2 23 (by first | assumption | exact HT.out _ hB | trivial) ?_
   try simp only [Act.put,tA,cZ,cS]
   refine tk 4 25 (by first | assumption | exact HT.out _ hB | trivial) ?_
   try simp only [Act.put,tA,cZ,cS]
   refine tk 6 27 (by first | assumption | exact HT.out _ hB | trivial) ?_
   try simp only [Act.put,tA,cZ,cS]
   refine tk 9 30 (by first | assumption | exact HT.out _ hB | trivial) ?_
   try simp only [Act.put,tA,cZ,cS]
   refine tk 10 31 (by first | assumption | exact HT.out _ hB | trivial) ?_
   try simp only [Act.put,tA,cZ,cS]
   refine tk 12 33 (by first | assumption | exact HT.out _ hB | trivial) ?_
   try simp only [Act.put,tA,cZ,cS]
   refine tk 13 34 (by first | assumption | exact HT.out _ hB | trivial) ?_
   try simp only [Act.put,tA,cZ,cS]
   refine tk 1 22 (by first | assumption | exact HT.out _ hB | trivial) ?_
   try simp only [Act.put,tA,cZ,cS]
   refine tk 5 26 (by first | assumption | exact HT.out _ hB | trivial) ?_
   try simp only [Act.put,tA,cZ,cS]
   refine wpAnyH_begin (V:=Value × Value × Value × Value × Value × Value × Value) (I:=Inv) (A:=?_) [true,true,true,false,true,true,true,false,false,true,true,false,true,true,false,false,false,false] [24,28,29,32,35,36,37] (fun v=>[v.1,v.2.1,v.2.2.1,v.2.2.2.1,v.2.2.2.2.1,v.2.2.2.2.2.1,v.2.2.2.2.2.2]) (fun a=>(a.tmps.getD 24 undef,a.tmps.getD 28 undef,a.tmps.getD 29 undef,a.tmps.getD 32 undef,a.tmps.getD 35 undef,a.tmps.getD 36 undef,a.tmps.getD 37 undef)) ?_ ?_ (by kernel_rfl) (by kernel_rfl) (by kernel_rfl) (by kernel_rfl) (by kernel_rfl) ?_ ?_ ?_
   rotate_left 1
   ·intro v;simp only [fillA,Act.put,tA,cZ,cS];rfl
   ·rfl
   ·rw [hInv]
    exact ⟨(fun _=>hB),(hw.trans (hB.mono hw.size)),(fun h=>absurd h (by decide)),(fun h=>absurd h (by decide)),(fun h=>absurd h (by decide)),(fun h=>absurd h (by decide)),(fun h=>absurd h (by decide)),(fun h=>absurd h (by decide)),(fun h=>absurd h (by decide)),(fun h=>absurd h (by decide))⟩
   ·skip
    refine EachFrom.skip (by rfl) ?_
    refine EachFrom.skip (by rfl) ?_
    refine EachFrom.skip (by rfl) ?_
    refine EachFrom.cons (k:=3) rfl rfl (ds:=[1,2]) (by kernel_rfl) (fun v x=>(x,v.2.1,v.2.2.1,v.2.2.2.1,v.2.2.2.2.1,v.2.2.2.2.2.1,v.2.2.2.2.2.2)) (fun v x=>by rfl) (fun b v wz hb0 hcl hbk hdep hI Kc hK=>?_) ?_
    ·skip
     rw [hInv] at hI
     obtain ⟨x24,x28,x29,x32,x35,x36,x37⟩:=v
     dsimp only at hI hK ⊢
     (try simp only [Act.put] at hK);(try simp only [tA] at hK);(try simp only [cS] at hK);(try simp only [cZ] at hK)
     obtain ⟨famb,fn,f24,f28,f29,f32,f35,f36,f37,fres⟩:=hI
     obtain ⟨d1,d2,-⟩:=hdep
     (try simp only [gA]);(try simp only [gS]);(try simp only [gZ])
     have hA:=famb (by cases h:b 17 with | false=>rfl | true=>exact absurd ((show AllT b [16,16,0,1,2,3,4,5,6,7,8,9,10,11,12,13,14,15,16] from hcl 17 _ rfl h).2.2.2.2.2.1) (by rw [hbk];decide))
     go_simp
     (go_at_call 98;refine (part_any _ _ n (Int.gcd n c:Int) L L _ (X1.out.below hA) (T3.out.below hA) hL1 hL1 HG1.out).mono ?_;rintro e w1 ⟨⟨g24,A24,n24,c24,rfl,hz⟩,hb⟩)
     refine hK.out _ _ (HT.out _ (hA.trans (hb.mono hA.size))) ?_
     rw [hInv]
     exact ⟨(fun h0=>(famb h0).trans (hb.mono (famb h0).size)),((fn).trans (hb.mono (fn).size)),(fun h0=>hz),(fun h=>absurd ((show AllT b [5,6,3] from hcl 7 _ rfl h).2.2.1) (by rw [hbk];decide)),(fun h=>absurd ((show AllT b [3,7,7] from hcl 8 _ rfl h).1) (by rw [hbk];decide)),(fun h=>absurd ((show AllT b [3,7,7] from hcl 8 _ rfl ((show AllT b [9,10,8] from hcl 11 _ rfl h).2.2.1)).1) (by rw [hbk];decide)),(fun h=>absurd ((show AllT b [3,7,7] from hcl 8 _ rfl ((show AllT b [9,10,8] from hcl 11 _ rfl ((show AllT b [12,13,11] from hcl 14 _ rfl h).2.2.1)).2.2.1)).1) (by rw [hbk];decide)),(fun h=>absurd ((show AllT b [3,7,7] from hcl 8 _ rfl ((show AllT b [9,10,8] from hcl 11 _ rfl ((show AllT b [11,14,14] from hcl 15 _ rfl h).1)).2.2.1)).1) (by rw [hbk];decide)),(fun h=>absurd ((show AllT b [3,7,7] from hcl 8 _ rfl ((show AllT b [8,15,15] from hcl 16 _ rfl h).1)).1) (by rw [hbk];decide)),(fun h=>absurd ((show AllT b [16,16,0,1,2,3,4,5,6,7,8,9,10,11,12,13,14,15,16] from hcl 17 _ rfl h).2.2.2.2.2.1) (by rw [hbk];decide))⟩
    refine EachFrom.skip (by rfl) ?_
    refine EachFrom.skip (by rfl) ?_
    refine EachFrom.skip (by rfl) ?_
    refine EachFrom.cons (k:=7) rfl rfl (ds:=[5,6,3]) (by kernel_rfl) (fun v x=>(v.1,x,v.2.2.1,v.2.2.2.1,v.2.2.2.2.1,v.2.2.2.2.2.1,v.2.2.2.2.2.2)) (fun v x=>by rfl) (fun b v wz hb0 hcl hbk hdep hI Kc hK=>?_) ?_
    ·skip
     rw [hInv] at hI
     obtain ⟨x24,x28,x29,x32,x35,x36,x37⟩:=v
     dsimp only at hI hK ⊢
     (try simp only [Act.put] at hK);(try simp only [tA] at hK);(try simp only [cS] at hK);(try simp only [cZ] at hK)
     obtain ⟨famb,fn,f24,f28,f29,f32,f35,f36,f37,fres⟩:=hI
     obtain ⟨d5,d6,d3,-⟩:=hdep
     (try simp only [gA]);(try simp only [gS]);(try simp only [gZ])
     have hA:=famb (by cases h:b 17 with | false=>rfl | true=>exact absurd ((show AllT b [16,16,0,1,2,3,4,5,6,7,8,9,10,11,12,13,14,15,16] from hcl 17 _ rfl h).2.2.2.2.2.2.2.2.2.1) (by rw [hbk];decide))
     go_simp
     (go_at_call 98;refine (part_any _ _ m (Int.gcd m d:Int) L L _ (Y1.out.below hA) (T4.out.below hA) hL1 hL1 HG2.out).mono ?_;rintro e w1 ⟨⟨g28,A28,n28,c28,rfl,hz⟩,hb⟩)
     refine hK.out _ _ (HT.out _ (hA.trans (hb.mono hA.size))) ?_
     rw [hInv]
     exact ⟨(fun h0=>(famb h0).trans (hb.mono (famb h0).size)),((fn).trans (hb.mono (fn).size)),(fun h0=>(f24 h0).below hb),(fun h0=>hz),(fun h=>absurd ((show AllT b [3,7,7] from hcl 8 _ rfl h).2.1) (by rw [hbk];decide)),(fun h=>absurd ((show AllT b [3,7,7] from hcl 8 _ rfl ((show AllT b [9,10,8] from hcl 11 _ rfl h).2.2.1)).2.1) (by rw [hbk];decide)),(fun h=>absurd ((show AllT b [3,7,7] from hcl 8 _ rfl ((show AllT b [9,10,8] from hcl 11 _ rfl ((show AllT b [12,13,11] from hcl 14 _ rfl h).2.2.1)).2.2.1)).2.1) (by rw [hbk];decide)),(fun h=>absurd ((show AllT b [3,7,7] from hcl 8 _ rfl ((show AllT b [9,10,8] from hcl 11 _ rfl ((show AllT b [11,14,14] from hcl 15 _ rfl h).1)).2.2.1)).2.1) (by rw [hbk];decide)),(fun h=>absurd ((show AllT b [3,7,7] from hcl 8 _ rfl ((show AllT b [8,15,15] from hcl 16 _ rfl h).1)).2.1) (by rw [hbk];decide)),(fun h=>absurd ((show AllT b [16,16,0,1,2,3,4,5,6,7,8,9,10,11,12,13,14,15,16] from hcl 17 _ rfl h).2.2.2.2.2.2.2.2.2.1) (by rw [hbk];decide))⟩
    refine EachFrom.cons (k:=8) rfl rfl (ds:=[3,7,7]) (by kernel_rfl) (fun v x=>(v.1,v.2.1,x,v.2.2.2.1,v.2.2.2.2.1,v.2.2.2.2.2.1,v.2.2.2.2.2.2)) (fun v x=>by rfl) (fun b v wz hb0 hcl hbk hdep hI Kc hK=>?_) ?_
    ·skip
     rw [hInv] at hI
     obtain ⟨x24,x28,x29,x32,x35,x36,x37⟩:=v
     dsimp only at hI hK ⊢
     (try simp only [Act.put] at hK);(try simp only [tA] at hK);(try simp only [cS] at hK);(try simp only [cZ] at hK)
     obtain ⟨famb,fn,f24,f28,f29,f32,f35,f36,f37,fres⟩:=hI
     obtain ⟨d3,d7,-,-⟩:=hdep
     (try simp only [gA]);(try simp only [gS]);(try simp only [gZ])
     have hA:=famb (by cases h:b 17 with | false=>rfl | true=>exact absurd ((show AllT b [16,16,0,1,2,3,4,5,6,7,8,9,10,11,12,13,14,15,16] from hcl 17 _ rfl h).2.2.2.2.2.2.2.2.2.2.1) (by rw [hbk];decide))
     go_simp
     (go_at_call 97;refine (mul_t _ _ _ _ (L + 2) (L + 2) _ (f24 d3) (f28 d7) (by omega) (by omega)).mono ?_;rintro e w1 ⟨⟨g29,A29,n29,c29,rfl,hz⟩,hb⟩)
     refine hK.out _ _ (HT.out _ (hA.trans (hb.mono hA.size))) ?_
     rw [hInv]
     exact ⟨(fun h0=>(famb h0).trans (hb.mono (famb h0).size)),((fn).trans (hb.mono (fn).size)),(fun h0=>(f24 h0).below hb),(fun h0=>(f28 h0).below hb),(fun h0=>hz),(fun h=>absurd ((show AllT b [9,10,8] from hcl 11 _ rfl h).2.2.1) (by rw [hbk];decide)),(fun h=>absurd ((show AllT b [9,10,8] from hcl 11 _ rfl ((show AllT b [12,13,11] from hcl 14 _ rfl h).2.2.1)).2.2.1) (by rw [hbk];decide)),(fun h=>absurd ((show AllT b [9,10,8] from hcl 11 _ rfl ((show AllT b [11,14,14] from hcl 15 _ rfl h).1)).2.2.1) (by rw [hbk];decide)),(fun h=>absurd ((show AllT b [8,15,15] from hcl 16 _ rfl h).1) (by rw [hbk];decide)),(fun h=>absurd ((show AllT b [16,16,0,1,2,3,4,5,6,7,8,9,10,11,12,13,14,15,16] from hcl 17 _ rfl h).2.2.2.2.2.2.2.2.2.2.1) (by rw [hbk];decide))⟩
    refine EachFrom.skip (by rfl) ?_
    refine EachFrom.skip (by rfl) ?_
    refine EachFrom.cons (k:=11) rfl rfl (ds:=[9,10,8]) (by kernel_rfl) (fun v x=>(v.1,v.2.1,v.2.2.1,x,v.2.2.2.2.1,v.2.2.2.2.2.1,v.2.2.2.2.2.2)) (fun v x=>by rfl) (fun b v wz hb0 hcl hbk hdep hI Kc hK=>?_) ?_
    ·skip
     rw [hInv] at hI
     obtain ⟨x24,x28,x29,x32,x35,x36,x37⟩:=v
     dsimp only at hI hK ⊢
     (try simp only [Act.put] at hK);(try simp only [tA] at hK);(try simp only [cS] at hK);(try simp only [cZ] at hK)
     obtain ⟨famb,fn,f24,f28,f29,f32,f35,f36,f37,fres⟩:=hI
     obtain ⟨d9,d10,d8,-⟩:=hdep
     (try simp only [gA]);(try simp only [gS]);(try simp only [gZ])
     have hA:=famb (by cases h:b 17 with | false=>rfl | true=>exact absurd ((show AllT b [16,16,0,1,2,3,4,5,6,7,8,9,10,11,12,13,14,15,16] from hcl 17 _ rfl h).2.2.2.2.2.2.2.2.2.2.2.2.2.1) (by rw [hbk];decide))
     go_simp
     (go_at_call 98;refine (part_any _ _ d (Int.gcd m d:Int) L L _ (T1.out.below hA) (T4.out.below hA) hL1 hL1 HG2.out).mono ?_;rintro e w1 ⟨⟨g32,A32,n32,c32,rfl,hz⟩,hb⟩)
     refine hK.out _ _ (HT.out _ (hA.trans (hb.mono hA.size))) ?_
     rw [hInv]
     exact ⟨(fun h0=>(famb h0).trans (hb.mono (famb h0).size)),((fn).trans (hb.mono (fn).size)),(fun h0=>(f24 h0).below hb),(fun h0=>(f28 h0).below hb),(fun h0=>(f29 h0).below hb),(fun h0=>hz),(fun h=>absurd ((show AllT b [12,13,11] from hcl 14 _ rfl h).2.2.1) (by rw [hbk];decide)),(fun h=>absurd ((show AllT b [11,14,14] from hcl 15 _ rfl h).1) (by rw [hbk];decide)),(fun h=>absurd ((show AllT b [11,14,14] from hcl 15 _ rfl ((show AllT b [8,15,15] from hcl 16 _ rfl h).2.1)).1) (by rw [hbk];decide)),(fun h=>absurd ((show AllT b [16,16,0,1,2,3,4,5,6,7,8,9,10,11,12,13,14,15,16] from hcl 17 _ rfl h).2.2.2.2.2.2.2.2.2.2.2.2.2.1) (by rw [hbk];decide))⟩
    refine EachFrom.skip (by rfl) ?_
    refine EachFrom.skip (by rfl) ?_
    refine EachFrom.cons (k:=14) rfl rfl (ds:=[12,13,11]) (by kernel_rfl) (fun v x=>(v.1,v.2.1,v.2.2.1,v.2.2.2.1,x,v.2.2.2.2.2.1,v.2.2.2.2.2.2)) (fun v x=>by rfl) (fun b v wz hb0 hcl hbk hdep hI Kc hK=>?_) ?_
    ·skip
     rw [hInv] at hI
     obtain ⟨x24,x28,x29,x32,x35,x36,x37⟩:=v
     dsimp only at hI hK ⊢
     (try simp only [Act.put] at hK);(try simp only [tA] at hK);(try simp only [cS] at hK);(try simp only [cZ] at hK)
     obtain ⟨famb,fn,f24,f28,f29,f32,f35,f36,f37,fres⟩:=hI
     obtain ⟨d12,d13,d11,-⟩:=hdep
     (try simp only [gA]);(try simp only [gS]);(try simp only [gZ])
     have hA:=famb (by cases h:b 17 with | false=>rfl | true=>exact absurd ((show AllT b [16,16,0,1,2,3,4,5,6,7,8,9,10,11,12,13,14,15,16] from hcl 17 _ rfl h).2.2.2.2.2.2.2.2.2.2.2.2.2.2.2.2.1) (by rw [hbk];decide))
     go_simp
     (go_at_call 98;refine (part_any _ _ c (Int.gcd n c:Int) L L _ (T2.out.below hA) (T3.out.below hA) hL1 hL1 HG1.out).mono ?_;rintro e w1 ⟨⟨g35,A35,n35,c35,rfl,hz⟩,hb⟩)
     refine hK.out _ _ (HT.out _ (hA.trans (hb.mono hA.size))) ?_
     rw [hInv]
     exact ⟨(fun h0=>(famb h0).trans (hb.mono (famb h0).size)),((fn).trans (hb.mono (fn).size)),(fun h0=>(f24 h0).below hb),(fun h0=>(f28 h0).below hb),(fun h0=>(f29 h0).below hb),(fun h0=>(f32 h0).below hb),(fun h0=>hz),(fun h=>absurd ((show AllT b [11,14,14] from hcl 15 _ rfl h).2.1) (by rw [hbk];decide)),(fun h=>absurd ((show AllT b [11,14,14] from hcl 15 _ rfl ((show AllT b [8,15,15] from hcl 16 _ rfl h).2.1)).2.1) (by rw [hbk];decide)),(fun h=>absurd ((show AllT b [16,16,0,1,2,3,4,5,6,7,8,9,10,11,12,13,14,15,16] from hcl 17 _ rfl h).2.2.2.2.2.2.2.2.2.2.2.2.2.2.2.2.1) (by rw [hbk];decide))⟩
    refine EachFrom.cons (k:=15) rfl rfl (ds:=[11,14,14]) (by kernel_rfl) (fun v x=>(v.1,v.2.1,v.2.2.1,v.2.2.2.1,v.2.2.2.2.1,x,v.2.2.2.2.2.2)) (fun v x=>by rfl) (fun b v wz hb0 hcl hbk hdep hI Kc hK=>?_) ?_
    ·skip
     rw [hInv] at hI
     obtain ⟨x24,x28,x29,x32,x35,x36,x37⟩:=v
     dsimp only at hI hK ⊢
     (try simp only [Act.put] at hK);(try simp only [tA] at hK);(try simp only [cS] at hK);(try simp only [cZ] at hK)
     obtain ⟨famb,fn,f24,f28,f29,f32,f35,f36,f37,fres⟩:=hI
     obtain ⟨d11,d14,-,-⟩:=hdep
     (try simp only [gA]);(try simp only [gS]);(try simp only [gZ])
     have hA:=famb (by cases h:b 17 with | false=>rfl | true=>exact absurd ((show AllT b [16,16,0,1,2,3,4,5,6,7,8,9,10,11,12,13,14,15,16] from hcl 17 _ rfl h).2.2.2.2.2.2.2.2.2.2.2.2.2.2.2.2.2.1) (by rw [hbk];decide))
     go_simp
     (go_at_call 97;refine (mul_t _ _ _ _ (L + 2) (L + 2) _ (f32 d11) (f35 d14) (by omega) (by omega)).mono ?_;rintro e w1 ⟨⟨g36,A36,n36,c36,rfl,hz⟩,hb⟩)
     refine hK.out _ _ (HT.out _ (hA.trans (hb.mono hA.size))) ?_
     rw [hInv]
     exact ⟨(fun h0=>(famb h0).trans (hb.mono (famb h0).size)),((fn).trans (hb.mono (fn).size)),(fun h0=>(f24 h0).below hb),(fun h0=>(f28 h0).below hb),(fun h0=>(f29 h0).below hb),(fun h0=>(f32 h0).below hb),(fun h0=>(f35 h0).below hb),(fun h0=>hz),(fun h=>absurd ((show AllT b [8,15,15] from hcl 16 _ rfl h).2.1) (by rw [hbk];decide)),(fun h=>absurd ((show AllT b [16,16,0,1,2,3,4,5,6,7,8,9,10,11,12,13,14,15,16] from hcl 17 _ rfl h).2.2.2.2.2.2.2.2.2.2.2.2.2.2.2.2.2.1) (by rw [hbk];decide))⟩
    refine EachFrom.cons (k:=16) rfl rfl (ds:=[8,15,15]) (by kernel_rfl) (fun v x=>(v.1,v.2.1,v.2.2.1,v.2.2.2.1,v.2.2.2.2.1,v.2.2.2.2.2.1,x)) (fun v x=>by rfl) (fun b v wz hb0 hcl hbk hdep hI Kc hK=>?_) ?_
    ·skip
     rw [hInv] at hI
     obtain ⟨x24,x28,x29,x32,x35,x36,x37⟩:=v
     dsimp only at hI hK ⊢
     (try simp only [Act.put] at hK);(try simp only [tA] at hK);(try simp only [cS] at hK);(try simp only [cZ] at hK)
     obtain ⟨famb,fn,f24,f28,f29,f32,f35,f36,f37,fres⟩:=hI
     obtain ⟨d8,d15,-,-⟩:=hdep
     (try simp only [gA]);(try simp only [gS]);(try simp only [gZ])
     have hA:=famb (by cases h:b 17 with | false=>rfl | true=>exact absurd ((show AllT b [16,16,0,1,2,3,4,5,6,7,8,9,10,11,12,13,14,15,16] from hcl 17 _ rfl h).1) (by rw [hbk];decide))
     go_simp
     (go_at_call 92;refine (coprime_c _ _ _ _ (L + 2 + (L + 2)) _ (f29 d8) (f36 d15) (by omega)).mono ?_;rintro e w1 ⟨⟨g37,A37,n37,c37,e37,E37,m37,d37,rfl,hz,hzd⟩,hb⟩)
     refine hK.out _ _ (HT.out _ (hA.trans (hb.mono hA.size))) ?_
     rw [hInv]
     exact ⟨(fun h0=>(famb h0).trans (hb.mono (famb h0).size)),((fn).trans (hb.mono (fn).size)),(fun h0=>(f24 h0).below hb),(fun h0=>(f28 h0).below hb),(fun h0=>(f29 h0).below hb),(fun h0=>(f32 h0).below hb),(fun h0=>(f35 h0).below hb),(fun h0=>(f36 h0).below hb),(fun h0=>(by rw [HN.out] at hz;rw [HD.out] at hzd;exact Rat.mk' hz hzd HC.out.1 HC.out.2.1)),(fun h=>absurd ((show AllT b [16,16,0,1,2,3,4,5,6,7,8,9,10,11,12,13,14,15,16] from hcl 17 _ rfl h).1) (by rw [hbk];decide))⟩
    refine EachFrom.cons (k:=17) rfl rfl (ds:=[16,16,0,1,2,3,4,5,6,7,8,9,10,11,12,13,14,15,16]) (by kernel_rfl) (fun v _=>v) (fun v x=>by rfl) (fun b v wz hb0 hcl hbk hdep hI Kc hK=>?_) ?_
    ·skip
     rw [hInv] at hI
     obtain ⟨x24,x28,x29,x32,x35,x36,x37⟩:=v
     dsimp only at hI hK ⊢
     (try simp only [Act.put] at hK);(try simp only [tA] at hK);(try simp only [cS] at hK);(try simp only [cZ] at hK)
     obtain ⟨famb,fn,f24,f28,f29,f32,f35,f36,f37,fres⟩:=hI
     obtain ⟨d16,-,d0,d1,d2,d3,d4,d5,d6,d7,d8,d9,d10,d11,d12,d13,d14,d15,-,-⟩:=hdep
     (try simp only [gA]);(try simp only [gS]);(try simp only [gZ])
     have FB:=BR.out.below (famb hbk)
     have hN:=f37 d16
     obtain ⟨u1,K1,l1,o1,u2,K2,l2,o2,rfl⟩:=hN.form
     obtain ⟨r0,r1,r2,r3,r4,r5,r6,r7,r8⟩:=id FB
     go_simp
     refine hK.out (undef) _ (HP.out _ _ _ _ _ (HT.out _ (famb hbk))) ?_
     rw [hInv]
     exact ⟨(fun h=>absurd (show true = false from h) (by decide)),((below_put4 fn (by omega) _ _ _ _)),(fun h0=>(f24 h0).put4 FB _ _ _ _),(fun h0=>(f28 h0).put4 FB _ _ _ _),(fun h0=>(f29 h0).put4 FB _ _ _ _),(fun h0=>(f32 h0).put4 FB _ _ _ _),(fun h0=>(f35 h0).put4 FB _ _ _ _),(fun h0=>(f36 h0).put4 FB _ _ _ _),(fun h0=>(f37 h0).put4 FB _ _ _ _),(fun h0=>⟨_,_,_,_,_,_,_,_,FB.put _ _ _ _,hN.put4 FB _ _ _ _⟩)⟩
    exact EachFrom.nil (by kernel_rfl)
   ·intro v wE hI
    rw [hInv] at hI
    obtain ⟨x24,x28,x29,x32,x35,x36,x37⟩:=v
    dsimp only at hI ⊢
    obtain ⟨famb,fn,f24,f28,f29,f32,f35,f36,f37,fres⟩:=hI
    clear famb
    replace f24:=f24 rfl
    replace f28:=f28 rfl
    replace f29:=f29 rfl
    replace f32:=f32 rfl
    replace f35:=f35 rfl
    replace f36:=f36 rfl
    replace f37:=f37 rfl
    replace fres:=fres rfl
    clear hInv hB
    clear f24 f28 f29 f32 f35 f36 f37
    obtain ⟨u1,K1,l1,o1,u2,K2,l2,o2,FB,hR⟩:=fres
    obtain ⟨r0,r1,r2,r3,r4,r5,r6,r7,r8⟩:=id FB
    go_wp2
    refine bodyPost_ret (v:=.agg #[.bool u1,.slice K1 l1 o1,.bool u2,.slice K2 l2 o2]) (by simp [results,Tryz.results44,go_sem,r0,r1,r2,r3]) rfl ⟨N,D,HC.out.2.2,⟨⟨_,_,_,_,_,_,_,_,rfl,hR⟩,fn⟩⟩
end Go.Proofs.YtbajnceoolkckaaGreat
