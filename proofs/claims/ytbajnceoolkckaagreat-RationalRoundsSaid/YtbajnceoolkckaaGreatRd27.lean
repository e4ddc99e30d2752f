/- Of the proof of RationalRounds: RatP. -/
import Derived.Test.YtbajnceoolkckaaGreatRd26
open List renaming getElem_toArray → gA, getElem_cons_succ → gS, getElem_cons_zero → gZ, setIfInBounds_toArray → tA, set_cons_zero → cZ, set_cons_succ → cS
open Go.Lib renaming hid → Hd
set_option maxRecDepth 100000
set_option maxHeartbeats 16000000
namespace Go.Proofs.YtbajnceoolkckaaGreat
open Go.RowKit LM
theorem IBox.lt_pow {w:World} {b:Nat} {z:Int} {L:Nat} (h:IBox w b z L) : z < BB ^ L:=by
 obtain ⟨g,A,n,c,F,V⟩:=h;exact V.lt_pow
theorem quo_bounds {x y:Int} {L:Nat} (hx:0 < x) (hy:0 < y) (h1:x < BB ^ L) (_h2:y < BB ^ L) : 0 <= x / y /\ x / y < BB ^ L:=by
 have h:=Int.ediv_le_self y (Int.le_of_lt hx)
 exact ⟨Int.ediv_nonneg (Int.le_of_lt hx) (Int.le_of_lt hy),by omega⟩
theorem rem_bounds {x y:Int} {L:Nat} (hy:0 < y) (h2:y < BB ^ L) : 0 <= x % y /\ x % y < BB ^ L:=by
 have h:=Int.emod_lt_of_pos x hy
 exact ⟨Int.emod_nonneg _ (by omega),by omega⟩
theorem Range.m0 {n d m c:Int} (h:Range n d m c) : 0 < m:=by
 have h1:=Int.mul_pos h.n0 h.c0
 have h2:=h.le
 rcases Int.lt_or_le 0 m with h3 | h3
 ·exact h3
 ·have:=Int.mul_nonpos_of_nonpos_of_nonneg h3 (Int.le_of_lt h.d0);omega
theorem pow32 (L:Nat) : BB ^ L = 2 ^ (32 * L):=by rw [BB_def,show (4294967296:Int) = 2 ^ 32 from by decide,Int.pow_mul]
theorem ContrAns.ok {M:Nat} {zs:List Int} {w:World} {e:Ending} {w':World} (h0:zs ≠ []) (h1:¬ cbad zs) (h:ContrAns M zs w e w') : RatErr M (upN (ctr zs).1 (ctr zs).2) (upN (ctr zs).2 (ctr zs).2) 0 w e w':=by
 rcases h with ⟨h,_⟩ | ⟨h,_⟩ | ⟨_,_,h⟩
 ·exact absurd h h0
 ·exact absurd h h1
 ·exact h
theorem Rat.tight {w:World} {v:Value} {n d:Int} {L M:Nat} (h:Rat w v n d M) (h0:0 <= n) (h1:n < BB ^ L) (h2:d < BB ^ L) : Rat w v n d L:=by
 obtain ⟨g1,A1,n1,c1,g2,A2,n2,c2,e,a1,a2,h3,h4⟩:=h
 refine ⟨g1,A1,n1,c1,g2,A2,n2,c2,e,a1.tight h0 h1,a2.tight ?_ ?_,h3,h4⟩
 ·unfold dn;split <;> omega
 ·unfold dn;split <;> omega
theorem Rat.simp {w:World} {v:Value} {n d m c N D:Int} {L M:Nat} (h:Rat w v (upN N D) (upN D D) M) (hs:Simp n d m c N D) (hR:Range n d m c) (h1:n < BB ^ L) (h2:d < BB ^ L) : Rat w v N D L:=by
 have e1:upN N D = N:=if_neg (by have:=hs.D0;omega)
 have e2:upN D D = D:=if_neg (by have:=hs.D0;omega)
 rw [e1,e2] at h
 obtain ⟨k1,k2⟩:=hs.min n d hR.d0 (Int.le_refl _) hR.le
 exact h.tight (Int.le_of_lt hs.N0) (by omega) (by omega)
theorem own_ne {w:World} {base:Nat} {v:Value} {zs:List Int} {L k:Nat} (h:OwnInts w base v zs L) (hk:k < base) : v.ownBlock ≠ some k:=by
 obtain ⟨vs,hl,ho,hn,hv⟩:=h
 intro e
 have:=(ho.lt k e).1
 omega
theorem own_lt {w:World} {base:Nat} {v:Value} {zs:List Int} {L:Nat} (h:OwnInts w base v zs L) : ∀ k,v.ownBlock = some k -> k < w.heap.size:=by
 obtain ⟨vs,hl,ho,hn,hv⟩:=h
 intro k e
 exact (ho.lt k e).2
theorem cmp_ne {x:Int} (h:x ≠ 0) : (cmpI x 0 == 0) = false:=by
 rcases Int.lt_or_gt_of_ne h with h | h
 ·rw [cmpI_lt h];decide
 ·rw [cmpI_gt h];decide
theorem between_any (u v:Value) (n d m c:Int) (L:Nat) (w:World) (h:Rat w u n d L) (g:Rat w v m c L) (hL:L <= 100) (hL2:2 <= L) (hR:Range n d m c) :
  Calls Tryz.prog 107 #[u,v] w fun e w'=>∃ N D,Simp n d m c N D /\ RatRes L N D w e w':=by
 obtain ⟨g1,A1,n1,c1,e1,E1,m1,d1,rfl⟩:=h.form
 obtain ⟨g2,A2,n2,c2,e2,E2,m2,d2,rfl⟩:=g.form
 obtain ⟨hw,F0,F1,F2,hs⟩:=three444 w (.bool g1) (.slice A1 n1 c1) (.bool e1) (.slice E1 m1 d1) (.bool g2) (.slice A2 n2 c2) (.bool e2) (.slice E2 m2 d2)
 have X:=Hd (h.below hw)
 have Y:=Hd (g.below hw)
 obtain ⟨W0,hW0⟩ : ∃ W0,((w.alloc (.cells #[.bool g1,.slice A1 n1 c1,.bool e1,.slice E1 m1 d1] 38)).alloc (.cells #[.bool g2,.slice A2 n2 c2,.bool e2,.slice E2 m2 d2] 38)).alloc (.cells #[.bool false,.slice none 0 0,.bool false,.slice none 0 0] 38) = W0:=⟨_,rfl⟩
 rw [hW0] at hw F0 F1 F2 hs X Y
 have B0:=Hd F0
 have B1:=Hd F1
 have BR:=Hd F2
 clear F0 F1 F2 h g
 have HR:=Hd hR
 clear hR
 go_enter Tryz.func107,Tryz.ntmps107
 go_upto_region 1 with fail
 clear hW0
 have X1:=Hd X.out.parts.1
 have Y1:=Hd Y.out.parts.1
 have HT:=Hd (fun (w':World) (hb:Below W0.heap.size W0 w')=>(show w'.cell? ⟨w.heap.size,0,none⟩ = some (.bool g1) /\ w'.cell? ⟨w.heap.size,1,none⟩ = some (.slice A1 n1 c1) /\ w'.cell? ⟨w.heap.size,2,none⟩ = some (.bool e1) /\ w'.cell? ⟨w.heap.size,3,none⟩ = some (.slice E1 m1 d1) /\ w'.cell? ⟨w.heap.size + 1,0,none⟩ = some (.bool g2) /\ w'.cell? ⟨w.heap.size + 1,1,none⟩ = some (.slice A2 n2 c2) /\ w'.cell? ⟨w.heap.size + 1,2,none⟩ = some (.bool e2) /\ w'.cell? ⟨w.heap.size + 1,3,none⟩ = some (.slice E2 m2 d2) from ⟨(B0.out.below hb).c0,(B0.out.below hb).c1,(B0.out.below hb).c2,(B0.out.below hb).c3,(B1.out.below hb).c0,(B1.out.below hb).c1,(B1.out.below hb).c2,(B1.out.below hb).c3⟩))
 obtain ⟨Inv,hInv⟩ : ∃ J:(Nat -> Bool) -> (Value × Value × Value × Value × Value × Value) -> World -> Prop,J = fun b v w'=>(Below W0.heap.size W0 w') /\ (b 3 = true -> Ival w' v.1 (d) (L)) /\ (b 7 = true -> Ival w' v.2.1 (c) (L)) /\ (b 8 = true -> b 12 = false -> PBox (W0.heap.size) w' v.2.2.1 0 0) /\ (b 12 = true -> PBox (W0.heap.size) w' v.2.2.1 (n) (L)) /\ (b 9 = true -> b 13 = false -> PBox (W0.heap.size) w' v.2.2.2.1 0 0) /\ (b 13 = true -> PBox (W0.heap.size) w' v.2.2.2.1 (d) (L)) /\ (b 10 = true -> b 14 = false -> PBox (W0.heap.size) w' v.2.2.2.2.1 0 0) /\ (b 14 = true -> PBox (W0.heap.size) w' v.2.2.2.2.1 (m) (L)) /\ (b 11 = true -> b 15 = false -> PBox (W0.heap.size) w' v.2.2.2.2.2 0 0) /\ (b 15 = true -> PBox (W0.heap.size) w' v.2.2.2.2.2 (c) (L)) /\ (b 8 = true -> b 9 = true -> v.2.2.1 ≠ v.2.2.2.1) /\ (b 8 = true -> b 10 = true -> v.2.2.1 ≠ v.2.2.2.2.1) /\ (b 8 = true -> b 11 = true -> v.2.2.1 ≠ v.2.2.2.2.2) /\ (b 9 = true -> b 10 = true -> v.2.2.2.1 ≠ v.2.2.2.2.1) /\ (b 9 = true -> b 11 = true -> v.2.2.2.1 ≠ v.2.2.2.2.2) /\ (b 10 = true -> b 11 = true -> v.2.2.2.2.1 ≠ v.2.2.2.2.2):=⟨_,rfl⟩
 have hB:=(Below.refl W0.heap.size W0).drew
 refine wp_region_held_drew (S:=fun w'=>w'.cell? ⟨w.heap.size,0,none⟩ = some (.bool g1) /\ w'.cell? ⟨w.heap.size,1,none⟩ = some (.slice A1 n1 c1) /\ w'.cell? ⟨w.heap.size,2,none⟩ = some (.bool e1) /\ w'.cell? ⟨w.heap.size,3,none⟩ = some (.slice E1 m1 d1) /\ w'.cell? ⟨w.heap.size + 1,0,none⟩ = some (.bool g2) /\ w'.cell? ⟨w.heap.size + 1,1,none⟩ = some (.slice A2 n2 c2) /\ w'.cell? ⟨w.heap.size + 1,2,none⟩ = some (.bool e2) /\ w'.cell? ⟨w.heap.size + 1,3,none⟩ = some (.slice E2 m2 d2)) (by kernel_rfl) (HT.out _ hB) (fun hH=>?_)
 clear hH
 generalize W0.drew = wr0 at *
 refine tk 0 16 (by first | assumption | exact HT.out _ hB | trivial) ?_
 try simp only [Act.put,tA,cZ,cS]
 refine tk 2 18 (by first | assumption | exact HT.out _ hB | trivial) ?_
 try simp only [Act.put,tA,cZ,cS]
 refine tk 4 20 (by first | assumption | exact HT.out _ hB | trivial) ?_
 try simp only [Act.put,tA,cZ,cS]
 refine tk 6 22 (by first | assumption | exact HT.out _ hB | trivial) ?_
 try simp only [Act.put,tA,cZ,cS]
 refine tk 1 17 (by first | assumption | exact HT.out _ hB | trivial) ?_
 try simp only [Act.put,tA,cZ,cS]
 refine tk 5 21 (by first | assumption | exact HT.out _ hB | trivial) ?_
 try simp only [Act.put,tA,cZ,cS]
 refine wpAnyH_begin (V:=Value × Value × Value × Value × Value × Value) (I:=Inv) (A:=?_) [true,true,true,false,true,true,true,false,false,false,false,false,false,false,false,false] [19,23,5,6,7,8] (fun v=>[v.1,v.2.1,v.2.2.1,v.2.2.2.1,v.2.2.2.2.1,v.2.2.2.2.2]) (fun a=>(a.tmps.getD 19 undef,a.tmps.getD 23 undef,a.tmps.getD 5 undef,a.tmps.getD 6 undef,a.tmps.getD 7 undef,a.tmps.getD 8 undef)) ?_ ?_ (by kernel_rfl) (by kernel_rfl) (by kernel_rfl) (by kernel_rfl) (by kernel_rfl) ?_ ?_ ?_
 rotate_left 1
 ·intro v;simp only [fillA,Act.put,tA,cZ,cS];rfl
 ·rfl
 ·rw [hInv]
  exact ⟨(hB),(fun h=>absurd h (by decide)),(fun h=>absurd h (by decide)),(fun h _=>absurd h (by decide)),(fun h=>absurd h (by decide)),(fun h _=>absurd h (by decide)),(fun h=>absurd h (by decide)),(fun h _=>absurd h (by decide)),(fun h=>absurd h (by decide)),(fun h _=>absurd h (by decide)),(fun h=>absurd h (by decide)),(fun h _=>absurd h (by decide)),(fun h _=>absurd h (by decide)),(fun h _=>absurd h (by decide)),(fun h _=>absurd h (by decide)),(fun h _=>absurd h (by decide)),(fun h _=>absurd h (by decide))⟩
 ·skip
  refine EachFrom.skip (by rfl) ?_
  refine EachFrom.skip (by rfl) ?_
  refine EachFrom.skip (by rfl) ?_
  refine EachFrom.cons (k:=3) rfl rfl (ds:=[2]) (by kernel_rfl) (fun v x=>(x,v.2.1,v.2.2.1,v.2.2.2.1,v.2.2.2.2.1,v.2.2.2.2.2)) (fun v x=>by rfl) (fun b v wz hb0 hcl hbk hdep hI Kc hK=>?_) ?_
  ·skip
   rw [hInv] at hI
   obtain ⟨x19,x23,x5,x6,x7,x8⟩:=v
   dsimp only at hI hK ⊢
   (try simp only [Act.put] at hK);(try simp only [tA] at hK);(try simp only [cS] at hK);(try simp only [cZ] at hK)
   obtain ⟨famb,f19,f23,fP5,fQ5,fP6,fQ6,fP7,fQ7,fP8,fQ8,fne5_6,fne5_7,fne5_8,fne6_7,fne6_8,fne7_8⟩:=hI
   obtain ⟨d2,-⟩:=hdep
   (try simp only [gA]);(try simp only [gS]);(try simp only [gZ])
   go_simp
   (go_at_call 67;refine (Denominator_any _ n d L _ (X.out.below famb) hL2).mono ?_;rintro e w1 ⟨⟨g19,A19,n19,c19,rfl,hz⟩,hb⟩)
   refine hK.out _ _ (HT.out _ ((famb).trans (hb.mono (famb).size))) ?_
   rw [hInv]
   exact ⟨((famb).trans (hb.mono (famb).size)),(fun h0=>hz),(fun h=>absurd ((show AllT b [6,3] from hcl 7 _ rfl h).2.1) (by rw [hbk];decide)),(fun h0 h1=>(fP5 h0 h1).below hb),(fun h=>absurd ((show AllT b [6,3] from hcl 7 _ rfl ((show AllT b [8,1,7,0,1,8,9,10,11] from hcl 12 _ rfl h).2.2.1)).2.1) (by rw [hbk];decide)),(fun h0 h1=>(fP6 h0 h1).below hb),(fun h=>absurd ((show AllT b [9,3,12,0,1,2,3,8,9,10,11,12] from hcl 13 _ rfl h).2.1) (by rw [hbk];decide)),(fun h0 h1=>(fP7 h0 h1).below hb),(fun h=>absurd ((show AllT b [10,5,13,0,1,2,3,4,5,8,9,10,11,12,13] from hcl 14 _ rfl h).2.2.2.2.2.2.1) (by rw [hbk];decide)),(fun h0 h1=>(fP8 h0 h1).below hb),(fun h=>absurd ((show AllT b [11,7,14,0,1,2,3,4,5,6,7,8,9,10,11,12,13,14] from hcl 15 _ rfl h).2.2.2.2.2.2.1) (by rw [hbk];decide)),(fun h0 h1=>fne5_6 h0 h1),(fun h0 h1=>fne5_7 h0 h1),(fun h0 h1=>fne5_8 h0 h1),(fun h0 h1=>fne6_7 h0 h1),(fun h0 h1=>fne6_8 h0 h1),(fun h0 h1=>fne7_8 h0 h1)⟩
  refine EachFrom.skip (by rfl) ?_
  refine EachFrom.skip (by rfl) ?_
  refine EachFrom.skip (by rfl) ?_
  refine EachFrom.cons (k:=7) rfl rfl (ds:=[6,3]) (by kernel_rfl) (fun v x=>(v.1,x,v.2.2.1,v.2.2.2.1,v.2.2.2.2.1,v.2.2.2.2.2)) (fun v x=>by rfl) (fun b v wz hb0 hcl hbk hdep hI Kc hK=>?_) ?_
  ·skip
   rw [hInv] at hI
   obtain ⟨x19,x23,x5,x6,x7,x8⟩:=v
   dsimp only at hI hK ⊢
   (try simp only [Act.put] at hK);(try simp only [tA] at hK);(try simp only [cS] at hK);(try simp only [cZ] at hK)
   obtain ⟨famb,f19,f23,fP5,fQ5,fP6,fQ6,fP7,fQ7,fP8,fQ8,fne5_6,fne5_7,fne5_8,fne6_7,fne6_8,fne7_8⟩:=hI
   obtain ⟨d6,d3,-⟩:=hdep
   (try simp only [gA]);(try simp only [gS]);(try simp only [gZ])
   go_simp
   (go_at_call 67;refine (Denominator_any _ m c L _ (Y.out.below famb) hL2).mono ?_;rintro e w1 ⟨⟨g23,A23,n23,c23,rfl,hz⟩,hb⟩)
   refine hK.out _ _ (HT.out _ ((famb).trans (hb.mono (famb).size))) ?_
   rw [hInv]
   exact ⟨((famb).trans (hb.mono (famb).size)),(fun h0=>(f19 h0).below hb),(fun h0=>hz),(fun h0 h1=>(fP5 h0 h1).below hb),(fun h=>absurd ((show AllT b [8,1,7,0,1,8,9,10,11] from hcl 12 _ rfl h).2.2.1) (by rw [hbk];decide)),(fun h0 h1=>(fP6 h0 h1).below hb),(fun h=>absurd ((show AllT b [8,1,7,0,1,8,9,10,11] from hcl 12 _ rfl ((show AllT b [9,3,12,0,1,2,3,8,9,10,11,12] from hcl 13 _ rfl h).2.2.1)).2.2.1) (by rw [hbk];decide)),(fun h0 h1=>(fP7 h0 h1).below hb),(fun h=>absurd ((show AllT b [8,1,7,0,1,8,9,10,11] from hcl 12 _ rfl ((show AllT b [9,3,12,0,1,2,3,8,9,10,11,12] from hcl 13 _ rfl ((show AllT b [10,5,13,0,1,2,3,4,5,8,9,10,11,12,13] from hcl 14 _ rfl h).2.2.1)).2.2.1)).2.2.1) (by rw [hbk];decide)),(fun h0 h1=>(fP8 h0 h1).below hb),(fun h=>absurd ((show AllT b [11,7,14,0,1,2,3,4,5,6,7,8,9,10,11,12,13,14] from hcl 15 _ rfl h).2.1) (by rw [hbk];decide)),(fun h0 h1=>fne5_6 h0 h1),(fun h0 h1=>fne5_7 h0 h1),(fun h0 h1=>fne5_8 h0 h1),(fun h0 h1=>fne6_7 h0 h1),(fun h0 h1=>fne6_8 h0 h1),(fun h0 h1=>fne7_8 h0 h1)⟩
  refine EachFrom.cons (k:=8) rfl rfl (ds:=[]) (by kernel_rfl) (fun v x=>(v.1,v.2.1,x,v.2.2.2.1,v.2.2.2.2.1,v.2.2.2.2.2)) (fun v x=>by rfl) (fun b v wz hb0 hcl hbk hdep hI Kc hK=>?_) ?_
  ·skip
   rw [hInv] at hI
   obtain ⟨x19,x23,x5,x6,x7,x8⟩:=v
   dsimp only at hI hK ⊢
   (try simp only [Act.put] at hK);(try simp only [tA] at hK);(try simp only [cS] at hK);(try simp only [cZ] at hK)
   obtain ⟨famb,f19,f23,fP5,fQ5,fP6,fQ6,fP7,fQ7,fP8,fQ8,fne5_6,fne5_7,fne5_8,fne6_7,fne6_8,fne7_8⟩:=hI
   (try simp only [gA]);(try simp only [gS]);(try simp only [gZ])
   have hb:=below_alloc wz (.cells #[.bool false,.slice none 0 0] 31)
   go_simp
   refine hK.out _ _ (HT.out _ ((famb).trans (hb.mono (famb).size))) ?_
   rw [hInv]
   exact ⟨((famb).trans (hb.mono (famb).size)),(fun h0=>(f19 h0).below hb),(fun h0=>(f23 h0).below hb),(fun h0 h1=>⟨_,rfl,famb.size,IBox.nought _ _ _⟩),(fun h=>absurd ((show AllT b [8,1,7,0,1,8,9,10,11] from hcl 12 _ rfl h).1) (by rw [hbk];decide)),(fun h0 h1=>(fP6 h0 h1).below hb),(fun h=>absurd ((show AllT b [9,3,12,0,1,2,3,8,9,10,11,12] from hcl 13 _ rfl h).2.2.2.2.2.2.2.1) (by rw [hbk];decide)),(fun h0 h1=>(fP7 h0 h1).below hb),(fun h=>absurd ((show AllT b [10,5,13,0,1,2,3,4,5,8,9,10,11,12,13] from hcl 14 _ rfl h).2.2.2.2.2.2.2.2.2.1) (by rw [hbk];decide)),(fun h0 h1=>(fP8 h0 h1).below hb),(fun h=>absurd ((show AllT b [11,7,14,0,1,2,3,4,5,6,7,8,9,10,11,12,13,14] from hcl 15 _ rfl h).2.2.2.2.2.2.2.2.2.2.2.1) (by rw [hbk];decide)),(fun h0 h1=>(Ne.symm (by cases h:b 13 with | false=>exact (fP6 h1 h).fresh | true=>exact (fQ6 h).fresh))),(fun h0 h1=>(Ne.symm (by cases h:b 14 with | false=>exact (fP7 h1 h).fresh | true=>exact (fQ7 h).fresh))),(fun h0 h1=>(Ne.symm (by cases h:b 15 with | false=>exact (fP8 h1 h).fresh | true=>exact (fQ8 h).fresh))),(fun h0 h1=>fne6_7 h0 h1),(fun h0 h1=>fne6_8 h0 h1),(fun h0 h1=>fne7_8 h0 h1)⟩
  refine EachFrom.cons (k:=9) rfl rfl (ds:=[]) (by kernel_rfl) (fun v x=>(v.1,v.2.1,v.2.2.1,x,v.2.2.2.2.1,v.2.2.2.2.2)) (fun v x=>by rfl) (fun b v wz hb0 hcl hbk hdep hI Kc hK=>?_) ?_
  ·skip
   rw [hInv] at hI
   obtain ⟨x19,x23,x5,x6,x7,x8⟩:=v
   dsimp only at hI hK ⊢
   (try simp only [Act.put] at hK);(try simp only [tA] at hK);(try simp only [cS] at hK);(try simp only [cZ] at hK)
   obtain ⟨famb,f19,f23,fP5,fQ5,fP6,fQ6,fP7,fQ7,fP8,fQ8,fne5_6,fne5_7,fne5_8,fne6_7,fne6_8,fne7_8⟩:=hI
   (try simp only [gA]);(try simp only [gS]);(try simp only [gZ])
   have hb:=below_alloc wz (.cells #[.bool false,.slice none 0 0] 31)
   go_simp
   refine hK.out _ _ (HT.out _ ((famb).trans (hb.mono (famb).size))) ?_
   rw [hInv]
   exact ⟨((famb).trans (hb.mono (famb).size)),(fun h0=>(f19 h0).below hb),(fun h0=>(f23 h0).below hb),(fun h0 h1=>(fP5 h0 h1).below hb),(fun h=>absurd ((show AllT b [8,1,7,0,1,8,9,10,11] from hcl 12 _ rfl h).2.2.2.2.2.2.1) (by rw [hbk];decide)),(fun h0 h1=>⟨_,rfl,famb.size,IBox.nought _ _ _⟩),(fun h=>absurd ((show AllT b [9,3,12,0,1,2,3,8,9,10,11,12] from hcl 13 _ rfl h).1) (by rw [hbk];decide)),(fun h0 h1=>(fP7 h0 h1).below hb),(fun h=>absurd ((show AllT b [10,5,13,0,1,2,3,4,5,8,9,10,11,12,13] from hcl 14 _ rfl h).2.2.2.2.2.2.2.2.2.2.1) (by rw [hbk];decide)),(fun h0 h1=>(fP8 h0 h1).below hb),(fun h=>absurd ((show AllT b [11,7,14,0,1,2,3,4,5,6,7,8,9,10,11,12,13,14] from hcl 15 _ rfl h).2.2.2.2.2.2.2.2.2.2.2.2.1) (by rw [hbk];decide)),(fun h0 h1=>(by cases h:b 12 with | false=>exact (fP5 h0 h).fresh | true=>exact (fQ5 h).fresh)),(fun h0 h1=>fne5_7 h0 h1),(fun h0 h1=>fne5_8 h0 h1),(fun h0 h1=>(Ne.symm (by cases h:b 14 with | false=>exact (fP7 h1 h).fresh | true=>exact (fQ7 h).fresh))),(fun h0 h1=>(Ne.symm (by cases h:b 15 with | false=>exact (fP8 h1 h).fresh | true=>exact (fQ8 h).fresh))),(fun h0 h1=>fne7_8 h0 h1)⟩
  refine EachFrom.cons (k:=10) rfl rfl (ds:=[]) (by kernel_rfl) (fun v x=>(v.1,v.2.1,v.2.2.1,v.2.2.2.1,x,v.2.2.2.2.2)) (fun v x=>by rfl) (fun b v wz hb0 hcl hbk hdep hI Kc hK=>?_) ?_
  ·skip
   rw [hInv] at hI
   obtain ⟨x19,x23,x5,x6,x7,x8⟩:=v
   dsimp only at hI hK ⊢
   (try simp only [Act.put] at hK);(try simp only [tA] at hK);(try simp only [cS] at hK);(try simp only [cZ] at hK)
   obtain ⟨famb,f19,f23,fP5,fQ5,fP6,fQ6,fP7,fQ7,fP8,fQ8,fne5_6,fne5_7,fne5_8,fne6_7,fne6_8,fne7_8⟩:=hI
   (try simp only [gA]);(try simp only [gS]);(try simp only [gZ])
   have hb:=below_alloc wz (.cells #[.bool false,.slice none 0 0] 31)
   go_simp
   refine hK.out _ _ (HT.out _ ((famb).trans (hb.mono (famb).size))) ?_
   rw [hInv]
   exact ⟨((famb).trans (hb.mono (famb).size)),(fun h0=>(f19 h0).below hb),(fun h0=>(f23 h0).below hb),(fun h0 h1=>(fP5 h0 h1).below hb),(fun h=>absurd ((show AllT b [8,1,7,0,1,8,9,10,11] from hcl 12 _ rfl h).2.2.2.2.2.2.2.1) (by rw [hbk];decide)),(fun h0 h1=>(fP6 h0 h1).below hb),(fun h=>absurd ((show AllT b [9,3,12,0,1,2,3,8,9,10,11,12] from hcl 13 _ rfl h).2.2.2.2.2.2.2.2.2.1) (by rw [hbk];decide)),(fun h0 h1=>⟨_,rfl,famb.size,IBox.nought _ _ _⟩),(fun h=>absurd ((show AllT b [10,5,13,0,1,2,3,4,5,8,9,10,11,12,13] from hcl 14 _ rfl h).1) (by rw [hbk];decide)),(fun h0 h1=>(fP8 h0 h1).below hb),(fun h=>absurd ((show AllT b [11,7,14,0,1,2,3,4,5,6,7,8,9,10,11,12,13,14] from hcl 15 _ rfl h).2.2.2.2.2.2.2.2.2.2.2.2.2.1) (by rw [hbk];decide)),(fun h0 h1=>fne5_6 h0 h1),(fun h0 h1=>(by cases h:b 12 with | false=>exact (fP5 h0 h).fresh | true=>exact (fQ5 h).fresh)),(fun h0 h1=>fne5_8 h0 h1),(fun h0 h1=>(by cases h:b 13 with | false=>exact (fP6 h0 h).fresh | true=>exact (fQ6 h).fresh)),(fun h0 h1=>fne6_8 h0 h1),(fun h0 h1=>(Ne.symm (by cases h:b 15 with | false=>exact (fP8 h1 h).fresh | true=>exact (fQ8 h).fresh)))⟩
  refine EachFrom.cons (k:=11) rfl rfl (ds:=[]) (by kernel_rfl) (fun v x=>(v.1,v.2.1,v.2.2.1,v.2.2.2.1,v.2.2.2.2.1,x)) (fun v x=>by rfl) (fun b v wz hb0 hcl hbk hdep hI Kc hK=>?_) ?_
  ·skip
   rw [hInv] at hI
   obtain ⟨x19,x23,x5,x6,x7,x8⟩:=v
   dsimp only at hI hK ⊢
   (try simp only [Act.put] at hK);(try simp only [tA] at hK);(try simp only [cS] at hK);(try simp only [cZ] at hK)
   obtain ⟨famb,f19,f23,fP5,fQ5,fP6,fQ6,fP7,fQ7,fP8,fQ8,fne5_6,fne5_7,fne5_8,fne6_7,fne6_8,fne7_8⟩:=hI
   (try simp only [gA]);(try simp only [gS]);(try simp only [gZ])
   have hb:=below_alloc wz (.cells #[.bool false,.slice none 0 0] 31)
   go_simp
   refine hK.out _ _ (HT.out _ ((famb).trans (hb.mono (famb).size))) ?_
   rw [hInv]
   exact ⟨((famb).trans (hb.mono (famb).size)),(fun h0=>(f19 h0).below hb),(fun h0=>(f23 h0).below hb),(fun h0 h1=>(fP5 h0 h1).below hb),(fun h=>absurd ((show AllT b [8,1,7,0,1,8,9,10,11] from hcl 12 _ rfl h).2.2.2.2.2.2.2.2.1) (by rw [hbk];decide)),(fun h0 h1=>(fP6 h0 h1).below hb),(fun h=>absurd ((show AllT b [9,3,12,0,1,2,3,8,9,10,11,12] from hcl 13 _ rfl h).2.2.2.2.2.2.2.2.2.2.1) (by rw [hbk];decide)),(fun h0 h1=>(fP7 h0 h1).below hb),(fun h=>absurd ((show AllT b [10,5,13,0,1,2,3,4,5,8,9,10,11,12,13] from hcl 14 _ rfl h).2.2.2.2.2.2.2.2.2.2.2.2.1) (by rw [hbk];decide)),(fun h0 h1=>⟨_,rfl,famb.size,IBox.nought _ _ _⟩),(fun h=>absurd ((show AllT b [11,7,14,0,1,2,3,4,5,6,7,8,9,10,11,12,13,14] from hcl 15 _ rfl h).1) (by rw [hbk];decide)),(fun h0 h1=>fne5_6 h0 h1),(fun h0 h1=>fne5_7 h0 h1),(fun h0 h1=>(by cases h:b 12 with | false=>exact (fP5 h0 h).fresh | true=>exact (fQ5 h).fresh)),(fun h0 h1=>fne6_7 h0 h1),(fun h0 h1=>(by cases h:b 13 with | false=>exact (fP6 h0 h).fresh | true=>exact (fQ6 h).fresh)),(fun h0 h1=>(by cases h:b 14 with | false=>exact (fP7 h0 h).fresh | true=>exact (fQ7 h).fresh))⟩
  refine EachFrom.cons (k:=12) rfl rfl (ds:=[8,1,7,0,1,8,9,10,11]) (by kernel_rfl) (fun v _=>v) (fun v x=>by rfl) (fun b v wz hb0 hcl hbk hdep hI Kc hK=>?_) ?_
  ·skip
   rw [hInv] at hI
   obtain ⟨x19,x23,x5,x6,x7,x8⟩:=v
   dsimp only at hI hK ⊢
   (try simp only [Act.put] at hK);(try simp only [tA] at hK);(try simp only [cS] at hK);(try simp only [cZ] at hK)
   obtain ⟨famb,f19,f23,fP5,fQ5,fP6,fQ6,fP7,fQ7,fP8,fQ8,fne5_6,fne5_7,fne5_8,fne6_7,fne6_8,fne7_8⟩:=hI
   obtain ⟨d8,d1,d7,d0,-,-,d9,d10,d11,-⟩:=hdep
   (try simp only [gA]);(try simp only [gS]);(try simp only [gZ])
   obtain ⟨k5,rfl,hk5,FB⟩:=fP5 d8 hbk
   obtain ⟨gx,Ax,nx,cx,Fq,-⟩:=id FB
   obtain ⟨c0,c1,c2,c3,c4⟩:=Fq
   go_simp
   refine hK.out (undef) _ (HT.out _ (((famb).setCell (p:=⟨k5,0,none⟩) (by show _ <= k5;omega) _).setCell (p:=⟨k5,1,none⟩) (by show _ <= k5;omega) _)) ?_
   rw [hInv]
   exact ⟨(((famb).setCell (p:=⟨k5,0,none⟩) (by show _ <= k5;omega) _).setCell (p:=⟨k5,1,none⟩) (by show _ <= k5;omega) _),(fun h0=>(f19 h0).at FB _ _),(fun h0=>(f23 h0).at FB _ _),(fun _ h=>absurd (show true = false from h) (by decide)),(fun h0=>⟨_,rfl,hk5,FB.store (X1.out.below famb)⟩),(fun h0 h1=>(fP6 h0 h1).other FB (Ne.symm (fne5_6 d8 d9)) _ _),(fun h=>absurd ((show AllT b [9,3,12,0,1,2,3,8,9,10,11,12] from hcl 13 _ rfl h).2.2.1) (by rw [hbk];decide)),(fun h0 h1=>(fP7 h0 h1).other FB (Ne.symm (fne5_7 d8 d10)) _ _),(fun h=>absurd ((show AllT b [10,5,13,0,1,2,3,4,5,8,9,10,11,12,13] from hcl 14 _ rfl h).2.2.2.2.2.2.2.2.2.2.2.2.2.1) (by rw [hbk];decide)),(fun h0 h1=>(fP8 h0 h1).other FB (Ne.symm (fne5_8 d8 d11)) _ _),(fun h=>absurd ((show AllT b [11,7,14,0,1,2,3,4,5,6,7,8,9,10,11,12,13,14] from hcl 15 _ rfl h).2.2.2.2.2.2.2.2.2.2.2.2.2.2.2.1) (by rw [hbk];decide)),(fun h0 h1=>fne5_6 h0 h1),(fun h0 h1=>fne5_7 h0 h1),(fun h0 h1=>fne5_8 h0 h1),(fun h0 h1=>fne6_7 h0 h1),(fun h0 h1=>fne6_8 h0 h1),(fun h0 h1=>fne7_8 h0 h1)⟩
  refine EachFrom.cons (k:=13) rfl rfl (ds:=[9,3,12,0,1,2,3,8,9,10,11,12]) (by kernel_rfl) (fun v _=>v) (fun v x=>by rfl) (fun b v wz hb0 hcl hbk hdep hI Kc hK=>?_) ?_
  ·skip
   rw [hInv] at hI
   obtain ⟨x19,x23,x5,x6,x7,x8⟩:=v
   dsimp only at hI hK ⊢
   (try simp only [Act.put] at hK);(try simp only [tA] at hK);(try simp only [cS] at hK);(try simp only [cZ] at hK)
   obtain ⟨famb,f19,f23,fP5,fQ5,fP6,fQ6,fP7,fQ7,fP8,fQ8,fne5_6,fne5_7,fne5_8,fne6_7,fne6_8,fne7_8⟩:=hI
   obtain ⟨d9,d3,d12,d0,d1,d2,-,d8,-,d10,d11,-,-⟩:=hdep
   (try simp only [gA]);(try simp only [gS]);(try simp only [gZ])
   obtain ⟨k6,rfl,hk6,FB⟩:=fP6 d9 hbk
   obtain ⟨g19,A19,n19,c19,rfl⟩:=(f19 d3).form
   obtain ⟨gx,Ax,nx,cx,Fq,-⟩:=id FB
   obtain ⟨c0,c1,c2,c3,c4⟩:=Fq
   go_simp
   refine hK.out (undef) _ (HT.out _ (((famb).setCell (p:=⟨k6,0,none⟩) (by show _ <= k6;omega) _).setCell (p:=⟨k6,1,none⟩) (by show _ <= k6;omega) _)) ?_
   rw [hInv]
   exact ⟨(((famb).setCell (p:=⟨k6,0,none⟩) (by show _ <= k6;omega) _).setCell (p:=⟨k6,1,none⟩) (by show _ <= k6;omega) _),(fun h0=>(f19 h0).at FB _ _),(fun h0=>(f23 h0).at FB _ _),(fun _ h=>absurd (show b 12 = false from h) (by rw [d12];decide)),(fun h0=>(fQ5 h0).other FB (fne5_6 d8 d9) _ _),(fun _ h=>absurd (show true = false from h) (by decide)),(fun h0=>⟨_,rfl,hk6,FB.store (f19 d3)⟩),(fun h0 h1=>(fP7 h0 h1).other FB (Ne.symm (fne6_7 d9 d10)) _ _),(fun h=>absurd ((show AllT b [10,5,13,0,1,2,3,4,5,8,9,10,11,12,13] from hcl 14 _ rfl h).2.2.1) (by rw [hbk];decide)),(fun h0 h1=>(fP8 h0 h1).other FB (Ne.symm (fne6_8 d9 d11)) _ _),(fun h=>absurd ((show AllT b [11,7,14,0,1,2,3,4,5,6,7,8,9,10,11,12,13,14] from hcl 15 _ rfl h).2.2.2.2.2.2.2.2.2.2.2.2.2.2.2.2.1) (by rw [hbk];decide)),(fun h0 h1=>fne5_6 h0 h1),(fun h0 h1=>fne5_7 h0 h1),(fun h0 h1=>fne5_8 h0 h1),(fun h0 h1=>fne6_7 h0 h1),(fun h0 h1=>fne6_8 h0 h1),(fun h0 h1=>fne7_8 h0 h1)⟩
  refine EachFrom.cons (k:=14) rfl rfl (ds:=[10,5,13,0,1,2,3,4,5,8,9,10,11,12,13]) (by kernel_rfl) (fun v _=>v) (fun v x=>by rfl) (fun b v wz hb0 hcl hbk hdep hI Kc hK=>?_) ?_
  ·skip
   rw [hInv] at hI
   obtain ⟨x19,x23,x5,x6,x7,x8⟩:=v
   dsimp only at hI hK ⊢
   (try simp only [Act.put] at hK);(try simp only [tA] at hK);(try simp only [cS] at hK);(try simp only [cZ] at hK)
   obtain ⟨famb,f19,f23,fP5,fQ5,fP6,fQ6,fP7,fQ7,fP8,fQ8,fne5_6,fne5_7,fne5_8,fne6_7,fne6_8,fne7_8⟩:=hI
   obtain ⟨d10,d5,d13,d0,d1,d2,d3,d4,-,d8,d9,-,d11,d12,-,-⟩:=hdep
   (try simp only [gA]);(try simp only [gS]);(try simp only [gZ])
   obtain ⟨k7,rfl,hk7,FB⟩:=fP7 d10 hbk
   obtain ⟨gx,Ax,nx,cx,Fq,-⟩:=id FB
   obtain ⟨c0,c1,c2,c3,c4⟩:=Fq
   go_simp
   refine hK.out (undef) _ (HT.out _ (((famb).setCell (p:=⟨k7,0,none⟩) (by show _ <= k7;omega) _).setCell (p:=⟨k7,1,none⟩) (by show _ <= k7;omega) _)) ?_
   rw [hInv]
   exact ⟨(((famb).setCell (p:=⟨k7,0,none⟩) (by show _ <= k7;omega) _).setCell (p:=⟨k7,1,none⟩) (by show _ <= k7;omega) _),(fun h0=>(f19 h0).at FB _ _),(fun h0=>(f23 h0).at FB _ _),(fun _ h=>absurd (show b 12 = false from h) (by rw [d12];decide)),(fun h0=>(fQ5 h0).other FB (fne5_7 d8 d10) _ _),(fun _ h=>absurd (show b 13 = false from h) (by rw [d13];decide)),(fun h0=>(fQ6 h0).other FB (fne6_7 d9 d10) _ _),(fun _ h=>absurd (show true = false from h) (by decide)),(fun h0=>⟨_,rfl,hk7,FB.store (Y1.out.below famb)⟩),(fun h0 h1=>(fP8 h0 h1).other FB (Ne.symm (fne7_8 d10 d11)) _ _),(fun h=>absurd ((show AllT b [11,7,14,0,1,2,3,4,5,6,7,8,9,10,11,12,13,14] from hcl 15 _ rfl h).2.2.1) (by rw [hbk];decide)),(fun h0 h1=>fne5_6 h0 h1),(fun h0 h1=>fne5_7 h0 h1),(fun h0 h1=>fne5_8 h0 h1),(fun h0 h1=>fne6_7 h0 h1),(fun h0 h1=>fne6_8 h0 h1),(fun h0 h1=>fne7_8 h0 h1)⟩
  refine EachFrom.cons (k:=15) rfl rfl (ds:=[11,7,14,0,1,2,3,4,5,6,7,8,9,10,11,12,13,14]) (by kernel_rfl) (fun v _=>v) (fun v x=>by rfl) (fun b v wz hb0 hcl hbk hdep hI Kc hK=>?_) ?_
  ·skip
   rw [hInv] at hI
   obtain ⟨x19,x23,x5,x6,x7,x8⟩:=v
   dsimp only at hI hK ⊢
   (try simp only [Act.put] at hK);(try simp only [tA] at hK);(try simp only [cS] at hK);(try simp only [cZ] at hK)
   obtain ⟨famb,f19,f23,fP5,fQ5,fP6,fQ6,fP7,fQ7,fP8,fQ8,fne5_6,fne5_7,fne5_8,fne6_7,fne6_8,fne7_8⟩:=hI
   obtain ⟨d11,d7,d14,d0,d1,d2,d3,d4,d5,d6,-,d8,d9,d10,-,d12,d13,-,-⟩:=hdep
   (try simp only [gA]);(try simp only [gS]);(try simp only [gZ])
   obtain ⟨k8,rfl,hk8,FB⟩:=fP8 d11 hbk
   obtain ⟨g23,A23,n23,c23,rfl⟩:=(f23 d7).form
   obtain ⟨gx,Ax,nx,cx,Fq,-⟩:=id FB
   obtain ⟨c0,c1,c2,c3,c4⟩:=Fq
   go_simp
   refine hK.out (undef) _ (HT.out _ (((famb).setCell (p:=⟨k8,0,none⟩) (by show _ <= k8;omega) _).setCell (p:=⟨k8,1,none⟩) (by show _ <= k8;omega) _)) ?_
   rw [hInv]
   exact ⟨(((famb).setCell (p:=⟨k8,0,none⟩) (by show _ <= k8;omega) _).setCell (p:=⟨k8,1,none⟩) (by show _ <= k8;omega) _),(fun h0=>(f19 h0).at FB _ _),(fun h0=>(f23 h0).at FB _ _),(fun _ h=>absurd (show b 12 = false from h) (by rw [d12];decide)),(fun h0=>(fQ5 h0).other FB (fne5_8 d8 d11) _ _),(fun _ h=>absurd (show b 13 = false from h) (by rw [d13];decide)),(fun h0=>(fQ6 h0).other FB (fne6_8 d9 d11) _ _),(fun _ h=>absurd (show b 14 = false from h) (by rw [d14];decide)),(fun h0=>(fQ7 h0).other FB (fne7_8 d10 d11) _ _),(fun _ h=>absurd (show true = false from h) (by decide)),(fun h0=>⟨_,rfl,hk8,FB.store (f23 d7)⟩),(fun h0 h1=>fne5_6 h0 h1),(fun h0 h1=>fne5_7 h0 h1),(fun h0 h1=>fne5_8 h0 h1),(fun h0 h1=>fne6_7 h0 h1),(fun h0 h1=>fne6_8 h0 h1),(fun h0 h1=>fne7_8 h0 h1)⟩
  exact EachFrom.nil (by kernel_rfl)
 ·intro v wE hI
  rw [hInv] at hI
  obtain ⟨x19,x23,x5,x6,x7,x8⟩:=v
  dsimp only at hI ⊢
  obtain ⟨famb,f19,f23,fP5,fQ5,fP6,fQ6,fP7,fQ7,fP8,fQ8,fne5_6,fne5_7,fne5_8,fne6_7,fne6_8,fne7_8⟩:=hI
  replace f19:=f19 rfl
  replace f23:=f23 rfl
  clear fP5
  replace fQ5:=fQ5 rfl
  clear fP6
  replace fQ6:=fQ6 rfl
  clear fP7
  replace fQ7:=fQ7 rfl
  clear fP8
  replace fQ8:=fQ8 rfl
  replace fne5_6:=fne5_6 rfl rfl
  replace fne5_7:=fne5_7 rfl rfl
  replace fne5_8:=fne5_8 rfl rfl
  replace fne6_7:=fne6_7 rfl rfl
  replace fne6_8:=fne6_8 rfl rfl
  replace fne7_8:=fne7_8 rfl rfl
  clear hInv hB
  obtain ⟨k5,rfl,hk5,I5⟩:=fQ5
  obtain ⟨k6,rfl,hk6,I6⟩:=fQ6
  obtain ⟨k7,rfl,hk7,I7⟩:=fQ7
  obtain ⟨k8,rfl,hk8,I8⟩:=fQ8
  have HNE:=Hd (show k5 ≠ k6 /\ k5 ≠ k7 /\ k5 ≠ k8 /\ k6 ≠ k7 /\ k6 ≠ k8 /\ k7 ≠ k8 from ⟨fun e=>fne5_6 (by rw [e]),fun e=>fne5_7 (by rw [e]),fun e=>fne5_8 (by rw [e]),fun e=>fne6_7 (by rw [e]),fun e=>fne6_8 (by rw [e]),fun e=>fne7_8 (by rw [e])⟩)
  clear f19 f23 fne5_6 fne5_7 fne5_8 fne6_7 fne6_8 fne7_8
  have HGE:=Hd (show w.heap.size + 1 + 1 < k5 /\ w.heap.size + 1 + 1 < k6 /\ w.heap.size + 1 + 1 < k7 /\ w.heap.size + 1 + 1 < k8 from ⟨by omega,by omega,by omega,by omega⟩)
  have HB:=Hd (hw.trans (famb.mono hw.size))
  replace BR:=Hd (BR.out.below famb)
  have HXB:=Hd (show n < BB ^ L /\ d < BB ^ L /\ m < BB ^ L /\ c < BB ^ L from ⟨X1.out.lt_pow,I6.lt_pow,Y1.out.lt_pow,I8.lt_pow⟩)
  clear X Y X1 Y1 HT B0 B1 hw famb hk5 hk6 hk7 hk8
  replace I5:=Hd I5
  replace I6:=Hd I6
  replace I7:=Hd I7
  replace I8:=Hd I8
  go_wp2_with fail
  clear hs
  have HKS:=Hd (show k5 < wE.heap.size /\ k6 < wE.heap.size /\ k7 < wE.heap.size /\ k8 < wE.heap.size /\ w.heap.size + 1 + 1 < wE.heap.size from ⟨I5.out.lt,I6.out.lt,I7.out.lt,I8.out.lt,BR.out.lt⟩)
  obtain ⟨K0,hK0⟩ : ∃ K0,(d + c).toNat = K0:=⟨_,rfl⟩
  have HK0:=Hd (show d + c <= (K0:Int) by omega)
  clear hK0
  have HNB:=Hd HXB.out.1
  have HDB:=Hd HXB.out.2.1
  go_loopg [9] K0 (fun g vv wr=>∃ (zs:List Int) (n' d' m' c':Int),Hid (d' + c' <= g) /\ Hid (bl K0 n d m c = zs ++ bl g n' d' m' c') /\ Hid (Range n' d' m' c') /\ Hid (n' < BB ^ L /\ d' < BB ^ L /\ m' < BB ^ L /\ c' < BB ^ L) /\ Hid (IBox wr k5 n' L) /\ Hid (IBox wr k6 d' L) /\ Hid (IBox wr k7 m' L) /\ Hid (IBox wr k8 c' L) /\ Hid (OwnInts wr wE.heap.size vv zs L) /\ Hid (Fx4 wr (w.heap.size + 1 + 1) (.bool false) (.slice none 0 0) (.bool false) (.slice none 0 0)) /\ Hid (Below w.heap.size w wr) /\ Hid (wE.heap.size <= wr.heap.size))
  case atStart=>exact ⟨[],n,d,m,c,HK0,Hd rfl,HR,HXB,I5,I6,I7,I8,Hd (OwnInts.nil _ _ _),BR,HB,Hd (Nat.le_refl _)⟩
  case round=>
   obtain ⟨zs,n',d',m',c',hk,hbl,hR,hxb,J5,J6,J7,J8,hv,br,hb,hsz⟩:=hrel
   clear I5 I6 I7 I8 BR HB HXB
   obtain ⟨k,rfl⟩ : ∃ k,gk = k + 1:=⟨gk - 1,by have:=hk.out;have:=hR.out.d0;have:=hR.out.c0;omega⟩
   have hqb10:=quo_bounds hR.out.n0 hR.out.d0 hxb.out.1 hxb.out.2.1
   have hrb11:=rem_bounds hR.out.d0 hxb.out.2.1 (x:=n')
   have hm0:=hR.out.m0
   have hqb12:=quo_bounds hm0 hR.out.c0 hxb.out.2.2.1 hxb.out.2.2.2
   have hrb13:=rem_bounds hR.out.c0 hxb.out.2.2.2 (x:=m')
   obtain ⟨Q1,hQ1⟩ : ∃ Q,n' / d' = Q:=⟨_,rfl⟩
   obtain ⟨R1,hR1⟩ : ∃ Q,n' % d' = Q:=⟨_,rfl⟩
   obtain ⟨Q2,hQ2⟩ : ∃ Q,m' / c' = Q:=⟨_,rfl⟩
   obtain ⟨R2,hR2⟩ : ∃ Q,m' % c' = Q:=⟨_,rfl⟩
   have HQB:=Hd (And.intro hqb10 (And.intro hrb11 (And.intro hqb12 hrb13)))
   have HQQ:=Hd (And.intro hQ1 (And.intro hR1 (And.intro hQ2 hR2)))
   clear hqb10 hrb11 hqb12 hrb13 hm0 hQ1 hR1 hQ2 hR2
   have hsz0:=hsz.out
   obtain ⟨gxs,Axs,nxs,cxs,Fxs,Vxs⟩:=J5.out
   obtain ⟨yas,ybs,-,-,-⟩:=Fxs
   replace Vxs:=Hd Vxs
   obtain ⟨gxt,Axt,nxt,cxt,Fxt,Vxt⟩:=J6.out
   obtain ⟨yat,ybt,-,-,-⟩:=Fxt
   replace Vxt:=Hd Vxt
   go_wp2_with fail
   refine (floor_any _ _ n' d' L _ Vxs.out Vxt.out (by omega) (by omega) hR.out.d0).mono ?_
   rintro e w3 ⟨⟨g10,A10,n10,c10,g11,A11,n11,c11,rfl,hq,hr⟩,hb1⟩
   clear yas ybs Vxs yat ybt Vxt
   replace J5:=Hd (J5.out.below hb1)
   replace J6:=Hd (J6.out.below hb1)
   replace J7:=Hd (J7.out.below hb1)
   replace J8:=Hd (J8.out.below hb1)
   replace hv:=Hd (hv.out.below hb1)
   replace br:=Hd (br.out.below hb1)
   replace hb:=Hd (hb.out.trans (hb1.mono hb.out.size))
   replace hsz:=Hd (Nat.le_trans hsz.out hb1.size)
   have HQ10:=Hd (hq.tight (K:=L) HQB.out.1.1 HQB.out.1.2)
   have HQ11:=Hd (hr.tight (K:=L) HQB.out.2.1.1 HQB.out.2.1.2)
   rw [HQQ.out.1] at HQ10
   rw [HQQ.out.2.1] at HQ11
   clear hq hr
   have hrw10:=own_lt hv.out
   have hb2:=below_two w3 (.cells #[.bool g10,.slice A10 n10 c10] 31) (.cells #[.bool g11,.slice A11 n11 c11] 31)
   replace J5:=Hd (J5.out.below hb2)
   replace J6:=Hd (J6.out.below hb2)
   replace J7:=Hd (J7.out.below hb2)
   replace J8:=Hd (J8.out.below hb2)
   replace hv:=Hd (hv.out.below hb2)
   replace br:=Hd (br.out.below hb2)
   replace hb:=Hd (hb.out.trans (hb2.mono hb.out.size))
   replace hsz:=Hd (Nat.le_trans hsz.out hb2.size)
   have L10:=Hd (IBox.mk (Fx.new1 w3 g10 g11 (.slice A10 n10 c10) (.slice A11 n11 c11) 31 31) (HQ10.out.below hb2))
   have L11:=Hd (IBox.mk (Fx.new2 w3 g10 g11 (.slice A10 n10 c10) (.slice A11 n11 c11) 31 31) (HQ11.out.below hb2))
   have hj10:wE.heap.size <= w3.heap.size:=by have:=hsz0;have:=hb1.size;omega
   clear hb1 hb2 HQ10 HQ11 hsz0
   go_upto_region 4 with fail
   generalize (w3.alloc (.cells #[.bool g10,.slice A10 n10 c10] 31)).alloc (.cells #[.bool g11,.slice A11 n11 c11] 31) = W3 at *
   generalize w3.heap.size = j10 at *
   obtain ⟨j11,hj11⟩ : ∃ j,j10 + 1 = j:=⟨_,rfl⟩
   rw [hj11] at L11 ⊢
   have HJ10:=Hd (show wE.heap.size <= j10 /\ wE.heap.size <= j11 /\ j10 <= j11 from ⟨hj10,by omega,by omega⟩)
   have HRW10:=Hd hrw10
   clear hj11 hj10 hrw10
   skip
   have hsz0:=hsz.out
   obtain ⟨gxs,Axs,nxs,cxs,Fxs,Vxs⟩:=J7.out
   obtain ⟨yas,ybs,-,-,-⟩:=Fxs
   replace Vxs:=Hd Vxs
   obtain ⟨gxt,Axt,nxt,cxt,Fxt,Vxt⟩:=J8.out
   obtain ⟨yat,ybt,-,-,-⟩:=Fxt
   replace Vxt:=Hd Vxt
   go_wp2_with fail
   refine (floor_any _ _ m' c' L _ Vxs.out Vxt.out (by omega) (by omega) hR.out.c0).mono ?_
   rintro e w4 ⟨⟨g12,A12,n12,c12,g13,A13,n13,c13,rfl,hq,hr⟩,hb1⟩
   clear yas ybs Vxs yat ybt Vxt
   replace J5:=Hd (J5.out.below hb1)
   replace J6:=Hd (J6.out.below hb1)
   replace J7:=Hd (J7.out.below hb1)
   replace J8:=Hd (J8.out.below hb1)
   replace hv:=Hd (hv.out.below hb1)
   replace br:=Hd (br.out.below hb1)
   replace hb:=Hd (hb.out.trans (hb1.mono hb.out.size))
   replace hsz:=Hd (Nat.le_trans hsz.out hb1.size)
   replace L10:=Hd (L10.out.below hb1)
   replace L11:=Hd (L11.out.below hb1)
   have HQ12:=Hd (hq.tight (K:=L) HQB.out.2.2.1.1 HQB.out.2.2.1.2)
   have HQ13:=Hd (hr.tight (K:=L) HQB.out.2.2.2.1 HQB.out.2.2.2.2)
   rw [HQQ.out.2.2.1] at HQ12
   rw [HQQ.out.2.2.2] at HQ13
   clear hq hr
   have hrw12:=own_lt hv.out
   have hb2:=below_two w4 (.cells #[.bool g12,.slice A12 n12 c12] 31) (.cells #[.bool g13,.slice A13 n13 c13] 31)
   replace J5:=Hd (J5.out.below hb2)
   replace J6:=Hd (J6.out.below hb2)
   replace J7:=Hd (J7.out.below hb2)
   replace J8:=Hd (J8.out.below hb2)
   replace hv:=Hd (hv.out.below hb2)
   replace br:=Hd (br.out.below hb2)
   replace hb:=Hd (hb.out.trans (hb2.mono hb.out.size))
   replace hsz:=Hd (Nat.le_trans hsz.out hb2.size)
   replace L10:=Hd (L10.out.below hb2)
   replace L11:=Hd (L11.out.below hb2)
   have L12:=Hd (IBox.mk (Fx.new1 w4 g12 g13 (.slice A12 n12 c12) (.slice A13 n13 c13) 31 31) (HQ12.out.below hb2))
   have L13:=Hd (IBox.mk (Fx.new2 w4 g12 g13 (.slice A12 n12 c12) (.slice A13 n13 c13) 31 31) (HQ13.out.below hb2))
   have hj12:wE.heap.size <= w4.heap.size:=by have:=hsz0;have:=hb1.size;omega
   clear hb1 hb2 HQ12 HQ13 hsz0
   go_upto_region 5 with fail
   generalize (w4.alloc (.cells #[.bool g12,.slice A12 n12 c12] 31)).alloc (.cells #[.bool g13,.slice A13 n13 c13] 31) = W4 at *
   generalize w4.heap.size = j12 at *
   obtain ⟨j13,hj13⟩ : ∃ j,j12 + 1 = j:=⟨_,rfl⟩
   rw [hj13] at L13 ⊢
   have HJ12:=Hd (show wE.heap.size <= j12 /\ wE.heap.size <= j13 /\ j12 <= j13 from ⟨hj12,by omega,by omega⟩)
   have HRW12:=Hd hrw12
   clear hj13 hj12 hrw12
   obtain ⟨gxs,Axs,nxs,cxs,Fxs,Vxs⟩:=L11.out
   obtain ⟨yas,ybs,-,-,-⟩:=Fxs
   replace Vxs:=Hd Vxs
   go_wp2_with fail
   refine (sign_int _ R1 L _ Vxs.out).mono ?_
   rintro e w5 ⟨rfl,hb1⟩
   clear yas ybs Vxs
   replace J5:=Hd (J5.out.below hb1)
   replace J6:=Hd (J6.out.below hb1)
   replace J7:=Hd (J7.out.below hb1)
   replace J8:=Hd (J8.out.below hb1)
   replace hv:=Hd (hv.out.below hb1)
   replace br:=Hd (br.out.below hb1)
   replace L10:=Hd (L10.out.below hb1)
   replace L11:=Hd (L11.out.below hb1)
   replace L12:=Hd (L12.out.below hb1)
   replace L13:=Hd (L13.out.below hb1)
   replace hb:=Hd (hb.out.trans (hb1.mono hb.out.size))
   replace hsz:=Hd (Nat.le_trans hsz.out hb1.size)
   clear hb1
   have HLN:=Hd (show zs.length <= 1000000 by have h1:=bl_length (32 * L) K0 n d m c HR.out (by rw [<- pow32];exact HDB.out);rw [hbl.out,List.length_append] at h1;omega)
   by_cases hr0:R1 = 0
   ·have hcm:cmpI R1 0 = 0:=cmpI_eq hr0
    have hz1:bl (k + 1) n' d' m' c' = [Q1]:=by unfold bl;rw [HQQ.out.2.1,if_pos hr0,HQQ.out.1]
    rw [hz1] at hbl
    clear hr0 hz1
    obtain ⟨gxs,Axs,nxs,cxs,Fxs,Vxs⟩:=L10.out
    obtain ⟨yas,ybs,-,-,-⟩:=Fxs
    have HA:=Hd (below_alloc w5 (.cells #[.bool gxs,.slice Axs nxs cxs] 31))
    have HVA:=Hd (hv.out.below HA.out)
    have HXA:=Hd (Vxs.below HA.out)
    clear Vxs
    go_wp2_with (at_builtin;refine wpList_append_int _ rfl (.tmp 39) (.tmp 41) rfl (zs:=zs) (L:=L) rfl HVA.out rfl (World.cell?_alloc_at _ _ _ _ rfl) (World.cell?_alloc_at _ _ _ _ rfl) HXA.out ?c1 ?c2 ?_)
    case c1=>exact HLN.out
    case c2=>have h1:=hsz.out;have h2:=HA.out.size;omega
    intro v6 w6 hown hni hg hge
    clear yas ybs HVA HXA
    have hbr:=(br.out.below HA.out).off (fun e=>by have h1:=hge _ e;have h2:=HKS.out;omega) hg
    replace hb:=Hd ((hb.out.alloc (by have:=hb.out.size;omega) _).grown hg (by have h1:=hb.out.size;have h2:=HA.out.size;omega) (fun q hq=>by have h1:=hge q hq;have h2:=HKS.out;omega))
    replace hv:=Hd hown
    replace br:=Hd hbr
    clear hown hni hg hge hbr HA hcm L10 L11 L12 L13 J5 J6 J7 J8
    obtain ⟨Z,hZ⟩ : ∃ Z,zs ++ [Q1] = Z:=⟨_,rfl⟩
    rw [hZ] at hv hbl
    have HZ:=Hd hbl.out.symm
    clear hZ hbl
    have hlen:Z.length <= 2 * (32 * L) + 1:=by rw [HZ.out];exact bl_length (32 * L) K0 n d m c HR.out (by rw [<- pow32];exact HDB.out)
    have hmul:(L + 2) * Z.length <= 102 * 6401:=Nat.mul_le_mul (by omega) (by omega)
    have HM:=Hd hmul
    clear hlen hmul
    go_wp2_with fail
    refine (Contract_any _ Z wE.heap.size L _ hv.out (by have:=HM.out;omega)).mono ?_
    rintro e w7 hans
    obtain ⟨s1,s2,s3⟩:=bl_simp K0 n d m c HR.out HK0.out
    rw [<- HZ.out] at s1 s2 s3
    have hans3:=ContrAns.ok s2 (fun ⟨t,h1,h2,h3⟩=>by have:=s3 t h2;omega) hans
    clear hans
    obtain ⟨⟨q1,B1,l1,o1,q2,B2,l2,o2,rfl,hq⟩,hb7⟩:=hans3
    have hq2:=hq.simp s1 HR.out HNB.out HDB.out
    have HS:=Hd s1
    clear s1 s2 s3 hq
    have hb8:=hb7.trans ((below_alloc w7 (.cells #[.bool q1,.slice B1 l1 o1,.bool q2,.slice B2 l2 o2] 38)).mono hb7.size)
    have Q8:=Hd (hq2.below (below_alloc w7 (.cells #[.bool q1,.slice B1 l1 o1,.bool q2,.slice B2 l2 o2] 38)))
    replace br:=Hd (br.out.below hb8)
    replace hb:=Hd (hb.out.trans (hb8.mono hb.out.size))
    clear hq2 hb7 hb8 hv
    obtain ⟨r0,r1,r2,r3,r4,r5,r6,r7,r8⟩:=br.out
    go_wp2
    refine bodyPost_ret (v:=.agg #[.bool q1,.slice B1 l1 o1,.bool q2,.slice B2 l2 o2]) (by simp [results,Tryz.results107,go_sem,r0,r1,r2,r3]) rfl ⟨_,_,HS.out,⟨_,_,_,_,_,_,_,_,rfl,Q8.out.put4 br.out _ _ _ _⟩,below_put4 hb.out (by omega) _ _ _ _⟩
   ·have hcm:(cmpI R1 0 == 0) = false:=cmp_ne hr0
    have HR0:=Hd hr0
    clear hr0
    obtain ⟨gxs,Axs,nxs,cxs,Fxs,Vxs⟩:=L10.out
    obtain ⟨yas,ybs,-,-,-⟩:=Fxs
    replace Vxs:=Hd Vxs
    obtain ⟨gxt,Axt,nxt,cxt,Fxt,Vxt⟩:=L12.out
    obtain ⟨yat,ybt,-,-,-⟩:=Fxt
    replace Vxt:=Hd Vxt
    go_wp2_with fail
    refine (cmp_int _ _ Q1 Q2 L L _ Vxs.out Vxt.out (by omega) (by omega)).mono ?_
    rintro e w8 ⟨rfl,hb1⟩
    clear yas ybs Vxs yat ybt Vxt
    replace J5:=Hd (J5.out.below hb1)
    replace J6:=Hd (J6.out.below hb1)
    replace J7:=Hd (J7.out.below hb1)
    replace J8:=Hd (J8.out.below hb1)
    replace hv:=Hd (hv.out.below hb1)
    replace br:=Hd (br.out.below hb1)
    replace L10:=Hd (L10.out.below hb1)
    replace L11:=Hd (L11.out.below hb1)
    replace L12:=Hd (L12.out.below hb1)
    replace L13:=Hd (L13.out.below hb1)
    replace hb:=Hd (hb.out.trans (hb1.mono hb.out.size))
    replace hsz:=Hd (Nat.le_trans hsz.out hb1.size)
    clear hb1 hcm
    by_cases hq:Q1 < Q2
    ·have hcm:cmpI Q1 Q2 < 0:=by rw [cmpI_lt hq];decide
     have HQL:=Hd hq
     clear hq
     go_upto_region 8 with fail
     clear hcm
     have hz1:bl (k + 1) n' d' m' c' = [Q1 + 1]:=by unfold bl;rw [HQQ.out.2.1,if_neg HR0.out,HQQ.out.1,HQQ.out.2.2.1,if_pos HQL.out]
     rw [hz1] at hbl
     clear hz1
     obtain ⟨gxs,Axs,nxs,cxs,Fxs,Vxs⟩:=L10.out
     replace Vxs:=Hd Vxs
     replace Fxs:=Hd Fxs
     have HT:=Hd (fun (w':World) (hb:Below w8.heap.size w8 w')=>(show w'.cell? ⟨j10,0,none⟩ = some (.bool gxs) /\ w'.cell? ⟨j10,1,none⟩ = some (.slice Axs nxs cxs) from ⟨(Fxs.out.below hb).1,(Fxs.out.below hb).2.1⟩))
     obtain ⟨Inv,hInv⟩ : ∃ J:(Nat -> Bool) -> (Value × Value × Value × Value × Value × Value) -> World -> Prop,J = fun b v w'=>(Below w.heap.size w w') /\ (b 5 = false -> Below w8.heap.size w8 w') /\ (Fx4 w' (w.heap.size + 1 + 1) (.bool false) (.slice none 0 0) (.bool false) (.slice none 0 0)) /\ (b 1 = true -> b 5 = false -> Ival w' v.1 Q1 L) /\ (b 2 = true -> b 5 = false -> Ival w' v.2.1 (1) (2)) /\ (b 3 = true -> b 5 = false -> Ival w' v.2.2.1 (Q1 + 1) (L)) /\ (b 4 = true -> b 5 = false -> ∃ kb,v.2.2.2.1 = .slice (some ⟨kb,0,none⟩) 1 1 /\ IBox w' kb (Q1 + 1) L) /\ (b 5 = true -> OwnInts w' wE.heap.size v.2.2.2.2.1 (zs ++ [Q1 + 1]) L) /\ (b 6 = true -> v.2.2.2.2.2 = v.2.2.2.2.1):=⟨_,rfl⟩
     have hB:=(Below.refl w8.heap.size w8).drew
     refine wp_region_held_drew (S:=fun w'=>True) (by kernel_rfl) (trivial) (fun hH=>?_)
     clear hH
     generalize w8.drew = wr0 at *
     refine tk 0 47 (by first | assumption | exact HT.out _ hB | trivial) ?_
     try simp only [Act.put,tA,cZ,cS]
     refine wpAnyH_begin (V:=Value × Value × Value × Value × Value × Value) (I:=Inv) (A:=?_) [true,false,false,false,false,false,false] [48,49,50,51,52,9] (fun v=>[v.1,v.2.1,v.2.2.1,v.2.2.2.1,v.2.2.2.2.1,v.2.2.2.2.2]) (fun a=>(a.tmps.getD 48 undef,a.tmps.getD 49 undef,a.tmps.getD 50 undef,a.tmps.getD 51 undef,a.tmps.getD 52 undef,a.tmps.getD 9 undef)) ?_ ?_ (by kernel_rfl) (by kernel_rfl) (by kernel_rfl) (by kernel_rfl) (by kernel_rfl) ?_ ?_ ?_
     rotate_left 1
     ·intro v;simp only [fillA,Act.put,tA,cZ,cS];rfl
     ·rfl
     ·rw [hInv]
      exact ⟨(hb.out.trans (hB.mono hb.out.size)),(fun _=>hB),(br.out.below hB),(fun h _=>absurd h (by decide)),(fun h _=>absurd h (by decide)),(fun h _=>absurd h (by decide)),(fun h _=>absurd h (by decide)),(fun h=>absurd h (by decide)),(fun h=>absurd h (by decide))⟩
     ·skip
      refine EachFrom.skip (by rfl) ?_
      refine EachFrom.cons (k:=1) rfl rfl (ds:=[]) (by kernel_rfl) (fun v x=>(x,v.2.1,v.2.2.1,v.2.2.2.1,v.2.2.2.2.1,v.2.2.2.2.2)) (fun v x=>by rfl) (fun b v wz hb0 hcl hbk hdep hI Kc hK=>?_) ?_
      ·skip
       rw [hInv] at hI
       obtain ⟨x48,x49,x50,x51,x52,x9⟩:=v
       dsimp only at hI hK ⊢
       (try simp only [Act.put] at hK);(try simp only [tA] at hK);(try simp only [cS] at hK);(try simp only [cZ] at hK)
       obtain ⟨fn,famb,fbr,f48,f49,f50,f51,fown,f9⟩:=hI
       (try simp only [gA]);(try simp only [gS]);(try simp only [gZ])
       have hA:=famb (by cases h:b 5 with | false=>rfl | true=>exact absurd ((show AllT b [1,2,2] from hcl 3 _ rfl ((show AllT b [3] from hcl 4 _ rfl ((show AllT b [0,4,3] from hcl 5 _ rfl h).2.1)).1)).1) (by rw [hbk];decide))
       obtain ⟨g,A,n,c,Fq,Z48⟩:=L10.out.below hA
       obtain ⟨c0,c1,-,-,-⟩:=Fq
       go_simp
       refine hK.out _ _ trivial ?_
       rw [hInv]
       exact ⟨(fn),(fun h0=>famb h0),(fbr),(fun h0 h1=>Z48),(fun h0 h1=>f49 h0 h1),(fun h _=>absurd ((show AllT b [1,2,2] from hcl 3 _ rfl h).1) (by rw [hbk];decide)),(fun h _=>absurd ((show AllT b [1,2,2] from hcl 3 _ rfl ((show AllT b [3] from hcl 4 _ rfl h).1)).1) (by rw [hbk];decide)),(fun h=>absurd ((show AllT b [1,2,2] from hcl 3 _ rfl ((show AllT b [3] from hcl 4 _ rfl ((show AllT b [0,4,3] from hcl 5 _ rfl h).2.1)).1)).1) (by rw [hbk];decide)),(fun h=>absurd ((show AllT b [5,5,0,1,2,3,4,5] from hcl 6 _ rfl h).2.2.2.1) (by rw [hbk];decide))⟩
      refine EachFrom.cons (k:=2) rfl rfl (ds:=[]) (by kernel_rfl) (fun v x=>(v.1,x,v.2.2.1,v.2.2.2.1,v.2.2.2.2.1,v.2.2.2.2.2)) (fun v x=>by rfl) (fun b v wz hb0 hcl hbk hdep hI Kc hK=>?_) ?_
      ·skip
       rw [hInv] at hI
       obtain ⟨x48,x49,x50,x51,x52,x9⟩:=v
       dsimp only at hI hK ⊢
       (try simp only [Act.put] at hK);(try simp only [tA] at hK);(try simp only [cS] at hK);(try simp only [cZ] at hK)
       obtain ⟨fn,famb,fbr,f48,f49,f50,f51,fown,f9⟩:=hI
       (try simp only [gA]);(try simp only [gS]);(try simp only [gZ])
       go_simp
       (go_at_call 65;refine (new_q 1 _ (by decide) (by decide)).mono ?_;rintro e w1 ⟨⟨g49,A49,n49,c49,rfl,hz⟩,hb⟩)
       refine hK.out _ _ trivial ?_
       rw [hInv]
       exact ⟨((fn).trans (hb.mono (fn).size)),(fun h0=>(famb h0).trans (hb.mono (famb h0).size)),((fbr).below hb),(fun h0 h1=>(f48 h0 h1).below hb),(fun h0 h1=>hz),(fun h _=>absurd ((show AllT b [1,2,2] from hcl 3 _ rfl h).2.1) (by rw [hbk];decide)),(fun h _=>absurd ((show AllT b [1,2,2] from hcl 3 _ rfl ((show AllT b [3] from hcl 4 _ rfl h).1)).2.1) (by rw [hbk];decide)),(fun h=>absurd ((show AllT b [1,2,2] from hcl 3 _ rfl ((show AllT b [3] from hcl 4 _ rfl ((show AllT b [0,4,3] from hcl 5 _ rfl h).2.1)).1)).2.1) (by rw [hbk];decide)),(fun h=>absurd ((show AllT b [5,5,0,1,2,3,4,5] from hcl 6 _ rfl h).2.2.2.2.1) (by rw [hbk];decide))⟩
      refine EachFrom.cons (k:=3) rfl rfl (ds:=[1,2,2]) (by kernel_rfl) (fun v x=>(v.1,v.2.1,x,v.2.2.2.1,v.2.2.2.2.1,v.2.2.2.2.2)) (fun v x=>by rfl) (fun b v wz hb0 hcl hbk hdep hI Kc hK=>?_) ?_
      ·skip
       rw [hInv] at hI
       obtain ⟨x48,x49,x50,x51,x52,x9⟩:=v
       dsimp only at hI hK ⊢
       (try simp only [Act.put] at hK);(try simp only [tA] at hK);(try simp only [cS] at hK);(try simp only [cZ] at hK)
       obtain ⟨fn,famb,fbr,f48,f49,f50,f51,fown,f9⟩:=hI
       obtain ⟨d1,d2,-,-⟩:=hdep
       (try simp only [gA]);(try simp only [gS]);(try simp only [gZ])
       go_simp
       (go_at_call 99;refine (add_t _ _ Q1 1 L 2 _ (f48 d1 (by cases h:b 5 with | false=>rfl | true=>exact absurd ((show AllT b [0,4,3] from hcl 5 _ rfl h).2.2.1) (by rw [hbk];decide))) (f49 d2 (by cases h:b 5 with | false=>rfl | true=>exact absurd ((show AllT b [0,4,3] from hcl 5 _ rfl h).2.2.1) (by rw [hbk];decide))) (by omega) (by decide)).mono ?_;rintro e w1 ⟨⟨g50,A50,n50,c50,rfl,hz⟩,hb⟩)
       refine hK.out _ _ trivial ?_
       rw [hInv]
       exact ⟨((fn).trans (hb.mono (fn).size)),(fun h0=>(famb h0).trans (hb.mono (famb h0).size)),((fbr).below hb),(fun h0 h1=>(f48 h0 h1).below hb),(fun h0 h1=>(f49 h0 h1).below hb),(fun h0 h1=>(hz.tight (by have:=HQB.out.1.1;rw [HQQ.out.1] at this;omega) (by have h1:=HQB.out.2.2.1.2;rw [HQQ.out.2.2.1] at h1;have h2:=HQL.out;omega))),(fun h _=>absurd ((show AllT b [3] from hcl 4 _ rfl h).1) (by rw [hbk];decide)),(fun h=>absurd ((show AllT b [0,4,3] from hcl 5 _ rfl h).2.2.1) (by rw [hbk];decide)),(fun h=>absurd ((show AllT b [5,5,0,1,2,3,4,5] from hcl 6 _ rfl h).2.2.2.2.2.1) (by rw [hbk];decide))⟩
      refine EachFrom.cons (k:=4) rfl rfl (ds:=[3]) (by kernel_rfl) (fun v x=>(v.1,v.2.1,v.2.2.1,x,v.2.2.2.2.1,v.2.2.2.2.2)) (fun v x=>by rfl) (fun b v wz hb0 hcl hbk hdep hI Kc hK=>?_) ?_
      ·skip
       rw [hInv] at hI
       obtain ⟨x48,x49,x50,x51,x52,x9⟩:=v
       dsimp only at hI hK ⊢
       (try simp only [Act.put] at hK);(try simp only [tA] at hK);(try simp only [cS] at hK);(try simp only [cZ] at hK)
       obtain ⟨fn,famb,fbr,f48,f49,f50,f51,fown,f9⟩:=hI
       obtain ⟨d3,-⟩:=hdep
       (try simp only [gA]);(try simp only [gS]);(try simp only [gZ])
       obtain ⟨g50,A50,n50,c50,rfl⟩:=(f50 d3 (by cases h:b 5 with | false=>rfl | true=>exact absurd ((show AllT b [0,4,3] from hcl 5 _ rfl h).2.1) (by rw [hbk];decide))).form
       have hb:=below_alloc wz (.cells #[.bool g50,.slice A50 n50 c50] 31)
       go_simp
       refine hK.out _ _ trivial ?_
       rw [hInv]
       exact ⟨((fn).trans (hb.mono (fn).size)),(fun h0=>(famb h0).trans (hb.mono (famb h0).size)),((fbr).below hb),(fun h0 h1=>(f48 h0 h1).below hb),(fun h0 h1=>(f49 h0 h1).below hb),(fun h0 h1=>(f50 h0 h1).below hb),(fun h0 h1=>⟨_,rfl,IBox.new _ 31 (f50 d3 (by cases h:b 5 with | false=>rfl | true=>exact absurd ((show AllT b [0,4,3] from hcl 5 _ rfl h).2.1) (by rw [hbk];decide)))⟩),(fun h=>absurd ((show AllT b [0,4,3] from hcl 5 _ rfl h).2.1) (by rw [hbk];decide)),(fun h=>absurd ((show AllT b [5,5,0,1,2,3,4,5] from hcl 6 _ rfl h).2.2.2.2.2.2.1) (by rw [hbk];decide))⟩
      refine EachFrom.cons (k:=5) rfl rfl (ds:=[0,4,3]) (by kernel_rfl) (fun v x=>(v.1,v.2.1,v.2.2.1,v.2.2.2.1,x,v.2.2.2.2.2)) (fun v x=>by rfl) (fun b v wz hb0 hcl hbk hdep hI Kc hK=>?_) ?_
      ·skip
       rw [hInv] at hI
       obtain ⟨x48,x49,x50,x51,x52,x9⟩:=v
       dsimp only at hI hK ⊢
       (try simp only [Act.put] at hK);(try simp only [tA] at hK);(try simp only [cS] at hK);(try simp only [cZ] at hK)
       obtain ⟨fn,famb,fbr,f48,f49,f50,f51,fown,f9⟩:=hI
       obtain ⟨d0,d4,d3,-⟩:=hdep
       (try simp only [gA]);(try simp only [gS]);(try simp only [gZ])
       have hA:=famb hbk
       obtain ⟨kb,rfl,FB⟩:=f51 d4 hbk
       obtain ⟨g,A,n,c,Fq,Vq⟩:=FB
       obtain ⟨c0,c1,-,-,-⟩:=Fq
       rw [if_pos (by rfl)]
       refine wp_append_int (.tmp 47) (.tmp 51) rfl (zs:=zs) (L:=L) rfl (hv.out.below hA) rfl c0 c1 Vq HLN.out (by have h1:=hsz.out;have h2:=hA.size;omega) ?_
       intro v6 w6 hown hni hg hge
       try simp only [Act.put,tA,cZ,cS]
       refine hK.out _ _ trivial ?_
       rw [hInv]
       exact ⟨((fn.grown hg (by have:=fn.size;omega) (fun q hq=>by have h1:=hge q hq;have h2:=HKS.out;omega))),(fun h=>absurd (show true = false from h) (by decide)),((fbr.off (fun e=>by have h1:=hge _ e;have h2:=HKS.out;omega) hg)),(fun _ h=>absurd (show true = false from h) (by decide)),(fun _ h=>absurd (show true = false from h) (by decide)),(fun _ h=>absurd (show true = false from h) (by decide)),(fun _ h=>absurd (show true = false from h) (by decide)),(fun h0=>hown),(fun h=>absurd ((show AllT b [5,5,0,1,2,3,4,5] from hcl 6 _ rfl h).1) (by rw [hbk];decide))⟩
      refine EachFrom.cons (k:=6) rfl rfl (ds:=[5,5,0,1,2,3,4,5]) (by kernel_rfl) (fun v x=>(v.1,v.2.1,v.2.2.1,v.2.2.2.1,v.2.2.2.2.1,x)) (fun v x=>by rfl) (fun b v wz hb0 hcl hbk hdep hI Kc hK=>?_) ?_
      ·skip
       rw [hInv] at hI
       obtain ⟨x48,x49,x50,x51,x52,x9⟩:=v
       dsimp only at hI hK ⊢
       (try simp only [Act.put] at hK);(try simp only [tA] at hK);(try simp only [cS] at hK);(try simp only [cZ] at hK)
       obtain ⟨fn,famb,fbr,f48,f49,f50,f51,fown,f9⟩:=hI
       obtain ⟨d5,-,d0,d1,d2,d3,d4,-,-⟩:=hdep
       (try simp only [gA]);(try simp only [gS]);(try simp only [gZ])
       go_simp
       refine hK.out _ _ trivial ?_
       rw [hInv]
       exact ⟨(fn),(fun h=>absurd (show b 5 = false from h) (by rw [d5];decide)),(fbr),(fun _ h=>absurd (show b 5 = false from h) (by rw [d5];decide)),(fun _ h=>absurd (show b 5 = false from h) (by rw [d5];decide)),(fun _ h=>absurd (show b 5 = false from h) (by rw [d5];decide)),(fun _ h=>absurd (show b 5 = false from h) (by rw [d5];decide)),(fun h0=>fown h0),(fun h0=>rfl)⟩
      exact EachFrom.nil (by kernel_rfl)
     ·intro v wF hI
      rw [hInv] at hI
      obtain ⟨x48,x49,x50,x51,x52,x9⟩:=v
      dsimp only at hI ⊢
      obtain ⟨fn,famb,fbr,f48,f49,f50,f51,fown,f9⟩:=hI
      clear famb
      clear f48
      clear f49
      clear f50
      clear f51
      replace fown:=fown rfl
      replace f9:=f9 rfl
      clear hInv hB
      obtain rfl:=f9
      replace hb:=Hd fn
      replace hv:=Hd fown
      replace br:=Hd fbr
      clear fn fown fbr L10 L11 L12 L13 J5 J6 J7 J8 Fxs Vxs HT
      obtain ⟨Z,hZ⟩ : ∃ Z,zs ++ [Q1 + 1] = Z:=⟨_,rfl⟩
      rw [hZ] at hv hbl
      have HZ:=Hd hbl.out.symm
      clear hZ hbl
      have hlen:Z.length <= 2 * (32 * L) + 1:=by rw [HZ.out];exact bl_length (32 * L) K0 n d m c HR.out (by rw [<- pow32];exact HDB.out)
      have hmul:(L + 2) * Z.length <= 102 * 6401:=Nat.mul_le_mul (by omega) (by omega)
      have HM:=Hd hmul
      clear hlen hmul
      go_wp2_with fail
      refine (Contract_any _ Z wE.heap.size L _ hv.out (by have:=HM.out;omega)).mono ?_
      rintro e w7 hans
      obtain ⟨s1,s2,s3⟩:=bl_simp K0 n d m c HR.out HK0.out
      rw [<- HZ.out] at s1 s2 s3
      have hans3:=ContrAns.ok s2 (fun ⟨t,h1,h2,h3⟩=>by have:=s3 t h2;omega) hans
      clear hans
      obtain ⟨⟨q1,B1,l1,o1,q2,B2,l2,o2,rfl,hq⟩,hb7⟩:=hans3
      have hq2:=hq.simp s1 HR.out HNB.out HDB.out
      have HS:=Hd s1
      clear s1 s2 s3 hq
      have hb8:=hb7.trans ((below_alloc w7 (.cells #[.bool q1,.slice B1 l1 o1,.bool q2,.slice B2 l2 o2] 38)).mono hb7.size)
      have Q8:=Hd (hq2.below (below_alloc w7 (.cells #[.bool q1,.slice B1 l1 o1,.bool q2,.slice B2 l2 o2] 38)))
      replace br:=Hd (br.out.below hb8)
      replace hb:=Hd (hb.out.trans (hb8.mono hb.out.size))
      clear hq2 hb7 hb8 hv
      obtain ⟨r0,r1,r2,r3,r4,r5,r6,r7,r8⟩:=br.out
      go_wp2
      refine bodyPost_ret (v:=.agg #[.bool q1,.slice B1 l1 o1,.bool q2,.slice B2 l2 o2]) (by simp [results,Tryz.results107,go_sem,r0,r1,r2,r3]) rfl ⟨_,_,HS.out,⟨_,_,_,_,_,_,_,_,rfl,Q8.out.put4 br.out _ _ _ _⟩,below_put4 hb.out (by omega) _ _ _ _⟩
    ·have hcm:¬ cmpI Q1 Q2 < 0:=by unfold cmpI;rw [if_neg hq];split <;> decide
     have hz1:bl (k + 1) n' d' m' c' = Q1 :: bl k c' R2 d' R1:=by rw [<- HQQ.out.1,<- HQQ.out.2.1,<- HQQ.out.2.2.2];exact (if_neg (by rw [HQQ.out.2.1];exact HR0.out)).trans (if_neg (by rw [HQQ.out.1,HQQ.out.2.2.1];exact hq))
     have hnx:=hR.out.next (by rw [HQQ.out.2.1];exact HR0.out) (by rw [HQQ.out.1,HQQ.out.2.2.1];exact hq)
     rw [HQQ.out.2.1,HQQ.out.2.2.2] at hnx
     have HNX:=Hd hnx.1
     have hsm:R1 < d' /\ R2 < c':=⟨by rw [<- HQQ.out.2.1];exact Int.emod_lt_of_pos _ hR.out.d0,by rw [<- HQQ.out.2.2.2];exact Int.emod_lt_of_pos _ hR.out.c0⟩
     have HSM:=Hd hsm
     rw [hz1] at hbl
     clear hq hz1 hnx hsm
     go_upto_region 9 with fail
     clear hcm
     obtain ⟨gxs,Axs,nxs,cxs,Fxs,Vxs⟩:=L10.out
     obtain ⟨yas,ybs,-,-,-⟩:=Fxs
     have HA:=Hd (below_alloc w8 (.cells #[.bool gxs,.slice Axs nxs cxs] 31))
     have HVA:=Hd (hv.out.below HA.out)
     have HXA:=Hd (Vxs.below HA.out)
     clear Vxs
     go_wp2_with (at_builtin;refine wpList_append_int _ rfl (.tmp 53) (.tmp 55) rfl (zs:=zs) (L:=L) rfl HVA.out rfl (World.cell?_alloc_at _ _ _ _ rfl) (World.cell?_alloc_at _ _ _ _ rfl) HXA.out ?c1 ?c2 ?_)
     case c1=>exact HLN.out
     case c2=>have h1:=hsz.out;have h2:=HA.out.size;omega
     intro v6 w6 hown hni hg hge
     clear yas ybs HVA HXA
     have hbr:=(br.out.below HA.out).off (fun e=>by have h1:=hge _ e;have h2:=HKS.out;omega) hg
     replace hb:=Hd ((hb.out.alloc (by have:=hb.out.size;omega) _).grown hg (by have h1:=hb.out.size;have h2:=HA.out.size;omega) (fun q hq=>by have h1:=hge q hq;have h2:=HKS.out;omega))
     replace J5:=Hd ((J5.out.below HA.out).off (fun e=>by have h1:=hge _ e;have h2:=HKS.out;omega) hni hg)
     replace J6:=Hd ((J6.out.below HA.out).off (fun e=>by have h1:=hge _ e;have h2:=HKS.out;omega) hni hg)
     replace J7:=Hd ((J7.out.below HA.out).off (fun e=>by have h1:=hge _ e;have h2:=HKS.out;omega) hni hg)
     replace J8:=Hd ((J8.out.below HA.out).off (fun e=>by have h1:=hge _ e;have h2:=HKS.out;omega) hni hg)
     have hjr11:=fun e=>show False from absurd (HRW10.out j11 e) (by have:=HJ10.out;omega)
     have hjr13:=fun e=>show False from absurd (HRW12.out j13 e) (by have:=HJ12.out;omega)
     replace L11:=Hd ((L11.out.below HA.out).off hjr11 hni hg)
     replace L13:=Hd ((L13.out.below HA.out).off hjr13 hni hg)
     replace hsz:=Hd (show wE.heap.size <= w6.heap.size by have h1:=hsz.out;have h2:=HA.out.size;have h3:=hg.size;omega)
     replace hv:=Hd hown
     replace br:=Hd hbr
     clear hown hni hg hge hbr HA L10 L12 hjr11 hjr13
     go_upto_region 10 with fail
     obtain ⟨Inv,hInv⟩ : ∃ J:(Nat -> Bool) -> (Value × Value × Value × Value) -> World -> Prop,J = fun b v w'=>(Below w.heap.size w w') /\ (wE.heap.size <= (w').heap.size) /\ (Fx4 w' (w.heap.size + 1 + 1) (.bool false) (.slice none 0 0) (.bool false) (.slice none 0 0)) /\ (OwnInts w' wE.heap.size v6 (zs ++ [Q1]) L) /\ (IBox w' j11 R1 L) /\ (IBox w' j13 R2 L) /\ (b 4 = false -> IBox w' k5 n' L) /\ (b 4 = true -> IBox w' k5 c' L) /\ (b 0 = true -> Ival w' v.1 c' L) /\ (b 5 = false -> IBox w' k6 d' L) /\ (b 5 = true -> IBox w' k6 R2 L) /\ (b 1 = true -> Ival w' v.2.1 R2 L) /\ (b 6 = false -> IBox w' k7 m' L) /\ (b 6 = true -> IBox w' k7 d' L) /\ (b 2 = true -> Ival w' v.2.2.1 d' L) /\ (b 7 = false -> IBox w' k8 c' L) /\ (b 7 = true -> IBox w' k8 R1 L) /\ (b 3 = true -> Ival w' v.2.2.2 R1 L):=⟨_,rfl⟩
     have hB:=(Below.refl w6.heap.size w6).drew
     refine wp_region_held_drew (S:=fun w'=>True) (by kernel_rfl) (trivial) (fun hH=>?_)
     clear hH
     generalize w6.drew = wr0 at *
     refine wpAnyH_begin (V:=Value × Value × Value × Value) (I:=Inv) (A:=?_) [false,false,false,false,false,false,false,false] [57,58,59,60] (fun v=>[v.1,v.2.1,v.2.2.1,v.2.2.2]) (fun a=>(a.tmps.getD 57 undef,a.tmps.getD 58 undef,a.tmps.getD 59 undef,a.tmps.getD 60 undef)) ?_ ?_ (by kernel_rfl) (by kernel_rfl) (by kernel_rfl) (by kernel_rfl) (by kernel_rfl) ?_ ?_ ?_
     rotate_left 1
     ·intro v;simp only [fillA,Act.put,tA,cZ,cS];rfl
     ·rfl
     ·rw [hInv]
      exact ⟨(hb.out.trans (hB.mono hb.out.size)),(Nat.le_trans hsz.out hB.size),(br.out.below hB),(hv.out.below hB),(L11.out.below hB),(L13.out.below hB),(fun _=>J5.out.below hB),(fun h=>absurd h (by decide)),(fun h=>absurd h (by decide)),(fun _=>J6.out.below hB),(fun h=>absurd h (by decide)),(fun h=>absurd h (by decide)),(fun _=>J7.out.below hB),(fun h=>absurd h (by decide)),(fun h=>absurd h (by decide)),(fun _=>J8.out.below hB),(fun h=>absurd h (by decide)),(fun h=>absurd h (by decide))⟩
     ·skip
      refine EachFrom.cons (k:=0) rfl rfl (ds:=[]) (by kernel_rfl) (fun v x=>(x,v.2.1,v.2.2.1,v.2.2.2)) (fun v x=>by rfl) (fun b v wz hb0 hcl hbk hdep hI Kc hK=>?_) ?_
      ·skip
       rw [hInv] at hI
       obtain ⟨x57,x58,x59,x60⟩:=v
       dsimp only at hI hK ⊢
       (try simp only [Act.put] at hK);(try simp only [tA] at hK);(try simp only [cS] at hK);(try simp only [cZ] at hK)
       obtain ⟨fn,fsz,fbr,fv,fl11,fl13,fo5,fw5,f57,fo6,fw6,f58,fo7,fw7,f59,fo8,fw8,f60⟩:=hI
       (try simp only [gA]);(try simp only [gS]);(try simp only [gZ])
       obtain ⟨g,A,n,c,Fq,Z57⟩:=fo8 (by cases h:b 7 with | false=>rfl | true=>exact absurd ((show AllT b [3,6,0,1,2,3,4,5,6] from hcl 7 _ rfl h).2.2.1) (by rw [hbk];decide))
       obtain ⟨c0,c1,-,-,-⟩:=Fq
       go_simp
       refine hK.out _ _ trivial ?_
       rw [hInv]
       exact ⟨(fn),(fsz),(fbr),(fv),(fl11),(fl13),(fun h0=>fo5 h0),(fun h=>absurd ((show AllT b [0,0,2] from hcl 4 _ rfl h).1) (by rw [hbk];decide)),(fun h0=>Z57),(fun h0=>fo6 h0),(fun h=>absurd ((show AllT b [1,4,0,1,2,4] from hcl 5 _ rfl h).2.2.1) (by rw [hbk];decide)),(fun h0=>f58 h0),(fun h0=>fo7 h0),(fun h=>absurd ((show AllT b [2,5,0,1,2,4,5] from hcl 6 _ rfl h).2.2.1) (by rw [hbk];decide)),(fun h0=>f59 h0),(fun h0=>fo8 h0),(fun h=>absurd ((show AllT b [3,6,0,1,2,3,4,5,6] from hcl 7 _ rfl h).2.2.1) (by rw [hbk];decide)),(fun h0=>f60 h0)⟩
      refine EachFrom.cons (k:=1) rfl rfl (ds:=[]) (by kernel_rfl) (fun v x=>(v.1,x,v.2.2.1,v.2.2.2)) (fun v x=>by rfl) (fun b v wz hb0 hcl hbk hdep hI Kc hK=>?_) ?_
      ·skip
       rw [hInv] at hI
       obtain ⟨x57,x58,x59,x60⟩:=v
       dsimp only at hI hK ⊢
       (try simp only [Act.put] at hK);(try simp only [tA] at hK);(try simp only [cS] at hK);(try simp only [cZ] at hK)
       obtain ⟨fn,fsz,fbr,fv,fl11,fl13,fo5,fw5,f57,fo6,fw6,f58,fo7,fw7,f59,fo8,fw8,f60⟩:=hI
       (try simp only [gA]);(try simp only [gS]);(try simp only [gZ])
       obtain ⟨g,A,n,c,Fq,Z58⟩:=id fl13
       obtain ⟨c0,c1,-,-,-⟩:=Fq
       go_simp
       refine hK.out _ _ trivial ?_
       rw [hInv]
       exact ⟨(fn),(fsz),(fbr),(fv),(fl11),(fl13),(fun h0=>fo5 h0),(fun h0=>fw5 h0),(fun h0=>f57 h0),(fun h0=>fo6 h0),(fun h=>absurd ((show AllT b [1,4,0,1,2,4] from hcl 5 _ rfl h).1) (by rw [hbk];decide)),(fun h0=>Z58),(fun h0=>fo7 h0),(fun h=>absurd ((show AllT b [2,5,0,1,2,4,5] from hcl 6 _ rfl h).2.2.2.1) (by rw [hbk];decide)),(fun h0=>f59 h0),(fun h0=>fo8 h0),(fun h=>absurd ((show AllT b [3,6,0,1,2,3,4,5,6] from hcl 7 _ rfl h).2.2.2.1) (by rw [hbk];decide)),(fun h0=>f60 h0)⟩
      refine EachFrom.cons (k:=2) rfl rfl (ds:=[]) (by kernel_rfl) (fun v x=>(v.1,v.2.1,x,v.2.2.2)) (fun v x=>by rfl) (fun b v wz hb0 hcl hbk hdep hI Kc hK=>?_) ?_
      ·skip
       rw [hInv] at hI
       obtain ⟨x57,x58,x59,x60⟩:=v
       dsimp only at hI hK ⊢
       (try simp only [Act.put] at hK);(try simp only [tA] at hK);(try simp only [cS] at hK);(try simp only [cZ] at hK)
       obtain ⟨fn,fsz,fbr,fv,fl11,fl13,fo5,fw5,f57,fo6,fw6,f58,fo7,fw7,f59,fo8,fw8,f60⟩:=hI
       (try simp only [gA]);(try simp only [gS]);(try simp only [gZ])
       obtain ⟨g,A,n,c,Fq,Z59⟩:=fo6 (by cases h:b 5 with | false=>rfl | true=>exact absurd ((show AllT b [1,4,0,1,2,4] from hcl 5 _ rfl h).2.2.2.2.1) (by rw [hbk];decide))
       obtain ⟨c0,c1,-,-,-⟩:=Fq
       go_simp
       refine hK.out _ _ trivial ?_
       rw [hInv]
       exact ⟨(fn),(fsz),(fbr),(fv),(fl11),(fl13),(fun h0=>fo5 h0),(fun h=>absurd ((show AllT b [0,0,2] from hcl 4 _ rfl h).2.2.1) (by rw [hbk];decide)),(fun h0=>f57 h0),(fun h0=>fo6 h0),(fun h=>absurd ((show AllT b [1,4,0,1,2,4] from hcl 5 _ rfl h).2.2.2.2.1) (by rw [hbk];decide)),(fun h0=>f58 h0),(fun h0=>fo7 h0),(fun h=>absurd ((show AllT b [2,5,0,1,2,4,5] from hcl 6 _ rfl h).1) (by rw [hbk];decide)),(fun h0=>Z59),(fun h0=>fo8 h0),(fun h=>absurd ((show AllT b [3,6,0,1,2,3,4,5,6] from hcl 7 _ rfl h).2.2.2.2.1) (by rw [hbk];decide)),(fun h0=>f60 h0)⟩
      refine EachFrom.cons (k:=3) rfl rfl (ds:=[]) (by kernel_rfl) (fun v x=>(v.1,v.2.1,v.2.2.1,x)) (fun v x=>by rfl) (fun b v wz hb0 hcl hbk hdep hI Kc hK=>?_) ?_
      ·skip
       rw [hInv] at hI
       obtain ⟨x57,x58,x59,x60⟩:=v
       dsimp only at hI hK ⊢
       (try simp only [Act.put] at hK);(try simp only [tA] at hK);(try simp only [cS] at hK);(try simp only [cZ] at hK)
       obtain ⟨fn,fsz,fbr,fv,fl11,fl13,fo5,fw5,f57,fo6,fw6,f58,fo7,fw7,f59,fo8,fw8,f60⟩:=hI
       (try simp only [gA]);(try simp only [gS]);(try simp only [gZ])
       obtain ⟨g,A,n,c,Fq,Z60⟩:=id fl11
       obtain ⟨c0,c1,-,-,-⟩:=Fq
       go_simp
       refine hK.out _ _ trivial ?_
       rw [hInv]
       exact ⟨(fn),(fsz),(fbr),(fv),(fl11),(fl13),(fun h0=>fo5 h0),(fun h0=>fw5 h0),(fun h0=>f57 h0),(fun h0=>fo6 h0),(fun h0=>fw6 h0),(fun h0=>f58 h0),(fun h0=>fo7 h0),(fun h0=>fw7 h0),(fun h0=>f59 h0),(fun h0=>fo8 h0),(fun h=>absurd ((show AllT b [3,6,0,1,2,3,4,5,6] from hcl 7 _ rfl h).1) (by rw [hbk];decide)),(fun h0=>Z60)⟩
      refine EachFrom.cons (k:=4) rfl rfl (ds:=[0,0,2]) (by kernel_rfl) (fun v _=>v) (fun v x=>by rfl) (fun b v wz hb0 hcl hbk hdep hI Kc hK=>?_) ?_
      ·skip
       rw [hInv] at hI
       obtain ⟨x57,x58,x59,x60⟩:=v
       dsimp only at hI hK ⊢
       (try simp only [Act.put] at hK);(try simp only [tA] at hK);(try simp only [cS] at hK);(try simp only [cZ] at hK)
       obtain ⟨fn,fsz,fbr,fv,fl11,fl13,fo5,fw5,f57,fo6,fw6,f58,fo7,fw7,f59,fo8,fw8,f60⟩:=hI
       obtain ⟨d0,-,d2,-⟩:=hdep
       (try simp only [gA]);(try simp only [gS]);(try simp only [gZ])
       have FB:=fo5 hbk
       obtain ⟨g57,A57,n57,c57,rfl⟩:=(f57 d0).form
       obtain ⟨g,A,n,c,Fq,-⟩:=id FB
       obtain ⟨c0,c1,c2,c3,c4⟩:=Fq
       go_simp
       refine hK.out (undef) _ trivial ?_
       rw [hInv]
       exact ⟨(((fn).setCell (p:=⟨k5,0,none⟩) (by have:=HGE.out;show w.heap.size <= k5;omega) _).setCell (p:=⟨k5,1,none⟩) (by have:=HGE.out;show w.heap.size <= k5;omega) _),((by simpa using fsz)),((fbr).other2 (by have:=HGE.out;omega) _ _),((fv).other FB (own_ne (fv) (by have:=HKS.out;omega)) _ _),((fl11).other FB (by have h1:=HKS.out;have h2:=HJ10.out;omega) _ _),((fl13).other FB (by have h1:=HKS.out;have h2:=HJ12.out;omega) _ _),(fun h=>absurd (show true = false from h) (by decide)),(fun h0=>(FB.store (f57 d0))),(fun h0=>(f57 h0).at FB _ _),(fun h0=>(fo6 h0).other FB HNE.out.1 _ _),(fun h=>absurd ((show AllT b [1,4,0,1,2,4] from hcl 5 _ rfl h).2.1) (by rw [hbk];decide)),(fun h0=>(f58 h0).at FB _ _),(fun h0=>(fo7 h0).other FB HNE.out.2.1 _ _),(fun h=>absurd ((show AllT b [2,5,0,1,2,4,5] from hcl 6 _ rfl h).2.2.2.2.2.1) (by rw [hbk];decide)),(fun h0=>(f59 h0).at FB _ _),(fun h0=>(fo8 h0).other FB HNE.out.2.2.1 _ _),(fun h=>absurd ((show AllT b [3,6,0,1,2,3,4,5,6] from hcl 7 _ rfl h).2.2.2.2.2.2.1) (by rw [hbk];decide)),(fun h0=>(f60 h0).at FB _ _)⟩
      refine EachFrom.cons (k:=5) rfl rfl (ds:=[1,4,0,1,2,4]) (by kernel_rfl) (fun v _=>v) (fun v x=>by rfl) (fun b v wz hb0 hcl hbk hdep hI Kc hK=>?_) ?_
      ·skip
       rw [hInv] at hI
       obtain ⟨x57,x58,x59,x60⟩:=v
       dsimp only at hI hK ⊢
       (try simp only [Act.put] at hK);(try simp only [tA] at hK);(try simp only [cS] at hK);(try simp only [cZ] at hK)
       obtain ⟨fn,fsz,fbr,fv,fl11,fl13,fo5,fw5,f57,fo6,fw6,f58,fo7,fw7,f59,fo8,fw8,f60⟩:=hI
       obtain ⟨d1,d4,d0,-,d2,-,-⟩:=hdep
       (try simp only [gA]);(try simp only [gS]);(try simp only [gZ])
       have FB:=fo6 hbk
       obtain ⟨g58,A58,n58,c58,rfl⟩:=(f58 d1).form
       obtain ⟨g,A,n,c,Fq,-⟩:=id FB
       obtain ⟨c0,c1,c2,c3,c4⟩:=Fq
       go_simp
       refine hK.out (undef) _ trivial ?_
       rw [hInv]
       exact ⟨(((fn).setCell (p:=⟨k6,0,none⟩) (by have:=HGE.out;show w.heap.size <= k6;omega) _).setCell (p:=⟨k6,1,none⟩) (by have:=HGE.out;show w.heap.size <= k6;omega) _),((by simpa using fsz)),((fbr).other2 (by have:=HGE.out;omega) _ _),((fv).other FB (own_ne (fv) (by have:=HKS.out;omega)) _ _),((fl11).other FB (by have h1:=HKS.out;have h2:=HJ10.out;omega) _ _),((fl13).other FB (by have h1:=HKS.out;have h2:=HJ12.out;omega) _ _),(fun h=>absurd (show b 4 = false from h) (by rw [d4];decide)),(fun h0=>(fw5 h0).other FB (Ne.symm HNE.out.1) _ _),(fun h0=>(f57 h0).at FB _ _),(fun h=>absurd (show true = false from h) (by decide)),(fun h0=>(FB.store (f58 d1))),(fun h0=>(f58 h0).at FB _ _),(fun h0=>(fo7 h0).other FB HNE.out.2.2.2.1 _ _),(fun h=>absurd ((show AllT b [2,5,0,1,2,4,5] from hcl 6 _ rfl h).2.1) (by rw [hbk];decide)),(fun h0=>(f59 h0).at FB _ _),(fun h0=>(fo8 h0).other FB HNE.out.2.2.2.2.1 _ _),(fun h=>absurd ((show AllT b [3,6,0,1,2,3,4,5,6] from hcl 7 _ rfl h).2.2.2.2.2.2.2.1) (by rw [hbk];decide)),(fun h0=>(f60 h0).at FB _ _)⟩
      refine EachFrom.cons (k:=6) rfl rfl (ds:=[2,5,0,1,2,4,5]) (by kernel_rfl) (fun v _=>v) (fun v x=>by rfl) (fun b v wz hb0 hcl hbk hdep hI Kc hK=>?_) ?_
      ·skip
       rw [hInv] at hI
       obtain ⟨x57,x58,x59,x60⟩:=v
       dsimp only at hI hK ⊢
       (try simp only [Act.put] at hK);(try simp only [tA] at hK);(try simp only [cS] at hK);(try simp only [cZ] at hK)
       obtain ⟨fn,fsz,fbr,fv,fl11,fl13,fo5,fw5,f57,fo6,fw6,f58,fo7,fw7,f59,fo8,fw8,f60⟩:=hI
       obtain ⟨d2,d5,d0,d1,-,d4,-,-⟩:=hdep
       (try simp only [gA]);(try simp only [gS]);(try simp only [gZ])
       have FB:=fo7 hbk
       obtain ⟨g59,A59,n59,c59,rfl⟩:=(f59 d2).form
       obtain ⟨g,A,n,c,Fq,-⟩:=id FB
       obtain ⟨c0,c1,c2,c3,c4⟩:=Fq
       go_simp
       refine hK.out (undef) _ trivial ?_
       rw [hInv]
       exact ⟨(((fn).setCell (p:=⟨k7,0,none⟩) (by have:=HGE.out;show w.heap.size <= k7;omega) _).setCell (p:=⟨k7,1,none⟩) (by have:=HGE.out;show w.heap.size <= k7;omega) _),((by simpa using fsz)),((fbr).other2 (by have:=HGE.out;omega) _ _),((fv).other FB (own_ne (fv) (by have:=HKS.out;omega)) _ _),((fl11).other FB (by have h1:=HKS.out;have h2:=HJ10.out;omega) _ _),((fl13).other FB (by have h1:=HKS.out;have h2:=HJ12.out;omega) _ _),(fun h=>absurd (show b 4 = false from h) (by rw [d4];decide)),(fun h0=>(fw5 h0).other FB (Ne.symm HNE.out.2.1) _ _),(fun h0=>(f57 h0).at FB _ _),(fun h=>absurd (show b 5 = false from h) (by rw [d5];decide)),(fun h0=>(fw6 h0).other FB (Ne.symm HNE.out.2.2.2.1) _ _),(fun h0=>(f58 h0).at FB _ _),(fun h=>absurd (show true = false from h) (by decide)),(fun h0=>(FB.store (f59 d2))),(fun h0=>(f59 h0).at FB _ _),(fun h0=>(fo8 h0).other FB HNE.out.2.2.2.2.2 _ _),(fun h=>absurd ((show AllT b [3,6,0,1,2,3,4,5,6] from hcl 7 _ rfl h).2.1) (by rw [hbk];decide)),(fun h0=>(f60 h0).at FB _ _)⟩
      refine EachFrom.cons (k:=7) rfl rfl (ds:=[3,6,0,1,2,3,4,5,6]) (by kernel_rfl) (fun v _=>v) (fun v x=>by rfl) (fun b v wz hb0 hcl hbk hdep hI Kc hK=>?_) ?_
      ·skip
       rw [hInv] at hI
       obtain ⟨x57,x58,x59,x60⟩:=v
       dsimp only at hI hK ⊢
       (try simp only [Act.put] at hK);(try simp only [tA] at hK);(try simp only [cS] at hK);(try simp only [cZ] at hK)
       obtain ⟨fn,fsz,fbr,fv,fl11,fl13,fo5,fw5,f57,fo6,fw6,f58,fo7,fw7,f59,fo8,fw8,f60⟩:=hI
       obtain ⟨d3,d6,d0,d1,d2,-,d4,d5,-,-⟩:=hdep
       (try simp only [gA]);(try simp only [gS]);(try simp only [gZ])
       have FB:=fo8 hbk
       obtain ⟨g60,A60,n60,c60,rfl⟩:=(f60 d3).form
       obtain ⟨g,A,n,c,Fq,-⟩:=id FB
       obtain ⟨c0,c1,c2,c3,c4⟩:=Fq
       go_simp
       refine hK.out (undef) _ trivial ?_
       rw [hInv]
       exact ⟨(((fn).setCell (p:=⟨k8,0,none⟩) (by have:=HGE.out;show w.heap.size <= k8;omega) _).setCell (p:=⟨k8,1,none⟩) (by have:=HGE.out;show w.heap.size <= k8;omega) _),((by simpa using fsz)),((fbr).other2 (by have:=HGE.out;omega) _ _),((fv).other FB (own_ne (fv) (by have:=HKS.out;omega)) _ _),((fl11).other FB (by have h1:=HKS.out;have h2:=HJ10.out;omega) _ _),((fl13).other FB (by have h1:=HKS.out;have h2:=HJ12.out;omega) _ _),(fun h=>absurd (show b 4 = false from h) (by rw [d4];decide)),(fun h0=>(fw5 h0).other FB (Ne.symm HNE.out.2.2.1) _ _),(fun h0=>(f57 h0).at FB _ _),(fun h=>absurd (show b 5 = false from h) (by rw [d5];decide)),(fun h0=>(fw6 h0).other FB (Ne.symm HNE.out.2.2.2.2.1) _ _),(fun h0=>(f58 h0).at FB _ _),(fun h=>absurd (show b 6 = false from h) (by rw [d6];decide)),(fun h0=>(fw7 h0).other FB (Ne.symm HNE.out.2.2.2.2.2) _ _),(fun h0=>(f59 h0).at FB _ _),(fun h=>absurd (show true = false from h) (by decide)),(fun h0=>(FB.store (f60 d3))),(fun h0=>(f60 h0).at FB _ _)⟩
      exact EachFrom.nil (by kernel_rfl)
     ·intro v wF hI
      rw [hInv] at hI
      obtain ⟨x57,x58,x59,x60⟩:=v
      dsimp only at hI ⊢
      obtain ⟨fn,fsz,fbr,fv,fl11,fl13,fo5,fw5,f57,fo6,fw6,f58,fo7,fw7,f59,fo8,fw8,f60⟩:=hI
      clear fo5
      replace fw5:=fw5 rfl
      replace f57:=f57 rfl
      clear fo6
      replace fw6:=fw6 rfl
      replace f58:=f58 rfl
      clear fo7
      replace fw7:=fw7 rfl
      replace f59:=f59 rfl
      clear fo8
      replace fw8:=fw8 rfl
      replace f60:=f60 rfl
      clear hInv hB
      clear f57 f58 f59 f60 fl11 fl13
      replace fn:=Hd fn
      replace fsz:=Hd fsz
      replace fbr:=Hd fbr
      replace fv:=Hd fv
      replace fw5:=Hd fw5
      replace fw6:=Hd fw6
      replace fw7:=Hd fw7
      replace fw8:=Hd fw8
      clear J5 J6 J7 J8 L11 L13 hb hsz br hv
      go_wp2_with fail
      go_roundg k
      case rel=>exact ⟨zs ++ [Q1],c',R2,d',R1,Hd (by have h1:=hk.out;have h2:=HSM.out;omega),Hd (by rw [hbl.out,List.append_assoc,List.singleton_append]),HNX,Hd (by have h1:=hxb.out;have h2:=HSM.out;exact ⟨h1.2.2.2,by omega,h1.2.1,by omega⟩),fw5,fw6,fw7,fw8,fv,fbr,fn,fsz⟩
      case measure=>omega
end Go.Proofs.YtbajnceoolkckaaGreat
