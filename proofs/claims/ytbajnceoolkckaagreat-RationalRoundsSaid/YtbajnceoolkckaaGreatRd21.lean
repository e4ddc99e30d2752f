/- Of the proof of RationalRounds: RatH. -/
import Derived.Test.YtbajnceoolkckaaGreatRd20
open List renaming getElem_toArray → gA, getElem_cons_succ → gS, getElem_cons_zero → gZ, setIfInBounds_toArray → tA, set_cons_zero → cZ, set_cons_succ → cS
open Go.Lib renaming hid → Hd
set_option maxRecDepth 100000
set_option maxHeartbeats 16000000
namespace Go.Proofs.YtbajnceoolkckaaGreat
open Go.RowKit LM
def OneI (W0:World) (x:Int) (L:Nat) (va:Value) (wx:World) : Prop:=
 ∃ b5:Nat,∃ g A n c,va = .pointer (some ⟨b5,0,none⟩) /\ Fx wx b5 (.bool g) (.slice A n c) /\ Ival wx (.agg #[.bool g,.slice A n c]) x L /\ W0.heap.size <= b5 /\ Below W0.heap.size W0 wx
theorem add_math {n d m c:Int} (hd:0 < d) (hc:0 < c) (h1:Int.gcd n d = 1) (h2:Int.gcd m c = 1) :
  ∃ N D,upN ((n * c.tdiv (Int.gcd d c:Int) + m * d.tdiv (Int.gcd d c:Int)).tdiv (Int.gcd (n * c.tdiv (Int.gcd d c:Int) + m * d.tdiv (Int.gcd d c:Int)) (Int.gcd d c:Int) : Int)) (d.tdiv (Int.gcd d c:Int) * c.tdiv (Int.gcd (n * c.tdiv (Int.gcd d c:Int) + m * d.tdiv (Int.gcd d c:Int)) (Int.gcd d c:Int) : Int)) = N /\ upN (d.tdiv (Int.gcd d c:Int) * c.tdiv (Int.gcd (n * c.tdiv (Int.gcd d c:Int) + m * d.tdiv (Int.gcd d c:Int)) (Int.gcd d c:Int) : Int)) (d.tdiv (Int.gcd d c:Int) * c.tdiv (Int.gcd (n * c.tdiv (Int.gcd d c:Int) + m * d.tdiv (Int.gcd d c:Int)) (Int.gcd d c:Int) : Int)) = D /\ 0 < D /\ Int.gcd N D = 1 /\ N * (d * c) = (n * c + m * d) * D:=by
 obtain ⟨g,hg⟩ : ∃ g,Int.gcd d c = g:=⟨_,rfl⟩
 have g0:0 < (g:Int):=by
  have:g ≠ 0:=fun e=>by rw [e] at hg;have:=(Int.gcd_eq_zero_iff.1 hg).2;omega
  omega
 have k1:=gcd_parts (x:=d) (y:=c) (by omega)
 obtain ⟨a,ha⟩ : (g:Int) ∣ d:=hg ▸ Int.gcd_dvd_left ..
 obtain ⟨b,hb⟩ : (g:Int) ∣ c:=hg ▸ Int.gcd_dvd_right ..
 rw [hg] at k1 ⊢
 subst ha hb
 rw [Int.mul_tdiv_cancel_left _ (by omega),Int.mul_tdiv_cancel_left _ (by omega)] at k1
 rw [Int.mul_tdiv_cancel_left a (by omega:(g:Int) ≠ 0),Int.mul_tdiv_cancel_left b (by omega:(g:Int) ≠ 0)]
 obtain ⟨S,hS⟩ : ∃ S,n * b + m * a = S:=⟨_,rfl⟩
 rw [hS]
 obtain ⟨h,hh⟩ : ∃ h,Int.gcd S g = h:=⟨_,rfl⟩
 have h0:0 < (h:Int):=by
  have:h ≠ 0:=fun e=>by rw [e] at hh;have:=(Int.gcd_eq_zero_iff.1 hh).2;omega
  omega
 have k2:=gcd_parts (x:=S) (y:=(g:Int)) (by omega)
 obtain ⟨s,hs⟩ : (h:Int) ∣ S:=hh ▸ Int.gcd_dvd_left ..
 obtain ⟨t,ht⟩ : (h:Int) ∣ (g:Int):=hh ▸ Int.gcd_dvd_right ..
 rw [hh] at k2 ⊢
 have ea:S.tdiv h = s:=by rw [hs,Int.mul_tdiv_cancel_left _ (by omega)]
 have eg:(g:Int).tdiv h = t:=by rw [ht,Int.mul_tdiv_cancel_left _ (by omega)]
 have ec:((g:Int) * b).tdiv h = t * b:=by rw [ht,Int.mul_assoc,Int.mul_tdiv_cancel_left _ (by omega)]
 rw [ea,eg] at k2
 rw [ea,ec]
 have pos:∀ {x y:Int},0 < x -> 0 < x * y -> 0 < y:=fun {x y} hx hxy=>by
  rcases Int.lt_or_le 0 y with h | h
  ·exact h
  ·have:=Int.mul_nonpos_of_nonneg_of_nonpos (Int.le_of_lt hx) h;omega
 have ha0:0 < a:=pos g0 hd
 have hb0:0 < b:=pos g0 hc
 have ht0:0 < t:=pos h0 (by omega)
 have hD0:0 < a * (t * b):=Int.mul_pos ha0 (Int.mul_pos ht0 hb0)
 refine ⟨s,a * (t * b),if_neg (by omega),if_neg (by omega),hD0,?_,?_⟩
 ·have cab:Nat.Coprime a.natAbs b.natAbs:=k1
  have cst:Nat.Coprime s.natAbs t.natAbs:=k2
  have cna:Nat.Coprime n.natAbs a.natAbs:=by
   have h1':Nat.Coprime n.natAbs ((g:Int) * a).natAbs:=h1
   rw [Int.natAbs_mul] at h1'
   exact h1'.coprime_mul_left_right
  have cmb:Nat.Coprime m.natAbs b.natAbs:=by
   have h2':Nat.Coprime m.natAbs ((g:Int) * b).natAbs:=h2
   rw [Int.natAbs_mul] at h2'
   exact h2'.coprime_mul_left_right
  have cSa:Int.gcd S a = 1:=by
   rw [<- hS,Int.gcd_add_mul_right_left]
   show Nat.Coprime (n * b).natAbs a.natAbs
   rw [Int.natAbs_mul];exact Nat.Coprime.mul_left cna cab.symm
  have cSb:Int.gcd S b = 1:=by
   rw [<- hS,Int.add_comm,Int.gcd_add_mul_right_left]
   show Nat.Coprime (m * a).natAbs b.natAbs
   rw [Int.natAbs_mul];exact Nat.Coprime.mul_left cmb cab
  have down:∀ {z:Int},Int.gcd S z = 1 -> Nat.Coprime s.natAbs z.natAbs:=fun {z} hz=>by
   have hz':Nat.Coprime S.natAbs z.natAbs:=hz
   rw [hs,Int.natAbs_mul] at hz'
   exact hz'.coprime_mul_left
  show Nat.Coprime s.natAbs (a * (t * b)).natAbs
  rw [Int.natAbs_mul,Int.natAbs_mul]
  exact Nat.Coprime.mul_right (down cSa) (Nat.Coprime.mul_right cst (down cSb))
 ·have e1:n * ((g:Int) * b) + m * (g * a) = g * S:=by
   rw [<- hS,Int.mul_add]
   congr 1 <;> simp only [Int.mul_assoc,Int.mul_comm]
  rw [e1,hs]
  conv=>lhs;rw [ht]
  conv=>rhs;rw [ht]
  simp only [Int.mul_assoc,Int.mul_comm,Int.mul_left_comm]
theorem Add_q (u v:Value) (n d m c:Int) (L:Nat) (w:World) (h:Rat w u n d L) (g:Rat w v m c L) (hL:L <= 400000) (hL2:2 <= L) :
  Calls Tryz.prog 40 #[u,v] w fun e w'=>∃ N D,N * (d * c) = (n * c + m * d) * D /\ RatRes (2 * L + 5) N D w e w':=by
 have hL1:L <= 1000000:=by omega
 obtain ⟨g1,A1,n1,c1,e1,E1,m1,d1,rfl⟩:=h.form
 obtain ⟨g2,A2,n2,c2,e2,E2,m2,d2,rfl⟩:=g.form
 obtain ⟨hw,F0,F1,F2,hs⟩:=three444 w (.bool g1) (.slice A1 n1 c1) (.bool e1) (.slice E1 m1 d1) (.bool g2) (.slice A2 n2 c2) (.bool e2) (.slice E2 m2 d2)
 have X:=Hd (h.below hw)
 have Y:=Hd (g.below hw)
 obtain ⟨W0,hW0⟩ : ∃ W0,((w.alloc (.cells #[.bool g1,.slice A1 n1 c1,.bool e1,.slice E1 m1 d1] 38)).alloc (.cells #[.bool g2,.slice A2 n2 c2,.bool e2,.slice E2 m2 d2] 38)).alloc (.cells #[.bool false,.slice none 0 0,.bool false,.slice none 0 0] 38) = W0:=⟨_,rfl⟩
 rw [hW0] at hw F0 F1 F2 hs X Y
 have B0:=Hd F0
 have B1:=Hd F1
 have BR:=Hd F2
 clear F0 F1 F2 h g
 go_enter Tryz.func40,Tryz.ntmps40
 go_upto_region 1 with fail
 clear hW0
 have X1:=Hd X.out.parts.1
 have Y1:=Hd Y.out.parts.1
 have hd:=X.out.parts.2.2.1
 have hc:=Y.out.parts.2.2.1
 have hco1:=X.out.parts.2.2.2
 have hco2:=Y.out.parts.2.2.2
 go_cut [5,6] (fun va vb wx=>TwoI W0 (d) (c) L va vb wx)
 case first=>
  have HT:=Hd (fun (w':World) (hb:Below W0.heap.size W0 w')=>(show w'.cell? ⟨w.heap.size,0,none⟩ = some (.bool g1) /\ w'.cell? ⟨w.heap.size,1,none⟩ = some (.slice A1 n1 c1) /\ w'.cell? ⟨w.heap.size,2,none⟩ = some (.bool e1) /\ w'.cell? ⟨w.heap.size,3,none⟩ = some (.slice E1 m1 d1) /\ w'.cell? ⟨(w.heap.size + 1),0,none⟩ = some (.bool g2) /\ w'.cell? ⟨(w.heap.size + 1),1,none⟩ = some (.slice A2 n2 c2) /\ w'.cell? ⟨(w.heap.size + 1),2,none⟩ = some (.bool e2) /\ w'.cell? ⟨(w.heap.size + 1),3,none⟩ = some (.slice E2 m2 d2) from ⟨(B0.out.below hb).c0,(B0.out.below hb).c1,(B0.out.below hb).c2,(B0.out.below hb).c3,(B1.out.below hb).c0,(B1.out.below hb).c1,(B1.out.below hb).c2,(B1.out.below hb).c3⟩))
  obtain ⟨Inv,hInv⟩ : ∃ J:(Nat -> Bool) -> (Value × Value × Value × Value) -> World -> Prop,J = fun b v w'=>(Below W0.heap.size W0 w') /\ (b 1 = true -> Ival w' v.1 (d) (L)) /\ (b 3 = true -> Ival w' v.2.1 (c) (L)) /\ (b 4 = true -> b 6 = false -> PBox (W0.heap.size) w' v.2.2.1 0 0) /\ (b 6 = true -> PBox (W0.heap.size) w' v.2.2.1 (d) (L)) /\ (b 5 = true -> b 7 = false -> PBox (W0.heap.size) w' v.2.2.2 0 0) /\ (b 7 = true -> PBox (W0.heap.size) w' v.2.2.2 (c) (L)) /\ (b 4 = true -> b 5 = true -> v.2.2.1 ≠ v.2.2.2):=⟨_,rfl⟩
  have hB:=(Below.refl W0.heap.size W0).drew
  refine wp_region_held_drew (S:=fun w'=>w'.cell? ⟨w.heap.size,0,none⟩ = some (.bool g1) /\ w'.cell? ⟨w.heap.size,1,none⟩ = some (.slice A1 n1 c1) /\ w'.cell? ⟨w.heap.size,2,none⟩ = some (.bool e1) /\ w'.cell? ⟨w.heap.size,3,none⟩ = some (.slice E1 m1 d1) /\ w'.cell? ⟨(w.heap.size + 1),0,none⟩ = some (.bool g2) /\ w'.cell? ⟨(w.heap.size + 1),1,none⟩ = some (.slice A2 n2 c2) /\ w'.cell? ⟨(w.heap.size + 1),2,none⟩ = some (.bool e2) /\ w'.cell? ⟨(w.heap.size + 1),3,none⟩ = some (.slice E2 m2 d2)) (by kernel_rfl) (HT.out _ hB) (fun hH=>?_)
  clear hH
  generalize W0.drew = wr0 at *
  refine tk 0 10 (by first | assumption | exact HT.out _ hB | trivial) ?_
  try simp only [Act.put,tA,cZ,cS]
  refine tk 2 12 (by first | assumption | exact HT.out _ hB | trivial) ?_
  try simp only [Act.put,tA,cZ,cS]
  refine wpAnyH_begin (V:=Value × Value × Value × Value) (I:=Inv) (A:=?_) [true,false,true,false,false,false,false,false] [11,13,5,6] (fun v=>[v.1,v.2.1,v.2.2.1,v.2.2.2]) (fun a=>(a.tmps.getD 11 undef,a.tmps.getD 13 undef,a.tmps.getD 5 undef,a.tmps.getD 6 undef)) ?_ ?_ (by kernel_rfl) (by kernel_rfl) (by kernel_rfl) (by kernel_rfl) (by kernel_rfl) ?_ ?_ ?_
  rotate_left 1
  ·intro v;simp only [fillA,Act.put,tA,cZ,cS];rfl
  ·rfl
  ·rw [hInv]
   exact ⟨(hB),(fun h=>absurd h (by decide)),(fun h=>absurd h (by decide)),(fun h _=>absurd h (by decide)),(fun h=>absurd h (by decide)),(fun h _=>absurd h (by decide)),(fun h=>absurd h (by decide)),(fun h _=>absurd h (by decide))⟩
  ·skip
   refine EachFrom.skip (by rfl) ?_
   refine EachFrom.cons (k:=1) rfl rfl (ds:=[0]) (by kernel_rfl) (fun v x=>(x,v.2.1,v.2.2.1,v.2.2.2)) (fun v x=>by rfl) (fun b v wz hb0 hcl hbk hdep hI Kc hK=>?_) ?_
   ·skip
    rw [hInv] at hI
    obtain ⟨x11,x13,x5,x6⟩:=v
    dsimp only at hI hK ⊢
    (try simp only [Act.put] at hK);(try simp only [tA] at hK);(try simp only [cS] at hK);(try simp only [cZ] at hK)
    obtain ⟨famb,f11,f13,fP5,fQ5,fP6,fQ6,fne5_6⟩:=hI
    obtain ⟨d0,-⟩:=hdep
    (try simp only [gA]);(try simp only [gS]);(try simp only [gZ])
    have hA:=famb
    go_simp
    (go_at_call 67;refine (Denominator_any _ n d L _ (X.out.below hA) hL2).mono ?_;rintro e w1 ⟨⟨g11,A11,n11,c11,rfl,hz⟩,hb⟩)
    refine hK.out _ _ (HT.out _ ((famb).trans (hb.mono (famb).size))) ?_
    rw [hInv]
    exact ⟨((famb).trans (hb.mono (famb).size)),(fun h0=>hz),(fun h=>absurd ((show AllT b [2,1] from hcl 3 _ rfl h).2.1) (by rw [hbk];decide)),(fun h0 h1=>(fP5 h0 h1).below hb),(fun h=>absurd ((show AllT b [4,1,3,0,1,4,5] from hcl 6 _ rfl h).2.1) (by rw [hbk];decide)),(fun h0 h1=>(fP6 h0 h1).below hb),(fun h=>absurd ((show AllT b [5,3,6,0,1,2,3,4,5,6] from hcl 7 _ rfl h).2.2.2.2.1) (by rw [hbk];decide)),(fun h0 h1=>fne5_6 h0 h1)⟩
   refine EachFrom.skip (by rfl) ?_
   refine EachFrom.cons (k:=3) rfl rfl (ds:=[2,1]) (by kernel_rfl) (fun v x=>(v.1,x,v.2.2.1,v.2.2.2)) (fun v x=>by rfl) (fun b v wz hb0 hcl hbk hdep hI Kc hK=>?_) ?_
   ·skip
    rw [hInv] at hI
    obtain ⟨x11,x13,x5,x6⟩:=v
    dsimp only at hI hK ⊢
    (try simp only [Act.put] at hK);(try simp only [tA] at hK);(try simp only [cS] at hK);(try simp only [cZ] at hK)
    obtain ⟨famb,f11,f13,fP5,fQ5,fP6,fQ6,fne5_6⟩:=hI
    obtain ⟨d2,d1,-⟩:=hdep
    (try simp only [gA]);(try simp only [gS]);(try simp only [gZ])
    have hA:=famb
    go_simp
    (go_at_call 67;refine (Denominator_any _ m c L _ (Y.out.below hA) hL2).mono ?_;rintro e w1 ⟨⟨g13,A13,n13,c13,rfl,hz⟩,hb⟩)
    refine hK.out _ _ (HT.out _ ((famb).trans (hb.mono (famb).size))) ?_
    rw [hInv]
    exact ⟨((famb).trans (hb.mono (famb).size)),(fun h0=>(f11 h0).below hb),(fun h0=>hz),(fun h0 h1=>(fP5 h0 h1).below hb),(fun h=>absurd ((show AllT b [4,1,3,0,1,4,5] from hcl 6 _ rfl h).2.2.1) (by rw [hbk];decide)),(fun h0 h1=>(fP6 h0 h1).below hb),(fun h=>absurd ((show AllT b [5,3,6,0,1,2,3,4,5,6] from hcl 7 _ rfl h).2.1) (by rw [hbk];decide)),(fun h0 h1=>fne5_6 h0 h1)⟩
   refine EachFrom.cons (k:=4) rfl rfl (ds:=[]) (by kernel_rfl) (fun v x=>(v.1,v.2.1,x,v.2.2.2)) (fun v x=>by rfl) (fun b v wz hb0 hcl hbk hdep hI Kc hK=>?_) ?_
   ·skip
    rw [hInv] at hI
    obtain ⟨x11,x13,x5,x6⟩:=v
    dsimp only at hI hK ⊢
    (try simp only [Act.put] at hK);(try simp only [tA] at hK);(try simp only [cS] at hK);(try simp only [cZ] at hK)
    obtain ⟨famb,f11,f13,fP5,fQ5,fP6,fQ6,fne5_6⟩:=hI
    (try simp only [gA]);(try simp only [gS]);(try simp only [gZ])
    have hb:=below_alloc wz (.cells #[.bool false,.slice none 0 0] 31)
    go_simp
    refine hK.out _ _ (HT.out _ ((famb).trans (hb.mono (famb).size))) ?_
    rw [hInv]
    exact ⟨((famb).trans (hb.mono (famb).size)),(fun h0=>(f11 h0).below hb),(fun h0=>(f13 h0).below hb),(fun h0 h1=>⟨_,rfl,famb.size,IBox.nought _ _ _⟩),(fun h=>absurd ((show AllT b [4,1,3,0,1,4,5] from hcl 6 _ rfl h).1) (by rw [hbk];decide)),(fun h0 h1=>(fP6 h0 h1).below hb),(fun h=>absurd ((show AllT b [5,3,6,0,1,2,3,4,5,6] from hcl 7 _ rfl h).2.2.2.2.2.2.2.1) (by rw [hbk];decide)),(fun h0 h1=>(Ne.symm (by cases h:b 7 with | false=>exact (fP6 h1 h).fresh | true=>exact (fQ6 h).fresh)))⟩
   refine EachFrom.cons (k:=5) rfl rfl (ds:=[]) (by kernel_rfl) (fun v x=>(v.1,v.2.1,v.2.2.1,x)) (fun v x=>by rfl) (fun b v wz hb0 hcl hbk hdep hI Kc hK=>?_) ?_
   ·skip
    rw [hInv] at hI
    obtain ⟨x11,x13,x5,x6⟩:=v
    dsimp only at hI hK ⊢
    (try simp only [Act.put] at hK);(try simp only [tA] at hK);(try simp only [cS] at hK);(try simp only [cZ] at hK)
    obtain ⟨famb,f11,f13,fP5,fQ5,fP6,fQ6,fne5_6⟩:=hI
    (try simp only [gA]);(try simp only [gS]);(try simp only [gZ])
    have hb:=below_alloc wz (.cells #[.bool false,.slice none 0 0] 31)
    go_simp
    refine hK.out _ _ (HT.out _ ((famb).trans (hb.mono (famb).size))) ?_
    rw [hInv]
    exact ⟨((famb).trans (hb.mono (famb).size)),(fun h0=>(f11 h0).below hb),(fun h0=>(f13 h0).below hb),(fun h0 h1=>(fP5 h0 h1).below hb),(fun h=>absurd ((show AllT b [4,1,3,0,1,4,5] from hcl 6 _ rfl h).2.2.2.2.2.2.1) (by rw [hbk];decide)),(fun h0 h1=>⟨_,rfl,famb.size,IBox.nought _ _ _⟩),(fun h=>absurd ((show AllT b [5,3,6,0,1,2,3,4,5,6] from hcl 7 _ rfl h).1) (by rw [hbk];decide)),(fun h0 h1=>(by cases h:b 6 with | false=>exact (fP5 h0 h).fresh | true=>exact (fQ5 h).fresh))⟩
   refine EachFrom.cons (k:=6) rfl rfl (ds:=[4,1,3,0,1,4,5]) (by kernel_rfl) (fun v _=>v) (fun v x=>by rfl) (fun b v wz hb0 hcl hbk hdep hI Kc hK=>?_) ?_
   ·skip
    rw [hInv] at hI
    obtain ⟨x11,x13,x5,x6⟩:=v
    dsimp only at hI hK ⊢
    (try simp only [Act.put] at hK);(try simp only [tA] at hK);(try simp only [cS] at hK);(try simp only [cZ] at hK)
    obtain ⟨famb,f11,f13,fP5,fQ5,fP6,fQ6,fne5_6⟩:=hI
    obtain ⟨d4,d1,d3,d0,-,-,d5,-⟩:=hdep
    (try simp only [gA]);(try simp only [gS]);(try simp only [gZ])
    obtain ⟨k5,rfl,hk5,FB⟩:=fP5 d4 hbk
    obtain ⟨g11,A11,n11,c11,rfl⟩:=(f11 d1).form
    obtain ⟨gx,Ax,nx,cx,Fq,-⟩:=id FB
    obtain ⟨c0,c1,c2,c3,c4⟩:=Fq
    go_simp
    refine hK.out (undef) _ (HT.out _ (((famb).setCell (p:=⟨k5,0,none⟩) (by show _ <= k5;omega) _).setCell (p:=⟨k5,1,none⟩) (by show _ <= k5;omega) _)) ?_
    rw [hInv]
    exact ⟨(((famb).setCell (p:=⟨k5,0,none⟩) (by show _ <= k5;omega) _).setCell (p:=⟨k5,1,none⟩) (by show _ <= k5;omega) _),(fun h0=>(f11 h0).at FB _ _),(fun h0=>(f13 h0).at FB _ _),(fun _ h=>absurd (show true = false from h) (by decide)),(fun h0=>⟨_,rfl,hk5,FB.store (f11 d1)⟩),(fun h0 h1=>(fP6 h0 h1).other FB (Ne.symm (fne5_6 d4 d5)) _ _),(fun h=>absurd ((show AllT b [5,3,6,0,1,2,3,4,5,6] from hcl 7 _ rfl h).2.2.1) (by rw [hbk];decide)),(fun h0 h1=>fne5_6 h0 h1)⟩
   refine EachFrom.cons (k:=7) rfl rfl (ds:=[5,3,6,0,1,2,3,4,5,6]) (by kernel_rfl) (fun v _=>v) (fun v x=>by rfl) (fun b v wz hb0 hcl hbk hdep hI Kc hK=>?_) ?_
   ·skip
    rw [hInv] at hI
    obtain ⟨x11,x13,x5,x6⟩:=v
    dsimp only at hI hK ⊢
    (try simp only [Act.put] at hK);(try simp only [tA] at hK);(try simp only [cS] at hK);(try simp only [cZ] at hK)
    obtain ⟨famb,f11,f13,fP5,fQ5,fP6,fQ6,fne5_6⟩:=hI
    obtain ⟨d5,d3,d6,d0,d1,d2,-,d4,-,-,-⟩:=hdep
    (try simp only [gA]);(try simp only [gS]);(try simp only [gZ])
    obtain ⟨k6,rfl,hk6,FB⟩:=fP6 d5 hbk
    obtain ⟨g13,A13,n13,c13,rfl⟩:=(f13 d3).form
    obtain ⟨gx,Ax,nx,cx,Fq,-⟩:=id FB
    obtain ⟨c0,c1,c2,c3,c4⟩:=Fq
    go_simp
    refine hK.out (undef) _ (HT.out _ (((famb).setCell (p:=⟨k6,0,none⟩) (by show _ <= k6;omega) _).setCell (p:=⟨k6,1,none⟩) (by show _ <= k6;omega) _)) ?_
    rw [hInv]
    exact ⟨(((famb).setCell (p:=⟨k6,0,none⟩) (by show _ <= k6;omega) _).setCell (p:=⟨k6,1,none⟩) (by show _ <= k6;omega) _),(fun h0=>(f11 h0).at FB _ _),(fun h0=>(f13 h0).at FB _ _),(fun _ h=>absurd (show b 6 = false from h) (by rw [d6];decide)),(fun h0=>(fQ5 h0).other FB (fne5_6 d4 d5) _ _),(fun _ h=>absurd (show true = false from h) (by decide)),(fun h0=>⟨_,rfl,hk6,FB.store (f13 d3)⟩),(fun h0 h1=>fne5_6 h0 h1)⟩
   exact EachFrom.nil (by kernel_rfl)
  ·intro v wE hI
   rw [hInv] at hI
   obtain ⟨x11,x13,x5,x6⟩:=v
   dsimp only at hI ⊢
   obtain ⟨famb,f11,f13,fP5,fQ5,fP6,fQ6,fne5_6⟩:=hI
   replace f11:=f11 rfl
   replace f13:=f13 rfl
   clear fP5
   replace fQ5:=fQ5 rfl
   clear fP6
   replace fQ6:=fQ6 rfl
   replace fne5_6:=fne5_6 rfl rfl
   clear hInv hB
   obtain ⟨k5,rfl,hk5,g5,A5,n5,c5,F5,V5⟩:=fQ5
   obtain ⟨k6,rfl,hk6,g6,A6,n6,c6,F6,V6⟩:=fQ6
   clear f11 f13
   go_wp2_with fail
   go_meet
   exact ⟨k5,k6,_,_,_,_,_,_,_,_,rfl,rfl,F5,V5,F6,V6,hk5,hk6,famb⟩
 case rest=>
  obtain ⟨k5,k6,u5,a5,l5,o5,u6,a6,l6,o6,rfl,rfl,hf1,hv1,hf2,hv2,hq5,hq6,hb⟩:=hcut
  obtain ⟨wA,rfl⟩ : ∃ wk,wk = wc:=⟨wc,rfl⟩
  have hswA:=hb.size
  replace B0:=Hd (B0.out.below hb)
  replace B1:=Hd (B1.out.below hb)
  replace BR:=Hd (BR.out.below hb)
  replace X:=Hd (X.out.below hb)
  replace Y:=Hd (Y.out.below hb)
  replace X1:=Hd (X1.out.below hb)
  replace Y1:=Hd (Y1.out.below hb)
  replace hw:=hw.trans (hb.mono hw.size)
  have B5:=Hd hf1
  have B6:=Hd hf2
  have T1:=Hd hv1
  have T2:=Hd hv2
  clear hf1 hf2 hv1 hv2 hb
  clear X
  clear Y
  obtain ⟨c50,c51,f50,f51,s5⟩:=B5.out
  obtain ⟨c60,c61,f60,f61,s6⟩:=B6.out
  go_wp2_with fail
  refine (Gcd_int _ _ d c L _ T1.out T2.out hL1 hL2).mono ?_
  rintro e wc3 ⟨⟨gt3,At3,nt3,ct3,rfl,hz⟩,hb⟩
  have hsC:=hb.size
  clear c50 c51 f50 f51 s5
  clear c60 c61 f60 f61 s6
  replace B0:=Hd (B0.out.below hb)
  replace B1:=Hd (B1.out.below hb)
  replace BR:=Hd (BR.out.below hb)
  replace B5:=Hd (B5.out.below hb)
  replace B6:=Hd (B6.out.below hb)
  replace X1:=Hd (X1.out.below hb)
  replace Y1:=Hd (Y1.out.below hb)
  replace T1:=Hd (T1.out.below hb)
  replace T2:=Hd (T2.out.below hb)
  replace hw:=hw.trans (hb.mono hw.size)
  have T3:=Hd hz
  clear hb hz
  have hX:=below_alloc wc3 (.cells #[.bool gt3,.slice At3 nt3 ct3] 31)
  replace B0:=Hd (B0.out.below hX)
  replace B1:=Hd (B1.out.below hX)
  replace BR:=Hd (BR.out.below hX)
  replace B5:=Hd (B5.out.below hX)
  replace B6:=Hd (B6.out.below hX)
  replace X1:=Hd (X1.out.below hX)
  replace Y1:=Hd (Y1.out.below hX)
  replace T1:=Hd (T1.out.below hX)
  replace T2:=Hd (T2.out.below hX)
  replace T3:=Hd (T3.out.below hX)
  replace hw:=hw.trans (hX.mono hw.size)
  have B7:=Hd (Fx.new wc3 (.bool gt3) (.slice At3 nt3 ct3) 31)
  skip
  clear hX
  go_upto_region 3 with fail
  have hq7:wA.heap.size <= wc3.heap.size:=hsC
  skip
  generalize wc3.alloc (.cells #[.bool gt3,.slice At3 nt3 ct3] 31) = W7 at *
  generalize wc3.heap.size = k7 at *
  have hlt7:=B7.out.2.2.2.2
  have HG:=Hd (show (Int.gcd d c:Int) ≠ 0 from gcd_ne (by omega))
  go_cut [8] (fun va wx=>OneI W7 ((n * c.tdiv (Int.gcd d c:Int) + m * d.tdiv (Int.gcd d c:Int))) (2 * L + 3) va wx)
  case first=>
   have HT:=Hd (fun (w':World) (hb:Below W7.heap.size W7 w')=>(show w'.cell? ⟨w.heap.size,0,none⟩ = some (.bool g1) /\ w'.cell? ⟨w.heap.size,1,none⟩ = some (.slice A1 n1 c1) /\ w'.cell? ⟨w.heap.size,2,none⟩ = some (.bool e1) /\ w'.cell? ⟨w.heap.size,3,none⟩ = some (.slice E1 m1 d1) /\ w'.cell? ⟨(w.heap.size + 1),0,none⟩ = some (.bool g2) /\ w'.cell? ⟨(w.heap.size + 1),1,none⟩ = some (.slice A2 n2 c2) /\ w'.cell? ⟨(w.heap.size + 1),2,none⟩ = some (.bool e2) /\ w'.cell? ⟨(w.heap.size + 1),3,none⟩ = some (.slice E2 m2 d2) /\ w'.cell? ⟨k5,0,none⟩ = some (.bool u5) /\ w'.cell? ⟨k5,1,none⟩ = some (.slice a5 l5 o5) /\ w'.cell? ⟨k6,0,none⟩ = some (.bool u6) /\ w'.cell? ⟨k6,1,none⟩ = some (.slice a6 l6 o6) /\ w'.cell? ⟨k7,0,none⟩ = some (.bool gt3) /\ w'.cell? ⟨k7,1,none⟩ = some (.slice At3 nt3 ct3) from ⟨(B0.out.below hb).c0,(B0.out.below hb).c1,(B0.out.below hb).c2,(B0.out.below hb).c3,(B1.out.below hb).c0,(B1.out.below hb).c1,(B1.out.below hb).c2,(B1.out.below hb).c3,(B5.out.below hb).1,(B5.out.below hb).2.1,(B6.out.below hb).1,(B6.out.below hb).2.1,(B7.out.below hb).1,(B7.out.below hb).2.1⟩))
   obtain ⟨Inv,hInv⟩ : ∃ J:(Nat -> Bool) -> (Value × Value × Value × Value × Value × Value) -> World -> Prop,J = fun b v w'=>(Below W7.heap.size W7 w') /\ (b 4 = true -> Ival w' v.1 (c.tdiv (Int.gcd d c:Int)) (L + 2)) /\ (b 5 = true -> Ival w' v.2.1 (n * c.tdiv (Int.gcd d c:Int)) (L + (L + 2))) /\ (b 10 = true -> Ival w' v.2.2.1 (d.tdiv (Int.gcd d c:Int)) (L + 2)) /\ (b 11 = true -> Ival w' v.2.2.2.1 (m * d.tdiv (Int.gcd d c:Int)) (L + (L + 2))) /\ (b 12 = true -> Ival w' v.2.2.2.2.1 ((n * c.tdiv (Int.gcd d c:Int) + m * d.tdiv (Int.gcd d c:Int))) (2 * L + 3)) /\ (b 13 = true -> b 14 = false -> PBox (W7.heap.size) w' v.2.2.2.2.2 0 0) /\ (b 14 = true -> PBox (W7.heap.size) w' v.2.2.2.2.2 ((n * c.tdiv (Int.gcd d c:Int) + m * d.tdiv (Int.gcd d c:Int))) (2 * L + 3)):=⟨_,rfl⟩
   have hB:=(Below.refl W7.heap.size W7).drew
   refine wp_region_held_drew (S:=fun w'=>w'.cell? ⟨w.heap.size,0,none⟩ = some (.bool g1) /\ w'.cell? ⟨w.heap.size,1,none⟩ = some (.slice A1 n1 c1) /\ w'.cell? ⟨w.heap.size,2,none⟩ = some (.bool e1) /\ w'.cell? ⟨w.heap.size,3,none⟩ = some (.slice E1 m1 d1) /\ w'.cell? ⟨(w.heap.size + 1),0,none⟩ = some (.bool g2) /\ w'.cell? ⟨(w.heap.size + 1),1,none⟩ = some (.slice A2 n2 c2) /\ w'.cell? ⟨(w.heap.size + 1),2,none⟩ = some (.bool e2) /\ w'.cell? ⟨(w.heap.size + 1),3,none⟩ = some (.slice E2 m2 d2) /\ w'.cell? ⟨k5,0,none⟩ = some (.bool u5) /\ w'.cell? ⟨k5,1,none⟩ = some (.slice a5 l5 o5) /\ w'.cell? ⟨k6,0,none⟩ = some (.bool u6) /\ w'.cell? ⟨k6,1,none⟩ = some (.slice a6 l6 o6) /\ w'.cell? ⟨k7,0,none⟩ = some (.bool gt3) /\ w'.cell? ⟨k7,1,none⟩ = some (.slice At3 nt3 ct3)) (by kernel_rfl) (HT.out _ hB) (fun hH=>?_)
   clear hH
   generalize W7.drew = wr0 at *
   refine tk 0 17 (by first | assumption | exact HT.out _ hB | trivial) ?_
   try simp only [Act.put,tA,cZ,cS]
   refine tk 2 19 (by first | assumption | exact HT.out _ hB | trivial) ?_
   try simp only [Act.put,tA,cZ,cS]
   refine tk 3 20 (by first | assumption | exact HT.out _ hB | trivial) ?_
   try simp only [Act.put,tA,cZ,cS]
   refine tk 6 23 (by first | assumption | exact HT.out _ hB | trivial) ?_
   try simp only [Act.put,tA,cZ,cS]
   refine tk 8 25 (by first | assumption | exact HT.out _ hB | trivial) ?_
   try simp only [Act.put,tA,cZ,cS]
   refine tk 9 26 (by first | assumption | exact HT.out _ hB | trivial) ?_
   try simp only [Act.put,tA,cZ,cS]
   refine tk 1 18 (by first | assumption | exact HT.out _ hB | trivial) ?_
   try simp only [Act.put,tA,cZ,cS]
   refine tk 7 24 (by first | assumption | exact HT.out _ hB | trivial) ?_
   try simp only [Act.put,tA,cZ,cS]
   refine wpAnyH_begin (V:=Value × Value × Value × Value × Value × Value) (I:=Inv) (A:=?_) [true,true,true,true,false,false,true,true,true,true,false,false,false,false,false] [21,22,27,28,29,8] (fun v=>[v.1,v.2.1,v.2.2.1,v.2.2.2.1,v.2.2.2.2.1,v.2.2.2.2.2]) (fun a=>(a.tmps.getD 21 undef,a.tmps.getD 22 undef,a.tmps.getD 27 undef,a.tmps.getD 28 undef,a.tmps.getD 29 undef,a.tmps.getD 8 undef)) ?_ ?_ (by kernel_rfl) (by kernel_rfl) (by kernel_rfl) (by kernel_rfl) (by kernel_rfl) ?_ ?_ ?_
   rotate_left 1
   ·intro v;simp only [fillA,Act.put,tA,cZ,cS];rfl
   ·rfl
   ·rw [hInv]
    exact ⟨(hB),(fun h=>absurd h (by decide)),(fun h=>absurd h (by decide)),(fun h=>absurd h (by decide)),(fun h=>absurd h (by decide)),(fun h=>absurd h (by decide)),(fun h _=>absurd h (by decide)),(fun h=>absurd h (by decide))⟩
   ·skip
    refine EachFrom.skip (by rfl) ?_
    refine EachFrom.skip (by rfl) ?_
    refine EachFrom.skip (by rfl) ?_
    refine EachFrom.skip (by rfl) ?_
    refine EachFrom.cons (k:=4) rfl rfl (ds:=[2,3]) (by kernel_rfl) (fun v x=>(x,v.2.1,v.2.2.1,v.2.2.2.1,v.2.2.2.2.1,v.2.2.2.2.2)) (fun v x=>by rfl) (fun b v wz hb0 hcl hbk hdep hI Kc hK=>?_) ?_
    ·skip
     rw [hInv] at hI
     obtain ⟨x21,x22,x27,x28,x29,x8⟩:=v
     dsimp only at hI hK ⊢
     (try simp only [Act.put] at hK);(try simp only [tA] at hK);(try simp only [cS] at hK);(try simp only [cZ] at hK)
     obtain ⟨famb,f21,f22,f27,f28,f29,fP8,fQ8⟩:=hI
     obtain ⟨d2,d3,-⟩:=hdep
     (try simp only [gA]);(try simp only [gS]);(try simp only [gZ])
     have hA:=famb
     go_simp
     (go_at_call 98;refine (part_any _ _ c (Int.gcd d c:Int) L L _ (T2.out.below hA) (T3.out.below hA) hL1 hL1 HG.out).mono ?_;rintro e w1 ⟨⟨g21,A21,n21,c21,rfl,hz⟩,hb⟩)
     refine hK.out _ _ (HT.out _ ((famb).trans (hb.mono (famb).size))) ?_
     rw [hInv]
     exact ⟨((famb).trans (hb.mono (famb).size)),(fun h0=>hz),(fun h=>absurd ((show AllT b [1,4,4] from hcl 5 _ rfl h).2.1) (by rw [hbk];decide)),(fun h=>absurd ((show AllT b [1,4,4] from hcl 5 _ rfl ((show AllT b [8,9,5] from hcl 10 _ rfl h).2.2.1)).2.1) (by rw [hbk];decide)),(fun h=>absurd ((show AllT b [1,4,4] from hcl 5 _ rfl ((show AllT b [8,9,5] from hcl 10 _ rfl ((show AllT b [7,10,10] from hcl 11 _ rfl h).2.1)).2.2.1)).2.1) (by rw [hbk];decide)),(fun h=>absurd ((show AllT b [1,4,4] from hcl 5 _ rfl ((show AllT b [5,11,11] from hcl 12 _ rfl h).1)).2.1) (by rw [hbk];decide)),(fun h0 h1=>(fP8 h0 h1).below hb),(fun h=>absurd ((show AllT b [13,12,12,0,1,2,3,4,5,6,7,8,9,10,11,12,13] from hcl 14 _ rfl h).2.2.2.2.2.2.2.1) (by rw [hbk];decide))⟩
    refine EachFrom.cons (k:=5) rfl rfl (ds:=[1,4,4]) (by kernel_rfl) (fun v x=>(v.1,x,v.2.2.1,v.2.2.2.1,v.2.2.2.2.1,v.2.2.2.2.2)) (fun v x=>by rfl) (fun b v wz hb0 hcl hbk hdep hI Kc hK=>?_) ?_
    ·skip
     rw [hInv] at hI
     obtain ⟨x21,x22,x27,x28,x29,x8⟩:=v
     dsimp only at hI hK ⊢
     (try simp only [Act.put] at hK);(try simp only [tA] at hK);(try simp only [cS] at hK);(try simp only [cZ] at hK)
     obtain ⟨famb,f21,f22,f27,f28,f29,fP8,fQ8⟩:=hI
     obtain ⟨d1,d4,-,-⟩:=hdep
     (try simp only [gA]);(try simp only [gS]);(try simp only [gZ])
     have hA:=famb
     go_simp
     (go_at_call 97;refine (mul_t _ _ n (c.tdiv (Int.gcd d c:Int)) L (L + 2) _ (X1.out.below hA) (f21 d4) (by omega) (by omega)).mono ?_;rintro e w1 ⟨⟨g22,A22,n22,c22,rfl,hz⟩,hb⟩)
     refine hK.out _ _ (HT.out _ ((famb).trans (hb.mono (famb).size))) ?_
     rw [hInv]
     exact ⟨((famb).trans (hb.mono (famb).size)),(fun h0=>(f21 h0).below hb),(fun h0=>hz),(fun h=>absurd ((show AllT b [8,9,5] from hcl 10 _ rfl h).2.2.1) (by rw [hbk];decide)),(fun h=>absurd ((show AllT b [8,9,5] from hcl 10 _ rfl ((show AllT b [7,10,10] from hcl 11 _ rfl h).2.1)).2.2.1) (by rw [hbk];decide)),(fun h=>absurd ((show AllT b [5,11,11] from hcl 12 _ rfl h).1) (by rw [hbk];decide)),(fun h0 h1=>(fP8 h0 h1).below hb),(fun h=>absurd ((show AllT b [13,12,12,0,1,2,3,4,5,6,7,8,9,10,11,12,13] from hcl 14 _ rfl h).2.2.2.2.2.2.2.2.1) (by rw [hbk];decide))⟩
    refine EachFrom.skip (by rfl) ?_
    refine EachFrom.skip (by rfl) ?_
    refine EachFrom.skip (by rfl) ?_
    refine EachFrom.skip (by rfl) ?_
    refine EachFrom.cons (k:=10) rfl rfl (ds:=[8,9,5]) (by kernel_rfl) (fun v x=>(v.1,v.2.1,x,v.2.2.2.1,v.2.2.2.2.1,v.2.2.2.2.2)) (fun v x=>by rfl) (fun b v wz hb0 hcl hbk hdep hI Kc hK=>?_) ?_
    ·skip
     rw [hInv] at hI
     obtain ⟨x21,x22,x27,x28,x29,x8⟩:=v
     dsimp only at hI hK ⊢
     (try simp only [Act.put] at hK);(try simp only [tA] at hK);(try simp only [cS] at hK);(try simp only [cZ] at hK)
     obtain ⟨famb,f21,f22,f27,f28,f29,fP8,fQ8⟩:=hI
     obtain ⟨d8,d9,d5,-⟩:=hdep
     (try simp only [gA]);(try simp only [gS]);(try simp only [gZ])
     have hA:=famb
     go_simp
     (go_at_call 98;refine (part_any _ _ d (Int.gcd d c:Int) L L _ (T1.out.below hA) (T3.out.below hA) hL1 hL1 HG.out).mono ?_;rintro e w1 ⟨⟨g27,A27,n27,c27,rfl,hz⟩,hb⟩)
     refine hK.out _ _ (HT.out _ ((famb).trans (hb.mono (famb).size))) ?_
     rw [hInv]
     exact ⟨((famb).trans (hb.mono (famb).size)),(fun h0=>(f21 h0).below hb),(fun h0=>(f22 h0).below hb),(fun h0=>hz),(fun h=>absurd ((show AllT b [7,10,10] from hcl 11 _ rfl h).2.1) (by rw [hbk];decide)),(fun h=>absurd ((show AllT b [7,10,10] from hcl 11 _ rfl ((show AllT b [5,11,11] from hcl 12 _ rfl h).2.1)).2.1) (by rw [hbk];decide)),(fun h0 h1=>(fP8 h0 h1).below hb),(fun h=>absurd ((show AllT b [13,12,12,0,1,2,3,4,5,6,7,8,9,10,11,12,13] from hcl 14 _ rfl h).2.2.2.2.2.2.2.2.2.2.2.2.2.1) (by rw [hbk];decide))⟩
    refine EachFrom.cons (k:=11) rfl rfl (ds:=[7,10,10]) (by kernel_rfl) (fun v x=>(v.1,v.2.1,v.2.2.1,x,v.2.2.2.2.1,v.2.2.2.2.2)) (fun v x=>by rfl) (fun b v wz hb0 hcl hbk hdep hI Kc hK=>?_) ?_
    ·skip
     rw [hInv] at hI
     obtain ⟨x21,x22,x27,x28,x29,x8⟩:=v
     dsimp only at hI hK ⊢
     (try simp only [Act.put] at hK);(try simp only [tA] at hK);(try simp only [cS] at hK);(try simp only [cZ] at hK)
     obtain ⟨famb,f21,f22,f27,f28,f29,fP8,fQ8⟩:=hI
     obtain ⟨d7,d10,-,-⟩:=hdep
     (try simp only [gA]);(try simp only [gS]);(try simp only [gZ])
     have hA:=famb
     go_simp
     (go_at_call 97;refine (mul_t _ _ m (d.tdiv (Int.gcd d c:Int)) L (L + 2) _ (Y1.out.below hA) (f27 d10) (by omega) (by omega)).mono ?_;rintro e w1 ⟨⟨g28,A28,n28,c28,rfl,hz⟩,hb⟩)
     refine hK.out _ _ (HT.out _ ((famb).trans (hb.mono (famb).size))) ?_
     rw [hInv]
     exact ⟨((famb).trans (hb.mono (famb).size)),(fun h0=>(f21 h0).below hb),(fun h0=>(f22 h0).below hb),(fun h0=>(f27 h0).below hb),(fun h0=>hz),(fun h=>absurd ((show AllT b [5,11,11] from hcl 12 _ rfl h).2.1) (by rw [hbk];decide)),(fun h0 h1=>(fP8 h0 h1).below hb),(fun h=>absurd ((show AllT b [13,12,12,0,1,2,3,4,5,6,7,8,9,10,11,12,13] from hcl 14 _ rfl h).2.2.2.2.2.2.2.2.2.2.2.2.2.2.1) (by rw [hbk];decide))⟩
    refine EachFrom.cons (k:=12) rfl rfl (ds:=[5,11,11]) (by kernel_rfl) (fun v x=>(v.1,v.2.1,v.2.2.1,v.2.2.2.1,x,v.2.2.2.2.2)) (fun v x=>by rfl) (fun b v wz hb0 hcl hbk hdep hI Kc hK=>?_) ?_
    ·skip
     rw [hInv] at hI
     obtain ⟨x21,x22,x27,x28,x29,x8⟩:=v
     dsimp only at hI hK ⊢
     (try simp only [Act.put] at hK);(try simp only [tA] at hK);(try simp only [cS] at hK);(try simp only [cZ] at hK)
     obtain ⟨famb,f21,f22,f27,f28,f29,fP8,fQ8⟩:=hI
     obtain ⟨d5,d11,-,-⟩:=hdep
     (try simp only [gA]);(try simp only [gS]);(try simp only [gZ])
     have hA:=famb
     go_simp
     (go_at_call 99;refine (add_t _ _ _ _ (L + (L + 2)) (L + (L + 2)) _ (f22 d5) (f28 d11) (by omega) (by omega)).mono ?_;rintro e w1 ⟨⟨g29,A29,n29,c29,rfl,hz⟩,hb⟩)
     refine hK.out _ _ (HT.out _ ((famb).trans (hb.mono (famb).size))) ?_
     rw [hInv]
     exact ⟨((famb).trans (hb.mono (famb).size)),(fun h0=>(f21 h0).below hb),(fun h0=>(f22 h0).below hb),(fun h0=>(f27 h0).below hb),(fun h0=>(f28 h0).below hb),(fun h0=>(hz.mono (show max (L + (L + 2)) (L + (L + 2)) + 1 <= 2 * L + 3 by omega))),(fun h0 h1=>(fP8 h0 h1).below hb),(fun h=>absurd ((show AllT b [13,12,12,0,1,2,3,4,5,6,7,8,9,10,11,12,13] from hcl 14 _ rfl h).2.1) (by rw [hbk];decide))⟩
    refine EachFrom.cons (k:=13) rfl rfl (ds:=[]) (by kernel_rfl) (fun v x=>(v.1,v.2.1,v.2.2.1,v.2.2.2.1,v.2.2.2.2.1,x)) (fun v x=>by rfl) (fun b v wz hb0 hcl hbk hdep hI Kc hK=>?_) ?_
    ·skip
     rw [hInv] at hI
     obtain ⟨x21,x22,x27,x28,x29,x8⟩:=v
     dsimp only at hI hK ⊢
     (try simp only [Act.put] at hK);(try simp only [tA] at hK);(try simp only [cS] at hK);(try simp only [cZ] at hK)
     obtain ⟨famb,f21,f22,f27,f28,f29,fP8,fQ8⟩:=hI
     (try simp only [gA]);(try simp only [gS]);(try simp only [gZ])
     have hb:=below_alloc wz (.cells #[.bool false,.slice none 0 0] 31)
     go_simp
     refine hK.out _ _ (HT.out _ ((famb).trans (hb.mono (famb).size))) ?_
     rw [hInv]
     exact ⟨((famb).trans (hb.mono (famb).size)),(fun h0=>(f21 h0).below hb),(fun h0=>(f22 h0).below hb),(fun h0=>(f27 h0).below hb),(fun h0=>(f28 h0).below hb),(fun h0=>(f29 h0).below hb),(fun h0 h1=>⟨_,rfl,famb.size,IBox.nought _ _ _⟩),(fun h=>absurd ((show AllT b [13,12,12,0,1,2,3,4,5,6,7,8,9,10,11,12,13] from hcl 14 _ rfl h).1) (by rw [hbk];decide))⟩
    refine EachFrom.cons (k:=14) rfl rfl (ds:=[13,12,12,0,1,2,3,4,5,6,7,8,9,10,11,12,13]) (by kernel_rfl) (fun v _=>v) (fun v x=>by rfl) (fun b v wz hb0 hcl hbk hdep hI Kc hK=>?_) ?_
    ·skip
     rw [hInv] at hI
     obtain ⟨x21,x22,x27,x28,x29,x8⟩:=v
     dsimp only at hI hK ⊢
     (try simp only [Act.put] at hK);(try simp only [tA] at hK);(try simp only [cS] at hK);(try simp only [cZ] at hK)
     obtain ⟨famb,f21,f22,f27,f28,f29,fP8,fQ8⟩:=hI
     obtain ⟨d13,d12,-,d0,d1,d2,d3,d4,d5,d6,d7,d8,d9,d10,d11,-,-,-⟩:=hdep
     (try simp only [gA]);(try simp only [gS]);(try simp only [gZ])
     obtain ⟨k8,rfl,hk8,FB⟩:=fP8 d13 hbk
     obtain ⟨g29,A29,n29,c29,rfl⟩:=(f29 d12).form
     obtain ⟨gx,Ax,nx,cx,Fq,-⟩:=id FB
     obtain ⟨c0,c1,c2,c3,c4⟩:=Fq
     go_simp
     refine hK.out (undef) _ (HT.out _ (((famb).setCell (p:=⟨k8,0,none⟩) (by show _ <= k8;omega) _).setCell (p:=⟨k8,1,none⟩) (by show _ <= k8;omega) _)) ?_
     rw [hInv]
     exact ⟨(((famb).setCell (p:=⟨k8,0,none⟩) (by show _ <= k8;omega) _).setCell (p:=⟨k8,1,none⟩) (by show _ <= k8;omega) _),(fun h0=>(f21 h0).at FB _ _),(fun h0=>(f22 h0).at FB _ _),(fun h0=>(f27 h0).at FB _ _),(fun h0=>(f28 h0).at FB _ _),(fun h0=>(f29 h0).at FB _ _),(fun _ h=>absurd (show true = false from h) (by decide)),(fun h0=>⟨_,rfl,hk8,FB.store (f29 d12)⟩)⟩
    exact EachFrom.nil (by kernel_rfl)
   ·intro v wE hI
    rw [hInv] at hI
    obtain ⟨x21,x22,x27,x28,x29,x8⟩:=v
    dsimp only at hI ⊢
    obtain ⟨famb,f21,f22,f27,f28,f29,fP8,fQ8⟩:=hI
    replace f21:=f21 rfl
    replace f22:=f22 rfl
    replace f27:=f27 rfl
    replace f28:=f28 rfl
    replace f29:=f29 rfl
    clear fP8
    replace fQ8:=fQ8 rfl
    clear hInv hB
    obtain ⟨k8,rfl,hk8,g8,A8,n8,c8,F8,V8⟩:=fQ8
    clear f21 f22 f27 f28 f29
    go_wp2_with fail
    go_meet
    exact ⟨k8,_,_,_,_,rfl,F8,V8,hk8,famb⟩
  case rest=>
   obtain ⟨k8,u8,a8,l8,o8,rfl,hf1,hv1,hq8,hb⟩:=hcut
   obtain ⟨wB,rfl⟩ : ∃ wB,wB = wc:=⟨wc,rfl⟩
   have hswB:=hb.size
   replace B0:=Hd (B0.out.below hb)
   replace B1:=Hd (B1.out.below hb)
   replace BR:=Hd (BR.out.below hb)
   replace B5:=Hd (B5.out.below hb)
   replace B6:=Hd (B6.out.below hb)
   replace B7:=Hd (B7.out.below hb)
   replace X1:=Hd (X1.out.below hb)
   replace Y1:=Hd (Y1.out.below hb)
   replace T1:=Hd (T1.out.below hb)
   replace T2:=Hd (T2.out.below hb)
   replace T3:=Hd (T3.out.below hb)
   replace hw:=hw.trans (hb.mono hw.size)
   have B8:=Hd hf1
   have T8:=Hd hv1
   clear hf1 hv1 hb
   obtain ⟨c80,c81,f80,f81,s8⟩:=B8.out
   obtain ⟨c70,c71,f70,f71,s7⟩:=B7.out
   go_wp2_with fail
   refine (Gcd_int _ _ (n * c.tdiv (Int.gcd d c:Int) + m * d.tdiv (Int.gcd d c:Int)) (Int.gcd d c:Int) (2 * L + 3) _ T8.out (T3.out.mono (by omega)) (by omega) (by omega)).mono ?_
   rintro e wc4 ⟨⟨gt9,At9,nt9,ct9,rfl,hz⟩,hb⟩
   have hsD:=hb.size
   clear c80 c81 f80 f81 s8
   clear c70 c71 f70 f71 s7
   replace B0:=Hd (B0.out.below hb)
   replace B1:=Hd (B1.out.below hb)
   replace BR:=Hd (BR.out.below hb)
   replace B5:=Hd (B5.out.below hb)
   replace B6:=Hd (B6.out.below hb)
   replace B7:=Hd (B7.out.below hb)
   replace B8:=Hd (B8.out.below hb)
   replace X1:=Hd (X1.out.below hb)
   replace Y1:=Hd (Y1.out.below hb)
   replace T1:=Hd (T1.out.below hb)
   replace T2:=Hd (T2.out.below hb)
   replace T3:=Hd (T3.out.below hb)
   replace T8:=Hd (T8.out.below hb)
   replace hw:=hw.trans (hb.mono hw.size)
   have T9:=Hd hz
   clear hb hz
   have hX:=below_alloc wc4 (.cells #[.bool gt9,.slice At9 nt9 ct9] 31)
   replace B0:=Hd (B0.out.below hX)
   replace B1:=Hd (B1.out.below hX)
   replace BR:=Hd (BR.out.below hX)
   replace B5:=Hd (B5.out.below hX)
   replace B6:=Hd (B6.out.below hX)
   replace B7:=Hd (B7.out.below hX)
   replace B8:=Hd (B8.out.below hX)
   replace X1:=Hd (X1.out.below hX)
   replace Y1:=Hd (Y1.out.below hX)
   replace T1:=Hd (T1.out.below hX)
   replace T2:=Hd (T2.out.below hX)
   replace T3:=Hd (T3.out.below hX)
   replace T8:=Hd (T8.out.below hX)
   replace T9:=Hd (T9.out.below hX)
   replace hw:=hw.trans (hX.mono hw.size)
   have B9:=Hd (Fx.new wc4 (.bool gt9) (.slice At9 nt9 ct9) 31)
   skip
   clear hX
   go_upto_region 5 with fail
   generalize wc4.alloc (.cells #[.bool gt9,.slice At9 nt9 ct9] 31) = W9 at *
   generalize wc4.heap.size = k9 at *
   have HH:=Hd (show (Int.gcd (n * c.tdiv (Int.gcd d c:Int) + m * d.tdiv (Int.gcd d c:Int)) (Int.gcd d c:Int) : Int) ≠ 0 from gcd_ne (Or.inr HG.out))
   obtain ⟨N,D,hN,hD,hpos,hgc,hcross⟩:=add_math hd hc hco1 hco2
   have HN:=Hd hN
   have HD:=Hd hD
   have HC:=Hd (And.intro hpos (And.intro hgc hcross))
   clear hN hD hpos hgc hcross
   have HT:=Hd (fun (w':World) (hb:Below W9.heap.size W9 w')=>(show w'.cell? ⟨k5,0,none⟩ = some (.bool u5) /\ w'.cell? ⟨k5,1,none⟩ = some (.slice a5 l5 o5) /\ w'.cell? ⟨k6,0,none⟩ = some (.bool u6) /\ w'.cell? ⟨k6,1,none⟩ = some (.slice a6 l6 o6) /\ w'.cell? ⟨k7,0,none⟩ = some (.bool gt3) /\ w'.cell? ⟨k7,1,none⟩ = some (.slice At3 nt3 ct3) /\ w'.cell? ⟨k8,0,none⟩ = some (.bool u8) /\ w'.cell? ⟨k8,1,none⟩ = some (.slice a8 l8 o8) /\ w'.cell? ⟨k9,0,none⟩ = some (.bool gt9) /\ w'.cell? ⟨k9,1,none⟩ = some (.slice At9 nt9 ct9) from ⟨(B5.out.below hb).1,(B5.out.below hb).2.1,(B6.out.below hb).1,(B6.out.below hb).2.1,(B7.out.below hb).1,(B7.out.below hb).2.1,(B8.out.below hb).1,(B8.out.below hb).2.1,(B9.out.below hb).1,(B9.out.below hb).2.1⟩))
   have HP:=Hd (fun (w':World) (x0 x1 x2 x3:Value) (h:w'.cell? ⟨k5,0,none⟩ = some (.bool u5) /\ w'.cell? ⟨k5,1,none⟩ = some (.slice a5 l5 o5) /\ w'.cell? ⟨k6,0,none⟩ = some (.bool u6) /\ w'.cell? ⟨k6,1,none⟩ = some (.slice a6 l6 o6) /\ w'.cell? ⟨k7,0,none⟩ = some (.bool gt3) /\ w'.cell? ⟨k7,1,none⟩ = some (.slice At3 nt3 ct3) /\ w'.cell? ⟨k8,0,none⟩ = some (.bool u8) /\ w'.cell? ⟨k8,1,none⟩ = some (.slice a8 l8 o8) /\ w'.cell? ⟨k9,0,none⟩ = some (.bool gt9) /\ w'.cell? ⟨k9,1,none⟩ = some (.slice At9 nt9 ct9))=>(show (fun w'=>w'.cell? ⟨k5,0,none⟩ = some (.bool u5) /\ w'.cell? ⟨k5,1,none⟩ = some (.slice a5 l5 o5) /\ w'.cell? ⟨k6,0,none⟩ = some (.bool u6) /\ w'.cell? ⟨k6,1,none⟩ = some (.slice a6 l6 o6) /\ w'.cell? ⟨k7,0,none⟩ = some (.bool gt3) /\ w'.cell? ⟨k7,1,none⟩ = some (.slice At3 nt3 ct3) /\ w'.cell? ⟨k8,0,none⟩ = some (.bool u8) /\ w'.cell? ⟨k8,1,none⟩ = some (.slice a8 l8 o8) /\ w'.cell? ⟨k9,0,none⟩ = some (.bool gt9) /\ w'.cell? ⟨k9,1,none⟩ = some (.slice At9 nt9 ct9)) (put4 w' (w.heap.size + 1 + 1) x0 x1 x2 x3) from ⟨(cell_put4 (by omega) _ _ _ _).trans h.1,(cell_put4 (by omega) _ _ _ _).trans h.2.1,(cell_put4 (by omega) _ _ _ _).trans h.2.2.1,(cell_put4 (by omega) _ _ _ _).trans h.2.2.2.1,(cell_put4 (by omega) _ _ _ _).trans h.2.2.2.2.1,(cell_put4 (by omega) _ _ _ _).trans h.2.2.2.2.2.1,(cell_put4 (by omega) _ _ _ _).trans h.2.2.2.2.2.2.1,(cell_put4 (by omega) _ _ _ _).trans h.2.2.2.2.2.2.2.1,(cell_put4 (by omega) _ _ _ _).trans h.2.2.2.2.2.2.2.2.1,(cell_put4 (by omega) _ _ _ _).trans h.2.2.2.2.2.2.2.2.2⟩))
   obtain ⟨Inv,hInv⟩ : ∃ J:(Nat -> Bool) -> (Value × Value × Value × Value × Value) -> World -> Prop,J = fun b v w'=>(b 11 = false -> Below W9.heap.size W9 w') /\ (Below w.heap.size w w') /\ (b 2 = true -> Ival w' v.1 ((n * c.tdiv (Int.gcd d c:Int) + m * d.tdiv (Int.gcd d c:Int)).tdiv (Int.gcd (n * c.tdiv (Int.gcd d c:Int) + m * d.tdiv (Int.gcd d c:Int)) (Int.gcd d c:Int) : Int)) (2 * L + 3 + 2)) /\ (b 5 = true -> Ival w' v.2.1 (d.tdiv (Int.gcd d c:Int)) (L + 2)) /\ (b 8 = true -> Ival w' v.2.2.1 (c.tdiv (Int.gcd (n * c.tdiv (Int.gcd d c:Int) + m * d.tdiv (Int.gcd d c:Int)) (Int.gcd d c:Int) : Int)) (L + 2)) /\ (b 9 = true -> Ival w' v.2.2.2.1 (d.tdiv (Int.gcd d c:Int) * c.tdiv (Int.gcd (n * c.tdiv (Int.gcd d c:Int) + m * d.tdiv (Int.gcd d c:Int)) (Int.gcd d c:Int) : Int)) (L + 2 + (L + 2))) /\ (b 10 = true -> Rat w' v.2.2.2.2 (N) (D) (2 * L + 5)) /\ (b 11 = true -> ∃ u1 K1 l1 o1 u2 K2 l2 o2,Fx4 w' (w.heap.size + 1 + 1) (.bool u1) (.slice K1 l1 o1) (.bool u2) (.slice K2 l2 o2) /\ Rat w' (.agg #[.bool u1,.slice K1 l1 o1,.bool u2,.slice K2 l2 o2]) (N) (D) (2 * L + 5)):=⟨_,rfl⟩
   have hB:=(Below.refl W9.heap.size W9).drew
   refine wp_region_held_drew (S:=fun w'=>w'.cell? ⟨k5,0,none⟩ = some (.bool u5) /\ w'.cell? ⟨k5,1,none⟩ = some (.slice a5 l5 o5) /\ w'.cell? ⟨k6,0,none⟩ = some (.bool u6) /\ w'.cell? ⟨k6,1,none⟩ = some (.slice a6 l6 o6) /\ w'.cell? ⟨k7,0,none⟩ = some (.bool gt3) /\ w'.cell? ⟨k7,1,none⟩ = some (.slice At3 nt3 ct3) /\ w'.cell? ⟨k8,0,none⟩ = some (.bool u8) /\ w'.cell? ⟨k8,1,none⟩ = some (.slice a8 l8 o8) /\ w'.cell? ⟨k9,0,none⟩ = some (.bool gt9) /\ w'.cell? ⟨k9,1,none⟩ = some (.slice At9 nt9 ct9)) (by kernel_rfl) (HT.out _ hB) (fun hH=>?_)
   clear hH
   generalize W9.drew = wr0 at *
   refine tk 0 33 (by first | assumption | exact HT.out _ hB | trivial) ?_
   try simp only [Act.put,tA,cZ,cS]
   refine tk 1 34 (by first | assumption | exact HT.out _ hB | trivial) ?_
   try simp only [Act.put,tA,cZ,cS]
   refine tk 3 36 (by first | assumption | exact HT.out _ hB | trivial) ?_
   try simp only [Act.put,tA,cZ,cS]
   refine tk 4 37 (by first | assumption | exact HT.out _ hB | trivial) ?_
   try simp only [Act.put,tA,cZ,cS]
   refine tk 6 39 (by first | assumption | exact HT.out _ hB | trivial) ?_
   try simp only [Act.put,tA,cZ,cS]
   refine tk 7 40 (by first | assumption | exact HT.out _ hB | trivial) ?_
   try simp only [Act.put,tA,cZ,cS]
   refine wpAnyH_begin (V:=Value × Value × Value × Value × Value) (I:=Inv) (A:=?_) [true,true,false,true,true,false,true,true,false,false,false,false] [35,38,41,42,43] (fun v=>[v.1,v.2.1,v.2.2.1,v.2.2.2.1,v.2.2.2.2]) (fun a=>(a.tmps.getD 35 undef,a.tmps.getD 38 undef,a.tmps.getD 41 undef,a.tmps.getD 42 undef,a.tmps.getD 43 undef)) ?_ ?_ (by kernel_rfl) (by kernel_rfl) (by kernel_rfl) (by kernel_rfl) (by kernel_rfl) ?_ ?_ ?_
   rotate_left 1
   ·intro v;simp only [fillA,Act.put,tA,cZ,cS];rfl
   ·rfl
   ·rw [hInv]
    exact ⟨(fun _=>hB),(hw.trans (hB.mono hw.size)),(fun h=>absurd h (by decide)),(fun h=>absurd h (by decide)),(fun h=>absurd h (by decide)),(fun h=>absurd h (by decide)),(fun h=>absurd h (by decide)),(fun h=>absurd h (by decide))⟩
   ·skip
    refine EachFrom.skip (by rfl) ?_
    refine EachFrom.skip (by rfl) ?_
    refine EachFrom.cons (k:=2) rfl rfl (ds:=[0,1]) (by kernel_rfl) (fun v x=>(x,v.2.1,v.2.2.1,v.2.2.2.1,v.2.2.2.2)) (fun v x=>by rfl) (fun b v wz hb0 hcl hbk hdep hI Kc hK=>?_) ?_
    ·skip
     rw [hInv] at hI
     obtain ⟨x35,x38,x41,x42,x43⟩:=v
     dsimp only at hI hK ⊢
     (try simp only [Act.put] at hK);(try simp only [tA] at hK);(try simp only [cS] at hK);(try simp only [cZ] at hK)
     obtain ⟨famb,fn,f35,f38,f41,f42,f43,fres⟩:=hI
     obtain ⟨d0,d1,-⟩:=hdep
     (try simp only [gA]);(try simp only [gS]);(try simp only [gZ])
     have hA:=famb (by cases h:b 11 with | false=>rfl | true=>exact absurd ((show AllT b [10,10,0,1,2,3,4,5,6,7,8,9,10] from hcl 11 _ rfl h).2.2.2.2.1) (by rw [hbk];decide))
     go_simp
     (go_at_call 98;refine (part_any _ _ (n * c.tdiv (Int.gcd d c:Int) + m * d.tdiv (Int.gcd d c:Int)) (Int.gcd (n * c.tdiv (Int.gcd d c:Int) + m * d.tdiv (Int.gcd d c:Int)) (Int.gcd d c:Int) : Int) (2 * L + 3) (2 * L + 3) _ (T8.out.below hA) (T9.out.below hA) (by omega) (by omega) HH.out).mono ?_;rintro e w1 ⟨⟨g35,A35,n35,c35,rfl,hz⟩,hb⟩)
     refine hK.out _ _ (HT.out _ (hA.trans (hb.mono hA.size))) ?_
     rw [hInv]
     exact ⟨(fun h0=>(famb h0).trans (hb.mono (famb h0).size)),((fn).trans (hb.mono (fn).size)),(fun h0=>hz),(fun h=>absurd ((show AllT b [3,4,2] from hcl 5 _ rfl h).2.2.1) (by rw [hbk];decide)),(fun h=>absurd ((show AllT b [3,4,2] from hcl 5 _ rfl ((show AllT b [6,7,5] from hcl 8 _ rfl h).2.2.1)).2.2.1) (by rw [hbk];decide)),(fun h=>absurd ((show AllT b [3,4,2] from hcl 5 _ rfl ((show AllT b [5,8,8] from hcl 9 _ rfl h).1)).2.2.1) (by rw [hbk];decide)),(fun h=>absurd ((show AllT b [2,9,9] from hcl 10 _ rfl h).1) (by rw [hbk];decide)),(fun h=>absurd ((show AllT b [10,10,0,1,2,3,4,5,6,7,8,9,10] from hcl 11 _ rfl h).2.2.2.2.1) (by rw [hbk];decide))⟩
    refine EachFrom.skip (by rfl) ?_
    refine EachFrom.skip (by rfl) ?_
    refine EachFrom.cons (k:=5) rfl rfl (ds:=[3,4,2]) (by kernel_rfl) (fun v x=>(v.1,x,v.2.2.1,v.2.2.2.1,v.2.2.2.2)) (fun v x=>by rfl) (fun b v wz hb0 hcl hbk hdep hI Kc hK=>?_) ?_
    ·skip
     rw [hInv] at hI
     obtain ⟨x35,x38,x41,x42,x43⟩:=v
     dsimp only at hI hK ⊢
     (try simp only [Act.put] at hK);(try simp only [tA] at hK);(try simp only [cS] at hK);(try simp only [cZ] at hK)
     obtain ⟨famb,fn,f35,f38,f41,f42,f43,fres⟩:=hI
     obtain ⟨d3,d4,d2,-⟩:=hdep
     (try simp only [gA]);(try simp only [gS]);(try simp only [gZ])
     have hA:=famb (by cases h:b 11 with | false=>rfl | true=>exact absurd ((show AllT b [10,10,0,1,2,3,4,5,6,7,8,9,10] from hcl 11 _ rfl h).2.2.2.2.2.2.2.1) (by rw [hbk];decide))
     go_simp
     (go_at_call 98;refine (part_any _ _ d (Int.gcd d c:Int) L L _ (T1.out.below hA) (T3.out.below hA) hL1 hL1 HG.out).mono ?_;rintro e w1 ⟨⟨g38,A38,n38,c38,rfl,hz⟩,hb⟩)
     refine hK.out _ _ (HT.out _ (hA.trans (hb.mono hA.size))) ?_
     rw [hInv]
     exact ⟨(fun h0=>(famb h0).trans (hb.mono (famb h0).size)),((fn).trans (hb.mono (fn).size)),(fun h0=>(f35 h0).below hb),(fun h0=>hz),(fun h=>absurd ((show AllT b [6,7,5] from hcl 8 _ rfl h).2.2.1) (by rw [hbk];decide)),(fun h=>absurd ((show AllT b [5,8,8] from hcl 9 _ rfl h).1) (by rw [hbk];decide)),(fun h=>absurd ((show AllT b [5,8,8] from hcl 9 _ rfl ((show AllT b [2,9,9] from hcl 10 _ rfl h).2.1)).1) (by rw [hbk];decide)),(fun h=>absurd ((show AllT b [10,10,0,1,2,3,4,5,6,7,8,9,10] from hcl 11 _ rfl h).2.2.2.2.2.2.2.1) (by rw [hbk];decide))⟩
    refine EachFrom.skip (by rfl) ?_
    refine EachFrom.skip (by rfl) ?_
    refine EachFrom.cons (k:=8) rfl rfl (ds:=[6,7,5]) (by kernel_rfl) (fun v x=>(v.1,v.2.1,x,v.2.2.2.1,v.2.2.2.2)) (fun v x=>by rfl) (fun b v wz hb0 hcl hbk hdep hI Kc hK=>?_) ?_
    ·skip
     rw [hInv] at hI
     obtain ⟨x35,x38,x41,x42,x43⟩:=v
     dsimp only at hI hK ⊢
     (try simp only [Act.put] at hK);(try simp only [tA] at hK);(try simp only [cS] at hK);(try simp only [cZ] at hK)
     obtain ⟨famb,fn,f35,f38,f41,f42,f43,fres⟩:=hI
     obtain ⟨d6,d7,d5,-⟩:=hdep
     (try simp only [gA]);(try simp only [gS]);(try simp only [gZ])
     have hA:=famb (by cases h:b 11 with | false=>rfl | true=>exact absurd ((show AllT b [10,10,0,1,2,3,4,5,6,7,8,9,10] from hcl 11 _ rfl h).2.2.2.2.2.2.2.2.2.2.1) (by rw [hbk];decide))
     go_simp
     (go_at_call 98;refine (part_any _ _ c (Int.gcd (n * c.tdiv (Int.gcd d c:Int) + m * d.tdiv (Int.gcd d c:Int)) (Int.gcd d c:Int) : Int) L (2 * L + 3) _ (T2.out.below hA) (T9.out.below hA) hL1 (by omega) HH.out).mono ?_;rintro e w1 ⟨⟨g41,A41,n41,c41,rfl,hz⟩,hb⟩)
     refine hK.out _ _ (HT.out _ (hA.trans (hb.mono hA.size))) ?_
     rw [hInv]
     exact ⟨(fun h0=>(famb h0).trans (hb.mono (famb h0).size)),((fn).trans (hb.mono (fn).size)),(fun h0=>(f35 h0).below hb),(fun h0=>(f38 h0).below hb),(fun h0=>hz),(fun h=>absurd ((show AllT b [5,8,8] from hcl 9 _ rfl h).2.1) (by rw [hbk];decide)),(fun h=>absurd ((show AllT b [5,8,8] from hcl 9 _ rfl ((show AllT b [2,9,9] from hcl 10 _ rfl h).2.1)).2.1) (by rw [hbk];decide)),(fun h=>absurd ((show AllT b [10,10,0,1,2,3,4,5,6,7,8,9,10] from hcl 11 _ rfl h).2.2.2.2.2.2.2.2.2.2.1) (by rw [hbk];decide))⟩
    refine EachFrom.cons (k:=9) rfl rfl (ds:=[5,8,8]) (by kernel_rfl) (fun v x=>(v.1,v.2.1,v.2.2.1,x,v.2.2.2.2)) (fun v x=>by rfl) (fun b v wz hb0 hcl hbk hdep hI Kc hK=>?_) ?_
    ·skip
     rw [hInv] at hI
     obtain ⟨x35,x38,x41,x42,x43⟩:=v
     dsimp only at hI hK ⊢
     (try simp only [Act.put] at hK);(try simp only [tA] at hK);(try simp only [cS] at hK);(try simp only [cZ] at hK)
     obtain ⟨famb,fn,f35,f38,f41,f42,f43,fres⟩:=hI
     obtain ⟨d5,d8,-,-⟩:=hdep
     (try simp only [gA]);(try simp only [gS]);(try simp only [gZ])
     have hA:=famb (by cases h:b 11 with | false=>rfl | true=>exact absurd ((show AllT b [10,10,0,1,2,3,4,5,6,7,8,9,10] from hcl 11 _ rfl h).2.2.2.2.2.2.2.2.2.2.2.1) (by rw [hbk];decide))
     go_simp
     (go_at_call 97;refine (mul_t _ _ (d.tdiv (Int.gcd d c:Int)) (c.tdiv (Int.gcd (n * c.tdiv (Int.gcd d c:Int) + m * d.tdiv (Int.gcd d c:Int)) (Int.gcd d c:Int) : Int)) (L + 2) (L + 2) _ (f38 d5) (f41 d8) (by omega) (by omega)).mono ?_;rintro e w1 ⟨⟨g42,A42,n42,c42,rfl,hz⟩,hb⟩)
     refine hK.out _ _ (HT.out _ (hA.trans (hb.mono hA.size))) ?_
     rw [hInv]
     exact ⟨(fun h0=>(famb h0).trans (hb.mono (famb h0).size)),((fn).trans (hb.mono (fn).size)),(fun h0=>(f35 h0).below hb),(fun h0=>(f38 h0).below hb),(fun h0=>(f41 h0).below hb),(fun h0=>hz),(fun h=>absurd ((show AllT b [2,9,9] from hcl 10 _ rfl h).2.1) (by rw [hbk];decide)),(fun h=>absurd ((show AllT b [10,10,0,1,2,3,4,5,6,7,8,9,10] from hcl 11 _ rfl h).2.2.2.2.2.2.2.2.2.2.2.1) (by rw [hbk];decide))⟩
    refine EachFrom.cons (k:=10) rfl rfl (ds:=[2,9,9]) (by kernel_rfl) (fun v x=>(v.1,v.2.1,v.2.2.1,v.2.2.2.1,x)) (fun v x=>by rfl) (fun b v wz hb0 hcl hbk hdep hI Kc hK=>?_) ?_
    ·skip
     rw [hInv] at hI
     obtain ⟨x35,x38,x41,x42,x43⟩:=v
     dsimp only at hI hK ⊢
     (try simp only [Act.put] at hK);(try simp only [tA] at hK);(try simp only [cS] at hK);(try simp only [cZ] at hK)
     obtain ⟨famb,fn,f35,f38,f41,f42,f43,fres⟩:=hI
     obtain ⟨d2,d9,-,-⟩:=hdep
     (try simp only [gA]);(try simp only [gS]);(try simp only [gZ])
     have hA:=famb (by cases h:b 11 with | false=>rfl | true=>exact absurd ((show AllT b [10,10,0,1,2,3,4,5,6,7,8,9,10] from hcl 11 _ rfl h).1) (by rw [hbk];decide))
     go_simp
     (go_at_call 92;refine (coprime_c _ _ _ _ (2 * L + 5) _ (f35 d2) ((f42 d9).mono (by omega)) (by omega)).mono ?_;rintro e w1 ⟨⟨g43,A43,n43,c43,e43,E43,m43,d43,rfl,hz,hzd⟩,hb⟩)
     refine hK.out _ _ (HT.out _ (hA.trans (hb.mono hA.size))) ?_
     rw [hInv]
     exact ⟨(fun h0=>(famb h0).trans (hb.mono (famb h0).size)),((fn).trans (hb.mono (fn).size)),(fun h0=>(f35 h0).below hb),(fun h0=>(f38 h0).below hb),(fun h0=>(f41 h0).below hb),(fun h0=>(f42 h0).below hb),(fun h0=>(by rw [HN.out] at hz;rw [HD.out] at hzd;exact Rat.mk' hz hzd HC.out.1 HC.out.2.1)),(fun h=>absurd ((show AllT b [10,10,0,1,2,3,4,5,6,7,8,9,10] from hcl 11 _ rfl h).1) (by rw [hbk];decide))⟩
    refine EachFrom.cons (k:=11) rfl rfl (ds:=[10,10,0,1,2,3,4,5,6,7,8,9,10]) (by kernel_rfl) (fun v _=>v) (fun v x=>by rfl) (fun b v wz hb0 hcl hbk hdep hI Kc hK=>?_) ?_
    ·skip
     rw [hInv] at hI
     obtain ⟨x35,x38,x41,x42,x43⟩:=v
     dsimp only at hI hK ⊢
     (try simp only [Act.put] at hK);(try simp only [tA] at hK);(try simp only [cS] at hK);(try simp only [cZ] at hK)
     obtain ⟨famb,fn,f35,f38,f41,f42,f43,fres⟩:=hI
     obtain ⟨d10,-,d0,d1,d2,d3,d4,d5,d6,d7,d8,d9,-,-⟩:=hdep
     (try simp only [gA]);(try simp only [gS]);(try simp only [gZ])
     have FB:=BR.out.below (famb hbk)
     have hN:=f43 d10
     obtain ⟨u1,K1,l1,o1,u2,K2,l2,o2,rfl⟩:=hN.form
     obtain ⟨r0,r1,r2,r3,r4,r5,r6,r7,r8⟩:=id FB
     go_simp
     refine hK.out (undef) _ (HP.out _ _ _ _ _ (HT.out _ (famb hbk))) ?_
     rw [hInv]
     exact ⟨(fun h=>absurd (show true = false from h) (by decide)),((below_put4 fn (by omega) _ _ _ _)),(fun h0=>(f35 h0).put4 FB _ _ _ _),(fun h0=>(f38 h0).put4 FB _ _ _ _),(fun h0=>(f41 h0).put4 FB _ _ _ _),(fun h0=>(f42 h0).put4 FB _ _ _ _),(fun h0=>(f43 h0).put4 FB _ _ _ _),(fun h0=>⟨_,_,_,_,_,_,_,_,FB.put _ _ _ _,hN.put4 FB _ _ _ _⟩)⟩
    exact EachFrom.nil (by kernel_rfl)
   ·intro v wE hI
    rw [hInv] at hI
    obtain ⟨x35,x38,x41,x42,x43⟩:=v
    dsimp only at hI ⊢
    obtain ⟨famb,fn,f35,f38,f41,f42,f43,fres⟩:=hI
    clear famb
    replace f35:=f35 rfl
    replace f38:=f38 rfl
    replace f41:=f41 rfl
    replace f42:=f42 rfl
    replace f43:=f43 rfl
    replace fres:=fres rfl
    clear hInv hB
    clear f35 f38 f41 f42 f43
    obtain ⟨u1,K1,l1,o1,u2,K2,l2,o2,FB,hR⟩:=fres
    obtain ⟨r0,r1,r2,r3,r4,r5,r6,r7,r8⟩:=id FB
    go_wp2
    refine bodyPost_ret (v:=.agg #[.bool u1,.slice K1 l1 o1,.bool u2,.slice K2 l2 o2]) (by simp [results,Tryz.results40,go_sem,r0,r1,r2,r3]) rfl ⟨N,D,HC.out.2.2,⟨⟨_,_,_,_,_,_,_,_,rfl,hR⟩,fn⟩⟩
end Go.Proofs.YtbajnceoolkckaaGreat
