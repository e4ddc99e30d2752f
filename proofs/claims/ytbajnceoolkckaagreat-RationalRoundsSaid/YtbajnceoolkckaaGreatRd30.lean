/- Of the proof of RationalRounds: RatT. -/
import Derived.Test.YtbajnceoolkckaaGreatRd29
open List renaming getElem_toArray → gA, getElem_cons_succ → gS, getElem_cons_zero → gZ, setIfInBounds_toArray → tA, set_cons_zero → cZ, set_cons_succ → cS
open Go.Lib renaming hid → Hd
set_option maxRecDepth 100000
set_option maxHeartbeats 16000000
namespace Go.Proofs.YtbajnceoolkckaaGreat
open Go.RowKit LM
def JBox (w:World) (b:Nat) (z:Int) (L:Nat) : Prop:=
 ∃ g A n c,Fx w b (.bool g) (.slice A n c) /\ Rval w (.agg #[.bool g,.slice A n c]) z L
theorem JBox.mk {w:World} {b:Nat} {g:Bool} {A:Option Addr} {n c:Nat} {z:Int} {L:Nat} (F:Fx w b (.bool g) (.slice A n c)) (V:Rval w (.agg #[.bool g,.slice A n c]) z L) : JBox w b z L:=⟨g,A,n,c,F,V⟩
theorem JBox.lt {w:World} {b:Nat} {z:Int} {L:Nat} (h:JBox w b z L) : b < w.heap.size:=by
 obtain ⟨g,A,n,c,F,_⟩:=h;exact F.2.2.2.2
theorem JBox.below {w w':World} {b:Nat} {z:Int} {L:Nat} (h:JBox w b z L) (hb:Below w.heap.size w w') : JBox w' b z L:=by
 obtain ⟨g,A,n,c,F,V⟩:=h;exact ⟨g,A,n,c,F.below hb,V.below hb⟩
theorem JBox.new (w:World) {g:Bool} {A:Option Addr} {n c:Nat} {z:Int} {L:Nat} (t:TypeId) (V:Rval w (.agg #[.bool g,.slice A n c]) z L) : JBox (w.alloc (.cells #[.bool g,.slice A n c] t)) w.heap.size z L:=
 ⟨g,A,n,c,Fx.new w _ _ t,V.below (below_alloc _ _)⟩
theorem JBox.other {w:World} {b b':Nat} {y z:Int} {L M:Nat} (h:JBox w b z L) (F:JBox w b' y M) (hne:b' ≠ b) (u v:Value) : JBox ((w.setCell ⟨b',0,none⟩ u).setCell ⟨b',1,none⟩ v) b z L:=by
 obtain ⟨g,A,n,c,G,V⟩:=h;obtain ⟨g',A',n',c',G',_⟩:=F
 exact ⟨g,A,n,c,G.other hne u v,V.fx G' u v⟩
theorem JBox.store {w:World} {b:Nat} {y z:Int} {L M:Nat} (F:JBox w b y M) {g:Bool} {A:Option Addr} {n c:Nat} (V:Rval w (.agg #[.bool g,.slice A n c]) z L) : JBox ((w.setCell ⟨b,0,none⟩ (.bool g)).setCell ⟨b,1,none⟩ (.slice A n c)) b z L:=by
 obtain ⟨g',A',n',c',G',_⟩:=F
 exact ⟨g,A,n,c,G'.store _ _,V.fx G' _ _⟩
theorem Rval.at {w:World} {s:Value} {z:Int} {L:Nat} (h:Rval w s z L) {b:Nat} {y:Int} {M:Nat} (F:JBox w b y M) (u v:Value) : Rval ((w.setCell ⟨b,0,none⟩ u).setCell ⟨b,1,none⟩ v) s z L:=by
 obtain ⟨g',A',n',c',G',_⟩:=F
 exact h.fx G' u v
theorem Rval.put4 {w:World} {s:Value} {z:Int} {L:Nat} (h:Rval w s z L) {b:Nat} (F:Fx4 w b (.bool false) (.slice none 0 0) (.bool false) (.slice none 0 0)) (x0 x1 x2 x3:Value) : Rval (put4 w b x0 x1 x2 x3) s z L:=by
 have F2:Fx w b (.bool false) (.slice none 0 0):=⟨F.c0,F.c1,F.f0,F.f1,F.lt⟩
 have h1:=h.fx F2 x0 x1
 obtain ⟨neg,A',n',c',ds,e,hr,t⟩:=h1
 refine ⟨neg,A',n',c',ds,e,(hr.setOther (fun u=>?_) x2).setOther (fun u=>?_) x3,t⟩
 ·rw [World.cell?_setCell_other _ _ _ _ (by simp),World.cell?_setCell_other _ _ _ _ (by simp),F.c2];simp
 ·rw [World.cell?_setCell_other _ _ _ _ (by simp),World.cell?_setCell_other _ _ _ _ (by simp),World.cell?_setCell_other _ _ _ _ (by simp),F.c3];simp
def RQ (w:World) (v:Value) (n d:Int) (L:Nat) : Prop:=
 ∃ g1 A1 n1 c1 g2 A2 n2 c2,v = .agg #[.bool g1,.slice A1 n1 c1,.bool g2,.slice A2 n2 c2] /\ Rval w (.agg #[.bool g1,.slice A1 n1 c1]) n L /\ Rval w (.agg #[.bool g2,.slice A2 n2 c2]) d L /\ 0 < d /\ Int.gcd n d = 1
theorem RQ.below {w w':World} {v:Value} {n d:Int} {L:Nat} (h:RQ w v n d L) (hb:Below w.heap.size w w') : RQ w' v n d L:=by
 obtain ⟨g1,A1,n1,c1,g2,A2,n2,c2,e,h1,h2,h3⟩:=h
 exact ⟨g1,A1,n1,c1,g2,A2,n2,c2,e,h1.below hb,h2.below hb,h3⟩
theorem RQ.form {w:World} {v:Value} {n d:Int} {L:Nat} (h:RQ w v n d L) : ∃ g1 A1 n1 c1 g2 A2 n2 c2,v = .agg #[.bool g1,.slice A1 n1 c1,.bool g2,.slice A2 n2 c2]:=by
 obtain ⟨g1,A1,n1,c1,g2,A2,n2,c2,e,_⟩:=h
 exact ⟨g1,A1,n1,c1,g2,A2,n2,c2,e⟩
theorem RQ.mk' {w:World} {g1 g2:Bool} {A1 A2:Option Addr} {n1 c1 n2 c2:Nat} {n d:Int} {L:Nat} (h1:Rval w (.agg #[.bool g1,.slice A1 n1 c1]) n L) (h2:Rval w (.agg #[.bool g2,.slice A2 n2 c2]) d L) (h3:0 < d) (h4:Int.gcd n d = 1) :
  RQ w (.agg #[.bool g1,.slice A1 n1 c1,.bool g2,.slice A2 n2 c2]) n d L:=⟨_,_,_,_,_,_,_,_,rfl,h1,h2,h3,h4⟩
theorem RQ.put4 {w:World} {s:Value} {n d:Int} {L:Nat} (h:RQ w s n d L) {b:Nat} (F:Fx4 w b (.bool false) (.slice none 0 0) (.bool false) (.slice none 0 0)) (x0 x1 x2 x3:Value) : RQ (put4 w b x0 x1 x2 x3) s n d L:=by
 obtain ⟨g1,A1,n1,c1,g2,A2,n2,c2,e,h1,h2,h3⟩:=h
 exact ⟨g1,A1,n1,c1,g2,A2,n2,c2,e,h1.put4 F _ _ _ _,h2.put4 F _ _ _ _,h3⟩
theorem three34 (w:World) (p q:Bool) (A B:Option Addr) (n c m d:Nat) :
  Below w.heap.size w (((w.alloc (.cells #[.bool p,.slice A n c] 34)).alloc (.cells #[.bool q,.slice B m d] 34)).alloc (.cells #[.bool false,.slice none 0 0,.bool false,.slice none 0 0] 43)) /\
  Fx (((w.alloc (.cells #[.bool p,.slice A n c] 34)).alloc (.cells #[.bool q,.slice B m d] 34)).alloc (.cells #[.bool false,.slice none 0 0,.bool false,.slice none 0 0] 43)) w.heap.size (.bool p) (.slice A n c) /\
  Fx (((w.alloc (.cells #[.bool p,.slice A n c] 34)).alloc (.cells #[.bool q,.slice B m d] 34)).alloc (.cells #[.bool false,.slice none 0 0,.bool false,.slice none 0 0] 43)) (w.heap.size + 1) (.bool q) (.slice B m d) /\
  Fx4 (((w.alloc (.cells #[.bool p,.slice A n c] 34)).alloc (.cells #[.bool q,.slice B m d] 34)).alloc (.cells #[.bool false,.slice none 0 0,.bool false,.slice none 0 0] 43)) (w.heap.size + 1 + 1) (.bool false) (.slice none 0 0) (.bool false) (.slice none 0 0):=by
 have F1:=((Fx.new w (.bool p) (.slice A n c) 34).below (below_alloc _ (.cells #[.bool q,.slice B m d] 34))).below (below_alloc _ (.cells #[.bool false,.slice none 0 0,.bool false,.slice none 0 0] 43))
 have F2:=(Fx.new (w.alloc (.cells #[.bool p,.slice A n c] 34)) (.bool q) (.slice B m d) 34).below (below_alloc _ (.cells #[.bool false,.slice none 0 0,.bool false,.slice none 0 0] 43))
 rw [show (w.alloc (.cells #[.bool p,.slice A n c] 34)).heap.size = w.heap.size + 1 from by simp] at F2
 have F3:=Fx4.new ((w.alloc (.cells #[.bool p,.slice A n c] 34)).alloc (.cells #[.bool q,.slice B m d] 34)) (.bool false) (.slice none 0 0) (.bool false) (.slice none 0 0) 43
 rw [show ((w.alloc (.cells #[.bool p,.slice A n c] 34)).alloc (.cells #[.bool q,.slice B m d] 34)).heap.size = w.heap.size + 1 + 1 from by simp] at F3
 exact ⟨below_boxed2 _ _ _ _,F1,F2,F3⟩
theorem two24 (w:World) (p:Bool) (A:Option Addr) (n c:Nat) :
  Below w.heap.size w ((w.alloc (.cells #[.bool p,.slice A n c] 34)).alloc (.cells #[.bool false,.slice none 0 0,.bool false,.slice none 0 0] 43)) /\
  Fx ((w.alloc (.cells #[.bool p,.slice A n c] 34)).alloc (.cells #[.bool false,.slice none 0 0,.bool false,.slice none 0 0] 43)) w.heap.size (.bool p) (.slice A n c) /\
  Fx4 ((w.alloc (.cells #[.bool p,.slice A n c] 34)).alloc (.cells #[.bool false,.slice none 0 0,.bool false,.slice none 0 0] 43)) (w.heap.size + 1) (.bool false) (.slice none 0 0) (.bool false) (.slice none 0 0) /\
  ((w.alloc (.cells #[.bool p,.slice A n c] 34)).alloc (.cells #[.bool false,.slice none 0 0,.bool false,.slice none 0 0] 43)).heap.size = w.heap.size + 1 + 1:=by
 have F1:=(Fx.new w (.bool p) (.slice A n c) 34).below (below_alloc _ (.cells #[.bool false,.slice none 0 0,.bool false,.slice none 0 0] 43))
 have F3:=Fx4.new (w.alloc (.cells #[.bool p,.slice A n c] 34)) (.bool false) (.slice none 0 0) (.bool false) (.slice none 0 0) 43
 rw [show (w.alloc (.cells #[.bool p,.slice A n c] 34)).heap.size = w.heap.size + 1 from by simp] at F3
 exact ⟨below_two _ _ _,F1,F3,by simp⟩
theorem new_pos {x y:Int} (h:0 <= y) (h0:y ≠ 0) : newN x y = x.tdiv (Int.gcd x y:Int) /\ newD x y = y.tdiv (Int.gcd x y:Int) /\ divE y = 0 /\ True:=by
 have hg:0 <= y.tdiv (Int.gcd x y:Int):=Int.tdiv_nonneg h (Int.natCast_nonneg _)
 refine ⟨(if_neg h0).trans (if_neg (by omega)),(if_neg h0).trans (if_neg (by omega)),if_neg h0,trivial⟩
theorem new_neg {x y:Int} (h:y < 0) : newN x y = (-x).tdiv (Int.gcd (-x) (-y) : Int) /\ newD x y = (-y).tdiv (Int.gcd (-x) (-y) : Int) /\ divE y = 0 /\ True:=by
 rw [Int.neg_gcd,Int.gcd_neg,Int.neg_tdiv,Int.neg_tdiv]
 have hp:=newD_pos x y
 have h0:y ≠ 0:=by omega
 unfold newD at hp
 rw [if_neg h0] at hp
 unfold upN at hp
 have hlt:y.tdiv (Int.gcd x y:Int) < 0:=by
  split at hp
  ·assumption
  ·rename_i hh
   have h1:0 <= (-y).tdiv (Int.gcd x y:Int):=Int.tdiv_nonneg (by omega) (Int.natCast_nonneg _)
   rw [Int.neg_tdiv] at h1
   omega
 exact ⟨(if_neg h0).trans (if_pos hlt),(if_neg h0).trans (if_pos hlt),if_neg h0,trivial⟩
def RQErr (L:Nat) (n d err:Int) (w:World) (e:Ending) (w':World) : Prop:=
 (∃ g1 A1 n1 c1 g2 A2 n2 c2,e = .returned (.tuple #[.agg #[.bool g1,.slice A1 n1 c1,.bool g2,.slice A2 n2 c2],.int .i64 err]) /\ RQ w' (.agg #[.bool g1,.slice A1 n1 c1,.bool g2,.slice A2 n2 c2]) n d L) /\ Below w.heap.size w w'
theorem one_any (w:World) : Calls Tryz.prog 82 #[] w fun e w'=>(∃ ng A2 n2 c2,e = .returned (.agg #[.bool ng,.slice A2 n2 c2]) /\ Rval w' (.agg #[.bool ng,.slice A2 n2 c2]) 1 64) /\ Below w.heap.size w w':=by
 have hW:=below_alloc w (.cells #[.bool false,.slice none 0 0] 34)
 have B:=Hd (Fx.new w (.bool false) (.slice none 0 0) 34)
 go_enter Tryz.func82,Tryz.ntmps82
 go_wp2_with fail
 refine (rnew_any 1 _ (by decide) (by decide)).mono ?_
 rintro e w1 ⟨⟨ng,A2,n2,c2,rfl,hz⟩,hb⟩
 replace B:=Hd (B.out.below hb)
 have hw:=hW.trans (hb.mono hW.size)
 have HZ:=Hd hz
 clear hz hb hW
 obtain ⟨r0,r1,r2,r3,r4⟩:=B.out
 go_wp2
 exact bodyPost_ret (v:=.agg #[.bool ng,.slice A2 n2 c2]) (by simp [results,Tryz.results82,go_sem,r0,r1]) rfl ⟨⟨_,_,_,_,rfl,HZ.out.fx B.out _ _⟩,(hw.setCell (p:=⟨w.heap.size,0,none⟩) (Nat.le_refl _) _).setCell (p:=⟨w.heap.size,1,none⟩) (Nat.le_refl _) _⟩
theorem rOf_any (u:Value) (x:Int) (L:Nat) (w:World) (h:Rval w u x L) : Calls Tryz.prog 21 #[u] w fun e w'=>(∃ g1 A1 n1 c1 g2 A2 n2 c2,e = .returned (.agg #[.bool g1,.slice A1 n1 c1,.bool g2,.slice A2 n2 c2]) /\ Rval w' (.agg #[.bool g1,.slice A1 n1 c1]) x L /\ Rval w' (.agg #[.bool g2,.slice A2 n2 c2]) 1 64) /\ Below w.heap.size w w':=by
 obtain ⟨p1,A1,n1,c1,rfl⟩:=h.form
 obtain ⟨hw,F1,BR,hs⟩:=two24 w p1 A1 n1 c1
 obtain ⟨W0,hW0⟩ : ∃ W0,(w.alloc (.cells #[.bool p1,.slice A1 n1 c1] 34)).alloc (.cells #[.bool false,.slice none 0 0,.bool false,.slice none 0 0] 43) = W0:=⟨_,rfl⟩
 rw [hW0] at hw F1 BR hs
 have X:=Hd (h.below hw)
 replace F1:=Hd F1
 replace BR:=Hd BR
 replace hw:=Hd hw
 clear h hs
 go_enter Tryz.func21,Tryz.ntmps21
 go_upto_region 1 with fail
 clear hW0
 have HT:=Hd (fun (w':World) (hb:Below W0.heap.size W0 w')=>(show w'.cell? ⟨w.heap.size,0,none⟩ = some (.bool p1) /\ w'.cell? ⟨w.heap.size,1,none⟩ = some (.slice A1 n1 c1) from ⟨(F1.out.below hb).1,(F1.out.below hb).2.1⟩))
 obtain ⟨Inv,hInv⟩ : ∃ J:(Nat -> Bool) -> (Value × Value × Value) -> World -> Prop,J = fun b v w'=>(Below w.heap.size w w') /\ (b 3 = false -> Below W0.heap.size W0 w') /\ (b 0 = true -> v.1 = .agg #[.bool p1,.slice A1 n1 c1]) /\ (b 1 = true -> b 3 = false -> Rval w' v.2.1 1 64) /\ (b 2 = true -> b 3 = false -> ∃ g A n c,v.2.2 = .agg #[.bool p1,.slice A1 n1 c1,.bool g,.slice A n c] /\ Rval w' (.agg #[.bool g,.slice A n c]) 1 64) /\ (b 3 = true -> ∃ g A n c,Fx4 w' (w.heap.size + 1) (.bool p1) (.slice A1 n1 c1) (.bool g) (.slice A n c) /\ Rval w' (.agg #[.bool p1,.slice A1 n1 c1]) x L /\ Rval w' (.agg #[.bool g,.slice A n c]) 1 64):=⟨_,rfl⟩
 have hB:=(Below.refl W0.heap.size W0).drew
 refine wp_region_held_drew (S:=fun w'=>True) (by kernel_rfl) (trivial) (fun hH=>?_)
 clear hH
 generalize W0.drew = wr0 at *
 refine wpAnyH_begin (V:=Value × Value × Value) (I:=Inv) (A:=?_) [false,false,false,false] [3,4,5] (fun v=>[v.1,v.2.1,v.2.2]) (fun a=>(a.tmps.getD 3 undef,a.tmps.getD 4 undef,a.tmps.getD 5 undef)) ?_ ?_ (by kernel_rfl) (by kernel_rfl) (by kernel_rfl) (by kernel_rfl) (by kernel_rfl) ?_ ?_ ?_
 rotate_left 1
 ·intro v;simp only [fillA,Act.put,tA,cZ,cS];rfl
 ·rfl
 ·rw [hInv]
  exact ⟨(hw.out.trans (hB.mono hw.out.size)),(fun _=>hB),(fun h=>absurd h (by decide)),(fun h _=>absurd h (by decide)),(fun h _=>absurd h (by decide)),(fun h=>absurd h (by decide))⟩
 ·skip
  refine EachFrom.cons (k:=0) rfl rfl (ds:=[]) (by kernel_rfl) (fun v x=>(x,v.2.1,v.2.2)) (fun v x=>by rfl) (fun b v wz hb0 hcl hbk hdep hI Kc hK=>?_) ?_
  ·skip
   rw [hInv] at hI
   obtain ⟨x3,x4,x5⟩:=v
   dsimp only at hI hK ⊢
   (try simp only [Act.put] at hK);(try simp only [tA] at hK);(try simp only [cS] at hK);(try simp only [cZ] at hK)
   obtain ⟨fn,famb,f3,f4,f5,fres⟩:=hI
   (try simp only [gA]);(try simp only [gS]);(try simp only [gZ])
   have hA:=famb (by cases h:b 3 with | false=>rfl | true=>exact absurd ((show AllT b [2,1,0,1,2] from hcl 3 _ rfl h).2.2.1) (by rw [hbk];decide))
   obtain ⟨c0,c1,-,-,-⟩:=F1.out.below hA
   go_simp
   refine hK.out _ _ trivial ?_
   rw [hInv]
   exact ⟨(fn),(fun h0=>famb h0),(fun h0=>rfl),(fun h0 h1=>f4 h0 h1),(fun h _=>absurd ((show AllT b [0,1] from hcl 2 _ rfl h).1) (by rw [hbk];decide)),(fun h=>absurd ((show AllT b [2,1,0,1,2] from hcl 3 _ rfl h).2.2.1) (by rw [hbk];decide))⟩
  refine EachFrom.cons (k:=1) rfl rfl (ds:=[]) (by kernel_rfl) (fun v x=>(v.1,x,v.2.2)) (fun v x=>by rfl) (fun b v wz hb0 hcl hbk hdep hI Kc hK=>?_) ?_
  ·skip
   rw [hInv] at hI
   obtain ⟨x3,x4,x5⟩:=v
   dsimp only at hI hK ⊢
   (try simp only [Act.put] at hK);(try simp only [tA] at hK);(try simp only [cS] at hK);(try simp only [cZ] at hK)
   obtain ⟨fn,famb,f3,f4,f5,fres⟩:=hI
   (try simp only [gA]);(try simp only [gS]);(try simp only [gZ])
   go_simp
   (go_at_call 82;refine (one_any _).mono ?_;rintro e w1 ⟨⟨g4,A4,n4,c4,rfl,hz⟩,hb⟩)
   refine hK.out _ _ trivial ?_
   rw [hInv]
   exact ⟨((fn).trans (hb.mono (fn).size)),(fun h0=>(famb h0).trans (hb.mono (famb h0).size)),(fun h0=>f3 h0),(fun h0 h1=>hz),(fun h _=>absurd ((show AllT b [0,1] from hcl 2 _ rfl h).2.1) (by rw [hbk];decide)),(fun h=>absurd ((show AllT b [2,1,0,1,2] from hcl 3 _ rfl h).2.1) (by rw [hbk];decide))⟩
  refine EachFrom.cons (k:=2) rfl rfl (ds:=[0,1]) (by kernel_rfl) (fun v x=>(v.1,v.2.1,x)) (fun v x=>by rfl) (fun b v wz hb0 hcl hbk hdep hI Kc hK=>?_) ?_
  ·skip
   rw [hInv] at hI
   obtain ⟨x3,x4,x5⟩:=v
   dsimp only at hI hK ⊢
   (try simp only [Act.put] at hK);(try simp only [tA] at hK);(try simp only [cS] at hK);(try simp only [cZ] at hK)
   obtain ⟨fn,famb,f3,f4,f5,fres⟩:=hI
   obtain ⟨d0,d1,-⟩:=hdep
   (try simp only [gA]);(try simp only [gS]);(try simp only [gZ])
   obtain rfl:=f3 d0
   obtain ⟨g4,A4,n4,c4,rfl⟩:=(f4 d1 (by cases h:b 3 with | false=>rfl | true=>exact absurd ((show AllT b [2,1,0,1,2] from hcl 3 _ rfl h).1) (by rw [hbk];decide))).form
   go_simp
   refine hK.out _ _ trivial ?_
   rw [hInv]
   exact ⟨(fn),(fun h0=>famb h0),(fun h0=>f3 h0),(fun h0 h1=>f4 h0 h1),(fun h0 h1=>⟨_,_,_,_,rfl,f4 d1 (by cases h:b 3 with | false=>rfl | true=>exact absurd ((show AllT b [2,1,0,1,2] from hcl 3 _ rfl h).1) (by rw [hbk];decide))⟩),(fun h=>absurd ((show AllT b [2,1,0,1,2] from hcl 3 _ rfl h).1) (by rw [hbk];decide))⟩
  refine EachFrom.cons (k:=3) rfl rfl (ds:=[2,1,0,1,2]) (by kernel_rfl) (fun v _=>v) (fun v x=>by rfl) (fun b v wz hb0 hcl hbk hdep hI Kc hK=>?_) ?_
  ·skip
   rw [hInv] at hI
   obtain ⟨x3,x4,x5⟩:=v
   dsimp only at hI hK ⊢
   (try simp only [Act.put] at hK);(try simp only [tA] at hK);(try simp only [cS] at hK);(try simp only [cZ] at hK)
   obtain ⟨fn,famb,f3,f4,f5,fres⟩:=hI
   obtain ⟨d2,d1,d0,-,-,-⟩:=hdep
   (try simp only [gA]);(try simp only [gS]);(try simp only [gZ])
   have hA:=famb hbk
   have FB:=BR.out.below hA
   obtain ⟨g,A,n,c,rfl,hz⟩:=f5 d2 hbk
   obtain rfl:=f3 d0
   obtain ⟨r0,r1,r2,r3,r4,r5,r6,r7,r8⟩:=id FB
   go_simp
   refine hK.out (undef) _ trivial ?_
   rw [hInv]
   exact ⟨((below_put4 fn (by omega) _ _ _ _)),(fun h=>absurd (show true = false from h) (by decide)),(fun h0=>f3 h0),(fun _ h=>absurd (show true = false from h) (by decide)),(fun _ h=>absurd (show true = false from h) (by decide)),(fun h0=>⟨_,_,_,_,FB.put _ _ _ _,(X.out.below hA).put4 FB _ _ _ _,hz.put4 FB _ _ _ _⟩)⟩
  exact EachFrom.nil (by kernel_rfl)
 ·intro v wE hI
  rw [hInv] at hI
  obtain ⟨x3,x4,x5⟩:=v
  dsimp only at hI ⊢
  obtain ⟨fn,famb,f3,f4,f5,fres⟩:=hI
  clear famb
  replace f3:=f3 rfl
  clear f4
  clear f5
  replace fres:=fres rfl
  clear hInv hB
  obtain ⟨g,A,n,c,FB,h1,h2⟩:=fres
  have H1:=Hd h1
  have H2:=Hd h2
  have HN:=Hd fn
  clear h1 h2 fn f3
  obtain ⟨r0,r1,r2,r3,-,-,-,-,-⟩:=FB
  go_wp2
  exact bodyPost_ret (v:=.agg #[.bool p1,.slice A1 n1 c1,.bool g,.slice A n c]) (by simp [results,Tryz.results21,go_sem,r0,r1,r2,r3]) rfl ⟨⟨_,_,_,_,_,_,_,_,rfl,H1.out,H2.out⟩,HN.out⟩
theorem rInt_any (n:Int) (w:World) (h0:-9223372036854775808 <= n) (h1:n <= 9223372036854775807) : Calls Tryz.prog 78 #[.int .i64 n] w fun e w'=>(∃ g1 A1 n1 c1 g2 A2 n2 c2,e = .returned (.agg #[.bool g1,.slice A1 n1 c1,.bool g2,.slice A2 n2 c2]) /\ Rval w' (.agg #[.bool g1,.slice A1 n1 c1]) n 64 /\ Rval w' (.agg #[.bool g2,.slice A2 n2 c2]) 1 64) /\ Below w.heap.size w w':=by
 have hW:=below_alloc w (.cells #[.bool false,.slice none 0 0,.bool false,.slice none 0 0] 43)
 have BR:=Hd (Fx4.new w (.bool false) (.slice none 0 0) (.bool false) (.slice none 0 0) 43)
 go_enter Tryz.func78,Tryz.ntmps78
 go_wp2_with fail
 refine (rnew_any n _ h0 h1).mono ?_
 rintro e w1 ⟨⟨ng,A2,n2,c2,rfl,hz⟩,hb⟩
 replace BR:=Hd (BR.out.below hb)
 have hw:=Hd (hW.trans (hb.mono hW.size))
 have HZ:=Hd hz
 clear hz hb hW
 go_wp2_with fail
 refine (rOf_any _ n 64 _ HZ.out).mono ?_
 rintro e w2 ⟨⟨y1,y2,y3,y4,y5,y6,y7,y8,rfl,hz,ho⟩,hb⟩
 replace BR:=Hd (BR.out.below hb)
 replace hw:=Hd (hw.out.trans (hb.mono hw.out.size))
 have H1:=Hd hz
 have H2:=Hd ho
 clear hz hb ho HZ
 obtain ⟨r0,r1,r2,r3,r4,r5,r6,r7,r8⟩:=BR.out
 go_wp2
 exact bodyPost_ret (v:=.agg #[.bool y1,.slice y2 y3 y4,.bool y5,.slice y6 y7 y8]) (by simp [results,Tryz.results78,go_sem,r0,r1,r2,r3]) rfl ⟨⟨_,_,_,_,_,_,_,_,rfl,H1.out.put4 BR.out _ _ _ _,H2.out.put4 BR.out _ _ _ _⟩,below_put4 hw.out (by omega) _ _ _ _⟩
theorem rNew_any (u v:Value) (x y:Int) (L:Nat) (w:World) (h:Rval w u x L) (g:Rval w v y L) (hL:L <= 1000) :
  Calls Tryz.prog 17 #[u,v] w (RQErr (L + 64) (newN x y) (newD x y) (divE y) w):=by
 obtain ⟨p1,A1,n1,c1,rfl⟩:=h.form
 obtain ⟨p2,A2,n2,c2,rfl⟩:=g.form
 have t:=three34 w p1 p2 A1 A2 n1 c1 n2 c2
 obtain ⟨W0,hW0⟩ : ∃ W0,((w.alloc (.cells #[.bool p1,.slice A1 n1 c1] 34)).alloc (.cells #[.bool p2,.slice A2 n2 c2] 34)).alloc (.cells #[.bool false,.slice none 0 0,.bool false,.slice none 0 0] 43) = W0:=⟨_,rfl⟩
 rw [hW0] at t
 obtain ⟨hw,F1,F2,BR⟩:=t
 have I1:=Hd (JBox.mk F1 (h.below hw))
 have I2:=Hd (JBox.mk F2 (g.below hw))
 replace BR:=Hd BR
 replace hw:=Hd hw
 clear h g F1 F2
 go_enter Tryz.func17,Tryz.ntmps17
 go_upto_region 1 with fail
 clear hW0
 obtain ⟨gxs,Axs,nxs,cxs,Fxs,Vxs⟩:=I2.out
 obtain ⟨yas,ybs,ycs,yds,-⟩:=Fxs
 replace Vxs:=Hd Vxs
 go_wp2_with fail
 refine (rsign_any _ y L _ Vxs.out (by omega)).mono ?_
 rintro e w1 ⟨rfl,hb1⟩
 clear yas ybs ycs yds Vxs
 replace I1:=Hd (I1.out.below hb1)
 replace I2:=Hd (I2.out.below hb1)
 replace BR:=Hd (BR.out.below hb1)
 replace hw:=Hd (hw.out.trans (hb1.mono hw.out.size))
 clear hb1
 by_cases hy:y = 0
 ·skip
  have hcm:cmpI y 0 = 0:=cmpI_eq hy
  have e1:newN x y = 0:=if_pos hy
  have e2:newD x y = 1:=if_pos hy
  have e3:divE y = 6:=if_pos hy
  have HE:=Hd (And.intro e1 (And.intro e2 e3))
  clear e1 e2 e3 hy
  go_wp2_with fail
  refine (rInt_any 0 _ (by decide) (by decide)).mono ?_
  rintro e w2 ⟨⟨y1,y2,y3,y4,y5,y6,y7,y8,rfl,hz,ho⟩,hb1⟩
  have HZ:=Hd hz
  have HO:=Hd ho
  clear hz ho
  replace I1:=Hd (I1.out.below hb1)
  replace I2:=Hd (I2.out.below hb1)
  replace BR:=Hd (BR.out.below hb1)
  replace hw:=Hd (hw.out.trans (hb1.mono hw.out.size))
  clear hb1 hcm
  obtain ⟨r0,r1,r2,r3,r4,r5,r6,r7,r8⟩:=BR.out
  go_wp2
  refine bodyPost_ret (v:=.tuple #[.agg #[.bool y1,.slice y2 y3 y4,.bool y5,.slice y6 y7 y8],.int .i64 6]) (by simp [results,Tryz.results17,go_sem,r0,r1,r2,r3]) rfl ⟨⟨y1,y2,y3,y4,y5,y6,y7,y8,?_,?_⟩,below_put4 hw.out (by omega) _ _ _ _⟩
  ·rw [HE.out.2.2]
  ·rw [HE.out.1,HE.out.2.1];exact (RQ.mk' (HZ.out.mono (by omega)) (HO.out.mono (by omega)) (by decide) (by decide)).put4 BR.out _ _ _ _
 have hcm:cmpI y 0 ≠ 0:=fun h=>hy (cmpI_zero h)
 have HY:=Hd hy
 clear hy
 obtain ⟨gxs,Axs,nxs,cxs,Fxs,Vxs⟩:=I2.out
 obtain ⟨yas,ybs,ycs,yds,-⟩:=Fxs
 replace Vxs:=Hd Vxs
 go_wp2_with fail
 refine (rsign_any _ y L _ Vxs.out (by omega)).mono ?_
 rintro e w2 ⟨rfl,hb1⟩
 clear yas ybs ycs yds Vxs
 replace I1:=Hd (I1.out.below hb1)
 replace I2:=Hd (I2.out.below hb1)
 replace BR:=Hd (BR.out.below hb1)
 replace hw:=Hd (hw.out.trans (hb1.mono hw.out.size))
 clear hb1
 clear hcm
 by_cases hn:y < 0
 ·skip
  have hcm:cmpI y 0 < 0:=by rw [cmpI_lt hn];decide
  have HN:=Hd hn
  clear hn
  go_upto_region 4 with fail
  clear hcm
  obtain ⟨Inv,hInv⟩ : ∃ J:(Nat -> Bool) -> (Value × Value × Value × Value) -> World -> Prop,J = fun b v w'=>(Below w.heap.size w w') /\ (b 4 = false -> Below w2.heap.size w2 w') /\ (b 0 = true -> b 4 = false -> Rval w' v.1 x L) /\ (b 2 = true -> b 4 = false -> Rval w' v.2.2.1 y L) /\ (b 1 = true -> Rval w' v.2.1 (-x) L) /\ (b 3 = true -> Rval w' v.2.2.2 (-y) L) /\ (b 4 = true -> b 5 = false -> JBox w' (w.heap.size + 1) y L) /\ (b 4 = true -> JBox w' (w.heap.size) (-x) L) /\ (b 5 = true -> JBox w' (w.heap.size + 1) (-y) L) /\ (Fx4 w' (w.heap.size + 1 + 1) (.bool false) (.slice none 0 0) (.bool false) (.slice none 0 0)):=⟨_,rfl⟩
  have hB:=(Below.refl w2.heap.size w2).drew
  refine wp_region_held_drew (S:=fun w'=>True) (by kernel_rfl) (trivial) (fun hH=>?_)
  clear hH
  generalize w2.drew = wr0 at *
  refine wpAnyH_begin (V:=Value × Value × Value × Value) (I:=Inv) (A:=?_) [false,false,false,false,false,false] [14,15,16,17] (fun v=>[v.1,v.2.1,v.2.2.1,v.2.2.2]) (fun a=>(a.tmps.getD 14 undef,a.tmps.getD 15 undef,a.tmps.getD 16 undef,a.tmps.getD 17 undef)) ?_ ?_ (by kernel_rfl) (by kernel_rfl) (by kernel_rfl) (by kernel_rfl) (by kernel_rfl) ?_ ?_ ?_
  rotate_left 1
  ·intro v;simp only [fillA,Act.put,tA,cZ,cS];rfl
  ·rfl
  ·rw [hInv]
   exact ⟨(hw.out.trans (hB.mono hw.out.size)),(fun _=>hB),(fun h _=>absurd h (by decide)),(fun h _=>absurd h (by decide)),(fun h=>absurd h (by decide)),(fun h=>absurd h (by decide)),(fun h _=>absurd h (by decide)),(fun h=>absurd h (by decide)),(fun h=>absurd h (by decide)),(BR.out.below hB)⟩
  ·skip
   refine EachFrom.cons (k:=0) rfl rfl (ds:=[]) (by kernel_rfl) (fun v x=>(x,v.2.1,v.2.2.1,v.2.2.2)) (fun v x=>by rfl) (fun b v wz hb0 hcl hbk hdep hI Kc hK=>?_) ?_
   ·skip
    rw [hInv] at hI
    obtain ⟨x14,x15,x16,x17⟩:=v
    dsimp only at hI hK ⊢
    (try simp only [Act.put] at hK);(try simp only [tA] at hK);(try simp only [cS] at hK);(try simp only [cZ] at hK)
    obtain ⟨fn,famb,f14,f16,f15,f17,fo2,fq1,fq2,fbr⟩:=hI
    (try simp only [gA]);(try simp only [gS]);(try simp only [gZ])
    have hA:=famb (by cases h:b 4 with | false=>rfl | true=>exact absurd ((show AllT b [1,3,0,1] from hcl 4 _ rfl h).2.2.1) (by rw [hbk];decide))
    obtain ⟨g,A,n,c,Fq,Z14⟩:=I1.out.below hA
    obtain ⟨c0,c1,-,-,-⟩:=Fq
    go_simp
    refine hK.out _ _ trivial ?_
    rw [hInv]
    exact ⟨(fn),(fun h0=>famb h0),(fun h0 h1=>Z14),(fun h0 h1=>f16 h0 h1),(fun h=>absurd ((show AllT b [0] from hcl 1 _ rfl h).1) (by rw [hbk];decide)),(fun h=>absurd ((show AllT b [0] from hcl 1 _ rfl ((show AllT b [2,1] from hcl 3 _ rfl h).2.1)).1) (by rw [hbk];decide)),(fun h _=>absurd ((show AllT b [1,3,0,1] from hcl 4 _ rfl h).2.2.1) (by rw [hbk];decide)),(fun h=>absurd ((show AllT b [1,3,0,1] from hcl 4 _ rfl h).2.2.1) (by rw [hbk];decide)),(fun h=>absurd ((show AllT b [3,4,0,1,2,3,4] from hcl 5 _ rfl h).2.2.1) (by rw [hbk];decide)),(fbr)⟩
   refine EachFrom.cons (k:=1) rfl rfl (ds:=[0]) (by kernel_rfl) (fun v x=>(v.1,x,v.2.2.1,v.2.2.2)) (fun v x=>by rfl) (fun b v wz hb0 hcl hbk hdep hI Kc hK=>?_) ?_
   ·skip
    rw [hInv] at hI
    obtain ⟨x14,x15,x16,x17⟩:=v
    dsimp only at hI hK ⊢
    (try simp only [Act.put] at hK);(try simp only [tA] at hK);(try simp only [cS] at hK);(try simp only [cZ] at hK)
    obtain ⟨fn,famb,f14,f16,f15,f17,fo2,fq1,fq2,fbr⟩:=hI
    obtain ⟨d0,-⟩:=hdep
    (try simp only [gA]);(try simp only [gS]);(try simp only [gZ])
    go_simp
    (go_at_call 79;refine (rneg_any _ x L _ (f14 d0 (by cases h:b 4 with | false=>rfl | true=>exact absurd ((show AllT b [1,3,0,1] from hcl 4 _ rfl h).1) (by rw [hbk];decide))) (by omega)).mono ?_;rintro e w1 ⟨⟨g15,A15,n15,c15,rfl,hz⟩,hb⟩)
    refine hK.out _ _ trivial ?_
    rw [hInv]
    exact ⟨((fn).trans (hb.mono (fn).size)),(fun h0=>(famb h0).trans (hb.mono (famb h0).size)),(fun h0 h1=>(f14 h0 h1).below hb),(fun h0 h1=>(f16 h0 h1).below hb),(fun h0=>hz),(fun h=>absurd ((show AllT b [2,1] from hcl 3 _ rfl h).2.1) (by rw [hbk];decide)),(fun h _=>absurd ((show AllT b [1,3,0,1] from hcl 4 _ rfl h).1) (by rw [hbk];decide)),(fun h=>absurd ((show AllT b [1,3,0,1] from hcl 4 _ rfl h).1) (by rw [hbk];decide)),(fun h=>absurd ((show AllT b [3,4,0,1,2,3,4] from hcl 5 _ rfl h).2.2.2.1) (by rw [hbk];decide)),((fbr).below hb)⟩
   refine EachFrom.cons (k:=2) rfl rfl (ds:=[]) (by kernel_rfl) (fun v x=>(v.1,v.2.1,x,v.2.2.2)) (fun v x=>by rfl) (fun b v wz hb0 hcl hbk hdep hI Kc hK=>?_) ?_
   ·skip
    rw [hInv] at hI
    obtain ⟨x14,x15,x16,x17⟩:=v
    dsimp only at hI hK ⊢
    (try simp only [Act.put] at hK);(try simp only [tA] at hK);(try simp only [cS] at hK);(try simp only [cZ] at hK)
    obtain ⟨fn,famb,f14,f16,f15,f17,fo2,fq1,fq2,fbr⟩:=hI
    (try simp only [gA]);(try simp only [gS]);(try simp only [gZ])
    have hA:=famb (by cases h:b 4 with | false=>rfl | true=>exact absurd ((show AllT b [2,1] from hcl 3 _ rfl ((show AllT b [1,3,0,1] from hcl 4 _ rfl h).2.1)).1) (by rw [hbk];decide))
    obtain ⟨g,A,n,c,Fq,Z16⟩:=I2.out.below hA
    obtain ⟨c0,c1,-,-,-⟩:=Fq
    go_simp
    refine hK.out _ _ trivial ?_
    rw [hInv]
    exact ⟨(fn),(fun h0=>famb h0),(fun h0 h1=>f14 h0 h1),(fun h0 h1=>Z16),(fun h0=>f15 h0),(fun h=>absurd ((show AllT b [2,1] from hcl 3 _ rfl h).1) (by rw [hbk];decide)),(fun h _=>absurd ((show AllT b [2,1] from hcl 3 _ rfl ((show AllT b [1,3,0,1] from hcl 4 _ rfl h).2.1)).1) (by rw [hbk];decide)),(fun h=>absurd ((show AllT b [2,1] from hcl 3 _ rfl ((show AllT b [1,3,0,1] from hcl 4 _ rfl h).2.1)).1) (by rw [hbk];decide)),(fun h=>absurd ((show AllT b [3,4,0,1,2,3,4] from hcl 5 _ rfl h).2.2.2.2.1) (by rw [hbk];decide)),(fbr)⟩
   refine EachFrom.cons (k:=3) rfl rfl (ds:=[2,1]) (by kernel_rfl) (fun v x=>(v.1,v.2.1,v.2.2.1,x)) (fun v x=>by rfl) (fun b v wz hb0 hcl hbk hdep hI Kc hK=>?_) ?_
   ·skip
    rw [hInv] at hI
    obtain ⟨x14,x15,x16,x17⟩:=v
    dsimp only at hI hK ⊢
    (try simp only [Act.put] at hK);(try simp only [tA] at hK);(try simp only [cS] at hK);(try simp only [cZ] at hK)
    obtain ⟨fn,famb,f14,f16,f15,f17,fo2,fq1,fq2,fbr⟩:=hI
    obtain ⟨d2,d1,-⟩:=hdep
    (try simp only [gA]);(try simp only [gS]);(try simp only [gZ])
    go_simp
    (go_at_call 79;refine (rneg_any _ y L _ (f16 d2 (by cases h:b 4 with | false=>rfl | true=>exact absurd ((show AllT b [1,3,0,1] from hcl 4 _ rfl h).2.1) (by rw [hbk];decide))) (by omega)).mono ?_;rintro e w1 ⟨⟨g17,A17,n17,c17,rfl,hz⟩,hb⟩)
    refine hK.out _ _ trivial ?_
    rw [hInv]
    exact ⟨((fn).trans (hb.mono (fn).size)),(fun h0=>(famb h0).trans (hb.mono (famb h0).size)),(fun h0 h1=>(f14 h0 h1).below hb),(fun h0 h1=>(f16 h0 h1).below hb),(fun h0=>(f15 h0).below hb),(fun h0=>hz),(fun h _=>absurd ((show AllT b [1,3,0,1] from hcl 4 _ rfl h).2.1) (by rw [hbk];decide)),(fun h=>absurd ((show AllT b [1,3,0,1] from hcl 4 _ rfl h).2.1) (by rw [hbk];decide)),(fun h=>absurd ((show AllT b [3,4,0,1,2,3,4] from hcl 5 _ rfl h).1) (by rw [hbk];decide)),((fbr).below hb)⟩
   refine EachFrom.cons (k:=4) rfl rfl (ds:=[1,3,0,1]) (by kernel_rfl) (fun v _=>v) (fun v x=>by rfl) (fun b v wz hb0 hcl hbk hdep hI Kc hK=>?_) ?_
   ·skip
    rw [hInv] at hI
    obtain ⟨x14,x15,x16,x17⟩:=v
    dsimp only at hI hK ⊢
    (try simp only [Act.put] at hK);(try simp only [tA] at hK);(try simp only [cS] at hK);(try simp only [cZ] at hK)
    obtain ⟨fn,famb,f14,f16,f15,f17,fo2,fq1,fq2,fbr⟩:=hI
    obtain ⟨d1,d3,d0,-,-⟩:=hdep
    (try simp only [gA]);(try simp only [gS]);(try simp only [gZ])
    have hA:=famb hbk
    have FB:=I1.out.below hA
    obtain ⟨g15,A15,n15,c15,rfl⟩:=(f15 d1).form
    obtain ⟨g,A,n,c,Fq,-⟩:=id FB
    obtain ⟨c0,c1,c2,c3,c4⟩:=Fq
    go_simp
    refine hK.out (undef) _ trivial ?_
    rw [hInv]
    exact ⟨(((fn).setCell (p:=⟨w.heap.size,0,none⟩) (by show w.heap.size <= w.heap.size;omega) _).setCell (p:=⟨w.heap.size,1,none⟩) (by show w.heap.size <= w.heap.size;omega) _),(fun h=>absurd (show true = false from h) (by decide)),(fun _ h=>absurd (show true = false from h) (by decide)),(fun _ h=>absurd (show true = false from h) (by decide)),(fun h0=>(f15 h0).at FB _ _),(fun h0=>(f17 h0).at FB _ _),(fun h0 h1=>((I2.out.below hA).other FB (by omega) _ _)),(fun h0=>(FB.store (f15 d1))),(fun h=>absurd ((show AllT b [3,4,0,1,2,3,4] from hcl 5 _ rfl h).2.1) (by rw [hbk];decide)),((fbr).other2 (by omega) _ _)⟩
   refine EachFrom.cons (k:=5) rfl rfl (ds:=[3,4,0,1,2,3,4]) (by kernel_rfl) (fun v _=>v) (fun v x=>by rfl) (fun b v wz hb0 hcl hbk hdep hI Kc hK=>?_) ?_
   ·skip
    rw [hInv] at hI
    obtain ⟨x14,x15,x16,x17⟩:=v
    dsimp only at hI hK ⊢
    (try simp only [Act.put] at hK);(try simp only [tA] at hK);(try simp only [cS] at hK);(try simp only [cZ] at hK)
    obtain ⟨fn,famb,f14,f16,f15,f17,fo2,fq1,fq2,fbr⟩:=hI
    obtain ⟨d3,d4,d0,d1,d2,-,-,-⟩:=hdep
    (try simp only [gA]);(try simp only [gS]);(try simp only [gZ])
    have FB:=fo2 d4 hbk
    obtain ⟨g17,A17,n17,c17,rfl⟩:=(f17 d3).form
    obtain ⟨g,A,n,c,Fq,-⟩:=id FB
    obtain ⟨c0,c1,c2,c3,c4⟩:=Fq
    go_simp
    refine hK.out (undef) _ trivial ?_
    rw [hInv]
    exact ⟨(((fn).setCell (p:=⟨w.heap.size + 1,0,none⟩) (by show w.heap.size <= w.heap.size + 1;omega) _).setCell (p:=⟨w.heap.size + 1,1,none⟩) (by show w.heap.size <= w.heap.size + 1;omega) _),(fun h=>absurd (show b 4 = false from h) (by rw [d4];decide)),(fun _ h=>absurd (show b 4 = false from h) (by rw [d4];decide)),(fun _ h=>absurd (show b 4 = false from h) (by rw [d4];decide)),(fun h0=>(f15 h0).at FB _ _),(fun h0=>(f17 h0).at FB _ _),(fun _ h=>absurd (show true = false from h) (by decide)),(fun h0=>(fq1 h0).other FB (by omega) _ _),(fun h0=>(FB.store (f17 d3))),((fbr).other2 (by omega) _ _)⟩
   exact EachFrom.nil (by kernel_rfl)
  ·intro v wE hI
   rw [hInv] at hI
   obtain ⟨x14,x15,x16,x17⟩:=v
   dsimp only at hI ⊢
   obtain ⟨fn,famb,f14,f16,f15,f17,fo2,fq1,fq2,fbr⟩:=hI
   clear famb
   clear f14
   clear f16
   replace f15:=f15 rfl
   replace f17:=f17 rfl
   clear fo2
   replace fq1:=fq1 rfl
   replace fq2:=fq2 rfl
   clear hInv hB
   clear f15 f17
   replace I1:=Hd fq1
   replace I2:=Hd fq2
   replace BR:=Hd fbr
   replace hw:=Hd fn
   clear fq1 fq2 fbr fn
   skip
   obtain ⟨a,ha⟩ : ∃ a,-x = a:=⟨_,rfl⟩
   obtain ⟨b,hb⟩ : ∃ b,-y = b:=⟨_,rfl⟩
   have HE:=Hd (show newN x y = a.tdiv (Int.gcd a b:Int) /\ newD x y = b.tdiv (Int.gcd a b:Int) /\ divE y = 0 /\ True from by rw [<- ha,<- hb];exact new_neg HN.out)
   have hb0:=Hd (show b ≠ 0 by rw [<- hb];have:=HN.out;omega)
   rw [ha] at I1
   rw [hb] at I2
   clear ha hb
   obtain ⟨gxs,Axs,nxs,cxs,Fxs,Vxs⟩:=I1.out
   obtain ⟨yas,ybs,ycs,yds,-⟩:=Fxs
   replace Vxs:=Hd Vxs
   obtain ⟨gxt,Axt,nxt,cxt,Fxt,Vxt⟩:=I2.out
   obtain ⟨yat,ybt,yct,ydt,-⟩:=Fxt
   replace Vxt:=Hd Vxt
   go_wp2_with fail
   refine (rGcd_any _ _ a b L _ Vxs.out Vxt.out (by omega)).mono ?_
   rintro e w3 ⟨⟨ng,Ag,lg,cg,rfl,hz⟩,hb1⟩
   clear yas ybs ycs yds Vxs yat ybt yct ydt Vxt
   replace I1:=Hd (I1.out.below hb1)
   replace I2:=Hd (I2.out.below hb1)
   replace BR:=Hd (BR.out.below hb1)
   replace hw:=Hd (hw.out.trans (hb1.mono hw.out.size))
   clear hb1
   have hbr3:=BR.out.lt
   obtain ⟨G,hG⟩ : ∃ G:Int,(Int.gcd a b:Int) = G:=⟨_,rfl⟩
   rw [hG] at hz
   have HG:=Hd hG
   have hG0:G ≠ 0:=by rw [<- hG];exact gcd_ne (Or.inr hb0.out)
   have HG0:=Hd hG0
   clear hG hG0
   have hb2:=below_alloc w3 (.cells #[.bool ng,.slice Ag lg cg] 34)
   replace I1:=Hd (I1.out.below hb2)
   replace I2:=Hd (I2.out.below hb2)
   replace BR:=Hd (BR.out.below hb2)
   replace hw:=Hd (hw.out.trans (hb2.mono hw.out.size))
   have I3:=Hd (JBox.new w3 34 hz)
   skip
   clear hb2 hz
   go_upto_region 6 with fail
   generalize w3.alloc (.cells #[.bool ng,.slice Ag lg cg] 34) = W3 at *
   have HJ3:=Hd (show w.heap.size + 1 + 1 < w3.heap.size from hbr3)
   clear hbr3
   generalize w3.heap.size = j3 at *
   skip
   obtain ⟨gxs,Axs,nxs,cxs,Fxs,Vxs⟩:=I1.out
   obtain ⟨yas,ybs,ycs,yds,-⟩:=Fxs
   replace Vxs:=Hd Vxs
   obtain ⟨gxt,Axt,nxt,cxt,Fxt,Vxt⟩:=I3.out
   obtain ⟨yat,ybt,yct,ydt,-⟩:=Fxt
   replace Vxt:=Hd Vxt
   go_wp2_with fail
   refine (rDivide_int _ _ a G L L _ Vxs.out Vxt.out (by omega) (by omega) HG0.out).mono ?_
   rintro e w4 ⟨⟨d1,D1,e1,f1,d2,D2,e2,f2,rfl,hq,hr⟩,hb1⟩
   clear yas ybs ycs yds Vxs yat ybt yct ydt Vxt
   replace I1:=Hd (I1.out.below hb1)
   replace I2:=Hd (I2.out.below hb1)
   replace BR:=Hd (BR.out.below hb1)
   replace I3:=Hd (I3.out.below hb1)
   replace hw:=Hd (hw.out.trans (hb1.mono hw.out.size))
   replace hq:=Hd hq
   clear hr hb1
   obtain ⟨gxs,Axs,nxs,cxs,Fxs,Vxs⟩:=I1.out
   obtain ⟨yas,ybs,ycs,yds,-⟩:=Fxs
   replace Vxs:=Hd Vxs
   go_upto_region 7 with fail
   clear yas ybs ycs yds Vxs
   replace I2:=Hd (I2.out.other I1.out (by first | omega | (have:=HJ3.out;omega)) (.bool d1) (.slice D1 e1 f1))
   replace BR:=Hd (BR.out.other2 (by omega:w.heap.size ≠ w.heap.size + 1 + 1) (.bool d1) (.slice D1 e1 f1))
   replace I3:=Hd (I3.out.other I1.out (by first | omega | (have:=HJ3.out;omega)) (.bool d1) (.slice D1 e1 f1))
   replace I1:=Hd (I1.out.store hq.out)
   replace hw:=Hd ((hw.out.setCell (p:=⟨w.heap.size,0,none⟩) (by show w.heap.size <= w.heap.size;omega) (.bool d1)).setCell (p:=⟨w.heap.size,1,none⟩) (by show w.heap.size <= w.heap.size;omega) (.slice D1 e1 f1))
   generalize (w4.setCell ⟨w.heap.size,0,none⟩ (.bool d1)).setCell ⟨w.heap.size,1,none⟩ (.slice D1 e1 f1) = W4 at *
   clear hq
   obtain ⟨gxs,Axs,nxs,cxs,Fxs,Vxs⟩:=I2.out
   obtain ⟨yas,ybs,ycs,yds,-⟩:=Fxs
   replace Vxs:=Hd Vxs
   obtain ⟨gxt,Axt,nxt,cxt,Fxt,Vxt⟩:=I3.out
   obtain ⟨yat,ybt,yct,ydt,-⟩:=Fxt
   replace Vxt:=Hd Vxt
   go_wp2_with fail
   refine (rDivide_int _ _ b G L L _ Vxs.out Vxt.out (by omega) (by omega) HG0.out).mono ?_
   rintro e w5 ⟨⟨d3,D3,e3,f3,d4,D4,e4,f4,rfl,hq,hr⟩,hb1⟩
   clear yas ybs ycs yds Vxs yat ybt yct ydt Vxt
   replace I1:=Hd (I1.out.below hb1)
   replace I2:=Hd (I2.out.below hb1)
   replace BR:=Hd (BR.out.below hb1)
   replace I3:=Hd (I3.out.below hb1)
   replace hw:=Hd (hw.out.trans (hb1.mono hw.out.size))
   replace hq:=Hd hq
   clear hr hb1
   obtain ⟨gxs,Axs,nxs,cxs,Fxs,Vxs⟩:=I2.out
   obtain ⟨yas,ybs,ycs,yds,-⟩:=Fxs
   replace Vxs:=Hd Vxs
   go_upto_region 8 with fail
   clear yas ybs ycs yds Vxs
   replace I1:=Hd (I1.out.other I2.out (by first | omega | (have:=HJ3.out;omega)) (.bool d3) (.slice D3 e3 f3))
   replace BR:=Hd (BR.out.other2 (by omega:w.heap.size + 1 ≠ w.heap.size + 1 + 1) (.bool d3) (.slice D3 e3 f3))
   replace I3:=Hd (I3.out.other I2.out (by first | omega | (have:=HJ3.out;omega)) (.bool d3) (.slice D3 e3 f3))
   replace I2:=Hd (I2.out.store hq.out)
   replace hw:=Hd ((hw.out.setCell (p:=⟨w.heap.size + 1,0,none⟩) (by show w.heap.size <= w.heap.size + 1;omega) (.bool d3)).setCell (p:=⟨w.heap.size + 1,1,none⟩) (by show w.heap.size <= w.heap.size + 1;omega) (.slice D3 e3 f3))
   generalize (w5.setCell ⟨w.heap.size + 1,0,none⟩ (.bool d3)).setCell ⟨w.heap.size + 1,1,none⟩ (.slice D3 e3 f3) = W5 at *
   clear hq
   obtain ⟨gxs,Axs,nxs,cxs,Fxs,Vxs⟩:=I1.out
   obtain ⟨yas,ybs,ycs,yds,-⟩:=Fxs
   replace Vxs:=Hd Vxs
   obtain ⟨gxt,Axt,nxt,cxt,Fxt,Vxt⟩:=I2.out
   obtain ⟨yat,ybt,yct,ydt,-⟩:=Fxt
   replace Vxt:=Hd Vxt
   obtain ⟨r0,r1,r2,r3,r4,r5,r6,r7,r8⟩:=BR.out
   go_wp2
   refine bodyPost_ret (v:=.tuple #[.agg #[.bool gxs,.slice Axs nxs cxs,.bool gxt,.slice Axt nxt cxt],.int .i64 0]) (by simp [results,Tryz.results17,go_sem,r0,r1,r2,r3]) rfl ⟨⟨gxs,Axs,nxs,cxs,gxt,Axt,nxt,cxt,?_,?_⟩,below_put4 hw.out (by omega) _ _ _ _⟩
   ·rw [HE.out.2.2.1]
   ·rw [HE.out.1,HE.out.2.1,HG.out];exact (RQ.mk' (Vxs.out.mono (by omega)) (Vxt.out.mono (by omega)) (by rw [<- HG.out,<- HE.out.2.1];exact newD_pos _ _) (by rw [<- HG.out,<- HE.out.1,<- HE.out.2.1];exact new_gcd _ _)).put4 BR.out _ _ _ _
 ·skip
  have hcm:¬ cmpI y 0 < 0:=by unfold cmpI;rw [if_neg hn];split <;> decide
  have HN:=Hd (Int.not_lt.1 hn)
  clear hn
  go_upto_region 5 with fail
  clear hcm
  obtain ⟨a,ha⟩ : ∃ a,x = a:=⟨_,rfl⟩
  obtain ⟨b,hb⟩ : ∃ b,y = b:=⟨_,rfl⟩
  have HE:=Hd (show newN x y = a.tdiv (Int.gcd a b:Int) /\ newD x y = b.tdiv (Int.gcd a b:Int) /\ divE y = 0 /\ True from by rw [<- ha,<- hb];exact new_pos HN.out HY.out)
  have hb0:=Hd (show b ≠ 0 by rw [<- hb];exact HY.out)
  rw [ha] at I1
  skip
  rw [hb] at I2
  clear ha hb
  obtain ⟨gxs,Axs,nxs,cxs,Fxs,Vxs⟩:=I1.out
  obtain ⟨yas,ybs,ycs,yds,-⟩:=Fxs
  replace Vxs:=Hd Vxs
  obtain ⟨gxt,Axt,nxt,cxt,Fxt,Vxt⟩:=I2.out
  obtain ⟨yat,ybt,yct,ydt,-⟩:=Fxt
  replace Vxt:=Hd Vxt
  go_wp2_with fail
  refine (rGcd_any _ _ a b L _ Vxs.out Vxt.out (by omega)).mono ?_
  rintro e w3 ⟨⟨ng,Ag,lg,cg,rfl,hz⟩,hb1⟩
  clear yas ybs ycs yds Vxs yat ybt yct ydt Vxt
  replace I1:=Hd (I1.out.below hb1)
  replace I2:=Hd (I2.out.below hb1)
  replace BR:=Hd (BR.out.below hb1)
  replace hw:=Hd (hw.out.trans (hb1.mono hw.out.size))
  clear hb1
  have hbr3:=BR.out.lt
  obtain ⟨G,hG⟩ : ∃ G:Int,(Int.gcd a b:Int) = G:=⟨_,rfl⟩
  rw [hG] at hz
  have HG:=Hd hG
  have hG0:G ≠ 0:=by rw [<- hG];exact gcd_ne (Or.inr hb0.out)
  have HG0:=Hd hG0
  clear hG hG0
  have hb2:=below_alloc w3 (.cells #[.bool ng,.slice Ag lg cg] 34)
  replace I1:=Hd (I1.out.below hb2)
  replace I2:=Hd (I2.out.below hb2)
  replace BR:=Hd (BR.out.below hb2)
  replace hw:=Hd (hw.out.trans (hb2.mono hw.out.size))
  have I3:=Hd (JBox.new w3 34 hz)
  skip
  clear hb2 hz
  go_upto_region 6 with fail
  generalize w3.alloc (.cells #[.bool ng,.slice Ag lg cg] 34) = W3 at *
  have HJ3:=Hd (show w.heap.size + 1 + 1 < w3.heap.size from hbr3)
  clear hbr3
  generalize w3.heap.size = j3 at *
  skip
  obtain ⟨gxs,Axs,nxs,cxs,Fxs,Vxs⟩:=I1.out
  obtain ⟨yas,ybs,ycs,yds,-⟩:=Fxs
  replace Vxs:=Hd Vxs
  obtain ⟨gxt,Axt,nxt,cxt,Fxt,Vxt⟩:=I3.out
  obtain ⟨yat,ybt,yct,ydt,-⟩:=Fxt
  replace Vxt:=Hd Vxt
  go_wp2_with fail
  refine (rDivide_int _ _ a G L L _ Vxs.out Vxt.out (by omega) (by omega) HG0.out).mono ?_
  rintro e w4 ⟨⟨d1,D1,e1,f1,d2,D2,e2,f2,rfl,hq,hr⟩,hb1⟩
  clear yas ybs ycs yds Vxs yat ybt yct ydt Vxt
  replace I1:=Hd (I1.out.below hb1)
  replace I2:=Hd (I2.out.below hb1)
  replace BR:=Hd (BR.out.below hb1)
  replace I3:=Hd (I3.out.below hb1)
  replace hw:=Hd (hw.out.trans (hb1.mono hw.out.size))
  replace hq:=Hd hq
  clear hr hb1
  obtain ⟨gxs,Axs,nxs,cxs,Fxs,Vxs⟩:=I1.out
  obtain ⟨yas,ybs,ycs,yds,-⟩:=Fxs
  replace Vxs:=Hd Vxs
  go_upto_region 7 with fail
  clear yas ybs ycs yds Vxs
  replace I2:=Hd (I2.out.other I1.out (by first | omega | (have:=HJ3.out;omega)) (.bool d1) (.slice D1 e1 f1))
  replace BR:=Hd (BR.out.other2 (by omega:w.heap.size ≠ w.heap.size + 1 + 1) (.bool d1) (.slice D1 e1 f1))
  replace I3:=Hd (I3.out.other I1.out (by first | omega | (have:=HJ3.out;omega)) (.bool d1) (.slice D1 e1 f1))
  replace I1:=Hd (I1.out.store hq.out)
  replace hw:=Hd ((hw.out.setCell (p:=⟨w.heap.size,0,none⟩) (by show w.heap.size <= w.heap.size;omega) (.bool d1)).setCell (p:=⟨w.heap.size,1,none⟩) (by show w.heap.size <= w.heap.size;omega) (.slice D1 e1 f1))
  generalize (w4.setCell ⟨w.heap.size,0,none⟩ (.bool d1)).setCell ⟨w.heap.size,1,none⟩ (.slice D1 e1 f1) = W4 at *
  clear hq
  obtain ⟨gxs,Axs,nxs,cxs,Fxs,Vxs⟩:=I2.out
  obtain ⟨yas,ybs,ycs,yds,-⟩:=Fxs
  replace Vxs:=Hd Vxs
  obtain ⟨gxt,Axt,nxt,cxt,Fxt,Vxt⟩:=I3.out
  obtain ⟨yat,ybt,yct,ydt,-⟩:=Fxt
  replace Vxt:=Hd Vxt
  go_wp2_with fail
  refine (rDivide_int _ _ b G L L _ Vxs.out Vxt.out (by omega) (by omega) HG0.out).mono ?_
  rintro e w5 ⟨⟨d3,D3,e3,f3,d4,D4,e4,f4,rfl,hq,hr⟩,hb1⟩
  clear yas ybs ycs yds Vxs yat ybt yct ydt Vxt
  replace I1:=Hd (I1.out.below hb1)
  replace I2:=Hd (I2.out.below hb1)
  replace BR:=Hd (BR.out.below hb1)
  replace I3:=Hd (I3.out.below hb1)
  replace hw:=Hd (hw.out.trans (hb1.mono hw.out.size))
  replace hq:=Hd hq
  clear hr hb1
  obtain ⟨gxs,Axs,nxs,cxs,Fxs,Vxs⟩:=I2.out
  obtain ⟨yas,ybs,ycs,yds,-⟩:=Fxs
  replace Vxs:=Hd Vxs
  go_upto_region 8 with fail
  clear yas ybs ycs yds Vxs
  replace I1:=Hd (I1.out.other I2.out (by first | omega | (have:=HJ3.out;omega)) (.bool d3) (.slice D3 e3 f3))
  replace BR:=Hd (BR.out.other2 (by omega:w.heap.size + 1 ≠ w.heap.size + 1 + 1) (.bool d3) (.slice D3 e3 f3))
  replace I3:=Hd (I3.out.other I2.out (by first | omega | (have:=HJ3.out;omega)) (.bool d3) (.slice D3 e3 f3))
  replace I2:=Hd (I2.out.store hq.out)
  replace hw:=Hd ((hw.out.setCell (p:=⟨w.heap.size + 1,0,none⟩) (by show w.heap.size <= w.heap.size + 1;omega) (.bool d3)).setCell (p:=⟨w.heap.size + 1,1,none⟩) (by show w.heap.size <= w.heap.size + 1;omega) (.slice D3 e3 f3))
  generalize (w5.setCell ⟨w.heap.size + 1,0,none⟩ (.bool d3)).setCell ⟨w.heap.size + 1,1,none⟩ (.slice D3 e3 f3) = W5 at *
  clear hq
  obtain ⟨gxs,Axs,nxs,cxs,Fxs,Vxs⟩:=I1.out
  obtain ⟨yas,ybs,ycs,yds,-⟩:=Fxs
  replace Vxs:=Hd Vxs
  obtain ⟨gxt,Axt,nxt,cxt,Fxt,Vxt⟩:=I2.out
  obtain ⟨yat,ybt,yct,ydt,-⟩:=Fxt
  replace Vxt:=Hd Vxt
  obtain ⟨r0,r1,r2,r3,r4,r5,r6,r7,r8⟩:=BR.out
  go_wp2
  refine bodyPost_ret (v:=.tuple #[.agg #[.bool gxs,.slice Axs nxs cxs,.bool gxt,.slice Axt nxt cxt],.int .i64 0]) (by simp [results,Tryz.results17,go_sem,r0,r1,r2,r3]) rfl ⟨⟨gxs,Axs,nxs,cxs,gxt,Axt,nxt,cxt,?_,?_⟩,below_put4 hw.out (by omega) _ _ _ _⟩
  ·rw [HE.out.2.2.1]
  ·rw [HE.out.1,HE.out.2.1,HG.out];exact (RQ.mk' (Vxs.out.mono (by omega)) (Vxt.out.mono (by omega)) (by rw [<- HG.out,<- HE.out.2.1];exact newD_pos _ _) (by rw [<- HG.out,<- HE.out.1,<- HE.out.2.1];exact new_gcd _ _)).put4 BR.out _ _ _ _
end Go.Proofs.YtbajnceoolkckaaGreat
