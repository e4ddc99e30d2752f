/- Of the proof of RationalRounds: Acts0, RatA, RatB, RatC. -/
import Derived.Test.YtbajnceoolkckaaGreatRd17
open List renaming getElem_toArray → gA, getElem_cons_succ → gS, getElem_cons_zero → gZ, setIfInBounds_toArray → tA, set_cons_zero → cZ, set_cons_succ → cS
open Go.Lib renaming hid → Hd
set_option maxRecDepth 100000
set_option maxHeartbeats 16000000
namespace Go.Proofs.YtbajnceoolkckaaGreat
open Go.RowKit LM
theorem abs_int (u:Value) (x:Int) (L:Nat) (w:World) (h:Ival w u x L) (hL:L <= 1073741824) :
  Calls Tryz.prog 69 #[u] w fun e w'=>(∃ ng A2 n2 c2,e = .returned (.agg #[.bool ng,.slice A2 n2 c2]) /\ Ival w' (.agg #[.bool ng,.slice A2 n2 c2]) (if x < 0 then -x else x) L) /\ Below w.heap.size w w':=by
 obtain ⟨p,A,n,c,rfl⟩:=h.form
 obtain ⟨a,ha,ha0,rfl,ha1⟩:=h.parts
 have hW:=below_two w (.cells #[.bool p,.slice A n c] 31) (.cells #[.bool false,.slice none 0 0] 31)
 have HA:=Hd (ha.below hW)
 have hB0:=Below.refl (w.heap.size + 2) ((w.alloc (.cells #[.bool p,.slice A n c] 31)).alloc (.cells #[.bool false,.slice none 0 0] 31))
 have e0:(if withSign p a < 0 then -withSign p a else withSign p a) = a:=by
  cases p with
  | true=>have:=ha1 rfl;simp [withSign];omega
  | false=>simp [withSign];omega
 rw [e0]
 clear h ha ha1 e0
 go_enter Tryz.func69,Tryz.ntmps69
 go_wp2_with fail
 refine (clone_num _ a L _ HA.out hL).mono ?_
 rintro e w1 ⟨r,rfl,hr,hb1⟩
 have HR:=Hd hr
 have hB1:=hB0.trans (hb1.mono (B':=w.heap.size + 2) (by simp))
 clear hr
 go_wp2_with fail
 refine (signed_out false _ a L _ HR.out hL).mono ?_
 rintro e w2 ⟨ng,A2,n2,c2,rfl,hv,hb2⟩
 have hB2:=hB1.trans (hb2.mono (B':=w.heap.size + 2) (by have:=hB1.size;simp at this;omega))
 obtain ⟨e1,e2,f1,f2⟩:=room1 hB2
 have HV:=Hd (show Ival w2 (.agg #[.bool ng,.slice A2 n2 c2]) a L from hv)
 clear hv
 go_wp2
 refine bodyPost_ret (v:=.agg #[.bool ng,.slice A2 n2 c2]) (by simp [results,Tryz.results69,go_sem,e1,e2]) rfl ⟨⟨_,_,_,_,rfl,HV.out.stored e1 e2 _ _⟩,?_⟩
 exact ((hW.trans (hB2.mono (by omega))).setCell (by show _ <= _;simp) _).setCell (by show _ <= _;simp) _
def divE (y:Int) : Int:=if y = 0 then 6 else 0
theorem neg_t (u:Value) (x:Int) (L:Nat) (w:World) (h:Ival w u x L) (hL:L <= 1000000) :
  Calls Tryz.prog 62 #[u] w fun e w'=>(∃ ng A2 n2 c2,e = .returned (.agg #[.bool ng,.slice A2 n2 c2]) /\ Ival w' (.agg #[.bool ng,.slice A2 n2 c2]) (-x) L) /\ Below w.heap.size w w':=
 (neg_int u x L w h (by omega)).mono fun _ _ ⟨_,he,hv,hb⟩=>by obtain ⟨ng,A,n,c,rfl⟩:=hv.form;exact ⟨⟨ng,A,n,c,he,hv⟩,hb⟩
theorem add_t (u v:Value) (x y:Int) (L M:Nat) (w:World) (h:Ival w u x L) (g:Ival w v y M) (hL:L <= 1000000) (hM:M <= 1000000) :
  Calls Tryz.prog 99 #[u,v] w fun e w'=>(∃ ng A2 n2 c2,e = .returned (.agg #[.bool ng,.slice A2 n2 c2]) /\ Ival w' (.agg #[.bool ng,.slice A2 n2 c2]) (x + y) (max L M + 1)) /\ Below w.heap.size w w':=
 (add_int u v x y L M w h g (by omega) (by omega)).mono fun _ _ ⟨_,he,hv,hb⟩=>by obtain ⟨ng,A,n,c,rfl⟩:=hv.form;exact ⟨⟨ng,A,n,c,he,hv⟩,hb⟩
theorem sub_t (u v:Value) (x y:Int) (L M:Nat) (w:World) (h:Ival w u x L) (g:Ival w v y M) (hL:L <= 1000000) (hM:M <= 1000000) :
  Calls Tryz.prog 169 #[u,v] w fun e w'=>(∃ ng A2 n2 c2,e = .returned (.agg #[.bool ng,.slice A2 n2 c2]) /\ Ival w' (.agg #[.bool ng,.slice A2 n2 c2]) (x - y) (max L M + 1)) /\ Below w.heap.size w w':=
 (sub_int u v x y L M w h g (by omega) (by omega)).mono fun _ _ ⟨_,he,hv,hb⟩=>by obtain ⟨ng,A,n,c,rfl⟩:=hv.form;exact ⟨⟨ng,A,n,c,he,hv⟩,hb⟩
theorem mul_t (u v:Value) (x y:Int) (L M:Nat) (w:World) (h:Ival w u x L) (g:Ival w v y M) (hL:L <= 1000000) (hM:M <= 1000000) :
  Calls Tryz.prog 97 #[u,v] w fun e w'=>(∃ ng A2 n2 c2,e = .returned (.agg #[.bool ng,.slice A2 n2 c2]) /\ Ival w' (.agg #[.bool ng,.slice A2 n2 c2]) (x * y) (L + M)) /\ Below w.heap.size w w':=
 (mul_int u v x y L M w h g (by omega) (by omega)).mono fun _ _ ⟨_,he,hv,hb⟩=>by obtain ⟨ng,A,n,c,rfl⟩:=hv.form;exact ⟨⟨ng,A,n,c,he,hv⟩,hb⟩
theorem isOne_any (u:Value) (x:Int) (L:Nat) (w:World) (h:Ival w u x L) (hL:L <= 1000000) :
  Calls Tryz.prog 132 #[u] w fun e w'=>e = .returned (.bool (decide (x = 1))) /\ Below w.heap.size w w':=by
 obtain ⟨p,A,n,c,rfl⟩:=h.form
 have hW:=below_alloc w (.cells #[.bool p,.slice A n c] 31)
 have H:=Hd (h.below hW)
 have B:=Hd (Fx.new w (.bool p) (.slice A n c) 31)
 clear h
 go_enter Tryz.func132,Tryz.ntmps132
 go_wp2_with fail
 refine (Int64_any _ x L _ H.out (by omega)).mono ?_
 rintro e w1 ⟨rfl,hb⟩
 have hw:=hW.trans (hb.mono hW.size)
 by_cases hf:-9223372036854775808 <= x /\ x <= 9223372036854775807
 ·obtain ⟨e1,e2⟩:=int64_fit hf
  rw [e1,e2]
  clear e1 e2
  go_wp2
  go_ret
  exact ⟨rfl,hw⟩
 ·obtain ⟨e1,e2⟩:=int64_not hf
  rw [e1,e2]
  clear e1 e2
  have e3:decide (x = 1) = false:=decide_eq_false (by omega)
  go_wp2
  go_ret
  exact ⟨by rw [e3];rfl,hw⟩
structure Three (w W0:World) (p q:Bool) (A B:Option Addr) (n c m d:Nat) : Prop where
 below:Below w.heap.size w W0
 size:W0.heap.size = w.heap.size + 1 + 1 + 1
 b0:Fx W0 w.heap.size (.bool p) (.slice A n c)
 b1:Fx W0 (w.heap.size + 1) (.bool q) (.slice B m d)
 b2:Fx W0 (w.heap.size + 1 + 1) (.bool false) (.slice none 0 0)
theorem three (w:World) (p q:Bool) (A B:Option Addr) (n c m d:Nat) :
  Three w (((w.alloc (.cells #[.bool p,.slice A n c] 31)).alloc (.cells #[.bool q,.slice B m d] 31)).alloc (.cells #[.bool false,.slice none 0 0] 31)) p q A B n c m d:=by
 refine ⟨below_boxed2 _ _ _ _,by simp,((Fx.new w _ _ 31).below (below_alloc _ _)).below (below_alloc _ _),?_,?_⟩
 ·have h1:=Fx.new (w.alloc (.cells #[.bool p,.slice A n c] 31)) (.bool q) (.slice B m d) 31
  rw [show (w.alloc (.cells #[.bool p,.slice A n c] 31)).heap.size = w.heap.size + 1 from by simp] at h1
  exact h1.below (below_alloc _ _)
 ·have h1:=Fx.new ((w.alloc (.cells #[.bool p,.slice A n c] 31)).alloc (.cells #[.bool q,.slice B m d] 31)) (.bool false) (.slice none 0 0) 31
  rw [show ((w.alloc (.cells #[.bool p,.slice A n c] 31)).alloc (.cells #[.bool q,.slice B m d] 31)).heap.size = w.heap.size + 1 + 1 from by simp] at h1
  exact h1
theorem part_any (u v:Value) (x y:Int) (L M:Nat) (w:World) (h:Ival w u x L) (g:Ival w v y M) (hL:L <= 1000000) (hM:M <= 1000000) (hy:y ≠ 0) :
  Calls Tryz.prog 98 #[u,v] w fun e w'=>(∃ ng A2 n2 c2,e = .returned (.agg #[.bool ng,.slice A2 n2 c2]) /\ Ival w' (.agg #[.bool ng,.slice A2 n2 c2]) (x.tdiv y) (L + 2)) /\ Below w.heap.size w w':=by
 obtain ⟨p,A,n,c,rfl⟩:=h.form
 obtain ⟨q,B,m,d,rfl⟩:=g.form
 have t:=three w p q A B n c m d
 obtain ⟨W0,hW0⟩ : ∃ W0,(((w.alloc (.cells #[.bool p,.slice A n c] 31)).alloc (.cells #[.bool q,.slice B m d] 31)).alloc (.cells #[.bool false,.slice none 0 0] 31)) = W0:=⟨_,rfl⟩
 rw [hW0] at t
 have hw:=t.below
 have HX:=Hd (h.below hw)
 have HY:=Hd (g.below hw)
 have F0:=Hd t.b0
 have F1:=Hd t.b1
 have F2:=Hd t.b2
 have hs:=t.size
 clear h g t
 go_enter Tryz.func98,Tryz.ntmps98
 go_upto_region 1 with fail
 clear hW0
 obtain ⟨a1,a2,-,-,-⟩:=F1.out
 go_wp2_with fail
 refine (isOne_any _ y M _ HY.out hM).mono ?_
 rintro e w1 ⟨rfl,hb⟩
 have hw1:=hw.trans (hb.mono hw.size)
 have G0:=Hd (F0.out.below hb)
 have G1:=Hd (F1.out.below hb)
 have G2:=Hd (F2.out.below hb)
 have KX:=Hd (HX.out.below hb)
 have KY:=Hd (HY.out.below hb)
 have hs1:=hb.size
 clear a1 a2 F0 F1 F2 HX HY
 obtain ⟨c1,c2,-,-,-⟩:=G0.out
 obtain ⟨d1,d2,-,-,-⟩:=G1.out
 obtain ⟨r1,r2,r3,r4,r5⟩:=G2.out
 by_cases hy1:y = 1
 ·subst hy1
  simp only [decide_true]
  go_wp2
  refine bodyPost_ret (v:=.agg #[.bool p,.slice A n c]) (by simp [results,Tryz.results98,go_sem,r1,r2]) rfl ⟨⟨_,_,_,_,rfl,?_⟩,?_⟩
  ·rw [Int.tdiv_one];exact (KX.out.stored r1 r2 _ _).mono (by omega)
  ·exact (hw1.setCell (by show w.heap.size <= w.heap.size + 1 + 1;omega) _).setCell (by show w.heap.size <= w.heap.size + 1 + 1;omega) _
 ·have e1:decide (y = 1) = false:=decide_eq_false hy1
  rw [e1]
  clear e1
  go_wp2_with fail
  refine (Divide_int _ _ x y L M _ KX.out KY.out (by omega) (by omega) hy).mono ?_
  rintro e w2 ⟨n1,A1,l1,k1,n2,A2,l2,k2,rfl,h1,h2,hb2⟩
  clear c1 c2 d1 d2 r1 r2 r3 r4 r5
  have hw2:=hw1.trans (hb2.mono hw1.size)
  have E2:=Hd (G2.out.below hb2)
  have hs2:=hb2.size
  clear G0 G1 G2 KX KY hb2
  go_upto_region 4 with fail
  have hX:=below_two w2 (.cells #[.bool n1,.slice A1 l1 k1] 31) (.cells #[.bool n2,.slice A2 l2 k2] 31)
  have B5:=Fx.new1 w2 n1 n2 (.slice A1 l1 k1) (.slice A2 l2 k2) 31 31
  have R:=E2.out.below hX
  have V:=Hd (h1.below hX)
  have hw3:=hw2.trans (hX.mono hw2.size)
  clear h1 h2 E2 hX
  generalize (w2.alloc (.cells #[.bool n1,.slice A1 l1 k1] 31)).alloc (.cells #[.bool n2,.slice A2 l2 k2] 31) = W3 at *
  generalize w2.heap.size = b5 at *
  obtain ⟨r1,r2,r3,r4,r5⟩:=R
  obtain ⟨c1,c2,-,-,-⟩:=B5
  go_wp2
  refine bodyPost_ret (v:=.agg #[.bool n1,.slice A1 l1 k1]) (by simp [results,Tryz.results98,go_sem,r1,r2]) rfl ⟨⟨_,_,_,_,rfl,V.out.stored r1 r2 _ _⟩,?_⟩
  exact (hw3.setCell (by show w.heap.size <= w.heap.size + 1 + 1;omega) _).setCell (by show w.heap.size <= w.heap.size + 1 + 1;omega) _
structure Fx4 (w:World) (b:Nat) (v0 v1 v2 v3:Value) : Prop where
 c0:w.cell? ⟨b,0,none⟩ = some v0
 c1:w.cell? ⟨b,1,none⟩ = some v1
 c2:w.cell? ⟨b,2,none⟩ = some v2
 c3:w.cell? ⟨b,3,none⟩ = some v3
 f0:w.frozen? ⟨b,0,none⟩ = false
 f1:w.frozen? ⟨b,1,none⟩ = false
 f2:w.frozen? ⟨b,2,none⟩ = false
 f3:w.frozen? ⟨b,3,none⟩ = false
 lt:b < w.heap.size
theorem Fx4.below {w w' : World} {b : Nat} {v0 v1 v2 v3 : Value} (h : Fx4 w b v0 v1 v2 v3) (hb : Below w.heap.size w w') : Fx4 w' b v0 v1 v2 v3 :=
  ⟨(hb.cell (p := ⟨b, 0, none⟩) h.lt).trans h.c0, (hb.cell (p := ⟨b, 1, none⟩) h.lt).trans h.c1, (hb.cell (p := ⟨b, 2, none⟩) h.lt).trans h.c2, (hb.cell (p := ⟨b, 3, none⟩) h.lt).trans h.c3,
   (hb.frozen (p := ⟨b, 0, none⟩) h.lt).trans h.f0, (hb.frozen (p := ⟨b, 1, none⟩) h.lt).trans h.f1, (hb.frozen (p := ⟨b, 2, none⟩) h.lt).trans h.f2, (hb.frozen (p := ⟨b, 3, none⟩) h.lt).trans h.f3, Nat.lt_of_lt_of_le h.lt hb.size⟩
theorem Fx4.new (w : World) (v0 v1 v2 v3 : Value) (t : TypeId) : Fx4 (w.alloc (.cells #[v0, v1, v2, v3] t)) w.heap.size v0 v1 v2 v3 :=
  ⟨World.cell?_alloc_at _ _ _ _ rfl, World.cell?_alloc_at _ _ _ _ rfl, World.cell?_alloc_at _ _ _ _ rfl, World.cell?_alloc_at _ _ _ _ rfl,
   World.frozen?_alloc_at _ _ _ _ rfl, World.frozen?_alloc_at _ _ _ _ rfl, World.frozen?_alloc_at _ _ _ _ rfl, World.frozen?_alloc_at _ _ _ _ rfl, by simp⟩
theorem Fx4.other2 {w:World} {b c:Nat} {u0 u1 u2 u3:Value} (h:Fx4 w b u0 u1 u2 u3) (hne:c ≠ b) (v0 v1:Value) : Fx4 ((w.setCell ⟨c,0,none⟩ v0).setCell ⟨c,1,none⟩ v1) b u0 u1 u2 u3:=by
 refine ⟨?_,?_,?_,?_,by simpa using h.f0,by simpa using h.f1,by simpa using h.f2,by simpa using h.f3,by simpa using h.lt⟩
 ·rw [World.cell?_setCell_other _ _ _ _ (by simp;try omega),World.cell?_setCell_other _ _ _ _ (by simp;try omega)];exact h.c0
 ·rw [World.cell?_setCell_other _ _ _ _ (by simp;try omega),World.cell?_setCell_other _ _ _ _ (by simp;try omega)];exact h.c1
 ·rw [World.cell?_setCell_other _ _ _ _ (by simp;try omega),World.cell?_setCell_other _ _ _ _ (by simp;try omega)];exact h.c2
 ·rw [World.cell?_setCell_other _ _ _ _ (by simp;try omega),World.cell?_setCell_other _ _ _ _ (by simp;try omega)];exact h.c3
def put4 (w:World) (b:Nat) (x0 x1 x2 x3:Value) : World:=(((w.setCell ⟨b,0,none⟩ x0).setCell ⟨b,1,none⟩ x1).setCell ⟨b,2,none⟩ x2).setCell ⟨b,3,none⟩ x3
theorem Ival.put4 {w:World} {s:Value} {z:Int} {L:Nat} (h:Ival w s z L) {b:Nat} (F:Fx4 w b (.bool false) (.slice none 0 0) (.bool false) (.slice none 0 0)) (x0 x1 x2 x3:Value) :
  Ival (put4 w b x0 x1 x2 x3) s z L:=by
 refine (((h.setOther (fun u=>by rw [F.c0];simp) x0).setOther (fun u=>?_) x1).setOther (fun u=>?_) x2).setOther (fun u=>?_) x3
 ·rw [World.cell?_setCell_other _ _ _ _ (by simp),F.c1];simp
 ·rw [World.cell?_setCell_other _ _ _ _ (by simp),World.cell?_setCell_other _ _ _ _ (by simp),F.c2];simp
 ·rw [World.cell?_setCell_other _ _ _ _ (by simp),World.cell?_setCell_other _ _ _ _ (by simp),World.cell?_setCell_other _ _ _ _ (by simp),F.c3];simp
theorem below_put4 {w w':World} {B b:Nat} (h:Below B w w') (hb:B <= b) (x0 x1 x2 x3:Value) : Below B w (put4 w' b x0 x1 x2 x3):=
 (((h.setCell (p:=⟨b,0,none⟩) hb x0).setCell (p:=⟨b,1,none⟩) hb x1).setCell (p:=⟨b,2,none⟩) hb x2).setCell (p:=⟨b,3,none⟩) hb x3
theorem Of_any (u:Value) (x:Int) (L:Nat) (w:World) (h:Ival w u x L) :
  Calls Tryz.prog 20 #[u] w fun e w'=>(∃ ng A2 n2 c2,e = .returned (.agg #[.bool ng,.slice A2 n2 c2,.bool false,.slice none 0 0]) /\ Ival w' (.agg #[.bool ng,.slice A2 n2 c2]) x L) /\ Below w.heap.size w w':=by
 obtain ⟨p,A,n,c,rfl⟩:=h.form
 have hX:=below_two w (.cells #[.bool p,.slice A n c] 31) (.cells #[.bool p,.slice A n c,.bool false,.slice none 0 0] 38)
 have V:=Hd (h.below hX)
 clear h
 go_enter Tryz.func20,Tryz.ntmps20
 go_wp2
 have R:=Fx4.new (w.alloc (.cells #[.bool p,.slice A n c] 31)) (.bool p) (.slice A n c) (.bool false) (.slice none 0 0) 38
 rw [show (w.alloc (.cells #[.bool p,.slice A n c] 31)).heap.size = w.heap.size + 1 from by simp] at R
 generalize (w.alloc (.cells #[.bool p,.slice A n c] 31)).alloc (.cells #[.bool p,.slice A n c,.bool false,.slice none 0 0] 38) = W1 at *
 obtain ⟨r0,r1,r2,r3,-,-,-,-,-⟩:=R
 exact bodyPost_ret (v:=.agg #[.bool p,.slice A n c,.bool false,.slice none 0 0]) (by simp [results,Tryz.results20,go_sem,r0,r1,r2,r3]) rfl ⟨⟨_,_,_,_,rfl,V.out⟩,hX⟩
structure Three4 (w W0:World) (p q:Bool) (A B:Option Addr) (n c m d:Nat) : Prop where
 below:Below w.heap.size w W0
 size:W0.heap.size = w.heap.size + 1 + 1 + 1
 b0:Fx W0 w.heap.size (.bool p) (.slice A n c)
 b1:Fx W0 (w.heap.size + 1) (.bool q) (.slice B m d)
 b2:Fx4 W0 (w.heap.size + 1 + 1) (.bool false) (.slice none 0 0) (.bool false) (.slice none 0 0)
theorem three4 (w:World) (p q:Bool) (A B:Option Addr) (n c m d:Nat) :
  Three4 w (((w.alloc (.cells #[.bool p,.slice A n c] 31)).alloc (.cells #[.bool q,.slice B m d] 31)).alloc (.cells #[.bool false,.slice none 0 0,.bool false,.slice none 0 0] 38)) p q A B n c m d:=by
 refine ⟨below_boxed2 _ _ _ _,by simp,((Fx.new w _ _ 31).below (below_alloc _ _)).below (below_alloc _ _),?_,?_⟩
 ·have h1:=Fx.new (w.alloc (.cells #[.bool p,.slice A n c] 31)) (.bool q) (.slice B m d) 31
  rw [show (w.alloc (.cells #[.bool p,.slice A n c] 31)).heap.size = w.heap.size + 1 from by simp] at h1
  exact h1.below (below_alloc _ _)
 ·have h1:=Fx4.new ((w.alloc (.cells #[.bool p,.slice A n c] 31)).alloc (.cells #[.bool q,.slice B m d] 31)) (.bool false) (.slice none 0 0) (.bool false) (.slice none 0 0) 38
  rw [show ((w.alloc (.cells #[.bool p,.slice A n c] 31)).alloc (.cells #[.bool q,.slice B m d] 31)).heap.size = w.heap.size + 1 + 1 from by simp] at h1
  exact h1
def Frac (L:Nat) (n d:Int) (w:World) (e:Ending) (w':World) : Prop:=
 (∃ g1 A1 n1 c1 g2 A2 n2 c2,e = .returned (.agg #[.bool g1,.slice A1 n1 c1,.bool g2,.slice A2 n2 c2]) /\ Ival w' (.agg #[.bool g1,.slice A1 n1 c1]) n L /\ Ival w' (.agg #[.bool g2,.slice A2 n2 c2]) (if d = 1 then 0 else d) L) /\ Below w.heap.size w w'
theorem coprime_any (u v:Value) (x y:Int) (L:Nat) (w:World) (h:Ival w u x L) (g:Ival w v y L) (hL:L <= 1000000) :
  Calls Tryz.prog 92 #[u,v] w (Frac L (if y < 0 then -x else x) (if y < 0 then -y else y) w):=by
 obtain ⟨p,A,n,c,rfl⟩:=h.form
 obtain ⟨q,B,m,d,rfl⟩:=g.form
 have t:=three4 w p q A B n c m d
 obtain ⟨W0,hW0⟩ : ∃ W0,(((w.alloc (.cells #[.bool p,.slice A n c] 31)).alloc (.cells #[.bool q,.slice B m d] 31)).alloc (.cells #[.bool false,.slice none 0 0,.bool false,.slice none 0 0] 38)) = W0:=⟨_,rfl⟩
 rw [hW0] at t
 have hw:=t.below
 have HX:=Hd (h.below hw)
 have HY:=Hd (g.below hw)
 have F0:=Hd t.b0
 have F1:=Hd t.b1
 have F2:=Hd t.b2
 have hs:=t.size
 clear h g t
 obtain ⟨N,hN⟩ : ∃ N,(if y < 0 then -x else x) = N:=⟨_,rfl⟩
 obtain ⟨D,hD⟩ : ∃ D,(if y < 0 then -y else y) = D:=⟨_,rfl⟩
 rw [hN,hD]
 have HN:=Hd hN
 have HD:=Hd hD
 clear hN hD
 go_enter Tryz.func92,Tryz.ntmps92
 go_upto_region 1 with fail
 clear hW0
 obtain ⟨a1,a2,-,-,-⟩:=F1.out
 go_wp2_with fail
 refine (sign_int _ y L _ HY.out).mono ?_
 rintro e w1 ⟨rfl,hb⟩
 have hw1:=hw.trans (hb.mono hw.size)
 replace F0:=Hd (F0.out.below hb)
 replace F1:=Hd (F1.out.below hb)
 replace F2:=Hd (F2.out.below hb)
 replace HX:=Hd (HX.out.below hb)
 replace HY:=Hd (HY.out.below hb)
 have hs1:=hb.size
 clear a1 a2 hw hb
 by_cases hyn:y < 0
 ·have hcm:cmpI y 0 < 0:=by rw [cmpI_lt hyn];decide
  have hN:=HN.out
  have hD:=HD.out
  rw [if_pos hyn] at hN hD
  clear HN HD
  go_upto_region 2 with fail
  have hB:=(Below.refl w1.heap.size w1).drew
  obtain ⟨a1,a2,-,-,-⟩:=F0.out.below hB
  obtain ⟨b1,b2,-,-,-⟩:=F1.out.below hB
  clear hcm
  go_region_with (first | (go_at_call 62;refine (neg_t _ x L _ ?nh hL).mono ?_;(case nh=>exact HX.out.below hB);rintro e w2 ⟨⟨g1,A1,n1,c1,rfl,hz1⟩,hb1⟩;have hB1:=Below.trans hB (hb1.mono hB.size);have Z1:=Hd hz1;obtain ⟨e1,e2,-,-,-⟩:=F1.out.below hB1;clear hz1) | (go_at_call 62;refine (neg_t _ y L _ ?nh hL).mono ?_;(case nh=>exact HY.out.below hB1);rintro e w3 ⟨⟨g2,A2,n2,c2,rfl,hz2⟩,hb2⟩;have hB2:=Below.trans hB1 (hb2.mono hB1.size);have Z2:=Hd hz2;replace Z1:=Hd (Z1.out.below hb2);obtain ⟨p1,p2,p3,p4,p5⟩:=F0.out.below hB2;obtain ⟨q1,q2,q3,q4,q5⟩:=F1.out.below hB2;clear hz2))
  all_goals clear a1 a2 b1 b2 e1 e2 hB hB1
  all_goals replace hw1:=((((hw1.trans (hB2.mono hw1.size)).setCell (p:=⟨w.heap.size,0,none⟩) (Nat.le_refl _) (.bool g1)).setCell (p:=⟨w.heap.size,1,none⟩) (Nat.le_refl _) (.slice A1 n1 c1)).setCell (p:=⟨w.heap.size + 1,0,none⟩) (by show w.heap.size <= w.heap.size + 1;omega) (.bool g2)).setCell (p:=⟨w.heap.size + 1,1,none⟩) (by show w.heap.size <= w.heap.size + 1;omega) (.slice A2 n2 c2)
  all_goals have G0:=F0.out.below hB2
  all_goals have G1:=F1.out.below hB2
  all_goals have G2:=(((F2.out.below hB2).other2 (by omega:w.heap.size ≠ w.heap.size + 1 + 1) (.bool g1) (.slice A1 n1 c1))).other2 (by omega:w.heap.size + 1 ≠ w.heap.size + 1 + 1) (.bool g2) (.slice A2 n2 c2)
  all_goals have H1:=G1.other (by omega:w.heap.size ≠ w.heap.size + 1) (.bool g1) (.slice A1 n1 c1)
  all_goals replace Z1:=Hd ((Z1.out.fx G0 (.bool g1) (.slice A1 n1 c1)).fx H1 (.bool g2) (.slice A2 n2 c2))
  all_goals replace Z2:=Hd ((Z2.out.fx G0 (.bool g1) (.slice A1 n1 c1)).fx H1 (.bool g2) (.slice A2 n2 c2))
  all_goals have H0:=(G0.store (.bool g1) (.slice A1 n1 c1)).other (by omega:w.heap.size + 1 ≠ w.heap.size) (.bool g2) (.slice A2 n2 c2)
  all_goals replace H1:=H1.store (.bool g2) (.slice A2 n2 c2)
  all_goals clear G0 G1 p1 p2 p3 p4 p5 q1 q2 q3 q4 q5 F0 F1 F2 HX HY hb1 hb2
  all_goals generalize (((w3.setCell ⟨w.heap.size,0,none⟩ (.bool g1)).setCell ⟨w.heap.size,1,none⟩ (.slice A1 n1 c1)).setCell ⟨w.heap.size + 1,0,none⟩ (.bool g2)).setCell ⟨w.heap.size + 1,1,none⟩ (.slice A2 n2 c2) = w4 at *
  all_goals have F0:=Hd H0
  all_goals have F1:=Hd H1
  all_goals have F2:=Hd G2
  all_goals have HX:=Hd (show Ival w4 (.agg #[.bool g1,.slice A1 n1 c1]) N L from hN ▸ Z1.out)
  all_goals have HY:=Hd (show Ival w4 (.agg #[.bool g2,.slice A2 n2 c2]) D L from hD ▸ Z2.out)
  all_goals clear H0 H1 G2 Z1 Z2 hN hD hB2
  all_goals (
   obtain ⟨b1,b2,-,-,-⟩:=F1.out
   go_wp2_with fail
   refine (isOne_any _ D L _ HY.out hL).mono ?_
   rintro e wt ⟨rfl,hb⟩
   replace hw1:=hw1.trans (hb.mono hw1.size)
   replace F0:=Hd (F0.out.below hb)
   replace F1:=Hd (F1.out.below hb)
   replace F2:=Hd (F2.out.below hb)
   replace HX:=Hd (HX.out.below hb)
   replace HY:=Hd (HY.out.below hb)
   have hst:=hb.size
   clear b1 b2 hb
   obtain ⟨a1,a2,-,-,-⟩:=F0.out
   obtain ⟨b1,b2,-,-,-⟩:=F1.out
   by_cases hD:D = 1
   ·simp only [decide_eq_true hD]
    go_wp2_with fail
    refine (Of_any _ N L _ HX.out).mono ?_
    rintro e wu ⟨⟨ng,A5,n5,c5,rfl,hz⟩,hb⟩
    have Z:=Hd hz
    replace hw1:=hw1.trans (hb.mono hw1.size)
    replace F2:=Hd (F2.out.below hb)
    clear hz a1 a2 b1 b2 F0 F1 HX HY hb
    obtain ⟨r0,r1,r2,r3,r4,r5,r6,r7,r8⟩:=F2.out
    go_wp2
    refine bodyPost_ret (v:=.agg #[.bool ng,.slice A5 n5 c5,.bool false,.slice none 0 0]) (by simp [results,Tryz.results92,go_sem,r0,r1,r2,r3]) rfl ⟨⟨_,_,_,_,_,_,_,_,rfl,Z.out.put4 F2.out _ _ _ _,?_⟩,below_put4 hw1 (by omega) _ _ _ _⟩
    rw [if_pos hD];exact Ival.nought
   ·have e1:decide (D = 1) = false:=decide_eq_false hD
    rw [e1]
    clear e1
    obtain ⟨r0,r1,r2,r3,r4,r5,r6,r7,r8⟩:=F2.out
    go_wp2
    refine bodyPost_ret (v:=.agg #[.bool g1,.slice A1 n1 c1,.bool g2,.slice A2 n2 c2]) (by simp [results,Tryz.results92,go_sem,r0,r1,r2,r3]) rfl ⟨⟨_,_,_,_,_,_,_,_,rfl,HX.out.put4 F2.out _ _ _ _,?_⟩,below_put4 hw1 (by omega) _ _ _ _⟩
    rw [if_neg hD];exact HY.out.put4 F2.out _ _ _ _)
 ·have hcm:¬ cmpI y 0 < 0:=by unfold cmpI;rw [if_neg hyn];split <;> decide
  have hN:=HN.out
  have hD:=HD.out
  rw [if_neg hyn] at hN hD
  subst hN hD
  clear HN HD
  obtain ⟨b1,b2,-,-,-⟩:=F1.out
  go_wp2_with fail
  refine (isOne_any _ y L _ HY.out hL).mono ?_
  rintro e wt ⟨rfl,hb⟩
  replace hw1:=hw1.trans (hb.mono hw1.size)
  replace F0:=Hd (F0.out.below hb)
  replace F1:=Hd (F1.out.below hb)
  replace F2:=Hd (F2.out.below hb)
  replace HX:=Hd (HX.out.below hb)
  replace HY:=Hd (HY.out.below hb)
  have hst:=hb.size
  clear b1 b2 hb
  obtain ⟨a1,a2,-,-,-⟩:=F0.out
  obtain ⟨b1,b2,-,-,-⟩:=F1.out
  by_cases hD1:y = 1
  ·simp only [decide_eq_true hD1]
   go_wp2_with fail
   refine (Of_any _ x L _ HX.out).mono ?_
   rintro e wu ⟨⟨ng,A5,n5,c5,rfl,hz⟩,hb⟩
   have Z:=Hd hz
   replace hw1:=hw1.trans (hb.mono hw1.size)
   replace F2:=Hd (F2.out.below hb)
   clear hz a1 a2 b1 b2 F0 F1 HX HY hb
   obtain ⟨r0,r1,r2,r3,r4,r5,r6,r7,r8⟩:=F2.out
   go_wp2
   refine bodyPost_ret (v:=.agg #[.bool ng,.slice A5 n5 c5,.bool false,.slice none 0 0]) (by simp [results,Tryz.results92,go_sem,r0,r1,r2,r3]) rfl ⟨⟨_,_,_,_,_,_,_,_,rfl,Z.out.put4 F2.out _ _ _ _,?_⟩,below_put4 hw1 (by omega) _ _ _ _⟩
   rw [if_pos hD1];exact Ival.nought
  ·have e1:decide (y = 1) = false:=decide_eq_false hD1
   rw [e1]
   clear e1
   obtain ⟨r0,r1,r2,r3,r4,r5,r6,r7,r8⟩:=F2.out
   go_wp2
   refine bodyPost_ret (v:=.agg #[.bool p,.slice A n c,.bool q,.slice B m d]) (by simp [results,Tryz.results92,go_sem,r0,r1,r2,r3]) rfl ⟨⟨_,_,_,_,_,_,_,_,rfl,HX.out.put4 F2.out _ _ _ _,?_⟩,below_put4 hw1 (by omega) _ _ _ _⟩
   rw [if_neg hD1];exact HY.out.put4 F2.out _ _ _ _
def upN (x y:Int) : Int:=if y < 0 then -x else x
theorem coprime_c (u v:Value) (x y:Int) (L:Nat) (w:World) (h:Ival w u x L) (g:Ival w v y L) (hL:L <= 1000000) :
  Calls Tryz.prog 92 #[u,v] w (Frac L (upN x y) (upN y y) w):=coprime_any u v x y L w h g hL
theorem cell_put4 {w:World} {b c i:Nat} (hne:b ≠ c) (x0 x1 x2 x3:Value) : (put4 w b x0 x1 x2 x3).cell? ⟨c,i,none⟩ = w.cell? ⟨c,i,none⟩:=by
 unfold put4
 rw [World.cell?_setCell_other _ _ _ _ (by simp;try omega),World.cell?_setCell_other _ _ _ _ (by simp;try omega),World.cell?_setCell_other _ _ _ _ (by simp;try omega),World.cell?_setCell_other _ _ _ _ (by simp;try omega)]
theorem lowest_any (u v:Value) (x y:Int) (L:Nat) (w:World) (h:Ival w u x L) (g:Ival w v y L) (hL:L <= 900000) (hL2:2 <= L) (hy:y ≠ 0) :
  Calls Tryz.prog 76 #[u,v] w (Frac (L + 2) (upN (x.tdiv (Int.gcd x y)) (y.tdiv (Int.gcd x y))) (upN (y.tdiv (Int.gcd x y)) (y.tdiv (Int.gcd x y))) w):=by
 obtain ⟨p,A,n,c,rfl⟩:=h.form
 obtain ⟨q,B,m,d,rfl⟩:=g.form
 have t:=three4 w p q A B n c m d
 obtain ⟨W0,hW0⟩ : ∃ W0,(((w.alloc (.cells #[.bool p,.slice A n c] 31)).alloc (.cells #[.bool q,.slice B m d] 31)).alloc (.cells #[.bool false,.slice none 0 0,.bool false,.slice none 0 0] 38)) = W0:=⟨_,rfl⟩
 rw [hW0] at t
 have hw:=t.below
 have HX:=Hd (h.below hw)
 have HY:=Hd (g.below hw)
 have F0:=Hd t.b0
 have F1:=Hd t.b1
 have F2:=Hd t.b2
 have hs:=t.size
 clear h g t
 go_enter Tryz.func76,Tryz.ntmps76
 go_upto_region 1 with fail
 clear hW0
 obtain ⟨a1,a2,-,-,-⟩:=F0.out
 obtain ⟨b1,b2,-,-,-⟩:=F1.out
 go_wp2_with fail
 refine (Gcd_int _ _ x y L _ HX.out HY.out (by omega) hL2).mono ?_
 rintro e w1 ⟨⟨g5,A5,n5,d5,rfl,hz⟩,hb⟩
 have hX:=below_alloc w1 (.cells #[.bool g5,.slice A5 n5 d5] 31)
 have hbx:=hb.trans (hX.mono hb.size)
 have B5:=Hd (Fx.new w1 (.bool g5) (.slice A5 n5 d5) 31)
 have V5:=Hd (hz.below hX)
 have hw1:=hw.trans (hbx.mono hw.size)
 replace F0:=Hd (F0.out.below hbx)
 replace F1:=Hd (F1.out.below hbx)
 replace F2:=Hd (F2.out.below hbx)
 replace HX:=Hd (HX.out.below hbx)
 replace HY:=Hd (HY.out.below hbx)
 have hs1:=hb.size
 clear a1 a2 b1 b2 hw hb hbx hX hz
 go_upto_region 2 with fail
 generalize w1.alloc (.cells #[.bool g5,.slice A5 n5 d5] 31) = W1 at *
 generalize w1.heap.size = b5 at *
 have HT:=Hd (fun (w':World) (hb:Below W1.heap.size W1 w')=>(show w'.cell? ⟨w.heap.size,0,none⟩ = some (.bool p) /\ w'.cell? ⟨w.heap.size,1,none⟩ = some (.slice A n c) /\ w'.cell? ⟨w.heap.size + 1,0,none⟩ = some (.bool q) /\ w'.cell? ⟨w.heap.size + 1,1,none⟩ = some (.slice B m d) /\ w'.cell? ⟨b5,0,none⟩ = some (.bool g5) /\ w'.cell? ⟨b5,1,none⟩ = some (.slice A5 n5 d5) from ⟨(F0.out.below hb).1,(F0.out.below hb).2.1,(F1.out.below hb).1,(F1.out.below hb).2.1,(B5.out.below hb).1,(B5.out.below hb).2.1⟩))
 have HP:=Hd (fun (w':World) (x0 x1 x2 x3:Value) (h:w'.cell? ⟨w.heap.size,0,none⟩ = some (.bool p) /\ w'.cell? ⟨w.heap.size,1,none⟩ = some (.slice A n c) /\ w'.cell? ⟨w.heap.size + 1,0,none⟩ = some (.bool q) /\ w'.cell? ⟨w.heap.size + 1,1,none⟩ = some (.slice B m d) /\ w'.cell? ⟨b5,0,none⟩ = some (.bool g5) /\ w'.cell? ⟨b5,1,none⟩ = some (.slice A5 n5 d5))=>(show (fun w'=>w'.cell? ⟨w.heap.size,0,none⟩ = some (.bool p) /\ w'.cell? ⟨w.heap.size,1,none⟩ = some (.slice A n c) /\ w'.cell? ⟨w.heap.size + 1,0,none⟩ = some (.bool q) /\ w'.cell? ⟨w.heap.size + 1,1,none⟩ = some (.slice B m d) /\ w'.cell? ⟨b5,0,none⟩ = some (.bool g5) /\ w'.cell? ⟨b5,1,none⟩ = some (.slice A5 n5 d5)) (put4 w' (w.heap.size + 1 + 1) x0 x1 x2 x3) from ⟨(cell_put4 (by omega) _ _ _ _).trans h.1,(cell_put4 (by omega) _ _ _ _).trans h.2.1,(cell_put4 (by omega) _ _ _ _).trans h.2.2.1,(cell_put4 (by omega) _ _ _ _).trans h.2.2.2.1,(cell_put4 (by omega) _ _ _ _).trans h.2.2.2.2.1,(cell_put4 (by omega) _ _ _ _).trans h.2.2.2.2.2⟩))
 have HG:=Hd (show (Int.gcd x y:Int) ≠ 0 from fun h=>hy (Int.gcd_eq_zero_iff.1 (by exact_mod_cast h)).2)
 have hB:=(Below.refl W1.heap.size W1).drew
 replace HX:=Hd (HX.out.below hB)
 replace HY:=Hd (HY.out.below hB)
 replace V5:=Hd (V5.out.below hB)
 refine wp_region_held_drew (S:=fun w'=>w'.cell? ⟨w.heap.size,0,none⟩ = some (.bool p) /\ w'.cell? ⟨w.heap.size,1,none⟩ = some (.slice A n c) /\ w'.cell? ⟨w.heap.size + 1,0,none⟩ = some (.bool q) /\ w'.cell? ⟨w.heap.size + 1,1,none⟩ = some (.slice B m d) /\ w'.cell? ⟨b5,0,none⟩ = some (.bool g5) /\ w'.cell? ⟨b5,1,none⟩ = some (.slice A5 n5 d5)) (by kernel_rfl) (HT.out _ hB) (fun hH=>?_)
 clear hH
 generalize W1.drew = wr0 at *
 refine tk 0 9 (by first | assumption | exact HT.out _ hB) ?_
 try simp only [Act.put,tA,cZ,cS]
 refine tk 1 10 (by first | assumption | exact HT.out _ hB) ?_
 try simp only [Act.put,tA,cZ,cS]
 refine tk 3 12 (by first | assumption | exact HT.out _ hB) ?_
 try simp only [Act.put,tA,cZ,cS]
 refine tk 4 13 (by first | assumption | exact HT.out _ hB) ?_
 try simp only [Act.put,tA,cZ,cS]
 refine rd 2 (AllReadyH.cons rfl (fun K hK=>?_) AllReadyH.nil)
 (try simp only [gA]);(try simp only [gS]);(try simp only [gZ])
 go_simp
 (go_at_call 98;refine (part_any _ _ x (Int.gcd x y:Int) L L _ HX.out V5.out (by omega) (by omega) HG.out).mono ?_;rintro e wc1 ⟨⟨gt1,At1,nt1,ct1,rfl,hz⟩,hb⟩)
 replace HX:=Hd (HX.out.below hb)
 replace HY:=Hd (HY.out.below hb)
 replace V5:=Hd (V5.out.below hb)
 replace hB:=Below.trans hB (hb.mono hB.size)
 have T1:=Hd hz
 refine hK.out _ _ (HT.out _ hB) (fun hH=>?_)
 clear hK K hH
 try simp only [Act.put,tA,cZ,cS]
 clear hb hz
 refine rd 5 (AllReadyH.cons rfl (fun K hK=>?_) AllReadyH.nil)
 (try simp only [gA]);(try simp only [gS]);(try simp only [gZ])
 go_simp
 (go_at_call 98;refine (part_any _ _ y (Int.gcd x y:Int) L L _ HY.out V5.out (by omega) (by omega) HG.out).mono ?_;rintro e wc2 ⟨⟨gt2,At2,nt2,ct2,rfl,hz⟩,hb⟩)
 replace HX:=Hd (HX.out.below hb)
 replace HY:=Hd (HY.out.below hb)
 replace V5:=Hd (V5.out.below hb)
 replace T1:=Hd (T1.out.below hb)
 replace hB:=Below.trans hB (hb.mono hB.size)
 have T2:=Hd hz
 refine hK.out _ _ (HT.out _ hB) (fun hH=>?_)
 clear hK K hH
 try simp only [Act.put,tA,cZ,cS]
 clear hb hz
 refine rd 6 (AllReadyH.cons rfl (fun K hK=>?_) AllReadyH.nil)
 (try simp only [gA]);(try simp only [gS]);(try simp only [gZ])
 go_simp
 (go_at_call 92;refine (coprime_c _ _ (x.tdiv (Int.gcd x y)) (y.tdiv (Int.gcd x y)) (L + 2) _ T1.out T2.out (by omega)).mono ?_;rintro e wc3 ⟨⟨gn,An,nn,cn,gd,Ad,nd,cd,rfl,hz,hzd⟩,hb⟩)
 replace HX:=Hd (HX.out.below hb)
 replace HY:=Hd (HY.out.below hb)
 replace V5:=Hd (V5.out.below hb)
 replace T1:=Hd (T1.out.below hb)
 replace T2:=Hd (T2.out.below hb)
 replace hB:=Below.trans hB (hb.mono hB.size)
 have T3:=Hd hz
 have T4:=Hd hzd
 refine hK.out _ _ (HT.out _ hB) (fun hH=>?_)
 clear hK K hH
 try simp only [Act.put,tA,cZ,cS]
 clear hb hz hzd
 refine rd 7 (AllReadyH.cons rfl (fun K hK=>?_) AllReadyH.nil)
 (try simp only [gA]);(try simp only [gS]);(try simp only [gZ])
 have R4:=F2.out.below hB
 obtain ⟨r0,r1,r2,r3,r4,r5,r6,r7,r8⟩:=id R4
 go_simp
 refine hK.out _ _ (HP.out _ (.bool gn) (.slice An nn cn) (.bool gd) (.slice Ad nd cd) (HT.out _ hB)) (fun hH=>?_)
 clear hK K hH
 try simp only [Act.put,tA,cZ,cS]
 refine wpAnyH_done (by kernel_rfl) ?_ _
 go_wp2
 refine bodyPost_ret (v:=.agg #[.bool gn,.slice An nn cn,.bool gd,.slice Ad nd cd]) (by simp [results,Tryz.results76,go_sem,r0,r1,r2,r3]) rfl ⟨⟨_,_,_,_,_,_,_,_,rfl,T3.out.put4 R4 _ _ _ _,T4.out.put4 R4 _ _ _ _⟩,below_put4 (hw1.trans (hB.mono hw1.size)) (by omega) _ _ _ _⟩
end Go.Proofs.YtbajnceoolkckaaGreat
