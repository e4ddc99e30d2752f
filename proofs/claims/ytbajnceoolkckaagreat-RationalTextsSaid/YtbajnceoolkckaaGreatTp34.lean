/- Of the proof of RationalTexts: RatPt, RatNum, RatPu. -/
import Derived.Test.YtbajnceoolkckaaGreatTp33
open Go.Lib renaming hid → Hd
set_option maxRecDepth 100000
set_option maxHeartbeats 16000000
namespace Go.Proofs.YtbajnceoolkckaaGreat
open Go.RowKit LM
theorem rText_q (v:Value) (n d R:Int) (L:Nat) (w:World) (h:RQ w v n d L) (hL:L <= 1000) (bn:(if n < 0 then -n else n) < BB ^ 10) (bd:(if d < 0 then -d else d) < BB ^ 10) :
  Calls Tryz.prog 57 #[v,.int .i64 R] w fun e w'=>(∃ T err,e = .returned (.tuple #[.string T,.int .i64 err]) /\ QText R n d T err) /\ Below w.heap.size w w':=by
 obtain ⟨g1,A1,n1,c1,e1,E1,m1,d1,rfl⟩:=h.form
 have hW:=below_alloc w (.cells #[.bool g1,.slice A1 n1 c1,.bool e1,.slice E1 m1 d1] 43)
 have X:=Hd (h.below hW)
 have B0:=Hd (Fx4.new w (.bool g1) (.slice A1 n1 c1) (.bool e1) (.slice E1 m1 d1) 43)
 have HBN:=Hd bn
 have HBD:=Hd bd
 clear h bn bd
 go_enter Tryz.func57,Tryz.ntmps57
 go_wp2_with fail
 refine (rText_all _ n R L _ X.out.parts.1 hL).mono ?_
 rintro e w1 ⟨⟨T1,r1,rfl,ht1⟩,hb⟩
 have hw:=hW.trans (hb.mono hW.size)
 have HT1:=Hd ht1
 have hsz:=ht1.size HBN.out (by omega)
 replace X:=Hd (X.out.below hb)
 replace B0:=Hd (B0.out.below hb)
 clear hb ht1 hW
 rcases HT1.out.err with ⟨rfl,hR1,hR2⟩ | ⟨rfl,hR⟩
 ·obtain ⟨a0,a1,a2,a3,-,-,-,-,-⟩:=B0.out
  go_wp2_with fail
  refine (rWhole_q _ n d L _ X.out (by omega)).mono ?_
  rintro e w2 ⟨rfl,hb⟩
  replace hw:=hw.trans (hb.mono hw.size)
  replace X:=Hd (X.out.below hb)
  replace B0:=Hd (B0.out.below hb)
  clear a0 a1 a2 a3 hb
  by_cases hd1:d = 1
  ·simp only [decide_eq_true hd1]
   go_wp2
   go_ret2
   exact ⟨⟨_,_,rfl,T1,HT1.out,.inl ⟨.inr hd1,rfl⟩⟩,hw⟩
  ·have e2:decide (d = 1) = false:=decide_eq_false hd1
   rw [e2]
   clear e2
   obtain ⟨a0,a1,a2,a3,-,-,-,-,-⟩:=B0.out
   go_wp2_with fail
   refine (rText_all _ d R L _ X.out.parts.2.1 hL).mono ?_
   rintro e w3 ⟨⟨T2,r2,rfl,ht2⟩,hb⟩
   replace hw:=hw.trans (hb.mono hw.size)
   have hsz2:=ht2.size HBD.out (by omega)
   rcases ht2.err with ⟨rfl,_⟩ | ⟨_,hh⟩
   ·have HT2:=Hd ht2
    have s1:∀ w0:World,(Op.stringOp .add T1 ⟨#[47]⟩).run Tryz.prog w0 = _:=fun w0=>run_string_add_sum (P:=Tryz.prog) w0 T1 ⟨#[47]⟩ (by show _ + 1 <= _;omega)
    have s2:∀ w0:World,(Op.stringOp .add (T1 ++ ⟨#[47]⟩) T2).run Tryz.prog w0 = _:=fun w0=>run_string_add_sum (P:=Tryz.prog) w0 (T1 ++ ⟨#[47]⟩) T2 (by rw [ByteArray.size_append];show _ + 1 + _ <= _;omega)
    clear ht2 hb a0 a1 a2 a3
    go_wp2
    go_ret2
    exact ⟨⟨_,_,rfl,T1,HT1.out,.inr ⟨rfl,hd1,T2,HT2.out,rfl⟩⟩,hw⟩
   ·exfalso;omega
 ·go_wp2
  go_ret2
  exact ⟨⟨_,_,rfl,T1,HT1.out,.inl ⟨.inl (by decide),rfl⟩⟩,hw⟩
theorem cut_first {S:ByteArray} {a b:List UInt8} (h:S.data.toList = a ++ 47 :: b) (ha:∀ x ∈ a,x ≠ 47) : bs (topOf S) = a.map (fun b=>(b.toNat:Int)) /\ bs (botOf S) = b.map (fun b=>(b.toNat:Int)) /\ hasBar S = true:=by
 have hi:=index_bar a b ha
 have hc:Lib.cut (a ++ 47 :: b) [47] = (a,b,true):=by
  unfold Lib.cut
  rw [hi,if_pos (Int.natCast_nonneg _)]
  simp
 unfold topOf botOf hasBar
 rw [h,hc,bs_mk,bs_mk]
 exact ⟨rfl,rfl,rfl⟩
theorem first_bar:∀ l:List UInt8,(47:UInt8) ∈ l -> ∃ a b,l = a ++ 47 :: b /\ ∀ x ∈ a,x ≠ 47
 | [],h=>by simp at h
 | c :: l,h=>by
  by_cases hc:c = 47
  ·exact ⟨[],l,by rw [hc];rfl,by simp⟩
  ·have h1:(47:UInt8) ∈ l:=by
    rcases List.mem_cons.1 h with e | e
    ·exact absurd e.symm hc
    ·exact e
   obtain ⟨a,b,e,ha⟩:=first_bar l h1
   refine ⟨c :: a,b,by rw [e];rfl,?_⟩
   intro x hx
   rcases List.mem_cons.1 hx with rfl | hx
   ·exact hc
   ·exact ha x hx
theorem byte47 (b:UInt8) : (b.toNat:Int) = 47 ↔ b = 47:=by
 constructor
 ·intro h
  apply UInt8.toNat_inj.1
  show b.toNat = 47
  omega
 ·intro h;rw [h];rfl
theorem bar_mem {l:List UInt8} : (47:Int) ∈ l.map (fun b=>(b.toNat:Int)) ↔ (47:UInt8) ∈ l:=by
 constructor
 ·intro h
  obtain ⟨b,hb,e⟩:=List.mem_map.1 h
  rw [(byte47 b).1 e] at hb;exact hb
 ·intro h;exact List.mem_map.2 ⟨47,h,rfl⟩
theorem parse_bar {R z e:Int} {cs:List Int} (h0:2 <= R) (h1:R <= 36) (hb:(47:Int) ∈ cs) (h:ParseRel R cs z e) : e = 2 /\ z = 0:=by
 have hbody:(47:Int) ∈ bodyOf cs:=by
  unfold bodyOf
  split
  ·rename_i hh
   cases cs with
   | nil=>simp at hb
   | cons c l=>
    simp at hh hb ⊢
    rcases hb with e | e
    ·omega
    ·exact e
  ·exact hb
 rcases h with ⟨a,_,_⟩ | ⟨_,_,_,a,_,_⟩ | ⟨_,_,_,a,b⟩
 ·omega
 ·have h2:=a 47 hbody
  have h3:digVal 99 47 = 99:=by decide
  omega
 ·exact ⟨b,a⟩
theorem parse_any {R:Int} (cs:List Int) (h0:2 <= R) (h1:R <= 36) : ∃ z e,ParseRel R cs z e:=by
 by_cases h:bodyOf cs ≠ [] /\ AllOk R (bodyOf cs)
 ·exact ⟨_,_,.inr (.inl ⟨h0,h1,h.1,h.2,rfl,rfl⟩)⟩
 ·exact ⟨_,_,.inr (.inr ⟨h0,h1,h,rfl,rfl⟩)⟩
theorem parse_err {R z e:Int} {cs:List Int} (h0:2 <= R) (h1:R <= 36) (h:ParseRel R cs z e) : e = 0 /\ cs ≠ [] \/ e = 2 /\ z = 0:=by
 rcases h with ⟨a,_,_⟩ | ⟨_,_,a,_,_,b⟩ | ⟨_,_,_,a,b⟩
 ·omega
 ·refine .inl ⟨b,?_⟩
  intro e2;rw [e2] at a;exact a rfl
 ·exact .inr ⟨b,a⟩
theorem none_in {S:ByteArray} {R z e:Int} (h0:2 <= R) (h1:R <= 36) (h:∀ j,j < S.size -> (bs S).getD j 0 ≠ 47) (hp:ParseRel R (bs S) z e) : ParseIn R S z 1 e:=by
 have hn:∀ b ∈ S.data.toList,b ≠ 47:=by
  intro b hb e2
  have hm:(47:Int) ∈ bs S:=bar_mem.2 (e2 ▸ hb)
  obtain ⟨j,hj,e3⟩:=List.getElem_of_mem hm
  have hj2:j < S.size:=by rw [<- bs_length];exact hj
  exact h j hj2 (by rw [List.getD,List.getElem?_eq_getElem hj];exact e3)
 obtain ⟨e1,e2⟩:=cut_none hn
 exact ⟨z,e,by rw [e1];exact hp,.inl ⟨.inr e2,rfl,rfl,rfl⟩⟩
theorem bar_in {S:ByteArray} {R z e y f:Int} {k:Nat} (h0:2 <= R) (h1:R <= 36) (hk:k < S.size) (hb:(bs S).getD k 0 = 47) (hp:ParseRel R ((bs S).take k) z e) (hq:ParseRel R ((bs S).drop (k + 1)) y f) :
  ((e ≠ 0 \/ f ≠ 0 \/ ((bs S).drop (k + 1)).headD 0 = 43 \/ ((bs S).drop (k + 1)).headD 0 = 45) -> ParseIn R S 0 1 2) /\
  (¬ (e ≠ 0 \/ f ≠ 0 \/ ((bs S).drop (k + 1)).headD 0 = 43 \/ ((bs S).drop (k + 1)).headD 0 = 45) -> ParseIn R S (newN z y) (newD z y) (divE y)):=by
 have hkl:k < (bs S).length:=by rw [bs_length];exact hk
 by_cases hm:(47:Int) ∈ (bs S).take k
 ·obtain ⟨he,hz⟩:=parse_bar h0 h1 hm hp
  refine ⟨fun _=>?_,fun hh=>absurd (Or.inl (by omega)) hh⟩
  have hmt:(47:UInt8) ∈ S.data.toList.take k:=by
   have e2:(bs S).take k = (S.data.toList.take k).map fun b=>(b.toNat:Int):=by unfold bs;rw [List.map_take]
   rw [e2] at hm;exact bar_mem.1 hm
  obtain ⟨a,b,e3,ha⟩:=first_bar _ hmt
  have e4:S.data.toList = a ++ 47 :: (b ++ S.data.toList.drop k):=by
   have:=List.take_append_drop k S.data.toList
   rw [e3] at this
   exact this.symm.trans (by simp)
  obtain ⟨c1,c2,c3⟩:=cut_first e4 ha
  obtain ⟨z1,r1,hp1⟩:=parse_any (R:=R) (bs (topOf S)) h0 h1
  have hbot:(47:Int) ∈ bs (botOf S):=by
   rw [c2]
   refine bar_mem.2 (List.mem_append_right _ ?_)
   have e5:(bs S).drop k = (S.data.toList.drop k).map fun b=>(b.toNat:Int):=by unfold bs;rw [List.map_drop]
   apply bar_mem.1
   rw [<- e5,List.drop_eq_getElem_cons hkl]
   have e6:(bs S)[k] = 47:=by rw [List.getD,List.getElem?_eq_getElem hkl] at hb;exact hb
   rw [e6];exact List.mem_cons_self ..
  refine ⟨z1,r1,hp1,?_⟩
  rcases parse_err h0 h1 hp1 with ⟨q1,_⟩ | ⟨q1,q2⟩
  ·refine .inr ⟨q1,c3,?_⟩
   by_cases hs:signed47 S
   ·exact .inl ⟨hs,rfl,rfl,rfl⟩
   ·obtain ⟨z2,r2,hp2⟩:=parse_any (R:=R) (bs (botOf S)) h0 h1
    obtain ⟨q3,q4⟩:=parse_bar h0 h1 hbot hp2
    exact .inr ⟨hs,z2,r2,hp2,.inl ⟨by omega,rfl,rfl,q3.symm⟩⟩
  ·exact .inl ⟨.inl (by omega),q2.symm,rfl,q1.symm⟩
 ·have e6:(bs S)[k] = 47:=by rw [List.getD,List.getElem?_eq_getElem hkl] at hb;exact hb
  have hkd:k < S.data.toList.length:=by rw [size_list];exact hk
  have e7:S.data.toList[k] = 47:=by
   apply (byte47 _).1
   have:(bs S)[k] = ((S.data.toList[k]).toNat:Int):=by simp only [bs,List.getElem_map]
   rw [<- this];exact e6
  have e4:S.data.toList = S.data.toList.take k ++ 47 :: S.data.toList.drop (k + 1):=by
   rw [<- e7,<- List.drop_eq_getElem_cons hkd,List.take_append_drop]
  have ha:∀ x ∈ S.data.toList.take k,x ≠ 47:=by
   intro x hx e2
   apply hm
   have e8:(bs S).take k = (S.data.toList.take k).map fun b=>(b.toNat:Int):=by unfold bs;rw [List.map_take]
   rw [e8];exact bar_mem.2 (e2 ▸ hx)
  obtain ⟨c1,c2,c3⟩:=cut_first e4 ha
  have d1:bs (topOf S) = (bs S).take k:=by rw [c1];unfold bs;rw [List.map_take]
  have d2:bs (botOf S) = (bs S).drop (k + 1):=by rw [c2];unfold bs;rw [List.map_drop]
  constructor
  ·intro hbad
   refine ⟨z,e,by rw [d1];exact hp,?_⟩
   rcases parse_err h0 h1 hp with ⟨q1,_⟩ | ⟨q1,q2⟩
   ·refine .inr ⟨q1,c3,?_⟩
    by_cases hs:signed47 S
    ·exact .inl ⟨hs,rfl,rfl,rfl⟩
    ·refine .inr ⟨hs,y,f,by rw [d2];exact hq,.inl ?_⟩
     have hf:f ≠ 0:=by
      rcases hbad with h | h | h
      ·exact absurd q1 h
      ·exact h
      ·exfalso;apply hs;unfold signed47;rw [d2];exact h
     rcases parse_err h0 h1 hq with ⟨q3,_⟩ | ⟨q3,_⟩
     ·exact absurd q3 hf
     ·exact ⟨hf,rfl,rfl,q3.symm⟩
   ·exact .inl ⟨.inl (by omega),q2.symm,rfl,q1.symm⟩
  ·intro hgood
   refine ⟨z,e,by rw [d1];exact hp,.inr ⟨Classical.byContradiction fun h=>hgood (.inl h),c3,.inr ⟨?_,y,f,by rw [d2];exact hq,.inr ⟨Classical.byContradiction fun h=>hgood (.inr (.inl h)),rfl,rfl,rfl⟩⟩⟩⟩
   intro hs
   unfold signed47 at hs
   rw [d2] at hs
   exact hgood (.inr (.inr hs))
theorem ParseIn.det {R n d e n' d' e':Int} {S:ByteArray} (h:ParseIn R S n d e) (g:ParseIn R S n' d' e') : n = n' /\ d = d' /\ e = e':=by
 obtain ⟨z,r,hp,h⟩:=h
 obtain ⟨z',r',gp,g⟩:=g
 obtain ⟨rfl,rfl⟩:=hp.det gp
 rcases h with ⟨a,rfl,rfl,rfl⟩ | ⟨a,b,h⟩ <;> rcases g with ⟨a',rfl,rfl,rfl⟩ | ⟨a',b',g⟩
 ·exact ⟨rfl,rfl,rfl⟩
 ·exfalso;rcases a with a | a
  ·exact a a'
  ·rw [a] at b';cases b'
 ·exfalso;rcases a' with a' | a'
  ·exact a' a
  ·rw [a'] at b;cases b
 ·rcases h with ⟨s,rfl,rfl,rfl⟩ | ⟨s,y,f,hq,h⟩ <;> rcases g with ⟨s',rfl,rfl,rfl⟩ | ⟨s',y',f',gq,g⟩
  ·exact ⟨rfl,rfl,rfl⟩
  ·exact absurd s s'
  ·exact absurd s' s
  ·obtain ⟨rfl,rfl⟩:=hq.det gq
   rcases h with ⟨c,rfl,rfl,rfl⟩ | ⟨c,rfl,rfl,rfl⟩ <;> rcases g with ⟨c',rfl,rfl,rfl⟩ | ⟨c',rfl,rfl,rfl⟩
   ·exact ⟨rfl,rfl,rfl⟩
   ·exact absurd c' c
   ·exact absurd c c'
   ·exact ⟨rfl,rfl,rfl⟩
theorem ParseQ.det {R n d e n' d' e':Int} {S:ByteArray} (h:ParseQ R S n d e) (g:ParseQ R S n' d' e') : n = n' /\ d = d' /\ e = e':=by
 rcases h with ⟨a,rfl,rfl,rfl⟩ | ⟨a,b,rfl,rfl,rfl⟩ | ⟨a,b,h⟩ <;> rcases g with ⟨a',rfl,rfl,rfl⟩ | ⟨a',b',rfl,rfl,rfl⟩ | ⟨a',b',g⟩
 ·exact ⟨rfl,rfl,rfl⟩
 ·omega
 ·omega
 ·omega
 ·exact ⟨rfl,rfl,rfl⟩
 ·omega
 ·omega
 ·omega
 ·exact h.det g
theorem QText.det2 {R n d e1 e2:Int} {S T:ByteArray} (h:QText R n d S e1) (g:QText R n d T e2) : S = T /\ e1 = e2:=by
 refine ⟨h.det g,?_⟩
 obtain ⟨T1,h1,_⟩:=h
 obtain ⟨T2,g1,_⟩:=g
 exact (h1.det g1).2
theorem horner_lt {R:Int} (hR:2 <= R) : ∀ (x:List Int) (a:Int),0 <= a -> AllOk R x -> horner R a x < (a + 1) * R ^ x.length
 | [],a,_,_=>by simp [horner];omega
 | c :: x,a,ha,h=>by
  have hc:=h c (List.mem_cons_self ..)
  have h0:=digVal_nonneg (bad:=99) (c:=c) (by decide)
  have h1:0 <= a * R:=Int.mul_nonneg ha (by omega)
  have ih:=horner_lt hR x (a * R + digVal 99 c) (by omega) (fun y hy=>h y (List.mem_cons_of_mem _ hy))
  show horner R (a * R + digVal 99 c) x < _
  have h2:(a * R + digVal 99 c + 1) * R ^ x.length <= ((a + 1) * R) * R ^ x.length:=by
   refine Int.mul_le_mul_of_nonneg_right ?_ (Int.le_of_lt (Int.pow_pos (by omega)))
   rw [Int.add_mul,Int.one_mul];omega
  have h3:(a + 1) * R ^ (c :: x).length = ((a + 1) * R) * R ^ x.length:=by rw [List.length_cons,Int.pow_succ,Int.mul_comm (R ^ x.length) R,<- Int.mul_assoc]
  rw [h3];omega
theorem big36:(36:Nat) ^ 150 < 65536 ^ 50:=by decide
theorem parse_bound {R z e:Int} {cs:List Int} (h0:2 <= R) (h1:R <= 36) (h:ParseRel R cs z e) (hl:cs.length <= 150) : (z.natAbs:Int) < 65536 ^ 50:=by
 have hpos:(0:Int) < 65536 ^ 50:=Int.pow_pos (by decide)
 rcases h with ⟨_,rfl,_⟩ | ⟨_,_,_,a,rfl,_⟩ | ⟨_,_,_,rfl,_⟩
 ·exact hpos
 ·have hb:(bodyOf cs).length <= 150:=by
   unfold bodyOf;split
   ·rw [List.length_tail];omega
   ·exact hl
  have h2:=horner_lt h0 (bodyOf cs) 0 (by decide) a
  have h3:=horner_nonneg (R:=R) (a:=0) (by omega) (by decide) (bodyOf cs)
  rw [Int.zero_add,Int.one_mul] at h2
  generalize horner R 0 (bodyOf cs) = hh at *
  have h4:((withSign (decide (cs.headD 0 = 45)) hh).natAbs:Int) = hh:=by unfold withSign;split <;> omega
  rw [h4]
  obtain ⟨r,rfl⟩ : ∃ r:Nat,R = (r:Int):=⟨R.toNat,by omega⟩
  have h5:r ^ (bodyOf cs).length <= 36 ^ 150:=Nat.le_trans (Nat.pow_le_pow_left (by omega) _) (Nat.pow_le_pow_right (by decide) hb)
  have h6:=Nat.lt_of_le_of_lt h5 big36
  obtain ⟨B,hB⟩ : ∃ B:Nat,65536 = B:=⟨_,rfl⟩
  have hc:(65536:Int) = (B:Int):=by omega
  rw [hB] at h6
  rw [hc]
  have h7:(r:Int) ^ (bodyOf cs).length < (B:Int) ^ 50:=by exact_mod_cast h6
  omega
 ·exact hpos
def MCell (M:Int) (w:World) : Prop:=w.cell? ⟨0,0,none⟩ = some (.int .i64 M)
theorem MCell.below {w w':World} {M:Int} (h:MCell M w) (hb:Below w.heap.size w w') : MCell M w':=(hb.cell (p:=⟨0,0,none⟩) (World.block_lt_of_cell? _ _ h)).trans h
theorem awake_m (w:World) (M:Int) (h:MCell M w) : Calls Tryz.prog 14 #[] w fun e w'=>e = .returned (.bool true) /\ Below w.heap.size w w':=awake_any w M h
theorem lensQ1 (w:World) {g:Nat} (hg:w.heap.size = g) (p0 p1:Bool) (A0 A1:Option Addr) (n0 n1 c0 c1:Nat) :
  LensQ (w.alloc (.cells #[.bool p0,.slice A0 n0 c0,.bool p1,.slice A1 n1 c1] 26)) g 1 [(n0,n1)]:=by
 subst hg
 refine ⟨rfl,by simp,fun i hi=>?_⟩
 match i,hi with
 | 0,_=>exact ⟨p0,A0,c0,p1,A1,c1,World.cell?_alloc_at _ _ _ _ rfl,World.cell?_alloc_at _ _ _ _ rfl,World.cell?_alloc_at _ _ _ _ rfl,World.cell?_alloc_at _ _ _ _ rfl⟩
theorem Fx4.new1 (w:World) (v0 v1 v2 v3:Value) (t:TypeId) (o:Obj) : Fx4 ((w.alloc (.cells #[v0,v1,v2,v3] t)).alloc o) w.heap.size v0 v1 v2 v3:=(Fx4.new w v0 v1 v2 v3 t).below (below_alloc _ _)
theorem Fx4.new2 (w:World) (v0 v1 v2 v3:Value) (t:TypeId) (C:Array Value) (s:TypeId) : Fx4 ((w.alloc (.cells C s)).alloc (.cells #[v0,v1,v2,v3] t)) (w.heap.size + 1) v0 v1 v2 v3:=by
 have h:=Fx4.new (w.alloc (.cells C s)) v0 v1 v2 v3 t
 rw [show (w.alloc (.cells C s)).heap.size = w.heap.size + 1 from by simp] at h
 exact h
theorem rOf_rat (u:Value) (x:Int) (L:Nat) (w:World) (h:Rval w u x L) (hL:L <= 64) :
  Calls Tryz.prog 21 #[u] w (RQRes 64 x 1 w):=
 (rOf_any u x L w h).mono fun _ _ ⟨⟨g1,A1,n1,c1,g2,A2,n2,c2,he,hv,ho⟩,hb⟩=>⟨⟨g1,A1,n1,c1,g2,A2,n2,c2,he,RQ.mk' (hv.mono hL) ho (by decide) (Int.gcd_one_right ..)⟩,hb⟩
def BarAt (S:ByteArray) (i:Nat) (a:Int) : Prop:=(a = -1 /\ ∀ j,j < i -> (bs S).getD j 0 ≠ 47) \/ (∃ k:Nat,a = (k:Int) /\ k < i /\ (bs S).getD k 0 = 47)
theorem bs_to (S:ByteArray) (k:Nat) (_h:k <= S.size) : bs (S.extract 0 k) = (bs S).take k:=by
 unfold bs
 rw [ByteArray.data_extract,Array.toList_extract,<- List.map_take]
 simp [List.extract]
theorem meas (n i:Nat) (x:Value) (hx:x = .int .i64 (((i + 1:Nat)) : Int)) (h:i < n) : n - (intOf x).toNat < n - (intOf (.int .i64 (i:Int))).toNat:=by
 subst hx
 show n - (((i + 1:Nat) : Int)).toNat < n - ((i:Nat) : Int).toNat
 rw [Int.toNat_natCast,Int.toNat_natCast]
 omega
def RParsedQ (R:Int) (S:ByteArray) (w:World) (e:Ending) (w':World) : Prop:=∃ n d err,ParseQ R S n d err /\ RQErr 200 n d err w e w'
theorem rParse_q (S:ByteArray) (R:Int) (w:World) (hS:S.size <= 150) :
  Calls Tryz.prog 59 #[.string S,.int .i64 R] w (RParsedQ R S w):=by
 have hw:=below_alloc w (.cells #[.bool false,.slice none 0 0,.bool false,.slice none 0 0] 43)
 have BR:=Hd (Fx4.new w (.bool false) (.slice none 0 0) (.bool false) (.slice none 0 0) 43)
 obtain ⟨W0,hW0⟩ : ∃ W0,w.alloc (.cells #[.bool false,.slice none 0 0,.bool false,.slice none 0 0] 43) = W0:=⟨_,rfl⟩
 rw [hW0] at hw BR
 have HS:=Hd hS
 have hlen:¬ (20000:Int) < (S.size:Int):=by omega
 have HL:=Hd hlen
 clear hS hlen
 go_enter Tryz.func59,Tryz.ntmps59
 go_upto_region 1 with fail
 clear hW0
 by_cases hlow:R < 2
 ·as_aux_lemma=>
   go_upto_region 2 with fail
   have HLO:=Hd hlow
   clear hlow
   go_wp2_with fail
   refine (rInt_any 0 _ (by decide) (by decide)).mono ?_
   rintro e wz ⟨⟨y1,y2,y3,y4,y5,y6,y7,y8,rfl,hz,ho⟩,hb⟩
   replace BR:=Hd (BR.out.below hb)
   replace hw:=hw.trans (hb.mono hw.size)
   have HZ:=Hd hz
   have HO1:=Hd ho
   clear hz ho hb
   obtain ⟨r0,r1,r2,r3,r4,r5,r6,r7,r8⟩:=BR.out
   go_wp2
   exact bodyPost_ret (v:=.tuple #[.agg #[.bool y1,.slice y2 y3 y4,.bool y5,.slice y6 y7 y8],.int .i64 1]) (by simp [results,Tryz.results59,go_sem,r0,r1,r2,r3]) rfl ⟨0,1,1,.inl ⟨.inl HLO.out,rfl,rfl,rfl⟩,⟨y1,y2,y3,y4,y5,y6,y7,y8,rfl,(RQ.mk' (HZ.out.mono (by omega)) (HO1.out.mono (by omega)) (by decide) (by decide)).put4 BR.out _ _ _ _⟩,below_put4 hw (by omega) _ _ _ _⟩
 by_cases hhi:36 < R
 ·as_aux_lemma=>
   go_upto_region 2 with fail
   have HHI:=Hd hhi
   clear hlow hhi
   go_wp2_with fail
   refine (rInt_any 0 _ (by decide) (by decide)).mono ?_
   rintro e wz ⟨⟨y1,y2,y3,y4,y5,y6,y7,y8,rfl,hz,ho⟩,hb⟩
   replace BR:=Hd (BR.out.below hb)
   replace hw:=hw.trans (hb.mono hw.size)
   have HZ:=Hd hz
   have HO1:=Hd ho
   clear hz ho hb
   obtain ⟨r0,r1,r2,r3,r4,r5,r6,r7,r8⟩:=BR.out
   go_wp2
   exact bodyPost_ret (v:=.tuple #[.agg #[.bool y1,.slice y2 y3 y4,.bool y5,.slice y6 y7 y8],.int .i64 1]) (by simp [results,Tryz.results59,go_sem,r0,r1,r2,r3]) rfl ⟨0,1,1,.inl ⟨.inr HHI.out,rfl,rfl,rfl⟩,⟨y1,y2,y3,y4,y5,y6,y7,y8,rfl,(RQ.mk' (HZ.out.mono (by omega)) (HO1.out.mono (by omega)) (by decide) (by decide)).put4 BR.out _ _ _ _⟩,below_put4 hw (by omega) _ _ _ _⟩
 have HR:=Hd (show 2 <= R /\ R <= 36 by omega)
 have hlen:=HL.out
 go_upto_region 5 with fail
 clear hlow hhi hlen HL
 go_wp2_with fail
 go_loopw [6,7] (fun av iv wr=>∃ (i:Nat) (a:Int),iv = .int .i64 i /\ av = .int .i64 a /\ i <= S.size /\ Hid (BarAt S i a) /\ wr = W0) (fun _ iv _=>S.size - (intOf iv).toNat)
 case atStart=>exact ⟨0,-1,rfl,rfl,Nat.zero_le _,Hd (Or.inl ⟨rfl,fun j hj=>absurd hj (Nat.not_lt_zero _)⟩),by first | rfl | trivial⟩
 case round=>
  obtain ⟨i,a,rfl,rfl,hi,HA,rfl⟩:=hrel
  by_cases hlt:i < S.size
  ·as_aux_lemma=>
    have hwi:wrap64 ((i:Int) + 1) = (i:Int) + 1:=by unfold wrap64;have:=HS.out;omega
    have hib:(i:Int) < (S.size:Int):=by omega
    have hbj:=bs_byte S i hlt
    obtain ⟨c,hc⟩ : ∃ c,((S[i].toNat:Int)) = c:=⟨_,rfl⟩
    have HC:=Hd (show (bs S).getD i 0 = c by rw [bs_get S i hlt,hc])
    rw [hc] at hbj
    by_cases h47:c = 47
    ·as_aux_lemma=>
      rw [h47] at hc
      have H47:=Hd h47
      clear h47 hbj
      go_wp2_with fail
      exact ⟨⟨i + 1,i,by go_num,rfl,hlt,Hd (Or.inr ⟨i,rfl,Nat.lt_succ_self i,HC.out.trans H47.out⟩),by first | rfl | trivial⟩,meas S.size i _ (by go_num) hlt⟩
    ·as_aux_lemma=>
      have hcf:(c == 47) = false:=by simpa using h47
      have H47:=Hd h47
      clear h47 hbj
      go_wp2_with fail
      refine ⟨⟨i + 1,a,by go_num,rfl,hlt,Hd ?_,by first | rfl | trivial⟩,meas S.size i _ (by go_num) hlt⟩
      rcases HA.out with ⟨h1,h2⟩ | ⟨k,h1,h2,h3⟩
      ·refine Or.inl ⟨h1,fun j hj=>?_⟩
       by_cases hji:j = i
       ·rw [hji,HC.out];exact H47.out
       ·exact h2 j (by omega)
      ·exact Or.inr ⟨k,h1,by omega,h3⟩
  have hiN:i = S.size:=by omega
  subst hiN
  have hib:¬ ((S.size:Int) < (S.size:Int)):=by omega
  clear hlt hi
  rcases HA.out with ⟨rfl,hno⟩ | ⟨k,rfl,hk,hbk⟩
  ·as_aux_lemma=>
    have HNO:=Hd hno
    clear hno HA
    go_upto_region 12 with fail
    clear hib
    go_wp2_with fail
    refine (rParse_any S R _ (by have:=HS.out;omega)).mono ?_
    rintro e w1 ⟨g8,A8,n8,o8,z,er,rfl,hz,hp,hb⟩
    replace hz:=hz.tight (parse_bound HR.out.1 HR.out.2 hp (by rw [bs_length];exact HS.out))
    have HP:=Hd hp
    clear hp
    replace BR:=Hd (BR.out.below hb)
    replace hw:=hw.trans (hb.mono hw.size)
    have T1:=Hd hz
    clear hb hz
    have hX:=below_alloc w1 (.cells #[.bool g8,.slice A8 n8 o8] 34)
    replace BR:=Hd (BR.out.below hX)
    replace T1:=Hd (T1.out.below hX)
    replace hw:=hw.trans (hX.mono hw.size)
    have B8:=Hd (Fx.new w1 (.bool g8) (.slice A8 n8 o8) 34)
    skip
    clear hX
    have hq:=none_in HR.out.1 HR.out.2 HNO.out HP.out
    have HQ:=Hd hq
    clear hq
    rcases parse_err HR.out.1 HR.out.2 HP.out with ⟨rfl,-⟩ | ⟨rfl,rfl⟩
    ·as_aux_lemma=>
      go_upto_region 15 with fail
      generalize w1.alloc (.cells #[.bool g8,.slice A8 n8 o8] 34) = W8 at *
      generalize w1.heap.size = k8 at *
      obtain ⟨c80,c81,f80,f81,s8⟩:=B8.out
      go_wp2_with fail
      refine (rOf_rat _ z 50 _ T1.out (by decide)).mono ?_
      rintro e w2 ⟨⟨y1,y2,y3,y4,y5,y6,y7,y8,rfl,hz⟩,hb⟩
      clear c80 c81 f80 f81 s8
      replace BR:=Hd (BR.out.below hb)
      replace B8:=Hd (B8.out.below hb)
      replace T1:=Hd (T1.out.below hb)
      replace hw:=hw.trans (hb.mono hw.size)
      have T2:=Hd hz
      clear hb hz
      obtain ⟨r0,r1,r2,r3,r4,r5,r6,r7,r8⟩:=BR.out
      go_wp2
      exact bodyPost_ret (v:=.tuple #[.agg #[.bool y1,.slice y2 y3 y4,.bool y5,.slice y6 y7 y8],.int .i64 0]) (by simp [results,Tryz.results59,go_sem,r0,r1,r2,r3]) rfl ⟨z,1,0,.inr (.inr ⟨HR.out,by have:=HS.out;omega,HQ.out⟩),⟨y1,y2,y3,y4,y5,y6,y7,y8,rfl,(T2.out.mono (by omega)).put4 BR.out _ _ _ _⟩,below_put4 hw (by omega) _ _ _ _⟩
    ·as_aux_lemma=>
      go_upto_region 14 with fail
      generalize w1.alloc (.cells #[.bool g8,.slice A8 n8 o8] 34) = W8 at *
      generalize w1.heap.size = k8 at *
      go_wp2_with fail
      refine (rInt_any 0 _ (by decide) (by decide)).mono ?_
      rintro e wz ⟨⟨y1,y2,y3,y4,y5,y6,y7,y8,rfl,hz,ho⟩,hb⟩
      replace BR:=Hd (BR.out.below hb)
      replace hw:=hw.trans (hb.mono hw.size)
      have HZ:=Hd hz
      have HO1:=Hd ho
      clear hz ho hb
      obtain ⟨r0,r1,r2,r3,r4,r5,r6,r7,r8⟩:=BR.out
      go_wp2
      exact bodyPost_ret (v:=.tuple #[.agg #[.bool y1,.slice y2 y3 y4,.bool y5,.slice y6 y7 y8],.int .i64 2]) (by simp [results,Tryz.results59,go_sem,r0,r1,r2,r3]) rfl ⟨0,1,2,.inr (.inr ⟨HR.out,by have:=HS.out;omega,HQ.out⟩),⟨y1,y2,y3,y4,y5,y6,y7,y8,rfl,(RQ.mk' (HZ.out.mono (by omega)) (HO1.out.mono (by omega)) (by decide) (by decide)).put4 BR.out _ _ _ _⟩,below_put4 hw (by omega) _ _ _ _⟩
  ·as_aux_lemma=>
    obtain ⟨j,hj⟩ : ∃ j,k + 1 = j:=⟨_,rfl⟩
    have hkS:(k:Int) <= (S.size:Int):=by omega
    have hk0:¬ (k:Int) < 0:=by omega
    have hwj:IntKind.i64.wrap ((k:Int) + 1) = (j:Int):=by have:=HS.out;rw [IntKind.wrap_i64];omega
    have hjS:(j:Int) <= (S.size:Int):=by omega
    obtain ⟨T1,hT1⟩ : ∃ T1,S.extract 0 k = T1:=⟨_,rfl⟩
    obtain ⟨T2,hT2⟩ : ∃ T2,S.extract j S.size = T2:=⟨_,rfl⟩
    have HT1:=Hd (show bs T1 = (bs S).take k from by rw [<- hT1];exact bs_to S k (by omega))
    have HT2:=Hd (show bs T2 = (bs S).drop (k + 1) from by rw [<- hT2,hj];exact bs_from S j (by omega))
    have HL1:=Hd (show T1.size <= 150 from by rw [<- bs_length,HT1.out,List.length_take,bs_length];have:=HS.out;omega)
    have HL2:=Hd (show T2.size <= 150 from by rw [<- bs_length,HT2.out,List.length_drop,bs_length];have:=HS.out;omega)
    have HJ:=Hd hj
    have HK:=Hd (And.intro hk hbk)
    clear hj hk hbk HA
    go_upto_region 16 with fail
    clear hib
    go_wp2_with fail
    refine (rParse_any T1 R _ (by have:=HL1.out;omega)).mono ?_
    rintro e w1 ⟨g8,A8,n8,o8,z,er,rfl,hz,hp,hb⟩
    replace hz:=hz.tight (parse_bound HR.out.1 HR.out.2 hp (by rw [bs_length];exact HL1.out))
    rw [HT1.out] at hp
    have HP:=Hd hp
    clear hp
    replace BR:=Hd (BR.out.below hb)
    replace hw:=hw.trans (hb.mono hw.size)
    have V8:=Hd hz
    clear hb hz
    have hX:=below_alloc w1 (.cells #[.bool g8,.slice A8 n8 o8] 34)
    replace BR:=Hd (BR.out.below hX)
    replace V8:=Hd (V8.out.below hX)
    replace hw:=hw.trans (hX.mono hw.size)
    have B8:=Hd (Fx.new w1 (.bool g8) (.slice A8 n8 o8) 34)
    skip
    clear hX
    go_upto_region 17 with fail
    generalize w1.alloc (.cells #[.bool g8,.slice A8 n8 o8] 34) = W8 at *
    generalize w1.heap.size = k8 at *
    go_wp2_with fail
    refine (rParse_any T2 R _ (by have:=HL2.out;omega)).mono ?_
    rintro e w2 ⟨g9,A9,n9,o9,y,fr,rfl,hz,hp,hb⟩
    replace hz:=hz.tight (parse_bound HR.out.1 HR.out.2 hp (by rw [bs_length];exact HL2.out))
    rw [HT2.out] at hp
    have HPY:=Hd hp
    clear hp
    replace BR:=Hd (BR.out.below hb)
    replace B8:=Hd (B8.out.below hb)
    replace V8:=Hd (V8.out.below hb)
    replace hw:=hw.trans (hb.mono hw.size)
    have V9:=Hd hz
    clear hb hz
    have hX:=below_alloc w2 (.cells #[.bool g9,.slice A9 n9 o9] 34)
    replace BR:=Hd (BR.out.below hX)
    replace B8:=Hd (B8.out.below hX)
    replace V8:=Hd (V8.out.below hX)
    replace V9:=Hd (V9.out.below hX)
    replace hw:=hw.trans (hX.mono hw.size)
    have B9:=Hd (Fx.new w2 (.bool g9) (.slice A9 n9 o9) 34)
    skip
    clear hX
    have HIN:=Hd (bar_in HR.out.1 HR.out.2 HK.out.1 HK.out.2 HP.out HPY.out)
    rcases parse_err HR.out.1 HR.out.2 HP.out with ⟨rfl,-⟩ | ⟨rfl,-⟩
    ·as_aux_lemma=>
      rcases parse_err HR.out.1 HR.out.2 HPY.out with ⟨rfl,hne⟩ | ⟨rfl,-⟩
      ·as_aux_lemma=>
        have hjlt:j < S.size:=by
         have h1:((bs S).drop (k + 1)).length ≠ 0:=fun h=>hne (List.eq_nil_of_length_eq_zero h)
         rw [List.length_drop,bs_length,HJ.out] at h1;omega
        have hjI:(j:Int) < (S.size:Int):=by omega
        have hbj:=bs_byte S j hjlt
        obtain ⟨c,hc⟩ : ∃ c,((S[j].toNat:Int)) = c:=⟨_,rfl⟩
        have HC:=Hd (show ((bs S).drop (k + 1)).headD 0 = c from by rw [HJ.out,List.headD_eq_head?_getD,List.head?_drop,<- List.getD_eq_getElem?_getD,bs_get S j hjlt,hc])
        rw [hc] at hbj
        clear hne
        by_cases h43:c = 43
        ·as_aux_lemma=>
          rw [h43] at hc
          have HBAD:=Hd (HIN.out.1 (.inr (.inr (.inl (HC.out.trans h43)))))
          clear h43 hbj
          go_upto_region 19 with fail
          generalize w2.alloc (.cells #[.bool g9,.slice A9 n9 o9] 34) = W9 at *
          generalize w2.heap.size = k9 at *
          go_wp2_with fail
          refine (rInt_any 0 _ (by decide) (by decide)).mono ?_
          rintro e wz ⟨⟨y1,y2,y3,y4,y5,y6,y7,y8,rfl,hz,ho⟩,hb⟩
          replace BR:=Hd (BR.out.below hb)
          replace hw:=hw.trans (hb.mono hw.size)
          have HZ:=Hd hz
          have HO1:=Hd ho
          clear hz ho hb
          obtain ⟨r0,r1,r2,r3,r4,r5,r6,r7,r8⟩:=BR.out
          go_wp2
          exact bodyPost_ret (v:=.tuple #[.agg #[.bool y1,.slice y2 y3 y4,.bool y5,.slice y6 y7 y8],.int .i64 2]) (by simp [results,Tryz.results59,go_sem,r0,r1,r2,r3]) rfl ⟨0,1,2,.inr (.inr ⟨HR.out,by have:=HS.out;omega,HBAD.out⟩),⟨y1,y2,y3,y4,y5,y6,y7,y8,rfl,(RQ.mk' (HZ.out.mono (by omega)) (HO1.out.mono (by omega)) (by decide) (by decide)).put4 BR.out _ _ _ _⟩,below_put4 hw (by omega) _ _ _ _⟩
        by_cases h45:c = 45
        ·as_aux_lemma=>
          rw [h45] at hc
          have HBAD:=Hd (HIN.out.1 (.inr (.inr (.inr (HC.out.trans h45)))))
          clear h43 h45 hbj
          go_upto_region 19 with fail
          generalize w2.alloc (.cells #[.bool g9,.slice A9 n9 o9] 34) = W9 at *
          generalize w2.heap.size = k9 at *
          go_wp2_with fail
          refine (rInt_any 0 _ (by decide) (by decide)).mono ?_
          rintro e wz ⟨⟨y1,y2,y3,y4,y5,y6,y7,y8,rfl,hz,ho⟩,hb⟩
          replace BR:=Hd (BR.out.below hb)
          replace hw:=hw.trans (hb.mono hw.size)
          have HZ:=Hd hz
          have HO1:=Hd ho
          clear hz ho hb
          obtain ⟨r0,r1,r2,r3,r4,r5,r6,r7,r8⟩:=BR.out
          go_wp2
          exact bodyPost_ret (v:=.tuple #[.agg #[.bool y1,.slice y2 y3 y4,.bool y5,.slice y6 y7 y8],.int .i64 2]) (by simp [results,Tryz.results59,go_sem,r0,r1,r2,r3]) rfl ⟨0,1,2,.inr (.inr ⟨HR.out,by have:=HS.out;omega,HBAD.out⟩),⟨y1,y2,y3,y4,y5,y6,y7,y8,rfl,(RQ.mk' (HZ.out.mono (by omega)) (HO1.out.mono (by omega)) (by decide) (by decide)).put4 BR.out _ _ _ _⟩,below_put4 hw (by omega) _ _ _ _⟩
        ·as_aux_lemma=>
          have hc3:(c == 43) = false:=by simpa using h43
          have hc5:(c == 45) = false:=by simpa using h45
          have HGOOD:=Hd (HIN.out.2 (by rw [HC.out];rintro (h | h | h | h);exact h rfl;exact h rfl;exact h43 h;exact h45 h))
          clear h43 h45 hbj
          go_upto_region 20 with fail
          generalize w2.alloc (.cells #[.bool g9,.slice A9 n9 o9] 34) = W9 at *
          generalize w2.heap.size = k9 at *
          obtain ⟨c80,c81,f80,f81,s8⟩:=B8.out
          obtain ⟨c90,c91,f90,f91,s9⟩:=B9.out
          go_wp2_with fail
          refine (rNew_any _ _ z y 50 _ V8.out V9.out (by decide)).mono ?_
          rintro e w3 ⟨⟨y1,y2,y3,y4,y5,y6,y7,y8,rfl,hz⟩,hb⟩
          clear c80 c81 f80 f81 s8
          clear c90 c91 f90 f91 s9
          replace BR:=Hd (BR.out.below hb)
          replace B8:=Hd (B8.out.below hb)
          replace B9:=Hd (B9.out.below hb)
          replace V8:=Hd (V8.out.below hb)
          replace V9:=Hd (V9.out.below hb)
          replace hw:=hw.trans (hb.mono hw.size)
          have T3:=Hd hz
          clear hb hz
          obtain ⟨r0,r1,r2,r3,r4,r5,r6,r7,r8⟩:=BR.out
          go_wp2
          exact bodyPost_ret (v:=.tuple #[.agg #[.bool y1,.slice y2 y3 y4,.bool y5,.slice y6 y7 y8],.int .i64 (divE y)]) (by simp [results,Tryz.results59,go_sem,r0,r1,r2,r3]) rfl ⟨newN z y,newD z y,divE y,.inr (.inr ⟨HR.out,by have:=HS.out;omega,HGOOD.out⟩),⟨y1,y2,y3,y4,y5,y6,y7,y8,rfl,(T3.out.mono (by omega)).put4 BR.out _ _ _ _⟩,below_put4 hw (by omega) _ _ _ _⟩
      ·as_aux_lemma=>
        have HBAD:=Hd (HIN.out.1 (.inr (.inl (by decide))))
        go_upto_region 19 with fail
        generalize w2.alloc (.cells #[.bool g9,.slice A9 n9 o9] 34) = W9 at *
        generalize w2.heap.size = k9 at *
        go_wp2_with fail
        refine (rInt_any 0 _ (by decide) (by decide)).mono ?_
        rintro e wz ⟨⟨y1,y2,y3,y4,y5,y6,y7,y8,rfl,hz,ho⟩,hb⟩
        replace BR:=Hd (BR.out.below hb)
        replace hw:=hw.trans (hb.mono hw.size)
        have HZ:=Hd hz
        have HO1:=Hd ho
        clear hz ho hb
        obtain ⟨r0,r1,r2,r3,r4,r5,r6,r7,r8⟩:=BR.out
        go_wp2
        exact bodyPost_ret (v:=.tuple #[.agg #[.bool y1,.slice y2 y3 y4,.bool y5,.slice y6 y7 y8],.int .i64 2]) (by simp [results,Tryz.results59,go_sem,r0,r1,r2,r3]) rfl ⟨0,1,2,.inr (.inr ⟨HR.out,by have:=HS.out;omega,HBAD.out⟩),⟨y1,y2,y3,y4,y5,y6,y7,y8,rfl,(RQ.mk' (HZ.out.mono (by omega)) (HO1.out.mono (by omega)) (by decide) (by decide)).put4 BR.out _ _ _ _⟩,below_put4 hw (by omega) _ _ _ _⟩
    ·as_aux_lemma=>
      have HBAD:=Hd (HIN.out.1 (.inl (by decide)))
      go_upto_region 19 with fail
      generalize w2.alloc (.cells #[.bool g9,.slice A9 n9 o9] 34) = W9 at *
      generalize w2.heap.size = k9 at *
      go_wp2_with fail
      refine (rInt_any 0 _ (by decide) (by decide)).mono ?_
      rintro e wz ⟨⟨y1,y2,y3,y4,y5,y6,y7,y8,rfl,hz,ho⟩,hb⟩
      replace BR:=Hd (BR.out.below hb)
      replace hw:=hw.trans (hb.mono hw.size)
      have HZ:=Hd hz
      have HO1:=Hd ho
      clear hz ho hb
      obtain ⟨r0,r1,r2,r3,r4,r5,r6,r7,r8⟩:=BR.out
      go_wp2
      exact bodyPost_ret (v:=.tuple #[.agg #[.bool y1,.slice y2 y3 y4,.bool y5,.slice y6 y7 y8],.int .i64 2]) (by simp [results,Tryz.results59,go_sem,r0,r1,r2,r3]) rfl ⟨0,1,2,.inr (.inr ⟨HR.out,by have:=HS.out;omega,HBAD.out⟩),⟨y1,y2,y3,y4,y5,y6,y7,y8,rfl,(RQ.mk' (HZ.out.mono (by omega)) (HO1.out.mono (by omega)) (by decide) (by decide)).put4 BR.out _ _ _ _⟩,below_put4 hw (by omega) _ _ _ _⟩
end Go.Proofs.YtbajnceoolkckaaGreat
