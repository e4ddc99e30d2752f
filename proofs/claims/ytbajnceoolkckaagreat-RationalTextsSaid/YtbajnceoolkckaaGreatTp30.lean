/- Of the proof of RationalTexts: RatR. -/
import Derived.Test.YtbajnceoolkckaaGreatTp29
open Go.Lib renaming hid → Hd
set_option maxRecDepth 100000
set_option maxHeartbeats 16000000
namespace Go.Proofs.YtbajnceoolkckaaGreat
open Go.RowKit LM
theorem top_a:bs (topOf ⟨#[43,48,54,47,52]⟩) = [43,48,54]:=by kernel_rfl
theorem bot_a:bs (botOf ⟨#[43,48,54,47,52]⟩) = [52]:=by kernel_rfl
theorem bar_a:hasBar ⟨#[43,48,54,47,52]⟩ = true:=by kernel_rfl
theorem top_b:bs (topOf ⟨#[51,49,47,49,48,48]⟩) = [51,49]:=by kernel_rfl
theorem bot_b:bs (botOf ⟨#[51,49,47,49,48,48]⟩) = [49,48,48]:=by kernel_rfl
theorem bar_b:hasBar ⟨#[51,49,47,49,48,48]⟩ = true:=by kernel_rfl
theorem top_c:bs (topOf ⟨#[51,50,47,49,48,48]⟩) = [51,50]:=by kernel_rfl
theorem bot_c:bs (botOf ⟨#[51,50,47,49,48,48]⟩) = [49,48,48]:=by kernel_rfl
theorem bar_c:hasBar ⟨#[51,50,47,49,48,48]⟩ = true:=by kernel_rfl
theorem parse_lit {S:ByteArray} {n d err z y:Int} (hsz:S.size <= 20000) (hb:hasBar S = true) (h1:ParseRel 10 (bs (topOf S)) z 0) (h2:ParseRel 10 (bs (botOf S)) y 0) (hs:¬ signed47 S) (h:ParseQ 10 S n d err) : n = newN z y /\ d = newD z y /\ err = divE y:=by
 rcases h with ⟨h,_⟩ | ⟨_,h,_⟩ | ⟨_,_,z',e1,hp,h⟩
 ·omega
 ·omega
 ·obtain ⟨rfl,rfl⟩:=hp.det h1
  rcases h with ⟨h | h,_⟩ | ⟨_,_,⟨h,_⟩ | ⟨_,y',e2,hq,h⟩⟩
  ·exact absurd rfl h
  ·rw [hb] at h;cases h
  ·exact absurd h hs
  ·obtain ⟨rfl,rfl⟩:=hq.det h2
   rcases h with ⟨h,_⟩ | ⟨_,h⟩
   ·exact absurd rfl h
   ·exact h
theorem parse_a {n d err:Int} (h:ParseQ 10 ⟨#[43,48,54,47,52]⟩ n d err) : n = 3 /\ d = 2 /\ err = 0:=by
 have:=parse_lit (z:=6) (y:=4) (by decide) bar_a (by rw [top_a];exact Or.inr (Or.inl ⟨by decide,by decide,by decide,by unfold AllOk;decide,by decide,rfl⟩)) (by rw [bot_a];exact Or.inr (Or.inl ⟨by decide,by decide,by decide,by unfold AllOk;decide,by decide,rfl⟩)) (by unfold signed47;rw [bot_a];decide) h
 rw [show newN 6 4 = 3 from by decide,show newD 6 4 = 2 from by decide,show divE 4 = 0 from by decide] at this
 exact this
theorem parse_b {n d err:Int} (h:ParseQ 10 ⟨#[51,49,47,49,48,48]⟩ n d err) : n = 31 /\ d = 100 /\ err = 0:=by
 have:=parse_lit (z:=31) (y:=100) (by decide) bar_b (by rw [top_b];exact Or.inr (Or.inl ⟨by decide,by decide,by decide,by unfold AllOk;decide,by decide,rfl⟩)) (by rw [bot_b];exact Or.inr (Or.inl ⟨by decide,by decide,by decide,by unfold AllOk;decide,by decide,rfl⟩)) (by unfold signed47;rw [bot_b];decide) h
 rw [show newN 31 100 = 31 from by decide,show newD 31 100 = 100 from by decide,show divE 100 = 0 from by decide] at this
 exact this
theorem parse_c {n d err:Int} (h:ParseQ 10 ⟨#[51,50,47,49,48,48]⟩ n d err) : n = 8 /\ d = 25 /\ err = 0:=by
 have:=parse_lit (z:=32) (y:=100) (by decide) bar_c (by rw [top_c];exact Or.inr (Or.inl ⟨by decide,by decide,by decide,by unfold AllOk;decide,by decide,rfl⟩)) (by rw [bot_c];exact Or.inr (Or.inl ⟨by decide,by decide,by decide,by unfold AllOk;decide,by decide,rfl⟩)) (by unfold signed47;rw [bot_c];decide) h
 rw [show newN 32 100 = 8 from by decide,show newD 32 100 = 25 from by decide,show divE 100 = 0 from by decide] at this
 exact this
theorem text_lit {n d:Int} {T T1 T2:ByteArray} {err:Int} (hd:d ≠ 1) (h1:TextRel 10 n T1 0) (h2:TextRel 10 d T2 0) (h:QText 10 n d T err) : T = T1 ++ ⟨#[47]⟩ ++ T2 /\ err = 0:=by
 obtain ⟨T1',hr,h⟩:=h
 obtain ⟨rfl,rfl⟩:=hr.det h1
 rcases h with ⟨h | h,_⟩ | ⟨_,_,T2',hr2,h⟩
 ·exact absurd rfl h
 ·exact absurd h hd
 ·obtain ⟨rfl,_⟩:=hr2.det h2
  exact ⟨h,rfl⟩
theorem digits_of_dec (z:Int) (ds:List Int) (h:valR 10 ds = z) (h0:ds ≠ []) (h1:ds.getLastD 0 ≠ 0) (h2:DigR 10 ds) : DigitsOf 10 z ds:=⟨h2,h,h0,h1⟩
theorem text_a {T:ByteArray} {err:Int} (h:QText 10 3 2 T err) : T = ⟨#[51,47,50]⟩ /\ err = 0:=by
 have:=text_lit (T1:=⟨#[51]⟩) (T2:=⟨#[50]⟩) (by decide) (Or.inr (Or.inr ⟨by decide,by decide,by decide,rfl,[3],digits_of_dec _ _ (by decide) (by decide) (by decide) (by unfold DigR;decide),by decide⟩)) (Or.inr (Or.inr ⟨by decide,by decide,by decide,rfl,[2],digits_of_dec _ _ (by decide) (by decide) (by decide) (by unfold DigR;decide),by decide⟩)) h
 exact ⟨this.1.trans (by kernel_rfl),this.2⟩
theorem text_d {T:ByteArray} {err:Int} (h:QText 10 5 16 T err) : T = ⟨#[53,47,49,54]⟩ /\ err = 0:=by
 have:=text_lit (T1:=⟨#[53]⟩) (T2:=⟨#[49,54]⟩) (by decide) (Or.inr (Or.inr ⟨by decide,by decide,by decide,rfl,[5],digits_of_dec _ _ (by decide) (by decide) (by decide) (by unfold DigR;decide),by decide⟩)) (Or.inr (Or.inr ⟨by decide,by decide,by decide,rfl,[6,1],digits_of_dec _ _ (by decide) (by decide) (by decide) (by unfold DigR;decide),by decide⟩)) h
 exact ⟨this.1.trans (by kernel_rfl),this.2⟩
theorem simplest_bc {w:World} {e:Ending} {w':World} (h:SimplestAns 2 31 100 8 25 w e w') : RatErr 2 5 16 0 w e w':=by
 rcases h with ⟨h,_⟩ | ⟨_,n,d,hs,hr⟩
 ·omega
 ·have h1:=hs.min 5 16 (by decide) (by decide) (by decide)
  have h2:=hs.D0
  have h3:=hs.lo
  have h4:=hs.hi
  have hn:0 < n:=by omega
  have h5:n = 1 \/ n = 2 \/ n = 3 \/ n = 4 \/ n = 5:=by omega
  have:n = 5 /\ d = 16:=by rcases h5 with h | h | h | h | h <;> subst h <;> omega
  obtain ⟨rfl,rfl⟩:=this
  exact hr
theorem awake_any (w:World) (M:Int) (hM:w.cell? ⟨0,0,none⟩ = some (.int .i64 M)) :
  Calls Tryz.prog 14 #[] w fun e w'=>e = .returned (.bool true) /\ Below w.heap.size w w':=by
 have hm:=Hd hM
 clear hM
 have hw:=Hd (Below.refl w.heap.size w)
 go_enter Tryz.func14,Tryz.ntmps14
 go_wp2_with fail
 refine (Parse_q ⟨#[43,48,54,47,52]⟩ 10 M _ hm.out (by decide)).mono ?_
 rintro e w1 ⟨n,d,err,hP,⟨ua,Aa,la,ca,va,Ea,ma,da,rfl,hz⟩,hb⟩
 obtain ⟨rfl,rfl,rfl⟩:=parse_a hP
 replace hz:=hz.tight (L:=2) (by decide) (by decide) (by decide)
 replace hm:=Hd (((hb).cell (p:=⟨0,0,none⟩) (World.block_lt_of_cell? _ _ hm.out)).trans hm.out)
 replace hw:=Hd (hw.out.trans (hb.mono hw.out.size))
 clear hb hP
 have hb2:=below_alloc w1 (.cells #[.bool ua,.slice Aa la ca,.bool va,.slice Ea ma da] 38)
 replace hm:=Hd (((hb2).cell (p:=⟨0,0,none⟩) (World.block_lt_of_cell? _ _ hm.out)).trans hm.out)
 replace hw:=Hd (hw.out.trans (hb2.mono hw.out.size))
 have Ba:=Hd (Fx4.new w1 (.bool ua) (.slice Aa la ca) (.bool va) (.slice Ea ma da) 38)
 have Qa:=Hd (hz.below hb2)
 clear hb2 hz
 go_upto_region 2 with fail
 generalize w1.alloc (.cells #[.bool ua,.slice Aa la ca,.bool va,.slice Ea ma da] 38) = W1 at *
 generalize w1.heap.size = ja at *
 obtain ⟨xa0,xa1,xa2,xa3,-,-,-,-,-⟩:=Ba.out
 go_wp2_with fail
 refine (Text_q _ 3 2 10 2 _ Qa.out (by decide) (by decide)).mono ?_
 rintro e w2 ⟨⟨Ta,ra,rfl,hT⟩,hb⟩
 obtain ⟨rfl,rfl⟩:=text_a hT
 clear xa0 xa1 xa2 xa3
 replace Ba:=Hd (Ba.out.below hb)
 replace Qa:=Hd (Qa.out.below hb)
 replace hm:=Hd (((hb).cell (p:=⟨0,0,none⟩) (World.block_lt_of_cell? _ _ hm.out)).trans hm.out)
 replace hw:=Hd (hw.out.trans (hb.mono hw.out.size))
 clear hb hT
 go_wp2_with fail
 refine (Parse_q ⟨#[51,49,47,49,48,48]⟩ 10 M _ hm.out (by decide)).mono ?_
 rintro e w3 ⟨n,d,err,hP,⟨ub,Ab,lb,cb,vb,Eb,mb,db,rfl,hz⟩,hb⟩
 obtain ⟨rfl,rfl,rfl⟩:=parse_b hP
 replace hz:=hz.tight (L:=2) (by decide) (by decide) (by decide)
 replace Ba:=Hd (Ba.out.below hb)
 replace Qa:=Hd (Qa.out.below hb)
 replace hm:=Hd (((hb).cell (p:=⟨0,0,none⟩) (World.block_lt_of_cell? _ _ hm.out)).trans hm.out)
 replace hw:=Hd (hw.out.trans (hb.mono hw.out.size))
 clear hb hP
 have hb2:=below_alloc w3 (.cells #[.bool ub,.slice Ab lb cb,.bool vb,.slice Eb mb db] 38)
 replace Ba:=Hd (Ba.out.below hb2)
 replace Qa:=Hd (Qa.out.below hb2)
 replace hm:=Hd (((hb2).cell (p:=⟨0,0,none⟩) (World.block_lt_of_cell? _ _ hm.out)).trans hm.out)
 replace hw:=Hd (hw.out.trans (hb2.mono hw.out.size))
 have Bb:=Hd (Fx4.new w3 (.bool ub) (.slice Ab lb cb) (.bool vb) (.slice Eb mb db) 38)
 have Qb:=Hd (hz.below hb2)
 clear hb2 hz
 go_upto_region 4 with fail
 generalize w3.alloc (.cells #[.bool ub,.slice Ab lb cb,.bool vb,.slice Eb mb db] 38) = W3 at *
 generalize w3.heap.size = jb at *
 go_wp2_with fail
 refine (Parse_q ⟨#[51,50,47,49,48,48]⟩ 10 M _ hm.out (by decide)).mono ?_
 rintro e w4 ⟨n,d,err,hP,⟨uc,Ac,lc,cc,vc,Ec,mc,dc,rfl,hz⟩,hb⟩
 obtain ⟨rfl,rfl,rfl⟩:=parse_c hP
 replace hz:=hz.tight (L:=2) (by decide) (by decide) (by decide)
 replace Ba:=Hd (Ba.out.below hb)
 replace Qa:=Hd (Qa.out.below hb)
 replace Bb:=Hd (Bb.out.below hb)
 replace Qb:=Hd (Qb.out.below hb)
 replace hm:=Hd (((hb).cell (p:=⟨0,0,none⟩) (World.block_lt_of_cell? _ _ hm.out)).trans hm.out)
 replace hw:=Hd (hw.out.trans (hb.mono hw.out.size))
 clear hb hP
 have hb2:=below_alloc w4 (.cells #[.bool uc,.slice Ac lc cc,.bool vc,.slice Ec mc dc] 38)
 replace Ba:=Hd (Ba.out.below hb2)
 replace Qa:=Hd (Qa.out.below hb2)
 replace Bb:=Hd (Bb.out.below hb2)
 replace Qb:=Hd (Qb.out.below hb2)
 replace hm:=Hd (((hb2).cell (p:=⟨0,0,none⟩) (World.block_lt_of_cell? _ _ hm.out)).trans hm.out)
 replace hw:=Hd (hw.out.trans (hb2.mono hw.out.size))
 have Bc:=Hd (Fx4.new w4 (.bool uc) (.slice Ac lc cc) (.bool vc) (.slice Ec mc dc) 38)
 have Qc:=Hd (hz.below hb2)
 clear hb2 hz
 go_upto_region 5 with fail
 generalize w4.alloc (.cells #[.bool uc,.slice Ac lc cc,.bool vc,.slice Ec mc dc] 38) = W4 at *
 generalize w4.heap.size = jc at *
 obtain ⟨xb0,xb1,xb2,xb3,-,-,-,-,-⟩:=Bb.out
 obtain ⟨xc0,xc1,xc2,xc3,-,-,-,-,-⟩:=Bc.out
 go_wp2_with fail
 refine (Simplest_any _ _ 31 100 8 25 2 _ Qb.out Qc.out (by decide) (by decide)).mono ?_
 rintro e w5 hS
 obtain ⟨⟨ud,Ad,ld,cd,vd,Ed,md,dd,rfl,hz⟩,hb⟩:=simplest_bc hS
 clear xb0 xb1 xb2 xb3
 clear xc0 xc1 xc2 xc3
 replace Ba:=Hd (Ba.out.below hb)
 replace Qa:=Hd (Qa.out.below hb)
 replace Bb:=Hd (Bb.out.below hb)
 replace Qb:=Hd (Qb.out.below hb)
 replace Bc:=Hd (Bc.out.below hb)
 replace Qc:=Hd (Qc.out.below hb)
 replace hm:=Hd (((hb).cell (p:=⟨0,0,none⟩) (World.block_lt_of_cell? _ _ hm.out)).trans hm.out)
 replace hw:=Hd (hw.out.trans (hb.mono hw.out.size))
 clear hb hS
 have hb2:=below_alloc w5 (.cells #[.bool ud,.slice Ad ld cd,.bool vd,.slice Ed md dd] 38)
 replace Ba:=Hd (Ba.out.below hb2)
 replace Qa:=Hd (Qa.out.below hb2)
 replace Bb:=Hd (Bb.out.below hb2)
 replace Qb:=Hd (Qb.out.below hb2)
 replace Bc:=Hd (Bc.out.below hb2)
 replace Qc:=Hd (Qc.out.below hb2)
 replace hm:=Hd (((hb2).cell (p:=⟨0,0,none⟩) (World.block_lt_of_cell? _ _ hm.out)).trans hm.out)
 replace hw:=Hd (hw.out.trans (hb2.mono hw.out.size))
 have Bd:=Hd (Fx4.new w5 (.bool ud) (.slice Ad ld cd) (.bool vd) (.slice Ed md dd) 38)
 have Qd:=Hd (hz.below hb2)
 clear hb2 hz
 go_upto_region 6 with fail
 generalize w5.alloc (.cells #[.bool ud,.slice Ad ld cd,.bool vd,.slice Ed md dd] 38) = W5 at *
 generalize w5.heap.size = jd at *
 obtain ⟨xd0,xd1,xd2,xd3,-,-,-,-,-⟩:=Bd.out
 go_wp2_with fail
 refine (Text_q _ 5 16 10 2 _ Qd.out (by decide) (by decide)).mono ?_
 rintro e w6 ⟨⟨Td,rd,rfl,hT⟩,hb⟩
 obtain ⟨rfl,rfl⟩:=text_d hT
 clear xd0 xd1 xd2 xd3
 replace Ba:=Hd (Ba.out.below hb)
 replace Qa:=Hd (Qa.out.below hb)
 replace Bb:=Hd (Bb.out.below hb)
 replace Qb:=Hd (Qb.out.below hb)
 replace Bc:=Hd (Bc.out.below hb)
 replace Qc:=Hd (Qc.out.below hb)
 replace Bd:=Hd (Bd.out.below hb)
 replace Qd:=Hd (Qd.out.below hb)
 replace hm:=Hd (((hb).cell (p:=⟨0,0,none⟩) (World.block_lt_of_cell? _ _ hm.out)).trans hm.out)
 replace hw:=Hd (hw.out.trans (hb.mono hw.out.size))
 clear hb hT
 have hmx:∀ w0:World,Sem.run Tryz.prog (Builtin.max_ #[39,39,39,39,39,39] 39 #[Value.int IntKind.i64 0,Value.int IntKind.i64 0,Value.int IntKind.i64 0,Value.int IntKind.i64 0,Value.int IntKind.i64 0,Value.int IntKind.i64 0]) w0 = Result.ok (Value.int IntKind.i64 0) w0:=fun _=>by kernel_rfl
 go_wp2
 go_ret
 exact ⟨rfl,hw.out⟩
end Go.Proofs.YtbajnceoolkckaaGreat
