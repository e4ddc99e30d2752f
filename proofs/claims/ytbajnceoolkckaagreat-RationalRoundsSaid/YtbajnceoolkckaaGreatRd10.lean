/- Of the proof of RationalRounds: Long3, DivAny. -/
import Derived.Test.YtbajnceoolkckaaGreatRd09
open Go.Lib renaming hid → Hd
set_option maxRecDepth 100000
set_option maxHeartbeats 16000000
namespace Go.Proofs.YtbajnceoolkckaaGreat
open Go.RowKit LM
theorem norm_row {zs:List Int} {n bl s:Nat} {b:Int} (hd:Dig zs) (ht:Trimmed zs) (hn:1 <= n) (hb:IsLen b (32 * (n - 1) + bl)) (hb0:b ≠ 0) (hbl:1 <= bl) (hs:s + bl = 32) (h:val zs = b * 2 ^ s) :
  zs.length = n /\ BB <= 2 * zs.getD (n - 1) 0 /\ val zs <= BB ^ n:=by
 have hb':2 ^ (32 * (n - 1) + bl - 1) <= b /\ b < 2 ^ (32 * (n - 1) + bl):=by
  rcases hb with h | h
  ·exact absurd h.1 hb0
  ·exact ⟨h.2.1,h.2.2⟩
 have hp:=two_pos s
 have h1:(2:Int) ^ (32 * n - 1) <= val zs:=by
  have e:(2:Int) ^ (32 * n - 1) = 2 ^ (32 * (n - 1) + bl - 1) * 2 ^ s:=by rw [<- Int.pow_add];congr 1;omega
  rw [e,h];exact Int.mul_le_mul_of_nonneg_right hb'.1 (Int.le_of_lt hp)
 have h2:val zs < 2 ^ (32 * n):=by
  have e:(2:Int) ^ (32 * n) = 2 ^ (32 * (n - 1) + bl) * 2 ^ s:=by rw [<- Int.pow_add];congr 1;omega
  rw [e,h];exact Int.mul_lt_mul_of_pos_right hb'.2 hp
 rw [<- BB_two] at h2
 have h3:(2:Int) ^ (32 * n - 1) = BB ^ (n - 1) * 2147483648:=by
  rw [BB_two,show (2147483648:Int) = 2 ^ 31 from by decide,<- Int.pow_add];congr 1;omega
 have hl:zs.length = n:=by
  rcases Nat.lt_trichotomy zs.length n with hl | hl | hl
  ·exfalso
   have h4:=(val_bounds hd).2
   have h5:BB ^ zs.length <= BB ^ (n - 1):=pow_le (by omega)
   have:=BB_pos (n - 1)
   omega
  ·exact hl
  ·exfalso
   have h4:=val_ge hd ht (by omega)
   have h5:BB ^ n <= BB ^ (zs.length - 1):=pow_le (by omega)
   omega
 refine ⟨hl,?_,Int.le_of_lt h2⟩
 have e:zs.take (n - 1 + 1) = zs:=List.take_of_length_le (by omega)
 have h6:=val_take_succ zs (n - 1)
 rw [e] at h6
 have h7:=(val_bounds (hd.take (n - 1))).2
 rw [List.length_take,Nat.min_eq_left (by omega)] at h7
 have h8:BB ^ (n - 1) * 2147483648 < BB ^ (n - 1) * (zs.getD (n - 1) 0 + 1):=by rw [Int.mul_add,Int.mul_one];omega
 have h9:=Int.lt_of_mul_lt_mul_left h8 (Int.le_of_lt (BB_pos _))
 rw [BB_def];omega
theorem win_parts {rs zs:List Int} {j n N:Nat} (hl:rs.length = N) (hj:j + n + 1 <= N) (hz:zs.length = n + 1) :
  (rs.take j ++ (zs ++ rs.drop (j + n + 1))).take j = rs.take j /\ (rs.take j ++ (zs ++ rs.drop (j + n + 1))).drop (j + n + 1) = rs.drop (j + n + 1) /\ partOf (rs.take j ++ (zs ++ rs.drop (j + n + 1))) j n = zs:=by
 have ht:(rs.take j).length = j:=by rw [List.length_take];omega
 refine ⟨?_,?_,?_⟩
 ·rw [List.take_append_of_le_length (by omega),List.take_of_length_le (by omega)]
 ·rw [<- List.append_assoc,List.drop_append_of_le_length (by simp [ht,hz];omega),List.drop_of_length_le (by simp [ht,hz];omega),List.nil_append]
 ·unfold partOf
  rw [List.drop_append_of_le_length (by omega),List.drop_of_length_le (by omega),List.nil_append,List.take_append_of_le_length (by omega),List.take_of_length_le (by omega)]
theorem grown_trans {w w1 w2:World} {g:Nat} (h1:w.grownBy w1 (some g)) (h2:w1.grownBy w2 (some g)) : w.grownBy w2 (some g):=
 ⟨h2.os.trans h1.os,h2.tape.trans h1.tape,h2.output.trans h1.output,Nat.le_trans h1.size h2.size,fun b hb hne=>(h2.block b (Nat.lt_of_lt_of_le hb h1.size) hne).trans (h1.block b hb hne)⟩
def LongRel (w wr:World) (g gq bb bo N qn n:Nat) (bs:List Int) (a:Int) (i:Nat) : Prop:=
 i <= qn /\ Below w.heap.size w wr /\ (bb < wr.heap.size /\ ∀ t,t < n -> wr.cell? ⟨bb,bo + t,none⟩ = some (.int .u32 (bs.getD t 0))) /\
  ∃ rs qs,Own wr w.heap.size g N rs /\ Dig rs /\ val rs < val bs * BB ^ i /\ qs.length = qn - i /\ Dig qs /\ a = val bs * (BB ^ i * val qs) + val rs /\ Own wr w.heap.size gq qn (List.replicate i 0 ++ qs)
theorem LongRel.step {w wr w2:World} {g gq bb bo N qn n:Nat} {bs rs qs zs:List Int} {a d:Int} {j:Nat} (hj:j + 1 <= qn) (hb:Below w.heap.size w wr) (hbb:bb < wr.heap.size)
  (hbc:∀ t,t < n -> wr.cell? ⟨bb,bo + t,none⟩ = some (.int .u32 (bs.getD t 0))) (hne:bb ≠ g) (hnq:bb ≠ gq) (hgq:gq ≠ g) (hN:j + n + 1 <= N) (hbn:val bs <= BB ^ n)
  (ho:Own wr w.heap.size g N rs) (dr:Dig rs) (hR:val rs < val bs * BB ^ (j + 1)) (hql:qs.length = qn - (j + 1)) (hqd:Dig qs) (ha:a = val bs * (BB ^ (j + 1) * val qs) + val rs) (hoq:Own wr w.heap.size gq qn (List.replicate (j + 1) 0 ++ qs))
  (hg:wr.grownBy w2 (some g)) (hzl:zs.length = n + 1) (dz:Dig zs) (hz:val zs = val (partOf rs j n) - d * val bs) (hz1:val zs < val bs) (hd:0 <= d /\ d < BB)
  (ho2:Own w2 w.heap.size g N (rs.take j ++ (zs ++ rs.drop (j + n + 1)))) :
  (∃ u,w2.cell? ⟨gq,j,none⟩ = some (.int .u32 u)) /\ w2.frozen? ⟨gq,j,none⟩ = false /\ LongRel w (w2.setCell ⟨gq,j,none⟩ (.int .u32 d)) g gq bb bo N qn n bs a j:=by
 obtain ⟨h1,h2,h3,h4⟩:=long_step ho.length hN dr hbn hR ha hzl dz hz hz1
 have hgl:=ho.lt
 have hql2:=hoq.lt
 have hoq2:Own w2 w.heap.size gq qn (List.replicate (j + 1) 0 ++ qs):=by
  have hbk:=hg.block gq hql2.2 (by simpa using hgq)
  refine Own.of_whole (hbk.trans hoq.whole) hoq.length hql2.1 ?_
  have:=hoq.2
  rcases hoq.2 with ⟨h',_⟩ | ⟨g',cap,cur,h',_,_,_,hcm,_⟩
  ·simp at h'
  ·simp only [Value.slice.injEq] at h';omega
 have hset:=hoq2.set j d
 have e:(List.replicate (j + 1) 0 ++ qs).set j d = List.replicate j 0 ++ (d :: qs):=by
  have:=zeros_set qs (j + 1) (by omega) d
  simpa using this
 rw [e] at hset
 have hb2:Below w.heap.size w w2:=hb.grown hg hb.size (fun k hk=>by have e:g = k:=(by simpa using hk);omega)
 refine ⟨⟨_,hoq2.cell (by omega)⟩,hoq2.frozen _,by omega,hb2.setCell (by exact hql2.1) _,⟨?_,fun t ht=>?_⟩,_,d :: qs,?_,h2,h3,by simp [hql];omega,?_,h4,hset⟩
 ·have:=hg.size;simp [World.setCell];omega
 ·rw [World.cell?_setCell_other _ _ _ _ (by simp;try omega),grown_cell hg hbb hne];exact hbc t ht
 ·have hbk:(w2.setCell ⟨gq,j,none⟩ (.int .u32 d)).heap[g]? = w2.heap[g]?:=Below.heap_setCell _ _ _ _ (fun e=>hgq e.symm)
  refine Own.of_whole (hbk.trans ho2.whole) ho2.length hgl.1 ?_
  rcases ho.2 with ⟨h',_⟩ | ⟨g',cap,cur,h',_,_,_,hcm,_⟩
  ·simp at h'
  ·simp only [Value.slice.injEq] at h';omega
 ·rw [Dig.cons_iff];exact ⟨hd,hqd⟩
theorem long_any (A B:Option Addr) (m c n d:Nat) (xs ys:List Int) (w:World) (h:Row .u32 w A m c xs) (g:Row .u32 w B n d ys) (hn:2 <= n) (hnm:n <= m) (hm:m <= 1048575)
  (hdx:Dig xs) (htx:Trimmed xs) (hdy:Dig ys) (hty:Trimmed ys) :
  Calls Tryz.prog 182 #[.slice A m c,.slice B n d] w (Divided w (val xs) (val ys) (m + 1)):=by
 obtain ⟨i0,hi,hz0,hz1,hz2⟩:=info_parts Tryz.info135
 have nx:Num w (.slice A m c) (val xs) m:=⟨_,_,_,xs,rfl,h,hdx,htx,rfl,Nat.le_refl _⟩
 have ny:Num w (.slice B n d) (val ys) n:=⟨_,_,_,ys,rfl,g,hdy,hty,rfl,Nat.le_refl _⟩
 obtain ⟨b,o,rfl,hbx,hx⟩:=g.2.2 (by omega)
 obtain ⟨t,et⟩ : ∃ t,ys.getD (n - 1) 0 = t:=⟨_,rfl⟩
 have hx1:w.cell? ⟨b,o + (n - 1),none⟩ = some (.int .u32 t):=by rw [<- et];exact hx (n - 1) (by omega)
 have ht0:t ≠ 0:=by
  rcases hty with h | h
  ·rw [g.1] at h;omega
  ·rw [g.1,et] at h;exact h
 have bt:=hdy.getD (n - 1)
 rw [et,BB_def] at bt
 obtain ⟨bt0,bt1⟩:=bt
 obtain ⟨hlen,hle⟩:=bitLen_is t (by omega) bt1
 have hres:=top_len hdy g.1 (by omega) et hlen ht0
 have hb0:val ys ≠ 0:=by
  intro h0
  have:=(trimmed_zero hdy hty).1 h0
  rw [this] at g
  have:=g.1
  simp at this;omega
 have hbl1:1 <= Lib.bitLen t.toNat:=by
  rcases hlen with h | h
  ·exact absurd h.1 ht0
  ·exact h.1
 obtain ⟨bl,hbl⟩ : ∃ bl,Lib.bitLen t.toNat = bl:=⟨_,rfl⟩
 obtain ⟨s,hs⟩ : ∃ s,s + bl = 32:=⟨32 - bl,by omega⟩
 rw [hbl] at hres hbl1
 have es:(32:Int) - (bl:Int) = (s:Int):=by omega
 have HBL:=Hd hbl
 have HES:=Hd es
 have HRES:=Hd hres
 have HS:=Hd hs
 have HX:=Hd nx
 have HY:=Hd ny
 have HXL:=Hd h.1
 have HYL:=Hd g.1
 have hs32:s <= 31:=by omega
 have q1:(0:Int) <= (n:Int) - 1:=by omega
 have q2:(n:Int) - 1 < (n:Int):=by omega
 have q3:((n:Int) - 1).toNat = n - 1:=by omega
 clear hbl es hres hs nx ny h g hx et hlen hle
 go_enter Tryz.func182,Tryz.ntmps182
 go_wp2_with fail
 refine (Tryz.bits_LeadingZeros32 t _ bt0 (by omega)).mono ?_
 rintro e w ⟨rfl,rfl⟩
 rw [HBL.out,HES.out]
 go_wp2_with fail
 refine (up_num _ _ n s _ HY.out (by omega) (by omega)).mono ?_
 rintro e w1 ⟨v1,rfl,hv1,hb1⟩
 obtain ⟨B1,n1,d1,bs,rfl,hbr,hbd,hbt,hbv,hbn⟩:=hv1
 obtain ⟨hbl,htop,hble⟩:=norm_row hbd hbt (by omega) HRES.out hb0 hbl1 HS.out hbv
 obtain rfl:n = n1:=by rw [<- hbr.1,hbl]
 obtain ⟨bb,bo,rfl,hbb,hbc⟩:=hbr.2.2 (by omega)
 have HBC:=Hd hbc
 have HBV:=Hd hbv
 have HBLE:=Hd hble
 have HBLN:=Hd hbl
 clear hbv hble hbl hbc hbr hbn
 go_wp2_with (at_make;refine wpList_make_full _ rfl _ _ 22 rfl w1.heap.size 135 i0 (.int .u32 0) 1 Tryz.underlying22 hi hz0 hz1 _ _ _ _ (m + 1) rfl rfl (by omega) (by omega) (by rw [hz2];omega) (by unfold maxLen;omega) (Nat.le_refl _) ?_;intro w2 hown hgrow)
 rw [zeros_made] at hown
 have hwh:=Own.whole (base:=w1.heap.size) hown
 have hb2:Below w1.heap.size w1 w2:=(Below.refl _ _).grown hgrow (Nat.le_refl _) (fun _ h=>by cases h)
 have hG:=(Own.lt (base:=w1.heap.size) hown).2
 have HX2:=Hd (HX.out.below (hb1.trans (hb2.mono hb1.size)))
 have HWH:=Hd hwh
 clear hown hgrow hwh
 refine (up_num _ _ m s _ HX2.out (by omega) (by omega)).mono ?_
 rintro e w3 ⟨v3,rfl,hv3,hb3⟩
 obtain ⟨B3,l3,d3,zs,rfl,hzr,hzd,hzt,hzv,hzn⟩:=hv3
 have hzl:=hzr.1
 have hb31:=hb2.trans (hb3.mono (B':=w1.heap.size) (by omega))
 have HW3:=Hd ((hb3.block w1.heap.size hG).trans HWH.out)
 have hln:l3 <= m + 1:=by omega
 obtain ⟨X1,hX1⟩ : ∃ X1,X1 = zs.map (Value.int .u32):=⟨_,rfl⟩
 have hX1l:X1.length = l3:=by rw [hX1];simp [hzl]
 have hsrc:0 < X1.length -> ∃ ad,B3 = some ad /\ ∀ j v,X1[j]? = some v -> w3.cell? (ad.add j) = some v:=by
  intro h0
  obtain ⟨b',o',rfl,hlt,hc⟩:=hzr.2.2 (by omega)
  refine ⟨⟨b',o',none⟩,rfl,fun j v hj=>?_⟩
  have hjl:j < l3:=by have:=(List.getElem?_eq_some_iff.1 hj).1;omega
  rw [Addr.add_lit,hc j hjl,<- hj,hX1]
  simp [List.getD,hzl,hjl]
 have hone:∀ v ∈ X1,v.oneCell' = true:=by rw [hX1];exact ints_oneCell _ _
 have HX1:=Hd hX1
 have HX1l:=Hd hX1l
 have HSRC:=Hd hsrc
 have HO:=Hd hone
 have HZL:=Hd hzl
 have HZV:=Hd hzv
 have HZT:=Hd hzt
 clear hX1 hX1l hsrc hone hzl hzv hzt hzr
 go_wp2_with ((with_reducible refine wpList_copy_splice rfl (.tmp 25) (.tmp 28) 22 22 rfl 135 Tryz.underlying22 (by kernel_rfl) _ _ _ _ _ _ rfl rfl w1.heap.size 0 ((List.replicate (m + 1) (0:Int)).map (Value.int .u32)) 135 HW3.out X1 ?c1 ?c2 ?c3 HO.out w1.heap.size w1 hb31 (Nat.le_refl _) ?_))
 case c1=>rw [HX1l.out];exact (Nat.min_eq_left hln).symm
 case c2=>intro h0;exact HSRC.out h0
 case c3=>rw [HX1l.out];simp;omega
 intro w4 HG4 hb4
 have hsp:splice (List.replicate (m + 1) (Value.int .u32 0)) 0 X1 = ((zs ++ List.replicate (m + 1 - l3) 0).map (Value.int .u32)):=by
  rw [HX1.out];simp [splice,HZL.out]
 have hown:Own w4 w.heap.size w1.heap.size (m + 1) (zs ++ List.replicate (m + 1 - l3) 0):=by
  refine Own.of_whole ?_ (by simp [HZL.out];omega) hb1.size (by unfold maxLen;omega)
  rw [<- hsp];exact HG4.out
 have hdz:Dig (zs ++ List.replicate (m + 1 - l3) 0):=hzd.append (by intro i hi;simp at hi;simp [List.getD,hi];decide)
 have hvz:val (zs ++ List.replicate (m + 1 - l3) 0) = val xs * 2 ^ s:=by rw [val_append,val_zeros,HZV.out];simp
 generalize zs ++ List.replicate (m + 1 - l3) 0 = rs0 at *
 have HOWN:=Hd hown
 have HVZ:=Hd hvz
 have hb4':Below w.heap.size w w4:=hb1.trans (hb4.mono hb1.size)
 have hG4:=hown.lt
 have hbc4:∀ t,t < n -> w4.cell? ⟨bb,bo + t,none⟩ = some (.int .u32 (bs.getD t 0)):=fun t ht=>(hb4.cell (p:=⟨bb,bo + t,none⟩) hbb).trans (HBC.out t ht)
 have HBC4:=Hd hbc4
 clear hsp hown hvz hbc4 hb3 hb31 hb2 HW3 HG4
 go_wp2_with (at_make;refine wpList_make_full _ rfl _ _ 22 rfl w.heap.size 135 i0 (.int .u32 0) 1 Tryz.underlying22 hi hz0 hz1 _ _ _ _ (m - n + 1) rfl rfl (by omega) (by omega) (by rw [hz2];omega) (by unfold maxLen;omega) hb4'.size ?_;intro w5 hownq hgrow)
 rw [zeros_made] at hownq
 have hb5:Below w4.heap.size w4 w5:=(Below.refl _ _).grown hgrow (Nat.le_refl _) (fun _ h=>by cases h)
 have hGQ:=(Own.lt (base:=w.heap.size) hownq).2
 have hstart:LongRel w w5 w1.heap.size w4.heap.size bb bo (m + 1) (m - n + 1) n bs (val xs * 2 ^ s) (m - n + 1):=by
  have h4:=hb4.size
  refine ⟨Nat.le_refl _,hb4'.trans (hb5.mono hb4'.size),⟨by omega,fun t ht=>(hb5.cell (p:=⟨bb,bo + t,none⟩) (by show bb < w4.heap.size;omega)).trans (HBC4.out t ht)⟩,rs0,[],HOWN.out.below hb5,hdz,?_,by simp,Dig.nil,by rw [HVZ.out];simp [val],?_⟩
  ·rw [HVZ.out,HBV.out]
   have hx:=(val_bounds hdx).2
   have hy:=val_ge hdy hty (by rw [HYL.out];omega)
   rw [HXL.out] at hx
   rw [HYL.out] at hy
   exact long_start hx hy (by omega) hnm (two_pos s)
  ·rw [List.append_nil];exact hownq
 have HST:=Hd hstart
 clear hownq hgrow hstart
 go_wp2_with fail
 have h15:=hb1.size
 have h45:=hb4.size
 have h55:=hb5.size
 clear hb1 hb4 hb5 hdz HOWN HVZ HBC HBC4 HX HX2 HY HWH HSRC HO HX1 HX1l HZL HZV HZT hx1 hb4'
 obtain ⟨G,hGd⟩ : ∃ G,w1.heap.size = G:=⟨_,rfl⟩
 obtain ⟨Q,hQd⟩ : ∃ Q,w4.heap.size = Q:=⟨_,rfl⟩
 rw [hGd] at HST hG4 hbb h45 h15
 rw [hQd] at HST hGQ h45 hG4
 rw [hGd,hQd]
 have nbG:bb ≠ G:=by omega
 have nbQ:bb ≠ Q:=by omega
 have nQG:Q ≠ G:=by omega
 have hs0:=two_pos s
 clear hGd hQd
 go_loopw [8] (fun iv wr=>∃ (i:Nat) (z:Int),iv = .int .i64 z /\ z = (i:Int) - 1 /\ LongRel w wr G Q bb bo (m + 1) (m - n + 1) n bs (val xs * 2 ^ s) i) (fun iv _=>(intOf iv + 1).toNat)
 case atStart=>exact ⟨m - n + 1,_,rfl,by omega,HST.out⟩
 case round=>
  obtain ⟨i,z,rfl,hz,hrel⟩:=hrel
  have HR:=Hd hrel
  obtain ⟨hiq,hbw,⟨hbbr,hbcr⟩,rs,qs,hor,hdr,hRr,hqll,hqd,har,hoq⟩:=hrel
  by_cases h0:i = 0
  ·subst h0
   have hz0:z < 0:=by omega
   clear hz
   rw [List.replicate_zero,List.nil_append] at hoq
   rw [Int.pow_zero,Int.mul_one] at hRr
   rw [Int.pow_zero,Int.one_mul,HBV.out] at har
   have hy0:0 < val ys:=by have:=(val_bounds hdy).1;omega
   have hR0:=(val_bounds hdr).1
   obtain ⟨hq,hr⟩:=long_end hs0 hy0 hR0 (by rw [<- HBV.out];exact hRr) har
   have HQ:=Hd hq
   have HRM:=Hd hr
   clear har hRr hq hr hqll hbcr
   go_wp2_with fail
   refine (trim_any _ _ _ rs _ hor.row (by omega)).mono ?_
   rintro e wt ⟨k1,hk1,rfl,rfl,hvk1,htk1⟩
   have nR:Num wr (.slice (some ⟨G,0,none⟩) k1 (m + 1)) (val rs) (m + 1):=⟨_,_,_,_,rfl,hor.row.take hk1,hdr.take _,htk1,hvk1,hk1⟩
   have NR:=Hd nR
   clear nR hvk1 htk1
   go_wp2_with fail
   refine (down_num _ _ _ s _ NR.out (by omega) (by omega)).mono ?_
   rintro e wd ⟨vr,rfl,hvr,hbd2⟩
   obtain ⟨A4,n4,c4,rfl⟩:=hvr.form
   have HVR:=Hd hvr
   clear hvr
   go_wp2_with fail
   refine (trim_any _ _ _ qs _ (hoq.row.below hbd2) (by omega)).mono ?_
   rintro e wt ⟨k2,hk2,rfl,rfl,hvk2,htk2⟩
   have HK2:=Hd hvk2
   have HT2:=Hd htk2
   clear hvk2 htk2
   go_wp2_with fail
   go_ret2
   refine ⟨_,_,_,_,_,_,rfl,?_,?_,hbw.trans (hbd2.mono hbw.size)⟩
   ·exact ⟨_,_,_,_,rfl,(hoq.row.below hbd2).take hk2,hqd.take _,HT2.out,HK2.out.trans HQ.out.symm,by omega⟩
   ·rw [HRM.out];exact HVR.out
  ·obtain ⟨j,rfl⟩ : ∃ j,i = j + 1:=⟨i - 1,by omega⟩
   obtain rfl:z = (j:Int):=by omega
   have hNN:j + n + 1 <= m + 1:=by omega
   obtain ⟨-,hpl,-⟩:=long_part hor.length hNN hdr HBLE.out hRr
   have HCC:=Hd (fun t (ht:t < n + 1)=>(by have:=hor.cell (k:=j + t) (by omega);rw [partOf.getD rs ht];exact this:wr.cell? ⟨G,j + t,none⟩ = some (.int .u32 ((partOf rs j n).getD t 0))))
   have HBCR:=Hd hbcr
   have HLEN:=Hd (partOf.length hor.length hNN)
   have HQL:=Hd hqll
   have HA:=Hd har
   have HOR:=Hd hor
   have HOQ:=Hd hoq
   clear hbcr hqll har hor hoq hz
   go_wp2_with fail
   have q5:j + n + 1 - j = n + 1:=by omega
   rw [q5]
   clear q5
   refine (guess_any G j bb bo _ d1 n (partOf rs j n) bs wr hn (by omega) HLEN.out HBLN.out (partOf.dig hdr j n) hbd htop hpl HCC.out HBCR.out).mono ?_
   rintro e wg ⟨dd,rfl,hgs,q,rfl⟩
   have hgd:=hgs.1
   have HGS:=Hd hgs
   clear hgs hpl
   go_wp2_with fail
   refine (takeAway_any w.heap.size G (m + 1) j bb bo _ d1 n rs bs dd (wr.drewN q) (HOR.out.drewN q) hdr hbd HBLN.out hNN (by omega) hbbr nbG HBCR.out hgd).mono ?_
   rintro e w6 ⟨br,zs',rfl,hbr,hzl,hzd,hzv,hzo,hzg⟩
   have hP:=(val_bounds (partOf.dig hdr j n)).1
   have hZb:=val_bounds hzd
   rw [hzl] at hZb
   have hbpos:0 < val bs:=by
    rw [HBV.out]
    exact Int.mul_pos (by have:=(val_bounds hdy).1;omega) hs0
   have htk:=HGS.out.taken (B:=BB ^ (n + 1)) (Z:=val zs') (br:=br) (by have:=HBLE.out;have h2:BB ^ (n + 1) = BB ^ n * BB:=Int.pow_succ ..;have h3:=BB_pos n;rw [BB_def] at h2 this h3 ⊢;omega) hP hbpos hZb hbr hzv
   have HZL:=Hd hzl
   have HZV:=Hd hzv
   have HZO:=Hd hzo
   have HZG:=Hd hzg
   rw [BB_def] at hgd
   obtain ⟨hgd0,hgd1⟩:=hgd
   clear hzl hzv hzo hzg hZb hbr
   rcases htk with ⟨rfl,hz0',hz1'⟩ | ⟨rfl,hd1',hzm,hz0',hz1'⟩
   ·obtain ⟨⟨u,hu⟩,hf,hst⟩:=LongRel.step (w:=w) (wr:=wr.drewN q) (w2:=w6) (d:=dd) (zs:=zs') hiq (below_drewN hbw q) hbbr HBCR.out nbG nbQ nQG hNN HBLE.out (HOR.out.drewN q) hdr hRr HQL.out hqd HA.out (HOQ.out.drewN q) HZG.out HZL.out hzd (by rw [HZV.out];simp) hz1' (by rw [BB_def];omega) HZO.out
    have HST2:=Hd hst
    have qj:(j:Int) < ((m - n + 1:Nat) : Int):=by omega
    clear hst hz0' hz1' hP hbpos
    go_wp2_with fail
    exact ⟨⟨j,_,rfl,rfl,HST2.out⟩,by simp [intOf]⟩
   ·have hgs:=HZG.out.size
    obtain ⟨w1',w2',w3'⟩:=win_parts (N:=m + 1) HOR.out.length hNN HZL.out
    have W1:=Hd w1'
    have W2:=Hd w2'
    have W3:=Hd w3'
    have hdr2:Dig (rs.take j ++ (zs' ++ rs.drop (j + n + 1))):=(hdr.take j).append (hzd.append (hdr.drop _))
    have hcc6:∀ t,t < n -> w6.cell? ⟨bb,bo + t,none⟩ = some (.int .u32 (bs.getD t 0)):=fun t ht=>by rw [grown_cell HZG.out hbbr nbG];exact HBCR.out t ht
    have HCC6:=Hd hcc6
    have hbb6:bb < w6.heap.size:=by
     have e:(wr.drewN q).heap.size = wr.heap.size:=rfl
     omega
    have HZM:=Hd hzm
    have hbt:((1:Int) != 0) = true:=by decide
    clear w1' w2' w3' hcc6 hzm hgs
    go_wp2_with fail
    refine (putBack_any w.heap.size G (m + 1) j bb bo _ d1 n _ bs w6 HZO.out hdr2 hbd HBLN.out hNN (by omega) hbb6 nbG HCC6.out).mono ?_
    rintro e w7 ⟨rfl,zs2,hzl2,hzd2,hzv2,hzo2,hzg2⟩
    rw [W1.out,W2.out] at hzo2
    rw [W3.out,HZM.out] at hzv2
    obtain ⟨⟨u,hu⟩,hf,hst⟩:=LongRel.step (w:=w) (wr:=wr.drewN q) (w2:=w7) (d:=dd - 1) (zs:=zs2) hiq (below_drewN hbw q) hbbr HBCR.out nbG nbQ nQG hNN HBLE.out (HOR.out.drewN q) hdr hRr HQL.out hqd HA.out (HOQ.out.drewN q) (grown_trans HZG.out hzg2) hzl2 hzd2 hzv2 (by rw [hzv2];exact hz1') (by rw [BB_def];omega) hzo2
    have HST2:=Hd hst
    have qj:(j:Int) < ((m - n + 1:Nat) : Int):=by omega
    clear hst hz0' hz1' hP hbpos hzl2 hzv2 hzo2 hzg2
    go_wp2_with fail
    exact ⟨⟨j,_,rfl,rfl,HST2.out⟩,by simp [intOf]⟩
theorem Divided.mono {w:World} {x y:Int} {L L':Nat} {e:Ending} {w':World} (h:Divided w x y L e w') (hL:L <= L') : Divided w x y L' e w':=by
 obtain ⟨A,n,c,B,m,d,he,hq,hr,hb⟩:=h
 exact ⟨A,n,c,B,m,d,he,hq.mono hL,hr.mono hL,hb⟩
theorem divide_more (A B:Option Addr) (m c n d:Nat) (xs ys:List Int) (w:World) (h:Row .u32 w A m c xs) (g:Row .u32 w B n d ys) (hn:2 <= n) (hm:m <= 1048575)
  (hdx:Dig xs) (htx:Trimmed xs) (hdy:Dig ys) (hty:Trimmed ys) (hge:val ys <= val xs) :
  Calls Tryz.prog 165 #[.slice A m c,.slice B n d] w (Divided w (val xs) (val ys) (m + 1)):=by
 have hnm:n <= m:=by
  rcases Nat.lt_or_ge m n with hl | hl
  ·have:=val_lt_of_length hdx hdy hty (by rw [h.1,g.1];exact hl);omega
  ·exact hl
 have nx:Num w (.slice A m c) (val xs) m:=⟨_,_,_,xs,rfl,h,hdx,htx,rfl,Nat.le_refl _⟩
 have ny:Num w (.slice B n d) (val ys) n:=⟨_,_,_,ys,rfl,g,hdy,hty,rfl,Nat.le_refl _⟩
 have HX:=Hd nx
 have HY:=Hd ny
 have HH:=Hd h
 have HG:=Hd g
 have hc:¬ cmpI (val xs) (val ys) < 0:=by rcases Int.lt_or_eq_of_le hge with h | h;rw [cmpI_gt h];decide;rw [cmpI_eq h.symm];decide
 have h1:((n:Int) == 1) = false:=by simp;omega
 clear nx ny h g
 go_enter Tryz.func165,Tryz.ntmps165
 go_wp2_with fail
 refine (compare_num _ _ _ _ m n _ HX.out HY.out (by omega) (by omega)).mono ?_
 rintro e w1 ⟨rfl,k,rfl⟩
 go_wp2_with fail
 refine (long_any A B m c n d xs ys _ (HH.out.drewN k) (HG.out.drewN k) hn hnm hm hdx htx hdy hty).mono ?_
 rintro e w2 ⟨A2,n2,c2,A3,n3,c3,rfl,hq,hr,hb⟩
 have HQ:=Hd hq
 have HR:=Hd hr
 clear hq hr
 go_wp2_with fail
 go_ret2
 exact ⟨_,_,_,_,_,_,rfl,HQ.out,HR.out,(below_drewN (Below.refl _ _) k).trans hb⟩
theorem divide_any (u v:Value) (x y:Int) (L M:Nat) (w:World) (h:Num w u x L) (g:Num w v y M) (hL:L <= 1048575) (hM:M <= 1048576) (hy:y ≠ 0) :
  Calls Tryz.prog 165 #[u,v] w (Divided w x y (L + 2)):=by
 by_cases hlt:x < y
 ·refine (divide_less u v x y L M w h g (by omega) hM hlt).mono fun _ _ hd=>hd.mono (by omega)
 ·obtain ⟨A,m,c,xs,rfl,hr,hd,ht,rfl,hm⟩:=id h
  obtain ⟨B,n,d,ys,rfl,gr,gd,gt,rfl,hn⟩:=id g
  have hn0:n ≠ 0:=by
   intro h0
   have:ys = []:=List.eq_nil_of_length_eq_zero (by rw [gr.1];exact h0)
   rw [this] at hy;exact hy rfl
  by_cases h1:n = 1
  ·subst h1
   exact (divide_one _ B d (val xs) (val ys) L ys w h gr gd gt rfl (by omega) (by omega)).mono fun _ _ hd=>hd.mono (by omega)
  ·exact (divide_more A B m c n d xs ys w hr gr (by omega) (by omega) hd ht gd gt (by omega)).mono fun _ _ hd=>hd.mono (by omega)
theorem Divide_int (u v:Value) (x y:Int) (L M:Nat) (w:World) (h:Ival w u x L) (g:Ival w v y M) (hL:L <= 1048575) (hM:M <= 1048576) (hy:y ≠ 0) :
  Calls Tryz.prog 137 #[u,v] w fun e w'=>∃ n1 A1 l1 c1 n2 A2 l2 c2,e = .returned (.tuple #[.agg #[.bool n1,.slice A1 l1 c1],.agg #[.bool n2,.slice A2 l2 c2],.int .i64 0]) /\
   Ival w' (.agg #[.bool n1,.slice A1 l1 c1]) (x.tdiv y) (L + 2) /\ Ival w' (.agg #[.bool n2,.slice A2 l2 c2]) (x.tmod y) (L + 2) /\ Below w.heap.size w w':=by
 obtain ⟨p,A,n,c,rfl⟩:=h.form
 obtain ⟨q,B,m,d,rfl⟩:=g.form
 obtain ⟨a,ha,ha0,rfl,ha1⟩:=h.parts
 obtain ⟨b,hb,hb0,rfl,hb1⟩:=g.parts
 have hb':b ≠ 0:=by
  intro e;subst e;apply hy;cases q <;> rfl
 exact Divide_of p q A B n c m d a b L M (L + 2) w ha hb (by omega) hb' g fun w1 hw1=>divide_any _ _ a b L M w1 (ha.below hw1) (hb.below hw1) hL hM hb'
end Go.Proofs.YtbajnceoolkckaaGreat
