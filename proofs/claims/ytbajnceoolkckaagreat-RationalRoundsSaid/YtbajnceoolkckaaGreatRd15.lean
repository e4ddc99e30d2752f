/- Of the proof of RationalRounds: RDiv, RDivide, Shift2, Deposit, Boxes, PatKit, ShiftV, RShift, RPower, RPower2, PowInt. -/
import Derived.Test.YtbajnceoolkckaaGreatRd14
import Derived.Test.YtbajnceoolkckaaGreatRd09
import Derived.RegionTactic
import Derived.ChangeAlike
open List renaming getElem_toArray → gA, getElem_cons_succ → gS, getElem_cons_zero → gZ, setIfInBounds_toArray → tA, set_cons_zero → cZ, set_cons_succ → cS
open Go.Lib renaming hid → Hd
set_option maxRecDepth 100000
set_option maxHeartbeats 16000000
namespace Go.Proofs.YtbajnceoolkckaaGreat
open Go.RowKit LM
theorem digit_row (w:World) (x:Int) : Row .i64 (w.alloc (.cells #[.int .i64 x] 3)) (some ⟨w.heap.size,0,none⟩) 1 1 [x]:=by
 refine ⟨rfl,Nat.le_refl _,fun _=>⟨w.heap.size,0,rfl,by simp,fun i hi=>?_⟩⟩
 obtain rfl:i = 0:=by omega
 rw [World.cell?_alloc_at _ _ _ _ rfl];rfl
theorem rep_set (i:Nat) (qs:List Int) (u:Int) : (List.replicate (i + 1) 0 ++ qs).set i u = List.replicate i 0 ++ (u :: qs):=by
 rw [List.replicate_succ',List.append_assoc,List.set_append_right _ _ (by simp),List.length_replicate,Nat.sub_self];rfl
theorem rdivided_any (A B:Option Addr) (n m c d:Nat) (xs ys:List Int) (w:World) (h:Row .i64 w A n c xs) (g:Row .i64 w B m d ys) (hn:n <= 100000) (hm:m <= 100000) (hdx:DigR 65536 xs) (hdy:DigR 65536 ys) (hpos:0 < valR 65536 ys) :
  Calls Tryz.prog 122 #[.slice A n c,.slice B m d] w fun e w'=>(∃ v1 v2,e = .returned (.tuple #[v1,v2]) /\ RNum w' v1 (valR 65536 xs / valR 65536 ys) n /\ RNum w' v2 (valR 65536 xs % valR 65536 ys) n) /\ Below w.heap.size w w':=by
 obtain ⟨i0,hi,hz0,hz1,hz2⟩:=info_parts Tryz.info3
 have HGR:=Hd g
 obtain ⟨hl,hc,hcell⟩:=h
 have hb0:∀ i,i < n -> ∃ b o,A = some ⟨b,o,none⟩ /\ b < w.heap.size /\ w.cell? ⟨b,o + i,none⟩ = some (.int .i64 (xs.getD i 0)):=fun i hi=>by
  obtain ⟨b,o,e,hlt,hc2⟩:=hcell (by omega)
  exact ⟨b,o,e,hlt,hc2 i hi⟩
 have HX:=Hd hb0
 have HL:=Hd hl
 obtain ⟨Bv,hBv⟩ : ∃ Bv,valR 65536 ys = Bv:=⟨_,rfl⟩
 rw [hBv] at hpos ⊢
 have HBV:=Hd hBv
 clear hl hcell hb0 g hBv
 go_enter Tryz.func122,Tryz.ntmps122
 go_wp2_with (at_make;refine wpList_make_full _ rfl _ _ 32 rfl w.heap.size 3 i0 (.int .i64 0) 1 Tryz.underlying32 hi hz0 hz1 _ _ _ _ n rfl rfl (by omega) (by omega) (by rw [hz2];omega) (by unfold maxLen;omega) (Nat.le_refl _) ?_;intro w1 hown hgrow)
 go_loopw [7,8] (fun rv iv wr=>∃ (v:Int) (k:Nat),iv = .int .i64 v /\ v = (k:Int) - 1 /\ DivRel w wr n xs Bv rv k) (fun _ iv _=>(intOf iv + 1).toNat)
 case atStart=>
  refine ⟨_,n,rfl,rfl,Nat.le_refl _,(Below.refl _ _).grown hgrow (Nat.le_refl _) (fun _ h=>by cases h),⟨[],by simp,fun d h=>by simp at h,by rw [List.drop_of_length_le (by rw [HL.out];exact Nat.le_refl _)];simp [valR],?_⟩,?_⟩
  ·rw [zeros_made64] at hown
   rw [List.append_nil];exact hown
  ·rw [List.drop_of_length_le (by rw [HL.out];exact Nat.le_refl _)]
   exact ⟨none,0,0,[],rfl,Row.nil_,fun d h=>by simp at h,by simp [valR],Nat.zero_le _⟩
 case round=>
  obtain ⟨v,k,rfl,hv,hrel⟩:=hrel
  have HR:=Hd hrel
  clear hrel
  cases k with
  | zero=>
   have hv2:v < 0:=by omega
   obtain ⟨_,hbl,⟨qs,hql,hqd,hqv,ho⟩,hrn⟩:=HR.out
   have hrow:Row .i64 wr (some ⟨w.heap.size,0,none⟩) n n qs:=by
    rw [List.replicate_zero,List.nil_append] at ho;exact Row.of_own ho
   rw [List.drop_zero] at hqv hrn
   have HQD:=Hd hqd
   have HQV:=Hd hqv
   have HROW:=Hd hrow
   have HRN:=Hd hrn
   have HBL:=Hd hbl
   clear hv hql hqd hqv ho hrow hrn hbl
   go_wp2_with fail
   refine (rtrim_any _ _ _ _ _ HROW.out (by omega)).mono ?_
   rintro e w' ⟨A2,k2,c2,hk2,rfl,rfl,hr2,hv2',ht2⟩
   have HR2:=Hd hr2
   have HV2:=Hd hv2'
   clear hr2 hv2' ht2
   go_wp2
   go_ret2
   exact ⟨⟨_,_,rfl,⟨_,_,_,_,rfl,HR2.out,HQD.out.take _,HV2.out.trans HQV.out,hk2⟩,HRN.out⟩,HBL.out⟩
  | succ i=>
   obtain rfl:v = (i:Int):=by omega
   clear hv
   obtain ⟨hin,hbl,⟨qs,hql,hqd,hqv,ho⟩,A7,n7,c7,ds7,rfl,hr7,hd7,hv7,hn7⟩:=HR.out
   obtain ⟨b,o,rfl,hbx,hx⟩:=HX.out i hin
   obtain ⟨x,ex⟩ : ∃ x,xs.getD i 0 = x:=⟨_,rfl⟩
   rw [ex] at hx
   have bx:=DigR.getD hdx i
   rw [ex] at bx
   have hcx:=(hbl.cell (p:=⟨b,o + i,none⟩) hbx).trans hx
   obtain ⟨r,hr⟩ : ∃ r,valR 65536 (xs.drop (i + 1)) % Bv = r:=⟨_,rfl⟩
   obtain ⟨dq,dr⟩:=drop_val (xs:=xs) (i:=i) (x:=x) (B:=Bv) (by rw [HL.out];exact hin) ex hpos
   rw [hr] at dq dr hv7
   have hr0:0 <= r:=by rw [<- hr];exact Int.emod_nonneg _ (by omega)
   have hr1:r < Bv:=by rw [<- hr];exact Int.emod_lt_of_pos _ hpos
   obtain ⟨j0,j1,j2,j3⟩:=div_step hpos hr0 hr1 bx
   obtain ⟨Rv,hRv⟩ : ∃ Rv,x + 65536 * r = Rv:=⟨_,rfl⟩
   rw [hRv] at dq dr j0 j1 j2 j3
   have hHalf:=Half.start j0 j1
   have HDQ:=Hd dq
   have HDR:=Hd dr
   have HQ:=Hd (And.intro hql (And.intro hqd hqv))
   have HOWN:=Hd ho
   have HR7:=Hd hr7
   have HD7:=Hd hd7
   have HV7:=Hd hv7
   have HRV:=Hd hRv
   have HHALF:=Hd hHalf
   have HBL:=Hd hbl
   have hin2:(i:Int) < (n:Int):=by omega
   have hwr:w.heap.size < wr.heap.size:=(World.ownsRow.lt ho w.heap.size rfl).2
   have hb6:=below_alloc wr (.cells #[.int .i64 x] 3)
   have hlit:=World.ownsRow_lit (base:=wr.heap.size) (e:=3) (size:=1) wr #[.int .i64 x] 1 (Nat.le_refl _) (by unfold maxLen;omega) rfl
   have HLIT:=Hd hlit
   have HR7b:=Hd (hr7.below hb6)
   have hd8:DigR 65536 (x :: ds7):=fun d hd=>by
    rcases List.mem_cons.1 hd with h' | h'
    ·rw [h'];exact bx
    ·exact hd7 d h'
   have HD8:=Hd hd8
   clear hx ex hr7 hd7 hv7 dq dr hRv hHalf hql hqd hqv ho hr hbl hlit j0 j1 j2 j3 hr0 hr1 hd8
   go_wp2_with (at_builtin;refine wpList_append_row (P:=Tryz.prog) (w:=wr.alloc (.cells #[.int .i64 x] 3)) rfl (.tmp 26) (.tmp 27) 32 rfl wr.heap.size 3 i0 (.int .i64 0) 8 Tryz.underlying32 hi hz0 hz1 hz2 rfl (.slice (some ⟨wr.heap.size,0,none⟩) 1 1) 1 [.int .i64 x] rfl HLIT.out A7 n7 c7 ds7 rfl HR7b.out (by unfold maxLen;omega) (by omega) (by simp) ?_;intro v8 w7 hown8 hg8)
   have hbw7:=hb6.grown hg8 hb6.size (fun g hg=>by simp [Value.ownBlock] at hg;omega)
   obtain ⟨g8,c8,rfl,hge8⟩ : ∃ g8 c8,v8 = .slice (some ⟨g8,0,none⟩) (1 + n7) c8 /\ wr.heap.size <= g8:=by
    rcases hown8.2 with ⟨_,h0⟩ | ⟨g8,cap,cur,e8,hg8',_⟩
    ·omega
    ·exact ⟨g8,cap,e8,hg8'⟩
   have hrow8:Row .i64 w7 (some ⟨g8,0,none⟩) (1 + n7) c8 (x :: ds7):=Row.of_own (xs:=x :: ds7) (by simpa using hown8)
   have HROW8:=Hd hrow8
   clear hrow8 hown8 hg8
   go_wp2_with fail
   refine (rtrim_some _ _ _ _ _ HROW8.out (by omega)).mono ?_
   rintro e w' ⟨k9,hk9,rfl,rfl,hv9,ht9⟩
   have hval9:valR 65536 ((x :: ds7).take k9) = Rv:=by
    rw [hv9,<- HRV.out,<- HV7.out];rfl
   have hr9:=HROW8.out.take hk9
   have hd9:=HD8.out.take k9
   generalize ((x :: ds7).take k9) = rs at *
   have HR9:=Hd hr9
   have HV9:=Hd hval9
   have HT9:=Hd ht9
   have HD9:=Hd hd9
   have hw7:wr.heap.size <= w7.heap.size:=hbw7.size
   have HBW:=Hd (HBL.out.trans (hbw7.mono HBL.out.size))
   clear hr9 hv9 ht9 hval9 hd9
   go_wp2_with fail
   obtain ⟨wo,rfl⟩ : ∃ wo:World,wo = w7:=⟨_,rfl⟩
   go_loopw [9,10] (fun lv hv wx=>∃ lo hi:Int,lv = .int .i64 lo /\ hv = .int .i64 hi /\ Half Rv Bv lo hi /\ Below wo.heap.size wo wx) (fun lv hv _=>(intOf hv - intOf lv).toNat)
   case atStart=>exact ⟨0,65536,rfl,rfl,HHALF.out,Below.refl _ _⟩
   case round=>
    obtain ⟨lo,hh,rfl,rfl,hhalf,hbx2⟩:=hrel
    have HH:=Hd hhalf
    obtain ⟨l0,l1,l2,-,-⟩:=hhalf
    have s1:IntKind.i64.wrap (hh - lo) = hh - lo:=by rw [IntKind.wrap_i64];omega
    by_cases hgap:1 < hh - lo
    ·obtain ⟨mv,hmv⟩ : ∃ mv,mv = (lo + hh) / 2:=⟨_,rfl⟩
     have s2:IntKind.i64.wrap (lo + hh) = lo + hh:=by rw [IntKind.wrap_i64];omega
     have s3:(lo + hh).tdiv 2 = mv:=by rw [hmv];exact Int.tdiv_eq_ediv_of_nonneg (by omega)
     have s4:IntKind.i64.wrap mv = mv:=by rw [IntKind.wrap_i64];omega
     have m0:0 <= mv:=by omega
     have m1:mv < 65536:=by omega
     have hgl:lo < mv:=by omega
     have hgh:mv < hh:=by omega
     have HMV:=Hd hmv
     have HMID:=Hd (HH.out.mid hmv hgap)
     have hb8:=below_alloc wr (.cells #[.int .i64 mv] 3)
     clear hmv
     go_wp2_with fail
     refine (rtimes_any B _ m 1 d 1 ys [mv] _ (((HGR.out.below HBW.out).below hbx2).below hb8) (digit_row wr mv) (by omega) (by decide) hdy (fun d hd=>by simp at hd;rw [hd];exact ⟨m0,m1⟩)).mono ?_
     rintro e w9 ⟨v9,rfl,⟨A1,n1,c1,ds1,rfl,hr1,hd1,ht1,hv1,hn1⟩,hb9⟩
     have hp1:valR 65536 ds1 = mv * Bv:=by rw [hv1,HBV.out];simp [valR,Int.mul_comm]
     have HP1:=Hd hp1
     have HR1:=Hd hr1
     have hb89:=hb8.trans (hb9.mono hb8.size)
     have HR9b:=Hd ((HR9.out.below hbx2).below hb89)
     clear hr1 hv1 hp1 s2 s3 s4
     go_wp2_with fail
     refine (rcompare_any A1 _ n1 k9 c1 c8 ds1 rs _ HR1.out HR9b.out (by omega) (by omega) hd1 HD9.out ht1 HT9.out).mono ?_
     rintro e w10 ⟨rfl,qd,rfl⟩
     rw [HP1.out,HV9.out]
     have hbd:=below_drewN hb89 qd
     obtain ⟨cv,hcv⟩ : ∃ cv,cmpI (mv * Bv) Rv = cv:=⟨_,rfl⟩
     rw [hcv]
     by_cases hle:mv * Bv <= Rv
     ·have hcv0:cv <= 0:=by rw [<- hcv];exact cmpI_le.2 hle
      have HN:=Hd (HMID.out.1 hle)
      clear hcv hle
      go_wp2_with fail
      exact ⟨⟨mv,hh,rfl,rfl,HN.out,hbx2.trans (hbd.mono hbx2.size)⟩,by simp [intOf];omega⟩
     ·have hcv0:¬ cv <= 0:=by rw [<- hcv];exact fun h'=>hle (cmpI_le.1 h')
      have HN:=Hd (HMID.out.2 (by omega))
      clear hcv hle
      go_wp2_with fail
      exact ⟨⟨lo,mv,rfl,rfl,HN.out,hbx2.trans (hbd.mono hbx2.size)⟩,by simp [intOf];omega⟩
    ·have hlo:=HH.out.done hpos (by omega)
     have HLO:=Hd hlo
     clear hlo
     have ho2:Own64 wr w.heap.size w.heap.size n (List.replicate (i + 1) 0 ++ qs):=owns_below (owns_below HOWN.out hbw7) hbx2
     have hcu:=ho2.cell hin
     have hfr:=ho2.frozen i
     have hset:=ho2.set i lo
     rw [rep_set] at hset
     have HSET:=Hd hset
     have hB2:=(HBW.out.trans (hbx2.mono HBW.out.size)).setCell (p:=⟨w.heap.size,i,none⟩) (Nat.le_refl _) (.int .i64 lo)
     have HR9c:=Hd ((HR9.out.below hbx2).far (p:=⟨w.heap.size,i,none⟩) (show w.heap.size ≠ g8 by omega) (.int .i64 lo))
     have hqd:DigR 65536 (lo :: qs):=fun d hd=>by
      rcases List.mem_cons.1 hd with h' | h'
      ·rw [h'];exact ⟨l0,by omega⟩
      ·exact HQ.out.2.1 d h'
     have hqv:valR 65536 (lo :: qs) = valR 65536 (xs.drop i) / Bv:=by
      rw [HDQ.out,HLO.out,<- HQ.out.2.2];rfl
     have hql:(lo :: qs).length = n - i:=by have:=HQ.out.1;simp;omega
     have HQ2:=Hd (And.intro hql (And.intro hqd hqv))
     have hmod:=Int.emod_add_mul_ediv Rv Bv
     rw [HLO.out] at hmod
     have HMOD:=Hd hmod
     obtain ⟨u,hu⟩ : ∃ u,(List.replicate (i + 1) (0:Int) ++ qs).getD i 0 = u:=⟨_,rfl⟩
     rw [hu] at hcu
     clear ho2 hset hqd hqv hql hmod hu
     by_cases hl0:0 < lo
     ·have hwz:(wr.setCell ⟨w.heap.size,i,none⟩ (.int .i64 lo)).heap.size = wr.heap.size:=by simp [World.setCell]
      have hbs:Below wr.heap.size (wr.setCell ⟨w.heap.size,i,none⟩ (.int .i64 lo)) (wr.setCell ⟨w.heap.size,i,none⟩ (.int .i64 lo)):=Below.refl _ _
      have hbA:=below_alloc (wr.setCell ⟨w.heap.size,i,none⟩ (.int .i64 lo)) (.cells #[.int .i64 lo] 3)
      have HGA:=Hd ((HGR.out.below hB2).below hbA)
      have HRA:=Hd (HR9c.out.below hbA)
      have hdr:=digit_row (wr.setCell ⟨w.heap.size,i,none⟩ (.int .i64 lo)) lo
      have HSA:=Hd (show Own64 _ w.heap.size w.heap.size n (List.replicate i 0 ++ (lo :: qs)) from owns_below HSET.out hbA)
      rw [hwz] at hdr
      have HDRW:=Hd hdr
      have hBA:=hB2.trans (hbA.mono hB2.size)
      clear hdr hwz hbs
      go_wp2_with fail
      refine (rtimes_any B _ m 1 d 1 ys [lo] _ HGA.out HDRW.out (by omega) (by decide) hdy (fun d hd=>by simp at hd;rw [hd];exact ⟨l0,by omega⟩)).mono ?_
      rintro e w9 ⟨v9,rfl,⟨A1,n1,c1,ds1,rfl,hr1,hd1,ht1,hv1,hn1⟩,hb9⟩
      have hp1:valR 65536 ds1 = lo * Bv:=by rw [hv1,HBV.out];simp [valR,Int.mul_comm]
      have hle:valR 65536 ds1 <= valR 65536 rs:=by rw [hp1,HV9.out];have:=HH.out.2.2.2.1;exact this
      have hlen:=len_of_val HD9.out hd1 ht1 hle
      rw [hr1.1,HR9.out.1] at hlen
      have HP1:=Hd hp1
      have HR1:=Hd hr1
      have HLE:=Hd hle
      have HSB:=Hd (show Own64 _ w.heap.size w.heap.size n (List.replicate i 0 ++ (lo :: qs)) from owns_below HSA.out hb9)
      have hB9:=hBA.trans (hb9.mono hBA.size)
      clear hr1 hv1 hp1 hle
      go_wp2_with fail
      refine (rminus_any _ A1 k9 n1 c8 c1 rs ds1 _ (HRA.out.below hb9) HR1.out (by omega) hlen HD9.out hd1 HLE.out).mono ?_
      rintro e w10 ⟨⟨v10,rfl,hn10⟩,hb10⟩
      have HN10:=Hd hn10
      have HSC:=Hd (show Own64 _ w.heap.size w.heap.size n (List.replicate i 0 ++ (lo :: qs)) from owns_below HSB.out hb10)
      have hB10:=hB9.trans (hb10.mono hB9.size)
      clear hn10
      go_wp2_with fail
      refine ⟨⟨_,i,rfl,rfl,by omega,hB10,⟨_,HQ2.out.1,HQ2.out.2.1,HQ2.out.2.2,HSC.out⟩,?_⟩,by simp [intOf] <;> omega⟩
      obtain ⟨A11,n11,c11,ds11,e11,r11,d11,v11,l11⟩:=HN10.out
      refine ⟨A11,n11,c11,ds11,e11,r11,d11,?_,by omega⟩
      rw [v11,HP1.out,HV9.out,HDR.out]
      have h1:=HMOD.out
      rw [Int.mul_comm Bv] at h1
      omega
     ·have hlz:lo = 0:=by omega
      have HLZ:=Hd hlz
      clear hlz
      go_wp2_with fail
      refine ⟨⟨_,i,rfl,rfl,by omega,hB2,⟨_,HQ2.out.1,HQ2.out.2.1,HQ2.out.2.2,HSET.out⟩,⟨_,k9,c8,rs,rfl,HR9c.out,HD9.out,?_,by omega⟩⟩,by simp [intOf] <;> omega⟩
      rw [HV9.out,HDR.out]
      have h1:=HMOD.out
      rw [HLZ.out] at h1
      simp at h1
      omega
theorem div_hold {w w':World} {p q:Bool} {A B:Option Addr} {n c m d:Nat} (h:Below (w.heap.size + 4) ((((w.alloc (.cells #[.bool p,.slice A n c] 34)).alloc (.cells #[.bool q,.slice B m d] 34)).alloc (.cells #[.bool false,.slice none 0 0] 34)).alloc (.cells #[.bool false,.slice none 0 0] 34)) w') :
  (w'.cell? ⟨w.heap.size,0,none⟩ = some (.bool p) /\ w'.cell? ⟨w.heap.size,1,none⟩ = some (.slice A n c) /\ w'.cell? ⟨w.heap.size + 1,0,none⟩ = some (.bool q) /\ w'.cell? ⟨w.heap.size + 1,1,none⟩ = some (.slice B m d)) /\
  (w'.cell? ⟨w.heap.size + 1 + 1,0,none⟩ = some (.bool false) /\ w'.cell? ⟨w.heap.size + 1 + 1,1,none⟩ = some (.slice none 0 0) /\ w'.frozen? ⟨w.heap.size + 1 + 1,0,none⟩ = false /\ w'.frozen? ⟨w.heap.size + 1 + 1,1,none⟩ = false) /\
  (w'.cell? ⟨w.heap.size + 1 + 1 + 1,0,none⟩ = some (.bool false) /\ w'.cell? ⟨w.heap.size + 1 + 1 + 1,1,none⟩ = some (.slice none 0 0) /\ w'.frozen? ⟨w.heap.size + 1 + 1 + 1,0,none⟩ = false /\ w'.frozen? ⟨w.heap.size + 1 + 1 + 1,1,none⟩ = false):=by
 refine ⟨⟨?_,?_,?_,?_⟩,⟨?_,?_,?_,?_⟩,?_,?_,?_,?_⟩
 ·rw [h.cell (by simp),World.cell?_alloc_past _ _ _ (by simp <;> omega),World.cell?_alloc_past _ _ _ (by simp <;> omega),World.cell?_alloc_past _ _ _ (by simp),World.cell?_alloc_at _ _ _ _ rfl];rfl
 ·rw [h.cell (by simp),World.cell?_alloc_past _ _ _ (by simp <;> omega),World.cell?_alloc_past _ _ _ (by simp <;> omega),World.cell?_alloc_past _ _ _ (by simp),World.cell?_alloc_at _ _ _ _ rfl];rfl
 ·rw [h.cell (by simp),World.cell?_alloc_past _ _ _ (by simp <;> omega),World.cell?_alloc_past _ _ _ (by simp),World.cell?_alloc_at _ _ _ _ (by simp)];rfl
 ·rw [h.cell (by simp),World.cell?_alloc_past _ _ _ (by simp <;> omega),World.cell?_alloc_past _ _ _ (by simp),World.cell?_alloc_at _ _ _ _ (by simp)];rfl
 ·rw [h.cell (by simp),World.cell?_alloc_past _ _ _ (by simp),World.cell?_alloc_at _ _ _ _ (by simp)];rfl
 ·rw [h.cell (by simp),World.cell?_alloc_past _ _ _ (by simp),World.cell?_alloc_at _ _ _ _ (by simp)];rfl
 ·rw [h.frozen (by simp),World.frozen?_alloc_past _ _ _ (by simp)];exact World.frozen?_alloc_at _ _ _ _ (by simp)
 ·rw [h.frozen (by simp),World.frozen?_alloc_past _ _ _ (by simp)];exact World.frozen?_alloc_at _ _ _ _ (by simp)
 ·rw [h.cell (by simp),World.cell?_alloc_at _ _ _ _ (by simp)];rfl
 ·rw [h.cell (by simp),World.cell?_alloc_at _ _ _ _ (by simp)];rfl
 ·rw [h.frozen (by simp)];exact World.frozen?_alloc_at _ _ _ _ (by simp)
 ·rw [h.frozen (by simp)];exact World.frozen?_alloc_at _ _ _ _ (by simp)
theorem rDivide_any (p q:Bool) (A B:Option Addr) (n c m d:Nat) (xs ys:List Int) (w:World) (hr:Row .i64 w A n c xs) (gr:Row .i64 w B m d ys) (hd:DigR 65536 xs) (gd:DigR 65536 ys) (gt:Trimmed ys) (hpos:0 < valR 65536 ys) (hn:n <= 100000) (hm:m <= 100000) :
  Calls Tryz.prog 81 #[.agg #[.bool p,.slice A n c],.agg #[.bool q,.slice B m d]] w fun e w'=>(∃ g1 A1 n1 c1 g2 A2 n2 c2,e = .returned (.tuple #[.agg #[.bool g1,.slice A1 n1 c1],.agg #[.bool g2,.slice A2 n2 c2],.int .i64 0]) /\
   Rval w' (.agg #[.bool g1,.slice A1 n1 c1]) (withSign (p != q) (valR 65536 xs / valR 65536 ys)) n /\ Rval w' (.agg #[.bool g2,.slice A2 n2 c2]) (withSign p (valR 65536 xs % valR 65536 ys)) n) /\ Below w.heap.size w w':=by
 have hW:Below w.heap.size w ((((w.alloc (.cells #[.bool p,.slice A n c] 34)).alloc (.cells #[.bool q,.slice B m d] 34)).alloc (.cells #[.bool false,.slice none 0 0] 34)).alloc (.cells #[.bool false,.slice none 0 0] 34)):=((below_two w _ _).alloc (by simp;omega) _).alloc (by simp;omega) _
 have hs4:w.heap.size + 4 <= ((((w.alloc (.cells #[.bool p,.slice A n c] 34)).alloc (.cells #[.bool q,.slice B m d] 34)).alloc (.cells #[.bool false,.slice none 0 0] 34)).alloc (.cells #[.bool false,.slice none 0 0] 34)).heap.size:=by simp <;> omega
 have hs4':((((w.alloc (.cells #[.bool p,.slice A n c] 34)).alloc (.cells #[.bool q,.slice B m d] 34)).alloc (.cells #[.bool false,.slice none 0 0] 34)).alloc (.cells #[.bool false,.slice none 0 0] 34)).heap.size <= w.heap.size + 4:=by simp <;> omega
 have HX:=Hd (hr.below hW)
 have HY:=Hd (gr.below hW)
 have HS:=Hd (fun (w':World) (hb:Below (w.heap.size + 4) ((((w.alloc (.cells #[.bool p,.slice A n c] 34)).alloc (.cells #[.bool q,.slice B m d] 34)).alloc (.cells #[.bool false,.slice none 0 0] 34)).alloc (.cells #[.bool false,.slice none 0 0] 34)) w')=>div_hold hb)
 have hB0:=Below.refl (w.heap.size + 4) ((((w.alloc (.cells #[.bool p,.slice A n c] 34)).alloc (.cells #[.bool q,.slice B m d] 34)).alloc (.cells #[.bool false,.slice none 0 0] 34)).alloc (.cells #[.bool false,.slice none 0 0] 34))
 have hsg:(cmpI (withSign q (valR 65536 ys)) 0 == 0) = false:=by
  rcases cmpI_cases (withSign q (valR 65536 ys)) 0 with ⟨h,_,_⟩ | ⟨_,_,h⟩ | ⟨h,_,_⟩
  ·rw [h];rfl
  ·cases q <;> simp [withSign] at h <;> omega
  ·rw [h];rfl
 have hyv:Rval ((((w.alloc (.cells #[.bool p,.slice A n c] 34)).alloc (.cells #[.bool q,.slice B m d] 34)).alloc (.cells #[.bool false,.slice none 0 0] 34)).alloc (.cells #[.bool false,.slice none 0 0] 34)) (.agg #[.bool q,.slice B m d]) (withSign q (valR 65536 ys)) m:=⟨q,B,m,d,ys,rfl,HY.out,gd,gt,rfl,fun _=>by omega,Nat.le_refl _⟩
 have HYV:=Hd hyv
 have HSG:=Hd hsg
 clear hr gr hyv hsg
 go_enter Tryz.func81,Tryz.ntmps81
 go_wp2_with fail
 refine (rsign_any _ (withSign q (valR 65536 ys)) m _ HYV.out (by omega)).mono ?_
 rintro e w1 ⟨rfl,hb1⟩
 obtain ⟨sg,hsg⟩ : ∃ sg,cmpI (withSign q (valR 65536 ys)) 0 = sg:=⟨_,rfl⟩
 have hsg0:(sg == 0) = false:=by rw [<- hsg];exact HSG.out
 rw [hsg]
 have hB1:=hB0.trans (hb1.mono (B':=w.heap.size + 4) hs4)
 have hz1:=Nat.le_trans hs4 hB1.size
 obtain ⟨⟨k0,k1,k2,k3⟩,-⟩:=HS.out _ hB1
 clear hsg
 go_wp2_with fail
 refine (rdivided_any A B n m c d xs ys _ (HX.out.below hb1) (HY.out.below hb1) hn hm hd gd hpos).mono ?_
 rintro e w2 ⟨⟨v1,v2,rfl,hq,hrm⟩,hb2⟩
 obtain ⟨A1,n1,c1,ds1,rfl,r1,d1,v1,l1⟩:=hq
 obtain ⟨A2,n2,c2,ds2,rfl,r2,d2,v2,l2⟩:=hrm
 have R1:=Hd r1
 have R2:=Hd r2
 have V1:=Hd v1
 have V2:=Hd v2
 have hB2':=hB1.trans (hb2.mono (B':=w.heap.size + 4) hz1)
 have hB2:=hB2'.drew
 clear k0 k1 k2 k3 r1 r2 v1 v2
 obtain ⟨⟨k0,k1,k2,k3⟩,-⟩:=HS.out _ hB2'
 go_wp2_with fail
 generalize ((((w.alloc (.cells #[.bool p,.slice A n c] 34)).alloc (.cells #[.bool q,.slice B m d] 34)).alloc (.cells #[.bool false,.slice none 0 0] 34)).alloc (.cells #[.bool false,.slice none 0 0] 34)) = wl at *
 refine wp_region_held_drew (S:=fun w'=>w'.cell? ⟨w.heap.size,0,none⟩ = some (.bool p) /\ w'.cell? ⟨w.heap.size + 1,0,none⟩ = some (.bool q)) (by kernel_rfl) ⟨k0,k2⟩ (fun hHeld0=>?_)
 refine tk 0 22 (by assumption) ?_
 try simp only [Act.put,tA,cZ,cS]
 refine tk 1 23 (by assumption) ?_
 try simp only [Act.put,tA,cZ,cS]
 refine tk 2 24 (by assumption) ?_
 try simp only [Act.put,tA,cZ,cS]
 refine tk 3 25 (by assumption) ?_
 try simp only [Act.put,tA,cZ,cS]
 refine tk 4 26 (by assumption) ?_
 try simp only [Act.put,tA,cZ,cS]
 refine tk 5 27 (by assumption) ?_
 try simp only [Act.put,tA,cZ,cS]
 refine tk 7 29 (by assumption) ?_
 try simp only [Act.put,tA,cZ,cS]
 refine tk 8 30 (by assumption) ?_
 try simp only [Act.put,tA,cZ,cS]
 refine tk 9 31 (by assumption) ?_
 try simp only [Act.put,tA,cZ,cS]
 refine rd 6 (AllReadyH.cons rfl (fun K hK=>?_) AllReadyH.nil)
 try simp only [gA,gZ,gS]
 go_simp
 (go_at_call 121;refine (rmade_any (p != q) A1 n1 c1 ds1 _ (R1.out.below ((Below.refl _ _).drew)) (by omega) d1).mono ?_;rintro e w3 ⟨ng3,A3,n3,c3,rfl,hv3,hb3⟩)
 have hB3:=hB2.trans (hb3.mono (B':=w.heap.size + 4) (Nat.le_trans hs4 hB2.size))
 have HV3:=Hd hv3
 clear hv3 k0 k1 k2 k3
 obtain ⟨⟨k0,k1,k2,k3⟩,-⟩:=HS.out _ hB3
 refine hK.out _ _ ⟨k0,k2⟩ (fun hHeld1=>?_)
 clear hK K
 try simp only [Act.put,tA,cZ,cS]
 refine rd 10 (AllReadyH.cons rfl (fun K hK=>?_) AllReadyH.nil)
 try simp only [gA,gZ,gS]
 go_simp
 (go_at_call 121;refine (rmade_any p A2 n2 c2 ds2 _ ((R2.out.below ((Below.refl w2.heap.size w2).drew)).below hb3) (by omega) d2).mono ?_;rintro e w4 ⟨ng4,A4,n4,c4,rfl,hv4,hb4⟩)
 have hB4:=hB3.trans (hb4.mono (B':=w.heap.size + 4) (Nat.le_trans hs4 hB3.size))
 have HV4:=Hd hv4
 have HV3b:=Hd (HV3.out.below hb4)
 clear hv4 k0 k1 k2 k3
 obtain ⟨⟨k0,k1,k2,k3⟩,⟨e1,e2,e3,e4⟩,⟨g1,g2,g3,g4⟩⟩:=HS.out _ hB4
 refine hK.out _ _ ⟨k0,k2⟩ (fun hHeld2=>?_)
 clear hK K
 try simp only [Act.put,tA,cZ,cS]
 refine rd 11 (AllReadyH.cons rfl (fun K hK=>?_) AllReadyH.nil)
 try simp only [gA,gZ,gS]
 go_simp
 have s0:((w4.setCell ⟨w.heap.size + 1 + 1,0,none⟩ (.bool ng3)).setCell ⟨w.heap.size + 1 + 1,1,none⟩ (.slice A3 n3 c3)).cell? ⟨w.heap.size,0,none⟩ = some (.bool p):=by rw [World.cell?_setCell_other _ _ _ _ (by simp <;> omega),World.cell?_setCell_other _ _ _ _ (by simp <;> omega)];exact k0
 have s2:((w4.setCell ⟨w.heap.size + 1 + 1,0,none⟩ (.bool ng3)).setCell ⟨w.heap.size + 1 + 1,1,none⟩ (.slice A3 n3 c3)).cell? ⟨w.heap.size + 1,0,none⟩ = some (.bool q):=by rw [World.cell?_setCell_other _ _ _ _ (by simp <;> omega),World.cell?_setCell_other _ _ _ _ (by simp <;> omega)];exact k2
 refine hK.out _ _ ⟨s0,s2⟩ (fun hHeld3=>?_)
 clear hK K
 try simp only [Act.put,tA,cZ,cS]
 refine rd 12 (AllReadyH.cons rfl (fun K hK=>?_) AllReadyH.nil)
 try simp only [gA,gZ,gS]
 go_simp
 refine hK.out _ _ ⟨?_,?_⟩ (fun hHeld4=>?_)
 ·rw [World.cell?_setCell_other _ _ _ _ (by simp <;> omega),World.cell?_setCell_other _ _ _ _ (by simp <;> omega)];exact s0
 ·rw [World.cell?_setCell_other _ _ _ _ (by simp <;> omega),World.cell?_setCell_other _ _ _ _ (by simp <;> omega)];exact s2
 clear hK K
 try simp only [Act.put,tA,cZ,cS]
 refine tk 13 6 (by assumption) ?_
 try simp only [Act.put,tA,cZ,cS]
 refine wpAnyH_done (by kernel_rfl) ?_ _
 go_wp2
 have hrt:w.heap.size + 1 + 1 ≠ w.heap.size + 1 + 1 + 1:=by omega
 refine bodyPost_ret (v:=.tuple #[.agg #[.bool ng3,.slice A3 n3 c3],.agg #[.bool ng4,.slice A4 n4 c4],.int .i64 0]) (by simp [results,Tryz.results81,go_sem,e1,e2,g1,g2]) rfl ⟨⟨_,_,_,_,_,_,_,_,rfl,?_,?_⟩,?_⟩
 ·rw [<- V1.out];exact (HV3b.out.mono l1).stored2 hrt e1 e2 g1 g2 _ _ _ _
 ·rw [<- V2.out];exact (HV4.out.mono l2).stored2 hrt e1 e2 g1 g2 _ _ _ _
 ·exact ((((hW.trans (hB4.mono (by omega))).setCell (by show _ <= _;simp;omega) _).setCell (by show _ <= _;simp;omega) _).setCell (by show _ <= _;simp;omega) _).setCell (by show _ <= _;simp;omega) _
def shiftOf (x t:Int) : Int:=if 0 <= t then x * 2 ^ t.toNat else x / 2 ^ (-t).toNat
def RoomAt (v:World) (b:Nat) : Prop:=(v.cell? ⟨b,0,none⟩ = some (.bool false) /\ v.cell? ⟨b,1,none⟩ = some (.slice none 0 0) /\ v.frozen? ⟨b,0,none⟩ = false /\ v.frozen? ⟨b,1,none⟩ = false) /\ b < v.heap.size
theorem RoomAt.below {v w':World} {b:Nat} (h:RoomAt v b) (hb:Below v.heap.size v w') : RoomAt w' b:=
 ⟨⟨(hb.cell (p:=⟨b,0,none⟩) h.2).trans h.1.1,(hb.cell (p:=⟨b,1,none⟩) h.2).trans h.1.2.1,(hb.frozen (p:=⟨b,0,none⟩) h.2).trans h.1.2.2.1,(hb.frozen (p:=⟨b,1,none⟩) h.2).trans h.1.2.2.2⟩,Nat.lt_of_lt_of_le h.2 hb.size⟩
def BoxV (w:World) (b:Nat) (z:Int) (L:Nat) : Prop:=
 b < w.heap.size /\ ∃ g A n c,w.cell? ⟨b,0,none⟩ = some (.bool g) /\ w.cell? ⟨b,1,none⟩ = some (.slice A n c) /\ Ival w (.agg #[.bool g,.slice A n c]) z L
theorem BoxV.below {w w':World} {b:Nat} {z:Int} {L:Nat} (h:BoxV w b z L) (hb:Below w.heap.size w w') : BoxV w' b z L:=by
 obtain ⟨h1,g,A,n,c,c0,c1,hv⟩:=h
 exact ⟨Nat.lt_of_lt_of_le h1 hb.size,g,A,n,c,(hb.cell (p:=⟨b,0,none⟩) h1).trans c0,(hb.cell (p:=⟨b,1,none⟩) h1).trans c1,hv.below hb⟩
def Boxes (w:World) (l:List (Nat × Int × Nat)) : Prop:=∀ t ∈ l,BoxV w t.1 t.2.1 t.2.2
theorem Boxes.below {w w':World} {l:List (Nat × Int × Nat)} (h:Boxes w l) (hb:Below w.heap.size w w') : Boxes w' l:=fun t ht=>(h t ht).below hb
theorem Boxes.nil {w:World} : Boxes w []:=fun t ht=>by simp at ht
theorem Boxes.get {w:World} {l:List (Nat × Int × Nat)} (h:Boxes w l) {b:Nat} {z:Int} {L:Nat} (hm:(b,z,L) ∈ l) : BoxV w b z L:=h _ hm
theorem Boxes.add {w:World} {l:List (Nat × Int × Nat)} (h:Boxes w l) {g:Bool} {A:Option Addr} {n c L:Nat} {z:Int} (t:TypeId) (hv:Ival w (.agg #[.bool g,.slice A n c]) z L) :
  Boxes (w.alloc (.cells #[.bool g,.slice A n c] t)) ((w.heap.size,z,L) :: l):=by
 have hb:=below_alloc w (.cells #[.bool g,.slice A n c] t)
 intro x hx
 rcases List.mem_cons.1 hx with rfl | hx
 ·refine ⟨by simp,g,A,n,c,?_,?_,hv.below hb⟩
  ·rw [World.cell?_alloc_at _ _ _ _ rfl];rfl
  ·rw [World.cell?_alloc_at _ _ _ _ rfl];rfl
 ·exact (h x hx).below hb
theorem IsLen.le_of_lt {z:Int} {k N:Nat} (h:IsLen z k) (hz:z < 2 ^ N) : k <= N:=by
 rcases h with ⟨_,rfl⟩ | ⟨h1,h2,_⟩
 ·omega
 ·have:=two_lt (show (2:Int) ^ (k - 1) < 2 ^ N by omega)
  omega
def NewBox (wk:World) (l:List (Nat × Int × Nat)) (z:Int) (L:Nat) (v:Value) (wx:World) : Prop:=
 ∃ b,v = .pointer (some ⟨b,0,none⟩) /\ Boxes wx ((b,z,L) :: l) /\ Below wk.heap.size wk wx
theorem NewBox.mk {wk wx:World} {l:List (Nat × Int × Nat)} {b:Nat} {z:Int} {L:Nat} (h:Boxes wk l) (hb:Below wk.heap.size wk wx) (hn:BoxV wx b z L) : NewBox wk l z L (.pointer (some ⟨b,0,none⟩)) wx:=by
 refine ⟨b,rfl,fun t ht=>?_,hb⟩
 rcases List.mem_cons.1 ht with rfl | ht
 ·exact hn
 ·exact (h t ht).below hb
def TooFar (x t:Int) : Prop:=0 < t /\ x ≠ 0 /\ ∃ k:Nat,IsLen (patOf x) k /\ 65536 < (k:Int) + t
def ShiftV (x t z err:Int) : Prop:=TooFar x t /\ z = 0 /\ err = 14 \/ ¬ TooFar x t /\ z = shiftOf x t /\ err = 0
theorem ShiftV.same {x t z err z' err':Int} (h:ShiftV x t z err) (g:ShiftV x t z' err') : z' = z /\ err' = err:=by
 rcases h with ⟨a,rfl,rfl⟩ | ⟨a,rfl,rfl⟩ <;> rcases g with ⟨b,rfl,rfl⟩ | ⟨b,rfl,rfl⟩
 ·exact ⟨rfl,rfl⟩
 ·exact absurd a b
 ·exact absurd b a
 ·exact ⟨rfl,rfl⟩
theorem IsLen.some {z:Int} (h0:0 <= z) : ∃ k,IsLen z k:=by
 have key:∀ N:Nat,∀ z:Int,0 <= z -> z < 2 ^ N -> ∃ k,IsLen z k:=by
  intro N
  induction N with
  | zero=>intro z h0 h1;exact ⟨0,.inl ⟨by simp at h1;omega,rfl⟩⟩
  | succ N ih=>
   intro z h0 h1
   by_cases hz:z < 2 ^ N
   ·exact ih z h0 hz
   ·exact ⟨N + 1,.inr ⟨by omega,by rw [Nat.add_sub_cancel];omega,h1⟩⟩
 have hlt:=Nat.lt_two_pow_self (n:=z.toNat)
 refine key z.toNat z h0 ?_
 have e:(((2:Nat) ^ z.toNat:Nat) : Int) = (2:Int) ^ z.toNat:=by simp
 rw [<- e];omega
theorem rbox_new {w w':World} {p:Bool} {u:Value} {t:TypeId} (h:Below (w.heap.size + 1) (w.alloc (.cells #[.bool p,u] t)) w') : w'.cell? ⟨w.heap.size,0,none⟩ = some (.bool p) /\ w'.cell? ⟨w.heap.size,1,none⟩ = some u:=by
 refine ⟨?_,?_⟩
 ·rw [h.cell (by simp),World.cell?_alloc_at _ _ _ _ (by simp)];rfl
 ·rw [h.cell (by simp),World.cell?_alloc_at _ _ _ _ (by simp)];rfl
theorem Rval.restored {w:World} {s:Value} {z:Int} {L:Nat} (h:Rval w s z L) {r:Nat} {g:Bool} {A:Option Addr} {n c:Nat} (e1:w.cell? ⟨r,0,none⟩ = some (.bool g)) (e2:w.cell? ⟨r,1,none⟩ = some (.slice A n c)) (x y:Value) :
  Rval ((w.setCell ⟨r,0,none⟩ x).setCell ⟨r,1,none⟩ y) s z L:=by
 obtain ⟨neg,A',n',c',ds,e,hr,t⟩:=h
 refine ⟨neg,A',n',c',ds,e,(hr.setOther (fun u=>by rw [e1];simp) x).setOther (fun u=>?_) y,t⟩
 rw [World.cell?_setCell_other _ _ _ _ (by simp),e2];simp
def RBox (w:World) (b:Nat) (z:Int) (L:Nat) : Prop:=
 ∃ g A n c,w.cell? ⟨b,0,none⟩ = some (.bool g) /\ w.cell? ⟨b,1,none⟩ = some (.slice A n c) /\ w.frozen? ⟨b,0,none⟩ = false /\ w.frozen? ⟨b,1,none⟩ = false /\ b < w.heap.size /\ Rval w (.agg #[.bool g,.slice A n c]) z L
theorem RBox.new (w:World) (g:Bool) (A:Option Addr) (n c L:Nat) (z:Int) (h:Rval w (.agg #[.bool g,.slice A n c]) z L) : RBox (w.alloc (.cells #[.bool g,.slice A n c] 34)) w.heap.size z L:=
 ⟨g,A,n,c,(rbox_new (Below.refl _ _)).1,(rbox_new (Below.refl _ _)).2,World.frozen?_alloc_at _ _ _ _ rfl,World.frozen?_alloc_at _ _ _ _ rfl,by simp,h.below (below_alloc _ _)⟩
theorem RBox.below {w w':World} {b:Nat} {z:Int} {L:Nat} (h:RBox w b z L) (hb:Below w.heap.size w w') : RBox w' b z L:=by
 obtain ⟨g,A,n,c,h1,h2,h3,h4,h5,h6⟩:=h
 exact ⟨g,A,n,c,(hb.cell (p:=⟨b,0,none⟩) h5).trans h1,(hb.cell (p:=⟨b,1,none⟩) h5).trans h2,(hb.frozen (p:=⟨b,0,none⟩) h5).trans h3,(hb.frozen (p:=⟨b,1,none⟩) h5).trans h4,Nat.lt_of_lt_of_le h5 hb.size,h6.below hb⟩
theorem RBox.set {w:World} {b:Nat} {z y:Int} {L M:Nat} (h:RBox w b z L) {g:Bool} {A:Option Addr} {n c:Nat} (hv:Rval w (.agg #[.bool g,.slice A n c]) y M) :
  ((w.setCell ⟨b,0,none⟩ (.bool g)).setCell ⟨b,1,none⟩ (.slice A n c)).cell? ⟨b,0,none⟩ = some (.bool g) /\ ((w.setCell ⟨b,0,none⟩ (.bool g)).setCell ⟨b,1,none⟩ (.slice A n c)).cell? ⟨b,1,none⟩ = some (.slice A n c) /\
  Rval ((w.setCell ⟨b,0,none⟩ (.bool g)).setCell ⟨b,1,none⟩ (.slice A n c)) (.agg #[.bool g,.slice A n c]) y M /\ RBox ((w.setCell ⟨b,0,none⟩ (.bool g)).setCell ⟨b,1,none⟩ (.slice A n c)) b y M:=by
 obtain ⟨g0,A0,n0,c0,h1,h2,h3,h4,h5,h6⟩:=h
 have e1:((w.setCell ⟨b,0,none⟩ (.bool g)).setCell ⟨b,1,none⟩ (.slice A n c)).cell? ⟨b,0,none⟩ = some (.bool g):=by
  rw [World.cell?_setCell_other _ _ _ _ (by simp)];exact World.cell?_setCell_same _ _ _ h1
 have e2:((w.setCell ⟨b,0,none⟩ (.bool g)).setCell ⟨b,1,none⟩ (.slice A n c)).cell? ⟨b,1,none⟩ = some (.slice A n c):=
  World.cell?_setCell_same _ _ _ ((World.cell?_setCell_other _ _ _ _ (by simp)).trans h2)
 exact ⟨e1,e2,hv.restored h1 h2 _ _,g,A,n,c,e1,e2,by simpa using h3,by simpa using h4,by simpa using h5,hv.restored h1 h2 _ _⟩
def powV (x n:Int) : Int:=if n < 0 then 0 else x ^ n.toNat
theorem IsLen.le {z:Int} {k N:Nat} (h:IsLen z k) (hz:z < 2 ^ N) : k <= N:=by
 rcases h with ⟨_,rfl⟩ | ⟨h1,h2,_⟩
 ·exact Nat.zero_le _
 ·have:=two_lt (show (2:Int) ^ (k - 1) < 2 ^ N by omega)
  omega
end Go.Proofs.YtbajnceoolkckaaGreat
