/- Of the proof of RationalRounds: RatOpen, Words0. -/
import Derived.Test.YtbajnceoolkckaaGreatRd00
import Derived.Shelf.Vars
import Derived.HandedShaped
import Derived.Laws.CopyOwn
open List renaming set_cons_zero → cZ
open Go.Lib renaming hid → Hd
set_option maxRecDepth 100000
set_option maxHeartbeats 16000000
namespace Go.Proofs.YtbajnceoolkckaaGreat
open Go.ChangeShapes Go.WideShapes Go.ChangeAt Go.RowKit Go.Joins
theorem Tryz.cells22:Tryz.prog.cellsOf 22 = 1:=by kernel_rfl
theorem Tryz.cells26:Tryz.prog.cellsOf 26 = 4:=by kernel_rfl
theorem cells24 {H:Type} {enc:TypeId × Value -> H} {W:World} {fuel:Nat} {c0 c1:Value} {y:DataW H × List MemPlace} (h:DataW.trod enc Tryz.prog W 0 (fun _=>true) true fuel 24 [c0,c1] = some y) :
  ∃ neg A n c xs,c0 = .bool neg /\ c1 = .slice A n c /\ Row .u32 W A n c xs /\ LM.Dig xs:=by
 obtain ⟨y0,y1,n,_,_,hy0,hy1⟩:=trod_struct2 Tryz.underlying24 h
 have hy0:DataW.trod enc Tryz.prog W 0 (fun _=>true) true n 4 [c0] = some y0:=hy0
 have hy1:DataW.trod enc Tryz.prog W 0 (fun _=>true) true n 22 [c1] = some y1:=hy1
 obtain ⟨b,h0,_⟩:=DataW.trod_bool Tryz.underlying4 hy0
 simp at h0
 subst h0
 rcases open_ints Tryz.underlying22 Tryz.underlying135 Tryz.cells135 hy1 with ⟨hcs,_⟩ | ⟨x,l,c,zs,hcs,_,hl,hm,hz,_,hcell,hwz⟩
 ·have hcs:c1 = .slice none 0 0:=by simpa [Tryz.cells22] using hcs
  subst hcs
  exact ⟨b,none,0,0,[],rfl,rfl,Row.nil_,LM.Dig.nil⟩
 ·have hcs:c1 = .slice (some x) l c:=by simpa [Tryz.cells22] using hcs
  simp at hz
  subst hcs
  refine ⟨b,some x,l,c,zs.take l,rfl,rfl,⟨by rw [List.length_take];omega,hl,fun hn=>?_⟩,fun i hi=>?_⟩
  ·obtain ⟨g,o,spot⟩:=x
   have hc0:=hcell 0 (by omega)
   have hs:spot = none:=by simpa [Addr.add] using World.cell?_spot hc0
   subst hs
   refine ⟨g,o,rfl,by simpa [Addr.add] using cell_lt hc0,fun i hi=>?_⟩
   have:=hcell i (by omega)
   rw [Addr.add_lit] at this
   simpa [List.getD,hi] using this
  ·rw [List.length_take] at hi
   have hi':i < zs.length:=by omega
   have e:(zs.take l).getD i 0 = zs[i]:=by simp [List.getD,hi',show i < l by omega]
   rw [e]
   have:=hwz zs[i] (List.getElem_mem hi')
   simp [Lit.wf,IntKind.min,IntKind.max,IntKind.signed,IntKind.bits] at this
   rw [LM.BB_def]
   omega
theorem arg26 {H:Type} {enc:TypeId × Value -> H} {W:World} {r:Reach} {b0:Nat} {v:Value} {d:DataW H} {p:List MemPlace} (hv:Value.okWide Tryz.prog W r b0 26 v) (h:DataW.Trod enc Tryz.prog W 0 (fun _=>true) true 26 v d p) :
  ∃ p0 A0 n0 c0 xs0 p1 A1 n1 c1 xs1,v = .agg #[.bool p0,.slice A0 n0 c0,.bool p1,.slice A1 n1 c1] /\ Row .u32 W A0 n0 c0 xs0 /\ LM.Dig xs0 /\ Row .u32 W A1 n1 c1 xs1 /\ LM.Dig xs1:=by
 obtain ⟨cs,rfl,hsz⟩:=okWide_struct Tryz.underlying26 hv
 obtain ⟨a0,a1,a2,a3,rfl⟩:=array4 (hsz.trans Tryz.cells26)
 obtain ⟨fuel,hf⟩:=h
 obtain ⟨y0,y1,n,_,_,h0,h1⟩:=trod_struct2 Tryz.underlying26 hf
 have h0:DataW.trod enc Tryz.prog W 0 (fun _=>true) true n 24 [a0,a1] = some y0:=by simpa [Value.cells,Tryz.cells24] using h0
 have h1:DataW.trod enc Tryz.prog W 0 (fun _=>true) true n 24 [a2,a3] = some y1:=by simpa [Value.cells,Tryz.cells24] using h1
 obtain ⟨p0,A0,n0,c0,xs0,rfl,rfl,g0,e0⟩:=cells24 h0
 obtain ⟨p1,A1,n1,c1,xs1,rfl,rfl,g1,e1⟩:=cells24 h1
 exact ⟨p0,A0,n0,c0,xs0,p1,A1,n1,c1,xs1,rfl,g0,e0,g1,e1⟩
theorem maxlen (W:World) (h:W.ShapedOpen Tryz.prog) : ∃ m,W.cell? ⟨0,0,none⟩ = some (.int .i64 m):=
 cell_of_shapedOpen_int (t:=3) (zero:=#[.int .i64 0]) h (of_decide_eq_true (by kernel_rfl)) (by kernel_rfl) (by kernel_rfl) (by kernel_rfl) (by kernel_rfl) (by kernel_rfl)
open Go.RowKit LM
theorem or_join (h l:Int) (h0:0 <= h) (h1:h < 4294967296) (l0:0 <= l) (l1:l < 4294967296) : bits BinOp.or IntKind.u64 (h * 4294967296) l = h * 4294967296 + l:=by
 obtain ⟨H,rfl⟩:=Int.eq_ofNat_of_zero_le h0
 obtain ⟨L,rfl⟩:=Int.eq_ofNat_of_zero_le l0
 have e:((H:Int) * 4294967296) = ((H * 4294967296:Nat) : Int):=by omega
 rw [e,u64_or_nat _ _ (by omega) (by omega),nat_join 32 _ _ (by omega) (by omega)]
 omega
theorem words64_any (u:Int) (w:World) (h0:0 <= u) (h1:u < 18446744073709551616) :
  Calls Tryz.prog 118 #[.int .u64 u] w fun e w'=>∃ r,e = .returned r /\ Num w' r u 2 /\ Below w.heap.size w w':=by
 have hb:=below_alloc w (.cells #[.int .u32 (u % 4294967296),.int .u32 (u / 4294967296)] 135)
 have hown:=World.ownsRow_lit (base:=w.heap.size) (size:=1) (e:=135) w #[.int .u32 (u % 4294967296),.int .u32 (u / 4294967296)] 2 (Nat.le_refl _) (by unfold maxLen;omega) rfl
 have hrow:Row .u32 (w.alloc (.cells #[.int .u32 (u % 4294967296),.int .u32 (u / 4294967296)] 135)) (some ⟨w.heap.size,0,none⟩) 2 2 [u % 4294967296,u / 4294967296]:=Row.of_own hown
 have hd:Dig [u % 4294967296,u / 4294967296]:=by
  rw [Dig.cons_iff,Dig.cons_iff,BB_def]
  exact ⟨⟨by omega,by omega⟩,⟨by omega,by omega⟩,Dig.nil⟩
 have hv:val [u % 4294967296,u / 4294967296] = u:=by simp only [val,BB_def];omega
 have HR:=Hd hrow
 have HV:=Hd hv
 clear hown hrow hv
 go_enter Tryz.func118,Tryz.ntmps118
 go_wp2_with fail
 refine (trim_any _ 2 2 [u % 4294967296,u / 4294967296] _ HR.out (by omega)).mono ?_
 rintro e w' ⟨j,hj,rfl,rfl,hvj,htj⟩
 have HVJ:=Hd hvj
 have HT:=Hd htj
 clear hvj htj
 go_wp2
 go_ret
 exact ⟨_,rfl,⟨_,_,_,_,rfl,HR.out.take hj,hd.take _,HT.out,HVJ.out.trans HV.out,hj⟩,hb⟩
theorem new_int (n:Int) (w:World) (h0:-9223372036854775808 <= n) (h1:n <= 9223372036854775807) :
  Calls Tryz.prog 65 #[.int .i64 n] w fun e w'=>∃ r,e = .returned r /\ Ival w' r n 2 /\ Below w.heap.size w w':=by
 have hW:=below_alloc w (.cells #[.bool false,.slice none 0 0] 31)
 by_cases hn:n < 0
 ·have hw:IntKind.u64.wrap (-IntKind.u64.wrap n) = -n:=by rw [IntKind.wrap_u64,IntKind.wrap_u64];omega
  have HW:=Hd hw
  clear hw
  go_enter Tryz.func65,Tryz.ntmps65
  go_wp2_with fail
  refine (words64_any _ _ (by rw [HW.out];omega) (by rw [HW.out];omega)).mono ?_
  rintro e w1 ⟨r1,rfl,hr1,hb1⟩
  rw [HW.out] at hr1
  go_wp2_with fail
  refine (signed_out true _ _ _ _ hr1 (by omega)).mono ?_
  rintro e w2 ⟨ng,A2,n2,c2,rfl,hv2,hb2⟩
  have hB:=(hb1.mono (B':=w.heap.size + 1) (by simp)).trans (hb2.mono (B':=w.heap.size + 1) (by have:=hb1.size;simpa using this))
  obtain ⟨e1,e2,f1,f2⟩:=room0 hB
  go_wp2
  refine bodyPost_ret (v:=.agg #[.bool ng,.slice A2 n2 c2]) (by simp [results,Tryz.results65,go_sem,e1,e2]) rfl ⟨_,rfl,?_,?_⟩
  ·have e0:withSign true (-n) = n:=by simp [withSign]
   rw [<- e0];exact hv2.stored e1 e2 _ _
  ·exact ((hW.trans (hB.mono (by omega))).setCell (Nat.le_refl _) _).setCell (Nat.le_refl _) _
 ·go_enter Tryz.func65,Tryz.ntmps65
  go_wp2_with fail
  refine (words64_any _ _ (by omega) (by omega)).mono ?_
  rintro e w1 ⟨r1,rfl,hr1,hb1⟩
  go_wp2_with fail
  refine (signed_out false _ _ _ _ hr1 (by omega)).mono ?_
  rintro e w2 ⟨ng,A2,n2,c2,rfl,hv2,hb2⟩
  have hB:=(hb1.mono (B':=w.heap.size + 1) (by simp)).trans (hb2.mono (B':=w.heap.size + 1) (by have:=hb1.size;simpa using this))
  obtain ⟨e1,e2,f1,f2⟩:=room0 hB
  go_wp2
  refine bodyPost_ret (v:=.agg #[.bool ng,.slice A2 n2 c2]) (by simp [results,Tryz.results65,go_sem,e1,e2]) rfl ⟨_,rfl,hv2.stored e1 e2 _ _,?_⟩
  exact ((hW.trans (hB.mono (by omega))).setCell (Nat.le_refl _) _).setCell (Nat.le_refl _) _
theorem div32_any (h l y:Int) (w:World) (h0:0 <= h) (hy:h < y) (hy1:y < 4294967296) (l0:0 <= l) (l1:l < 4294967296) :
  Calls Tryz.prog 185 #[.int .u32 h,.int .u32 l,.int .u32 y] w fun e w'=>e = .returned (.tuple #[.int .u32 ((h * 4294967296 + l) / y),.int .u32 ((h * 4294967296 + l) % y)]) /\ ∃ q,w' = w.drewN q:=by
 have hj:=or_join h l h0 (by omega) l0 l1
 obtain ⟨z,hz⟩ : ∃ z,h * 4294967296 + l = z:=⟨_,rfl⟩
 rw [hz] at hj
 have z0:0 <= z:=by omega
 have z1:z < 18446744073709551616:=by omega
 have q0:0 <= z / y:=Int.ediv_nonneg z0 (by omega)
 have q1:z / y < 4294967296:=Int.ediv_lt_of_lt_mul (by omega) (by omega)
 have r0:0 <= z % y:=Int.emod_nonneg _ (by omega)
 have r1:z % y < y:=Int.emod_lt_of_pos _ (by omega)
 rw [hz]
 clear hz
 have y0:(y != 0) = true:=by simp;omega
 have y1:(y == 0) = false:=by simp;omega
 go_enter Tryz.func185,Tryz.ntmps185
 go_wp2_with fail
 go_quiet (fail)
 go_wp2
 go_ret2
 exact ⟨rfl,_,rfl⟩
def ShortRel (w wr:World) (n:Nat) (xs:List Int) (y:Int) (k:Nat) (r:Int) : Prop:=
 k <= n /\ (0 <= r /\ r < y) /\ Below w.heap.size w wr /\ ∃ qs:List Int,qs.length = n - k /\ Dig qs /\ val (xs.drop k) = y * val qs + r /\
  Own wr w.heap.size w.heap.size n (List.replicate k 0 ++ qs)
theorem ShortRel.cells {w wr:World} {n:Nat} {xs:List Int} {y:Int} {k:Nat} {r:Int} (h:ShortRel w wr n xs y k r) (hk:k ≠ 0) :
  (∃ u,wr.cell? ⟨w.heap.size,k - 1,none⟩ = some (.int .u32 u)) /\ wr.frozen? ⟨w.heap.size,k - 1,none⟩ = false:=by
 obtain ⟨hkn,_,_,qs,_,_,_,ho⟩:=h
 exact ⟨⟨_,ho.cell (by omega)⟩,ho.frozen _⟩
theorem zeros_set (qs:List Int) (k:Nat) (hk:k ≠ 0) (u:Int) : (List.replicate k 0 ++ qs).set (k - 1) u = List.replicate (k - 1) 0 ++ u :: qs:=by
 obtain ⟨j,rfl⟩ : ∃ j,k = j + 1:=⟨k - 1,by omega⟩
 rw [Nat.add_sub_cancel,List.replicate_succ',List.append_assoc,List.set_append_right _ _ (by simp)]
 simp
theorem ShortRel.step {w wr:World} {n:Nat} {xs:List Int} {y:Int} {k:Nat} {r x:Int} (h:ShortRel w wr n xs y k r) (hk:k ≠ 0) (hl:xs.length = n) (hx:0 <= x /\ x < 4294967296) (hy:y < 4294967296) (ex:xs.getD (k - 1) 0 = x) (q:Nat) :
  ShortRel w ((wr.drewN q).setCell ⟨w.heap.size,k - 1,none⟩ (.int .u32 ((r * 4294967296 + x) / y))) n xs y (k - 1) ((r * 4294967296 + x) % y):=by
 obtain ⟨hkn,hr,hb,qs,hql,hqd,hv,ho⟩:=h
 have z0:0 <= r * 4294967296 + x:=by omega
 have hset:=(ho.drewN q).set (k - 1) ((r * 4294967296 + x) / y)
 rw [zeros_set qs k hk] at hset
 refine ⟨by omega,⟨Int.emod_nonneg _ (by omega),Int.emod_lt_of_pos _ (by omega)⟩,(below_drewN hb q).setCell (Nat.le_refl _) _,(r * 4294967296 + x) / y :: qs,by simp [hql];omega,?_,?_,hset⟩
 ·rw [Dig.cons_iff]
  exact ⟨⟨Int.ediv_nonneg z0 (by omega),Int.ediv_lt_of_lt_mul (by omega) (by rw [BB_def];omega)⟩,hqd⟩
 ·rw [drop_cons xs (k - 1) (by omega),ex,val_cons,val_cons,show k - 1 + 1 = k from by omega,hv]
  have e1:y * ((r * 4294967296 + x) / y) + (r * 4294967296 + x) % y = r * 4294967296 + x:=Int.mul_ediv_add_emod _ _
  have e2:BB * (y * val qs + r) = y * (BB * val qs) + r * 4294967296:=by rw [BB_def];grind
  rw [e2,Int.mul_add y]
  omega
def Words (w:World) (v:Value) : Prop:=∀ A n c,v = .slice A n c -> n ≠ 0 -> ∃ b o cs fr,A = some ⟨b,o,none⟩ /\ w.heap[b]? = some (.cells cs 135 fr)
theorem Own.block {w:World} {base g n:Nat} {xs:List Int} (h:Own w base g n xs) : ∃ cs fr,w.heap[g]? = some (.cells cs 135 fr):=by
 rcases h.2 with ⟨h',_⟩ | ⟨g',cap,cur,h',_,hh,_⟩
 ·simp at h'
 ·simp only [Value.slice.injEq,Option.some.injEq,Addr.mk.injEq,and_true] at h'
  obtain ⟨rfl,_⟩:=h'
  exact ⟨_,_,hh⟩
theorem sdiv_words (A:Option Addr) (n c:Nat) (xs:List Int) (y:Int) (w:World) (h:Row .u32 w A n c xs) (hn:n <= 1048577) (hdx:Dig xs) (hy0:0 < y) (hy1:y < 4294967296) :
  Calls Tryz.prog 171 #[.slice A n c,.int .u32 y] w fun e w'=>∃ v,e = .returned (.tuple #[v,.int .u32 (val xs % y)]) /\ Num w' v (val xs / y) n /\ Words w' v /\ Below w.heap.size w w':=by
 obtain ⟨i0,hi,hz0,hz1,hz2⟩:=info_parts Tryz.info135
 obtain ⟨hl,hc,hcell⟩:=h
 have HL:=Hd hl
 clear hl
 go_enter Tryz.func171,Tryz.ntmps171
 go_wp2_with (at_make;refine wpList_make_full _ rfl _ _ 22 rfl w.heap.size 135 i0 (.int .u32 0) 1 Tryz.underlying22 hi hz0 hz1 _ _ _ _ n rfl rfl (by omega) (by omega) (by rw [hz2];omega) (by unfold maxLen;omega) (Nat.le_refl _) ?_;intro w1 hown hgrow)
 go_loopw [5,6] (fun rv iv wr=>∃ (k:Nat) (r:Int),iv = .int .i64 ((k:Int) - 1) /\ rv = .int .u32 r /\ ShortRel w wr n xs y k r) (fun _ iv _=>(intOf iv + 1).toNat)
 case atStart=>
  refine ⟨n,0,rfl,rfl,Nat.le_refl _,⟨by omega,by omega⟩,(Below.refl _ _).grown hgrow (Nat.le_refl _) (fun _ h=>by cases h),[],by simp,Dig.nil,by rw [List.drop_of_length_le (by rw [HL.out];exact Nat.le_refl _)];simp [val],?_⟩
  rw [zeros_made] at hown
  rw [List.append_nil]
  exact hown
 case round=>
  obtain ⟨k,r,rfl,rfl,hrel⟩:=hrel
  have HR:=Hd hrel
  by_cases hlt:k = 0
  ·subst hlt
   obtain ⟨_,hr,hb,qs,hql,hqd,hv,ho⟩:=hrel
   rw [List.drop_zero] at hv
   have hq:val xs / y = val qs:=by
    rw [hv,Int.add_comm,Int.add_mul_ediv_left _ _ (by omega),Int.ediv_eq_zero_of_lt hr.1 hr.2];omega
   have hm:val xs % y = r:=by
    rw [hv,Int.add_comm,Int.add_mul_emod_self_left,Int.emod_eq_of_lt hr.1 hr.2]
   have HQ:=Hd hq
   have HM:=Hd hm
   rw [List.replicate_zero,List.nil_append] at ho
   clear hq hm hv hql
   go_wp2_with fail
   refine (trim_any _ _ _ qs _ ho.row (by omega)).mono ?_
   rintro e w' ⟨j,hj,rfl,rfl,hvj,htj⟩
   have HV:=Hd hvj
   clear hvj
   go_wp2
   go_ret2
   refine ⟨_,by rw [HM.out];rfl,⟨_,_,_,_,rfl,ho.row.take hj,hqd.take _,htj,HV.out.trans HQ.out.symm,hj⟩,?_,hb⟩
   intro A' n' c' e hn'
   simp only [Value.slice.injEq] at e
   obtain ⟨cs,fr,hh⟩:=ho.block
   exact ⟨_,0,cs,fr,e.1.symm,hh⟩
  ·obtain ⟨⟨u,hu⟩,hf⟩:=hrel.cells hlt
   obtain ⟨hk,hr,hb,-⟩:=hrel
   obtain ⟨r0,r1⟩:=hr
   obtain ⟨b,o,rfl,hbx,hx⟩:=hcell (by omega)
   obtain ⟨x,ex⟩ : ∃ x,xs.getD (k - 1) 0 = x:=⟨_,rfl⟩
   have hx1:wr.cell? ⟨b,o + (k - 1),none⟩ = some (.int .u32 x):=by rw [<- ex];exact (hb.cell (p:=⟨b,o + (k - 1),none⟩) hbx).trans (hx (k - 1) (by omega))
   have bx:=hdx.getD (k - 1)
   rw [ex,BB_def] at bx
   obtain ⟨bx0,bx1⟩:=bx
   have hstep:=fun q=>HR.out.step hlt HL.out ⟨bx0,bx1⟩ hy1 ex q
   have HS:=Hd hstep
   have EX:=Hd ex
   clear ex hx hcell hstep
   have q1:(0:Int) <= (k:Int) - 1:=by omega
   have q2:(k:Int) - 1 < (n:Int):=by omega
   have q3:((k:Int) - 1).toNat = k - 1:=by omega
   go_wp2_with (go_at_call 185;refine (div32_any r x y _ r0 r1 hy1 bx0 bx1).mono ?_;rintro e w' ⟨rfl,q,rfl⟩)
   exact ⟨⟨k - 1,_,by go_num,rfl,HS.out _⟩,by simp [intOf];omega⟩
theorem sdiv_any (A:Option Addr) (n c:Nat) (xs:List Int) (y:Int) (w:World) (h:Row .u32 w A n c xs) (hn:n <= 1048577) (hdx:Dig xs) (hy0:0 < y) (hy1:y < 4294967296) :
  Calls Tryz.prog 171 #[.slice A n c,.int .u32 y] w fun e w'=>∃ v,e = .returned (.tuple #[v,.int .u32 (val xs % y)]) /\ Num w' v (val xs / y) n /\ Below w.heap.size w w':=
 (sdiv_words A n c xs y w h hn hdx hy0 hy1).mono fun _ _ ⟨v,he,hv,_,hb⟩=>⟨v,he,hv,hb⟩
def Divided (w:World) (x y:Int) (L:Nat) (e:Ending) (w':World) : Prop:=
 ∃ A n c B m d,e = .returned (.tuple #[.slice A n c,.slice B m d]) /\ Num w' (.slice A n c) (x / y) L /\ Num w' (.slice B m d) (x % y) L /\ Below w.heap.size w w'
theorem Num.form {w:World} {s:Value} {z:Int} {L:Nat} (h:Num w s z L) : ∃ A n c,s = .slice A n c:=by
 obtain ⟨A,n,c,_,rfl,_⟩:=h;exact ⟨A,n,c,rfl⟩
theorem Num.nonneg {w:World} {s:Value} {z:Int} {L:Nat} (h:Num w s z L) : 0 <= z:=by
 obtain ⟨_,_,_,_,_,_,hd,_,rfl,_⟩:=h;exact (val_bounds hd).1
theorem divide_less (u v:Value) (x y:Int) (L M:Nat) (w:World) (h:Num w u x L) (g:Num w v y M) (hL:L <= 1048576) (hM:M <= 1048576) (hlt:x < y) :
  Calls Tryz.prog 165 #[u,v] w (Divided w x y (max L 2)):=by
 have hx0:=h.nonneg
 have HH:=Hd h
 have HG:=Hd g
 have hq:=Hd (Int.ediv_eq_zero_of_lt hx0 hlt)
 have hr:=Hd (Int.emod_eq_of_lt hx0 hlt)
 have hc:cmpI x y < 0:=by rw [cmpI_lt hlt];decide
 clear h g
 go_enter Tryz.func165,Tryz.ntmps165
 go_wp2_with fail
 refine (compare_num u v x y L M _ HH.out HG.out (by omega) (by omega)).mono ?_
 rintro e w1 ⟨rfl,k,rfl⟩
 go_wp2_with fail
 refine (clone_num u x L _ (HH.out.below (below_drewN (Below.refl _ _) k)) (by omega)).mono ?_
 rintro e w2 ⟨r,rfl,hn,hb⟩
 obtain ⟨A,n,c,rfl⟩:=hn.form
 have HN:=Hd hn
 go_wp2
 go_ret2
 refine ⟨none,0,0,A,n,c,rfl,by rw [hq.out];exact Num.zero _ _,by rw [hr.out];exact HN.out.mono (by omega),(below_drewN (Below.refl _ _) k).trans hb⟩
theorem divide_one (u:Value) (B:Option Addr) (d:Nat) (x y:Int) (L:Nat) (ys:List Int) (w:World) (h:Num w u x L) (hr:Row .u32 w B 1 d ys) (hd:Dig ys) (ht:Trimmed ys) (hy:val ys = y) (hL:L <= 1048576) (hge:y <= x) :
  Calls Tryz.prog 165 #[u,.slice B 1 d] w (Divided w x y (max L 2)):=by
 obtain ⟨A,n,c,xs,rfl,xr,xd,xt,rfl,hn⟩:=h
 obtain ⟨hyl,_,hcell⟩:=id hr
 obtain ⟨b,o,rfl,hb,hx⟩:=hcell (by omega)
 obtain ⟨y0,rfl⟩ : ∃ y0,ys = [y0]:=by match ys,hyl with | [y0],_=>exact ⟨y0,rfl⟩
 have hy0:y0 = y:=by rw [<- hy];simp [val]
 subst hy0
 have hc0:w.cell? ⟨b,o,none⟩ = some (.int .u32 y0):=by simpa using hx 0 (by omega)
 have bd:=hd 0 (by simp)
 have bp:y0 ≠ 0:=by
  rcases ht with h | h
  ·simp at h
  ·simpa using h
 simp only [List.getD_cons_zero] at bd
 rw [BB_def] at bd
 have g:Num w (.slice (some ⟨b,o,none⟩) 1 d) y0 1:=⟨_,_,_,[y0],rfl,hr,hd,ht,hy,Nat.le_refl _⟩
 have h:Num w (.slice A n c) (val xs) L:=⟨_,_,_,xs,rfl,xr,xd,xt,rfl,hn⟩
 have HH:=Hd h
 have HG:=Hd g
 have HX:=Hd xr
 have hc:¬ cmpI (val xs) y0 < 0:=by rcases Int.lt_or_eq_of_le hge with h | h;rw [cmpI_gt h];decide;rw [cmpI_eq h.symm];decide
 have r0:0 <= val xs % y0:=Int.emod_nonneg _ (by omega)
 have r1:val xs % y0 < y0:=Int.emod_lt_of_pos _ (by omega)
 obtain ⟨bd0,bd1⟩:=bd
 have HD:=Hd hd
 have HT:=Hd ht
 clear h g hr hy hd ht hcell hx hyl xr
 go_enter Tryz.func165,Tryz.ntmps165
 go_wp2_with fail
 refine (compare_num _ _ (val xs) y0 L 1 _ HH.out HG.out (by omega) (by omega)).mono ?_
 rintro e w1 ⟨rfl,k,rfl⟩
 go_wp2_with fail
 refine (sdiv_any A n c xs y0 _ (HX.out.drewN k) (by omega) xd (by omega) bd1).mono ?_
 rintro e w2 ⟨q,rfl,hq,hb2⟩
 obtain ⟨A2,n2,c2,rfl⟩:=hq.form
 have HQ:=Hd hq
 go_wp2_with fail
 refine (words64_any _ _ (by omega) (by omega)).mono ?_
 rintro e w3 ⟨r,rfl,hr,hb3⟩
 obtain ⟨A3,n3,c3,rfl⟩:=hr.form
 have HR:=Hd hr
 go_wp2
 go_ret2
 have hb4:Below w.heap.size w w2:=(below_drewN (Below.refl _ _) k).trans hb2
 exact ⟨_,_,_,_,_,_,rfl,(HQ.out.mono (by omega)).below hb3,HR.out.mono (by omega),hb4.trans (hb3.mono hb4.size)⟩
theorem withSign_div (p q:Bool) (a b:Int) (ha:0 <= a) : withSign (p != q) (a / b) = (withSign p a).tdiv (withSign q b):=by
 have e:=Int.tdiv_eq_ediv_of_nonneg (b:=b) ha
 cases p <;> cases q <;> simp [withSign,Int.neg_tdiv,Int.tdiv_neg,e]
theorem withSign_mod (p q:Bool) (a b:Int) (ha:0 <= a) : withSign p (a % b) = (withSign p a).tmod (withSign q b):=by
 have e:=Int.tmod_eq_emod_of_nonneg (b:=b) ha
 cases p <;> cases q <;> simp [withSign,Int.neg_tmod,Int.tmod_neg,e]
theorem below_four (w:World) (x y z t:Obj) : Below w.heap.size w ((((w.alloc x).alloc y).alloc z).alloc t):=
 (below_boxed2 w x y z).alloc (by simp;omega) t
theorem boxes4 {w w':World} {u v:Value} {p q:Bool} (h:Below (w.heap.size + 2) ((((w.alloc (.cells #[.bool p,u] 31)).alloc (.cells #[.bool q,v] 31)).alloc (.cells #[.bool false,.slice none 0 0] 31)).alloc (.cells #[.bool false,.slice none 0 0] 31)) w') :
  w'.cell? ⟨w.heap.size,0,none⟩ = some (.bool p) /\ w'.cell? ⟨w.heap.size,1,none⟩ = some u /\ w'.cell? ⟨w.heap.size + 1,0,none⟩ = some (.bool q) /\ w'.cell? ⟨w.heap.size + 1,1,none⟩ = some v /\
   Below (w.heap.size + 2) ((((w.alloc (.cells #[.bool p,u] 31)).alloc (.cells #[.bool q,v] 31)).alloc (.cells #[.bool false,.slice none 0 0] 31)).alloc (.cells #[.bool false,.slice none 0 0] 31)) w':=by
 have h3:Below (w.heap.size + 2) (((w.alloc (.cells #[.bool p,u] 31)).alloc (.cells #[.bool q,v] 31)).alloc (.cells #[.bool false,.slice none 0 0] 31)) w':=
  ((Below.refl _ _).alloc (by simp) _).trans h
 obtain ⟨c1,c2,c3,c4,_⟩:=boxes2 h3
 exact ⟨c1,c2,c3,c4,h⟩
theorem room4 {w w':World} {x y:Obj} (h:Below (w.heap.size + 4) ((((w.alloc x).alloc y).alloc (.cells #[.bool false,.slice none 0 0] 31)).alloc (.cells #[.bool false,.slice none 0 0] 31)) w') :
  (w'.cell? ⟨w.heap.size + 1 + 1,0,none⟩ = some (.bool false) /\ w'.cell? ⟨w.heap.size + 1 + 1,1,none⟩ = some (.slice none 0 0) /\ w'.frozen? ⟨w.heap.size + 1 + 1,0,none⟩ = false /\ w'.frozen? ⟨w.heap.size + 1 + 1,1,none⟩ = false) /\
  w'.cell? ⟨w.heap.size + 1 + 1 + 1,0,none⟩ = some (.bool false) /\ w'.cell? ⟨w.heap.size + 1 + 1 + 1,1,none⟩ = some (.slice none 0 0) /\ w'.frozen? ⟨w.heap.size + 1 + 1 + 1,0,none⟩ = false /\ w'.frozen? ⟨w.heap.size + 1 + 1 + 1,1,none⟩ = false:=by
 have h3:Below (w.heap.size + 3) (((w.alloc x).alloc y).alloc (.cells #[.bool false,.slice none 0 0] 31)) w':=
  ((Below.refl _ _).alloc (by simp) _).trans (h.mono (by omega))
 refine ⟨room2 h3,?_,?_,?_,?_⟩
 ·rw [h.cell (by simp),World.cell?_alloc_at _ _ _ _ (by simp)];rfl
 ·rw [h.cell (by simp),World.cell?_alloc_at _ _ _ _ (by simp)];rfl
 ·rw [h.frozen (by simp)];exact World.frozen?_alloc_at _ _ _ _ (by simp)
 ·rw [h.frozen (by simp)];exact World.frozen?_alloc_at _ _ _ _ (by simp)
theorem Ival.stored2 {w:World} {s:Value} {z:Int} {L:Nat} (h:Ival w s z L) {r t:Nat} (hrt:r ≠ t) (e1:w.cell? ⟨r,0,none⟩ = some (.bool false)) (e2:w.cell? ⟨r,1,none⟩ = some (.slice none 0 0))
  (g1:w.cell? ⟨t,0,none⟩ = some (.bool false)) (g2:w.cell? ⟨t,1,none⟩ = some (.slice none 0 0)) (x y x' y':Value) :
  Ival ((((w.setCell ⟨r,0,none⟩ x).setCell ⟨r,1,none⟩ y).setCell ⟨t,0,none⟩ x').setCell ⟨t,1,none⟩ y') s z L:=by
 refine (h.stored e1 e2 x y).stored ?_ ?_ x' y'
 ·rw [World.cell?_setCell_other _ _ _ _ (by simp <;> omega),World.cell?_setCell_other _ _ _ _ (by simp <;> omega),g1]
 ·rw [World.cell?_setCell_other _ _ _ _ (by simp <;> omega),World.cell?_setCell_other _ _ _ _ (by simp <;> omega),g2]
theorem Divide_of (p q:Bool) (A B:Option Addr) (n c m d:Nat) (a b:Int) (L M K:Nat) (w:World) (ha:Num w (.slice A n c) a L) (hb:Num w (.slice B m d) b M) (hK:K <= 1073741824) (hb0:b ≠ 0)
  (hg:Ival w (.agg #[.bool q,.slice B m d]) (withSign q b) M)
  (hD:∀ w1,Below w.heap.size w w1 -> Calls Tryz.prog 165 #[.slice A n c,.slice B m d] w1 (Divided w1 a b K)) :
  Calls Tryz.prog 137 #[.agg #[.bool p,.slice A n c],.agg #[.bool q,.slice B m d]] w fun e w'=>∃ n1 A1 l1 c1 n2 A2 l2 c2,e = .returned (.tuple #[.agg #[.bool n1,.slice A1 l1 c1],.agg #[.bool n2,.slice A2 l2 c2],.int .i64 0]) /\
   Ival w' (.agg #[.bool n1,.slice A1 l1 c1]) ((withSign p a).tdiv (withSign q b)) K /\ Ival w' (.agg #[.bool n2,.slice A2 l2 c2]) ((withSign p a).tmod (withSign q b)) K /\ Below w.heap.size w w':=by
 have hdiv:=Hd (withSign_div p q a b ha.nonneg)
 have hmod:=Hd (withSign_mod p q a b ha.nonneg)
 have hs:(cmpI (withSign q b) 0 == 0) = false:=by
  have hbn:=hb.nonneg
  have:withSign q b ≠ 0:=by cases q <;> simp [withSign] <;> omega
  simp only [beq_eq_false_iff_ne]
  rcases Int.lt_or_gt_of_ne this with h | h
  ·rw [cmpI_lt h];decide
  ·rw [cmpI_gt h];decide
 have HD:=Hd hD
 have HG:=Hd hg
 clear hD hg ha hb
 have hW:=below_four w (.cells #[.bool p,.slice A n c] 31) (.cells #[.bool q,.slice B m d] 31) (.cells #[.bool false,.slice none 0 0] 31) (.cells #[.bool false,.slice none 0 0] 31)
 go_enter Tryz.func137,Tryz.ntmps137
 go_wp2_with fail
 refine (sign_int _ _ M _ (HG.out.below hW)).mono ?_
 rintro e w1 ⟨rfl,hb1⟩
 have hb1':=hb1.mono (B':=w.heap.size + 4) (by simp)
 obtain ⟨c1,c2,c3,c4,_⟩:=boxes4 (hb1'.mono (by omega))
 go_wp2_with fail
 refine (HD.out _ (hW.trans (hb1'.mono (by omega)))).mono ?_
 rintro e w2 ⟨A1,n1,d1,B1,m1,e1,rfl,hq,hr,hb2⟩
 have hb2':=hb1'.trans (hb2.mono (B':=w.heap.size + 4) (by have:=hb1'.size;simp at this;omega))
 have HQ:=Hd hq
 have HR:=Hd hr
 have hC2:=hb2'.mono (B':=w.heap.size + 2) (by omega)
 have h22:w.heap.size + 2 <= w.heap.size + 1 + 1:=Nat.le_refl _
 have h23:w.heap.size + 2 <= w.heap.size + 1 + 1 + 1:=Nat.le_succ _
 clear c1 c2 c3 c4 hq hr
 go_wp2_with fail
 go_region_held3 (fun w'=>w'.cell? ⟨w.heap.size,0,none⟩ = some (.bool p) /\ w'.cell? ⟨w.heap.size,1,none⟩ = some (.slice A n c) /\ w'.cell? ⟨w.heap.size + 1,0,none⟩ = some (.bool q) /\ w'.cell? ⟨w.heap.size + 1,1,none⟩ = some (.slice B m d) /\ Below (w.heap.size + 2) ((((w.alloc (.cells #[.bool p,.slice A n c] 31)).alloc (.cells #[.bool q,.slice B m d] 31)).alloc (.cells #[.bool false,.slice none 0 0] 31)).alloc (.cells #[.bool false,.slice none 0 0] 31)) w')
  (first | (with_reducible exact boxes4 (Below.drew hC2)) | (with_reducible exact boxes4 hC3) | (with_reducible exact boxes4 hC4) | (with_reducible exact boxes4 (Below.setCell (Below.setCell hC4 h22 _) h22 _)) | (with_reducible exact boxes4 (Below.setCell (Below.setCell (Below.setCell (Below.setCell hC4 h22 _) h22 _) h23 _) h23 _)))
  (first | (go_at_call 115;refine (signed_out _ _ _ _ _ (HR.out.below ((Below.drew (Below.refl _ _)).trans hb3)) hK).mono ?_;rintro e w4 ⟨ng4,A4,n4,c4,rfl,hv4,hb4⟩;have hB4:=Below.trans hB3 (hb4.mono (B':=w.heap.size + 4) (by have:=hB3.size;simp at this;omega));have hC4:=hB4.mono (B':=w.heap.size + 2) (by omega);obtain ⟨⟨e1,e2,f1,f2⟩,g1,g2,k1,k2⟩:=room4 hB4) | (go_at_call 115;refine (signed_out _ _ _ _ _ (HQ.out.below (Below.drew (Below.refl _ _))) hK).mono ?_;rintro e w3 ⟨ng3,A3,n3,c3,rfl,hv3,hb3⟩;have hB3:=Below.trans (Below.drew hb2') (hb3.mono (B':=w.heap.size + 4) (by have:=hb2'.size;simp at this;simp;omega));have hC3:=hB3.mono (B':=w.heap.size + 2) (by omega)))
 clear hC2 hC3 hC4
 go_wp2
 have hrt:w.heap.size + 1 + 1 ≠ w.heap.size + 1 + 1 + 1:=by omega
 refine bodyPost_ret (v:=.tuple #[.agg #[.bool ng3,.slice A3 n3 c3],.agg #[.bool ng4,.slice A4 n4 c4],.int .i64 0]) (by simp [results,Tryz.results137,go_sem,e1,e2,g1,g2]) rfl ⟨_,_,_,_,_,_,_,_,rfl,?_,?_,?_⟩
 ·rw [<- hdiv.out];exact (hv3.below hb4).stored2 hrt e1 e2 g1 g2 _ _ _ _
 ·rw [<- hmod.out];exact hv4.stored2 hrt e1 e2 g1 g2 _ _ _ _
 ·exact ((((hW.trans (hB4.mono (by omega))).setCell (by show _ <= _;simp;omega) _).setCell (by show _ <= _;simp;omega) _).setCell (by show _ <= _;simp;omega) _).setCell (by show _ <= _;simp;omega) _
def FlipRel (w wr:World) (base g n:Nat) (xs:List Int) (k:Nat) (cc:Int) : Prop:=
 k <= n /\ (0 <= cc /\ cc <= 1) /\ w.grownBy wr (some g) /\ ∃ cs:List Int,cs.length = k /\ Dig cs /\ val cs + BB ^ k * cc = BB ^ k - val (xs.take k) /\ Own wr base g n (cs ++ xs.drop k)
theorem FlipRel.step {w wr:World} {base g n:Nat} {xs:List Int} {k:Nat} {cc x:Int} (h:FlipRel w wr base g n xs k cc) (hk:k < n) (hl:xs.length = n) (hx:0 <= x /\ x < BB) (ex:xs.getD k 0 = x) :
  FlipRel w (wr.setCell ⟨g,k,none⟩ (.int .u32 ((cc + (4294967295 - x)) % 4294967296))) base g n xs (k + 1) ((cc + (4294967295 - x)) / 4294967296):=by
 obtain ⟨_,hcc,hg,cs,hcl,hcd,hv,ho⟩:=h
 have hset:=ho.set k ((cc + (4294967295 - x)) % BB)
 rw [List.set_append_right _ _ (by omega),hcl,Nat.sub_self,drop_cons xs k (by omega),cZ] at hset
 refine ⟨hk,by rw [BB_def] at hx;omega,⟨hg.os,hg.tape,hg.output,by simpa [World.setCell] using hg.size,fun b hb hne=>(Below.heap_setCell _ _ _ _ (fun e=>hne (by rw [e]))).trans (hg.block b hb hne)⟩,cs ++ [(cc + (4294967295 - x)) % BB],by simp [hcl],hcd.snoc (Int.emod_nonneg _ (by decide)) (Int.emod_lt_of_pos _ (by decide)),?_,by rw [List.append_assoc];exact hset⟩
 have h1:=pow_split k ((cc + (4294967295 - x)) % BB) ((cc + (4294967295 - x)) / BB)
 rw [digit_split] at h1
 have h2:BB ^ (k + 1) = BB ^ k * BB:=Int.pow_succ ..
 have h3:BB ^ k * (cc + (4294967295 - x)) = BB ^ k * cc + BB ^ k * BB - BB ^ k - BB ^ k * x:=by
  rw [show (4294967295:Int) - x = BB - 1 - x from by rw [BB_def];omega,Int.mul_add,Int.mul_sub,Int.mul_sub];omega
 have h4:(cc + (4294967295 - x)) / 4294967296 = (cc + (4294967295 - x)) / BB:=rfl
 rw [val_snoc,hcl,val_take_succ,ex,h4]
 omega
theorem Own.whole {w:World} {base g n:Nat} {xs:List Int} (h:Own w base g n xs) : w.heap[g]? = some (.cells (xs.map (Value.int .u32)).toArray 135 (0,0)):=by
 have hl:=h.length
 rcases h.2 with ⟨h',_⟩ | ⟨g',cap,cur,h',hb,hh,hnc,hcm,hcs,htake⟩
 ·simp at h'
 ·simp only [Value.slice.injEq,Option.some.injEq,Addr.mk.injEq,and_true,true_and] at h'
  obtain ⟨rfl,rfl⟩:=h'
  rw [hh]
  have:cur = (xs.map (Value.int .u32)).toArray:=by
   apply Array.toList_inj.1
   rw [<- htake,List.take_of_length_le (by rw [Array.length_toList,hcs];exact Nat.le_refl _)]
  rw [this]
theorem Own.of_whole {w:World} {base g n:Nat} {xs:List Int} (h:w.heap[g]? = some (.cells (xs.map (Value.int .u32)).toArray 135 (0,0))) (hl:xs.length = n) (hb:base <= g) (hn:n <= maxLen) : Own w base g n xs:=
 ⟨by simp [hl],.inr ⟨g,n,_,rfl,hb,h,Nat.le_refl _,hn,by simp [hl],by rw [List.take_of_length_le (by simp [hl])]⟩⟩
def Comb (op:Int) (a b c:Int) : Prop:=(0 <= c /\ c < BB) /\ ∀ i,i < 32 -> c.toNat.testBit i = op.toNat.testBit (2 * (a.toNat.testBit i).toNat + (b.toNat.testBit i).toNat)
def Booled (op x y:Int) (k:Nat) (z:Int) : Prop:=
 ∃ wx wy os:List Int,wx.length = k /\ wy.length = k /\ os.length = k /\ Dig wx /\ Dig wy /\ Dig os /\ val wx = x % BB ^ k /\ val wy = y % BB ^ k /\ (∀ i,i < k -> Comb op (wx.getD i 0) (wy.getD i 0) (os.getD i 0)) /\
  z = if 2147483648 <= os.getD (k - 1) 0 then val os - BB ^ k else val os
def BoolRel (w wr:World) (base g k:Nat) (op:Int) (wx wy:List Int) (i:Nat) : Prop:=
 i <= k /\ w.grownBy wr (some g) /\ ∃ os:List Int,os.length = k /\ Dig os /\ (∀ t,t < i -> Comb op (wx.getD t 0) (wy.getD t 0) (os.getD t 0)) /\ (∀ t,i <= t -> os.getD t 0 = wx.getD t 0) /\ Own wr base g k os
theorem BoolRel.cells {w wr:World} {base g k:Nat} {op:Int} {wx wy:List Int} {i:Nat} (h:BoolRel w wr base g k op wx wy i) (hi:i < k) :
  wr.cell? ⟨g,i,none⟩ = some (.int .u32 (wx.getD i 0)) /\ wr.frozen? ⟨g,i,none⟩ = false:=by
 obtain ⟨_,_,os,hl,_,_,ho,hown⟩:=h
 exact ⟨by rw [hown.cell hi,ho i (Nat.le_refl _)],hown.frozen i⟩
theorem BoolRel.step {w wr:World} {base g k:Nat} {op:Int} {wx wy:List Int} {i:Nat} {c:Int} (h:BoolRel w wr base g k op wx wy i) (hi:i < k) (hc:Comb op (wx.getD i 0) (wy.getD i 0) c) :
  BoolRel w (wr.setCell ⟨g,i,none⟩ (.int .u32 c)) base g k op wx wy (i + 1):=by
 obtain ⟨_,hg,os,hl,hd,h1,h2,hown⟩:=h
 refine ⟨hi,⟨hg.os,hg.tape,hg.output,by simpa [World.setCell] using hg.size,fun b hb hne=>(Below.heap_setCell _ _ _ _ (fun e=>hne (by rw [e]))).trans (hg.block b hb hne)⟩,os.set i c,by simpa using hl,hd.set i hc.1.1 hc.1.2,fun t ht=>?_,fun t ht=>?_,hown.set i c⟩
 ·by_cases e:t = i
  ·subst e
   have:(os.set t c).getD t 0 = c:=by simp [List.getD,hl,hi]
   rw [this];exact hc
  ·have:(os.set i c).getD t 0 = os.getD t 0:=by simp [List.getD,Ne.symm e]
   rw [this];exact h1 t (by omega)
 ·have:(os.set i c).getD t 0 = os.getD t 0:=by simp [List.getD,show ¬ i = t by omega]
  rw [this];exact h2 t (by omega)
end Go.Proofs.YtbajnceoolkckaaGreat
