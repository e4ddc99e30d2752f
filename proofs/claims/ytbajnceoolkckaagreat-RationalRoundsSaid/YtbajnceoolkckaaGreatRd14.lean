/- Of the proof of RationalRounds: RTimes, RDivM. -/
import Derived.Test.YtbajnceoolkckaaGreatRd08
import Derived.Laws.AppendOwnNone
import Derived.Deep.RegionHeld
open List renaming setIfInBounds_toArray → tA, set_cons_zero → cZ, set_cons_succ → cS
open Go.Lib renaming hid → Hd
set_option maxRecDepth 100000
set_option maxHeartbeats 16000000
namespace Go.Proofs.YtbajnceoolkckaaGreat
open Go.RowKit LM
theorem pow_split65 (j:Nat) (s:Int) : (65536:Int) ^ j * s = 65536 ^ j * (s % 65536) + 65536 ^ (j + 1) * (s / 65536):=by
 rw [Int.pow_succ,Int.mul_assoc,<- Int.mul_add];congr 1;omega
theorem valR_zeros (k:Nat) : valR 65536 (List.replicate k 0) = 0:=by
 induction k with
 | zero=>rfl
 | succ k ih=>rw [List.replicate_succ];simp only [valR];rw [ih];rfl
def RTNum (w:World) (v:Value) (z:Int) (L:Nat) : Prop:=
 ∃ A n c ds,v = .slice A n c /\ Row .i64 w A n c ds /\ DigR 65536 ds /\ Trimmed ds /\ valR 65536 ds = z /\ n <= L
theorem RTNum.below {w w':World} {v:Value} {z:Int} {L:Nat} (h:RTNum w v z L) (hb:Below w.heap.size w w') : RTNum w' v z L:=by
 obtain ⟨A,n,c,ds,e,hr,r⟩:=h
 exact ⟨A,n,c,ds,e,hr.below hb,r⟩
def TMul (w wr:World) (n m:Nat) (xs ys:List Int) (i:Nat) : Prop:=
 i <= n /\ Below w.heap.size w wr /\ ∃ ds:List Int,ds.length = i + m /\ DigR 65536 ds /\ valR 65536 ds = valR 65536 (xs.take i) * valR 65536 ys /\
  Own64 wr w.heap.size w.heap.size (n + m + 1) (ds ++ List.replicate (n + 1 - i) 0)
def TRow (w wr:World) (n m:Nat) (xs ys:List Int) (i k:Nat) (cc:Int) : Prop:=
 i < n /\ k <= m /\ (0 <= cc /\ cc < 65536) /\ Below w.heap.size w wr /\ ∃ cs:List Int,cs.length = i + m /\ DigR 65536 cs /\
  valR 65536 cs + 65536 ^ (i + k) * cc = valR 65536 (xs.take i) * valR 65536 ys + 65536 ^ i * (xs.getD i 0 * valR 65536 (ys.take k)) /\
  Own64 wr w.heap.size w.heap.size (n + m + 1) (cs ++ List.replicate (n + 1 - i) 0)
theorem mul_bound65 {x y:Int} (hx:0 <= x /\ x < 65536) (hy:0 <= y /\ y < 65536) : 0 <= x * y /\ x * y <= 4294836225:=by
 refine ⟨Int.mul_nonneg hx.1 hy.1,?_⟩
 have h1:x * y <= 65535 * y:=Int.mul_le_mul_of_nonneg_right (by omega) hy.1
 omega
theorem TRow.start {w wr:World} {n m:Nat} {xs ys:List Int} {i:Nat} (h:TMul w wr n m xs ys i) (hi:i < n) : TRow w wr n m xs ys i 0 0:=by
 obtain ⟨_,hb,ds,hl,hd,hv,ho⟩:=h
 exact ⟨hi,Nat.zero_le _,⟨by decide,by decide⟩,hb,ds,hl,hd,by simp [hv,valR],ho⟩
theorem TRow.drew {w wr:World} {n m:Nat} {xs ys:List Int} {i k:Nat} {cc:Int} (h:TRow w wr n m xs ys i k cc) : TRow w wr.drew n m xs ys i k cc:=by
 obtain ⟨a,b,c,hb,r⟩:=h
 exact ⟨a,b,c,hb.drew,r⟩
theorem TRow.cells {w wr:World} {n m:Nat} {xs ys:List Int} {i k:Nat} {cc:Int} (h:TRow w wr n m xs ys i k cc) (hk:k < m) :
  ∃ u,(wr.cell? ⟨w.heap.size,i + k,none⟩ = some (.int .i64 u) /\ wr.frozen? ⟨w.heap.size,i + k,none⟩ = false /\ 0 <= u /\ u < 65536) /\
   ∀ y,ys.getD k 0 = y -> 0 <= y /\ y < 65536 -> 0 <= xs.getD i 0 /\ xs.getD i 0 < 65536 ->
    TRow w (wr.setCell ⟨w.heap.size,i + k,none⟩ (.int .i64 ((u + xs.getD i 0 * y + cc) % 65536))) n m xs ys i (k + 1) ((u + xs.getD i 0 * y + cc) / 65536):=by
 obtain ⟨hi,_,hcc,hb,cs,hl,hd,hv,ho⟩:=h
 have e:(cs ++ List.replicate (n + 1 - i) 0).getD (i + k) 0 = cs.getD (i + k) 0:=by
  simp [List.getD,List.getElem?_append_left,hl,hk]
 have hu:=DigR.getD hd (i + k)
 refine ⟨cs.getD (i + k) 0,⟨by rw [<- e];exact ho.cell (by omega),ho.frozen _,hu⟩,fun y hy by' bx=>?_⟩
 have hp:=mul_bound65 bx by'
 generalize hs:cs.getD (i + k) 0 + xs.getD i 0 * y + cc = s
 have h0:0 <= s:=by rw [<- hs];omega
 have h2:s / 65536 < 65536:=by omega
 have hset:=ho.set (i + k) (s % 65536)
 rw [List.set_append_left _ _ (by omega)] at hset
 refine ⟨hi,hk,⟨by omega,h2⟩,hb.setCell (Nat.le_refl _) _,cs.set (i + k) (s % 65536),by simpa using hl,hd.set' _ (Int.emod_nonneg _ (by decide)) (Int.emod_lt_of_pos _ (by decide)),?_,hset⟩
 rw [valR_set _ _ _ _ (by omega),valR_take_succ,hy]
 have e1:=pow_split65 (i + k) s
 rw [show (65536:Int) ^ (i + k) * s = 65536 ^ (i + k) * cs.getD (i + k) 0 + (65536 ^ (i + k) * (xs.getD i 0 * y) + 65536 ^ (i + k) * cc) from by rw [<- hs,Int.mul_add,Int.mul_add,Int.add_assoc]] at e1
 have e2:(65536:Int) ^ i * (xs.getD i 0 * (valR 65536 (ys.take k) + 65536 ^ k * y)) = 65536 ^ i * (xs.getD i 0 * valR 65536 (ys.take k)) + 65536 ^ (i + k) * (xs.getD i 0 * y):=by
  rw [Int.pow_add];grind
 rw [e2,Int.mul_sub]
 rw [show i + (k + 1) = i + k + 1 from rfl]
 omega
theorem TMul.next {w wr:World} {n m:Nat} {xs ys:List Int} {i:Nat} {cc:Int} (h:TRow w wr n m xs ys i m cc) (hm:ys.length <= m) :
  wr.cell? ⟨w.heap.size,i + m,none⟩ = some (.int .i64 0) /\ wr.frozen? ⟨w.heap.size,i + m,none⟩ = false /\ (0 <= cc /\ cc < 65536) /\
   TMul w (wr.setCell ⟨w.heap.size,i + m,none⟩ (.int .i64 cc)) n m xs ys (i + 1):=by
 obtain ⟨hi,_,hcc,hb,cs,hl,hd,hv,ho⟩:=h
 have hset:=ho.set (i + m) cc
 have e:(cs ++ List.replicate (n + 1 - i) 0).set (i + m) cc = (cs ++ [cc]) ++ List.replicate (n + 1 - (i + 1)) 0:=by
  have:=set_zeros cs (n + m + 1) (i + m) hl (by omega) cc
  rw [show n + m + 1 - (i + m) = n + 1 - i from by omega,show n + m + 1 - (i + m + 1) = n + 1 - (i + 1) from by omega] at this
  exact this
 rw [e] at hset
 have e0:(cs ++ List.replicate (n + 1 - i) (0:Int)).getD (i + m) 0 = 0:=by
  simp only [List.getD]
  rw [List.getElem?_append_right (by omega),hl,Nat.sub_self]
  rw [show n + 1 - i = (n - i) + 1 from by omega,List.replicate_succ];rfl
 refine ⟨by rw [<- e0];exact ho.cell (by omega),ho.frozen _,hcc,hi,hb.setCell (Nat.le_refl _) _,_,by simp [hl];omega,?_,?_,hset⟩
 ·intro d hd2
  rcases List.mem_append.1 hd2 with h' | h'
  ·exact hd d h'
  ·simp at h';subst h';exact hcc
 ·rw [valR_append,hl,valR_take_succ,Int.add_mul]
  simp only [valR,Int.mul_zero,Int.add_zero]
  rw [hv,List.take_of_length_le hm]
  grind
theorem rtimes_any (A B:Option Addr) (n m c d:Nat) (xs ys:List Int) (w:World) (h:Row .i64 w A n c xs) (g:Row .i64 w B m d ys) (hn:n <= 1048577) (hm:m <= 1048577) (hdx:DigR 65536 xs) (hdy:DigR 65536 ys) :
  Calls Tryz.prog 127 #[.slice A n c,.slice B m d] w fun e w'=>∃ v,e = .returned v /\ RTNum w' v (valR 65536 xs * valR 65536 ys) (n + m + 1) /\ Below w.heap.size w w':=by
 obtain ⟨i0,hi,hz0,hz1,hz2⟩:=info_parts Tryz.info3
 obtain ⟨hl,hc,hcell⟩:=h
 obtain ⟨gl,gc,gcell⟩:=g
 have hb0:∀ i,i < n -> ∃ b o,A = some ⟨b,o,none⟩ /\ b < w.heap.size /\ w.cell? ⟨b,o + i,none⟩ = some (.int .i64 (xs.getD i 0)):=fun i hi=>by
  obtain ⟨b,o,e,hlt,hc2⟩:=hcell (by omega)
  exact ⟨b,o,e,hlt,hc2 i hi⟩
 have gb0:∀ i,i < m -> ∃ b o,B = some ⟨b,o,none⟩ /\ b < w.heap.size /\ w.cell? ⟨b,o + i,none⟩ = some (.int .i64 (ys.getD i 0)):=fun i hi=>by
  obtain ⟨b,o,e,hlt,hc2⟩:=gcell (by omega)
  exact ⟨b,o,e,hlt,hc2 i hi⟩
 have HX:=Hd hb0
 have HY:=Hd gb0
 have HL:=Hd hl
 have GL:=Hd gl
 clear hl gl hcell gcell hb0 gb0
 go_enter Tryz.func127,Tryz.ntmps127
 go_wp2_with (at_make;refine wpList_make_full _ rfl _ _ 32 rfl w.heap.size 3 i0 (.int .i64 0) 1 Tryz.underlying32 hi hz0 hz1 _ _ _ _ (n + m + 1) rfl rfl (by omega) (by omega) (by rw [hz2];omega) (by unfold maxLen;omega) (Nat.le_refl _) ?_;intro w1 hown hgrow)
 go_loopw [6] (fun iv wr=>∃ i:Nat,iv = .int .i64 i /\ TMul w wr n m xs ys i) (fun iv _=>n - (intOf iv).toNat)
 case atStart=>
  refine ⟨0,rfl,Nat.zero_le _,(Below.refl _ _).grown hgrow (Nat.le_refl _) (fun _ h=>by cases h),List.replicate m 0,by simp,?_,?_,?_⟩
  ·intro d hd;simp at hd;rw [hd.2];decide
  ·have e:=valR_zeros m;simp [e,valR]
  ·rw [zeros_made64] at hown
   rw [List.replicate_append_replicate,Nat.sub_zero,show m + (n + 1) = n + m + 1 from by omega]
   exact hown
 case round=>
  obtain ⟨i,rfl,hrel⟩:=hrel
  have HR:=Hd hrel
  obtain ⟨hk,hb,-⟩:=hrel
  by_cases hlt:i < n
  ·obtain ⟨b,o,rfl,hbx,hx⟩:=HX.out i hlt
   obtain ⟨x,ex⟩ : ∃ x,xs.getD i 0 = x:=⟨_,rfl⟩
   rw [ex] at hx
   have bx:=DigR.getD hdx i
   rw [ex] at bx
   obtain ⟨bx0,bx1⟩:=bx
   have EX:=Hd ex
   have HXC:=Hd hx
   clear ex hx
   go_wp2_with fail
   obtain ⟨wo,rfl⟩ : ∃ wo:World,wo = wr:=⟨_,rfl⟩
   go_loopw [7,8] (fun cv kv wx=>∃ (k:Nat) (cc:Int),kv = .int .i64 k /\ cv = .int .i64 cc /\ TRow w wx n m xs ys i k cc) (fun _ kv _=>m - (intOf kv).toNat)
   case atStart=>exact ⟨0,0,rfl,rfl,TRow.start HR.out hlt⟩
   case round=>
    obtain ⟨k,cc,rfl,rfl,hrow⟩:=hrel
    have HW:=Hd hrow
    obtain ⟨_,hkm,hcc,hbw,-⟩:=hrow
    obtain ⟨cc0,cc1⟩:=hcc
    by_cases hk2:k < m
    ·obtain ⟨u,⟨hu,hf,hu0,hu1⟩,hnext⟩:=HW.out.drew.cells hk2
     obtain ⟨b',o',rfl,hby,hy⟩:=HY.out k hk2
     obtain ⟨y,ey⟩ : ∃ y,ys.getD k 0 = y:=⟨_,rfl⟩
     rw [ey] at hy
     have by':=DigR.getD hdy k
     rw [ey] at by'
     have hnext':=hnext y ey by' (DigR.getD hdx i)
     clear hnext
     rw [EX.out] at hnext'
     obtain ⟨p0,p1⟩:=mul_bound65 (x:=x) (y:=y) ⟨bx0,bx1⟩ by'
     obtain ⟨P,hP⟩ : ∃ P,x * y = P:=⟨_,rfl⟩
     rw [hP] at hnext' p0 p1
     obtain ⟨s,hs⟩ : ∃ s,u + P + cc = s:=⟨_,rfl⟩
     rw [hs] at hnext'
     have HN:=Hd hnext'
     obtain ⟨by0,by1⟩:=by'
     have s0:0 <= s:=by omega
     have s1:s <= 4294967295:=by omega
     have t1:IntKind.i64.wrap (x * y) = P:=by rw [hP,IntKind.wrap_i64];omega
     have t2:IntKind.i64.wrap (u + P) = u + P:=by rw [IntKind.wrap_i64];omega
     have t3:IntKind.i64.wrap (u + P + cc) = s:=by rw [hs,IntKind.wrap_i64];omega
     have t4:IntKind.i64.wrap ((i:Int) + (k:Int)) = (i:Int) + (k:Int):=by rw [IntKind.wrap_i64];omega
     have t5:((i:Int) + (k:Int)).toNat = i + k:=by omega
     have t6:(i:Int) + (k:Int) < (n:Int) + (m:Int) + 1:=by omega
     have t7:0 <= (i:Int) + (k:Int):=by omega
     have t8:s.tmod 65536 = s % 65536:=Int.tmod_eq_emod_of_nonneg s0
     have t9:s.tdiv 65536 = s / 65536:=Int.tdiv_eq_ediv_of_nonneg s0
     have t10:(i:Int) < (n:Int):=by omega
     have t11:(k:Int) < (m:Int):=by omega
     have hcx:=(hbw.cell (p:=⟨b,o + i,none⟩) hbx).trans HXC.out
     have hcy:=(hbw.cell (p:=⟨b',o' + k,none⟩) hby).trans hy
     have HT:=Hd (fun (w':World) (e:wr.drew = w')=>(show w'.cell? ⟨w.heap.size,i + k,none⟩ = some (.int .i64 u) /\ w'.cell? ⟨b,o + i,none⟩ = some (.int .i64 x) /\ w'.cell? ⟨b',o' + k,none⟩ = some (.int .i64 y) from by rw [<- e];exact ⟨hu,hcx,hcy⟩))
     clear hnext' ey hP hs hy
     go_wp2_with fail
     refine wp_region_held_drew (S:=fun w'=>w'.cell? ⟨w.heap.size,i + k,none⟩ = some (.int .i64 u) /\ w'.cell? ⟨b,o + i,none⟩ = some (.int .i64 x) /\ w'.cell? ⟨b',o' + k,none⟩ = some (.int .i64 y)) (by kernel_rfl) (HT.out _ rfl) (fun hHeld0=>?_)
     refine tk 0 29 (by assumption) ?_
     try simp only [Act.put,tA,cZ,cS]
     refine tk 1 30 (by assumption) ?_
     try simp only [Act.put,tA,cZ,cS]
     refine tk 2 31 (by assumption) ?_
     try simp only [Act.put,tA,cZ,cS]
     refine tk 3 32 (by assumption) ?_
     try simp only [Act.put,tA,cZ,cS]
     refine tk 4 33 (by assumption) ?_
     try simp only [Act.put,tA,cZ,cS]
     refine tk 5 34 (by assumption) ?_
     try simp only [Act.put,tA,cZ,cS]
     refine tk 6 35 (by assumption) ?_
     try simp only [Act.put,tA,cZ,cS]
     refine tk 7 36 (by assumption) ?_
     try simp only [Act.put,tA,cZ,cS]
     refine tk 8 37 (by assumption) ?_
     try simp only [Act.put,tA,cZ,cS]
     refine tk 9 38 (by assumption) ?_
     try simp only [Act.put,tA,cZ,cS]
     refine tk 10 39 (by assumption) ?_
     try simp only [Act.put,tA,cZ,cS]
     refine tk 11 40 (by assumption) ?_
     try simp only [Act.put,tA,cZ,cS]
     refine tk 12 41 (by assumption) ?_
     try simp only [Act.put,tA,cZ,cS]
     refine tk 13 42 (by assumption) ?_
     try simp only [Act.put,tA,cZ,cS]
     refine tk 14 43 (by assumption) ?_
     try simp only [Act.put,tA,cZ,cS]
     refine tk 15 44 (by assumption) ?_
     try simp only [Act.put,tA,cZ,cS]
     refine tk 16 45 (by assumption) ?_
     try simp only [Act.put,tA,cZ,cS]
     refine tk 17 46 (by assumption) ?_
     try simp only [Act.put,tA,cZ,cS]
     refine tk 18 9 (by assumption) ?_
     try simp only [Act.put,tA,cZ,cS]
     refine wpAnyH_done (by kernel_rfl) ?_ _
     clear t1 t2 t3
     go_wp2_with fail
     exact ⟨⟨k + 1,_,by go_num,rfl,HN.out⟩,by simp [intOf];omega⟩
    ·obtain rfl:k = m:=by omega
     obtain ⟨hu,hf,_,hnext⟩:=TMul.next HW.out (by rw [GL.out];exact Nat.le_refl _)
     have HN:=Hd hnext
     have t4:IntKind.i64.wrap ((i:Int) + (k:Int)) = (i:Int) + (k:Int):=by rw [IntKind.wrap_i64];omega
     have t5:((i:Int) + (k:Int)).toNat = i + k:=by omega
     have t6:(i:Int) + (k:Int) < (n:Int) + (k:Int) + 1:=by omega
     have t7:0 <= (i:Int) + (k:Int):=by omega
     clear hnext
     go_wp2_with fail
     exact ⟨⟨i + 1,by go_num,HN.out⟩,by simp [intOf];omega⟩
  ·obtain rfl:i = n:=by omega
   obtain ⟨_,hbl,ds,hdl,hdd,hdv,ho⟩:=HR.out
   have hrow:Row .i64 wr (some ⟨w.heap.size,0,none⟩) (i + m + 1) (i + m + 1) (ds ++ List.replicate (i + 1 - i) 0):=Row.of_own ho
   have hdz:DigR 65536 (ds ++ List.replicate (i + 1 - i) 0):=by
    intro d hd
    rcases List.mem_append.1 hd with h' | h'
    ·exact hdd d h'
    ·simp at h';rw [h'];decide
   have hval:valR 65536 (ds ++ List.replicate (i + 1 - i) 0) = valR 65536 xs * valR 65536 ys:=by
    rw [valR_append,valR_zeros,hdv,List.take_of_length_le (by rw [HL.out];exact Nat.le_refl _)];simp
   have HROW:=Hd hrow
   have HDZ:=Hd hdz
   have HVAL:=Hd hval
   clear hrow hdz hval ho hdv hdl hdd
   go_wp2_with fail
   refine (rtrim_any _ _ _ _ _ HROW.out (by omega)).mono ?_
   rintro e w' ⟨A2,k2,c2,hk2,rfl,rfl,hr2,hv2,ht2⟩
   have HR2:=Hd hr2
   have HV2:=Hd hv2
   have HT2:=Hd ht2
   clear hr2 hv2 ht2
   go_wp2
   go_ret
   exact ⟨_,rfl,⟨_,_,_,_,rfl,HR2.out,HDZ.out.take _,HT2.out,HV2.out.trans HVAL.out,hk2⟩,hbl⟩
theorem append_nil_any {P:Program} {w:World} (base:Nat) (t ty e:TypeId) (i:TypeInfo) (size:Nat) (ht:P.underlying t = some (.slice e)) (hi:P.info? e = some i)
  (v:Value) (n:Nat) (xs:List Value) (hown:w.ownsRow base e size v n xs) (c:Nat) : (Builtin.append_ #[t,t] ty #[v,.slice none 0 c]).run P w = .ok v w:=by
 rcases hown.2 with ⟨rfl,_⟩ | ⟨k,cap,cur,rfl,_,hk,hnc,hcm,hcs,htk⟩
 ·simp [Builtin.append_,run_underlying ht,sizeOf,typeInfo,hi,Builtin.lenOf,Builtin.firstCells]
 ·simp [Builtin.append_,run_underlying ht,sizeOf,typeInfo,hi,Builtin.lenOf,Builtin.firstCells,hnc,storeCells]
theorem wpList_append_row {P:Program} {w:World} {ops:Array Oper} {rest:List Oper} {o:Oper} {a:Act} {Q:Exit -> Act -> World -> Prop} (hgd:o.guard = none) (s x:Operand) (t:TypeId)
  (ho:o.op = .call { callee:=.builtin .append,args:=#[s,x],argTypes:=#[t,t] })
  (base:Nat) (e:TypeId) (i:TypeInfo) (z:Value) (bytes:Nat) (ht:P.underlying t = some (.slice e)) (hi:P.info? e = some i) (hz:i.zero = some z)
  (hsize:i.size = 1) (hby:i.bytes = bytes) (hzs:z.cells.size = 1)
  (v:Value) (n:Nat) (xs:List Value) (hs:a.eval s = v) (hown:w.ownsRow base e 1 v n xs)
  (A:Option Addr) (m c:Nat) (ds:List Int) (hx:a.eval x = .slice A m c) (hr:Row .i64 w A m c ds)
  (h63:n + m <= maxLen) (hbytes:(n + m) * bytes <= 140737488355328) (hbase:base <= w.heap.size)
  (h:∀ v' w',w'.ownsRow base e 1 v' (n + m) (xs ++ ds.map (Value.int .i64)) -> w.grownBy w' v.ownBlock -> wpList P ops Q rest (a.put o.dst v') w') : wpList P ops Q (o :: rest) a w:=by
 cases A with
 | none=>
  have hm:m = 0:=by
   rcases Nat.eq_zero_or_pos m with h0 | h0
   ·exact h0
   ·obtain ⟨b,o',e',_⟩:=hr.2.2 (by omega);cases e'
  have hds:ds = []:=List.eq_nil_of_length_eq_zero (by rw [hr.1];exact hm)
  subst hm;subst hds
  refine wpList_plain hgd fun K hK=>?_
  have hrun:=append_nil_any (P:=P) (w:=w) base t o.type e i 1 ht hi v n xs hown c
  unfold Oper.wp
  simp [execOp,ho,resolve,invoke,builtin,hs,hx,hrun,Result.andThen]
  exact hK _ _ (h v w (by simpa using hown) (World.grownBy.refl _ _))
 | some ad=>
  refine wpList_append_own _ hgd s x t ho base e i z 1 bytes ht hi hz hsize hby hzs (by decide) v n xs hs hown ad m c (ds.map (Value.int .i64)) hx (by simp [hr.1]) (fun j u hj=>?_) (ints_oneCell _ _) h63 hbytes hbase fun v' w' h2 h3 _=>h v' w' h2 h3
  have hjm:j < m:=by have:=(List.getElem?_eq_some_iff.1 hj).1;simp [hr.1] at this;exact this
  obtain ⟨b,o',e',_,hc⟩:=hr.2.2 (by omega)
  simp only [Option.some.injEq] at e'
  subst e'
  rw [Addr.add_lit,hc j hjm,<- hj]
  simp [List.getD,hr.1,hjm]
theorem rtrim_some (a:Addr) (n c:Nat) (xs:List Int) (w:World) (h:Row .i64 w (some a) n c xs) (_hn:n <= 1073741824) :
  Calls Tryz.prog 150 #[.slice (some a) n c] w fun e w'=>∃ k,k <= n /\ e = .returned (.slice (some a) k c) /\ w = w' /\ valR 65536 (xs.take k) = valR 65536 xs /\ Trimmed (xs.take k):=by
 obtain ⟨hl,hc,hcell⟩:=h
 have HL:=Hd hl
 clear hl
 go_enter Tryz.func150,Tryz.ntmps150
 go_wp2_with fail
 go_loop [3] (fun s=>∃ k:Nat,k <= n /\ s = .int .i64 k /\ Hid (valR 65536 (xs.take k) = valR 65536 xs)) (fun s=>(intOf s).toNat)
 case atStart=>exact ⟨n,Nat.le_refl _,rfl,Hd (by rw [List.take_of_length_le (by rw [HL.out];exact Nat.le_refl _)])⟩
 case round=>
  obtain ⟨k,hk,rfl,Hv⟩:=hrel
  by_cases h0:k = 0
  ·subst h0
   go_wp2
   go_ret
   exact ⟨0,by omega,rfl,rfl,Hv.out,.inl rfl⟩
  ·have hn0:n ≠ 0:=by omega
   obtain ⟨b,o,e0,hb,hx⟩:=hcell hn0
   simp only [Option.some.injEq] at e0
   subst e0
   have hp:(0:Int) < (k:Int):=by omega
   have hx1:=hx (k - 1) (by omega)
   obtain ⟨x,ex⟩ : ∃ x,xs.getD (k - 1) 0 = x:=⟨_,rfl⟩
   rw [ex] at hx1
   have EX:=Hd ex
   clear hx hcell ex
   have q1:(0:Int) <= (k:Int) - 1:=by omega
   have q2:(k:Int) - 1 < (n:Int):=by omega
   have q3:((k:Int) - 1).toNat = k - 1:=by omega
   by_cases hx0:x = 0
   ·have HX0:=Hd hx0
    subst hx0
    go_wp2
    refine ⟨⟨k - 1,by omega,by go_num,Hd ?_⟩,by simp [intOf];omega⟩
    have h1:=valR_take_zero 65536 xs (k - 1) EX.out
    rw [show k - 1 + 1 = k from by omega,Hv.out] at h1
    exact h1.symm
   ·have hx2:(x == 0) = false:=by simpa using hx0
    go_wp2
    go_ret
    refine ⟨k,hk,rfl,rfl,Hv.out,.inr ?_⟩
    have hl:=HL.out
    have e1:(xs.take k).length = k:=by rw [List.length_take];omega
    have e2:(xs.take k).getD (k - 1) 0 = xs.getD (k - 1) 0:=by
     rw [List.getD,List.getElem?_take,if_pos (by omega)];rfl
    rw [e1,e2,EX.out];exact hx0
theorem Row.far {K:IntKind} {w:World} {g o n c:Nat} {xs:List Int} (h:Row K w (some ⟨g,o,none⟩) n c xs) {p:Addr} (hp:p.block ≠ g) (v:Value) : Row K (w.setCell p v) (some ⟨g,o,none⟩) n c xs:=by
 refine ⟨h.1,h.2.1,fun hn=>?_⟩
 obtain ⟨b,o',e,hlt,hc⟩:=h.2.2 hn
 simp only [Option.some.injEq,Addr.mk.injEq] at e
 obtain ⟨rfl,rfl,-⟩:=e
 refine ⟨g,o,rfl,by simpa [World.setCell] using hlt,fun i hi=>?_⟩
 rw [World.cell?_setCell_far _ _ _ _ (by simpa using hp)];exact hc i hi
def DivRel (w wr:World) (n:Nat) (xs:List Int) (B:Int) (v:Value) (m:Nat) : Prop:=
 m <= n /\ Below w.heap.size w wr /\ (∃ qs:List Int,qs.length = n - m /\ DigR 65536 qs /\ valR 65536 qs = valR 65536 (xs.drop m) / B /\
  Own64 wr w.heap.size w.heap.size n (List.replicate m 0 ++ qs)) /\ RNum wr v (valR 65536 (xs.drop m) % B) (n - m)
theorem div_step {x r B:Int} (hB:0 < B) (h0:0 <= r) (h1:r < B) (hx:0 <= x /\ x < 65536) : 0 <= x + 65536 * r /\ x + 65536 * r < 65536 * B /\ 0 <= (x + 65536 * r) / B /\ (x + 65536 * r) / B < 65536:=by
 have h2:x + 65536 * r < 65536 * B:=by omega
 exact ⟨by omega,h2,Int.ediv_nonneg (by omega) (by omega),Int.ediv_lt_of_lt_mul hB h2⟩
theorem drop_val {xs:List Int} {i:Nat} {x B:Int} (hi:i < xs.length) (ex:xs.getD i 0 = x) (hB:0 < B) :
  valR 65536 (xs.drop i) / B = (x + 65536 * (valR 65536 (xs.drop (i + 1)) % B)) / B + 65536 * (valR 65536 (xs.drop (i + 1)) / B) /\
  valR 65536 (xs.drop i) % B = (x + 65536 * (valR 65536 (xs.drop (i + 1)) % B)) % B:=by
 have e1:valR 65536 (xs.drop i) = x + 65536 * valR 65536 (xs.drop (i + 1)):=by rw [drop_cons xs i hi,ex];rfl
 have h1:=Int.emod_add_mul_ediv (valR 65536 (xs.drop (i + 1))) B
 generalize valR 65536 (xs.drop (i + 1)) / B = q at *
 generalize valR 65536 (xs.drop (i + 1)) % B = r at *
 have e2:valR 65536 (xs.drop i) = (x + 65536 * r) + B * (65536 * q):=by
  rw [e1,<- h1,Int.mul_add]
  have:B * (65536 * q) = 65536 * (B * q):=by rw [<- Int.mul_assoc,Int.mul_comm B,Int.mul_assoc]
  omega
 rw [e2,Int.add_mul_ediv_left _ _ (by omega),Int.add_mul_emod_self_left]
 exact ⟨rfl,rfl⟩
def Half (R B lo hi:Int) : Prop:=0 <= lo /\ lo < hi /\ hi <= 65536 /\ lo * B <= R /\ R < hi * B
theorem Half.start {R B:Int} (h0:0 <= R) (h1:R < 65536 * B) : Half R B 0 65536:=⟨by decide,by decide,by decide,by omega,h1⟩
theorem Half.done {R B lo hi:Int} (h:Half R B lo hi) (hB:0 < B) (hd:hi - lo <= 1) : R / B = lo:=by
 obtain ⟨h0,h1,h2,h3,h4⟩:=h
 have e:hi = lo + 1:=by omega
 subst e
 rw [Int.add_mul,Int.one_mul] at h4
 have h5:R = (R - lo * B) + B * lo:=by rw [Int.mul_comm B];omega
 rw [h5,Int.add_mul_ediv_left _ _ (by omega),Int.ediv_eq_zero_of_lt (by omega) (by omega)];omega
theorem Half.mid {R B lo hi m:Int} (h:Half R B lo hi) (hm:m = (lo + hi) / 2) (hd:1 < hi - lo) : (m * B <= R -> Half R B m hi) /\ (R < m * B -> Half R B lo m):=by
 obtain ⟨h0,h1,h2,h3,h4⟩:=h
 exact ⟨fun g=>⟨by omega,by omega,h2,g,h4⟩,fun g=>⟨h0,by omega,by omega,h3,g⟩⟩
end Go.Proofs.YtbajnceoolkckaaGreat
