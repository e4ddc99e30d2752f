/- Of the proof of RationalRounds: RCore. -/
import Derived.Test.YtbajnceoolkckaaGreatRd02
import Derived.Deep.RegionLawGrows
import Derived.Deep.RegionLaw
open Go.Lib renaming hid → Hd
set_option maxRecDepth 100000
set_option maxHeartbeats 16000000
namespace Go.Proofs.YtbajnceoolkckaaGreat
open Go.RowKit LM
theorem Tryz.info3:(Tryz.prog.info? 3).map (fun i=>(i.zero,i.size,i.bytes)) = some (some (.int .i64 0),1,8):=by kernel_rfl
theorem valR_take_zero (R:Int) (ds:List Int) (n:Nat) (h:ds.getD n 0 = 0) : valR R (ds.take (n + 1)) = valR R (ds.take n):=by
 by_cases hn:n < ds.length
 ·rw [take_snoc ds n hn,valR_append,h];simp [valR]
 ·rw [List.take_of_length_le (by omega),List.take_of_length_le (by omega)]
def RTrim (n:Nat) (xs:List Int) (w:World) (e:Ending) (w':World) : Prop:=
 ∃ A' k c',k <= n /\ e = .returned (.slice A' k c') /\ w = w' /\ Row .i64 w A' k c' (xs.take k) /\ valR 65536 (xs.take k) = valR 65536 xs /\ Trimmed (xs.take k)
theorem rtrim_any (A:Option Addr) (n c:Nat) (xs:List Int) (w:World) (h:Row .i64 w A n c xs) (hn:n <= 1073741824) :
  Calls Tryz.prog 150 #[.slice A n c] w (RTrim n xs w):=by
 have HH:=Hd h
 obtain ⟨hl,hc,hcell⟩:=h
 have HL:=Hd hl
 clear hl
 go_enter Tryz.func150,Tryz.ntmps150
 go_wp2_with fail
 go_loop [3] (fun s=>∃ k:Nat,k <= n /\ s = .int .i64 k /\ Hid (valR 65536 (xs.take k) = valR 65536 xs)) (fun s=>(intOf s).toNat)
 case atStart=>exact ⟨n,Nat.le_refl _,rfl,Hd (by rw [List.take_of_length_le (by rw [HL.out];exact Nat.le_refl _)])⟩
 case round=>
  obtain ⟨k,hk,rfl,Hv⟩:=hrel
  by_cases h0:k = 0
  ·subst h0
   cases A with
   | none=>
    obtain ⟨hn0,hc0⟩ : n = 0 /\ True:=by
     rcases Nat.eq_zero_or_pos n with h | h
     ·exact ⟨h,trivial⟩
     ·obtain ⟨b,o,e,_⟩:=hcell (by omega);cases e
    subst hn0
    go_wp2
    go_ret
    exact ⟨_,0,_,by omega,rfl,rfl,Row.nil_,Hv.out,.inl rfl⟩
   | some a=>
    go_wp2
    go_ret
    exact ⟨_,0,_,by omega,rfl,rfl,Row.nil_,Hv.out,.inl rfl⟩
  ·have hn0:n ≠ 0:=by omega
   obtain ⟨b,o,rfl,hb,hx⟩:=hcell hn0
   have hp:(0:Int) < (k:Int):=by omega
   have hx1:=hx (k - 1) (by omega)
   obtain ⟨x,ex⟩ : ∃ x,xs.getD (k - 1) 0 = x:=⟨_,rfl⟩
   rw [ex] at hx1
   have EX:=Hd ex
   clear hx hcell ex
   have q1:(0:Int) <= (k:Int) - 1:=by omega
   have q2:(k:Int) - 1 < (n:Int):=by omega
   have q3:((k:Int) - 1).toNat = k - 1:=by omega
   by_cases hx0:x = 0
   ·have HX0:=Hd hx0
    subst hx0
    go_wp2
    refine ⟨⟨k - 1,by omega,by go_num,Hd ?_⟩,by simp [intOf];omega⟩
    have h1:=valR_take_zero 65536 xs (k - 1) EX.out
    rw [show k - 1 + 1 = k from by omega,Hv.out] at h1
    exact h1.symm
   ·have hx2:(x == 0) = false:=by simpa using hx0
    go_wp2
    go_ret
    refine ⟨_,k,_,hk,rfl,rfl,HH.out.take hk,Hv.out,.inr ?_⟩
    have hl:=HL.out
    have e1:(xs.take k).length = k:=by rw [List.length_take];omega
    have e2:(xs.take k).getD (k - 1) 0 = xs.getD (k - 1) 0:=by
     rw [List.getD,List.getElem?_take,if_pos (by omega)];rfl
    rw [e1,e2,EX.out];exact hx0
def Rval (w:World) (v:Value) (z:Int) (L:Nat) : Prop:=
 ∃ neg A n c ds,v = .agg #[.bool neg,.slice A n c] /\ Row .i64 w A n c ds /\ DigR 65536 ds /\ Trimmed ds /\ z = withSign neg (valR 65536 ds) /\ (neg = true -> valR 65536 ds ≠ 0) /\ n <= L
theorem DigR.take {R:Int} {l:List Int} (h:DigR R l) (k:Nat) : DigR R (l.take k):=fun d hd=>h d (List.mem_of_mem_take hd)
theorem valR_zero_iff {ds:List Int} (hd:DigR 65536 ds) (ht:Trimmed ds) : valR 65536 ds = 0 ↔ ds = []:=by
 constructor
 ·intro h
  rcases ht with h0 | h0
  ·exact List.eq_nil_of_length_eq_zero h0
  ·exfalso
   by_cases hn:ds.length = 0
   ·rw [List.eq_nil_of_length_eq_zero hn] at h0;simp at h0
   ·have e:ds.take (ds.length - 1 + 1) = ds:=List.take_of_length_le (by omega)
    have h1:valR 65536 ds = valR 65536 (ds.take (ds.length - 1)) + 65536 ^ (ds.length - 1) * ds.getD (ds.length - 1) 0:=by
     have h2:=take_snoc ds (ds.length - 1) (by omega)
     rw [e] at h2
     have h3:=congrArg (valR 65536) h2
     rw [valR_append,List.length_take,Nat.min_eq_left (by omega)] at h3
     simpa [valR] using h3
    have h2:=valR_nonneg (by decide:(0:Int) <= 65536) (hd.take (ds.length - 1))
    have h3:ds.getD (ds.length - 1) 0 ∈ ds:=by simp [List.getD,show ds.length - 1 < ds.length by omega]
    have h4:=hd _ h3
    have h5:(0:Int) < 65536 ^ (ds.length - 1):=Int.pow_pos (by decide)
    have h6:65536 ^ (ds.length - 1) * 1 <= 65536 ^ (ds.length - 1) * ds.getD (ds.length - 1) 0:=Int.mul_le_mul_of_nonneg_left (by omega) (by omega)
    omega
 ·rintro rfl;rfl
def RMade (w:World) (z:Int) (n:Nat) (e:Ending) (w':World) : Prop:=
 ∃ ng A2 n2 c2,e = .returned (.agg #[.bool ng,.slice A2 n2 c2]) /\ Rval w' (.agg #[.bool ng,.slice A2 n2 c2]) z n /\ Below w.heap.size w w'
theorem Rval.below {w w':World} {v:Value} {z:Int} {L:Nat} (h:Rval w v z L) (hb:Below w.heap.size w w') : Rval w' v z L:=by
 obtain ⟨neg,A,n,c,ds,e,hr,r⟩:=h
 exact ⟨neg,A,n,c,ds,e,hr.below hb,r⟩
theorem rmade_any (neg:Bool) (A:Option Addr) (n c:Nat) (ds:List Int) (w:World) (h:Row .i64 w A n c ds) (hn:n <= 1073741824) (hd:DigR 65536 ds) :
  Calls Tryz.prog 121 #[.bool neg,.slice A n c] w (RMade w (withSign neg (valR 65536 ds)) n):=by
 have hb1:=below_alloc w (.cells #[.bool false,.slice none 0 0] 34)
 have HD:=Hd hd
 clear hd
 go_enter Tryz.func121,Tryz.ntmps121
 go_wp2_with fail
 refine (rtrim_any A n c ds _ (h.below hb1) hn).mono ?_
 rintro e w' ⟨A',k,c',hk,rfl,rfl,hr,hv,ht⟩
 have hb2:=fun x=>below_alloc w (.cells x 34)
 have hpos:0 < k ↔ valR 65536 ds ≠ 0:=by
  have h0:=valR_zero_iff (HD.out.take k) ht
  rw [hv] at h0
  have hl:=hr.1
  constructor
  ·intro h1 h2;have:=h0.1 h2;rw [this] at hl;simp at hl;omega
  ·intro h1
   rcases Nat.eq_zero_or_pos k with h2 | h2
   ·subst h2;exact absurd (h0.2 (by simp)) h1
   ·exact h2
 have HV:=Hd hv
 have HT:=Hd ht
 have HP:=Hd hpos
 have hrow:∀ x,Row .i64 (w.alloc (.cells x 34)) A' k c' (ds.take k):=fun x=>by
  refine ⟨hr.1,hr.2.1,fun hk0=>?_⟩
  obtain ⟨b,o,e,hlt,hc⟩:=hr.2.2 hk0
  obtain ⟨b2,o2,e2,hlt2,_⟩ : ∃ b2 o2,A = some ⟨b2,o2,none⟩ /\ b2 < w.heap.size /\ True:=by
   obtain ⟨b2,o2,e2,h2,_⟩:=h.2.2 (by omega)
   exact ⟨b2,o2,e2,h2,trivial⟩
  refine ⟨b,o,e,by simpa using hlt,fun i hi=>?_⟩
  have:=hc i hi
  by_cases hb:b < w.heap.size
  ·rw [World.cell?_alloc_past _ _ _ hb]
   rw [World.cell?_alloc_past _ _ _ hb] at this
   exact this
  ·have hbe:b = w.heap.size:=by simp at hlt;omega
   subst hbe
   rw [World.cell?_alloc_at _ _ _ _ rfl] at this
   match o + i,this with
   | 0,this=>simp at this
   | 1,this=>simp at this
   | (j + 2),this=>simp at this
 have HR:=Hd hrow
 clear hv ht hpos hrow hr
 cases neg with
 | false=>
  go_wp2
  exact bodyPost_ret (v:=.agg #[.bool false,.slice A' k c']) (by simp [results,Tryz.results121,go_sem]) rfl ⟨_,_,_,_,rfl,⟨false,A',k,c',_,rfl,HR.out _,HD.out.take k,HT.out,by rw [HV.out],by simp,hk⟩,below_alloc _ _⟩
 | true=>
  by_cases hk0:k = 0
  ·have hz:valR 65536 ds = 0:=by have:=HP.out;omega
   have HZ:=Hd hz
   clear hz
   subst hk0
   go_wp2
   exact bodyPost_ret (v:=.agg #[.bool false,.slice A' 0 c']) (by simp [results,Tryz.results121,go_sem]) rfl ⟨_,_,_,_,rfl,⟨false,A',0,c',_,rfl,HR.out _,HD.out.take 0,HT.out,by rw [HV.out,HZ.out];rfl,by simp,hk⟩,below_alloc _ _⟩
  ·have hz:valR 65536 ds ≠ 0:=by have:=HP.out;omega
   have HZ:=Hd hz
   clear hz
   have hp:(0:Int) < (k:Int):=by omega
   have hp':0 < k:=by omega
   go_wp2
   exact bodyPost_ret (v:=.agg #[.bool true,.slice A' k c']) (by simp [results,Tryz.results121,go_sem]) rfl ⟨_,_,_,_,rfl,⟨true,A',k,c',_,rfl,HR.out _,HD.out.take k,HT.out,by rw [HV.out],fun _=>by rw [HV.out];exact HZ.out,hk⟩,below_alloc _ _⟩
def Ints64 (w:World) (base:Nat) (v:Value) (ds:List Int) : Prop:=w.ownsRow base 3 1 v ds.length (ds.map (Value.int .i64))
theorem room31 {w w':World} (h:Below (w.heap.size + 1) (w.alloc (.cells #[.bool false,.slice none 0 0] 34)) w') :
  w'.cell? ⟨w.heap.size,0,none⟩ = some (.bool false) /\ w'.cell? ⟨w.heap.size,1,none⟩ = some (.slice none 0 0) /\ w'.frozen? ⟨w.heap.size,0,none⟩ = false /\ w'.frozen? ⟨w.heap.size,1,none⟩ = false:=by
 refine ⟨?_,?_,?_,?_⟩
 ·rw [h.cell (by simp),World.cell?_alloc_at _ _ _ _ (by simp)];rfl
 ·rw [h.cell (by simp),World.cell?_alloc_at _ _ _ _ (by simp)];rfl
 ·rw [h.frozen (by simp)];exact World.frozen?_alloc_at _ _ _ _ (by simp)
 ·rw [h.frozen (by simp)];exact World.frozen?_alloc_at _ _ _ _ (by simp)
theorem Rval.stored {w:World} {s:Value} {z:Int} {L:Nat} (h:Rval w s z L) {r:Nat} (e1:w.cell? ⟨r,0,none⟩ = some (.bool false)) (e2:w.cell? ⟨r,1,none⟩ = some (.slice none 0 0)) (x y:Value) :
  Rval ((w.setCell ⟨r,0,none⟩ x).setCell ⟨r,1,none⟩ y) s z L:=by
 obtain ⟨neg,A,n,c,ds,e,hr,t⟩:=h
 refine ⟨neg,A,n,c,ds,e,(hr.setOther (fun u=>by rw [e1];simp) x).setOther (fun u=>?_) y,t⟩
 rw [World.cell?_setCell_other _ _ _ _ (by simp),e2];simp
theorem cell_one (w:World) (x:Value) {e:TypeId} : ∀ (j:Nat) (u:Value),[x][j]? = some u -> (w.alloc (.cells #[x] e)).cell? ((⟨w.heap.size,0,none⟩ : Addr).add j) = some u:=by
 intro j u hj
 match j,hj with
 | 0,hj=>
  simp at hj;subst hj
  rw [Addr.add_lit,World.cell?_alloc_at _ _ _ _ rfl];rfl
theorem one_cell {K:IntKind} (x:Int) : ∀ u ∈ [Value.int K x],u.oneCell' = true:=by
 intro u hu;simp at hu;subst hu;rfl
theorem rnew_any (n:Int) (w:World) (h0:-9223372036854775808 <= n) (h1:n <= 9223372036854775807) :
  Calls Tryz.prog 87 #[.int .i64 n] w fun e w'=>(∃ ng A2 n2 c2,e = .returned (.agg #[.bool ng,.slice A2 n2 c2]) /\ Rval w' (.agg #[.bool ng,.slice A2 n2 c2]) n 64) /\ Below w.heap.size w w':=by
 obtain ⟨i0,hi,hz0,hz1,hz2⟩:=info_parts Tryz.info3
 have hW:=below_alloc w (.cells #[.bool false,.slice none 0 0] 34)
 by_cases hlt0:n < 0
 ·have hw:IntKind.u64.wrap (-IntKind.u64.wrap n) = -n:=by rw [IntKind.wrap_u64,IntKind.wrap_u64];omega
  go_enter Tryz.func87,Tryz.ntmps87
  go_wp2_with fail
  go_loopw [3,4] (fun uv dv wr=>∃ (u':Int) (ds:List Int),uv = .int .u64 u' /\ 0 <= u' /\ u' < 18446744073709551616 /\ Ints64 wr (w.heap.size + 1) dv ds /\ Hid (DigR 65536 ds /\ valR 65536 ds + 65536 ^ ds.length * u' = (-n)) /\ ds.length <= 64 /\ Below (w.heap.size + 1) (w.alloc (.cells #[.bool false,.slice none 0 0] 34)) wr) (fun uv _ _=>(intOf uv).toNat)
  case atStart=>exact ⟨(-n),[],rfl,by omega,by omega,World.ownsRow_nil _ _ _ _,Hd ⟨fun d hd=>by simp at hd,by simp [valR]⟩,by simp,Below.refl _ _⟩
  case round=>
   obtain ⟨u',ds,rfl,hu0,hu1,hown,HD,hdl,hb⟩:=hrel
   have HO:=Hd hown
   clear hown
   by_cases hu:0 < u'
   ·have hlen:ds.length < 64:=by
     refine len_bound (R:=65536) (z:=(-n)) (L:=2) (by decide) ?_ (by rw [BB_def];omega)
     have h2:=HD.out.2
     have h3:=valR_nonneg (by decide:(0:Int) <= 65536) HD.out.1
     have h4:65536 ^ ds.length * 1 <= 65536 ^ ds.length * u':=Int.mul_le_mul_of_nonneg_left (by omega) (Int.pow_nonneg (by decide))
     omega
    go_wp2_with (at_builtin;refine wpList_append_own _ rfl (.tmp 13) (.tmp 17) _ rfl (w.heap.size + 1) 3 i0 (.int .i64 0) 1 8 Tryz.underlying32 hi hz0 hz1 hz2 rfl (by decide) _ _ _ rfl (HO.out.alloc _) ⟨wr.heap.size,0,none⟩ 1 1 [.int .i64 (u' % 65536)] rfl rfl ?c1 ?c2 ?c3 ?c4 ?c5 ?_)
    case c1=>exact cell_one _ _
    case c2=>exact one_cell _
    case c3=>unfold maxLen;omega
    case c4=>omega
    case c5=>have:=hb.size;simp at this ⊢;omega
    intro v' w3 hown3 hg3 _
    have hb3:Below (w.heap.size + 1) (w.alloc (.cells #[.bool false,.slice none 0 0] 34)) w3:=by
     have hs:=hb.size
     simp at hs
     exact (hb.alloc (by omega) _).grown hg3 (by simp;omega) (fun g hg=>(HO.out.lt g hg).1)
    have ho3:Ints64 w3 (w.heap.size + 1) v' (ds ++ [u' % 65536]):=by
     unfold Ints64;rw [List.length_append,List.length_singleton,List.map_append];exact hown3
    have HO3:=Hd ho3
    clear hown3 hg3 ho3
    go_wp2
    refine ⟨⟨u' / 65536,_,rfl,by omega,by omega,HO3.out,Hd ⟨?_,?_⟩,by simp;omega,hb3⟩,by simp [intOf];omega⟩
    ·intro x hx
     rcases List.mem_append.1 hx with hx | hx
     ·exact HD.out.1 x hx
     ·simp at hx;subst hx;omega
    ·have h2:=HD.out.2
     rw [valR_append,List.length_append,List.length_singleton,Int.pow_succ]
     have h3:65536 ^ ds.length * u' = 65536 ^ ds.length * (65536 * (u' / 65536)) + 65536 ^ ds.length * (u' % 65536):=by
      rw [<- Int.mul_add]
      exact congrArg _ (by omega:u' = 65536 * (u' / 65536) + u' % 65536)
     rw [h3] at h2
     simp only [valR,Int.mul_zero,Int.add_zero]
     rw [Int.mul_assoc]
     omega
   ·obtain rfl:u' = 0:=by omega
    obtain ⟨A,c,rfl,hrow⟩:=Row.of_ownsRow HO.out
    have hv:valR 65536 ds = (-n):=by have:=HD.out.2;simpa using this
    have HV:=Hd hv
    clear hv
    go_wp2_with fail
    refine (rmade_any true A _ c ds _ hrow (by omega) HD.out.1).mono ?_
    rintro e w4 ⟨ng,A2,n2,c2,rfl,hr,hb4⟩
    have hB:=hb.trans (hb4.mono (B':=w.heap.size + 1) (by have:=hb.size;simpa using this))
    obtain ⟨e1,e2,f1,f2⟩:=room31 hB
    have HR:=Hd hr
    clear hr
    go_wp2
    refine bodyPost_ret (v:=.agg #[.bool ng,.slice A2 n2 c2]) (by simp [results,Tryz.results87,go_sem,e1,e2]) rfl ⟨⟨_,_,_,_,rfl,?_⟩,?_⟩
    ·have e0:withSign true (valR 65536 ds) = n:=by rw [HV.out];simp [withSign]
     rw [<- e0]
     obtain ⟨neg',A',n',c',ds',ev,r1,r2,r3,r4,r5,r6⟩:=HR.out.stored e1 e2 (.bool ng) (.slice A2 n2 c2)
     exact ⟨neg',A',n',c',ds',ev,r1,r2,r3,r4,r5,by omega⟩
    ·exact ((hW.trans (hB.mono (by omega))).setCell (Nat.le_refl _) _).setCell (Nat.le_refl _) _
 ·have hdec:decide (n < 0) = false:=by simpa using hlt0
  go_enter Tryz.func87,Tryz.ntmps87
  go_wp2_with fail
  go_loopw [3,4] (fun uv dv wr=>∃ (u':Int) (ds:List Int),uv = .int .u64 u' /\ 0 <= u' /\ u' < 18446744073709551616 /\ Ints64 wr (w.heap.size + 1) dv ds /\ Hid (DigR 65536 ds /\ valR 65536 ds + 65536 ^ ds.length * u' = n) /\ ds.length <= 64 /\ Below (w.heap.size + 1) (w.alloc (.cells #[.bool false,.slice none 0 0] 34)) wr) (fun uv _ _=>(intOf uv).toNat)
  case atStart=>exact ⟨n,[],rfl,by omega,by omega,World.ownsRow_nil _ _ _ _,Hd ⟨fun d hd=>by simp at hd,by simp [valR]⟩,by simp,Below.refl _ _⟩
  case round=>
   obtain ⟨u',ds,rfl,hu0,hu1,hown,HD,hdl,hb⟩:=hrel
   have HO:=Hd hown
   clear hown
   by_cases hu:0 < u'
   ·have hlen:ds.length < 64:=by
     refine len_bound (R:=65536) (z:=n) (L:=2) (by decide) ?_ (by rw [BB_def];omega)
     have h2:=HD.out.2
     have h3:=valR_nonneg (by decide:(0:Int) <= 65536) HD.out.1
     have h4:65536 ^ ds.length * 1 <= 65536 ^ ds.length * u':=Int.mul_le_mul_of_nonneg_left (by omega) (Int.pow_nonneg (by decide))
     omega
    go_wp2_with (at_builtin;refine wpList_append_own _ rfl (.tmp 13) (.tmp 17) _ rfl (w.heap.size + 1) 3 i0 (.int .i64 0) 1 8 Tryz.underlying32 hi hz0 hz1 hz2 rfl (by decide) _ _ _ rfl (HO.out.alloc _) ⟨wr.heap.size,0,none⟩ 1 1 [.int .i64 (u' % 65536)] rfl rfl ?c1 ?c2 ?c3 ?c4 ?c5 ?_)
    case c1=>exact cell_one _ _
    case c2=>exact one_cell _
    case c3=>unfold maxLen;omega
    case c4=>omega
    case c5=>have:=hb.size;simp at this ⊢;omega
    intro v' w3 hown3 hg3 _
    have hb3:Below (w.heap.size + 1) (w.alloc (.cells #[.bool false,.slice none 0 0] 34)) w3:=by
     have hs:=hb.size
     simp at hs
     exact (hb.alloc (by omega) _).grown hg3 (by simp;omega) (fun g hg=>(HO.out.lt g hg).1)
    have ho3:Ints64 w3 (w.heap.size + 1) v' (ds ++ [u' % 65536]):=by
     unfold Ints64;rw [List.length_append,List.length_singleton,List.map_append];exact hown3
    have HO3:=Hd ho3
    clear hown3 hg3 ho3
    go_wp2
    refine ⟨⟨u' / 65536,_,rfl,by omega,by omega,HO3.out,Hd ⟨?_,?_⟩,by simp;omega,hb3⟩,by simp [intOf];omega⟩
    ·intro x hx
     rcases List.mem_append.1 hx with hx | hx
     ·exact HD.out.1 x hx
     ·simp at hx;subst hx;omega
    ·have h2:=HD.out.2
     rw [valR_append,List.length_append,List.length_singleton,Int.pow_succ]
     have h3:65536 ^ ds.length * u' = 65536 ^ ds.length * (65536 * (u' / 65536)) + 65536 ^ ds.length * (u' % 65536):=by
      rw [<- Int.mul_add]
      exact congrArg _ (by omega:u' = 65536 * (u' / 65536) + u' % 65536)
     rw [h3] at h2
     simp only [valR,Int.mul_zero,Int.add_zero]
     rw [Int.mul_assoc]
     omega
   ·obtain rfl:u' = 0:=by omega
    obtain ⟨A,c,rfl,hrow⟩:=Row.of_ownsRow HO.out
    have hv:valR 65536 ds = n:=by have:=HD.out.2;simpa using this
    have HV:=Hd hv
    clear hv
    go_wp2_with fail
    refine (rmade_any false A _ c ds _ hrow (by omega) HD.out.1).mono ?_
    rintro e w4 ⟨ng,A2,n2,c2,rfl,hr,hb4⟩
    have hB:=hb.trans (hb4.mono (B':=w.heap.size + 1) (by have:=hb.size;simpa using this))
    obtain ⟨e1,e2,f1,f2⟩:=room31 hB
    have HR:=Hd hr
    clear hr
    go_wp2
    refine bodyPost_ret (v:=.agg #[.bool ng,.slice A2 n2 c2]) (by simp [results,Tryz.results87,go_sem,e1,e2]) rfl ⟨⟨_,_,_,_,rfl,?_⟩,?_⟩
    ·have e0:withSign false (valR 65536 ds) = n:=by rw [HV.out];simp [withSign]
     rw [<- e0]
     obtain ⟨neg',A',n',c',ds',ev,r1,r2,r3,r4,r5,r6⟩:=HR.out.stored e1 e2 (.bool ng) (.slice A2 n2 c2)
     exact ⟨neg',A',n',c',ds',ev,r1,r2,r3,r4,r5,by omega⟩
    ·exact ((hW.trans (hB.mono (by omega))).setCell (Nat.le_refl _) _).setCell (Nat.le_refl _) _
theorem valR_take_succ (R:Int) (ds:List Int) (n:Nat) : valR R (ds.take (n + 1)) = valR R (ds.take n) + R ^ n * ds.getD n 0:=by
 by_cases hn:n < ds.length
 ·rw [take_snoc ds n hn,valR_append,List.length_take,Nat.min_eq_left (by omega)];simp [valR]
 ·rw [List.take_of_length_le (by omega),List.take_of_length_le (by omega),getD_out ds n (by omega)];simp
theorem valR_take_two (ds:List Int) (k:Nat) : valR 65536 (ds.take (2 * (k + 1))) = valR 65536 (ds.take (2 * k)) + BB ^ k * (ds.getD (2 * k) 0 + ds.getD (2 * k + 1) 0 * 65536):=by
 rw [show 2 * (k + 1) = 2 * k + 1 + 1 from by omega,valR_take_succ,valR_take_succ,Int.pow_succ,Int.mul_add]
 have e:(65536:Int) ^ (2 * k) = BB ^ k:=by rw [Int.pow_mul,BB_def];rfl
 rw [e]
 grind
theorem DigR.getD_lt {ds:List Int} (h:DigR 65536 ds) (k:Nat) : 0 <= ds.getD k 0 /\ ds.getD k 0 < 65536:=by
 by_cases hk:k < ds.length
 ·exact h _ (by simp [List.getD,hk])
 ·rw [getD_out ds k (by omega)];omega
def Paired (ds ls:List Int) (n k:Nat) : Prop:=ls.length = k /\ Dig ls /\ val ls = valR 65536 (ds.take (2 * k)) /\ (n <= 2 * k -> Trimmed ls)
theorem Paired.step {ds ls:List Int} {n k:Nat} (h:Paired ds ls n k) (hl:ds.length = n) (hd:DigR 65536 ds) (ht:Trimmed ds) (hk:2 * k < n) {x:Int} (hx:x = ds.getD (2 * k) 0 + ds.getD (2 * k + 1) 0 * 65536) : Paired ds (ls ++ [x]) n (k + 1):=by
 obtain ⟨h1,h2,h3,h4⟩:=h
 have b0:=hd.getD_lt (2 * k)
 have b1:=hd.getD_lt (2 * k + 1)
 refine ⟨by simp [h1],h2.snoc (by omega) (by rw [BB_def];omega),?_,fun hn=>.inr ?_⟩
 ·rw [val_snoc,h3,h1,valR_take_two,hx]
 ·have e:(ls ++ [x]).getD ((ls ++ [x]).length - 1) 0 = x:=by simp [List.getD]
  rw [e]
  rcases ht with h0 | h0
  ·omega
  ·by_cases hn1:n = 2 * k + 1
   ·rw [hl,show n - 1 = 2 * k from by omega] at h0;omega
   ·rw [hl,show n - 1 = 2 * k + 1 from by omega] at h0;omega
theorem step_own {P:Program} {ops:Array Oper} {o:Oper} {a:Act} {w:World} {K:Act -> World -> Prop} {Q:Exit -> Act -> World -> Prop} {E:Prop}
  (hg:o.guard = none) (s x:Operand) (t:TypeId) (hop:o.op = Op.call { callee:=Callee.builtin Builtin.append,args:=#[s,x],argTypes:=#[t,t] })
  (base:Nat) (e:TypeId) (i:TypeInfo) (z:Value) (size bytes:Nat) (h1:P.underlying t = some (.slice e)) (h2:P.info? e = some i) (h3:i.zero = some z) (h4:i.size = size) (h5:i.bytes = bytes) (h6:z.cells.size = size) (h7:0 < size)
  (v:Value) (n:Nat) (olds:List Value) (hs:a.eval s = v) (hown:w.ownsRow base e size v n olds)
  (ad:Addr) (m c:Nat) (news:List Value) (hx:a.eval x = .slice (some ad) m c) (hn:news.length = m * size) (hc:∀ j u,news[j]? = some u -> w.cell? (ad.add j) = some u) (h1c:∀ u ∈ news,u.oneCell' = true)
  (b1:n + m <= maxLen) (b2:(n + m) * bytes <= 140737488355328) (hb:base <= w.heap.size)
  (hK:∀ v' w',w'.ownsRow base e size v' (n + m) (olds ++ news) -> w.grownBy w' v.ownBlock -> K (a.put o.dst v') w') :
  if Region.wanted o (yielded ops a.tmps) = true then Oper.wp P o a w K Q else E:=by
 have hw:Region.wanted o (yielded ops a.tmps) = true:=by simp [Region.wanted,hg]
 rw [if_pos hw]
 obtain ⟨v',w',hrun,r1,r2,_⟩:=run_append_own (P:=P) w base t o.type e i z size bytes h1 h2 h3 h4 h5 h6 h7 v n olds hown ad m c news hn hc h1c b1 b2 hb
 unfold Oper.wp
 simp [execOp,hop,resolve,invoke,builtin,hs,hx,hrun,Result.andThen]
 exact hK v' w' r1 r2
theorem two_cells (w:World) (x y:Value) {e:TypeId} : ∀ (j:Nat) (u:Value),[x,y][j]? = some u -> (w.alloc (.cells #[x,y] e)).cell? ((⟨w.heap.size,0,none⟩ : Addr).add j) = some u:=by
 intro j u hj
 match j,hj with
 | 0,hj=>simp at hj;subst hj;rw [Addr.add_lit,World.cell?_alloc_at _ _ _ _ rfl];rfl
 | 1,hj=>simp at hj;subst hj;rw [Addr.add_lit,World.cell?_alloc_at _ _ _ _ rfl];rfl
theorem pair_step {ds xs:List Int} {k:Nat} {x:Int} (h:DigR 65536 ds /\ valR 65536 ds = val (xs.take k)) (hl:ds.length = 2 * k) (hx:xs.getD k 0 = x) (h0:0 <= x) (h1:x < 4294967296) :
  DigR 65536 (ds ++ [x % 65536,x / 65536]) /\ valR 65536 (ds ++ [x % 65536,x / 65536]) = val (xs.take (k + 1)):=by
 constructor
 ·intro d hd
  rcases List.mem_append.1 hd with hd | hd
  ·exact h.1 d hd
  ·simp at hd
   rcases hd with rfl | rfl <;> omega
 ·rw [valR_append,val_take_succ,h.2,hl,hx]
  have e:(65536:Int) ^ (2 * k) = BB ^ k:=by rw [Int.pow_mul,BB_def];rfl
  rw [e]
  have e2:valR 65536 [x % 65536,x / 65536] = x:=by simp [valR];omega
  rw [e2]
theorem rmake_any (p:Bool) (A:Option Addr) (n c:Nat) (xs:List Int) (w:World) (h:Row .u32 w A n c xs) (hn:n <= 1048576) (hd:Dig xs) :
  Calls Tryz.prog 75 #[.bool p,.slice A n c] w fun e w'=>(∃ ng A2 n2 c2,e = .returned (.agg #[.bool ng,.slice A2 n2 c2]) /\ Rval w' (.agg #[.bool ng,.slice A2 n2 c2]) (withSign p (val xs)) (2 * n)) /\ Below w.heap.size w w':=by
 obtain ⟨i0,hi,hz0,hz1,hz2⟩:=info_parts Tryz.info3
 have hW:=below_alloc w (.cells #[.bool false,.slice none 0 0] 34)
 have HR:=Hd h
 have HD:=Hd hd
 have HL:=Hd h.1
 clear h hd
 go_enter Tryz.func75,Tryz.ntmps75
 go_wp2_with fail
 go_loopw [5,6] (fun dv iv wr=>∃ (k:Nat) (ds:List Int),iv = .int .i64 k /\ k <= n /\ Ints64 wr (w.heap.size + 1) dv ds /\ ds.length = 2 * k /\ Hid (DigR 65536 ds /\ valR 65536 ds = val (xs.take k)) /\ Below (w.heap.size + 1) (w.alloc (.cells #[.bool false,.slice none 0 0] 34)) wr) (fun _ iv _=>n - (intOf iv).toNat)
 case atStart=>exact ⟨0,[],rfl,Nat.zero_le _,World.ownsRow_nil _ _ _ _,rfl,Hd ⟨fun d hd=>by simp at hd,by simp [valR,val]⟩,Below.refl _ _⟩
 case round=>
  obtain ⟨k,ds,rfl,hk,hown,hdl,HP,hb⟩:=hrel
  have HO:=Hd hown
  clear hown
  have HO2:Hid (wr.ownsRow (w.heap.size + 1) 3 1 u5 (2 * k) (ds.map (Value.int .i64))):=Hd (by have h:=HO.out;unfold Ints64 at h;rw [hdl] at h;exact h)
  by_cases hlt:k < n
  ·have hn0:n ≠ 0:=by omega
   obtain ⟨b,o,rfl,hbb,hx⟩:=(HR.out.below (hW.trans (hb.mono (by omega)))).2.2 hn0
   have hx1:wr.cell? _ = _:=hx k hlt
   have g0:=HD.out.getD k
   obtain ⟨x,ex⟩ : ∃ x,xs.getD k 0 = x:=⟨_,rfl⟩
   rw [ex] at hx1 g0
   rw [BB_def] at g0
   have EX:=Hd ex
   have e1:x.tmod 65536 = x % 65536:=Int.tmod_eq_emod_of_nonneg g0.1
   have e2:x.tdiv 65536 = x / 65536:=Int.tdiv_eq_ediv_of_nonneg g0.1
   have e3:IntKind.i64.wrap (x % 65536) = x % 65536:=by rw [IntKind.wrap_i64];omega
   have e4:IntKind.u32.wrap (x / 65536) = x / 65536:=by rw [IntKind.wrap_u32];omega
   have e5:IntKind.i64.wrap (x / 65536) = x / 65536:=by rw [IntKind.wrap_i64];omega
   clear ex hx
   go_wp2_with fail
   have hbs:w.heap.size + 1 <= wr.heap.size:=by have:=hb.size;simpa using this
   go_region_law (refine step_own rfl (.tmp 13) (.tmp 26) 32 rfl (w.heap.size + 1) 3 i0 (.int .i64 0) 1 8 Tryz.underlying32 hi hz0 hz1 hz2 rfl (by decide) u5 (2 * k) (ds.map (Value.int .i64)) (by simp [Act.eval]) (HO2.out.alloc _) ⟨wr.heap.size,0,none⟩ 2 2 [.int .i64 (x % 65536),.int .i64 (x / 65536)] (by simp [Act.eval]) rfl (two_cells _ _ _) ?h3 ?h4 ?h5 ?h6 ?_;(case h3=>(intro u hu;simp at hu;rcases hu with rfl | rfl <;> rfl));(case h4=>(unfold maxLen;omega));(case h5=>omega);(case h6=>(show _ <= _;simp;omega));intro v' w3 hown3 hg3)
   all_goals
    have hb3:Below (w.heap.size + 1) (w.alloc (.cells #[.bool false,.slice none 0 0] 34)) w3:=
     ((hb.alloc hbs _).drew).grown hg3 (by show _ <= _;simp;omega) (fun g hg=>(HO2.out.lt g hg).1)
    have ho3:Ints64 w3 (w.heap.size + 1) v' (ds ++ [x % 65536,x / 65536]):=by
     unfold Ints64;rw [List.length_append,hdl,List.map_append];exact hown3
    have HO3:=Hd ho3
    have HP3:=Hd (pair_step HP.out hdl EX.out g0.1 g0.2)
    clear hown3 hg3 ho3
    go_wp2
    exact ⟨⟨k + 1,_,by go_num,hlt,HO3.out,by simp [hdl];omega,HP3,hb3⟩,by simp [intOf];omega⟩
  ·obtain rfl:k = n:=by omega
   obtain ⟨A',c',rfl,hrow⟩:=Row.of_ownsRow HO2.out
   have hv:valR 65536 ds = val xs:=by rw [HP.out.2,List.take_of_length_le (by rw [HL.out];exact Nat.le_refl _)]
   have HV:=Hd hv
   clear hv
   go_wp2_with fail
   refine (rmade_any p A' _ c' ds _ hrow (by omega) HP.out.1).mono ?_
   rintro e w4 ⟨ng,A2,n2,c2,rfl,hr,hb4⟩
   have hB:=hb.trans (hb4.mono (B':=w.heap.size + 1) (by have:=hb.size;simpa using this))
   obtain ⟨e1,e2,f1,f2⟩:=room31 hB
   have HR4:=Hd hr
   clear hr
   go_wp2
   refine bodyPost_ret (v:=.agg #[.bool ng,.slice A2 n2 c2]) (by simp [results,Tryz.results75,go_sem,e1,e2]) rfl ⟨⟨_,_,_,_,rfl,?_⟩,?_⟩
   ·rw [<- HV.out]
    obtain ⟨neg',A',n',c',ds',ev,r1,r2,r3,r4,r5,r6⟩:=HR4.out.stored e1 e2 (.bool ng) (.slice A2 n2 c2)
    exact ⟨neg',A',n',c',ds',ev,r1,r2,r3,r4,r5,by omega⟩
   ·exact ((hW.trans (hB.mono (by omega))).setCell (Nat.le_refl _) _).setCell (Nat.le_refl _) _
theorem u32_and_one (y:Int) (h0:0 <= y) (h1:y < 4294967296) : bits BinOp.and IntKind.u32 y 1 = y % 2:=by
 obtain ⟨Y,rfl⟩:=Int.eq_ofNat_of_zero_le h0
 have:=u32_and_nat Y 1 (by omega) (by omega)
 rw [Nat.and_one_is_mod] at this
 rw [show (1:Int) = ((1:Nat) : Int) from rfl,this]
 omega
theorem withSign_mod2 (p:Bool) (a:Int) : (withSign p a % 2 = 1) ↔ (a % 2 = 1):=by
 cases p <;> simp [withSign] <;> omega
theorem odd_int (u:Value) (x:Int) (L:Nat) (w:World) (h:Ival w u x L) (_hL:L <= 1073741824) :
  Calls Tryz.prog 144 #[u] w fun e w'=>e = .returned (.bool (decide (x % 2 = 1))) /\ Below w.heap.size w w':=by
 obtain ⟨p,s,a,rfl,⟨A,n,c,xs,rfl,hr,hd,ht,hv,hn⟩,ha0,hz,hp⟩:=h
 have hW:=below_alloc w (.cells #[.bool p,.slice A n c] 31)
 by_cases hn0:n = 0
 ·subst hn0
  have hx:xs = []:=List.eq_nil_of_length_eq_zero hr.1
  subst hx
  have hx0:Hid (decide (x % 2 = 1) = false):=Hd (by
   have:a = 0:=by rw [<- hv];rfl
   subst this
   rw [hz];cases p <;> simp [withSign])
  clear hr hd ht hv hz hp
  go_enter Tryz.func144,Tryz.ntmps144
  go_wp2
  go_ret
  exact ⟨by rw [hx0.out];rfl,hW⟩
 ·obtain ⟨b,o,rfl,hb,hc⟩:=hr.2.2 hn0
  have hc0:w.cell? ⟨b,o,none⟩ = some (.int .u32 (xs.getD 0 0)):=hc 0 (by omega)
  have hb0:=hd.getD 0
  obtain ⟨y,hy⟩ : ∃ y,xs.getD 0 0 = y:=⟨_,rfl⟩
  rw [hy,BB_def] at hb0
  rw [hy] at hc0
  have hpar:a % 2 = y % 2:=by
   match xs,hr.1 with
   | [],h=>simp at h;omega
   | d :: l,_=>rw [<- hv,val_cons,<- hy,BB_def];simp;omega
  have hx0:Hid (decide (x % 2 = 1) = (y % 2 == 1)):=Hd (by
   rw [hz,decide_eq_decide.2 ((withSign_mod2 p a).trans (show a % 2 = 1 ↔ y % 2 = 1 by rw [hpar]))];rfl)
  have hand:=u32_and_one y hb0.1 hb0.2
  have hp0:(0:Int) < (n:Int):=by omega
  have HH:=Hd hc0
  clear hc hr hd ht hv hz hp hy hpar
  have hc1:∀ o',(w.alloc o').cell? ⟨b,o,none⟩ = some (.int .u32 y):=fun o'=>by rw [World.cell?_alloc_past _ _ _ hb];exact HH.out
  go_enter Tryz.func144,Tryz.ntmps144
  go_wp2
  go_ret
  exact ⟨by rw [hx0.out];rfl,hW⟩
theorem rsign_any (v:Value) (x:Int) (L:Nat) (w:World) (h:Rval w v x L) (_hL:L <= 1073741824) :
  Calls Tryz.prog 77 #[v] w fun e w'=>e = .returned (.int .i64 (cmpI x 0)) /\ Below w.heap.size w w':=by
 obtain ⟨p,A,n,c,ds,rfl,hr,hd,ht,hz,hp,hn⟩:=h
 have hW:=below_alloc w (.cells #[.bool p,.slice A n c] 34)
 have hz0:=valR_zero_iff hd ht
 have hge:=valR_nonneg (by decide:(0:Int) <= 65536) hd
 by_cases hn0:n = 0
 ·subst hn0
  have hx:ds = []:=List.eq_nil_of_length_eq_zero hr.1
  subst hx
  have hx0:Hid (cmpI x 0 = 0):=Hd (by rw [hz];cases p <;> simp [withSign,valR,cmpI])
  clear hr hd ht hz hp hz0 hge
  go_enter Tryz.func77,Tryz.ntmps77
  go_wp2
  go_ret
  exact ⟨by rw [hx0.out];rfl,hW⟩
 ·have hne:valR 65536 ds ≠ 0:=fun e=>by
   have:=hz0.1 e
   have hl:=hr.1
   rw [this] at hl;simp at hl;omega
  have hn1:((n:Int) == 0) = false:=by simp;omega
  cases p with
  | true=>
   have hx0:Hid (cmpI x 0 = -1):=Hd (by rw [hz];exact cmpI_lt (by simp [withSign];omega))
   clear hr hd ht hz hp hz0 hge hne
   go_enter Tryz.func77,Tryz.ntmps77
   go_wp2
   go_ret
   exact ⟨by rw [hx0.out];rfl,hW⟩
  | false=>
   have hx0:Hid (cmpI x 0 = 1):=Hd (by rw [hz];exact cmpI_gt (by simp [withSign];omega))
   clear hr hd ht hz hp hz0 hge hne
   go_enter Tryz.func77,Tryz.ntmps77
   go_wp2
   go_ret
   exact ⟨by rw [hx0.out];rfl,hW⟩
end Go.Proofs.YtbajnceoolkckaaGreat
