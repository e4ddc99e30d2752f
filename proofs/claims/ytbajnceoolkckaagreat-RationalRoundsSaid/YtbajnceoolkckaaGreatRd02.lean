/- Of the proof of RationalRounds: Texts0. -/
import Derived.Test.YtbajnceoolkckaaGreatRd01
import Derived.Deep.LoopGhost
import Derived.BigRegion
import Derived.Laws.BytesArg
open Go.Lib renaming hid → Hd
set_option maxRecDepth 100000
set_option maxHeartbeats 16000000
namespace Go.Proofs.YtbajnceoolkckaaGreat
open Go.RowKit LM
theorem chunk_any (R:Int) (w:World) (h0:2 <= R) (h1:R <= 36) :
  Calls Tryz.prog 170 #[.int .i64 R] w fun e w'=>(∃ k:Nat,e = .returned (.tuple #[.int .i64 k,.int .u32 (R ^ k)]) /\ 1 <= k /\ k <= 64 /\ 2 <= R ^ k /\ R ^ k < 4294967296) /\ w = w':=by
 go_enter Tryz.func170,Tryz.ntmps170
 go_wp2_with fail
 go_loop [2,4] (fun dv pv=>∃ (k:Nat) (p:Int),dv = .int .i64 k /\ pv = .int .u64 p /\ Hid (p = R ^ k) /\ (k:Int) + 1 <= p /\ k <= 64 /\ 1 <= p /\ p < 4294967296 /\ Hid (1 <= p /\ (2:Int) ^ k <= p)) (fun _ pv=>(4294967296 - intOf pv).toNat)
 case atStart=>exact ⟨0,1,rfl,rfl,Hd (by simp),by simp,by omega,by omega,by omega,Hd ⟨by omega,by simp⟩⟩
 case round=>
  obtain ⟨k,p,rfl,rfl,HP,hkp,hk64,hp1,hp2,H2⟩:=hrel
  obtain ⟨m,hm⟩ : ∃ m,p * R = m:=⟨_,rfl⟩
  have m0:2 * p <= m:=by rw [<- hm,Int.mul_comm p R];exact Int.mul_le_mul_of_nonneg_right h0 (by omega)
  have m1:m <= 36 * p:=by rw [<- hm,Int.mul_comm p R];exact Int.mul_le_mul_of_nonneg_right h1 (by omega)
  by_cases hlt:m < 4294967296
  ·have hz:m / 4294967296 = 0:=Int.ediv_eq_zero_of_lt (by omega) hlt
   have hz':(m / 4294967296 == 0) = true:=by rw [hz];rfl
   have hk:k < 32:=by
    have h2:=H2.out.2
    rcases Nat.lt_or_ge k 32 with h | h
    ·exact h
    ·have h3:(2:Int) ^ 32 <= 2 ^ k:=by
      have:=Nat.pow_le_pow_right (show 0 < 2 by omega) h
      exact_mod_cast this
     have:(2:Int) ^ 32 = 4294967296:=by decide
     omega
   clear hz
   go_wp2
   refine ⟨⟨k + 1,m,by go_num,rfl,Hd ?_,by omega,by omega,by omega,hlt,Hd ⟨by omega,?_⟩⟩,by simp [intOf];omega⟩
   ·rw [<- hm,HP.out,Int.pow_succ]
   ·have:=H2.out.2;rw [Int.pow_succ];omega
  ·have hq:1 <= m / 4294967296:=Int.le_ediv_of_mul_le (by decide) (by omega)
   have hz':(m / 4294967296 == 0) = false:=by simp;omega
   have hk0:1 <= k:=by
    rcases Nat.eq_zero_or_pos k with h | h
    ·subst h
     have:=HP.out
     simp at this
     omega
    ·exact h
   have hp3:2 <= p:=by omega
   clear hq
   go_wp2
   go_ret2
   refine ⟨⟨k,?_,hk0,hk64,?_,?_⟩,rfl⟩
   ·rw [<- HP.out];rfl
   ·rw [<- HP.out];exact hp3
   ·rw [<- HP.out];exact hp2
theorem Tryz.info5:(Tryz.prog.info? 5).map (fun i=>(i.zero,i.size,i.bytes)) = some (some (.int .u8 0),1,1):=by kernel_rfl
def valR (R:Int) : List Int -> Int
 | []=>0
 | d :: l=>d + R * valR R l
def DigR (R:Int) (l:List Int) : Prop:=∀ d ∈ l,0 <= d /\ d < R
theorem valR_append (R:Int) (a b:List Int) : valR R (a ++ b) = valR R a + R ^ a.length * valR R b:=by
 induction a with
 | nil=>simp [valR]
 | cons d a ih=>
  rw [List.cons_append,valR,valR,ih,List.length_cons,Int.pow_succ,Int.mul_add]
  rw [Int.mul_comm (R ^ a.length) R,Int.mul_assoc];omega
theorem valR_nonneg {R:Int} (hR:0 <= R) {l:List Int} (h:DigR R l) : 0 <= valR R l:=by
 induction l with
 | nil=>simp [valR]
 | cons d l ih=>
  have h1:=ih (fun x hx=>h x (List.mem_cons_of_mem _ hx))
  have h2:=h d (List.mem_cons_self ..)
  have:=Int.mul_nonneg hR h1
  rw [valR];omega
def nameOf (d:Int) : Int:=if d < 10 then d + 48 else d + 55
def Apart (w:World) (v:Value) (B:Nat) : Prop:=∀ A n c,v = .slice A n c -> n ≠ 0 -> ∃ b o,A = some ⟨b,o,none⟩ /\ (b < B \/ ∃ cs fr,w.heap[b]? = some (.cells cs 135 fr))
theorem Num.apart {w w':World} {v:Value} {z:Int} {L B:Nat} (h:Num w v z L) (ha:Apart w v B) {row:Option Nat} (hg:w.grownBy w' row) (hr:∀ g,row = some g -> B <= g /\ ∃ cs fr,w.heap[g]? = some (.cells cs 5 fr)) : Num w' v z L /\ Apart w' v B:=by
 obtain ⟨A,n,c,xs,rfl,hrow,r⟩:=h
 have key:n ≠ 0 -> ∃ b o,A = some ⟨b,o,none⟩ /\ w'.heap[b]? = w.heap[b]? /\ (b < B \/ ∃ cs fr,w.heap[b]? = some (.cells cs 135 fr)):=by
  intro hn
  obtain ⟨b,o,hA,hc⟩:=ha A n c rfl hn
  obtain ⟨b',o',hA',hlt,_⟩:=hrow.2.2 hn
  have hbb:b = b':=by rw [hA] at hA';simp at hA';exact hA'.1
  subst hbb
  refine ⟨b,o,hA,hg.block b hlt (fun e=>?_),hc⟩
  obtain ⟨h1,cs',fr',h'⟩:=hr b e.symm
  rcases hc with hc | ⟨cs,fr,hc⟩
  ·omega
  ·rw [h'] at hc;simp at hc
 constructor
 ·refine ⟨A,n,c,xs,rfl,⟨hrow.1,hrow.2.1,fun hn=>?_⟩,r⟩
  obtain ⟨b,o,hA,he,_⟩:=key hn
  obtain ⟨b',o',hA',hlt,hc⟩:=hrow.2.2 hn
  rw [hA] at hA'
  simp only [Option.some.injEq,Addr.mk.injEq,and_true] at hA'
  obtain ⟨rfl,rfl⟩:=hA'
  exact ⟨b,o,hA,Nat.lt_of_lt_of_le hlt hg.size,fun i hi=>(World.cell?_of_block (a:=⟨b,o + i,none⟩) he).trans (hc i hi)⟩
 ·intro A' n' c' e hn
  simp only [Value.slice.injEq] at e
  obtain ⟨rfl,rfl,rfl⟩:=e
  obtain ⟨b,o,hA,he,hc⟩:=key hn
  exact ⟨b,o,hA,hc.imp id (fun ⟨cs,fr,h⟩=>⟨cs,fr,he.trans h⟩)⟩
theorem Apart.below {w w':World} {v:Value} {B:Nat} (h:Apart w v B) (hb:Below w.heap.size w w') : Apart w' v B:=by
 intro A n c e hn
 obtain ⟨b,o,hA,hc⟩:=h A n c e hn
 exact ⟨b,o,hA,hc.imp id (fun ⟨cs,fr,hh⟩=>⟨cs,fr,(hb.block b (Array.getElem?_eq_some_iff.1 hh).1).trans hh⟩)⟩
def Names (w:World) (base:Nat) (v:Value) (ds:List Int) : Prop:=w.ownsRow base 5 1 v ds.length (ds.map (fun d=>Value.int .u8 (nameOf d)))
theorem pow_mono_left {R:Int} (h:2 <= R) (a:Nat) : (2:Int) ^ a <= R ^ a:=by
 induction a with
 | zero=>simp
 | succ a ih=>
  rw [Int.pow_succ,Int.pow_succ]
  have h1:(0:Int) <= 2 ^ a:=Int.pow_nonneg (by decide)
  have h2:(2:Int) ^ a * 2 <= 2 ^ a * R:=Int.mul_le_mul_of_nonneg_left h h1
  have h3:(2:Int) ^ a * R <= R ^ a * R:=Int.mul_le_mul_of_nonneg_right ih (by omega)
  omega
theorem BB_two (L:Nat) : BB ^ L = (2:Int) ^ (32 * L):=by
 rw [Int.pow_mul,BB_def];rfl
theorem len_bound {R z:Int} {a L:Nat} (h:2 <= R) (h1:R ^ a <= z) (h2:z < BB ^ L) : a < 32 * L:=by
 rcases Nat.lt_or_ge a (32 * L) with h3 | h3
 ·exact h3
 ·have h4:(2:Int) ^ (32 * L) <= 2 ^ a:=by
   have:=Nat.pow_le_pow_right (show 0 < 2 by omega) h3
   exact_mod_cast this
  have:=pow_mono_left h a
  rw [BB_two] at h2
  omega
theorem Num.lt {w:World} {v:Value} {z:Int} {L:Nat} (h:Num w v z L) : z < BB ^ L:=by
 obtain ⟨_,n,_,xs,_,hr,hd,_,rfl,hn⟩:=h
 have h1:=(val_bounds hd).2
 rw [hr.1] at h1
 exact Int.lt_of_lt_of_le h1 (pow_le hn)
theorem ownsRow_block' {w:World} {base:Nat} {e:TypeId} {size:Nat} {v:Value} {n:Nat} {xs:List Value} (h:w.ownsRow base e size v n xs) : ∀ g,v.ownBlock = some g -> ∃ cs fr,w.heap[g]? = some (.cells cs e fr):=by
 intro g hg
 rcases h.2 with ⟨rfl,_⟩ | ⟨g',cap,cur,rfl,_,hh,_⟩
 ·simp [Value.ownBlock] at hg
 ·simp [Value.ownBlock] at hg
  subst hg
  exact ⟨_,_,hh⟩
theorem ownsRow_below' {w w':World} {base:Nat} {e:TypeId} {size:Nat} {v:Value} {n:Nat} {xs:List Value} (h:w.ownsRow base e size v n xs) (hb:Below w.heap.size w w') : w'.ownsRow base e size v n xs:=
 h.kept (row:=none) ⟨hb.os,hb.tape,hb.output,hb.size,fun k hk _=>hb.block k hk⟩ (by cases v.ownBlock <;> simp)
theorem names_fin:∀ n:Fin 36,((({ data:=#[48,49,50,51,52,53,54,55,56,57,65,66,67,68,69,70,71,72,73,74,75,76,77,78,79,80,81,82,83,84,85,86,87,88,89,90] } : ByteArray)[n.val]'n.isLt).toNat:Int) = nameOf (n.val:Int):=by decide
theorem names_at (d:Int) (h0:0 <= d) (h1:d < 36) (h:d.toNat < ({ data:=#[48,49,50,51,52,53,54,55,56,57,65,66,67,68,69,70,71,72,73,74,75,76,77,78,79,80,81,82,83,84,85,86,87,88,89,90] } : ByteArray).size) : ((({ data:=#[48,49,50,51,52,53,54,55,56,57,65,66,67,68,69,70,71,72,73,74,75,76,77,78,79,80,81,82,83,84,85,86,87,88,89,90] } : ByteArray)[d.toNat]'h).toNat:Int) = nameOf d:=by
 obtain ⟨n,rfl⟩:=Int.eq_ofNat_of_zero_le h0
 exact names_fin ⟨n,by omega⟩
theorem reversed_any (u:Value) (z R:Int) (L:Nat) (w:World) (h:Num w u z L) (hL:L <= 1048576) (h0:2 <= R) (h1:R <= 36) :
  Calls Tryz.prog 148 #[u,.int .i64 R] w fun e w'=>(∃ v ds,e = .returned v /\ Names w' w.heap.size v ds /\ DigR R ds /\ valR R ds = z /\ ds.length <= 1073741824) /\ Below w.heap.size w w':=by
 obtain ⟨i0,hi,hz0,hz1,hz2⟩:=info_parts Tryz.info5
 go_enter Tryz.func148,Tryz.ntmps148
 go_wp2_with fail
 refine (chunk_any R w h0 h1).mono ?_
 rintro e w1 ⟨⟨k,rfl,hk1,hk2,hP1,hP2⟩,rfl⟩
 obtain ⟨P,hP⟩ : ∃ P,R ^ k = P:=⟨_,rfl⟩
 rw [hP] at hP1 hP2
 rw [hP]
 have HP:=Hd hP
 clear hP
 have HH:=Hd h
 clear h
 go_wp2_with fail
 go_loopg [7,8] z.toNat (fun g ov rv wr=>∃ (z':Int) (ds:List Int),g = z'.toNat /\ Num wr rv z' L /\ Apart wr rv w.heap.size /\ Names wr w.heap.size ov ds /\ Hid (DigR R ds /\ valR R ds + R ^ ds.length * z' = z) /\ ds.length <= 1073741824 /\ Below w.heap.size w wr)
 case atStart=>
  refine ⟨z,[],rfl,HH.out,?_,World.ownsRow_nil _ _ _ _,Hd ⟨fun d hd=>by simp at hd,by simp [valR]⟩,by simp,Below.refl _ _⟩
  intro A n c e hn
  obtain ⟨A',n',c',xs,e',hr,_⟩:=HH.out
  rw [e] at e'
  simp only [Value.slice.injEq] at e'
  obtain ⟨rfl,rfl,rfl⟩:=e'
  obtain ⟨b,o,hA,hlt,_⟩:=hr.2.2 hn
  exact ⟨b,o,hA,.inl hlt⟩
 case round=>
  obtain ⟨z',ds,rfl,hnum,hap,hown,HD,hdl,hb⟩:=hrel
  obtain ⟨A,n,c,xs,rfl,hrow,hdx,htx,rfl,hnL⟩:=id hnum
  by_cases hn0:n = 0
  ·subst hn0
   have hz0:val xs = 0:=(trimmed_zero hdx htx).2 (List.eq_nil_of_length_eq_zero hrow.1)
   have HO:=Hd hown
   have HZ:=Hd hz0
   clear hnum hap hown hrow hz0 htx hdx
   go_wp2_with fail
   go_ret
   refine ⟨⟨_,ds,rfl,HO.out,HD.out.1,?_,hdl⟩,hb⟩
   have:=HD.out.2
   rw [HZ.out] at this
   simpa using this
  ·have hn1:(0:Int) < (n:Int):=by omega
   have hn2:0 < n:=by omega
   have hpos:1 <= val xs:=by
    have h2:=val_ge hdx htx (by rw [hrow.1];exact hn0)
    have:=BB_pos (xs.length - 1)
    omega
   have hzL:=HH.out.lt
   have hlen:ds.length < 32 * L:=by
    refine len_bound (z:=z) h0 ?_ hzL
    have h2:=HD.out.2
    have h3:=valR_nonneg (by omega) HD.out.1
    have h4:R ^ ds.length * 1 <= R ^ ds.length * val xs:=Int.mul_le_mul_of_nonneg_left hpos (Int.pow_nonneg (by omega))
    omega
   have HR:=Hd hrow
   have HO:=Hd hown
   clear hnum hap hown hrow htx hzL
   go_wp2_with fail
   refine (sdiv_words A n c xs P wr HR.out (by omega) hdx (by omega) hP2).mono ?_
   rintro e w2 ⟨rv2,rfl,hnum2,hw2,hb2⟩
   go_wp2_with fail
   have hws:=hb.size
   have hgb:Below w.heap.size w w2:=hb.trans (hb2.mono hws)
   have hap2:Apart w2 rv2 w.heap.size:=by
    intro A' n' c' e hn'
    obtain ⟨b,o,cs,fr,hA,hh⟩:=hw2 A' n' c' e hn'
    exact ⟨b,o,hA,.inr ⟨cs,fr,hh⟩⟩
   have ho2:Names w2 w.heap.size u7 ds:=ownsRow_below' HO.out hb2
   have hp0:0 <= val xs % P:=Int.emod_nonneg _ (by omega)
   have hp1:val xs % P < P:=Int.emod_lt_of_pos _ (by omega)
   obtain ⟨p0,hpp⟩ : ∃ p0,val xs % P = p0:=⟨_,rfl⟩
   rw [hpp] at hp0 hp1 ⊢
   have HPP:=Hd hpp
   have HN2:=Hd (hnum2.mono hnL)
   have HA2:=Hd hap2
   have HO2:=Hd ho2
   clear hpp hap2 ho2 hnum2 hw2
   obtain ⟨wo,rfl⟩ : ∃ wo:World,wo = wr:=⟨_,rfl⟩
   go_loopw [7,9,26] (fun ov pv jv wx=>∃ (j:Nat) (pt:Int) (es:List Int),jv = .int .i64 j /\ pv = .int .u32 pt /\ j <= k /\ es.length = j /\ Hid (DigR R es /\ valR R es + R ^ j * pt = p0) /\ 0 <= pt /\ pt < 4294967296 /\ Hid (Num wx rv2 (val xs / P) L /\ Apart wx rv2 w.heap.size /\ Names wx w.heap.size ov (ds ++ es)) /\ Below w.heap.size w wx) (fun _ _ jv _=>k - (intOf jv).toNat)
   case atStart=>exact ⟨0,p0,[],rfl,rfl,Nat.zero_le _,rfl,Hd ⟨fun d hd=>by simp at hd,by simp [valR]⟩,hp0,by omega,Hd ⟨HN2.out,HA2.out,by rw [List.append_nil];exact HO2.out⟩,hgb⟩
   case round=>
    obtain ⟨j,pt,es,rfl,rfl,hjk,hel,HE,hpt0,hpt1,HW,hbw⟩:=hrel
    have HEL:=Hd hel
    clear hel
    by_cases hlt:j < k
    ·have hd0:0 <= pt % R:=Int.emod_nonneg _ (by omega)
     have hd1:pt % R < R:=Int.emod_lt_of_pos _ (by omega)
     obtain ⟨d,hd⟩ : ∃ d,pt % R = d:=⟨_,rfl⟩
     rw [hd] at hd0 hd1
     have hd2:d < 36:=by omega
     have hnm:=names_at d hd0 hd2
     go_wp2_with (at_builtin;refine wpList_append_own _ rfl (.tmp 28) (.tmp 34) _ rfl w.heap.size 5 i0 (.int .u8 0) 1 1 Tryz.underlying175 hi hz0 hz1 hz2 rfl (by decide) _ _ _ rfl (HW.out.2.2.alloc _) ⟨wr.heap.size,0,none⟩ 1 1 [.int .u8 (nameOf d)] rfl rfl ?c1 ?c2 ?c3 ?c4 ?c5 ?_)
     case c2=>rfl
     case c3=>unfold maxLen;have:=HEL.out;omega
     case c4=>have:=HEL.out;omega
     case c5=>have:=hbw.size;omega
     intro v' w3 hown3 hg3 _
     have hb3:=below_alloc wr (.cells #[.int .u8 (nameOf d)] 5)
     have hrow3:∀ g,u7.ownBlock = some g -> w.heap.size <= g /\ ∃ cs fr,(wr.alloc (.cells #[.int .u8 (nameOf d)] 5)).heap[g]? = some (.cells cs 5 fr):=by
      intro g hg
      exact ⟨(HW.out.2.2.lt g hg).1,ownsRow_block' (HW.out.2.2.alloc _) g hg⟩
     obtain ⟨hn3,ha3⟩:=(HW.out.1.below hb3).apart (HW.out.2.1.below hb3) hg3 hrow3
     have hnm3:Names w3 w.heap.size v' (ds ++ (es ++ [d])):=by
      unfold Names
      rw [List.length_append,List.length_append,List.length_singleton,List.map_append,List.map_append]
      exact hown3
     have hb4:Below w.heap.size w w3:=(hbw.alloc hbw.size _).grown hg3 (by have:=hbw.size;simp;omega) (fun g hg=>(hrow3 g hg).1)
     have HW3:=Hd (And.intro hn3 (And.intro ha3 hnm3))
     have hq0:0 <= pt / R:=Int.ediv_nonneg hpt0 (by omega)
     have hq1:pt / R <= pt:=Int.ediv_le_self R hpt0
     clear hown3 hg3 hrow3 hn3 ha3 hnm3 hnm
     go_wp2
     refine ⟨⟨j + 1,pt / R,es ++ [d],by go_num,rfl,hlt,by rw [List.length_append,HEL.out];rfl,Hd ⟨?_,?_⟩,hq0,by omega,HW3.out,hb4⟩,by simp [intOf];omega⟩
     ·intro x hx
      rcases List.mem_append.1 hx with hx | hx
      ·exact HE.out.1 x hx
      ·simp at hx;subst hx;exact ⟨hd0,hd1⟩
     ·have h2:=HE.out.2
      rw [valR_append,HEL.out,Int.pow_succ]
      have h3:pt = R * (pt / R) + d:=by rw [<- hd];exact (Int.mul_ediv_add_emod pt R).symm
      have h4:R ^ j * pt = R ^ j * (R * (pt / R)) + R ^ j * d:=by rw [<- Int.mul_add,<- h3]
      rw [h4] at h2
      simp only [valR,Int.mul_zero,Int.add_zero]
      rw [Int.mul_assoc]
      omega
    ·obtain rfl:j = k:=by omega
     have hpt:pt = 0:=by
      have h2:=HE.out.2
      have h3:=valR_nonneg (by omega:(0:Int) <= R) HE.out.1
      rw [HP.out] at h2
      rcases Int.lt_or_eq_of_le hpt0 with h4 | h4
      ·have h5:P * 1 <= P * pt:=Int.mul_le_mul_of_nonneg_left (by omega) (by omega)
       omega
      ·exact h4.symm
     have HPT:=Hd hpt
     clear hpt
     go_wp2_with fail
     have hdl2:(val xs / P).toNat < (val xs).toNat:=by
      have:val xs / P < val xs:=Int.ediv_lt_of_lt_mul (by omega) (by
       have h5:val xs * 2 <= val xs * P:=Int.mul_le_mul_of_nonneg_left hP1 (by omega)
       omega)
      have:0 <= val xs / P:=Int.ediv_nonneg (by omega) (by omega)
      omega
     go_roundg (val xs / P).toNat
     case measure=>exact hdl2
     case rel=>
      refine ⟨val xs / P,ds ++ es,rfl,HW.out.1,HW.out.2.1,HW.out.2.2,Hd ⟨?_,?_⟩,by rw [List.length_append,HEL.out];omega,hbw⟩
      ·intro x hx
       rcases List.mem_append.1 hx with hx | hx
       ·exact HD.out.1 x hx
       ·exact HE.out.1 x hx
      ·have h2:=HE.out.2
       rw [HPT.out,Int.mul_zero,Int.add_zero] at h2
       rw [valR_append,h2,List.length_append,HEL.out,Int.pow_add,HP.out,Int.mul_assoc,Int.add_assoc,<- Int.mul_add]
       have h3:p0 + P * (val xs / P) = val xs:=by rw [<- HPP.out];exact Int.emod_add_mul_ediv _ _
       rw [h3]
       exact HD.out.2
def OwnB (w:World) (base g n c:Nat) (xs:List Int) : Prop:=w.ownsRow base 5 1 (.slice (some ⟨g,0,none⟩) n c) n (xs.map (Value.int .u8))
theorem OwnB.length {w:World} {base g n c:Nat} {xs:List Int} (h:OwnB w base g n c xs) : xs.length = n:=by have:=h.1;simpa using this
theorem OwnB.cell {w:World} {base g n c:Nat} {xs:List Int} (h:OwnB w base g n c xs) {k:Nat} (hk:k < n) : w.cell? ⟨g,k,none⟩ = some (.int .u8 (xs.getD k 0)):=by
 have hl:=h.length
 rw [World.ownsRow.cellAt h k (by omega)]
 simp [List.getD,hl,hk]
theorem OwnB.frozen {w:World} {base g n c:Nat} {xs:List Int} (h:OwnB w base g n c xs) (k:Nat) : w.frozen? ⟨g,k,none⟩ = false:=World.ownsRow.frozenAt h k
theorem OwnB.set {w:World} {base g n c:Nat} {xs:List Int} (h:OwnB w base g n c xs) (k:Nat) (u:Int) : OwnB (w.setCell ⟨g,k,none⟩ (.int .u8 u)) base g n c (xs.set k u):=by
 have:=(World.ownsRow.stored h k (.int .u8 u)).1
 rw [<- List.map_set] at this
 exact this
theorem OwnB.lt {w:World} {base g n c:Nat} {xs:List Int} (h:OwnB w base g n c xs) : base <= g /\ g < w.heap.size:=World.ownsRow.lt h g rfl
theorem OwnB.drewN {w:World} {base g n c:Nat} {xs:List Int} (h:OwnB w base g n c xs) (q:Nat) : OwnB (w.drewN q) base g n c xs:=h
theorem OwnB.drew {w:World} {base g n c:Nat} {xs:List Int} (h:OwnB w base g n c xs) : OwnB w.drew base g n c xs:=h
theorem OwnB.cap {w:World} {base g n c:Nat} {xs:List Int} (h:OwnB w base g n c xs) : n <= c:=by
 rcases h.2 with ⟨h',_⟩ | ⟨g',cap,cur,h',_,hh,hnc,_⟩
 ·simp at h'
 ·simp only [Value.slice.injEq,Option.some.injEq,Addr.mk.injEq,and_true,true_and] at h'
  omega
def Swapped (xs ys:List Int) (n i:Nat) : Prop:=ys.length = n /\ ∀ t,t < n -> ys.getD t 0 = if t < i \/ n - i <= t then xs.getD (n - 1 - t) 0 else xs.getD t 0
theorem Swapped.step {xs ys:List Int} {n i:Nat} (h:Swapped xs ys n i) (hi:2 * i + 1 < n) :
  Swapped xs ((ys.set i (ys.getD (n - 1 - i) 0)).set (n - 1 - i) (ys.getD i 0)) n (i + 1):=by
 obtain ⟨hl,h⟩:=h
 refine ⟨by simp [hl],fun t ht=>?_⟩
 have hi1:=h i (by omega)
 have hj1:=h (n - 1 - i) (by omega)
 rw [if_neg (by omega)] at hi1 hj1
 by_cases e1:t = n - 1 - i
 ·subst e1
  rw [if_pos (by omega)]
  have:((ys.set i (ys.getD (n - 1 - i) 0)).set (n - 1 - i) (ys.getD i 0)).getD (n - 1 - i) 0 = ys.getD i 0:=by
   simp [List.getD,hl,show n - 1 - i < n by omega]
  rw [this,hi1]
  congr 1;omega
 ·by_cases e2:t = i
  ·subst e2
   rw [if_pos (by omega)]
   have:((ys.set t (ys.getD (n - 1 - t) 0)).set (n - 1 - t) (ys.getD t 0)).getD t 0 = ys.getD (n - 1 - t) 0:=by
    simp [List.getD,hl,ht,show n - 1 - t ≠ t by omega]
   rw [this,hj1]
  ·have:((ys.set i (ys.getD (n - 1 - i) 0)).set (n - 1 - i) (ys.getD i 0)).getD t 0 = ys.getD t 0:=by
    simp [List.getD,show ¬ n - 1 - i = t by omega,show ¬ i = t by omega]
   rw [this,h t ht]
   by_cases c:t < i \/ n - i <= t
   ·rw [if_pos c,if_pos (by omega)]
   ·rw [if_neg c,if_neg (by omega)]
theorem Swapped.done {xs ys:List Int} {n i:Nat} (h:Swapped xs ys n i) (hx:xs.length = n) (hi:n <= 2 * i + 1) (hin:i <= n) : ys = xs.reverse:=by
 obtain ⟨hl,h⟩:=h
 apply List.ext_getElem
 ·simp [hl,hx]
 ·intro t h1 h2
  have ht:t < n:=by omega
  have h3:=h t ht
  have e1:ys.getD t 0 = ys[t]:=by simp [List.getD,h1]
  have e2:xs.reverse[t] = xs.getD (n - 1 - t) 0:=by
   rw [List.getElem_reverse];simp [List.getD,hx,show n - 1 - t < n by omega]
  rw [e2,<- e1,h3]
  by_cases c:t < i \/ n - i <= t
  ·rw [if_pos c]
  ·rw [if_neg c]
   congr 1;omega
theorem grown_set {w w':World} {g:Nat} (h:w.grownBy w' (some g)) (k:Nat) (u:Value) : w.grownBy (w'.setCell ⟨g,k,none⟩ u) (some g):=
 ⟨h.os,h.tape,h.output,by simpa [World.setCell] using h.size,fun b hb hne=>(Below.heap_setCell _ _ _ _ (fun e=>hne (by rw [e]))).trans (h.block b hb hne)⟩
theorem reverse_any (base g n c:Nat) (xs:List Int) (w:World) (h:OwnB w base g n c xs) (hn:n <= 2147483648) :
  Calls Tryz.prog 149 #[.slice (some ⟨g,0,none⟩) n c] w fun e w'=>e = .returned (.tuple #[]) /\ OwnB w' base g n c xs.reverse /\ w.grownBy w' (some g):=by
 have HX:=Hd h
 have HL:=Hd h.length
 have hcap:=h.cap
 go_enter Tryz.func149,Tryz.ntmps149
 go_wp2_with fail
 go_loopw [2,3] (fun iv jv wr=>∃ (i:Nat) (ys:List Int),iv = .int .i64 i /\ jv = .int .i64 ((n:Int) - 1 - i) /\ 2 * i <= n /\ Hid (Swapped xs ys n i) /\ OwnB wr base g n c ys /\ w.grownBy wr (some g)) (fun iv _ _=>n - (intOf iv).toNat)
 case atStart=>
  refine ⟨0,xs,rfl,by go_num,by omega,Hd ⟨HL.out,fun t ht=>?_⟩,HX.out,World.grownBy.refl _ _⟩
  rw [if_neg (by omega)]
 case round=>
  obtain ⟨i,ys,rfl,rfl,hin,HS,hown,hgr⟩:=hrel
  by_cases hlt:2 * i + 1 < n
  ·have q0:(i:Int) < (n:Int) - 1 - i:=by omega
   have q1:(0:Int) <= (n:Int) - 1 - i:=by omega
   have q2:(n:Int) - 1 - i < (n:Int):=by omega
   have q3:((n:Int) - 1 - i).toNat = n - 1 - i:=by omega
   have q4:(i:Int) < (n:Int):=by omega
   obtain ⟨x,hx⟩ : ∃ x,ys.getD i 0 = x:=⟨_,rfl⟩
   obtain ⟨y,hy⟩ : ∃ y,ys.getD (n - 1 - i) 0 = y:=⟨_,rfl⟩
   have cx:wr.cell? ⟨g,i,none⟩ = some (.int .u8 x):=by rw [<- hx];exact hown.cell (by omega)
   have cy:wr.cell? ⟨g,n - 1 - i,none⟩ = some (.int .u8 y):=by rw [<- hy];exact hown.cell (by omega)
   have fx:=hown.frozen i
   have fy:=hown.frozen (n - 1 - i)
   have hne:i ≠ n - 1 - i:=by omega
   have HXx:=Hd hx
   have HYy:=Hd hy
   clear hx hy
   go_wp2_with fail
   go_region
   go_wp2
   have hset:=(hown.set i y).set (n - 1 - i) x
   have hst:=HS.out.step hlt
   rw [HXx.out,HYy.out] at hst
   refine ⟨⟨i + 1,_,by go_num,by go_num,by omega,Hd hst,hset.drew,?_⟩,by simp [intOf];omega⟩
   have hg2:=grown_set (grown_set hgr i (.int .u8 y)) (n - 1 - i) (.int .u8 x)
   exact ⟨hg2.os,hg2.tape,hg2.output,hg2.size,hg2.block⟩
  ·have HD:=Hd (HS.out.done HL.out (by omega) (by omega))
   go_wp2_with fail
   go_end0
   exact ⟨rfl,by rw [<- HD.out];exact hown,hgr⟩
theorem Text_bad (u:Value) (x R:Int) (L:Nat) (w:World) (h:Ival w u x L) (hR:R < 2 \/ 36 < R) :
  Calls Tryz.prog 109 #[u,.int .i64 R] w fun e w'=>e = .returned (.tuple #[.string ⟨#[]⟩,.int .i64 1]) /\ Below w.heap.size w w':=by
 obtain ⟨p,A,n,c,rfl⟩:=h.form
 clear h
 by_cases hR2:R < 2
 ·go_enter Tryz.func109,Tryz.ntmps109
  go_wp2
  go_ret2
  exact ⟨rfl,below_alloc _ _⟩
 ·have hR3:36 < R:=by omega
  clear hR
  go_enter Tryz.func109,Tryz.ntmps109
  go_wp2
  go_ret2
  exact ⟨rfl,below_alloc _ _⟩
theorem Text_zero (u:Value) (R:Int) (L:Nat) (w:World) (h:Ival w u 0 L) (hR:2 <= R) (hR2:R <= 36) :
  Calls Tryz.prog 109 #[u,.int .i64 R] w fun e w'=>e = .returned (.tuple #[.string ⟨#[48]⟩,.int .i64 0]) /\ Below w.heap.size w w':=by
 obtain ⟨p,A,n,c,rfl⟩:=h.form
 have HH:=Hd h
 have hW:=below_alloc w (.cells #[.bool p,.slice A n c] 31)
 have hs:cmpI 0 0 = 0:=cmpI_eq rfl
 have HS:=Hd hs
 clear h hs
 go_enter Tryz.func109,Tryz.ntmps109
 go_wp2_with fail
 refine (sign_int _ 0 L _ (HH.out.below hW)).mono ?_
 rintro e w1 ⟨rfl,hb1⟩
 rw [HS.out]
 go_wp2
 go_ret2
 exact ⟨rfl,hW.trans (hb1.mono (by simp))⟩
def strOf (xs:List Int) : ByteArray:=⟨(xs.map fun n=>UInt8.ofNat n.toNat).toArray⟩
theorem OwnB.string {w:World} {base g n c:Nat} {xs:List Int} (h:OwnB w base g n c xs) : (convert 175 9 (.slice (some ⟨g,0,none⟩) n c)).run Tryz.prog w = .ok (.string (strOf xs)) w:=by
 have hl:=h.length
 rw [run_convert_bytes_string w 175 9 5 _ n c Tryz.underlying175 Tryz.underlying5 Tryz.underlying9]
 have hc:(loadCells (⟨g,0,none⟩ : Addr) n).run Tryz.prog w = .ok (xs.map (Value.int .u8)).toArray w:=by
  have:=run_loadCells_list (P:=Tryz.prog) (w:=w) ⟨g,0,none⟩ (xs.map (Value.int .u8)) (fun j v hj=>by
   have hlt:j < n:=by have:=(List.getElem?_eq_some_iff.1 hj).1;simpa [hl] using this
   rw [Addr.add_lit,Nat.zero_add,h.cell hlt,<- hj]
   simp [List.getD,hl,hlt])
  rw [List.length_map,hl] at this
  exact this
 rw [run_bytesToString w _ n c xs hc,foldl_push_bytes]
 have e:(ByteArray.empty.data ++ (xs.map fun n=>UInt8.ofNat n.toNat).toArray) = (xs.map fun n=>UInt8.ofNat n.toNat).toArray:=Array.empty_append
 rw [e];rfl
theorem OwnB.take {w:World} {base g n c:Nat} {xs:List Int} (h:OwnB w base g n c xs) {m:Nat} (hm:m <= n) : OwnB w base g m c (xs.take m):=by
 have hl:=h.length
 rcases h.2 with ⟨h',_⟩ | ⟨g',cap,cur,h',hb,hh,hnc,hcm,hcs,htake⟩
 ·simp at h'
 ·refine ⟨by simp [hl];omega,.inr ⟨g',cap,cur,?_,hb,hh,by omega,hcm,hcs,?_⟩⟩
  ·simp only [Value.slice.injEq,Option.some.injEq,Addr.mk.injEq,and_true,true_and] at h' ⊢
   exact h'
  ·rw [List.map_take,<- htake,Nat.mul_one,Nat.mul_one,List.take_take,Nat.min_eq_left hm]
def DigitsOf (R z:Int) (ds:List Int) : Prop:=DigR R ds /\ valR R ds = z /\ ds ≠ [] /\ ds.getLastD 0 ≠ 0
def textBytes (neg:Bool) (ds:List Int) : List Int:=(if neg then [45] else []) ++ (ds.map nameOf).reverse
theorem valR_take_last (R:Int) (ds:List Int) (n:Nat) (hn:n < ds.length) (h:ds.getD n 0 = 0) : valR R (ds.take (n + 1)) = valR R (ds.take n):=by
 rw [take_snoc ds n hn,valR_append,h];simp [valR]
theorem Text_some (u:Value) (x R:Int) (L:Nat) (w:World) (h:Ival w u x L) (hL:L <= 1048576) (hR:2 <= R) (hR2:R <= 36) (hx:x ≠ 0) :
  Calls Tryz.prog 109 #[u,.int .i64 R] w fun e w'=>(∃ ds,DigitsOf R (if x < 0 then -x else x) ds /\ e = .returned (.tuple #[.string (strOf (textBytes (decide (x < 0)) ds)),.int .i64 0])) /\ Below w.heap.size w w':=by
 obtain ⟨i0,hi,hz0,hz1,hz2⟩:=info_parts Tryz.info5
 obtain ⟨p,A,n,c,rfl⟩:=h.form
 obtain ⟨a,ha,ha0,rfl,ha1⟩:=h.parts
 have hap:0 < a:=by cases p <;> simp [withSign] at hx <;> omega
 have hs:(cmpI (withSign p a) 0 == 0) = false:=by
  simp only [beq_eq_false_iff_ne]
  rcases Int.lt_or_gt_of_ne hx with h1 | h1
  ·rw [cmpI_lt h1];decide
  ·rw [cmpI_gt h1];decide
 have habs:(if withSign p a < 0 then -withSign p a else withSign p a) = a:=by
  cases p <;> simp [withSign] <;> omega
 have hneg:decide (withSign p a < 0) = p:=by cases p <;> simp [withSign] <;> omega
 rw [habs,hneg]
 have HA:=Hd ha
 have HH:=Hd h
 have hW:=below_alloc w (.cells #[.bool p,.slice A n c] 31)
 clear ha h ha1 hx habs hneg
 go_enter Tryz.func109,Tryz.ntmps109
 go_wp2_with fail
 refine (sign_int _ _ L _ (HH.out.below hW)).mono ?_
 rintro e w1 ⟨rfl,hb1⟩
 have c1:w1.cell? ⟨w.heap.size,1,none⟩ = some (.slice A n c):=by
  rw [hb1.cell (by simp),World.cell?_alloc_at _ _ _ _ rfl];rfl
 have c0:w1.cell? ⟨w.heap.size,0,none⟩ = some (.bool p):=by
  rw [hb1.cell (by simp),World.cell?_alloc_at _ _ _ _ rfl];rfl
 have hW1:Below w.heap.size w w1:=hW.trans (hb1.mono (by simp))
 have hw1:w.heap.size < w1.heap.size:=by have:=hb1.size;simp at this;omega
 go_wp2_with fail
 refine (reversed_any _ a R L _ (HA.out.below hW1) hL hR hR2).mono ?_
 rintro e w2 ⟨⟨v,ds,rfl,hnm,hdr,hvr,hdl⟩,hb2⟩
 have c02:w2.cell? ⟨w.heap.size,0,none⟩ = some (.bool p):=(hb2.cell (p:=⟨w.heap.size,0,none⟩) hw1).trans c0
 clear c0 c1
 have hne:ds ≠ []:=by rintro rfl;simp [valR] at hvr;omega
 obtain ⟨g,cap,rfl⟩ : ∃ g cap,v = .slice (some ⟨g,0,none⟩) ds.length cap:=by
  rcases hnm.2 with ⟨_,h0⟩ | ⟨g,cap,cur,h',_⟩
  ·exact absurd (List.eq_nil_of_length_eq_zero h0) hne
  ·exact ⟨g,cap,h'⟩
 obtain ⟨N,hN⟩ : ∃ N,ds.length = N:=⟨_,rfl⟩
 have hown:OwnB w2 w1.heap.size g N cap (ds.map nameOf):=by
  unfold OwnB;rw [List.map_map,<- hN];exact hnm
 rw [hN] at hdl ⊢
 have hcap:=hown.cap
 have HO:=Hd hown
 have HN:=Hd hN
 have HD:=Hd (And.intro hdr hvr)
 clear hnm hown hN hdr hvr hne
 go_wp2_with fail
 go_loop [6] (fun s=>∃ m,s = .slice (some ⟨g,0,none⟩) m cap /\ m <= N /\ Hid (valR R (ds.take m) = a)) (fun s=>lenOf s)
 case atStart=>exact ⟨N,rfl,Nat.le_refl _,Hd (by rw [List.take_of_length_le (by rw [HN.out];exact Nat.le_refl _)];exact HD.out.2)⟩
 case round=>
  obtain ⟨m,rfl,hm,HM⟩:=hrel
  have hm0:m ≠ 0:=by
   rintro rfl
   have:=HM.out
   simp [valR] at this
   omega
  have hp:(0:Int) < (m:Int):=by omega
  obtain ⟨d,hd⟩ : ∃ d,ds.getD (m - 1) 0 = d:=⟨_,rfl⟩
  have hmem:0 <= d /\ d < R:=by
   have hlt:m - 1 < ds.length:=by rw [HN.out];omega
   have:d ∈ ds:=by rw [<- hd];simp [List.getD,hlt]
   exact HD.out.1 d this
  have hcell:w2.cell? ⟨g,m - 1,none⟩ = some (.int .u8 (nameOf d)):=by
   rw [HO.out.cell (by omega),<- hd]
   have hlt:m - 1 < ds.length:=by rw [HN.out];omega
   simp [List.getD,hlt]
  have HDD:=Hd hd
  have q1:(0:Int) <= (m:Int) - 1:=by omega
  have q2:(m:Int) - 1 < (m:Int):=by omega
  clear hd
  by_cases hz:d = 0
  ·have hz48:nameOf d = 48:=by subst hz;rfl
   rw [hz48] at hcell
   have HZ:=Hd hz
   clear hz hz48
   go_wp2
   refine ⟨⟨m - 1,rfl,by omega,Hd ?_⟩,by simp [lenOf];omega⟩
   have h1:=valR_take_last R ds (m - 1) (by rw [HN.out];omega) (by rw [HDD.out,HZ.out])
   rw [show m - 1 + 1 = m from by omega,HM.out] at h1
   exact h1.symm
  ·have hz48:(nameOf d == 48) = false:=by unfold nameOf;simp;split <;> omega
   have hot:OwnB w2 w1.heap.size g m cap ((ds.take m).map nameOf):=by
    have:=HO.out.take hm
    rw [<- List.map_take] at this
    exact this
   have hds:DigitsOf R a (ds.take m):=by
    have hl:(ds.take m).length = m:=by rw [List.length_take,HN.out];omega
    refine ⟨fun x hx=>HD.out.1 x (List.mem_of_mem_take hx),HM.out,fun h=>?_,?_⟩
    ·rw [h] at hl;simp at hl;omega
    ·have e1:(ds.take m).getLastD 0 = ds.getD (m - 1) 0:=by
      rw [List.getLastD_eq_getLast?,List.getLast?_eq_getElem?,hl,List.getElem?_take,if_pos (by omega)];rfl
     rw [e1,HDD.out];exact hz
   have HOT:=Hd hot
   have HDS:=Hd hds
   have hbw:Below w.heap.size w w2:=hW1.trans (hb2.mono hW1.size)
   have hgg:=hot.lt
   clear hot hds
   cases p with
   | false=>
    go_wp2_with fail
    refine (reverse_any w1.heap.size g m cap _ w2 HOT.out (by omega)).mono ?_
    rintro e w3 ⟨rfl,ho3,hg3⟩
    have hcv:=ho3.string
    go_wp2
    go_ret2
    refine ⟨⟨_,HDS.out,?_⟩,hbw.grown hg3 (by have:=hbw.size;omega) (fun k hk=>?_)⟩
    ·simp [textBytes]
    ·have e:g = k:=by simpa using hk
     have:=hW1.size
     omega
   | true=>
    go_wp2_with (at_builtin;refine wpList_append_own _ rfl (.tmp 34) (.tmp 35) _ rfl w1.heap.size 5 i0 (.int .u8 0) 1 1 Tryz.underlying175 hi hz0 hz1 hz2 rfl (by decide) (.slice (some ⟨g,0,none⟩) m cap) m (((ds.take m).map nameOf).map (Value.int .u8)) rfl (HOT.out.alloc _) ⟨w2.heap.size,0,none⟩ 1 1 [.int .u8 45] rfl rfl ?c1 ?c2 ?c3 ?c4 ?c5 ?_)
    case c2=>rfl
    case c3=>unfold maxLen;omega
    case c4=>omega
    case c5=>have:=hb2.size;simp;omega
    intro v' w3 hown3 hg3 _
    obtain ⟨g3,cap3,rfl⟩ : ∃ g3 cap3,v' = .slice (some ⟨g3,0,none⟩) (m + 1) cap3:=by
     rcases hown3.2 with ⟨_,h0⟩ | ⟨g3,cap3,cur,h',_⟩
     ·omega
     ·exact ⟨g3,cap3,h'⟩
    have ho3:OwnB w3 w1.heap.size g3 (m + 1) cap3 ((ds.take m).map nameOf ++ [45]):=by
     unfold OwnB;simpa [List.map_take] using hown3
    have hW2:=hW1.size
    have hb3:Below w.heap.size w w3:=(hbw.alloc hbw.size _).grown hg3 (by have:=hbw.size;simp;omega) (fun k hk=>by have e:g = k:=(by simpa [Value.ownBlock] using hk);omega)
    have HO3:=Hd ho3
    clear hown3 hg3 ho3
    go_wp2_with fail
    refine (reverse_any w1.heap.size g3 (m + 1) cap3 _ w3 HO3.out (by omega)).mono ?_
    rintro e w4 ⟨rfl,ho4,hg4⟩
    have hcv:=ho4.string
    go_wp2
    go_ret2
    refine ⟨⟨_,HDS.out,?_⟩,hb3.grown hg4 (by have:=hb3.size;omega) (fun k hk=>?_)⟩
    ·simp [textBytes]
    ·have e:g3 = k:=by simpa using hk
     have:=HO3.out.lt
     omega
def digVal (bad c:Int) : Int:=
 if 48 <= c /\ c <= 57 then c - 48 else if 65 <= c /\ c <= 90 then c - 55 else if 97 <= c /\ c <= 122 then c - 87 else bad
theorem digit_is (c:Int) (w:World) (h0:0 <= c) (h1:c < 256) :
  Calls Tryz.prog 173 #[.int .u8 c] w fun e w'=>e = .returned (.int .i64 (digVal 99 c)) /\ w = w':=by
 rcases (by omega:c < 48 \/ (48 <= c /\ c <= 57) \/ (57 < c /\ c < 65) \/ (65 <= c /\ c <= 90) \/ (90 < c /\ c < 97) \/ (97 <= c /\ c <= 122) \/ 122 < c) with h | h | h | h | h | h | h
 ·have e:digVal 99 c = 99:=by unfold digVal;rw [if_neg (by omega),if_neg (by omega),if_neg (by omega)]
  have a1:¬ (48:Int) <= c:=by omega
  have a2:¬ (65:Int) <= c:=by omega
  have a3:¬ (97:Int) <= c:=by omega
  rw [e]
  go_enter Tryz.func173,Tryz.ntmps173
  go_wp2_with fail
  go_ret
  first | exact ⟨rfl,rfl⟩ | rfl
 ·have e:digVal 99 c = c - 48:=by unfold digVal;rw [if_pos (by omega)]
  have a1:(48:Int) <= c:=by omega
  have a2:c <= (57:Int):=by omega
  have a3:IntKind.u8.wrap (c - 48) = c - 48:=by rw [IntKind.wrap_u8];omega
  have a4:IntKind.i64.wrap (c - 48) = c - 48:=by rw [IntKind.wrap_i64];omega
  rw [e]
  go_enter Tryz.func173,Tryz.ntmps173
  go_wp2_with fail
  go_ret
  first | exact ⟨rfl,rfl⟩ | rfl
 ·have e:digVal 99 c = 99:=by unfold digVal;rw [if_neg (by omega),if_neg (by omega),if_neg (by omega)]
  have a0:(48:Int) <= c:=by omega
  have a1:¬ c <= (57:Int):=by omega
  have a2:¬ (65:Int) <= c:=by omega
  have a3:¬ (97:Int) <= c:=by omega
  rw [e]
  go_enter Tryz.func173,Tryz.ntmps173
  go_wp2_with fail
  go_ret
  first | exact ⟨rfl,rfl⟩ | rfl
 ·have e:digVal 99 c = c - 55:=by unfold digVal;rw [if_neg (by omega),if_pos (by omega)]
  have a0:(48:Int) <= c:=by omega
  have a1:¬ c <= (57:Int):=by omega
  have a2:(65:Int) <= c:=by omega
  have a3:c <= (90:Int):=by omega
  have a4:IntKind.u8.wrap (c - 65) = c - 65:=by rw [IntKind.wrap_u8];omega
  have a5:IntKind.i64.wrap (c - 65) = c - 65:=by rw [IntKind.wrap_i64];omega
  have a6:IntKind.i64.wrap (c - 65 + 10) = c - 55:=by rw [IntKind.wrap_i64];omega
  rw [e]
  go_enter Tryz.func173,Tryz.ntmps173
  go_wp2_with fail
  go_ret
  first | exact ⟨rfl,rfl⟩ | rfl
 ·have e:digVal 99 c = 99:=by unfold digVal;rw [if_neg (by omega),if_neg (by omega),if_neg (by omega)]
  have a0:(48:Int) <= c:=by omega
  have a1:¬ c <= (57:Int):=by omega
  have a2:(65:Int) <= c:=by omega
  have a4:¬ c <= (90:Int):=by omega
  have a3:¬ (97:Int) <= c:=by omega
  rw [e]
  go_enter Tryz.func173,Tryz.ntmps173
  go_wp2_with fail
  go_ret
  first | exact ⟨rfl,rfl⟩ | rfl
 ·have e:digVal 99 c = c - 87:=by unfold digVal;rw [if_neg (by omega),if_neg (by omega),if_pos (by omega)]
  have a0:(48:Int) <= c:=by omega
  have a1:¬ c <= (57:Int):=by omega
  have a2:(65:Int) <= c:=by omega
  have a3:¬ c <= (90:Int):=by omega
  have a7:(97:Int) <= c:=by omega
  have a8:c <= (122:Int):=by omega
  have a4:IntKind.u8.wrap (c - 97) = c - 97:=by rw [IntKind.wrap_u8];omega
  have a5:IntKind.i64.wrap (c - 97) = c - 97:=by rw [IntKind.wrap_i64];omega
  have a6:IntKind.i64.wrap (c - 97 + 10) = c - 87:=by rw [IntKind.wrap_i64];omega
  rw [e]
  go_enter Tryz.func173,Tryz.ntmps173
  go_wp2_with fail
  go_ret
  first | exact ⟨rfl,rfl⟩ | rfl
 ·have e:digVal 99 c = 99:=by unfold digVal;rw [if_neg (by omega),if_neg (by omega),if_neg (by omega)]
  have a0:(48:Int) <= c:=by omega
  have a1:¬ c <= (57:Int):=by omega
  have a2:(65:Int) <= c:=by omega
  have a4:¬ c <= (90:Int):=by omega
  have a3:(97:Int) <= c:=by omega
  have a5:¬ c <= (122:Int):=by omega
  rw [e]
  go_enter Tryz.func173,Tryz.ntmps173
  go_wp2_with fail
  go_ret
  first | exact ⟨rfl,rfl⟩ | rfl
def ScRel (w wr:World) (n:Nat) (xs:List Int) (m more:Int) (k:Nat) (cc:Int) : Prop:=
 k <= n /\ (0 <= cc /\ cc < BB) /\ Below w.heap.size w wr /\ ∃ ds:List Int,ds.length = k /\ Dig ds /\ val ds + BB ^ k * cc = val (xs.take k) * m + more /\
  Own wr w.heap.size w.heap.size (n + 1) (ds ++ List.replicate (n + 1 - k) 0)
theorem ScRel.cells {w wr:World} {n:Nat} {xs:List Int} {m more:Int} {k:Nat} {cc:Int} (h:ScRel w wr n xs m more k cc) :
  (∃ u,wr.cell? ⟨w.heap.size,k,none⟩ = some (.int .u32 u)) /\ wr.frozen? ⟨w.heap.size,k,none⟩ = false:=by
 obtain ⟨hk,_,_,ds,_,_,_,ho⟩:=h
 exact ⟨⟨_,ho.cell (by omega)⟩,ho.frozen k⟩
theorem ScRel.step {w wr:World} {n:Nat} {xs:List Int} {m more:Int} {k:Nat} {cc x:Int} (h:ScRel w wr n xs m more k cc) (hk:k < n) (hx:0 <= x /\ x < BB) (hm:0 <= m /\ m < BB) (ex:xs.getD k 0 = x) :
  ScRel w (wr.setCell ⟨w.heap.size,k,none⟩ (.int .u32 ((cc + x * m) % 4294967296))) n xs m more (k + 1) ((cc + x * m) / 4294967296):=by
 obtain ⟨_,hcc,hb,ds,hl,hd,hv,ho⟩:=h
 have hp:=mul_bound hx hm
 generalize hs:cc + x * m = s
 have h0:0 <= s:=by rw [<- hs];omega
 have h2:s / 4294967296 < BB:=by rw [BB_def] at *;omega
 have hset:=ho.set k (s % BB)
 rw [set_zeros ds (n + 1) k hl (by omega)] at hset
 refine ⟨hk,⟨by omega,h2⟩,hb.setCell (Nat.le_refl _) _,_,by simp [hl],hd.snoc (Int.emod_nonneg _ (by decide)) (Int.emod_lt_of_pos _ (by decide)),?_,hset⟩
 rw [val_snoc,hl,val_take_succ,ex,Int.add_mul]
 have e1:=pow_split k (s % BB) (s / BB)
 rw [digit_split,show BB ^ k * s = BB ^ k * cc + BB ^ k * (x * m) from by rw [<- hs,Int.mul_add]] at e1
 have e3:s / 4294967296 = s / BB:=rfl
 rw [e3,Int.mul_assoc]
 omega
theorem ScRel.done {w wr:World} {n:Nat} {xs:List Int} {m more:Int} {cc:Int} (h:ScRel w wr n xs m more n cc) (hx:xs.length <= n) :
  ∃ zs,Dig zs /\ val zs = val xs * m + more /\ Row .u32 (wr.setCell ⟨w.heap.size,n,none⟩ (.int .u32 cc)) (some ⟨w.heap.size,0,none⟩) (n + 1) (n + 1) zs /\ Below w.heap.size w (wr.setCell ⟨w.heap.size,n,none⟩ (.int .u32 cc)):=by
 obtain ⟨_,hcc,hb,ds,hl,hd,hv,ho⟩:=h
 have:=ho.set n cc
 rw [set_zeros ds (n + 1) n hl (by omega),show n + 1 - (n + 1) = 0 from by omega,List.replicate_zero,List.append_nil] at this
 refine ⟨_,hd.snoc hcc.1 hcc.2,?_,this.row,hb.setCell (Nat.le_refl _) _⟩
 rw [val_snoc,hl,hv,List.take_of_length_le hx]
theorem scaled_any (A:Option Addr) (n c:Nat) (xs:List Int) (m more:Int) (w:World) (h:Row .u32 w A n c xs) (hn:n <= 1048576)
  (hdx:Dig xs) (hm:0 <= m /\ m < BB) (hmore:0 <= more /\ more < BB) :
  Calls Tryz.prog 174 #[.slice A n c,.int .u32 m,.int .u32 more] w fun e w'=>∃ v,e = .returned v /\ Num w' v (val xs * m + more) (n + 1) /\ Below w.heap.size w w':=by
 obtain ⟨i0,hi,hz0,hz1,hz2⟩:=info_parts Tryz.info135
 obtain ⟨hl,hc,hcell⟩:=h
 have HL:=Hd hl
 have HM:=Hd hm
 have HO:=Hd hmore
 obtain ⟨m0,m1⟩:=hm
 obtain ⟨o0,o1⟩:=hmore
 rw [BB_def] at m1 o1
 clear hl
 go_enter Tryz.func174,Tryz.ntmps174
 go_wp2_with (at_make;refine wpList_make_full _ rfl _ _ 22 rfl w.heap.size 135 i0 (.int .u32 0) 1 Tryz.underlying22 hi hz0 hz1 _ _ _ _ (n + 1) rfl rfl (by omega) (by omega) (by rw [hz2];omega) (by unfold maxLen;omega) (Nat.le_refl _) ?_;intro w1 hown hgrow)
 go_loopw [8,19] (fun cv iv wr=>∃ (k:Nat) (cc:Int),iv = .int .i64 k /\ cv = .int .u64 cc /\ ScRel w wr n xs m more k cc) (fun _ iv _=>n - (intOf iv).toNat)
 case atStart=>
  refine ⟨0,more,rfl,rfl,Nat.zero_le _,HO.out,(Below.refl _ _).grown hgrow (Nat.le_refl _) (fun _ h=>by cases h),[],rfl,Dig.nil,by simp [val],?_⟩
  rw [zeros_made] at hown
  exact hown
 case round=>
  obtain ⟨k,cc,rfl,rfl,hrel⟩:=hrel
  have HR:=Hd hrel
  obtain ⟨⟨u,hu⟩,hf⟩:=hrel.cells
  obtain ⟨hk,hcc,hb,-⟩:=hrel
  obtain ⟨hc0,hc1⟩:=hcc
  rw [BB_def] at hc1
  by_cases hlt:k < n
  ·obtain ⟨b,o,rfl,hbx,hx⟩:=hcell (by omega)
   obtain ⟨x,ex⟩ : ∃ x,xs.getD k 0 = x:=⟨_,rfl⟩
   have hx1:wr.cell? ⟨b,o + k,none⟩ = some (.int .u32 x):=by rw [<- ex];exact (hb.cell (p:=⟨b,o + k,none⟩) hbx).trans (hx k hlt)
   have bx:=hdx.getD k
   rw [ex] at bx
   have BX:=Hd bx
   obtain ⟨p0,p1⟩:=mul_bound (x:=x) (y:=m) bx HM.out
   rw [BB_def] at bx
   obtain ⟨bx0,bx1⟩:=bx
   have EX:=Hd ex
   clear ex hx hcell
   go_wp2_with fail
   go_roundw
   case rel=>exact ⟨k + 1,_,by go_num,rfl,HR.out.step hlt BX.out HM.out EX.out⟩
   case measure=>simp [intOf];omega
  ·obtain rfl:k = n:=by omega
   obtain ⟨zs,hdz,hvz,hrz,hbz⟩:=HR.out.done (by rw [HL.out];exact Nat.le_refl _)
   have HZ:=Hd hvz
   clear hvz
   go_wp2_with fail
   refine (trim_any _ _ _ zs _ hrz (by omega)).mono ?_
   rintro e w' ⟨j,hj,rfl,rfl,hvj,htj⟩
   have HV:=Hd hvj
   clear hvj
   go_wp2
   go_ret
   exact ⟨_,rfl,⟨_,_,_,_,rfl,hrz.take hj,hdz.take _,htj,HV.out.trans HZ.out,hj⟩,hbz⟩
theorem scaled_num (u:Value) (x m more:Int) (L:Nat) (w:World) (h:Num w u x L) (hL:L <= 1048576) (hm:0 <= m /\ m < BB) (hmore:0 <= more /\ more < BB) :
  Calls Tryz.prog 174 #[u,.int .u32 m,.int .u32 more] w fun e w'=>∃ r,e = .returned r /\ Num w' r (x * m + more) (L + 1) /\ Below w.heap.size w w':=by
 obtain ⟨A,n,c,xs,rfl,hr,hd,_,rfl,hn⟩:=h
 refine (scaled_any A n c xs m more w hr (by omega) hd hm hmore).mono ?_
 rintro e w' ⟨r,he,hr,hb⟩
 exact ⟨r,he,hr.mono (by omega),hb⟩
def bs (S:ByteArray) : List Int:=S.data.toList.map fun b=>(b.toNat:Int)
theorem bs_length (S:ByteArray) : (bs S).length = S.size:=by
 unfold bs;rw [List.length_map,Array.length_toList];rfl
theorem bs_get (S:ByteArray) (i:Nat) (h:i < S.size) : (bs S).getD i 0 = (S[i].toNat:Int):=by
 have h':i < S.data.size:=h
 have e:(S.data.toList.map fun b=>(b.toNat:Int))[i]? = some (S[i].toNat:Int):=by
  rw [List.getElem?_map,Array.getElem?_toList,Array.getElem?_eq_getElem h'];rfl
 unfold bs
 rw [List.getD,e];rfl
theorem bs_byte (S:ByteArray) (i:Nat) (h:i < S.size) : 0 <= ((S[i].toNat:Int)) /\ ((S[i].toNat:Int)) < 256:=by
 have:=S[i].toNat_lt;omega
theorem bs_from (S:ByteArray) (k:Nat) (_h:k <= S.size) : bs (S.extract k S.size) = (bs S).drop k:=by
 unfold bs
 rw [ByteArray.data_extract,Array.toList_extract,<- List.map_drop]
 congr 1
 have hl:S.data.toList.length = S.size:=by rw [Array.length_toList];rfl
 show (S.data.toList.drop k).take (S.size - k) = S.data.toList.drop k
 rw [List.take_of_length_le (by rw [List.length_drop,hl];exact Nat.le_refl _)]
theorem bs_inj {S T:ByteArray} (h:bs S = bs T) : S = T:=by
 have hf:∀ a b:UInt8,(a.toNat:Int) = (b.toNat:Int) -> a = b:=fun a b e=>UInt8.toNat_inj.1 (by omega)
 have h2:S.data.toList = T.data.toList:=(List.map_inj_right hf).1 h
 have h3:S.data = T.data:=Array.toList_inj.1 h2
 cases S;cases T;simp at h3;rw [h3]
def AllOk (R:Int) (cs:List Int) : Prop:=∀ c ∈ cs,digVal 99 c < R
def horner (R:Int) : Int -> List Int -> Int
 | a,[]=>a
 | a,c :: cs=>horner R (a * R + digVal 99 c) cs
theorem horner_append (R a:Int) (x y:List Int) : horner R a (x ++ y) = horner R (horner R a x) y:=by
 induction x generalizing a with
 | nil=>rfl
 | cons c x ih=>exact ih _
theorem horner_split (R a:Int) (y:List Int) : horner R a y = a * R ^ y.length + horner R 0 y:=by
 induction y generalizing a with
 | nil=>simp [horner]
 | cons c y ih=>
  rw [horner,horner,ih,ih (0 * R + digVal 99 c),List.length_cons,Int.pow_succ]
  grind
theorem horner_snoc (R a:Int) (x:List Int) (c:Int) : horner R a (x ++ [c]) = horner R a x * R + digVal 99 c:=by
 rw [horner_append];rfl
theorem digVal_nonneg {bad c:Int} (h:0 <= bad) : 0 <= digVal bad c:=by
 unfold digVal;split
 ·omega
 ·split
  ·omega
  ·split <;> omega
theorem AllOk.snoc {R:Int} {x:List Int} {c:Int} (h:AllOk R x) (hc:digVal 99 c < R) : AllOk R (x ++ [c]):=by
 intro d hd
 rcases List.mem_append.1 hd with h' | h'
 ·exact h d h'
 ·simp at h';subst h';exact hc
theorem AllOk.append {R:Int} {x y:List Int} (h:AllOk R x) (g:AllOk R y) : AllOk R (x ++ y):=by
 intro d hd
 rcases List.mem_append.1 hd with h' | h'
 ·exact h d h'
 ·exact g d h'
def PartRel (R:Int) (cs:List Int) (j:Nat) (p pw:Int) : Prop:=
 j <= cs.length /\ AllOk R (cs.take j) /\ p = horner R 0 (cs.take j) /\ pw = R ^ j /\ 0 <= p /\ p < pw
theorem PartRel.start (R:Int) (cs:List Int) : PartRel R cs 0 0 1:=
 ⟨Nat.zero_le _,fun c h=>by simp at h,by simp [horner],by simp,by decide,by decide⟩
theorem PartRel.step {R:Int} {cs:List Int} {j:Nat} {p pw c:Int} (h:PartRel R cs j p pw) (hj:j < cs.length) (hR:2 <= R) (hc:cs.getD j 0 = c) (hd:digVal 99 c < R) :
  PartRel R cs (j + 1) (p * R + digVal 99 c) (pw * R) /\ 0 <= p * R /\ p * R + digVal 99 c < pw * R /\ 0 <= pw * R:=by
 obtain ⟨_,hok,hp,hw,p0,p1⟩:=h
 have d0:=digVal_nonneg (bad:=99) (c:=c) (by decide)
 have h1:0 <= p * R:=Int.mul_nonneg p0 (by omega)
 have h2:p * R + R <= pw * R:=by
  have:=Int.mul_le_mul_of_nonneg_right (show p + 1 <= pw by omega) (show 0 <= R by omega)
  rw [Int.add_mul,Int.one_mul] at this
  exact this
 have e:cs.take (j + 1) = cs.take j ++ [c]:=by rw [take_snoc cs j hj,hc]
 refine ⟨⟨hj,by rw [e];exact hok.snoc hd,by rw [e,horner_snoc,<- hp],by rw [hw,Int.pow_succ],by omega,by omega⟩,h1,by omega,by omega⟩
theorem PartRel.bound {R:Int} {cs:List Int} {j k:Nat} {p pw:Int} (h:PartRel R cs j p pw) (hR:2 <= R) (hj:j < k) (hk:R ^ k < 4294967296) : pw * R < 4294967296:=by
 obtain ⟨_,_,_,hw,_,_⟩:=h
 have e:pw * R = R ^ (j + 1):=by rw [hw,Int.pow_succ]
 rw [e]
 have:R ^ (j + 1) <= R ^ k:=by
  obtain ⟨d,rfl⟩:=Nat.exists_eq_add_of_le (show j + 1 <= k from hj)
  rw [Int.pow_add R (j + 1) d]
  have h1:(1:Int) <= R ^ d:=by
   have:0 < R ^ d:=Int.pow_pos (by omega)
   omega
  have h2:(0:Int) <= R ^ (j + 1):=Int.pow_nonneg (by omega)
  have:=Int.mul_le_mul_of_nonneg_left h1 h2
  omega
 omega
theorem PartRel.bad {R:Int} {cs:List Int} {j:Nat} {p pw c:Int} (_h:PartRel R cs j p pw) (hj:j < cs.length) (hc:cs.getD j 0 = c) (hd:¬ digVal 99 c < R) : ¬ AllOk R cs:=by
 intro ho
 apply hd
 rw [<- hc]
 apply ho
 have:cs.getD j 0 = cs[j]:=by simp [List.getD,hj]
 rw [this]
 exact List.getElem_mem hj
def ReadRel (R:Int) (cs:List Int) (i:Nat) (z:Int) (rest:List Int) : Prop:=
 i <= cs.length /\ AllOk R (cs.take i) /\ z = horner R 0 (cs.take i) /\ rest = cs.drop i
theorem ReadRel.next {R:Int} {cs:List Int} {i j:Nat} {z p pw:Int} {rest:List Int} (h:ReadRel R cs i z rest) (g:PartRel R rest j p pw) :
  ReadRel R cs (i + j) (z * pw + p) (rest.drop j):=by
 obtain ⟨hi,hok,hz,hr⟩:=h
 obtain ⟨hj,gok,gp,gw,_,_⟩:=g
 have e:cs.take (i + j) = cs.take i ++ rest.take j:=by rw [hr,List.take_add]
 have hl:rest.length = cs.length - i:=by rw [hr,List.length_drop]
 refine ⟨by omega,by rw [e];exact hok.append gok,?_,by rw [hr,List.drop_drop]⟩
 rw [e,horner_append,<- hz,horner_split,List.length_take,Nat.min_eq_left hj,gw,gp]
theorem ReadRel.not {R:Int} {cs:List Int} {i:Nat} {z:Int} {rest:List Int} (h:ReadRel R cs i z rest) (g:¬ AllOk R rest) : ¬ AllOk R cs:=by
 intro ho
 apply g
 rw [h.2.2.2]
 exact fun c hc=>ho c (List.mem_of_mem_drop hc)
theorem ReadRel.all {R:Int} {cs:List Int} {i:Nat} {z:Int} (h:ReadRel R cs i z []) : AllOk R cs /\ z = horner R 0 cs:=by
 obtain ⟨hi,hok,hz,hr⟩:=h
 have hl:=congrArg List.length hr
 rw [List.length_drop,List.length_nil] at hl
 rw [List.take_of_length_le (by omega)] at hok hz
 exact ⟨hok,hz⟩
theorem isEmpty_size {T:ByteArray} (h:T.size ≠ 0) : T.toList.isEmpty = false:=by
 rw [ByteArray.toList_eq]
 cases hl:T.data.toList with
 | nil=>
  have:T.data.toList.length = T.size:=by rw [Array.length_toList];rfl
  rw [hl] at this
  exact absurd this.symm h
 | cons _ _=>rfl
theorem isEmpty_zero {T:ByteArray} (h:T.size = 0) : T.toList.isEmpty = true:=by
 rw [ByteArray.toList_eq]
 have:T.data.toList.length = T.size:=by rw [Array.length_toList];rfl
 rw [h] at this
 rw [List.eq_nil_of_length_eq_zero this];rfl
theorem PartRel.fits {R:Int} {cs:List Int} {j k:Nat} {p pw:Int} (h:PartRel R cs j p pw) (hR:2 <= R) (hj:j <= k) (hk:R ^ k < 4294967296) : (0 <= p /\ p < BB) /\ (0 <= pw /\ pw < BB):=by
 have h':=h
 obtain ⟨_,_,_,hw,p0,p1⟩:=h
 have hpw:pw < 4294967296:=by
  rcases Nat.eq_or_lt_of_le hj with e | e
  ·rw [hw,e];exact hk
  ·have:=h'.bound hR e hk
   have h2:pw * 2 <= pw * R:=Int.mul_le_mul_of_nonneg_left hR (by omega)
   omega
 rw [BB_def];omega
theorem fromDigits_any (S:ByteArray) (R:Int) (w:World) (h0:2 <= R) (h1:R <= 36) (hS:S.size ≠ 0) (hS2:S.size <= 20000) :
  Calls Tryz.prog 152 #[.string S,.int .i64 R] w fun e w'=>((∃ v,e = .returned (.tuple #[v,.bool true]) /\ Num w' v (horner R 0 (bs S)) S.size /\ AllOk R (bs S)) \/ (e = .returned (.tuple #[.slice none 0 0,.bool false]) /\ ¬ AllOk R (bs S))) /\ Below w.heap.size w w':=by
 have hem:S.toList.isEmpty = false:=isEmpty_size hS
 have hRw:IntKind.u32.wrap R = R:=by rw [IntKind.wrap_u32];omega
 go_enter Tryz.func152,Tryz.ntmps152
 go_wp2_with fail
 refine (chunk_any R _ h0 h1).mono ?_
 rintro e w1 ⟨⟨k,rfl,hk1,hk2,hp2,hpk⟩,rfl⟩
 have HPK:=Hd hpk
 obtain ⟨P,hP⟩ : ∃ P,R ^ k = P:=⟨_,rfl⟩
 rw [hP]
 clear hpk hp2 hP
 go_wp2_with fail
 go_loopw [0,4] (fun sv lv wr=>∃ (i:Nat) (z:Int) (T:ByteArray),sv = .string T /\ ReadRel R (bs S) i z (bs T) /\ Num wr lv z i /\ Below w.heap.size w wr) (fun sv _ _=>match sv with | .string T=>T.size | _=>0)
 case atStart=>
  refine ⟨0,0,S,rfl,⟨Nat.zero_le _,fun c h=>by simp at h,by simp [horner],by simp⟩,?_,Below.refl _ _⟩
  exact ⟨none,0,0,[],rfl,Row.nil_,Dig.nil,.inl rfl,rfl,Nat.le_refl _⟩
 case round=>
  obtain ⟨i,z,T,rfl,hr,hn,hb⟩:=hrel
  have HR:=Hd hr
  have HN:=Hd hn
  have HB:=Hd hb
  have hiS:i <= 20000:=by have:=hr.1;rw [bs_length] at this;omega
  clear hr hn hb
  by_cases hT:T.size = 0
  ·have hte:=isEmpty_zero hT
   have hbT:bs T = []:=List.eq_nil_of_length_eq_zero (by rw [bs_length];exact hT)
   have hr:=HR.out
   rw [hbT] at hr
   obtain ⟨ho,hz⟩:=hr.all
   have hi:=hr.1
   rw [bs_length] at hi
   have hn:=HN.out
   rw [hz] at hn
   go_wp2_with fail
   go_ret2
   exact ⟨.inl ⟨_,rfl,hn.mono hi,ho⟩,HB.out⟩
  ·have hte:=isEmpty_size hT
   by_cases hmin:(T.size:Int) < (k:Int)
   ·go_wp2_with fail
    obtain ⟨wo,rfl⟩ : ∃ wo:World,wo = wr:=⟨_,rfl⟩
    obtain ⟨lv,rfl⟩ : ∃ lv,lv = u4:=⟨_,rfl⟩
    go_loopw [4,8,9,25] (fun lx pv wv jv wx=>∃ (j:Nat) (p pw:Int),lx = lv /\ pv = .int .u32 p /\ wv = .int .u32 pw /\ jv = .int .i64 j /\ j <= T.size /\ Hid (PartRel R (bs T) j p pw) /\ wo = wx) (fun _ _ _ jv _=>T.size - (intOf jv).toNat)
    case atStart=>exact ⟨0,0,1,rfl,rfl,rfl,rfl,Nat.zero_le _,Hd (PartRel.start _ _),rfl⟩
    case round=>
     obtain ⟨j,p,pw,rfl,rfl,rfl,rfl,hjq,HJ,rfl⟩:=hrel
     by_cases hlt:j < T.size
     ·have hjT:j < T.size:=by omega
      have hbj:=bs_byte T j hjT
      obtain ⟨c,hc⟩ : ∃ c,((T[j].toNat:Int)) = c:=⟨_,rfl⟩
      have hcg:(bs T).getD j 0 = c:=by rw [bs_get T j hjT,hc]
      rw [hc] at hbj
      have HC:=Hd hcg
      clear hcg
      go_wp2_with fail
      refine (digit_is c _ hbj.1 hbj.2).mono ?_
      rintro e wd ⟨rfl,rfl⟩
      obtain ⟨d,hd⟩ : ∃ d,digVal 99 c = d:=⟨_,rfl⟩
      have hd0:0 <= d:=by rw [<- hd];exact digVal_nonneg (by decide)
      have HD:=Hd hd
      rw [hd]
      clear hd
      by_cases hdR:d < R
      ·obtain ⟨hn,b0,b1,b2⟩:=HJ.out.step (by rw [bs_length];exact hjT) h0 HC.out (by rw [HD.out];exact hdR)
       have b3:=HJ.out.bound h0 (show j < k by omega) HPK.out
       rw [HD.out] at hn b1
       have HNX:=Hd hn
       clear hn
       have hw1:IntKind.u32.wrap (p * R) = p * R:=by rw [IntKind.wrap_u32];omega
       have hw2:IntKind.u32.wrap d = d:=by rw [IntKind.wrap_u32];omega
       have hw3:IntKind.u32.wrap (p * R + d) = p * R + d:=by rw [IntKind.wrap_u32];omega
       have hw4:IntKind.u32.wrap (pw * R) = pw * R:=by rw [IntKind.wrap_u32];omega
       clear b0 b1 b2 b3
       go_wp2_with fail
       go_roundw
       case rel=>exact ⟨j + 1,_,_,rfl,rfl,rfl,by go_num,by omega,HNX,trivial⟩
       case measure=>simp [intOf];omega
      ·have hbad:=HJ.out.bad (by rw [bs_length];exact hjT) HC.out (by rw [HD.out];exact hdR)
       have hbad':=HR.out.not hbad
       go_wp2_with fail
       go_ret2
       exact ⟨.inr ⟨rfl,hbad'⟩,HB.out⟩
     ·obtain rfl:j = T.size:=by omega
      have hpr:=HJ.out
      have hpb:(0 <= p /\ p < BB) /\ (0 <= pw /\ pw < BB):=HJ.out.fits h0 (by omega) HPK.out
      have HPB:=Hd hpb
      have HNX:=Hd (HR.out.next HJ.out)
      clear hpr hpb
      go_wp2_with fail
      refine (scaled_num _ z pw p i _ HN.out (by omega) HPB.out.2 HPB.out.1).mono ?_
      rintro e wd ⟨lw,rfl,hln,hlb⟩
      have HLN:=Hd (hln.mono (show i + 1 <= i + T.size by omega))
      have HLB:=Hd (HB.out.trans (hlb.mono HB.out.size))
      clear hln hlb
      go_wp2_with fail
      go_roundw
      case rel=>
       refine ⟨i + T.size,z * pw + p,ByteArray.empty,rfl,?_,HLN.out,HLB.out⟩
       have e0:bs ByteArray.empty = (bs T).drop T.size:=by rw [List.drop_of_length_le (by rw [bs_length];exact Nat.le_refl _)];rfl
       rw [e0]
       exact HNX.out
      case measure=>simp;omega
   ·go_wp2_with fail
    obtain ⟨wo,rfl⟩ : ∃ wo:World,wo = wr:=⟨_,rfl⟩
    obtain ⟨lv,rfl⟩ : ∃ lv,lv = u4:=⟨_,rfl⟩
    go_loopw [4,8,9,25] (fun lx pv wv jv wx=>∃ (j:Nat) (p pw:Int),lx = lv /\ pv = .int .u32 p /\ wv = .int .u32 pw /\ jv = .int .i64 j /\ j <= k /\ Hid (PartRel R (bs T) j p pw) /\ wo = wx) (fun _ _ _ jv _=>k - (intOf jv).toNat)
    case atStart=>exact ⟨0,0,1,rfl,rfl,rfl,rfl,Nat.zero_le _,Hd (PartRel.start _ _),rfl⟩
    case round=>
     obtain ⟨j,p,pw,rfl,rfl,rfl,rfl,hjq,HJ,rfl⟩:=hrel
     by_cases hlt:j < k
     ·have hjT:j < T.size:=by omega
      have hbj:=bs_byte T j hjT
      obtain ⟨c,hc⟩ : ∃ c,((T[j].toNat:Int)) = c:=⟨_,rfl⟩
      have hcg:(bs T).getD j 0 = c:=by rw [bs_get T j hjT,hc]
      rw [hc] at hbj
      have HC:=Hd hcg
      clear hcg
      go_wp2_with fail
      refine (digit_is c _ hbj.1 hbj.2).mono ?_
      rintro e wd ⟨rfl,rfl⟩
      obtain ⟨d,hd⟩ : ∃ d,digVal 99 c = d:=⟨_,rfl⟩
      have hd0:0 <= d:=by rw [<- hd];exact digVal_nonneg (by decide)
      have HD:=Hd hd
      rw [hd]
      clear hd
      by_cases hdR:d < R
      ·obtain ⟨hn,b0,b1,b2⟩:=HJ.out.step (by rw [bs_length];exact hjT) h0 HC.out (by rw [HD.out];exact hdR)
       have b3:=HJ.out.bound h0 (show j < k by omega) HPK.out
       rw [HD.out] at hn b1
       have HNX:=Hd hn
       clear hn
       have hw1:IntKind.u32.wrap (p * R) = p * R:=by rw [IntKind.wrap_u32];omega
       have hw2:IntKind.u32.wrap d = d:=by rw [IntKind.wrap_u32];omega
       have hw3:IntKind.u32.wrap (p * R + d) = p * R + d:=by rw [IntKind.wrap_u32];omega
       have hw4:IntKind.u32.wrap (pw * R) = pw * R:=by rw [IntKind.wrap_u32];omega
       clear b0 b1 b2 b3
       go_wp2_with fail
       go_roundw
       case rel=>exact ⟨j + 1,_,_,rfl,rfl,rfl,by go_num,by omega,HNX,trivial⟩
       case measure=>simp [intOf];omega
      ·have hbad:=HJ.out.bad (by rw [bs_length];exact hjT) HC.out (by rw [HD.out];exact hdR)
       have hbad':=HR.out.not hbad
       go_wp2_with fail
       go_ret2
       exact ⟨.inr ⟨rfl,hbad'⟩,HB.out⟩
     ·obtain rfl:j = k:=by omega
      have hpr:=HJ.out
      have hpb:(0 <= p /\ p < BB) /\ (0 <= pw /\ pw < BB):=HJ.out.fits h0 (by omega) HPK.out
      have HPB:=Hd hpb
      have HNX:=Hd (HR.out.next HJ.out)
      clear hpr hpb
      go_wp2_with fail
      refine (scaled_num _ z pw p i _ HN.out (by omega) HPB.out.2 HPB.out.1).mono ?_
      rintro e wd ⟨lw,rfl,hln,hlb⟩
      have HLN:=Hd (hln.mono (show i + 1 <= i + j by omega))
      have HLB:=Hd (HB.out.trans (hlb.mono HB.out.size))
      clear hln hlb
      go_wp2_with fail
      go_roundw
      case rel=>
       refine ⟨i + j,z * pw + p,T.extract j T.size,rfl,?_,HLN.out,HLB.out⟩
       rw [bs_from T _ (by omega)]
       exact HNX.out
      case measure=>simp [ByteArray.size_extract];omega
def bodyOf (cs:List Int) : List Int:=if cs.headD 0 = 45 \/ cs.headD 0 = 43 then cs.tail else cs
def ParseRel (R:Int) (cs:List Int) (z err:Int) : Prop:=
 ((R < 2 \/ 36 < R) /\ z = 0 /\ err = 1) \/
 (2 <= R /\ R <= 36 /\ bodyOf cs ≠ [] /\ AllOk R (bodyOf cs) /\ z = withSign (decide (cs.headD 0 = 45)) (horner R 0 (bodyOf cs)) /\ err = 0) \/
 (2 <= R /\ R <= 36 /\ ¬ (bodyOf cs ≠ [] /\ AllOk R (bodyOf cs)) /\ z = 0 /\ err = 2)
theorem ParseRel.det {R:Int} {cs:List Int} {z z' r r':Int} (h:ParseRel R cs z r) (g:ParseRel R cs z' r') : z = z' /\ r = r':=by
 unfold ParseRel at h g
 rcases h with h | h | h <;> rcases g with g | g | g
 ·exact ⟨h.2.1.trans g.2.1.symm,h.2.2.trans g.2.2.symm⟩
 ·exfalso;have:=h.1;have:=g.1;have:=g.2.1;omega
 ·exfalso;have:=h.1;have:=g.1;have:=g.2.1;omega
 ·exfalso;have:=g.1;have:=h.1;have:=h.2.1;omega
 ·exact ⟨h.2.2.2.2.1.trans g.2.2.2.2.1.symm,h.2.2.2.2.2.trans g.2.2.2.2.2.symm⟩
 ·exact absurd ⟨h.2.2.1,h.2.2.2.1⟩ g.2.2.1
 ·exfalso;have:=g.1;have:=h.1;have:=h.2.1;omega
 ·exact absurd ⟨g.2.2.1,g.2.2.2.1⟩ h.2.2.1
 ·exact ⟨h.2.2.2.1.trans g.2.2.2.1.symm,h.2.2.2.2.trans g.2.2.2.2.symm⟩
def Parsed (w:World) (R:Int) (S:ByteArray) (e:Ending) (w':World) : Prop:=
 ∃ n A l c z err,e = .returned (.tuple #[.agg #[.bool n,.slice A l c],.int .i64 err]) /\ Ival w' (.agg #[.bool n,.slice A l c]) z 20000 /\ ParseRel R (bs S) z err /\ Below w.heap.size w w'
theorem fromDigits_empty (S:ByteArray) (R:Int) (w:World) (hS:S.size = 0) :
  Calls Tryz.prog 152 #[.string S,.int .i64 R] w fun e w'=>e = .returned (.tuple #[.slice none 0 0,.bool false]) /\ w = w':=by
 have hem:S.toList.isEmpty = true:=isEmpty_zero hS
 go_enter Tryz.func152,Tryz.ntmps152
 go_wp2_with fail
 go_ret2
 first | exact ⟨rfl,rfl⟩ | rfl
def FromAns (w:World) (R:Int) (T:ByteArray) (e:Ending) (w':World) : Prop:=
 ((∃ v,e = .returned (.tuple #[v,.bool true]) /\ Num w' v (horner R 0 (bs T)) 20000 /\ bs T ≠ [] /\ AllOk R (bs T)) \/ (e = .returned (.tuple #[.slice none 0 0,.bool false]) /\ ¬ (bs T ≠ [] /\ AllOk R (bs T)))) /\ Below w.heap.size w w'
theorem fromDigits_ans (T:ByteArray) (R:Int) (w:World) (h0:2 <= R) (h1:R <= 36) (hS2:T.size <= 20000) :
  Calls Tryz.prog 152 #[.string T,.int .i64 R] w (FromAns w R T):=by
 by_cases hT:T.size = 0
 ·refine (fromDigits_empty T R w hT).mono ?_
  rintro e w' ⟨rfl,rfl⟩
  exact ⟨.inr ⟨rfl,fun h=>h.1 (List.eq_nil_of_length_eq_zero (by rw [bs_length];exact hT))⟩,Below.refl _ _⟩
 ·refine (fromDigits_any T R w h0 h1 hT hS2).mono ?_
  rintro e w' ⟨h,hb⟩
  refine ⟨?_,hb⟩
  rcases h with ⟨v,he,hn,hok⟩ | ⟨he,hbad⟩
  ·refine .inl ⟨v,he,hn.mono hS2,fun h=>hT ?_,hok⟩
   rw [<- bs_length,h];rfl
  ·exact .inr ⟨he,fun h=>hbad h.2⟩
theorem bs_head (S:ByteArray) (h:0 < S.size) : (bs S).headD 0 = (S[0].toNat:Int):=by
 rw [<- bs_get S 0 h]
 cases bs S <;> rfl
theorem Ival.zero20 {w:World} : Ival w (.agg #[.bool false,.slice none 0 0]) 0 20000:=
 ⟨false,_,0,rfl,⟨none,0,0,[],rfl,Row.nil_,Dig.nil,.inl rfl,rfl,Nat.zero_le _⟩,Int.le_refl _,rfl,fun h=>by cases h⟩
theorem Parse_bad (S:ByteArray) (R:Int) (w:World) (hR:R < 2 \/ 36 < R) : Calls Tryz.prog 112 #[.string S,.int .i64 R] w (Parsed w R S):=by
 have hW:=below_alloc w (.cells #[.bool false,.slice none 0 0] 31)
 obtain ⟨e1,e2,f1,f2⟩:=room0 (Below.refl (w.heap.size + 1) (w.alloc (.cells #[.bool false,.slice none 0 0] 31)))
 by_cases hR2:R < 2
 ·go_enter Tryz.func112,Tryz.ntmps112
  go_wp2
  refine bodyPost_ret (v:=.tuple #[.agg #[.bool false,.slice none 0 0],.int .i64 1]) (by simp [results,Tryz.results112,go_sem,e1,e2]) rfl ⟨_,_,_,_,0,1,rfl,Ival.zero20,.inl ⟨hR,rfl,rfl⟩,?_⟩
  exact hW
 ·have hR3:36 < R:=by omega
  have HRR:=Hd hR
  clear hR
  go_enter Tryz.func112,Tryz.ntmps112
  go_wp2
  refine bodyPost_ret (v:=.tuple #[.agg #[.bool false,.slice none 0 0],.int .i64 1]) (by simp [results,Tryz.results112,go_sem,e1,e2]) rfl ⟨_,_,_,_,0,1,rfl,Ival.zero20,.inl ⟨HRR.out,rfl,rfl⟩,?_⟩
  exact hW
theorem Parse_any (S:ByteArray) (R:Int) (w:World) (hS2:S.size <= 20000) : Calls Tryz.prog 112 #[.string S,.int .i64 R] w (Parsed w R S):=by
 by_cases hR:R < 2 \/ 36 < R
 ·exact Parse_bad S R w hR
 have h0:2 <= R:=by omega
 have h1:R <= 36:=by omega
 clear hR
 have hW:=below_alloc w (.cells #[.bool false,.slice none 0 0] 31)
 have hle:¬ (20000:Int) < (S.size:Int):=by omega
 by_cases hS:S.size = 0
 ·have hem:=isEmpty_zero hS
  have hTS:=hS2
  have hnil:bs S = []:=List.eq_nil_of_length_eq_zero (by rw [bs_length];exact hS)
  have HBody:=Hd (show bodyOf (bs S) = bs S by rw [hnil];rfl)
  have HHd:=Hd (show decide ((bs S).headD 0 = 45) = false by rw [hnil];rfl)
  clear hnil
  go_enter Tryz.func112,Tryz.ntmps112
  go_wp2_with fail
  refine (fromDigits_ans S R _ h0 h1 hTS).mono ?_
  rintro e w1 ⟨hans,hb1⟩
  have hb1':=hb1.mono (B':=w.heap.size + 1) (by simp)
  obtain ⟨e1,e2,f1,f2⟩:=room0 hb1'
  rcases hans with ⟨v,rfl,hn,hne,hok⟩ | ⟨rfl,hbad⟩
  ·have HN:=Hd hn
   have HOK:=Hd (And.intro hne hok)
   clear hn hne hok
   go_wp2_with fail
   refine (signed_out false _ _ 20000 _ HN.out (by decide)).mono ?_
   rintro e w2 ⟨ng,A,n,c,rfl,hv,hb2⟩
   have hb2':=hb1'.trans (hb2.mono (B':=w.heap.size + 1) (by have:=hb1'.size;simpa using this))
   have HV:=Hd hv
   clear hv e1 e2 f1 f2
   obtain ⟨e1,e2,f1,f2⟩:=room0 hb2'
   go_wp2
   refine bodyPost_ret (v:=.tuple #[.agg #[.bool ng,.slice A n c],.int .i64 0]) (by simp [results,Tryz.results112,go_sem,e1,e2]) rfl ⟨_,_,_,_,_,0,rfl,HV.out.stored e1 e2 _ _,.inr (.inl ⟨h0,h1,?_,?_,?_,rfl⟩),?_⟩
   ·rw [HBody.out];exact HOK.out.1
   ·rw [HBody.out];exact HOK.out.2
   ·rw [HBody.out,HHd.out]
   ·exact ((hW.trans (hb2'.mono (by omega))).setCell (Nat.le_refl _) _).setCell (Nat.le_refl _) _
  ·have HBAD:=Hd hbad
   clear hbad
   go_wp2
   refine bodyPost_ret (v:=.tuple #[.agg #[.bool false,.slice none 0 0],.int .i64 2]) (by simp [results,Tryz.results112,go_sem,e1,e2]) rfl ⟨_,_,_,_,0,2,rfl,Ival.zero20,.inr (.inr ⟨h0,h1,?_,rfl,rfl⟩),?_⟩
   ·rw [HBody.out];exact HBAD.out
   ·exact ((hW.trans (hb1'.mono (by omega))).setCell (Nat.le_refl _) _).setCell (Nat.le_refl _) _
 ·have hem:=isEmpty_size hS
  have hlt:0 < S.size:=by omega
  have hb0:=bs_byte S 0 hlt
  obtain ⟨c0,hc⟩ : ∃ c0,(S[0].toNat:Int) = c0:=⟨_,rfl⟩
  have hhd:=bs_head S hlt
  rw [hc] at hhd hb0
  have hsz:(1:Int) <= (S.size:Int):=by omega
  obtain ⟨T,hT⟩ : ∃ T,S.extract 1 S.size = T:=⟨_,rfl⟩
  have hTb:bs T = (bs S).tail:=by rw [<- hT,bs_from S 1 (by omega)];simp
  have hTS:T.size <= 20000:=by rw [<- bs_length,hTb,List.length_tail,bs_length];omega
  by_cases h45:c0 = 45
  ·have HBody:=Hd (show bodyOf (bs S) = bs T by unfold bodyOf;rw [hhd,hTb,if_pos (.inl h45)])
   have HHd:=Hd (show decide ((bs S).headD 0 = 45) = true by rw [hhd];simpa using h45)
   rw [h45] at hc
   clear hTb hhd h45 hb0
   go_enter Tryz.func112,Tryz.ntmps112
   go_wp2_with fail
   refine (fromDigits_ans T R _ h0 h1 hTS).mono ?_
   rintro e w1 ⟨hans,hb1⟩
   have hb1':=hb1.mono (B':=w.heap.size + 1) (by simp)
   obtain ⟨e1,e2,f1,f2⟩:=room0 hb1'
   rcases hans with ⟨v,rfl,hn,hne,hok⟩ | ⟨rfl,hbad⟩
   ·have HN:=Hd hn
    have HOK:=Hd (And.intro hne hok)
    clear hn hne hok
    go_wp2_with fail
    refine (signed_out true _ _ 20000 _ HN.out (by decide)).mono ?_
    rintro e w2 ⟨ng,A,n,c,rfl,hv,hb2⟩
    have hb2':=hb1'.trans (hb2.mono (B':=w.heap.size + 1) (by have:=hb1'.size;simpa using this))
    have HV:=Hd hv
    clear hv e1 e2 f1 f2
    obtain ⟨e1,e2,f1,f2⟩:=room0 hb2'
    go_wp2
    refine bodyPost_ret (v:=.tuple #[.agg #[.bool ng,.slice A n c],.int .i64 0]) (by simp [results,Tryz.results112,go_sem,e1,e2]) rfl ⟨_,_,_,_,_,0,rfl,HV.out.stored e1 e2 _ _,.inr (.inl ⟨h0,h1,?_,?_,?_,rfl⟩),?_⟩
    ·rw [HBody.out];exact HOK.out.1
    ·rw [HBody.out];exact HOK.out.2
    ·rw [HBody.out,HHd.out]
    ·exact ((hW.trans (hb2'.mono (by omega))).setCell (Nat.le_refl _) _).setCell (Nat.le_refl _) _
   ·have HBAD:=Hd hbad
    clear hbad
    go_wp2
    refine bodyPost_ret (v:=.tuple #[.agg #[.bool false,.slice none 0 0],.int .i64 2]) (by simp [results,Tryz.results112,go_sem,e1,e2]) rfl ⟨_,_,_,_,0,2,rfl,Ival.zero20,.inr (.inr ⟨h0,h1,?_,rfl,rfl⟩),?_⟩
    ·rw [HBody.out];exact HBAD.out
    ·exact ((hW.trans (hb1'.mono (by omega))).setCell (Nat.le_refl _) _).setCell (Nat.le_refl _) _
  ·by_cases h43:c0 = 43
   ·have HBody:=Hd (show bodyOf (bs S) = bs T by unfold bodyOf;rw [hhd,hTb,if_pos (.inr h43)])
    have HHd:=Hd (show decide ((bs S).headD 0 = 45) = false by rw [hhd];simpa using h45)
    rw [h43] at hc
    clear hTb hhd h43 hb0 h45
    go_enter Tryz.func112,Tryz.ntmps112
    go_wp2_with fail
    refine (fromDigits_ans T R _ h0 h1 hTS).mono ?_
    rintro e w1 ⟨hans,hb1⟩
    have hb1':=hb1.mono (B':=w.heap.size + 1) (by simp)
    obtain ⟨e1,e2,f1,f2⟩:=room0 hb1'
    rcases hans with ⟨v,rfl,hn,hne,hok⟩ | ⟨rfl,hbad⟩
    ·have HN:=Hd hn
     have HOK:=Hd (And.intro hne hok)
     clear hn hne hok
     go_wp2_with fail
     refine (signed_out false _ _ 20000 _ HN.out (by decide)).mono ?_
     rintro e w2 ⟨ng,A,n,c,rfl,hv,hb2⟩
     have hb2':=hb1'.trans (hb2.mono (B':=w.heap.size + 1) (by have:=hb1'.size;simpa using this))
     have HV:=Hd hv
     clear hv e1 e2 f1 f2
     obtain ⟨e1,e2,f1,f2⟩:=room0 hb2'
     go_wp2
     refine bodyPost_ret (v:=.tuple #[.agg #[.bool ng,.slice A n c],.int .i64 0]) (by simp [results,Tryz.results112,go_sem,e1,e2]) rfl ⟨_,_,_,_,_,0,rfl,HV.out.stored e1 e2 _ _,.inr (.inl ⟨h0,h1,?_,?_,?_,rfl⟩),?_⟩
     ·rw [HBody.out];exact HOK.out.1
     ·rw [HBody.out];exact HOK.out.2
     ·rw [HBody.out,HHd.out]
     ·exact ((hW.trans (hb2'.mono (by omega))).setCell (Nat.le_refl _) _).setCell (Nat.le_refl _) _
    ·have HBAD:=Hd hbad
     clear hbad
     go_wp2
     refine bodyPost_ret (v:=.tuple #[.agg #[.bool false,.slice none 0 0],.int .i64 2]) (by simp [results,Tryz.results112,go_sem,e1,e2]) rfl ⟨_,_,_,_,0,2,rfl,Ival.zero20,.inr (.inr ⟨h0,h1,?_,rfl,rfl⟩),?_⟩
     ·rw [HBody.out];exact HBAD.out
     ·exact ((hW.trans (hb1'.mono (by omega))).setCell (Nat.le_refl _) _).setCell (Nat.le_refl _) _
   ·have HBody:=Hd (show bodyOf (bs S) = bs S by unfold bodyOf;rw [hhd,if_neg (by omega)])
    have HHd:=Hd (show decide ((bs S).headD 0 = 45) = false by rw [hhd];simpa using h45)
    clear hTb hhd hTS hT
    have q1:(c0 == 45) = false:=by simpa using h45
    have q2:(c0 == 43) = false:=by simpa using h43
    have hTS:=hS2
    go_enter Tryz.func112,Tryz.ntmps112
    go_wp2_with fail
    refine (fromDigits_ans S R _ h0 h1 hTS).mono ?_
    rintro e w1 ⟨hans,hb1⟩
    have hb1':=hb1.mono (B':=w.heap.size + 1) (by simp)
    obtain ⟨e1,e2,f1,f2⟩:=room0 hb1'
    rcases hans with ⟨v,rfl,hn,hne,hok⟩ | ⟨rfl,hbad⟩
    ·have HN:=Hd hn
     have HOK:=Hd (And.intro hne hok)
     clear hn hne hok
     go_wp2_with fail
     refine (signed_out false _ _ 20000 _ HN.out (by decide)).mono ?_
     rintro e w2 ⟨ng,A,n,c,rfl,hv,hb2⟩
     have hb2':=hb1'.trans (hb2.mono (B':=w.heap.size + 1) (by have:=hb1'.size;simpa using this))
     have HV:=Hd hv
     clear hv e1 e2 f1 f2
     obtain ⟨e1,e2,f1,f2⟩:=room0 hb2'
     go_wp2
     refine bodyPost_ret (v:=.tuple #[.agg #[.bool ng,.slice A n c],.int .i64 0]) (by simp [results,Tryz.results112,go_sem,e1,e2]) rfl ⟨_,_,_,_,_,0,rfl,HV.out.stored e1 e2 _ _,.inr (.inl ⟨h0,h1,?_,?_,?_,rfl⟩),?_⟩
     ·rw [HBody.out];exact HOK.out.1
     ·rw [HBody.out];exact HOK.out.2
     ·rw [HBody.out,HHd.out]
     ·exact ((hW.trans (hb2'.mono (by omega))).setCell (Nat.le_refl _) _).setCell (Nat.le_refl _) _
    ·have HBAD:=Hd hbad
     clear hbad
     go_wp2
     refine bodyPost_ret (v:=.tuple #[.agg #[.bool false,.slice none 0 0],.int .i64 2]) (by simp [results,Tryz.results112,go_sem,e1,e2]) rfl ⟨_,_,_,_,0,2,rfl,Ival.zero20,.inr (.inr ⟨h0,h1,?_,rfl,rfl⟩),?_⟩
     ·rw [HBody.out];exact HBAD.out
     ·exact ((hW.trans (hb1'.mono (by omega))).setCell (Nat.le_refl _) _).setCell (Nat.le_refl _) _
end Go.Proofs.YtbajnceoolkckaaGreat
