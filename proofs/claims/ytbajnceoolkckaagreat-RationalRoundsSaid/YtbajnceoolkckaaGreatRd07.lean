/- Of the proof of RationalRounds: RFour, BitWidth, RBitsAll. -/
import Derived.Test.YtbajnceoolkckaaGreatRd06
import Derived.Lib.Tables
import Derived.Lib.BitFns
open Go.Lib renaming hid → Hd
set_option maxRecDepth 100000
set_option maxHeartbeats 16000000
namespace Go.Proofs.YtbajnceoolkckaaGreat
open Go.RowKit LM
theorem DigR.getD {l:List Int} (h:DigR 65536 l) (i:Nat) : 0 <= l.getD i 0 /\ l.getD i 0 < 65536:=by
 by_cases hi:i < l.length
 ·have e:l.getD i 0 = l[i]:=by simp [List.getD,hi]
  rw [e];exact h _ (List.getElem_mem hi)
 ·rw [getD_out _ _ (by omega)];decide
theorem DigR.drop {R:Int} {l:List Int} (h:DigR R l) (k:Nat) : DigR R (l.drop k):=fun d hd=>h d (List.mem_of_mem_drop hd)
theorem valR_split (R:Int) (l:List Int) (i:Nat) (h:i <= l.length) : valR R l = valR R (l.take i) + R ^ i * valR R (l.drop i):=by
 have:=valR_append R (l.take i) (l.drop i)
 rw [List.take_append_drop,List.length_take,Nat.min_eq_left h] at this
 exact this
theorem valR_ge {l : List Int} (hd : DigR 65536 l) (ht : Trimmed l) (hn : l.length ≠ 0) : (65536 : Int) ^ (l.length - 1) ≤ valR 65536 l := by
  have e : l.take (l.length - 1 + 1) = l := List.take_of_length_le (by omega)
  have h1 := valR_take_succ 65536 l (l.length - 1)
  rw [e] at h1
  have h2 := valR_nonneg (by decide : (0 : Int) ≤ 65536) (hd.take (l.length - 1))
  have h3 := hd.getD (l.length - 1)
  have h4 : l.getD (l.length - 1) 0 ≠ 0 := by rcases ht with h | h
                                              · exact absurd h hn
                                              · exact h
  have h5 : (65536 : Int) ^ (l.length - 1) * 1 ≤ 65536 ^ (l.length - 1) * l.getD (l.length - 1) 0 := Int.mul_le_mul_of_nonneg_left (by omega) (Int.pow_nonneg (by decide))
  omega
theorem pow_le65 {m n:Nat} (h:m <= n) : (65536:Int) ^ m <= 65536 ^ n:=by
 obtain ⟨k,rfl⟩:=Nat.exists_eq_add_of_le h
 rw [Int.pow_add]
 have h1:(0:Int) < 65536 ^ k:=Int.pow_pos (by decide)
 have h0:(0:Int) <= 65536 ^ m:=Int.pow_nonneg (by decide)
 have h2:=Int.mul_le_mul_of_nonneg_left (show (1:Int) <= 65536 ^ k by omega) h0
 omega
theorem valR_lt_of_length {a b:List Int} (ha:DigR 65536 a) (hb:DigR 65536 b) (tb:Trimmed b) (h:a.length < b.length) : valR 65536 a < valR 65536 b:=by
 have h1:=valR_lt (by decide:(1:Int) <= 65536) ha
 have h2:=valR_ge hb tb (by omega)
 have h3:=pow_le65 (show a.length <= b.length - 1 by omega)
 omega
theorem valR_lt_at {a b:List Int} (ha:DigR 65536 a) (hb:DigR 65536 b) (i:Nat) (hia:i < a.length) (hl:a.length = b.length) (hs:a.drop (i + 1) = b.drop (i + 1)) (h:a.getD i 0 < b.getD i 0) : valR 65536 a < valR 65536 b:=by
 have ea:=valR_split 65536 a (i + 1) (by omega)
 have eb:=valR_split 65536 b (i + 1) (by omega)
 rw [hs,valR_take_succ] at ea
 rw [valR_take_succ] at eb
 have h1:=valR_lt (by decide:(1:Int) <= 65536) (ha.take i)
 rw [List.length_take,Nat.min_eq_left (by omega)] at h1
 have h2:=valR_nonneg (by decide:(0:Int) <= 65536) (hb.take i)
 have h3:(65536:Int) ^ i * (a.getD i 0 + 1) <= 65536 ^ i * b.getD i 0:=Int.mul_le_mul_of_nonneg_left (by omega) (Int.pow_nonneg (by decide))
 rw [Int.mul_add,Int.mul_one] at h3
 omega
theorem rcompare_any (A B:Option Addr) (n m c d:Nat) (xs ys:List Int) (w:World) (h:Row .i64 w A n c xs) (g:Row .i64 w B m d ys) (hn:n <= 1073741824) (hm:m <= 1073741824)
  (hdx:DigR 65536 xs) (hdy:DigR 65536 ys) (htx:Trimmed xs) (hty:Trimmed ys) :
  Calls Tryz.prog 125 #[.slice A n c,.slice B m d] w fun e w'=>e = .returned (.int .i64 (cmpI (valR 65536 xs) (valR 65536 ys))) /\ ∃ q,w' = w.drewN q:=by
 obtain ⟨hl,hc,hcell⟩:=h
 obtain ⟨gl,gc,gcell⟩:=g
 by_cases hnm:n = m
 ·subst hnm
  go_enter Tryz.func125,Tryz.ntmps125
  go_wp2
  go_loopw [5] (fun i wr=>∃ k q:Nat,k <= n /\ i = .int .i64 ((k:Int) - 1) /\ xs.drop k = ys.drop k /\ wr = w.drewN q) (fun i _=>(intOf i + 1).toNat)
  case atStart=>exact ⟨n,0,Nat.le_refl _,rfl,by rw [List.drop_of_length_le (by omega),List.drop_of_length_le (by omega)],rfl⟩
  case round=>
   obtain ⟨k,q,hk,rfl,hv,rfl⟩:=hrel
   have Hv:=Hd hv
   clear hv
   by_cases h0:k = 0
   ·subst h0
    have HE:=Hd (cmpI_eq (congrArg (valR 65536) (by simpa using Hv.out)))
    go_wp2
    go_ret
    exact ⟨by rw [HE.out];rfl,q,rfl⟩
   ·have hn0:n ≠ 0:=by omega
    obtain ⟨b,o,rfl,hb,hx⟩:=hcell hn0
    obtain ⟨b',o',rfl,hb',hy⟩:=gcell hn0
    have hp:(0:Int) < (k:Int):=by omega
    obtain ⟨x,ex⟩ : ∃ x,xs.getD (k - 1) 0 = x:=⟨_,rfl⟩
    obtain ⟨y,ey⟩ : ∃ y,ys.getD (k - 1) 0 = y:=⟨_,rfl⟩
    have hx1:w.cell? ⟨b,o + (k - 1),none⟩ = some (.int .i64 x):=by rw [<- ex];exact hx (k - 1) (by omega)
    have hy1:w.cell? ⟨b',o' + (k - 1),none⟩ = some (.int .i64 y):=by rw [<- ey];exact hy (k - 1) (by omega)
    have EX:=Hd ex
    have EY:=Hd ey
    have HL:=Hd hl
    have GL:=Hd gl
    clear hx hy hcell gcell ex ey hl gl
    have q1:(0:Int) <= (k:Int) - 1:=by omega
    have q2:(k:Int) - 1 < (n:Int):=by omega
    have q3:((k:Int) - 1).toNat = k - 1:=by omega
    have e1:k - 1 + 1 = k:=by omega
    rcases Int.lt_trichotomy x y with hlt | heq | hgt
    ·have HC:=Hd (cmpI_lt (valR_lt_at hdx hdy (k - 1) (by rw [HL.out];omega) (by rw [HL.out,GL.out]) (by rw [e1];exact Hv.out) (by rw [EX.out,EY.out];exact hlt)))
     have hd1:decide (x < y) = true:=decide_eq_true hlt
     go_wp2
     go_quiet (fail)
     go_wp2
     go_ret
     exact ⟨by rw [HC.out];rfl,_,by rw [World.drewN_drewN]⟩
    ·subst heq
     have hd1:decide (x < x) = false:=by simp
     go_wp2
     go_quiet (fail)
     go_wp2
     go_quiet (fail)
     go_wp2
     refine ⟨⟨k - 1,_,by omega,by go_num,?_,rfl⟩,by simp [intOf];omega⟩
     rw [drop_cons xs (k - 1) (by rw [HL.out];omega),drop_cons ys (k - 1) (by rw [GL.out];omega),EX.out,EY.out,e1,Hv.out]
    ·have HC:=Hd (cmpI_gt (valR_lt_at hdy hdx (k - 1) (by rw [GL.out];omega) (by rw [HL.out,GL.out]) (by rw [e1];exact Hv.out.symm) (by rw [EX.out,EY.out];exact hgt)))
     have hd1:decide (x < y) = false:=decide_eq_false (by omega)
     have hd2:decide (y < x) = true:=decide_eq_true hgt
     go_wp2
     go_quiet (fail)
     go_wp2
     go_quiet (fail)
     go_wp2
     go_ret
     exact ⟨by rw [HC.out];rfl,_,drewN_3 _ _ _ _⟩
 ·have h1:(n == m) = false:=by simp;omega
  have h2:((n:Int) == m) = false:=by simp;omega
  have h3:((n:Int) != m) = true:=by simp;omega
  rcases Nat.lt_or_gt_of_ne hnm with hlt | hlt
  ·have HC:=Hd (cmpI_lt (valR_lt_of_length hdx hdy hty (by omega)))
   have hi:(n:Int) < (m:Int):=by omega
   clear hl gl
   go_enter Tryz.func125,Tryz.ntmps125
   go_wp2
   go_ret
   exact ⟨by rw [HC.out];rfl,0,rfl⟩
  ·have HC:=Hd (cmpI_gt (valR_lt_of_length hdy hdx htx (by omega)))
   have hi:¬ (n:Int) < (m:Int):=by omega
   clear hl gl
   go_enter Tryz.func125,Tryz.ntmps125
   go_wp2
   go_ret
   exact ⟨by rw [HC.out];rfl,0,rfl⟩
def RNum (w:World) (v:Value) (z:Int) (L:Nat) : Prop:=
 ∃ A n c ds,v = .slice A n c /\ Row .i64 w A n c ds /\ DigR 65536 ds /\ valR 65536 ds = z /\ n <= L
theorem RNum.below {w w':World} {v:Value} {z:Int} {L:Nat} (h:RNum w v z L) (hb:Below w.heap.size w w') : RNum w' v z L:=by
 obtain ⟨A,n,c,ds,e,hr,r⟩:=h
 exact ⟨A,n,c,ds,e,hr.below hb,r⟩
def PlusRel (xs ys ds:List Int) (M i:Nat) (cc:Int) : Prop:=
 i <= M + 1 /\ ds.length = i /\ 0 <= cc /\ cc <= 1 /\ (M < i -> cc = 0) /\ DigR 65536 ds /\ valR 65536 ds + 65536 ^ i * cc = valR 65536 (xs.take i) + valR 65536 (ys.take i)
theorem PlusRel.step {xs ys ds:List Int} {M i:Nat} {cc x y:Int} (h:PlusRel xs ys ds M i cc) (hi:i <= M) (hx:xs.getD i 0 = x) (hy:ys.getD i 0 = y) (dx:DigR 65536 xs) (dy:DigR 65536 ys) (hM:xs.length <= M /\ ys.length <= M) :
  (0 <= x /\ x < 65536) /\ (0 <= y /\ y < 65536) /\ PlusRel xs ys (ds ++ [(cc + x + y) % 65536]) M (i + 1) ((cc + x + y) / 65536):=by
 obtain ⟨_,hl,c0,c1,_,hd,hv⟩:=h
 have bx:=dx.getD i
 have by':=dy.getD i
 rw [hx] at bx
 rw [hy] at by'
 refine ⟨bx,by',by omega,by simp [hl],by omega,by omega,fun hMi=>?_,?_,?_⟩
 ·have hiM:i = M:=by omega
  have x0:x = 0:=by rw [<- hx];exact getD_out _ _ (by omega)
  have y0:y = 0:=by rw [<- hy];exact getD_out _ _ (by omega)
  omega
 ·intro d hm
  rcases List.mem_append.1 hm with hm | hm
  ·exact hd d hm
  ·simp at hm;subst hm;omega
 ·rw [valR_append,hl,valR_take_succ,valR_take_succ,hx,hy,Int.pow_succ]
  simp only [valR,Int.mul_zero,Int.add_zero]
  have e:(65536:Int) ^ i * (cc + x + y) = 65536 ^ i * (65536 * ((cc + x + y) / 65536)) + 65536 ^ i * ((cc + x + y) % 65536):=by
   rw [<- Int.mul_add];exact congrArg _ (by omega)
  have e2:(65536:Int) ^ i * 65536 * ((cc + x + y) / 65536) = 65536 ^ i * (65536 * ((cc + x + y) / 65536)):=Int.mul_assoc _ _ _
  rw [Int.mul_add,Int.mul_add] at e
  rw [e2];omega
theorem PlusRel.done {xs ys ds:List Int} {M i:Nat} (h:PlusRel xs ys ds M i 0) (hx:xs.length <= i) (hy:ys.length <= i) : valR 65536 ds = valR 65536 xs + valR 65536 ys:=by
 obtain ⟨_,_,_,_,_,_,hv⟩:=h
 rw [List.take_of_length_le hx,List.take_of_length_le hy,Int.mul_zero,Int.add_zero] at hv
 exact hv
def MinusRel (xs ys ds:List Int) (i:Nat) (bo:Int) : Prop:=
 ds.length = i /\ 0 <= bo /\ bo <= 1 /\ DigR 65536 ds /\ valR 65536 ds + valR 65536 (ys.take i) = valR 65536 (xs.take i) + 65536 ^ i * bo
theorem MinusRel.step {xs ys ds:List Int} {i:Nat} {bo x y:Int} (h:MinusRel xs ys ds i bo) (hx:xs.getD i 0 = x) (hy:ys.getD i 0 = y) (dx:DigR 65536 xs) (dy:DigR 65536 ys) :
  (0 <= x /\ x < 65536) /\ (0 <= y /\ y < 65536) /\ (x - bo - y < 0 -> MinusRel xs ys (ds ++ [x - bo - y + 65536]) (i + 1) 1) /\ (0 <= x - bo - y -> MinusRel xs ys (ds ++ [x - bo - y]) (i + 1) 0):=by
 obtain ⟨hl,c0,c1,hd,hv⟩:=h
 have bx:=dx.getD i
 have by':=dy.getD i
 rw [hx] at bx
 rw [hy] at by'
 have key:∀ u b:Int,x - bo - y + 65536 * b = u -> 0 <= u /\ u < 65536 -> 0 <= b /\ b <= 1 -> MinusRel xs ys (ds ++ [u]) (i + 1) b:=by
  intro u b hu hu2 hb
  refine ⟨by simp [hl],hb.1,hb.2,?_,?_⟩
  ·intro d hm
   rcases List.mem_append.1 hm with hm | hm
   ·exact hd d hm
   ·simp at hm;subst hm;exact hu2
  ·rw [valR_append,hl,valR_take_succ,valR_take_succ,hx,hy,Int.pow_succ,<- hu]
   simp only [valR,Int.mul_zero,Int.add_zero]
   have e1:(65536:Int) ^ i * (x - bo - y + 65536 * b) = 65536 ^ i * x - 65536 ^ i * bo - 65536 ^ i * y + 65536 ^ i * (65536 * b):=by rw [Int.mul_add,Int.mul_sub,Int.mul_sub]
   have e2:(65536:Int) ^ i * 65536 * b = 65536 ^ i * (65536 * b):=Int.mul_assoc _ _ _
   rw [e1,e2];omega
 exact ⟨bx,by',fun h=>key _ 1 (by omega) (by omega) (by decide),fun h=>key _ 0 (by omega) (by omega) (by decide)⟩
theorem MinusRel.done {xs ys ds:List Int} {n:Nat} {bo:Int} (h:MinusRel xs ys ds n bo) (hx:xs.length = n) (hy:ys.length <= n) (hle:valR 65536 ys <= valR 65536 xs) : valR 65536 ds = valR 65536 xs - valR 65536 ys:=by
 obtain ⟨hl,c0,c1,hd,hv⟩:=h
 rw [List.take_of_length_le hy,List.take_of_length_le (show xs.length <= n by omega)] at hv
 have h1:=valR_lt (by decide:(1:Int) <= 65536) hd
 rw [hl] at h1
 have hb:bo = 0:=by
  rcases (by omega:bo = 0 \/ bo = 1) with h | h
  ·exact h
  ·subst h;omega
 subst hb
 omega
theorem Ints64.snoc {w3:World} {base k:Nat} {v':Value} {ds:List Int} {x:Int} (hl:ds.length = k) (h:w3.ownsRow base 3 1 v' (k + 1) (ds.map (Value.int .i64) ++ [.int .i64 x])) : Ints64 w3 base v' (ds ++ [x]):=by
 unfold Ints64;rw [List.length_append,List.length_singleton,List.map_append,hl];exact h
theorem rminus_any (A B:Option Addr) (n m c d:Nat) (xs ys:List Int) (w:World) (h:Row .i64 w A n c xs) (g:Row .i64 w B m d ys) (hn:n <= 1048576) (hmn:m <= n) (hdx:DigR 65536 xs) (hdy:DigR 65536 ys) (hle:valR 65536 ys <= valR 65536 xs) :
  Calls Tryz.prog 126 #[.slice A n c,.slice B m d] w fun e w'=>(∃ v,e = .returned v /\ RNum w' v (valR 65536 xs - valR 65536 ys) n) /\ Below w.heap.size w w':=by
 obtain ⟨i0,hii,hz0,hz1,hz2⟩:=info_parts Tryz.info3
 have HX:=Hd h
 have HY:=Hd g
 have HXL:=Hd (show xs.length = n from h.1)
 have HYL:=Hd (show ys.length = m from g.1)
 have HLE:=Hd hle
 clear h g hle
 go_enter Tryz.func126,Tryz.ntmps126
 go_wp2_with fail
 go_loopw [5,6,7] (fun dv cv iv wr=>∃ (i:Nat) (bo:Int) (ds:List Int),iv = .int .i64 i /\ i <= n /\ cv = .int .i64 bo /\ Ints64 wr w.heap.size dv ds /\ Hid (MinusRel xs ys ds i bo) /\ Below w.heap.size w wr) (fun _ _ iv _=>n - (intOf iv).toNat)
 case atStart=>exact ⟨0,0,[],rfl,Nat.zero_le _,rfl,World.ownsRow_nil _ _ _ _,Hd ⟨rfl,by decide,by decide,fun d h=>by simp at h,by simp [valR]⟩,Below.refl _ _⟩
 case round=>
  obtain ⟨i,bo,ds,rfl,hiM,rfl,hown,HP,hb⟩:=hrel
  have HO:=Hd hown
  have HDL:=Hd HP.out.1
  have hc0:=HP.out.2.1
  have hc1:=HP.out.2.2.1
  have HO2:Hid (wr.ownsRow w.heap.size 3 1 u5 i (ds.map (Value.int .i64))):=Hd (by have h:=HO.out;unfold Ints64 at h;rw [HDL.out] at h;exact h)
  clear hown
  by_cases hin:i < n
  ·obtain ⟨x,ex⟩ : ∃ x,xs.getD i 0 = x:=⟨_,rfl⟩
   obtain ⟨y,ey⟩ : ∃ y,ys.getD i 0 = y:=⟨_,rfl⟩
   obtain ⟨⟨bx0,bx1⟩,⟨by0,by1⟩,hst1,hst2⟩:=HP.out.step ex ey hdx hdy
   obtain ⟨b,o,rfl,hbx,hx⟩:=HX.out.2.2 (by omega)
   have hx1:wr.cell? ⟨b,o + i,none⟩ = some (.int .i64 x):=by rw [<- ex];exact (hb.cell (p:=⟨b,o + i,none⟩) hbx).trans (hx i hin)
   have q5:IntKind.i64.wrap (x - bo) = x - bo:=by rw [IntKind.wrap_i64];omega
   by_cases him:i < m
   ·obtain ⟨b',o',rfl,hby,hy⟩:=HY.out.2.2 (by omega)
    have hy1:wr.cell? ⟨b',o' + i,none⟩ = some (.int .i64 y):=by rw [<- ey];exact (hb.cell (p:=⟨b',o' + i,none⟩) hby).trans (hy i him)
    obtain ⟨u,hu⟩ : ∃ u,x - bo - y = u:=⟨_,rfl⟩
    have q6:IntKind.i64.wrap (x - bo - y) = u:=by rw [IntKind.wrap_i64];omega
    rw [hu] at hst1 hst2
    have hu1:-65537 <= u /\ u <= 65535:=by omega
    clear hx hy ex ey hu
    by_cases hneg:u < 0
    ·have HST:=Hd (hst1 hneg)
     have q7:IntKind.i64.wrap (u + 65536) = u + 65536:=by rw [IntKind.wrap_i64];omega
     clear hst1 hst2
     go_wp2_with (at_builtin;refine wpList_append_own _ rfl (.tmp 35) (.tmp 37) _ rfl w.heap.size 3 i0 (.int .i64 0) 1 8 Tryz.underlying32 hii hz0 hz1 hz2 rfl (by decide) _ _ _ rfl (HO2.out.alloc _) ⟨wr.heap.size,0,none⟩ 1 1 [.int .i64 (u + 65536)] rfl rfl ?c1n5 ?c2n5 ?c3n5 ?c4n5 ?c5n5 ?_)
     try case c1n5=>first | exact cell_one _ _ | (simp)
     try case c2n5=>first | exact one_cell _ | rfl
     try case c3n5=>unfold maxLen;omega
     try case c4n5=>omega
     try case c5n5=>have:=hb.size;simp;omega
     intro v' w3 hown3 hg3 _
     have hb3:Below w.heap.size w w3:=(hb.alloc hb.size _).grown hg3 (by have:=hb.size;simp;omega) (fun g hg=>(HO2.out.lt g hg).1)
     have ho3:=Ints64.snoc HDL.out hown3
     have HO3:=Hd ho3
     clear hown3 hg3 ho3
     go_wp2
     exact ⟨⟨i + 1,_,_,by go_num,by omega,rfl,HO3.out,HST,hb3⟩,by simp [intOf];omega⟩
    ·have HST:=Hd (hst2 (by omega))
     clear hst1 hst2
     go_wp2_with (at_builtin;refine wpList_append_own _ rfl (.tmp 35) (.tmp 37) _ rfl w.heap.size 3 i0 (.int .i64 0) 1 8 Tryz.underlying32 hii hz0 hz1 hz2 rfl (by decide) _ _ _ rfl (HO2.out.alloc _) ⟨wr.heap.size,0,none⟩ 1 1 [.int .i64 (u)] rfl rfl ?c1n6 ?c2n6 ?c3n6 ?c4n6 ?c5n6 ?_)
     try case c1n6=>first | exact cell_one _ _ | (simp)
     try case c2n6=>first | exact one_cell _ | rfl
     try case c3n6=>unfold maxLen;omega
     try case c4n6=>omega
     try case c5n6=>have:=hb.size;simp;omega
     intro v' w3 hown3 hg3 _
     have hb3:Below w.heap.size w w3:=(hb.alloc hb.size _).grown hg3 (by have:=hb.size;simp;omega) (fun g hg=>(HO2.out.lt g hg).1)
     have ho3:=Ints64.snoc HDL.out hown3
     have HO3:=Hd ho3
     clear hown3 hg3 ho3
     go_wp2
     exact ⟨⟨i + 1,_,_,by go_num,by omega,rfl,HO3.out,HST,hb3⟩,by simp [intOf];omega⟩
   ·obtain rfl:y = 0:=by rw [<- ey];exact getD_out _ _ (by rw [HYL.out];omega)
    obtain ⟨u,hu⟩ : ∃ u,x - bo = u:=⟨_,rfl⟩
    have q6:IntKind.i64.wrap (x - bo) = u:=by rw [q5,hu]
    rw [Int.sub_zero,hu] at hst1 hst2
    have hu1:-65537 <= u /\ u <= 65535:=by omega
    clear hx ex ey hu q5
    by_cases hneg:u < 0
    ·have HST:=Hd (hst1 hneg)
     have q7:IntKind.i64.wrap (u + 65536) = u + 65536:=by rw [IntKind.wrap_i64];omega
     clear hst1 hst2
     go_wp2_with (at_builtin;refine wpList_append_own _ rfl (.tmp 35) (.tmp 37) _ rfl w.heap.size 3 i0 (.int .i64 0) 1 8 Tryz.underlying32 hii hz0 hz1 hz2 rfl (by decide) _ _ _ rfl (HO2.out.alloc _) ⟨wr.heap.size,0,none⟩ 1 1 [.int .i64 (u + 65536)] rfl rfl ?c1n7 ?c2n7 ?c3n7 ?c4n7 ?c5n7 ?_)
     try case c1n7=>first | exact cell_one _ _ | (simp)
     try case c2n7=>first | exact one_cell _ | rfl
     try case c3n7=>unfold maxLen;omega
     try case c4n7=>omega
     try case c5n7=>have:=hb.size;simp;omega
     intro v' w3 hown3 hg3 _
     have hb3:Below w.heap.size w w3:=(hb.alloc hb.size _).grown hg3 (by have:=hb.size;simp;omega) (fun g hg=>(HO2.out.lt g hg).1)
     have ho3:=Ints64.snoc HDL.out hown3
     have HO3:=Hd ho3
     clear hown3 hg3 ho3
     go_wp2
     exact ⟨⟨i + 1,_,_,by go_num,by omega,rfl,HO3.out,HST,hb3⟩,by simp [intOf];omega⟩
    ·have HST:=Hd (hst2 (by omega))
     clear hst1 hst2
     go_wp2_with (at_builtin;refine wpList_append_own _ rfl (.tmp 35) (.tmp 37) _ rfl w.heap.size 3 i0 (.int .i64 0) 1 8 Tryz.underlying32 hii hz0 hz1 hz2 rfl (by decide) _ _ _ rfl (HO2.out.alloc _) ⟨wr.heap.size,0,none⟩ 1 1 [.int .i64 (u)] rfl rfl ?c1n8 ?c2n8 ?c3n8 ?c4n8 ?c5n8 ?_)
     try case c1n8=>first | exact cell_one _ _ | (simp)
     try case c2n8=>first | exact one_cell _ | rfl
     try case c3n8=>unfold maxLen;omega
     try case c4n8=>omega
     try case c5n8=>have:=hb.size;simp;omega
     intro v' w3 hown3 hg3 _
     have hb3:Below w.heap.size w w3:=(hb.alloc hb.size _).grown hg3 (by have:=hb.size;simp;omega) (fun g hg=>(HO2.out.lt g hg).1)
     have ho3:=Ints64.snoc HDL.out hown3
     have HO3:=Hd ho3
     clear hown3 hg3 ho3
     go_wp2
     exact ⟨⟨i + 1,_,_,by go_num,by omega,rfl,HO3.out,HST,hb3⟩,by simp [intOf];omega⟩
  ·obtain rfl:i = n:=by omega
   have HD:=Hd (HP.out.done HXL.out (by rw [HYL.out];exact hmn) HLE.out)
   obtain ⟨A',c',rfl,hrow⟩:=Row.of_ownsRow HO2.out
   have HDG:=Hd HP.out.2.2.2.1
   have HROW:=Hd hrow
   clear hrow
   go_wp2_with fail
   refine (rtrim_any A' i c' ds _ HROW.out (by omega)).mono ?_
   rintro e w' ⟨A2,k2,c2,hk2,rfl,rfl,hr2,hv2,_⟩
   have HR2:=Hd hr2
   have HV2:=Hd hv2
   clear hr2 hv2
   go_wp2
   go_ret
   exact ⟨⟨_,rfl,_,_,_,_,rfl,HR2.out,HDG.out.take _,HV2.out.trans HD.out,hk2⟩,hb⟩
theorem room31' {w w':World} {x:Obj} (h:Below (w.heap.size + 1 + 1) ((w.alloc x).alloc (.cells #[.bool false,.slice none 0 0] 34)) w') :
  w'.cell? ⟨w.heap.size + 1,0,none⟩ = some (.bool false) /\ w'.cell? ⟨w.heap.size + 1,1,none⟩ = some (.slice none 0 0) /\ w'.frozen? ⟨w.heap.size + 1,0,none⟩ = false /\ w'.frozen? ⟨w.heap.size + 1,1,none⟩ = false:=by
 refine ⟨?_,?_,?_,?_⟩
 ·rw [h.cell (by simp),World.cell?_alloc_at _ _ _ _ (by simp)];rfl
 ·rw [h.cell (by simp),World.cell?_alloc_at _ _ _ _ (by simp)];rfl
 ·rw [h.frozen (by simp)];exact World.frozen?_alloc_at _ _ _ _ (by simp)
 ·rw [h.frozen (by simp)];exact World.frozen?_alloc_at _ _ _ _ (by simp)
theorem rneg_any (u:Value) (x:Int) (L:Nat) (w:World) (h:Rval w u x L) (hL:L <= 1048576) :
  Calls Tryz.prog 79 #[u] w fun e w'=>(∃ ng A2 n2 c2,e = .returned (.agg #[.bool ng,.slice A2 n2 c2]) /\ Rval w' (.agg #[.bool ng,.slice A2 n2 c2]) (-x) L) /\ Below w.heap.size w w':=by
 obtain ⟨p,A,n,c,ds,rfl,hr,hd,ht,hz,hp,hn⟩:=h
 have hW:=below_two w (.cells #[.bool p,.slice A n c] 34) (.cells #[.bool false,.slice none 0 0] 34)
 have HROW:=Hd (hr.below hW)
 have HD:=Hd hd
 have HE:=Hd (show withSign (!p) (valR 65536 ds) = -x by rw [hz];cases p <;> simp [withSign])
 clear hr hd ht hz hp
 go_enter Tryz.func79,Tryz.ntmps79
 go_wp2_with fail
 refine (rmade_any (!p) A n c ds _ HROW.out (by omega) HD.out).mono ?_
 rintro e w1 ⟨ng,A2,n2,c2,rfl,hv,hb⟩
 have hB:=hb.mono (B':=w.heap.size + 2) (by simp)
 have hB1:Below (w.heap.size + 1 + 1) ((w.alloc (.cells #[.bool p,.slice A n c] 34)).alloc (.cells #[.bool false,.slice none 0 0] 34)) w1:=hB
 obtain ⟨e1,e2,f1,f2⟩:=room31' hB1
 have HV:=Hd hv
 clear hv
 go_wp2
 refine bodyPost_ret (v:=.agg #[.bool ng,.slice A2 n2 c2]) (by simp [results,Tryz.results79,go_sem,e1,e2]) rfl ⟨⟨_,_,_,_,rfl,?_⟩,?_⟩
 ·rw [<- HE.out]
  obtain ⟨neg',A',n',c',ds',ev,r1,r2,r3,r4,r5,r6⟩:=HV.out.stored e1 e2 (.bool ng) (.slice A2 n2 c2)
  exact ⟨neg',A',n',c',ds',ev,r1,r2,r3,r4,r5,by omega⟩
 ·exact ((hW.trans (hB.mono (by omega))).setCell (by show _ <= _;simp) _).setCell (by show _ <= _;simp) _
theorem len_of_val {a b:List Int} (ha:DigR 65536 a) (hb:DigR 65536 b) (tb:Trimmed b) (h:valR 65536 b <= valR 65536 a) : b.length <= a.length:=by
 rcases Nat.lt_or_ge a.length b.length with h' | h'
 ·have:=valR_lt_of_length ha hb tb h';omega
 ·exact h'
theorem Rval.form {w:World} {v:Value} {z:Int} {L:Nat} (h:Rval w v z L) : ∃ ng A n c,v = .agg #[.bool ng,.slice A n c]:=by
 obtain ⟨ng,A,n,c,_,rfl,_⟩:=h
 exact ⟨ng,A,n,c,rfl⟩
theorem Rval.mono {w:World} {v:Value} {z:Int} {L L':Nat} (h:Rval w v z L) (hL:L <= L') : Rval w v z L':=by
 obtain ⟨ng,A,n,c,ds,e,r1,r2,r3,r4,r5,r6⟩:=h
 exact ⟨ng,A,n,c,ds,e,r1,r2,r3,r4,r5,Nat.le_trans r6 hL⟩
theorem bit_mid {s k r:Nat} {low d rest:Int} (h0:0 <= low) (h1:low < 2 ^ (s * k)) (hr:r < s) :
  (low + 2 ^ (s * k) * (d + 2 ^ s * rest)) / 2 ^ (s * k + r) % 2 = d / 2 ^ r % 2:=by
 have hp:=two_pos (s * k)
 rw [Int.pow_add,<- Int.ediv_ediv_of_nonneg (Int.le_of_lt hp),Int.add_mul_ediv_left _ _ (by omega),Int.ediv_eq_zero_of_lt h0 h1,Int.zero_add]
 have e:(2:Int) ^ s = 2 ^ r * (2 * 2 ^ (s - r - 1)):=by
  rw [<- Int.mul_assoc,Int.mul_comm (2 ^ r) 2,Int.mul_assoc,<- Int.pow_add,Int.mul_comm,<- Int.pow_succ];congr 1;omega
 have hq:=two_pos r
 rw [e,Int.mul_assoc,Int.add_mul_ediv_left _ _ (by omega),Int.mul_assoc,Int.add_mul_emod_self_left]
theorem bit_high {z:Int} {a i:Nat} (h0:0 <= z) (h:z < 2 ^ a) (hi:a <= i) : z / 2 ^ i % 2 = 0:=by
 have:=two_mono hi
 rw [Int.ediv_eq_zero_of_lt h0 (by omega)];rfl
theorem bit_val {xs:List Int} (hd:Dig xs) (i:Nat) : val xs / 2 ^ i % 2 = xs.getD (i / 32) 0 / 2 ^ (i % 32) % 2:=by
 by_cases h:i / 32 < xs.length
 ·have h1:=val_split xs (i / 32) (by omega)
  rw [drop_cons xs (i / 32) h,val_cons,BB_two] at h1
  have hb:=val_bounds (hd.take (i / 32))
  rw [List.length_take,Nat.min_eq_left (by omega),BB_two] at hb
  have e:BB = 2 ^ 32:=by decide
  rw [e] at h1
  rw [h1,show i = 32 * (i / 32) + i % 32 from by omega]
  rw [show (32 * (i / 32) + i % 32) / 32 = i / 32 from by omega,show (32 * (i / 32) + i % 32) % 32 = i % 32 from by omega]
  exact bit_mid hb.1 hb.2 (by omega)
 ·have hb:=val_bounds hd
  rw [BB_two] at hb
  rw [bit_high hb.1 hb.2 (by omega),getD_out _ _ (by omega)]
  simp
def bitOf (x i:Int) : Bool:=if i < 0 then false else (decide (patOf x / 2 ^ i.toNat % 2 = 1)) != decide (x < 0)
theorem patOf_of_nonneg {x:Int} (h:0 <= x) : patOf x = x:=by unfold patOf;rw [if_neg (by omega)]
theorem patOf_of_neg {x:Int} (h:x < 0) : patOf x = -1 - x:=by unfold patOf;rw [if_pos h]
def chosenOf (op:Int) (a b:Bool) : Bool:=decide (op / 2 ^ (2 * a.toNat + b.toNat) % 2 = 1)
def Bools (w:World) (base:Nat) (v:Value) (bs:List Bool) : Prop:=w.ownsRow base 4 1 v bs.length (bs.map Value.bool)
def BRow (w:World) (A:Option Addr) (n c:Nat) (bs:List Bool) : Prop:=
 bs.length = n /\ n <= c /\ (n ≠ 0 -> ∃ b o,A = some ⟨b,o,none⟩ /\ b < w.heap.size /\ ∀ i,i < n -> w.cell? ⟨b,o + i,none⟩ = some (.bool (bs.getD i false)))
theorem BRow.below {w w':World} {A:Option Addr} {n c:Nat} {bs:List Bool} (h:BRow w A n c bs) (hb:Below w.heap.size w w') : BRow w' A n c bs:=by
 refine ⟨h.1,h.2.1,fun hn=>?_⟩
 obtain ⟨b,o,rfl,hlt,hc⟩:=h.2.2 hn
 exact ⟨b,o,rfl,Nat.lt_of_lt_of_le hlt hb.size,fun i hi=>(hb.cell (p:=⟨b,o + i,none⟩) hlt).trans (hc i hi)⟩
theorem BRow.of_own {w:World} {base n:Nat} {v:Value} {bs:List Bool} (h:w.ownsRow base 4 1 v n (bs.map Value.bool)) : ∃ A c,v = .slice A n c /\ BRow w A n c bs:=by
 have hl:bs.length = n:=by have:=h.1;simpa using this
 have h0:=h
 rcases h.2 with ⟨h',hn0⟩ | ⟨g,cap,cur,h',hb,hg,hnc,hcm,hcs,htake⟩
 ·subst hn0
  exact ⟨none,0,h',hl,Nat.zero_le _,fun h=>absurd rfl h⟩
 ·subst h'
  refine ⟨_,_,rfl,hl,hnc,fun _=>⟨g,0,rfl,(Array.getElem?_eq_some_iff.1 hg).1,fun i hi=>?_⟩⟩
  rw [Nat.zero_add,h0.cellAt i (by omega)]
  simp [List.getD,hl,hi]
theorem owns_below {w w':World} {base n:Nat} {e:TypeId} {size:Nat} {v:Value} {l:List Value} (h:w.ownsRow base e size v n l) (hb:Below w.heap.size w w') : w'.ownsRow base e size v n l:=by
 obtain ⟨h1,h2⟩:=h
 refine ⟨h1,?_⟩
 rcases h2 with h2 | ⟨g',cap,cur,hv,hg,hh,r⟩
 ·exact .inl h2
 ·exact .inr ⟨g',cap,cur,hv,hg,(hb.block g' (Array.getElem?_eq_some_iff.1 hh).1).trans hh,r⟩
theorem Bools.snoc {w3:World} {base k:Nat} {v':Value} {bs:List Bool} {x:Bool} (hl:bs.length = k) (h:w3.ownsRow base 4 1 v' (k + 1) (bs.map Value.bool ++ [.bool x])) : Bools w3 base v' (bs ++ [x]):=by
 unfold Bools;rw [List.length_append,List.length_singleton,List.map_append,hl];exact h
theorem IsLen.lt {z:Int} {k:Nat} (h:IsLen z k) : z < 2 ^ k:=by
 rcases h with ⟨rfl,rfl⟩ | ⟨_,_,h⟩
 ·decide
 ·exact h
end Go.Proofs.YtbajnceoolkckaaGreat
