/- Of the proof of RationalActs: BitWidth, RBitsAll, Booles. -/
import Derived.Test.YtbajnceoolkckaaGreatRa08
import Derived.Test.YtbajnceoolkckaaGreatRa04
import Derived.Lib.Tables
import Derived.Lib.BitFns
open Go.Lib renaming hid → Hd
set_option maxRecDepth 100000
set_option maxHeartbeats 16000000
namespace Go.Proofs.YtbajnceoolkckaaGreat
open Go.RowKit LM
theorem bit_mid {s k r:Nat} {low d rest:Int} (h0:0 <= low) (h1:low < 2 ^ (s * k)) (hr:r < s) :
  (low + 2 ^ (s * k) * (d + 2 ^ s * rest)) / 2 ^ (s * k + r) % 2 = d / 2 ^ r % 2:=by
 have hp:=two_pos (s * k)
 rw [Int.pow_add,<- Int.ediv_ediv_of_nonneg (Int.le_of_lt hp),Int.add_mul_ediv_left _ _ (by omega),Int.ediv_eq_zero_of_lt h0 h1,Int.zero_add]
 have e:(2:Int) ^ s = 2 ^ r * (2 * 2 ^ (s - r - 1)):=by
  rw [<- Int.mul_assoc,Int.mul_comm (2 ^ r) 2,Int.mul_assoc,<- Int.pow_add,Int.mul_comm,<- Int.pow_succ];congr 1;omega
 have hq:=two_pos r
 rw [e,Int.mul_assoc,Int.add_mul_ediv_left _ _ (by omega),Int.mul_assoc,Int.add_mul_emod_self_left]
theorem bit_high {z:Int} {a i:Nat} (h0:0 <= z) (h:z < 2 ^ a) (hi:a <= i) : z / 2 ^ i % 2 = 0:=by
 have:=two_mono hi
 rw [Int.ediv_eq_zero_of_lt h0 (by omega)];rfl
theorem bit_val {xs:List Int} (hd:Dig xs) (i:Nat) : val xs / 2 ^ i % 2 = xs.getD (i / 32) 0 / 2 ^ (i % 32) % 2:=by
 by_cases h:i / 32 < xs.length
 ·have h1:=val_split xs (i / 32) (by omega)
  rw [drop_cons xs (i / 32) h,val_cons,BB_two] at h1
  have hb:=val_bounds (hd.take (i / 32))
  rw [List.length_take,Nat.min_eq_left (by omega),BB_two] at hb
  have e:BB = 2 ^ 32:=by decide
  rw [e] at h1
  rw [h1,show i = 32 * (i / 32) + i % 32 from by omega]
  rw [show (32 * (i / 32) + i % 32) / 32 = i / 32 from by omega,show (32 * (i / 32) + i % 32) % 32 = i % 32 from by omega]
  exact bit_mid hb.1 hb.2 (by omega)
 ·have hb:=val_bounds hd
  rw [BB_two] at hb
  rw [bit_high hb.1 hb.2 (by omega),getD_out _ _ (by omega)]
  simp
def bitOf (x i:Int) : Bool:=if i < 0 then false else (decide (patOf x / 2 ^ i.toNat % 2 = 1)) != decide (x < 0)
theorem patOf_of_nonneg {x:Int} (h:0 <= x) : patOf x = x:=by unfold patOf;rw [if_neg (by omega)]
theorem patOf_of_neg {x:Int} (h:x < 0) : patOf x = -1 - x:=by unfold patOf;rw [if_pos h]
theorem cell31 {w w':World} {u:Value} {p:Bool} (h:Below (w.heap.size + 1) (w.alloc (.cells #[.bool p,u] 34)) w') :
  w'.cell? ⟨w.heap.size,0,none⟩ = some (.bool p) /\ w'.cell? ⟨w.heap.size,1,none⟩ = some u /\ Below (w.heap.size + 1) (w.alloc (.cells #[.bool p,u] 34)) w':=
 ⟨(box31 h).1,(box31 h).2,h⟩
open Go.RowKit LM
theorem top_lenR {xs:List Int} {n:Nat} {t:Int} {b:Nat} (hd:DigR 65536 xs) (hl:xs.length = n) (hn:n ≠ 0) (ht:xs.getD (n - 1) 0 = t) (hb:IsLen t b) (ht0:t ≠ 0) : IsLen (valR 65536 xs) (16 * (n - 1) + b):=by
 rcases hb with ⟨h,_⟩ | ⟨b1,b2,b3⟩
 ·exact absurd h ht0
 have e16:∀ k:Nat,(65536:Int) ^ k = 2 ^ (16 * k):=fun k=>by rw [Int.pow_mul];rfl
 have e:=valR_take_succ 65536 xs (n - 1)
 rw [show n - 1 + 1 = n from by omega,List.take_of_length_le (by omega),ht,e16] at e
 have h0:=valR_nonneg (by decide:(0:Int) <= 65536) (hd.take (n - 1))
 have h1:=valR_lt (by decide:(1:Int) <= 65536) (hd.take (n - 1))
 rw [List.length_take,hl,Nat.min_eq_left (by omega),e16] at h1
 generalize valR 65536 (xs.take (n - 1)) = r at *
 have hp:=two_pos (16 * (n - 1))
 refine .inr ⟨by omega,?_,?_⟩
 ·rw [show 16 * (n - 1) + b - 1 = 16 * (n - 1) + (b - 1) from by omega,Int.pow_add,e]
  have:=Int.mul_le_mul_of_nonneg_left b2 (Int.le_of_lt hp)
  omega
 ·rw [Int.pow_add,e]
  have:=Int.mul_le_mul_of_nonneg_left (show t + 1 <= 2 ^ b by omega) (Int.le_of_lt hp)
  rw [Int.mul_add,Int.mul_one] at this
  omega
def HalfRel (t y:Int) (j:Nat) : Prop:=0 <= y /\ y < 65536 /\ ∀ b,IsLen y b -> IsLen t (j + b)
theorem IsLen.double {y:Int} {b:Nat} (hy:0 < y) (h:IsLen (y / 2) b) : IsLen y (b + 1):=by
 rcases h with ⟨h,rfl⟩ | ⟨b1,b2,b3⟩
 ·exact .inr ⟨by omega,by simp;omega,by simp;omega⟩
 ·have e:(2:Int) ^ b = 2 * 2 ^ (b - 1):=by rw [Int.mul_comm,<- Int.pow_succ];congr 1;omega
  have e2:(2:Int) ^ (b + 1) = 2 * 2 ^ b:=by rw [Int.mul_comm,<- Int.pow_succ]
  refine .inr ⟨by omega,?_,?_⟩
  ·rw [Nat.add_sub_cancel,e];omega
  ·rw [e2];omega
theorem width_any (p:Bool) (A:Option Addr) (n c:Nat) (xs:List Int) (w:World) (h:Row .i64 w A n c xs) (hd:DigR 65536 xs) (ht:Trimmed xs) (hn:n <= 1048576) :
  Calls Tryz.prog 85 #[.agg #[.bool p,.slice A n c]] w fun e w'=>(∃ k:Nat,e = .returned (.int .i64 k) /\ IsLen (valR 65536 xs) k /\ k <= 16 * n) /\ Below w.heap.size w w':=by
 have hW:=below_alloc w (.cells #[.bool p,.slice A n c] 34)
 by_cases hn0:n = 0
 ·have hz:xs = []:=List.eq_nil_of_length_eq_zero (by rw [h.1];exact hn0)
  have HZ:=Hd (show IsLen (valR 65536 xs) 0 from .inl ⟨by rw [hz];rfl,rfl⟩)
  subst hn0
  clear h hd ht hz
  go_enter Tryz.func85,Tryz.ntmps85
  go_wp2_with fail
  go_ret
  exact ⟨⟨0,rfl,HZ.out,Nat.zero_le _⟩,hW⟩
 ·obtain ⟨b,o,rfl,hbx,hx⟩:=(h.below hW).2.2 hn0
  obtain ⟨t,et⟩ : ∃ t,xs.getD (n - 1) 0 = t:=⟨_,rfl⟩
  have hx1:(w.alloc (.cells #[.bool p,.slice (some ⟨b,o,none⟩) n c] 34)).cell? ⟨b,o + (n - 1),none⟩ = some (.int .i64 t):=by rw [<- et];exact hx (n - 1) (by omega)
  have ht0:t ≠ 0:=by
   rcases ht with h' | h'
   ·rw [h.1] at h';exact absurd h' hn0
   ·rw [h.1,et] at h';exact h'
  have bt:=hd.getD (n - 1)
  rw [et] at bt
  obtain ⟨bt0,bt1⟩:=bt
  have HTOP:=Hd (fun (k:Nat) (hk:IsLen t k)=>top_lenR hd h.1 hn0 et hk ht0)
  have z2:((n:Int) == 0) = false:=by simp;omega
  have q1:(0:Int) <= (n:Int) - 1:=by omega
  have q2:(n:Int) - 1 < (n:Int):=by omega
  have q3:((n:Int) - 1).toNat = n - 1:=by omega
  obtain ⟨s,hs⟩ : ∃ s:Nat,16 * (n - 1) = s:=⟨_,rfl⟩
  have q4:IntKind.i64.wrap (16 * ((n:Int) - 1)) = (s:Int):=by rw [IntKind.wrap_i64];omega
  have HS:=Hd hs
  have hsb:s <= 16777216:=by omega
  clear h hd ht hx et hs
  go_enter Tryz.func85,Tryz.ntmps85
  go_wp2_with fail
  go_loopw [3,4] (fun nv tv wr=>∃ (j:Nat) (y:Int),nv = .int .i64 ((s:Int) + j) /\ tv = .int .i64 y /\ j <= 16 /\ y < 2 ^ (16 - j) /\ Hid (HalfRel t y j) /\ (w.alloc (.cells #[.bool p,.slice (some ⟨b,o,none⟩) n c] 34)) = wr) (fun _ tv _=>(intOf tv).toNat)
  case atStart=>exact ⟨0,t,by simp,rfl,by decide,by simpa using bt1,Hd ⟨bt0,bt1,fun b h=>by rw [Nat.zero_add];exact h⟩,rfl⟩
  case round=>
   obtain ⟨j,y,rfl,rfl,hj,hyj,HH,rfl⟩:=hrel
   obtain ⟨y0,y1,-⟩:=HH.out
   have HYJ:=Hd hyj
   clear hyj
   by_cases hy:0 < y
   ·have hj16:j < 16:=by
     rcases Nat.lt_or_ge j 16 with h' | h'
     ·exact h'
     ·have e:=HYJ.out;rw [show 16 - j = 0 from by omega] at e;simp at e;omega
    have t1:y.tdiv 2 = y / 2:=Int.tdiv_eq_ediv_of_nonneg y0
    have t2:IntKind.i64.wrap (y / 2) = y / 2:=by rw [IntKind.wrap_i64];omega
    have t3:IntKind.i64.wrap ((s:Int) + j + 1) = (s:Int) + ((j + 1:Nat) : Int):=by rw [IntKind.wrap_i64];omega
    go_wp2_with fail
    refine ⟨⟨j + 1,y / 2,rfl,rfl,hj16,?_,Hd ⟨by omega,by omega,fun bb hbb=>?_⟩,trivial⟩,by simp [intOf];omega⟩
    ·have e:(2:Int) ^ (16 - j) = 2 * 2 ^ (16 - (j + 1)):=by rw [Int.mul_comm,<- Int.pow_succ];congr 1;omega
     have:=HYJ.out
     rw [e] at this;omega
    ·have:=HH.out.2.2 (bb + 1) (hbb.double hy)
     rw [show j + 1 + bb = j + (bb + 1) from by omega];exact this
   ·obtain rfl:y = 0:=by omega
    have hlen:=HTOP.out j (by have:=HH.out.2.2 0 (.inl ⟨rfl,rfl⟩);rw [Nat.add_zero] at this;exact this)
    rw [HS.out] at hlen
    have HLEN:=Hd hlen
    clear hlen
    go_wp2_with fail
    go_ret
    exact ⟨⟨s + j,by rw [Int.natCast_add];rfl,HLEN.out,by have:=HS.out;omega⟩,hW⟩
theorem width_val (v:Value) (x:Int) (L:Nat) (w:World) (h:Rval w v x L) (hx:0 <= x) (hL:L <= 1048576) :
  Calls Tryz.prog 85 #[v] w fun e w'=>(∃ k:Nat,e = .returned (.int .i64 k) /\ IsLen x k /\ k <= 16 * L) /\ Below w.heap.size w w':=by
 obtain ⟨p,A,n,c,ds,rfl,hr,hd,ht,hz,hp,hn⟩:=h
 have hv:valR 65536 ds = x:=by
  cases p with
  | false=>rw [hz];simp [withSign]
  | true=>
   have h0:=valR_nonneg (by decide:(0:Int) <= 65536) hd
   have:=hp rfl
   simp [withSign] at hz;omega
 refine (width_any p A n c ds w hr hd ht (by omega)).mono ?_
 rintro e w' ⟨⟨k,he,hk,hkn⟩,hb⟩
 exact ⟨⟨k,he,by rw [<- hv];exact hk,by omega⟩,hb⟩
theorem width_abs (v:Value) (x:Int) (L:Nat) (w:World) (h:Rval w v x L) (hL:L <= 1048576) :
  Calls Tryz.prog 85 #[v] w fun e w'=>(∃ k:Nat,e = .returned (.int .i64 k) /\ IsLen (if x < 0 then -x else x) k /\ k <= 16 * L) /\ Below w.heap.size w w':=by
 obtain ⟨p,A,n,c,ds,rfl,hr,hd,ht,hz,hp,hn⟩:=h
 have h0:=valR_nonneg (by decide:(0:Int) <= 65536) hd
 have hv:valR 65536 ds = if x < 0 then -x else x:=by
  cases p with
  | false=>simp [withSign] at hz;rw [if_neg (by omega),hz]
  | true=>have:=hp rfl;simp [withSign] at hz;rw [if_pos (by omega),hz];omega
 refine (width_any p A n c ds w hr hd ht (by omega)).mono ?_
 rintro e w' ⟨⟨k,he,hk,hkn⟩,hb⟩
 exact ⟨⟨k,he,by rw [<- hv];exact hk,by omega⟩,hb⟩
theorem rval_neg {w:World} {p:Bool} {A:Option Addr} {n c L:Nat} {x:Int} (h:Rval w (.agg #[.bool p,.slice A n c]) x L) : decide (x < 0) = p:=by
 obtain ⟨p',A',n',c',ds,e,hr,hd,ht,hz,hp,hn⟩:=h
 simp at e
 obtain ⟨rfl,-⟩:=e
 have h0:=valR_nonneg (by decide:(0:Int) <= 65536) hd
 rw [hz]
 cases p with
 | false=>simp [withSign];omega
 | true=>have:=hp rfl;simp [withSign];omega
theorem rLength_any (v:Value) (x:Int) (L:Nat) (w:World) (h:Rval w v x L) (hL:L <= 400000) :
  Calls Tryz.prog 28 #[v] w fun e w'=>(∃ k:Nat,e = .returned (.int .i64 k) /\ IsLen (patOf x) k /\ k <= 16 * (L + 65)) /\ Below w.heap.size w w':=by
 obtain ⟨p,A,n,c,rfl⟩:=h.form
 have hW:=below_alloc w (.cells #[.bool p,.slice A n c] 34)
 have hp:=rval_neg h
 have HH:=Hd h
 clear h
 cases p with
 | false=>
  have hx:¬ x < 0:=by simpa using hp
  have HPAT:=Hd (show (if x < 0 then -x else x) = patOf x by unfold patOf;rw [if_neg hx,if_neg hx])
  go_enter Tryz.func28,Tryz.ntmps28
  go_wp2_with fail
  refine (width_abs _ x L _ (HH.out.below hW) (by omega)).mono ?_
  rintro e w1 ⟨⟨k,rfl,hk,hkl⟩,hb⟩
  have HK:=Hd hk
  clear hk
  go_wp2
  go_ret
  exact ⟨⟨k,rfl,by rw [<- HPAT.out];exact HK.out,by omega⟩,hW.trans (hb.mono hW.size)⟩
 | true=>
  have hx:x < 0:=by simpa using hp
  have HPAT:=Hd (show (if x + 1 < 0 then -(x + 1) else x + 1) = patOf x by unfold patOf;rw [if_pos hx];split <;> omega)
  have hB0:=(Below.refl (w.heap.size + 1) (w.alloc (.cells #[.bool true,.slice A n c] 34))).drew
  go_enter Tryz.func28,Tryz.ntmps28
  go_wp2_with fail
  go_region_held3 (fun w'=>w'.cell? ⟨w.heap.size,0,none⟩ = some (.bool true) /\ w'.cell? ⟨w.heap.size,1,none⟩ = some (.slice A n c) /\ Below (w.heap.size + 1) (w.alloc (.cells #[.bool true,.slice A n c] 34)) w')
   (first | (with_reducible exact cell31 hB3) | (with_reducible exact cell31 hB2) | (with_reducible exact cell31 hB1) | (with_reducible exact cell31 hB0))
   (first
    | (go_at_call 85;have hK:=hB2;clear hK;refine (width_abs _ (x + 1) _ _ HV2.out (by omega)).mono ?_;rintro e w3 ⟨⟨k,rfl,hk,hkl⟩,hb3⟩;have hB3:=Below.trans hB2 (hb3.mono (B':=w.heap.size + 1) (by have:=hB2.size;simpa using this));have HK:=Hd hk;clear hk)
    | (go_at_call 86;have hK:=hB1;clear hK;refine (radd_any _ _ x 1 L 64 _ (HH.out.below (hW.trans (hB1.mono (by omega)))) HV1.out (by omega) (by decide)).mono ?_;rintro e w2 ⟨⟨ng2,A2,n2,c2,rfl,hv2⟩,hb2⟩;have hB2:=Below.trans hB1 (hb2.mono (B':=w.heap.size + 1) (by have:=hB1.size;simpa using this));have HV2:=Hd hv2;clear hv2)
    | (go_at_call 87;refine (rnew_any 1 _ (by decide) (by decide)).mono ?_;rintro e w1 ⟨⟨ng1,A1,n1,c1,rfl,hv1⟩,hb1⟩;have hB1:=Below.trans hB0 (hb1.mono (B':=w.heap.size + 1) (by simp));have HV1:=Hd hv1;clear hv1))
  go_wp2
  go_ret
  exact ⟨⟨k,rfl,by rw [<- HPAT.out];exact HK.out,by omega⟩,hW.trans (hB3.mono (by omega))⟩
open Go.RowKit LM
def chosenOf (op:Int) (a b:Bool) : Bool:=decide (op / 2 ^ (2 * a.toNat + b.toNat) % 2 = 1)
def Bools (w:World) (base:Nat) (v:Value) (bs:List Bool) : Prop:=w.ownsRow base 4 1 v bs.length (bs.map Value.bool)
def BRow (w:World) (A:Option Addr) (n c:Nat) (bs:List Bool) : Prop:=
 bs.length = n /\ n <= c /\ (n ≠ 0 -> ∃ b o,A = some ⟨b,o,none⟩ /\ b < w.heap.size /\ ∀ i,i < n -> w.cell? ⟨b,o + i,none⟩ = some (.bool (bs.getD i false)))
theorem BRow.below {w w':World} {A:Option Addr} {n c:Nat} {bs:List Bool} (h:BRow w A n c bs) (hb:Below w.heap.size w w') : BRow w' A n c bs:=by
 refine ⟨h.1,h.2.1,fun hn=>?_⟩
 obtain ⟨b,o,rfl,hlt,hc⟩:=h.2.2 hn
 exact ⟨b,o,rfl,Nat.lt_of_lt_of_le hlt hb.size,fun i hi=>(hb.cell (p:=⟨b,o + i,none⟩) hlt).trans (hc i hi)⟩
theorem BRow.of_own {w:World} {base n:Nat} {v:Value} {bs:List Bool} (h:w.ownsRow base 4 1 v n (bs.map Value.bool)) : ∃ A c,v = .slice A n c /\ BRow w A n c bs:=by
 have hl:bs.length = n:=by have:=h.1;simpa using this
 have h0:=h
 rcases h.2 with ⟨h',hn0⟩ | ⟨g,cap,cur,h',hb,hg,hnc,hcm,hcs,htake⟩
 ·subst hn0
  exact ⟨none,0,h',hl,Nat.zero_le _,fun h=>absurd rfl h⟩
 ·subst h'
  refine ⟨_,_,rfl,hl,hnc,fun _=>⟨g,0,rfl,(Array.getElem?_eq_some_iff.1 hg).1,fun i hi=>?_⟩⟩
  rw [Nat.zero_add,h0.cellAt i (by omega)]
  simp [List.getD,hl,hi]
open Go.RowKit LM
theorem owns_below {w w':World} {base n:Nat} {e:TypeId} {size:Nat} {v:Value} {l:List Value} (h:w.ownsRow base e size v n l) (hb:Below w.heap.size w w') : w'.ownsRow base e size v n l:=by
 obtain ⟨h1,h2⟩:=h
 refine ⟨h1,?_⟩
 rcases h2 with h2 | ⟨g',cap,cur,hv,hg,hh,r⟩
 ·exact .inl h2
 ·exact .inr ⟨g',cap,cur,hv,hg,(hb.block g' (Array.getElem?_eq_some_iff.1 hh).1).trans hh,r⟩
theorem Bools.snoc {w3:World} {base k:Nat} {v':Value} {bs:List Bool} {x:Bool} (hl:bs.length = k) (h:w3.ownsRow base 4 1 v' (k + 1) (bs.map Value.bool ++ [.bool x])) : Bools w3 base v' (bs ++ [x]):=by
 unfold Bools;rw [List.length_append,List.length_singleton,List.map_append,hl];exact h
open Go.RowKit LM
open Go.RowKit LM
open Go.RowKit LM
theorem IsLen.lt {z:Int} {k:Nat} (h:IsLen z k) : z < 2 ^ k:=by
 rcases h with ⟨rfl,rfl⟩ | ⟨_,_,h⟩
 ·decide
 ·exact h
open Go.RowKit LM
theorem patOf_pos (x:Int) : 0 <= patOf x:=by unfold patOf;split <;> omega
theorem flip_div (x:Int) (i:Nat) : (-1 - x) / 2 ^ i = -1 - x / 2 ^ i:=by
 have hp:=two_pos i
 have h1:=Int.emod_add_mul_ediv x (2 ^ i)
 have h2:=Int.emod_nonneg x (show (2:Int) ^ i ≠ 0 by omega)
 have h3:=Int.emod_lt_of_pos x hp
 generalize x / 2 ^ i = q at *
 generalize x % 2 ^ i = r at *
 generalize (2:Int) ^ i = p at *
 have e:-1 - x = (p - 1 - r) + p * (-1 - q):=by rw [<- h1,Int.mul_sub];omega
 rw [e,Int.add_mul_ediv_left _ _ (by omega),Int.ediv_eq_zero_of_lt (by omega) (by omega),Int.zero_add]
theorem bitOf_two (x:Int) (i:Nat) : bitOf x (i:Int) = decide (x / 2 ^ i % 2 = 1):=by
 unfold bitOf
 rw [if_neg (by omega),Int.toNat_natCast]
 by_cases hx:x < 0
 ·rw [patOf_of_neg hx,flip_div,decide_eq_true hx]
  generalize x / 2 ^ i = q
  by_cases hq:q % 2 = 1
  ·have:¬ (-1 - q) % 2 = 1:=by omega
   simp [hq,this]
  ·have:(-1 - q) % 2 = 1:=by omega
   simp [hq,this]
 ·rw [patOf_of_nonneg (by omega),decide_eq_false hx];simp
theorem mod_succ (x:Int) (k:Nat) : x % 2 ^ (k + 1) = x % 2 ^ k + 2 ^ k * (x / 2 ^ k % 2):=by
 have hp:=two_pos k
 have h1:=Int.emod_add_mul_ediv x (2 ^ k)
 have h2:=Int.emod_nonneg x (show (2:Int) ^ k ≠ 0 by omega)
 have h3:=Int.emod_lt_of_pos x hp
 rw [Int.pow_succ]
 generalize x / 2 ^ k = q at *
 generalize x % 2 ^ k = r at *
 generalize (2:Int) ^ k = p at *
 have h4:=Int.emod_add_mul_ediv q 2
 have h5:q % 2 = 0 \/ q % 2 = 1:=by omega
 have e:x = (r + p * (q % 2)) + (p * 2) * (q / 2):=by
  rw [<- h1,Int.mul_assoc,Int.add_assoc,<- Int.mul_add,h4]
 rw [e,Int.add_mul_emod_self_left]
 apply Int.emod_eq_of_lt
 ·rcases h5 with h | h <;> rw [h] <;> omega
 ·rcases h5 with h | h <;> rw [h] <;> omega
theorem mod_ext {x y:Int} (h:∀ i:Nat,x / 2 ^ i % 2 = y / 2 ^ i % 2) (k:Nat) : x % 2 ^ k = y % 2 ^ k:=by
 induction k with
 | zero=>simp [Int.emod_one]
 | succ k ih=>rw [mod_succ,mod_succ,ih,h]
theorem num_le {x y:Int} (hle:y <= x) (h:∀ i:Nat,x / 2 ^ i % 2 = y / 2 ^ i % 2) : x = y:=by
 have hk:=mod_ext h (x - y).natAbs
 have hlt:=Nat.lt_two_pow_self (n:=(x - y).natAbs)
 have e:(((2:Nat) ^ (x - y).natAbs:Nat) : Int) = (2:Int) ^ (x - y).natAbs:=by simp
 have e2:(((x - y).natAbs:Nat) : Int) = x - y:=by omega
 have hz:=Int.emod_eq_emod_iff_emod_sub_eq_zero.1 hk
 rw [Int.emod_eq_of_lt (by omega) (by rw [<- e];omega)] at hz
 omega
theorem num_ext {x y:Int} (h:∀ i:Nat,x / 2 ^ i % 2 = y / 2 ^ i % 2) : x = y:=by
 rcases Int.le_total y x with hl | hl
 ·exact num_le hl h
 ·exact (num_le hl fun i=>(h i).symm).symm
theorem bitOf_ext {x y:Int} (h:∀ i:Nat,bitOf x (i:Int) = bitOf y (i:Int)) : x = y:=by
 refine num_ext fun i=>?_
 have:=h i
 rw [bitOf_two,bitOf_two,decide_eq_decide] at this
 generalize x / 2 ^ i = a at *
 generalize y / 2 ^ i = b at *
 omega
theorem bitOf_high {x:Int} {k i:Nat} (h:patOf x < 2 ^ k) (hi:k <= i) : bitOf x (i:Int) = decide (x < 0):=by
 unfold bitOf;rw [if_neg (by omega),Int.toNat_natCast,bit_high (patOf_pos x) h hi];simp
theorem of_bits {P:Int} (bs:List Bool) (neg:Bool) (h0:0 <= P) (h1:P < 2 ^ bs.length) (hb:∀ i,i < bs.length -> decide (P / 2 ^ i % 2 = 1) = (bs.getD i false != neg)) (i:Nat) :
  bitOf (if neg then -1 - P else P) (i:Int) = if i < bs.length then bs.getD i false else neg:=by
 unfold bitOf;rw [if_neg (by omega),Int.toNat_natCast]
 have e:patOf (if neg then -1 - P else P) = P:=by cases neg <;> simp [patOf] <;> omega
 have s:decide ((if neg then -1 - P else P) < 0) = neg:=by cases neg <;> simp <;> omega
 rw [e,s]
 split
 ·rename_i hi
  rw [hb i hi];cases bs.getD i false <;> cases neg <;> rfl
 ·rw [bit_high h0 h1 (by omega)];cases neg <;> rfl
theorem testBit_int {a:Int} (h:0 <= a) (i:Nat) : a.toNat.testBit i = decide (a / 2 ^ i % 2 = 1):=by
 obtain ⟨n,rfl⟩:=Int.eq_ofNat_of_zero_le h
 rw [Int.toNat_natCast,Nat.testBit_eq_decide_div_mod_eq,decide_eq_decide]
 have e:((n / 2 ^ i % 2:Nat) : Int) = (n:Int) / 2 ^ i % 2:=by simp
 rw [<- e];omega
theorem low_bit (x:Int) {m j:Nat} (hj:j < m) : x % 2 ^ m / 2 ^ j % 2 = x / 2 ^ j % 2:=by
 have h1:=Int.emod_add_mul_ediv x (2 ^ m)
 have e:(2:Int) ^ m = 2 ^ j * (2 * 2 ^ (m - j - 1)):=by
  rw [<- Int.mul_assoc,Int.mul_comm (2 ^ j) 2,Int.mul_assoc,<- Int.pow_add,Int.mul_comm,<- Int.pow_succ];congr 1;omega
 have hq:=two_pos j
 generalize x % 2 ^ m = r at *
 generalize x / 2 ^ m = q at *
 rw [<- h1,e,Int.mul_assoc,Int.add_mul_ediv_left _ _ (by omega),Int.mul_assoc,Int.add_mul_emod_self_left]
theorem booled_bits {op x y z:Int} {k:Nat} (h:Booled op x y (k + 1) z) (h0:0 <= op) (hx:patOf x < 2 ^ (32 * k)) (hy:patOf y < 2 ^ (32 * k)) (i:Nat) :
  bitOf z (i:Int) = chosenOf op (bitOf x (i:Int)) (bitOf y (i:Int)):=by
 obtain ⟨wx,wy,os,lx,ly,lo,dx,dy,dz,vx,vy,hc,hz⟩:=h
 have inside:∀ j:Nat,j < 32 * (k + 1) -> decide (val os / 2 ^ j % 2 = 1) = chosenOf op (bitOf x (j:Int)) (bitOf y (j:Int)):=by
  intro j hj
  have c:=(hc (j / 32) (by omega)).2 (j % 32) (by omega)
  rw [testBit_int (dz.getD _).1,testBit_int (dx.getD _).1,testBit_int (dy.getD _).1,<- bit_val dz j,<- bit_val dx j,<- bit_val dy j,vx,vy,BB_two,low_bit x hj,low_bit y hj,testBit_int h0] at c
  rw [bitOf_two,bitOf_two,c];rfl
 have hb:=val_bounds dz
 rw [lo,BB_two] at hb
 have top:=inside (32 * k + 31) (by omega)
 rw [bitOf_high hx (by omega),bitOf_high hy (by omega),bit_val dz,show (32 * k + 31) / 32 = k from by omega,show (32 * k + 31) % 32 = 31 from by omega] at top
 have hd:=dz.getD k
 rw [BB_def] at hd
 rw [show k + 1 - 1 = k from rfl,BB_two] at hz
 have hs:decide (z < 0) = chosenOf op (decide (x < 0)) (decide (y < 0)):=by
  rw [<- top,decide_eq_decide]
  generalize os.getD k 0 = t at *
  generalize (2:Int) ^ (32 * (k + 1)) = M at *
  have e31:(2:Int) ^ 31 = 2147483648:=by decide
  rw [e31]
  split at hz <;> omega
 have hpz:patOf z < 2 ^ (32 * (k + 1)):=by
  unfold patOf
  generalize (2:Int) ^ (32 * (k + 1)) = M at *
  split at hz <;> split <;> omega
 by_cases hi:i < 32 * (k + 1)
 ·rw [<- inside i hi,bitOf_two]
  have e:z % 2 ^ (32 * (k + 1)) = val os % 2 ^ (32 * (k + 1)):=by
   rw [hz];split
   ·rw [show val os - 2 ^ (32 * (k + 1)) = val os + 2 ^ (32 * (k + 1)) * (-1) from by omega,Int.add_mul_emod_self_left]
   ·rfl
  rw [<- low_bit z hi,e,low_bit _ hi]
 ·rw [bitOf_high hpz (by omega),hs,bitOf_high hx (by omega),bitOf_high hy (by omega)]
theorem boole_same {op x y z P:Int} {k N:Nat} (h:Booled op x y (k + 1) z) (h0:0 <= op) (hx:patOf x < 2 ^ (32 * k)) (hy:patOf y < 2 ^ (32 * k)) (nx:patOf x < 2 ^ N) (ny:patOf y < 2 ^ N)
  (bs:List Bool) (hl:bs.length = N) (hbs:∀ i,i < N -> bs.getD i false = chosenOf op (bitOf x (i:Int)) (bitOf y (i:Int)))
  (p0:0 <= P) (p1:P < 2 ^ N) (hb:∀ i,i < N -> decide (P / 2 ^ i % 2 = 1) = (bs.getD i false != chosenOf op (decide (x < 0)) (decide (y < 0)))) :
  (if chosenOf op (decide (x < 0)) (decide (y < 0)) then -1 - P else P) = z:=by
 subst hl
 refine bitOf_ext fun i=>?_
 rw [of_bits bs _ p0 p1 hb,booled_bits h h0 hx hy]
 split
 ·rename_i hi;exact hbs i hi
 ·rw [bitOf_high nx (by omega),bitOf_high ny (by omega)]
open Go.RowKit LM
def pB:List Bool -> Bool -> Int
 | [],_=>0
 | b :: bs,s=>(if b != s then 1 else 0) + 2 * pB bs s
theorem pB_nonneg (bs:List Bool) (s:Bool) : 0 <= pB bs s:=by
 induction bs with
 | nil=>exact Int.le_refl _
 | cons b bs ih=>unfold pB;split <;> omega
theorem pB_lt (bs:List Bool) (s:Bool) : pB bs s < 2 ^ bs.length:=by
 induction bs with
 | nil=>simp [pB]
 | cons b bs ih=>unfold pB;rw [List.length_cons,Int.pow_succ];split <;> omega
theorem pB_bit (bs:List Bool) (s:Bool) : ∀ i,i < bs.length -> decide (pB bs s / 2 ^ i % 2 = 1) = (bs.getD i false != s):=by
 induction bs with
 | nil=>intro i hi;simp at hi
 | cons b bs ih=>
  intro i hi
  cases i with
  | zero=>
   unfold pB
   rw [Int.pow_zero,Int.ediv_one,List.getD_cons_zero]
   generalize pB bs s = t
   cases hb:(b != s)
   ·simp
   ·simp [show (1 + 2 * t) % 2 = 1 by omega]
  | succ i=>
   rw [List.getD_cons_succ,<- ih i (by simpa using hi)]
   have e:pB (b :: bs) s / 2 ^ (i + 1) = pB bs s / 2 ^ i:=by
    rw [Int.pow_succ,Int.mul_comm,<- Int.ediv_ediv_of_nonneg (by decide)]
    congr 1
    show ((if b != s then 1 else 0) + 2 * pB bs s) / 2 = pB bs s
    split <;> omega
   rw [e]
theorem emod_two_parts (x:Int) {p s:Int} (hp:0 < p) (hs:0 < s) : x % (p * s) = x % p + p * (x / p % s):=by
 have h1:=Int.emod_add_mul_ediv x p
 have h2:=Int.emod_nonneg x (show p ≠ 0 by omega)
 have h3:=Int.emod_lt_of_pos x hp
 generalize x / p = q at *
 generalize x % p = r at *
 have h4:=Int.emod_add_mul_ediv q s
 have h5:=Int.emod_nonneg q (show s ≠ 0 by omega)
 have h6:=Int.emod_lt_of_pos q hs
 generalize q / s = a at *
 generalize q % s = b at *
 have e:x = (r + p * b) + (p * s) * a:=by rw [<- h1,<- h4,Int.mul_add,Int.mul_assoc];omega
 rw [e,Int.add_mul_emod_self_left]
 have h7:=Int.mul_le_mul_of_nonneg_left (show b <= s - 1 by omega) (Int.le_of_lt hp)
 have h8:=Int.mul_nonneg (Int.le_of_lt hp) h5
 rw [Int.mul_sub] at h7
 exact Int.emod_eq_of_lt (by omega) (by omega)
def dig (P:Int) (m k:Nat) : Int:=P / 2 ^ (max (16 * k) m) % 2 ^ (16 * k + 16 - max (16 * k) m)
theorem dig_range (P:Int) (m k:Nat) : 0 <= dig P m k /\ dig P m k < 65536:=by
 unfold dig
 have hp:=two_pos (16 * k + 16 - max (16 * k) m)
 have hm:=two_mono (show 16 * k + 16 - max (16 * k) m <= 16 by omega)
 have e:(2:Int) ^ 16 = 65536:=by decide
 have h2:=Int.emod_nonneg (P / 2 ^ (max (16 * k) m)) (show (2:Int) ^ (16 * k + 16 - max (16 * k) m) ≠ 0 by omega)
 have h3:=Int.emod_lt_of_pos (P / 2 ^ (max (16 * k) m)) hp
 exact ⟨h2,by omega⟩
def digs (P:Int) (m K:Nat) : List Int:=(List.range K).map (dig P m)
theorem digs_getD (P:Int) (m K k:Nat) (h:k < K) : (digs P m K).getD k 0 = dig P m k:=by simp [digs,List.getD,h]
open Go.RowKit LM
def Own64 (w:World) (base g n:Nat) (xs:List Int) : Prop:=w.ownsRow base 3 1 (.slice (some ⟨g,0,none⟩) n n) n (xs.map (Value.int .i64))
theorem Own64.length {w:World} {base g n:Nat} {xs:List Int} (h:Own64 w base g n xs) : xs.length = n:=by have:=h.1;simpa using this
theorem Own64.cell {w:World} {base g n:Nat} {xs:List Int} (h:Own64 w base g n xs) {k:Nat} (hk:k < n) : w.cell? ⟨g,k,none⟩ = some (.int .i64 (xs.getD k 0)):=by
 have hl:=h.length
 rw [World.ownsRow.cellAt h k (by omega)]
 simp [List.getD,hl,hk]
theorem Own64.frozen {w:World} {base g n:Nat} {xs:List Int} (h:Own64 w base g n xs) (k:Nat) : w.frozen? ⟨g,k,none⟩ = false:=World.ownsRow.frozenAt h k
theorem Own64.set {w:World} {base g n:Nat} {xs:List Int} (h:Own64 w base g n xs) (k:Nat) (u:Int) : Own64 (w.setCell ⟨g,k,none⟩ (.int .i64 u)) base g n (xs.set k u):=by
 have:=(World.ownsRow.stored h k (.int .i64 u)).1
 rw [<- List.map_set] at this
 exact this
def OfRel (w1 wr:World) (g K n:Nat) (P:Int) (m:Nat) : Prop:=m <= n /\ Own64 wr g g K (digs P m K) /\ Below g w1 wr
theorem OfRel.cells {w1 wr:World} {g K n:Nat} {P:Int} {i:Nat} (h:OfRel w1 wr g K n P (i + 1)) (hK:K = n / 16 + 1) :
  ∃ d,dig P (i + 1) (i / 16) = d /\ (0 <= d /\ d < 65536) /\ wr.cell? ⟨g,i / 16,none⟩ = some (.int .i64 d) /\ wr.frozen? ⟨g,i / 16,none⟩ = false:=by
 obtain ⟨hm,ho,_⟩:=h
 refine ⟨_,rfl,dig_range P _ _,?_,ho.frozen _⟩
 rw [ho.cell (by omega),digs_getD _ _ _ _ (by omega)]
open Go.RowKit LM
open Go.RowKit LM
def combOf (op x y:Int) (N:Nat) : List Bool:=(List.range N).map (fun k:Nat=>chosenOf op (bitOf x (k:Int)) (bitOf y (k:Int)))
theorem combOf_getD (op x y:Int) (N i:Nat) (h:i < N) : (combOf op x y N).getD i false = chosenOf op (bitOf x (i:Int)) (bitOf y (i:Int)):=by
 unfold combOf;simp [List.getD,h]
theorem combOf_length (op x y:Int) (N:Nat) : (combOf op x y N).length = N:=by simp [combOf]
def RBooled (op x y z:Int) : Prop:=
 ∃ N:Nat,patOf x < 2 ^ N /\ patOf y < 2 ^ N /\ z = if chosenOf op (decide (x < 0)) (decide (y < 0)) then -1 - pB (combOf op x y N) (chosenOf op (decide (x < 0)) (decide (y < 0))) else pB (combOf op x y N) (chosenOf op (decide (x < 0)) (decide (y < 0)))
theorem RBooled.same {op x y z z':Int} {k:Nat} (h:Booled op x y (k + 1) z) (g:RBooled op x y z') (h0:0 <= op) (hx:patOf x < 2 ^ (32 * k)) (hy:patOf y < 2 ^ (32 * k)) : z' = z:=by
 obtain ⟨N,nx,ny,rfl⟩:=g
 have hl:=combOf_length op x y N
 exact boole_same h h0 hx hy nx ny (combOf op x y N) hl (fun i hi=>combOf_getD op x y N i hi) (pB_nonneg _ _) (by have:=pB_lt (combOf op x y N) (chosenOf op (decide (x < 0)) (decide (y < 0)));rwa [hl] at this) (fun i hi=>pB_bit _ _ i (by rw [hl];exact hi))
theorem IsLen.lt_of_le {z:Int} {k N:Nat} (h:IsLen z k) (hk:k <= N) : z < 2 ^ N:=by
 have:=h.lt
 have:=two_mono hk
 omega
open Go.RowKit LM
def BoolV (op x y z:Int) : Prop:=(op < 0 \/ 15 < op) /\ z = 0 \/ ¬ (op < 0 \/ 15 < op) /\ ∃ k,Booled op x y (k + 1) z /\ patOf x < 2 ^ (32 * k) /\ patOf y < 2 ^ (32 * k)
def RBoolV (op x y z:Int) : Prop:=(op < 0 \/ 15 < op) /\ z = 0 \/ ¬ (op < 0 \/ 15 < op) /\ RBooled op x y z
theorem RBoolV.same {op x y z z':Int} (h:BoolV op x y z) (g:RBoolV op x y z') : z' = z:=by
 rcases h with ⟨a,rfl⟩ | ⟨a,k,h1,h2,h3⟩
 ·rcases g with ⟨_,rfl⟩ | ⟨b,_⟩
  ·rfl
  ·exact absurd a b
 ·rcases g with ⟨b,_⟩ | ⟨_,g⟩
  ·exact absurd b a
  ·exact g.same h1 (by omega) h2 h3
theorem Ival.nought {w:World} {L:Nat} : Ival w (.agg #[.bool false,.slice none 0 0]) 0 L:=
 ⟨false,_,0,rfl,⟨none,0,0,[],rfl,Row.nil_,fun d h=>by simp at h,.inl rfl,rfl,Nat.zero_le _⟩,by omega,by simp [withSign],by simp⟩
theorem Rval.nought {w:World} {L:Nat} : Rval w (.agg #[.bool false,.slice none 0 0]) 0 L:=
 ⟨false,none,0,0,[],rfl,Row.nil_,fun d h=>by simp at h,.inl rfl,rfl,(fun h=>by cases h),Nat.zero_le _⟩
end Go.Proofs.YtbajnceoolkckaaGreat
