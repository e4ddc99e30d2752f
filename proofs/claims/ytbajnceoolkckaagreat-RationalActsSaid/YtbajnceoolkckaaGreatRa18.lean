/- Of the proof of RationalActs: Power, PatKit, ShiftV, RShift, Power2, Power3. -/
import Derived.Test.YtbajnceoolkckaaGreatRa17
open Go.Lib renaming hid → Hd
set_option maxRecDepth 100000
set_option maxHeartbeats 16000000
namespace Go.Proofs.YtbajnceoolkckaaGreat
open Go.RowKit LM
theorem and_one64 (m:Nat) (hm:m < 9223372036854775808) : bits BinOp.and IntKind.i64 (m:Int) 1 = ((m % 2:Nat) : Int):=by
 have h1:(BitVec.ofInt 64 (m:Int)).toNat = m:=by
  rw [BitVec.ofInt_natCast,BitVec.toNat_ofNat];exact Nat.mod_eq_of_lt (by omega)
 have h2:(BitVec.ofInt 64 (1:Int)).toNat = 1:=by decide
 show IntKind.i64.wrap ((BitVec.ofInt 64 (m:Int) &&& BitVec.ofInt 64 (1:Int)).toNat:Int) = _
 rw [BitVec.toNat_and,h1,h2,Nat.and_one_is_mod,IntKind.wrap_i64]
 omega
theorem half (n k:Nat) (hk:k ≠ 0) : n / 2 ^ (k - 1) / 2 = n / 2 ^ k:=by
 have e:2 ^ (k - 1) * 2 = 2 ^ k:=by rw [<- Nat.pow_succ];congr 1;omega
 rw [Nat.div_div_eq_div_mul,e]
theorem top_one {n bl:Nat} (h:IsLen (n:Int) bl) (hn:n ≠ 0) : 1 <= bl /\ n / 2 ^ (bl - 1) = 1:=by
 rcases h with ⟨h,_⟩ | ⟨h1,h2,h3⟩
 ·omega
 refine ⟨h1,?_⟩
 have a:2 ^ (bl - 1) <= n:=by exact_mod_cast h2
 have b:n < 2 ^ bl:=by exact_mod_cast h3
 have e:(2:Nat) ^ bl = 2 ^ (bl - 1) * 2:=by rw [<- Nat.pow_succ];congr 1;omega
 have hp:=Nat.two_pow_pos (bl - 1)
 have:=Nat.div_lt_of_lt_mul (show n < 2 ^ (bl - 1) * 2 by omega)
 have:=Nat.div_pos a hp
 omega
theorem power_num (u:Value) (a:Int) (L n:Nat) (w:World) (h:Num w u a L) (hn0:n ≠ 0) (hn:n <= 100000) (hnL:n * L <= 1000000) :
  Calls Tryz.prog 130 #[u,.int .i64 n] w fun e w'=>∃ r,e = .returned r /\ Num w' r (a ^ n) (n * L) /\ Below w.heap.size w w':=by
 obtain ⟨A,nn,c,xs,rfl,_⟩:=id h
 have HU:=Hd h
 clear h
 obtain ⟨hlen,hbl32⟩:=bitLen_is (n:Int) (by omega) (by omega)
 obtain ⟨bl,hbl⟩ : ∃ bl,Lib.bitLen ((n:Int)).toNat = bl:=⟨_,rfl⟩
 rw [hbl] at hlen hbl32
 obtain ⟨hb1,htop⟩:=top_one hlen hn0
 have HT:=Hd htop
 clear hlen htop
 have hcv:IntKind.u64.wrap (n:Int) = n:=by rw [IntKind.wrap_u64];omega
 go_enter Tryz.func130,Tryz.ntmps130
 go_wp2_with fail
 refine (Tryz.bits_Len (n:Int) _ (by omega) (by omega)).mono ?_
 rintro e w1 ⟨rfl,rfl⟩
 rw [hbl]
 go_wp2_with fail
 obtain ⟨wo,rfl⟩ : ∃ wo:World,wo = w1:=⟨_,rfl⟩
 go_loopw [5,6] (fun ov iv wr=>∃ k:Nat,iv = .int .i64 ((k:Int) - 1) /\ k < bl /\ Num wr ov (a ^ (n / 2 ^ k)) (n / 2 ^ k * L) /\ Below wo.heap.size wo wr) (fun _ iv _=>(intOf iv + 1).toNat)
 case atStart=>
  refine ⟨bl - 1,by congr 1;omega,by omega,?_,Below.refl _ _⟩
  rw [HT.out,Int.pow_one,Nat.one_mul]
  exact HU.out
 case round=>
  obtain ⟨k,rfl,hk,hnum,hb⟩:=hrel
  have HN:=Hd hnum
  have HB:=Hd hb
  obtain ⟨q,hq⟩ : ∃ q,n / 2 ^ k = q:=⟨_,rfl⟩
  rw [hq] at HN
  have hqn:q <= n:=by rw [<- hq];exact Nat.div_le_self _ _
  have hql:q * L <= 1000000:=Nat.le_trans (Nat.mul_le_mul_right L hqn) hnL
  have hbs:=hb.size
  clear hnum hb
  by_cases hk0:k = 0
  ·subst hk0
   have e:q = n:=by rw [<- hq];simp
   subst e
   have HN2:=HN
   clear hq
   go_wp2_with fail
   refine (clone_num _ _ _ _ HN2.out (by omega)).mono ?_
   rintro e w2 ⟨r,rfl,hr,hb2⟩
   have HR:=Hd hr
   clear hr
   go_wp2
   go_ret
   exact ⟨_,rfl,HR.out,HB.out.trans (hb2.mono hbs)⟩
  ·have hhalf:=half n k hk0
   rw [hq] at hhalf
   obtain ⟨m,hm⟩ : ∃ m,n / 2 ^ (k - 1) = m:=⟨_,rfl⟩
   rw [hm] at hhalf
   have hmn:m <= n:=by rw [<- hm];exact Nat.div_le_self _ _
   have q1:(0:Int) <= (k:Int) - 1:=by omega
   have q3:((k:Int) - 1).toNat = k - 1:=by omega
   have q4:(n:Int) / 2 ^ (k - 1) = (m:Int):=by rw [<- hm];simp
   have hbit:=and_one64 m (by omega)
   have HM:=Hd hm
   have hk1:k - 1 < bl:=by omega
   have hidx:(k:Int) - 1 - 1 = ((k - 1:Nat) : Int) - 1:=by omega
   by_cases hodd:m % 2 = 1
   ·have hc1:(bits BinOp.and IntKind.i64 (m:Int) 1 == 1) = true:=by rw [hbit,hodd];rfl
    have hmq:m = q + q + 1:=by omega
    have hlq:(q + q + 1) * L = q * L + q * L + L:=by rw [Nat.add_mul,Nat.add_mul,Nat.one_mul]
    have hml:m * L <= 1000000:=Nat.le_trans (Nat.mul_le_mul_right L hmn) hnL
    rw [hmq,hlq] at hml
    have HQ:=Hd hmq
    have HLQ:=Hd hlq
    clear hq hm hbit hmq hlq hhalf hodd
    go_wp2_with fail
    refine (multiply_num _ _ _ _ _ _ _ HN.out HN.out (by omega) (by omega)).mono ?_
    rintro e w2 ⟨r,rfl,hr,hb2⟩
    have HR:=Hd hr
    have HB2:=Hd (HB.out.trans (hb2.mono hbs))
    clear hr
    go_wp2_with fail
    refine (multiply_num _ _ _ _ _ _ _ HR.out (HU.out.below HB2.out) (by omega) (by omega)).mono ?_
    rintro e w3 ⟨r3,rfl,hr3,hb3⟩
    have HR3:=Hd hr3
    have HB3:=Hd (HB2.out.trans (hb3.mono HB2.out.size))
    clear hr3
    go_wp2_with fail
    refine ⟨⟨k - 1,rfl,hk1,?_,HB3.out⟩,by simp [intOf];omega⟩
    rw [HM.out,HQ.out,HLQ.out,Int.pow_succ,Int.pow_add]
    exact HR3.out
   ·have hc1:(bits BinOp.and IntKind.i64 (m:Int) 1 == 1) = false:=by rw [hbit,show m % 2 = 0 from by omega];rfl
    have hmq:m = q + q:=by omega
    have hlq:(q + q) * L = q * L + q * L:=Nat.add_mul _ _ _
    have HQ:=Hd hmq
    have HLQ:=Hd hlq
    clear hq hm hbit hmq hlq hhalf hodd
    go_wp2_with fail
    refine (multiply_num _ _ _ _ _ _ _ HN.out HN.out (by omega) (by omega)).mono ?_
    rintro e w2 ⟨r,rfl,hr,hb2⟩
    have HR:=Hd hr
    have HB2:=Hd (HB.out.trans (hb2.mono hbs))
    clear hr
    go_wp2_with fail
    refine ⟨⟨k - 1,rfl,hk1,?_,HB2.out⟩,by simp [intOf];omega⟩
    rw [HM.out,HQ.out,HLQ.out,Int.pow_add]
    exact HR.out
open Go.RowKit LM
theorem IsLen.le_of_lt {z:Int} {k N:Nat} (h:IsLen z k) (hz:z < 2 ^ N) : k <= N:=by
 rcases h with ⟨_,rfl⟩ | ⟨h1,h2,_⟩
 ·omega
 ·have:=two_lt (show (2:Int) ^ (k - 1) < 2 ^ N by omega)
  omega
def NewBox (wk:World) (l:List (Nat × Int × Nat)) (z:Int) (L:Nat) (v:Value) (wx:World) : Prop:=
 ∃ b,v = .pointer (some ⟨b,0,none⟩) /\ Boxes wx ((b,z,L) :: l) /\ Below wk.heap.size wk wx
theorem NewBox.mk {wk wx:World} {l:List (Nat × Int × Nat)} {b:Nat} {z:Int} {L:Nat} (h:Boxes wk l) (hb:Below wk.heap.size wk wx) (hn:BoxV wx b z L) : NewBox wk l z L (.pointer (some ⟨b,0,none⟩)) wx:=by
 refine ⟨b,rfl,fun t ht=>?_,hb⟩
 rcases List.mem_cons.1 ht with rfl | ht
 ·exact hn
 ·exact (h t ht).below hb
open Go.RowKit LM
def TooFar (x t:Int) : Prop:=0 < t /\ x ≠ 0 /\ ∃ k:Nat,IsLen (patOf x) k /\ 65536 < (k:Int) + t
def ShiftV (x t z err:Int) : Prop:=TooFar x t /\ z = 0 /\ err = 14 \/ ¬ TooFar x t /\ z = shiftOf x t /\ err = 0
theorem ShiftV.same {x t z err z' err':Int} (h:ShiftV x t z err) (g:ShiftV x t z' err') : z' = z /\ err' = err:=by
 rcases h with ⟨a,rfl,rfl⟩ | ⟨a,rfl,rfl⟩ <;> rcases g with ⟨b,rfl,rfl⟩ | ⟨b,rfl,rfl⟩
 ·exact ⟨rfl,rfl⟩
 ·exact absurd a b
 ·exact absurd b a
 ·exact ⟨rfl,rfl⟩
open Go.RowKit LM
theorem IsLen.some {z:Int} (h0:0 <= z) : ∃ k,IsLen z k:=by
 have key:∀ N:Nat,∀ z:Int,0 <= z -> z < 2 ^ N -> ∃ k,IsLen z k:=by
  intro N
  induction N with
  | zero=>intro z h0 h1;exact ⟨0,.inl ⟨by simp at h1;omega,rfl⟩⟩
  | succ N ih=>
   intro z h0 h1
   by_cases hz:z < 2 ^ N
   ·exact ih z h0 hz
   ·exact ⟨N + 1,.inr ⟨by omega,by rw [Nat.add_sub_cancel];omega,h1⟩⟩
 have hlt:=Nat.lt_two_pow_self (n:=z.toNat)
 refine key z.toNat z h0 ?_
 have e:(((2:Nat) ^ z.toNat:Nat) : Int) = (2:Int) ^ z.toNat:=by simp
 rw [<- e];omega
theorem sh_hold {w w':World} {p:Bool} {A:Option Addr} {n c:Nat} (h:Below (w.heap.size + 2) ((w.alloc (.cells #[.bool p,.slice A n c] 34)).alloc (.cells #[.bool false,.slice none 0 0] 34)) w') :
  (w'.cell? ⟨w.heap.size,0,none⟩ = some (.bool p) /\ w'.cell? ⟨w.heap.size,1,none⟩ = some (.slice A n c)) /\
  (w'.cell? ⟨w.heap.size + 1,0,none⟩ = some (.bool false) /\ w'.cell? ⟨w.heap.size + 1,1,none⟩ = some (.slice none 0 0) /\ w'.frozen? ⟨w.heap.size + 1,0,none⟩ = false /\ w'.frozen? ⟨w.heap.size + 1,1,none⟩ = false):=by
 refine ⟨⟨?_,?_⟩,?_,?_,?_,?_⟩
 ·rw [h.cell (by simp),World.cell?_alloc_past _ _ _ (by simp),World.cell?_alloc_at _ _ _ _ rfl];rfl
 ·rw [h.cell (by simp),World.cell?_alloc_past _ _ _ (by simp),World.cell?_alloc_at _ _ _ _ rfl];rfl
 ·rw [h.cell (by simp),World.cell?_alloc_at _ _ _ _ (by simp)];rfl
 ·rw [h.cell (by simp),World.cell?_alloc_at _ _ _ _ (by simp)];rfl
 ·rw [h.frozen (by simp)];exact World.frozen?_alloc_at _ _ _ _ (by simp)
 ·rw [h.frozen (by simp)];exact World.frozen?_alloc_at _ _ _ _ (by simp)
open Go.RowKit LM
theorem exists_len {z:Int} (h:0 <= z) : ∃ k,IsLen z k:=by
 by_cases h0:z = 0
 ·exact ⟨0,.inl ⟨h0,rfl⟩⟩
 obtain ⟨Z,rfl⟩:=Int.eq_ofNat_of_zero_le h
 have hz:Z ≠ 0:=by omega
 refine ⟨Nat.log2 Z + 1,.inr ⟨by omega,?_,?_⟩⟩
 ·have:=Nat.log2_self_le hz
  rw [Nat.add_sub_cancel]
  exact_mod_cast this
 ·have:=@Nat.lt_log2_self Z
  exact_mod_cast this
theorem patOf_nonneg (x:Int) : 0 <= patOf x:=by unfold patOf;split <;> omega
theorem neg_pow (a:Int) (n:Nat) : (-a) ^ n = if n % 2 = 1 then -(a ^ n) else a ^ n:=by
 induction n with
 | zero=>simp
 | succ n ih=>
  rw [Int.pow_succ,ih,Int.pow_succ]
  rcases Nat.mod_two_eq_zero_or_one n with h | h
  ·rw [if_neg (by omega),if_pos (by omega)];exact Int.mul_neg _ _
  ·rw [if_pos h,if_neg (by omega)];exact Int.neg_mul_neg _ _
theorem withSign_pow (p:Bool) (a:Int) (n:Nat) : withSign (p && decide (n % 2 = 1)) (a ^ n) = withSign p a ^ n:=by
 cases p with
 | false=>simp [withSign]
 | true=>
  simp only [withSign,Bool.true_and,if_true]
  rw [neg_pow]
  by_cases h:n % 2 = 1 <;> simp [h]
theorem pow_mono_base {a b:Int} (h0:0 <= a) (h:a <= b) (n:Nat) : a ^ n <= b ^ n:=by
 induction n with
 | zero=>simp
 | succ n ih=>
  rw [Int.pow_succ,Int.pow_succ]
  exact Int.mul_le_mul ih h h0 (Int.pow_nonneg (by omega))
theorem too_large {p:Bool} {a:Int} {d n k:Nat} (hd:IsLen a d) (hd2:2 <= d) (h:65536 < (d - 1) * n) (hk:IsLen (patOf (withSign p a ^ n)) k) : 65536 < k:=by
 rcases hd with ⟨_,h'⟩ | ⟨_,h2,_⟩
 ·omega
 have h3:=pow_mono_base (Int.le_of_lt (two_pos (d - 1))) h2 n
 rw [<- Int.pow_mul] at h3
 have h4:=two_mono (show 65537 <= (d - 1) * n by omega)
 have h5:(2:Int) ^ 65537 = 2 ^ 65536 + 2 ^ 65536:=by rw [Int.pow_succ];omega
 have h6:=two_pos 65536
 have hpat:(2:Int) ^ 65536 <= patOf (withSign p a ^ n):=by
  rw [<- withSign_pow]
  unfold patOf withSign
  split <;> split <;> omega
 rcases hk with ⟨h',_⟩ | ⟨_,_,h8⟩
 ·omega
 ·exact two_lt (show (2:Int) ^ 65536 < 2 ^ k by omega)
theorem box28k {w w':World} {p:Bool} {u:Value} (h:Below (w.heap.size + 1) (w.alloc (.cells #[.bool p,u] 31)) w') : w'.cell? ⟨w.heap.size,0,none⟩ = some (.bool p) /\ w'.cell? ⟨w.heap.size,1,none⟩ = some u:=by
 refine ⟨?_,?_⟩
 ·rw [h.cell (by simp),World.cell?_alloc_at _ _ _ _ (by simp)];rfl
 ·rw [h.cell (by simp),World.cell?_alloc_at _ _ _ _ (by simp)];rfl
def PowAns (w:World) (v:Value) (z:Int) (err:Int) : Prop:=
 ∃ k,IsLen (patOf z) k /\ ((65536 < k /\ err = 14) \/ (k <= 65536 /\ err = 0 /\ Ival w v z 200000))
theorem Power_any (u:Value) (x:Int) (L n:Nat) (w:World) (h:Ival w u x L) (hL:L <= 100) (hn:n <= 2000) (hx:x <= -2 \/ 2 <= x) :
  Calls Tryz.prog 91 #[u,.int .i64 n] w fun e w'=>(∃ ng A2 n2 c2 err,e = .returned (.tuple #[.agg #[.bool ng,.slice A2 n2 c2],.int .i64 err]) /\ PowAns w' (.agg #[.bool ng,.slice A2 n2 c2]) (x ^ n) err) /\ Below w.heap.size w w':=by
 obtain ⟨p,A,m,c,rfl⟩:=h.form
 obtain ⟨a,ha,ha0,rfl,ha1⟩:=h.parts
 have hW:=below_two w (.cells #[.bool p,.slice A m c] 31) (.cells #[.bool false,.slice none 0 0] 31)
 have ha2:2 <= a:=by cases p <;> simp [withSign] at hx <;> omega
 have HA:=Hd ha
 have hB0:=Below.refl (w.heap.size + 2) ((w.alloc (.cells #[.bool p,.slice A m c] 31)).alloc (.cells #[.bool false,.slice none 0 0] 31))
 clear h ha ha1 hx
 by_cases hn0:n = 0
 ·subst hn0
  go_enter Tryz.func91,Tryz.ntmps91
  go_wp2_with fail
  refine (new_int 1 _ (by omega) (by omega)).mono ?_
  rintro e w1 ⟨r,rfl,hr,hb1⟩
  obtain ⟨ng,A2,n2,c2,rfl⟩:=hr.form
  have hB1:=hb1.mono (B':=w.heap.size + 2) (by simp)
  obtain ⟨e1,e2,f1,f2⟩:=room1 hB1
  have HR:=Hd hr
  clear hr
  go_wp2
  refine bodyPost_ret (v:=.tuple #[.agg #[.bool ng,.slice A2 n2 c2],.int .i64 0]) (by simp [results,Tryz.results91,go_sem,e1,e2]) rfl ⟨⟨_,_,_,_,0,rfl,1,?_,.inr ⟨by decide,rfl,?_⟩⟩,?_⟩
  ·exact .inr ⟨by decide,by simp [patOf],by simp [patOf]⟩
  ·rw [Int.pow_zero];exact (HR.out.stored e1 e2 _ _).mono (by decide)
  ·exact ((hW.trans (hB1.mono (by omega))).setCell (by show _ <= _;simp) _).setCell (by show _ <= _;simp) _
 ·have z0:((n:Int) == 0) = false:=by simp;omega
  have z1:¬ (n:Int) < 0:=by omega
  obtain ⟨k,hk⟩:=exists_len (patOf_nonneg (withSign p a ^ n))
  have HK:=Hd hk
  have hbit:=and_one64 n (by omega)
  have HSG:=Hd (withSign_pow p a n)
  clear hk
  go_enter Tryz.func91,Tryz.ntmps91
  go_wp2_with fail
  refine (length_num _ a L _ (HA.out.below hW) (by omega)).mono ?_
  rintro e w1 ⟨⟨d,rfl,hd,hdl⟩,rfl⟩
  have HD:=Hd hd
  have hd2:2 <= d:=by
   rcases hd with ⟨h',_⟩ | ⟨h1,_,h3⟩
   ·omega
   ·have:(2:Int) ^ 1 < 2 ^ d:=by omega
    have:=two_lt this
    omega
  clear hd
  obtain ⟨q,hq⟩ : ∃ q:Nat,(d - 1) * n = q:=⟨_,rfl⟩
  have hqi:((d:Int) - 1) * (n:Int) = (q:Int):=by
   rw [<- hq,Int.natCast_mul];congr 1;omega
  have hqb:q <= 100000000:=by
   rw [<- hq];exact Nat.le_trans (Nat.mul_le_mul (show d - 1 <= 3200 by omega) hn) (by decide)
  have z2:¬ (d:Int) <= 1:=by omega
  have z3:¬ (65537:Int) < (n:Int):=by omega
  have HQ:=Hd hq
  clear hq
  by_cases hlarge:(65536:Int) < (q:Int)
  ·have hkl:65536 < k:=too_large HD.out hd2 (by rw [HQ.out];omega) HK.out
   obtain ⟨e1,e2,f1,f2⟩:=room1 hB0
   go_wp2
   refine bodyPost_ret (v:=.tuple #[.agg #[.bool false,.slice none 0 0],.int .i64 14]) (by simp [results,Tryz.results91,go_sem,e1,e2]) rfl ⟨⟨_,_,_,_,14,rfl,k,HK.out,.inl ⟨hkl,rfl⟩⟩,?_⟩
   exact hW
  ·have hnL2:n * L <= 200000:=Nat.le_trans (Nat.mul_le_mul hn hL) (by decide)
   have hnL:n * L <= 1000000:=by omega
   cases p with
   | false=>
    have HSX:=Hd (show withSign false (a ^ n) = withSign false a ^ n by have:=HSG.out;rw [Bool.false_and] at this;exact this)
    go_wp2_with fail
    refine (power_num _ a L n _ (HA.out.below hW) hn0 (by omega) hnL).mono ?_
    rintro e w2 ⟨r2,rfl,hr2,hb2⟩
    have hB2:=hb2.mono (B':=w.heap.size + 2) (by simp)
    have HR2:=Hd hr2
    clear hr2
    go_wp2_with fail
    refine (signed_out false _ (a ^ n) (n * L) _ HR2.out (by omega)).mono ?_
    rintro e w3 ⟨ng,A2,n2,c2,rfl,hv,hb3⟩
    have hB3:=hB2.trans (hb3.mono (B':=w.heap.size + 2) (by have:=hB2.size;simp at this;omega))
    have hv2:=hv.mono hnL2
    rw [HSX.out] at hv2
    have HV:=Hd hv2
    have hs3:w.heap.size + 2 <= w3.heap.size:=by have:=hB3.size;simpa using this
    have hB4:=hB3.alloc hs3 (.cells #[.bool ng,.slice A2 n2 c2] 31)
    have hal:=below_alloc w3 (.cells #[.bool ng,.slice A2 n2 c2] 31)
    clear hv hv2
    go_wp2_with fail
    refine (Length_any _ _ 200000 _ (HV.out.below hal) (by omega)).mono ?_
    rintro e w4 ⟨⟨k4,rfl,hk4,_⟩,hb4⟩
    obtain rfl:k = k4:=HK.out.det hk4
    have hC4:=hb4.mono (B':=w3.heap.size + 1) (by simp)
    have hB5:=hB4.trans (hb4.mono (B':=w.heap.size + 2) (by simp;omega))
    obtain ⟨e1,e2,f1,f2⟩:=room1 hB5
    obtain ⟨g1,g2⟩:=box28k hC4
    have HV4:=Hd ((HV.out.below hal).below hb4)
    clear hk4
    by_cases hkl:(65536:Int) < (k:Int)
    ·go_wp2
     refine bodyPost_ret (v:=.tuple #[.agg #[.bool false,.slice none 0 0],.int .i64 14]) (by simp [results,Tryz.results91,go_sem,e1,e2]) rfl ⟨⟨_,_,_,_,14,rfl,k,HK.out,.inl ⟨by omega,rfl⟩⟩,?_⟩
     exact ((hW.trans (hB5.mono (by omega))).setCell (by show _ <= _;simp) _).setCell (by show _ <= _;simp) _
    ·go_wp2
     refine bodyPost_ret (v:=.tuple #[.agg #[.bool ng,.slice A2 n2 c2],.int .i64 0]) (by simp [results,Tryz.results91,go_sem,e1,e2]) rfl ⟨⟨_,_,_,_,0,rfl,k,HK.out,.inr ⟨by omega,rfl,?_⟩⟩,?_⟩
     ·exact HV4.out.stored e1 e2 _ _
     ·exact ((hW.trans (hB5.mono (by omega))).setCell (by show _ <= _;simp) _).setCell (by show _ <= _;simp) _
   | true=>
    by_cases hodd:n % 2 = 1
    ·have hc1:(bits BinOp.and IntKind.i64 (n:Int) 1 == 1) = true:=by rw [hbit,hodd];rfl
     have HSX:=Hd (show withSign true (a ^ n) = withSign true a ^ n by have:=HSG.out;rw [hodd] at this;exact this)
     clear hbit
     go_wp2_with fail
     refine (power_num _ a L n _ (HA.out.below hW) hn0 (by omega) hnL).mono ?_
     rintro e w2 ⟨r2,rfl,hr2,hb2⟩
     have hB2:=hb2.mono (B':=w.heap.size + 2) (by simp)
     have HR2:=Hd hr2
     clear hr2
     go_wp2_with fail
     refine (signed_out true _ (a ^ n) (n * L) _ HR2.out (by omega)).mono ?_
     rintro e w3 ⟨ng,A2,n2,c2,rfl,hv,hb3⟩
     have hB3:=hB2.trans (hb3.mono (B':=w.heap.size + 2) (by have:=hB2.size;simp at this;omega))
     have hv2:=hv.mono hnL2
     rw [HSX.out] at hv2
     have HV:=Hd hv2
     have hs3:w.heap.size + 2 <= w3.heap.size:=by have:=hB3.size;simpa using this
     have hB4:=hB3.alloc hs3 (.cells #[.bool ng,.slice A2 n2 c2] 31)
     have hal:=below_alloc w3 (.cells #[.bool ng,.slice A2 n2 c2] 31)
     clear hv hv2
     go_wp2_with fail
     refine (Length_any _ _ 200000 _ (HV.out.below hal) (by omega)).mono ?_
     rintro e w4 ⟨⟨k4,rfl,hk4,_⟩,hb4⟩
     obtain rfl:k = k4:=HK.out.det hk4
     have hC4:=hb4.mono (B':=w3.heap.size + 1) (by simp)
     have hB5:=hB4.trans (hb4.mono (B':=w.heap.size + 2) (by simp;omega))
     obtain ⟨e1,e2,f1,f2⟩:=room1 hB5
     obtain ⟨g1,g2⟩:=box28k hC4
     have HV4:=Hd ((HV.out.below hal).below hb4)
     clear hk4
     by_cases hkl:(65536:Int) < (k:Int)
     ·go_wp2
      refine bodyPost_ret (v:=.tuple #[.agg #[.bool false,.slice none 0 0],.int .i64 14]) (by simp [results,Tryz.results91,go_sem,e1,e2]) rfl ⟨⟨_,_,_,_,14,rfl,k,HK.out,.inl ⟨by omega,rfl⟩⟩,?_⟩
      exact ((hW.trans (hB5.mono (by omega))).setCell (by show _ <= _;simp) _).setCell (by show _ <= _;simp) _
     ·go_wp2
      refine bodyPost_ret (v:=.tuple #[.agg #[.bool ng,.slice A2 n2 c2],.int .i64 0]) (by simp [results,Tryz.results91,go_sem,e1,e2]) rfl ⟨⟨_,_,_,_,0,rfl,k,HK.out,.inr ⟨by omega,rfl,?_⟩⟩,?_⟩
      ·exact HV4.out.stored e1 e2 _ _
      ·exact ((hW.trans (hB5.mono (by omega))).setCell (by show _ <= _;simp) _).setCell (by show _ <= _;simp) _
    ·have hc1:(bits BinOp.and IntKind.i64 (n:Int) 1 == 1) = false:=by rw [hbit,show n % 2 = 0 from by omega];rfl
     have HSX:=Hd (show withSign false (a ^ n) = withSign true a ^ n by have:=HSG.out;rw [decide_eq_false hodd,Bool.and_false] at this;exact this)
     clear hbit
     go_wp2_with fail
     refine (power_num _ a L n _ (HA.out.below hW) hn0 (by omega) hnL).mono ?_
     rintro e w2 ⟨r2,rfl,hr2,hb2⟩
     have hB2:=hb2.mono (B':=w.heap.size + 2) (by simp)
     have HR2:=Hd hr2
     clear hr2
     go_wp2_with fail
     refine (signed_out false _ (a ^ n) (n * L) _ HR2.out (by omega)).mono ?_
     rintro e w3 ⟨ng,A2,n2,c2,rfl,hv,hb3⟩
     have hB3:=hB2.trans (hb3.mono (B':=w.heap.size + 2) (by have:=hB2.size;simp at this;omega))
     have hv2:=hv.mono hnL2
     rw [HSX.out] at hv2
     have HV:=Hd hv2
     have hs3:w.heap.size + 2 <= w3.heap.size:=by have:=hB3.size;simpa using this
     have hB4:=hB3.alloc hs3 (.cells #[.bool ng,.slice A2 n2 c2] 31)
     have hal:=below_alloc w3 (.cells #[.bool ng,.slice A2 n2 c2] 31)
     clear hv hv2
     go_wp2_with fail
     refine (Length_any _ _ 200000 _ (HV.out.below hal) (by omega)).mono ?_
     rintro e w4 ⟨⟨k4,rfl,hk4,_⟩,hb4⟩
     obtain rfl:k = k4:=HK.out.det hk4
     have hC4:=hb4.mono (B':=w3.heap.size + 1) (by simp)
     have hB5:=hB4.trans (hb4.mono (B':=w.heap.size + 2) (by simp;omega))
     obtain ⟨e1,e2,f1,f2⟩:=room1 hB5
     obtain ⟨g1,g2⟩:=box28k hC4
     have HV4:=Hd ((HV.out.below hal).below hb4)
     clear hk4
     by_cases hkl:(65536:Int) < (k:Int)
     ·go_wp2
      refine bodyPost_ret (v:=.tuple #[.agg #[.bool false,.slice none 0 0],.int .i64 14]) (by simp [results,Tryz.results91,go_sem,e1,e2]) rfl ⟨⟨_,_,_,_,14,rfl,k,HK.out,.inl ⟨by omega,rfl⟩⟩,?_⟩
      exact ((hW.trans (hB5.mono (by omega))).setCell (by show _ <= _;simp) _).setCell (by show _ <= _;simp) _
     ·go_wp2
      refine bodyPost_ret (v:=.tuple #[.agg #[.bool ng,.slice A2 n2 c2],.int .i64 0]) (by simp [results,Tryz.results91,go_sem,e1,e2]) rfl ⟨⟨_,_,_,_,0,rfl,k,HK.out,.inr ⟨by omega,rfl,?_⟩⟩,?_⟩
      ·exact HV4.out.stored e1 e2 _ _
      ·exact ((hW.trans (hB5.mono (by omega))).setCell (by show _ <= _;simp) _).setCell (by show _ <= _;simp) _
open Go.RowKit LM
theorem Power_bad (p:Bool) (A:Option Addr) (m c:Nat) (n:Int) (w:World) (h:n < 0) :
  Calls Tryz.prog 91 #[.agg #[.bool p,.slice A m c],.int .i64 n] w fun e w'=>e = .returned (.tuple #[.agg #[.bool false,.slice none 0 0],.int .i64 1]) /\ Below w.heap.size w w':=by
 have hW:=below_two w (.cells #[.bool p,.slice A m c] 31) (.cells #[.bool false,.slice none 0 0] 31)
 obtain ⟨e1,e2,f1,f2⟩:=room1 (Below.refl (w.heap.size + 2) ((w.alloc (.cells #[.bool p,.slice A m c] 31)).alloc (.cells #[.bool false,.slice none 0 0] 31)))
 go_enter Tryz.func91,Tryz.ntmps91
 go_wp2
 refine bodyPost_ret (v:=.tuple #[.agg #[.bool false,.slice none 0 0],.int .i64 1]) (by simp [results,Tryz.results91,go_sem,e1,e2]) rfl ⟨rfl,?_⟩
 exact hW
theorem one_pow_small {a:Int} (h0:0 <= a) (h1:a <= 1) {n:Nat} (hn:n ≠ 0) : a ^ n = a:=by
 have:a = 0 \/ a = 1:=by omega
 rcases this with rfl | rfl
 ·exact Int.zero_pow hn
 ·exact Int.one_pow
theorem Power_small (u:Value) (x:Int) (L n:Nat) (w:World) (h:Ival w u x L) (hL:L <= 100) (hn:n <= 9223372036854775807) (hn0:n ≠ 0) (hx:-1 <= x /\ x <= 1) :
  Calls Tryz.prog 91 #[u,.int .i64 n] w fun e w'=>(∃ ng A2 n2 c2,e = .returned (.tuple #[.agg #[.bool ng,.slice A2 n2 c2],.int .i64 0]) /\ Ival w' (.agg #[.bool ng,.slice A2 n2 c2]) (x ^ n) 2) /\ Below w.heap.size w w':=by
 obtain ⟨p,A,m,c,rfl⟩:=h.form
 obtain ⟨a,ha,ha0,rfl,ha1⟩:=h.parts
 have hW:=below_two w (.cells #[.bool p,.slice A m c] 31) (.cells #[.bool false,.slice none 0 0] 31)
 have ha2:a <= 1:=by cases p <;> simp [withSign] at hx <;> omega
 have HA:=Hd ha
 have hB0:=Below.refl (w.heap.size + 2) ((w.alloc (.cells #[.bool p,.slice A m c] 31)).alloc (.cells #[.bool false,.slice none 0 0] 31))
 have HP:=Hd (withSign_pow p a n)
 rw [one_pow_small ha0 ha2 hn0] at HP
 clear h ha ha1 hx
 have z0:((n:Int) == 0) = false:=by simp;omega
 have z1:¬ (n:Int) < 0:=by omega
 have hbit:=and_one64 n (by omega)
 go_enter Tryz.func91,Tryz.ntmps91
 go_wp2_with fail
 refine (length_num _ a L _ (HA.out.below hW) (by omega)).mono ?_
 rintro e w1 ⟨⟨d,rfl,hd,hdl⟩,rfl⟩
 have hd2:(d:Int) <= 1:=by
  rcases hd with ⟨h',rfl⟩ | ⟨h1,h2,h3⟩
  ·decide
  ·by_cases hdd:d <= 1
   ·omega
   ·have:=two_mono (show 1 <= d - 1 by omega)
    have e2:(2:Int) ^ 1 = 2:=by decide
    omega
 clear hd
 cases p with
 | false=>
  have HSX:=Hd (show withSign false a = withSign false a ^ n by have:=HP.out;rw [Bool.false_and] at this;exact this)
  clear HP
  go_wp2_with fail
  refine (low64_num _ a L _ (HA.out.below hW) (by omega) (by omega)).mono ?_
  rintro e w2 ⟨rfl,rfl⟩
  go_wp2_with fail
  refine (words64_any a _ ha0 (by omega)).mono ?_
  rintro e w3 ⟨r,rfl,hr,hb3⟩
  have HR:=Hd hr
  have hB3:=hB0.trans (hb3.mono (B':=w.heap.size + 2) (by simp))
  clear hr
  go_wp2_with fail
  refine (signed_out false _ a 2 _ HR.out (by decide)).mono ?_
  rintro e w4 ⟨ng,A2,n2,c2,rfl,hv,hb4⟩
  have hB4:=hB3.trans (hb4.mono (B':=w.heap.size + 2) (by have:=hB3.size;simp at this;omega))
  obtain ⟨e1,e2,f1,f2⟩:=room1 hB4
  have HV:=Hd hv
  clear hv
  go_wp2
  refine bodyPost_ret (v:=.tuple #[.agg #[.bool ng,.slice A2 n2 c2],.int .i64 0]) (by simp [results,Tryz.results91,go_sem,e1,e2]) rfl ⟨⟨_,_,_,_,rfl,?_⟩,?_⟩
  ·rw [<- HSX.out];exact HV.out.stored e1 e2 _ _
  ·exact ((hW.trans (hB4.mono (by omega))).setCell (by show _ <= _;simp) _).setCell (by show _ <= _;simp) _
 | true=>
  by_cases hodd:n % 2 = 1
  ·have hc1:(bits BinOp.and IntKind.i64 (n:Int) 1 == 1) = true:=by rw [hbit,hodd];rfl
   have HSX:=Hd (show withSign true a = withSign true a ^ n by have:=HP.out;rw [hodd] at this;exact this)
   clear hbit HP
   go_wp2_with fail
   refine (low64_num _ a L _ (HA.out.below hW) (by omega) (by omega)).mono ?_
   rintro e w2 ⟨rfl,rfl⟩
   go_wp2_with fail
   refine (words64_any a _ ha0 (by omega)).mono ?_
   rintro e w3 ⟨r,rfl,hr,hb3⟩
   have HR:=Hd hr
   have hB3:=hB0.trans (hb3.mono (B':=w.heap.size + 2) (by simp))
   clear hr
   go_wp2_with fail
   refine (signed_out true _ a 2 _ HR.out (by decide)).mono ?_
   rintro e w4 ⟨ng,A2,n2,c2,rfl,hv,hb4⟩
   have hB4:=hB3.trans (hb4.mono (B':=w.heap.size + 2) (by have:=hB3.size;simp at this;omega))
   obtain ⟨e1,e2,f1,f2⟩:=room1 hB4
   have HV:=Hd hv
   clear hv
   go_wp2
   refine bodyPost_ret (v:=.tuple #[.agg #[.bool ng,.slice A2 n2 c2],.int .i64 0]) (by simp [results,Tryz.results91,go_sem,e1,e2]) rfl ⟨⟨_,_,_,_,rfl,?_⟩,?_⟩
   ·rw [<- HSX.out];exact HV.out.stored e1 e2 _ _
   ·exact ((hW.trans (hB4.mono (by omega))).setCell (by show _ <= _;simp) _).setCell (by show _ <= _;simp) _
  ·have hc1:(bits BinOp.and IntKind.i64 (n:Int) 1 == 1) = false:=by rw [hbit,show n % 2 = 0 from by omega];rfl
   have HSX:=Hd (show withSign false a = withSign true a ^ n by have:=HP.out;rw [decide_eq_false hodd,Bool.and_false] at this;exact this)
   clear hbit HP
   go_wp2_with fail
   refine (low64_num _ a L _ (HA.out.below hW) (by omega) (by omega)).mono ?_
   rintro e w2 ⟨rfl,rfl⟩
   go_wp2_with fail
   refine (words64_any a _ ha0 (by omega)).mono ?_
   rintro e w3 ⟨r,rfl,hr,hb3⟩
   have HR:=Hd hr
   have hB3:=hB0.trans (hb3.mono (B':=w.heap.size + 2) (by simp))
   clear hr
   go_wp2_with fail
   refine (signed_out false _ a 2 _ HR.out (by decide)).mono ?_
   rintro e w4 ⟨ng,A2,n2,c2,rfl,hv,hb4⟩
   have hB4:=hB3.trans (hb4.mono (B':=w.heap.size + 2) (by have:=hB3.size;simp at this;omega))
   obtain ⟨e1,e2,f1,f2⟩:=room1 hB4
   have HV:=Hd hv
   clear hv
   go_wp2
   refine bodyPost_ret (v:=.tuple #[.agg #[.bool ng,.slice A2 n2 c2],.int .i64 0]) (by simp [results,Tryz.results91,go_sem,e1,e2]) rfl ⟨⟨_,_,_,_,rfl,?_⟩,?_⟩
   ·rw [<- HSX.out];exact HV.out.stored e1 e2 _ _
   ·exact ((hW.trans (hB4.mono (by omega))).setCell (by show _ <= _;simp) _).setCell (by show _ <= _;simp) _
end Go.Proofs.YtbajnceoolkckaaGreat
