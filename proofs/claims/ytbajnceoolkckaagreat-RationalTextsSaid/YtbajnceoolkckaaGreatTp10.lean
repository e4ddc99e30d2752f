/- Of the proof of RationalTexts: Up. -/
import Derived.Test.YtbajnceoolkckaaGreatTp04
import Derived.Laws.Bits64b
open List renaming set_cons_zero → cZ, set_cons_succ → cS
open Go.Lib renaming hid → Hd
set_option maxRecDepth 100000
set_option maxHeartbeats 16000000
namespace Go.Proofs.YtbajnceoolkckaaGreat
open Go.RowKit LM
def UpRel (w wr:World) (n sk r:Nat) (xs:List Int) (i:Nat) (c:Int) : Prop:=
 i <= n /\ (0 <= c /\ c < 2 ^ r) /\ Below w.heap.size w wr /\ ∃ ds:List Int,ds.length = i /\ Dig ds /\ val ds + BB ^ i * c = val (xs.take i) * 2 ^ r /\
  Own wr w.heap.size w.heap.size (n + sk + 1) (List.replicate sk 0 ++ (ds ++ c :: List.replicate (n - i) 0))
theorem UpRel.cells {w wr:World} {n sk r:Nat} {xs:List Int} {i:Nat} {c:Int} (h:UpRel w wr n sk r xs i c) (hi:i < n) :
  wr.cell? ⟨w.heap.size,i + sk,none⟩ = some (.int .u32 c) /\ wr.frozen? ⟨w.heap.size,i + sk,none⟩ = false /\
  (∃ u,wr.cell? ⟨w.heap.size,i + sk + 1,none⟩ = some (.int .u32 u)) /\ wr.frozen? ⟨w.heap.size,i + sk + 1,none⟩ = false:=by
 obtain ⟨_,_,_,ds,hl,_,_,ho⟩:=h
 refine ⟨?_,ho.frozen _,⟨_,ho.cell (by omega)⟩,ho.frozen _⟩
 rw [ho.cell (by omega)]
 congr 2
 simp only [List.getD]
 rw [List.getElem?_append_right (by simp),List.length_replicate,Nat.add_sub_cancel,List.getElem?_append_right (by omega),hl,Nat.sub_self]
 rfl
theorem or_add {r:Nat} {c q:Int} (hr:r < 32) (hc:0 <= c /\ c < 2 ^ r) (hq:0 <= q /\ q < 2 ^ (32 - r)) : bits BinOp.or IntKind.u32 c (2 ^ r * q) = c + 2 ^ r * q:=by
 obtain ⟨C,rfl⟩:=Int.eq_ofNat_of_zero_le hc.1
 obtain ⟨Q,rfl⟩:=Int.eq_ofNat_of_zero_le hq.1
 have e:(2:Int) ^ r * (Q:Int) = ((2 ^ r * Q:Nat) : Int):=by rw [Int.natCast_mul,Int.natCast_pow];rfl
 have hC:C < 2 ^ r:=by have:=hc.2;exact_mod_cast this
 have hQ:Q < 2 ^ (32 - r):=by have:=hq.2;exact_mod_cast this
 have hP:2 ^ r * Q + 2 ^ r <= 4294967296:=by
  have h1:2 ^ r * (Q + 1) <= 2 ^ r * 2 ^ (32 - r):=Nat.mul_le_mul_left _ hQ
  rw [<- Nat.pow_add,show r + (32 - r) = 32 from by omega] at h1
  have:(2:Nat) ^ 32 = 4294967296:=by decide
  rw [Nat.mul_add,Nat.mul_one] at h1;omega
 rw [e,u32_or_nat _ _ (by omega) (by omega),Nat.or_comm,<- Nat.two_pow_add_eq_or_of_lt hC]
 rw [Int.natCast_add];omega
theorem UpRel.step {w wr:World} {n sk r:Nat} {xs:List Int} {i:Nat} {c x:Int} (h:UpRel w wr n sk r xs i c) (hi:i < n) (hr:r < 32) (hx:0 <= x /\ x < BB) (ex:xs.getD i 0 = x) :
  (0 <= x * 2 ^ r /\ x * 2 ^ r < 18446744073709551616) /\ bits BinOp.or IntKind.u32 c (x * 2 ^ r % 4294967296) = c + x * 2 ^ r % 4294967296 /\
  UpRel w ((wr.setCell ⟨w.heap.size,i + sk,none⟩ (.int .u32 (c + x * 2 ^ r % 4294967296))).setCell ⟨w.heap.size,i + sk + 1,none⟩ (.int .u32 (x * 2 ^ r / 4294967296))) n sk r xs (i + 1) (x * 2 ^ r / 4294967296):=by
 obtain ⟨_,hc,hb,ds,hl,hd,hv,ho⟩:=h
 have hp:=two_pos r
 have hp32:(2:Int) ^ r <= 2 ^ 31:=two_mono (by omega)
 have e31:(2:Int) ^ 31 = 2147483648:=by decide
 have v0:0 <= x * 2 ^ r:=Int.mul_nonneg hx.1 (by omega)
 have v1:x * 2 ^ r <= 4294967295 * 2 ^ r:=Int.mul_le_mul_of_nonneg_right (by rw [BB_def] at hx;omega) (by omega)
 -- the low part is a multiple of 2^r
 have e32:(4294967296:Int) = 2 ^ r * 2 ^ (32 - r):=by
  rw [<- Int.pow_add,show r + (32 - r) = 32 from by omega];decide
 have hlow:x * 2 ^ r % 4294967296 = 2 ^ r * (x % 2 ^ (32 - r)):=by
  rw [e32,Int.mul_comm x,Int.mul_emod_mul_of_pos _ _ hp]
 have hq0:0 <= x % 2 ^ (32 - r):=Int.emod_nonneg _ (by have:=two_pos (32 - r);omega)
 have hq1:x % 2 ^ (32 - r) < 2 ^ (32 - r):=Int.emod_lt_of_pos _ (two_pos _)
 have hor:=or_add hr hc ⟨hq0,hq1⟩
 have hsum:c + 2 ^ r * (x % 2 ^ (32 - r)) < 4294967296:=by
  have h1:2 ^ r * (x % 2 ^ (32 - r) + 1) <= 2 ^ r * 2 ^ (32 - r):=Int.mul_le_mul_of_nonneg_left (by omega) (by omega)
  rw [<- e32,Int.mul_add,Int.mul_one] at h1;omega
 have hhi:0 <= x * 2 ^ r / 4294967296 /\ x * 2 ^ r / 4294967296 < 2 ^ r:=⟨Int.ediv_nonneg v0 (by decide),Int.ediv_lt_of_lt_mul (by decide) (by rw [BB_def] at hx;omega)⟩
 rw [<- hlow] at hor hsum
 refine ⟨⟨v0,by omega⟩,hor,hi,hhi,(hb.setCell (Nat.le_refl _) _).setCell (Nat.le_refl _) _,ds ++ [c + x * 2 ^ r % 4294967296],by simp [hl],hd.snoc (by have:=Int.emod_nonneg (x * 2 ^ r) (show (4294967296:Int) ≠ 0 by decide);omega) (by rw [BB_def];omega),?_,?_⟩
 ·rw [val_snoc,hl,val_take_succ,ex,Int.add_mul,<- hv]
  have e1:=pow_split i (x * 2 ^ r % BB) (x * 2 ^ r / BB)
  rw [digit_split] at e1
  have e3:BB ^ i * (c + x * 2 ^ r % BB) = BB ^ i * c + BB ^ i * (x * 2 ^ r % BB):=Int.mul_add _ _ _
  have e4:BB ^ i * x * 2 ^ r = BB ^ i * (x * 2 ^ r):=Int.mul_assoc _ _ _
  rw [show (4294967296:Int) = BB from rfl,e3,e4]
  omega
 ·have s1:=ho.set (i + sk) (c + x * 2 ^ r % 4294967296)
  have s2:=s1.set (i + sk + 1) (x * 2 ^ r / 4294967296)
  have e:((List.replicate sk 0 ++ (ds ++ c :: List.replicate (n - i) 0)).set (i + sk) (c + x * 2 ^ r % 4294967296)).set (i + sk + 1) (x * 2 ^ r / 4294967296) =
    List.replicate sk 0 ++ ((ds ++ [c + x * 2 ^ r % 4294967296]) ++ x * 2 ^ r / 4294967296 :: List.replicate (n - (i + 1)) 0):=by
   have a1:(List.replicate sk 0 ++ (ds ++ c :: List.replicate (n - i) 0)).set (i + sk) (c + x * 2 ^ r % 4294967296) = List.replicate sk 0 ++ (ds ++ (c + x * 2 ^ r % 4294967296) :: List.replicate (n - i) 0):=by
    rw [List.set_append_right _ _ (by rw [List.length_replicate];omega),List.length_replicate,Nat.add_sub_cancel,List.set_append_right _ _ (by omega),hl,Nat.sub_self,cZ]
   rw [a1,show n - i = (n - (i + 1)) + 1 from by omega,List.replicate_succ,List.set_append_right _ _ (by rw [List.length_replicate];omega),List.length_replicate,show i + sk + 1 - sk = i + 1 from by omega,
    List.set_append_right _ _ (by omega),hl,show i + 1 - i = 1 from by omega,cS,cZ]
   simp
  rw [e] at s2
  exact s2
theorem val_skip (sk:Nat) (l:List Int) : val (List.replicate sk 0 ++ l) = BB ^ sk * val l:=by
 rw [val_append,val_zeros,List.length_replicate];simp
theorem UpRel.done {w wr:World} {n sk r:Nat} {xs:List Int} {c:Int} (h:UpRel w wr n sk r xs n c) (hr:r < 32) (hx:xs.length = n) (m:Nat) (hm:m = 32 * sk + r) :
  ∃ zs,Dig zs /\ val zs = val xs * 2 ^ m /\ Row .u32 wr (some ⟨w.heap.size,0,none⟩) (n + sk + 1) (n + sk + 1) zs /\ Below w.heap.size w wr:=by
 obtain ⟨_,hc,hb,ds,hl,hd,hv,ho⟩:=h
 have hc2:c < BB:=by
  have:=two_mono (show r <= 32 by omega)
  have e:(2:Int) ^ 32 = BB:=by rw [BB_def];decide
  omega
 refine ⟨_,?_,?_,ho.row,hb⟩
 ·have z:Dig (List.replicate sk (0:Int)):=by intro i hi;simp at hi;simp [List.getD,hi];decide
  refine z.append (hd.append ?_)
  rw [Dig.cons_iff]
  exact ⟨⟨hc.1,hc2⟩,by rw [Nat.sub_self];exact Dig.nil⟩
 ·rw [val_skip,val_append,val_cons,Nat.sub_self,List.replicate_zero,val_nil,hl]
  simp only [Int.mul_zero,Int.add_zero]
  rw [hv,List.take_of_length_le (by omega),hm,Int.pow_add,BB_two]
  grind
theorem up_some (A:Option Addr) (n c:Nat) (xs:List Int) (m:Nat) (w:World) (h:Row .u32 w A n c xs) (hn:n <= 1048576) (hn0:n ≠ 0) (hm:m <= 1048576) (hdx:Dig xs) :
  Calls Tryz.prog 179 #[.slice A n c,.int .i64 m] w fun e w'=>∃ v,e = .returned v /\ Num w' v (val xs * 2 ^ m) (n + m / 32 + 1) /\ Below w.heap.size w w':=by
 obtain ⟨i0,hi,hz0,hz1,hz2⟩:=info_parts Tryz.info135
 obtain ⟨hl,hc,hcell⟩:=h
 obtain ⟨b,o,rfl,hbx,hx⟩:=hcell hn0
 have HX:=Hd hx
 have HL:=Hd hl
 obtain ⟨sk,hsk⟩ : ∃ sk,m / 32 = sk:=⟨_,rfl⟩
 obtain ⟨r,hr⟩ : ∃ r,m % 32 = r:=⟨_,rfl⟩
 have hr32:r < 32:=by omega
 have HM:=Hd (show m = 32 * sk + r by omega)
 have hsb:sk <= 1048576:=by omega
 have t1:(m:Int).tdiv 32 = (sk:Int):=by rw [Int.tdiv_eq_ediv_of_nonneg (by omega)];omega
 have t2:(m:Int).tmod 32 = (r:Int):=by rw [Int.tmod_eq_emod_of_nonneg (by omega)];omega
 have z1:((n:Int) == 0) = false:=by simp;omega
 rw [hsk]
 clear hl hx hcell hsk hr
 go_enter Tryz.func179,Tryz.ntmps179
 go_wp2_with (at_make;refine wpList_make_full _ rfl _ _ 22 rfl w.heap.size 135 i0 (.int .u32 0) 1 Tryz.underlying22 hi hz0 hz1 _ _ _ _ (n + sk + 1) rfl rfl (by omega) (by omega) (by rw [hz2];omega) (by unfold maxLen;omega) (Nat.le_refl _) ?_;intro w1 hown hgrow)
 go_loopw [26] (fun iv wr=>∃ (i:Nat) (c:Int),iv = .int .i64 i /\ UpRel w wr n sk r xs i c) (fun iv _=>n - (intOf iv).toNat)
 case atStart=>
  refine ⟨0,0,rfl,Nat.zero_le _,⟨Int.le_refl _,two_pos _⟩,(Below.refl _ _).grown hgrow (Nat.le_refl _) (fun _ h=>by cases h),[],rfl,Dig.nil,by simp [val],?_⟩
  rw [zeros_made] at hown
  have e:List.replicate sk (0:Int) ++ ([] ++ 0 :: List.replicate (n - 0) 0) = List.replicate (n + sk + 1) 0:=by
   rw [List.nil_append,Nat.sub_zero,<- List.replicate_succ,List.replicate_append_replicate,show sk + (n + 1) = n + sk + 1 from by omega]
  rw [e]
  exact hown
 case round=>
  obtain ⟨i,cc,rfl,hrel⟩:=hrel
  have HR:=Hd hrel
  obtain ⟨hk,hcc,hb,-⟩:=hrel
  by_cases hlt:i < n
  ·obtain ⟨x,ex⟩ : ∃ x,xs.getD i 0 = x:=⟨_,rfl⟩
   have hx1:wr.cell? ⟨b,o + i,none⟩ = some (.int .u32 x):=by rw [<- ex];exact (hb.cell (p:=⟨b,o + i,none⟩) hbx).trans (HX.out i hlt)
   have bx:=hdx.getD i
   rw [ex] at bx
   obtain ⟨hcl,hfr,⟨u,hu⟩,hfr2⟩:=HR.out.cells hlt
   obtain ⟨⟨v0,v1⟩,hor,hst⟩:=HR.out.step hlt hr32 bx ex
   have HST:=Hd hst
   rw [BB_def] at bx
   obtain ⟨bx0,bx1⟩:=bx
   have hsg:¬ IntKind.u64.signed = true:=by decide
   clear hst ex hcc
   go_wp2_with fail
   exact ⟨⟨i + 1,_,by go_num,HST.out⟩,by simp [intOf];omega⟩
  ·obtain rfl:i = n:=by omega
   obtain ⟨zs,hdz,hvz,hrz,hbz⟩:=HR.out.done hr32 HL.out m HM.out
   have HZ:=Hd hvz
   clear hvz
   go_wp2_with fail
   refine (trim_any _ _ _ zs _ hrz (by omega)).mono ?_
   rintro e w' ⟨j,hj,rfl,rfl,hvj,htj⟩
   have HV:=Hd hvj
   clear hvj
   go_wp2
   go_ret
   exact ⟨_,rfl,⟨_,_,_,_,rfl,hrz.take hj,hdz.take _,htj,HV.out.trans HZ.out,hj⟩,hbz⟩
theorem up_num (u:Value) (z:Int) (L m:Nat) (w:World) (h:Num w u z L) (hL:L <= 1048576) (hm:m <= 1048576) :
  Calls Tryz.prog 179 #[u,.int .i64 m] w fun e w'=>∃ v,e = .returned v /\ Num w' v (z * 2 ^ m) (L + m / 32 + 1) /\ Below w.heap.size w w':=by
 obtain ⟨A,n,c,xs,rfl,hr,hd,ht,rfl,hn⟩:=h
 by_cases hn0:n = 0
 ·have hz:val xs = 0:=by
   have:xs = []:=List.eq_nil_of_length_eq_zero (by rw [hr.1];exact hn0)
   rw [this];rfl
  rw [hz]
  subst hn0
  clear hz hr ht
  go_enter Tryz.func179,Tryz.ntmps179
  go_wp2_with fail
  go_ret
  exact ⟨_,rfl,⟨none,0,0,[],rfl,Row.nil_,Dig.nil,.inl rfl,by simp [val],Nat.zero_le _⟩,Below.refl _ _⟩
 ·refine (up_some A n c xs m w hr (by omega) hn0 hm hd).mono ?_
  rintro e w' ⟨v,he,hv,hb⟩
  exact ⟨v,he,hv.mono (by omega),hb⟩
end Go.Proofs.YtbajnceoolkckaaGreat
