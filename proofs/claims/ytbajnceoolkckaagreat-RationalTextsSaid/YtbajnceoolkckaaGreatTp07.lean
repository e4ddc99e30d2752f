/- Of the proof of RationalTexts: RTexts0. -/
import Derived.Test.YtbajnceoolkckaaGreatTp03
open List renaming set_cons_succ → cS
open Go.Lib renaming hid → Hd
set_option maxRecDepth 100000
set_option maxHeartbeats 16000000
namespace Go.Proofs.YtbajnceoolkckaaGreat
open Go.RowKit LM
theorem Ints64.at {w:World} {base n c:Nat} {A:Option Addr} {ds:List Int} (h:Ints64 w base (.slice A n c) ds) (hn:ds.length = n) {k:Nat} (hk:k < n) :
  ∃ g,A = some ⟨g,0,none⟩ /\ base <= g /\ w.cell? ⟨g,k,none⟩ = some (.int .i64 (ds.getD k 0)) /\ w.frozen? ⟨g,k,none⟩ = false /\ ∀ u,Ints64 (w.setCell ⟨g,k,none⟩ (.int .i64 u)) base (.slice A n c) (ds.set k u):=by
 have h':=h
 unfold Ints64 at h
 rw [hn] at h
 rcases h.2 with ⟨h0,h1⟩ | ⟨g,cap,cur,hv,hb,r⟩
 ·omega
 ·simp only [Value.slice.injEq,true_and] at hv
  obtain ⟨rfl,rfl⟩:=hv
  refine ⟨g,rfl,hb,?_,h.frozenAt k,fun u=>?_⟩
  ·rw [h.cellAt k (by omega)];simp [List.getD,hn,hk]
  ·have:=(h.stored k (.int .i64 u)).1
   rw [<- List.map_set] at this
   unfold Ints64
   rw [List.length_set,hn]
   exact this
theorem valR_set (R:Int) (l:List Int) (i:Nat) (d:Int) (h:i < l.length) : valR R (l.set i d) = valR R l + R ^ i * (d - l.getD i 0):=by
 induction l generalizing i with
 | nil=>simp at h
 | cons x l ih=>
  cases i with
  | zero=>simp [valR];omega
  | succ i=>
   have:=ih i (by simpa using h)
   simp only [cS,valR,List.getD_cons_succ] at *
   rw [this,Int.pow_succ,Int.mul_add]
   grind
theorem DigR.set' {R:Int} {l:List Int} (h:DigR R l) (i:Nat) {d:Int} (h0:0 <= d) (h1:d < R) : DigR R (l.set i d):=by
 intro x hx
 rcases List.mem_or_eq_of_mem_set hx with h' | rfl
 ·exact h x h'
 ·exact ⟨h0,h1⟩
def TimesRel (R d:Int) (ds cs:List Int) (k:Nat) (cc:Int) : Prop:=
 cs.length = ds.length /\ k <= ds.length /\ DigR 65536 cs /\ 0 <= cc /\ cc < R /\ valR 65536 (cs.take k) + 65536 ^ k * cc = valR 65536 (ds.take k) * R + d /\ cs.drop k = ds.drop k
theorem TimesRel.step {R d:Int} {ds cs:List Int} {k:Nat} {cc x:Int} (h:TimesRel R d ds cs k cc) (hR:2 <= R) (hk:k < ds.length) (hx:cs.getD k 0 = x) :
  0 <= x /\ x < 65536 /\ 0 <= x * R /\ x * R <= 65535 * R /\ TimesRel R d ds (cs.set k ((x * R + cc) % 65536)) (k + 1) ((x * R + cc) / 65536):=by
 obtain ⟨hl,_,hd,c0,c1,hv,hr⟩:=h
 have hkc:k < cs.length:=by omega
 have hxd:0 <= x /\ x < 65536:=by
  rw [<- hx]
  have e:cs.getD k 0 = cs[k]:=by simp [List.getD,hkc]
  rw [e];exact hd _ (List.getElem_mem hkc)
 have hp0:0 <= x * R:=Int.mul_nonneg hxd.1 (by omega)
 have hp1:x * R <= 65535 * R:=Int.mul_le_mul_of_nonneg_right (by omega) (by omega)
 have hdk:ds.getD k 0 = x:=by
  have e1:cs.getD k 0 = (cs.drop k).headD 0:=by cases hq:cs.drop k with
   | nil=>have:=congrArg List.length hq;simp at this;omega
   | cons a t=>rw [drop_cons cs k hkc] at hq;simp at hq;rw [<- hq.1];rfl
  have e2:ds.getD k 0 = (ds.drop k).headD 0:=by cases hq:ds.drop k with
   | nil=>have:=congrArg List.length hq;simp at this;omega
   | cons a t=>rw [drop_cons ds k hk] at hq;simp at hq;rw [<- hq.1];rfl
  rw [e2,<- hr,<- e1,hx]
 refine ⟨hxd.1,hxd.2,hp0,hp1,by simpa using hl,hk,hd.set' k (Int.emod_nonneg _ (by decide)) (Int.emod_lt_of_pos _ (by decide)),Int.ediv_nonneg (by omega) (by decide),?_,?_,?_⟩
 ·exact Int.ediv_lt_of_lt_mul (by decide) (by omega)
 ·have hkset:k < (cs.set k ((x * R + cc) % 65536)).length:=by simpa using hkc
  have e3:(cs.set k ((x * R + cc) % 65536)).getD k 0 = (x * R + cc) % 65536:=by simp [List.getD,hkc]
  rw [take_snoc _ k hkset,e3,take_snoc ds k hk,hdk,List.take_set_of_le (Nat.le_refl k),valR_append,valR_append,List.length_take,List.length_take,Nat.min_eq_left (by omega),Nat.min_eq_left (by omega)]
  simp only [valR,Int.mul_zero,Int.add_zero]
  rw [Int.add_mul,Int.pow_succ]
  have e4:(65536:Int) ^ k * (x * R + cc) = 65536 ^ k * (65536 * ((x * R + cc) / 65536)) + 65536 ^ k * ((x * R + cc) % 65536):=by
   rw [<- Int.mul_add]
   exact congrArg _ (by omega:x * R + cc = 65536 * ((x * R + cc) / 65536) + (x * R + cc) % 65536)
  rw [Int.mul_add] at e4
  have e5:(65536:Int) ^ k * x * R = 65536 ^ k * (x * R):=Int.mul_assoc _ _ _
  have e6:(65536:Int) ^ k * 65536 * ((x * R + cc) / 65536) = 65536 ^ k * (65536 * ((x * R + cc) / 65536)):=Int.mul_assoc _ _ _
  rw [e5,e6]
  omega
 ·have:=congrArg (List.drop 1) hr
  rw [List.drop_drop,List.drop_drop] at this
  rw [List.drop_set_of_lt (by omega)]
  exact this
theorem TimesRel.start {R d:Int} {ds:List Int} (hd:DigR 65536 ds) (h0:0 <= d) (h1:d < R) : TimesRel R d ds ds 0 d:=
 ⟨rfl,Nat.zero_le _,hd,h0,h1,by simp [valR],rfl⟩
def RRead (R:Int) (cs:List Int) (i:Nat) (ds:List Int) : Prop:=
 i <= cs.length /\ AllOk R (cs.take i) /\ DigR 65536 ds /\ valR 65536 ds = horner R 0 (cs.take i) /\ ds.length <= i
theorem RRead.next0 {R:Int} {cs ds es:List Int} {i:Nat} {c:Int} (h:RRead R cs i ds) (hi:i < cs.length) (hc:cs.getD i 0 = c) (hd:digVal 99 c < R) (g:TimesRel R (digVal 99 c) ds es ds.length 0) :
  RRead R cs (i + 1) es:=by
 obtain ⟨_,hok,hds,hv,hl⟩:=h
 obtain ⟨gl,_,gd,_,_,gv,_⟩:=g
 have e:cs.take (i + 1) = cs.take i ++ [c]:=by rw [take_snoc cs i hi,hc]
 rw [List.take_of_length_le (by omega),List.take_of_length_le (by omega),Int.mul_zero,Int.add_zero] at gv
 refine ⟨hi,by rw [e];exact hok.snoc hd,gd,by rw [e,horner_snoc,<- hv,gv],by omega⟩
theorem RRead.next1 {R:Int} {cs ds es:List Int} {i:Nat} {c cc:Int} (h:RRead R cs i ds) (hi:i < cs.length) (hc:cs.getD i 0 = c) (hd:digVal 99 c < R) (hR:R <= 36) (g:TimesRel R (digVal 99 c) ds es ds.length cc) :
  RRead R cs (i + 1) (es ++ [cc]):=by
 obtain ⟨_,hok,hds,hv,hl⟩:=h
 obtain ⟨gl,_,gd,c0,c1,gv,_⟩:=g
 have e:cs.take (i + 1) = cs.take i ++ [c]:=by rw [take_snoc cs i hi,hc]
 rw [List.take_of_length_le (by omega),List.take_of_length_le (by omega)] at gv
 refine ⟨hi,by rw [e];exact hok.snoc hd,?_,?_,by simp;omega⟩
 ·intro x hx
  rcases List.mem_append.1 hx with hx | hx
  ·exact gd x hx
  ·simp at hx;subst hx;omega
 ·rw [e,horner_snoc,<- hv,<- gv,valR_append,gl];simp [valR]
theorem RRead.bad {R:Int} {cs ds:List Int} {i:Nat} {c:Int} (_h:RRead R cs i ds) (hi:i < cs.length) (hc:cs.getD i 0 = c) (hd:¬ digVal 99 c < R) : ¬ AllOk R cs:=by
 intro ho
 apply hd
 rw [<- hc]
 apply ho
 have:cs.getD i 0 = cs[i]:=by simp [List.getD,hi]
 rw [this]
 exact List.getElem_mem hi
theorem digVal_same {c R:Int} (hR:R <= 36) : (digVal 36 c < R ↔ digVal 99 c < R) /\ (digVal 99 c < R -> digVal 36 c = digVal 99 c):=by
 unfold digVal;split
 ·exact ⟨Iff.rfl,fun _=>rfl⟩
 ·split
  ·exact ⟨Iff.rfl,fun _=>rfl⟩
  ·split
   ·exact ⟨Iff.rfl,fun _=>rfl⟩
   ·exact ⟨by omega,fun h=>by omega⟩
def RParsed (w:World) (R:Int) (S:ByteArray) (e:Ending) (w':World) : Prop:=
 ∃ n A l c z err,e = .returned (.tuple #[.agg #[.bool n,.slice A l c],.int .i64 err]) /\ Rval w' (.agg #[.bool n,.slice A l c]) z 20000 /\ ParseRel R (bs S) z err /\ Below w.heap.size w w'
theorem Rval.zero20 {w:World} : Rval w (.agg #[.bool false,.slice none 0 0]) 0 20000:=
 ⟨false,none,0,0,[],rfl,Row.nil_,fun d h=>by simp at h,.inl rfl,rfl,(fun h=>by cases h),Nat.zero_le _⟩
theorem rParse_bad (S:ByteArray) (R:Int) (w:World) (hR:R < 2 \/ 36 < R) : Calls Tryz.prog 114 #[.string S,.int .i64 R] w (RParsed w R S):=by
 have hW:=below_alloc w (.cells #[.bool false,.slice none 0 0] 34)
 obtain ⟨e1,e2,f1,f2⟩:=room31 (Below.refl (w.heap.size + 1) (w.alloc (.cells #[.bool false,.slice none 0 0] 34)))
 by_cases hR2:R < 2
 ·go_enter Tryz.func114,Tryz.ntmps114
  go_wp2
  refine bodyPost_ret (v:=.tuple #[.agg #[.bool false,.slice none 0 0],.int .i64 1]) (by simp [results,Tryz.results114,go_sem,e1,e2]) rfl ⟨_,_,_,_,0,1,rfl,Rval.zero20,.inl ⟨hR,rfl,rfl⟩,?_⟩
  exact hW
 ·have hR3:36 < R:=by omega
  have HRR:=Hd hR
  clear hR
  go_enter Tryz.func114,Tryz.ntmps114
  go_wp2
  refine bodyPost_ret (v:=.tuple #[.agg #[.bool false,.slice none 0 0],.int .i64 1]) (by simp [results,Tryz.results114,go_sem,e1,e2]) rfl ⟨_,_,_,_,0,1,rfl,Rval.zero20,.inl ⟨HRR.out,rfl,rfl⟩,?_⟩
  exact hW
theorem rParse_empty (S:ByteArray) (R:Int) (w:World) (hR:¬ (R < 2 \/ 36 < R)) (hS:S.size = 0) : Calls Tryz.prog 114 #[.string S,.int .i64 R] w (RParsed w R S):=by
 have h0:2 <= R:=by omega
 have h1:R <= 36:=by omega
 clear hR
 have hW:=below_alloc w (.cells #[.bool false,.slice none 0 0] 34)
 obtain ⟨e1,e2,f1,f2⟩:=room31 (Below.refl (w.heap.size + 1) (w.alloc (.cells #[.bool false,.slice none 0 0] 34)))
 have HTnil:=Hd (show bs S = [] from List.eq_nil_of_length_eq_zero (by rw [bs_length];exact hS))
 have HBody:=Hd (show bodyOf (bs S) = bs S by rw [HTnil.out];rfl)
 go_enter Tryz.func114,Tryz.ntmps114
 go_wp2
 refine bodyPost_ret (v:=.tuple #[.agg #[.bool false,.slice none 0 0],.int .i64 2]) (by simp [results,Tryz.results114,go_sem,e1,e2]) rfl ⟨_,_,_,_,0,2,rfl,Rval.zero20,.inr (.inr ⟨h0,h1,?_,rfl,rfl⟩),?_⟩
 ·rw [HBody.out];exact fun h=>h.1 HTnil.out
 ·exact hW
theorem rParse_neg (S:ByteArray) (R:Int) (w:World) (hS2:S.size <= 20000) (hR:¬ (R < 2 \/ 36 < R)) (hS:S.size ≠ 0) (hh:(bs S).headD 0 = 45) : Calls Tryz.prog 114 #[.string S,.int .i64 R] w (RParsed w R S):=by
 have h0:2 <= R:=by omega
 have h1:R <= 36:=by omega
 clear hR
 have hW:=below_alloc w (.cells #[.bool false,.slice none 0 0] 34)
 obtain ⟨e1,e2,f1,f2⟩:=room31 (Below.refl (w.heap.size + 1) (w.alloc (.cells #[.bool false,.slice none 0 0] 34)))
 have hle:¬ (20000:Int) < (S.size:Int):=by omega
 have hlt:0 < S.size:=by omega
 have hb0:=bs_byte S 0 hlt
 obtain ⟨c0,hc⟩ : ∃ c0,(S[0].toNat:Int) = c0:=⟨_,rfl⟩
 have hhd:=bs_head S hlt
 rw [hc] at hhd hb0
 have hsz:(1:Int) <= (S.size:Int):=by omega
 have hsp:(0:Int) < (S.size:Int):=by omega
 obtain ⟨T,hT⟩ : ∃ T,S.extract 1 S.size = T:=⟨_,rfl⟩
 have hTb:bs T = (bs S).tail:=by rw [<- hT,bs_from S 1 (by omega)];simp
 have hTS:T.size <= 20000:=by rw [<- bs_length,hTb,List.length_tail,bs_length];omega
 have h45:c0 = 45:=hhd.symm.trans hh
 have HBody:=Hd (show bodyOf (bs S) = bs T by unfold bodyOf;rw [hhd,hTb,if_pos (.inl h45)])
 have HHd:=Hd (show decide ((bs S).headD 0 = 45) = true by rw [hhd];simpa using h45)
 rw [h45] at hc
 clear hTb hhd h45 hb0 hh
 by_cases hTz:T.size = 0
 ·have hTz0:((T.size:Int) == 0) = true:=by simp [hTz]
  have HTnil:=Hd (show bs T = [] from List.eq_nil_of_length_eq_zero (by rw [bs_length];exact hTz))
  go_enter Tryz.func114,Tryz.ntmps114
  go_wp2
  refine bodyPost_ret (v:=.tuple #[.agg #[.bool false,.slice none 0 0],.int .i64 2]) (by simp [results,Tryz.results114,go_sem,e1,e2]) rfl ⟨_,_,_,_,0,2,rfl,Rval.zero20,.inr (.inr ⟨h0,h1,?_,rfl,rfl⟩),?_⟩
  ·rw [HBody.out];exact fun h=>h.1 HTnil.out
  ·exact hW
 ·have hTz0:((T.size:Int) == 0) = false:=by rw [beq_eq_false_iff_ne];omega
  have HTne:=Hd (show bs T ≠ [] from fun h=>hTz (by rw [<- bs_length,h];rfl))
  obtain ⟨i0,hii,hz0,hz1,hz2⟩:=info_parts Tryz.info3
  go_enter Tryz.func114,Tryz.ntmps114
  go_wp2_with fail
  go_loopw [7,8] (fun dv iv wr=>∃ (i:Nat) (ds:List Int),iv = .int .i64 i /\ i <= T.size /\ Ints64 wr (w.heap.size + 1) dv ds /\ Hid (RRead R (bs T) i ds) /\ Below (w.heap.size + 1) (w.alloc (.cells #[.bool false,.slice none 0 0] 34)) wr) (fun _ iv _=>T.size - (intOf iv).toNat)
  case atStart=>exact ⟨0,[],rfl,Nat.zero_le _,World.ownsRow_nil _ _ _ _,Hd ⟨Nat.zero_le _,fun c h=>by simp at h,fun d h=>by simp at h,by simp [valR,horner],Nat.le_refl _⟩,Below.refl _ _⟩
  case round=>
   obtain ⟨i,ds,rfl,hi,hown,HD,hb⟩:=hrel
   have HO:=Hd hown
   obtain ⟨A,cp,rfl,hrow⟩:=Row.of_ownsRow HO.out
   obtain ⟨n,hn⟩ : ∃ n,ds.length = n:=⟨_,rfl⟩
   have HROW:=Hd hrow
   have hni:n <= i:=by rw [<- hn];exact HD.out.2.2.2.2
   have HB:=Hd hb
   have HNN:=Hd hn
   have hbs:w.heap.size + 1 <= wr.heap.size:=by have:=hb.size;simpa using this
   clear hown hrow hb
   rw [hn]
   by_cases hlt:i < T.size
   ·have hbj:=bs_byte T i hlt
    obtain ⟨c,hc⟩ : ∃ c,((T[i].toNat:Int)) = c:=⟨_,rfl⟩
    have HC:=Hd (show (bs T).getD i 0 = c by rw [bs_get T i hlt,hc])
    rw [hc] at hbj
    have HIL:=Hd (show i < (bs T).length by rw [bs_length];exact hlt)
    clear hn
    go_wp2_with fail
    refine (Digit_ref c _ hbj.1 hbj.2).mono ?_
    rintro e wd ⟨rfl,rfl⟩
    obtain ⟨d,hd⟩ : ∃ d,digVal 36 c = d:=⟨_,rfl⟩
    have hd0:0 <= d:=by rw [<- hd];exact digVal_nonneg (by decide)
    have HDV:=Hd hd
    have HSAME:=Hd (digVal_same (c:=c) h1)
    rw [hd]
    clear hd
    by_cases hdR:d < R
    ·have HD99:=Hd (show digVal 99 c = d by rw [<- HSAME.out.2 (HSAME.out.1.1 (by rw [HDV.out];exact hdR)),HDV.out])
     have HLT:=Hd (show digVal 99 c < R by rw [HD99.out];exact hdR)
     go_wp2_with fail
     obtain ⟨wo,rfl⟩ : ∃ wo:World,wo = wr:=⟨_,rfl⟩
     go_loopw [9,10] (fun cv kv wx=>∃ (k:Nat) (cs:List Int) (cc:Int),cv = .int .i64 cc /\ kv = .int .i64 k /\ k <= n /\ Ints64 wx (w.heap.size + 1) (.slice A n cp) cs /\ Hid (TimesRel R d ds cs k cc) /\ Below (w.heap.size + 1) (w.alloc (.cells #[.bool false,.slice none 0 0] 34)) wx) (fun _ kv _=>n - (intOf kv).toNat)
     case atStart=>exact ⟨0,ds,d,rfl,rfl,Nat.zero_le _,by have:=HO.out;rw [HNN.out] at this;exact this,Hd (TimesRel.start HD.out.2.2.1 hd0 hdR),HB.out⟩
     case round=>
      obtain ⟨k,cs,cc,rfl,rfl,hkn,hown,HT,hb⟩:=hrel
      have HX:=Hd hown
      have HBX:=Hd hb
      have hbx:w.heap.size + 1 <= wr.heap.size:=by have:=hb.size;simpa using this
      clear hown hb
      have hcl:cs.length = n:=by rw [HT.out.1,HNN.out]
      have HCL:=Hd hcl
      clear hcl
      have hc0:=HT.out.2.2.2.1
      have hc1:=HT.out.2.2.2.2.1
      by_cases hk2:k < n
      ·obtain ⟨g,rfl,hg,hcell,hfr,hset⟩:=HX.out.at HCL.out hk2
       obtain ⟨x,hx⟩ : ∃ x,cs.getD k 0 = x:=⟨_,rfl⟩
       rw [hx] at hcell
       obtain ⟨x0,x1,p0,p1,hstep⟩:=HT.out.step h0 (by rw [HNN.out];exact hk2) hx
       have HST:=Hd hstep
       have hown':=hset ((x * R + cc) % 65536)
       have HOW:=Hd hown'
       have HBN:=Hd (HBX.out.setCell (p:=⟨g,k,none⟩) hg (.int .i64 ((x * R + cc) % 65536)))
       clear hx hset hstep hown'
       have q1:IntKind.i64.wrap (x * R) = x * R:=by rw [IntKind.wrap_i64];omega
       have q2:IntKind.i64.wrap (x * R + cc) = x * R + cc:=by rw [IntKind.wrap_i64];omega
       have q3:(x * R + cc).tmod 65536 = (x * R + cc) % 65536:=Int.tmod_eq_emod_of_nonneg (by omega)
       have q4:(x * R + cc).tdiv 65536 = (x * R + cc) / 65536:=Int.tdiv_eq_ediv_of_nonneg (by omega)
       have q5:IntKind.i64.wrap ((x * R + cc) % 65536) = (x * R + cc) % 65536:=by rw [IntKind.wrap_i64];omega
       have q6:IntKind.i64.wrap ((x * R + cc) / 65536) = (x * R + cc) / 65536:=by rw [IntKind.wrap_i64];omega
       go_wp2_with fail
       go_roundw
       case rel=>exact ⟨k + 1,_,_,rfl,by go_num,hk2,HOW.out,HST,HBN.out⟩
       case measure=>simp [intOf];omega
      ·obtain rfl:k = n:=by omega
       by_cases hcz:0 < cc
       ·have HX2:Hid (wr.ownsRow (w.heap.size + 1) 3 1 (.slice A k cp) k (cs.map (Value.int .i64))):=Hd (by have h:=HX.out;unfold Ints64 at h;rw [HCL.out] at h;exact h)
        go_wp2_with (at_builtin;refine wpList_append_own _ rfl (.tmp 87) (.tmp 89) _ rfl (w.heap.size + 1) 3 i0 (.int .i64 0) 1 8 Tryz.underlying32 hii hz0 hz1 hz2 rfl (by decide) _ _ _ rfl (HX2.out.alloc _) ⟨wr.heap.size,0,none⟩ 1 1 [.int .i64 cc] rfl rfl ?c1 ?c2 ?c3 ?c4 ?c5 ?_)
        case c1=>exact cell_one _ _
        case c2=>exact one_cell _
        case c3=>unfold maxLen;omega
        case c4=>omega
        case c5=>simp;omega
        intro v' w3 hown3 hg3 _
        have hb3:Below (w.heap.size + 1) (w.alloc (.cells #[.bool false,.slice none 0 0] 34)) w3:=
         (HBX.out.alloc hbx _).grown hg3 (by simp;omega) (fun g hg=>(HX2.out.lt g hg).1)
        have ho3:Ints64 w3 (w.heap.size + 1) v' (cs ++ [cc]):=by
         unfold Ints64;rw [List.length_append,List.length_singleton,List.map_append,HCL.out];exact hown3
        have HO3:=Hd ho3
        have HTF:TimesRel R (digVal 99 c) ds cs ds.length cc:=by rw [HD99.out,HNN.out];exact HT.out
        have HNX:=Hd (HD.out.next1 HIL.out HC.out HLT.out h1 HTF)
        clear hown3 hg3 ho3 HTF
        go_wp2
        exact ⟨⟨i + 1,_,by go_num,hlt,HO3.out,HNX,hb3⟩,by simp [intOf];omega⟩
       ·obtain rfl:cc = 0:=by omega
        have HTF:TimesRel R (digVal 99 c) ds cs ds.length 0:=by rw [HD99.out,HNN.out];exact HT.out
        have HNX:=Hd (HD.out.next0 HIL.out HC.out HLT.out HTF)
        clear HTF
        go_wp2
        exact ⟨⟨i + 1,_,by go_num,hlt,HX.out,HNX,HBX.out⟩,by simp [intOf];omega⟩
    ·have hbad:=HD.out.bad HIL.out HC.out (fun h=>hdR (by have:=HSAME.out.1.2 h;rw [HDV.out] at this;exact this))
     have HBAD:=Hd hbad
     obtain ⟨e1,e2,f1,f2⟩:=room31 HB.out
     clear hbad
     go_wp2
     refine bodyPost_ret (v:=.tuple #[.agg #[.bool false,.slice none 0 0],.int .i64 2]) (by simp [results,Tryz.results114,go_sem,e1,e2]) rfl ⟨_,_,_,_,0,2,rfl,Rval.zero20,.inr (.inr ⟨h0,h1,?_,rfl,rfl⟩),?_⟩
     ·rw [HBody.out];exact fun h=>HBAD.out h.2
     ·exact ((hW.trans (HB.out.mono (by omega))).setCell (Nat.le_refl _) _).setCell (Nat.le_refl _) _
   ·obtain rfl:i = T.size:=by omega
    have hall:=HD.out
    have HOK:=Hd (show AllOk R (bs T) /\ valR 65536 ds = horner R 0 (bs T) by
     refine ⟨?_,?_⟩
     ·have:=hall.2.1;rw [List.take_of_length_le (by rw [bs_length];exact Nat.le_refl _)] at this;exact this
     ·have:=hall.2.2.2.1;rw [List.take_of_length_le (by rw [bs_length];exact Nat.le_refl _)] at this;exact this)
    have hrow:=HROW.out
    rw [hn] at hrow
    have HROW2:=Hd hrow
    clear hall hrow
    go_wp2_with fail
    refine (rmade_any true A n cp ds _ HROW2.out (by omega) HD.out.2.2.1).mono ?_
    rintro e w4 ⟨ng,A2,n2,c2,rfl,hr,hb4⟩
    have hB:=HB.out.trans (hb4.mono (B':=w.heap.size + 1) hbs)
    obtain ⟨e1,e2,f1,f2⟩:=room31 hB
    have HR:=Hd hr
    clear hr
    go_wp2
    refine bodyPost_ret (v:=.tuple #[.agg #[.bool ng,.slice A2 n2 c2],.int .i64 0]) (by simp [results,Tryz.results114,go_sem,e1,e2]) rfl ⟨_,_,_,_,withSign true (valR 65536 ds),0,rfl,?_,.inr (.inl ⟨h0,h1,?_,?_,?_,rfl⟩),?_⟩
    ·obtain ⟨neg',A',n',c',ds',ev,r1,r2,r3,r4,r5,r6⟩:=HR.out.stored e1 e2 (.bool ng) (.slice A2 n2 c2)
     exact ⟨neg',A',n',c',ds',ev,r1,r2,r3,r4,r5,by omega⟩
    ·rw [HBody.out];exact HTne.out
    ·rw [HBody.out];exact HOK.out.1
    ·rw [HBody.out,HHd.out,HOK.out.2]
    ·exact ((hW.trans (hB.mono (by omega))).setCell (Nat.le_refl _) _).setCell (Nat.le_refl _) _
theorem rParse_pos (S:ByteArray) (R:Int) (w:World) (hS2:S.size <= 20000) (hR:¬ (R < 2 \/ 36 < R)) (hS:S.size ≠ 0) (hh:(bs S).headD 0 = 43) : Calls Tryz.prog 114 #[.string S,.int .i64 R] w (RParsed w R S):=by
 have h0:2 <= R:=by omega
 have h1:R <= 36:=by omega
 clear hR
 have hW:=below_alloc w (.cells #[.bool false,.slice none 0 0] 34)
 obtain ⟨e1,e2,f1,f2⟩:=room31 (Below.refl (w.heap.size + 1) (w.alloc (.cells #[.bool false,.slice none 0 0] 34)))
 have hle:¬ (20000:Int) < (S.size:Int):=by omega
 have hlt:0 < S.size:=by omega
 have hb0:=bs_byte S 0 hlt
 obtain ⟨c0,hc⟩ : ∃ c0,(S[0].toNat:Int) = c0:=⟨_,rfl⟩
 have hhd:=bs_head S hlt
 rw [hc] at hhd hb0
 have hsz:(1:Int) <= (S.size:Int):=by omega
 have hsp:(0:Int) < (S.size:Int):=by omega
 obtain ⟨T,hT⟩ : ∃ T,S.extract 1 S.size = T:=⟨_,rfl⟩
 have hTb:bs T = (bs S).tail:=by rw [<- hT,bs_from S 1 (by omega)];simp
 have hTS:T.size <= 20000:=by rw [<- bs_length,hTb,List.length_tail,bs_length];omega
 have h43:c0 = 43:=hhd.symm.trans hh
 have HBody:=Hd (show bodyOf (bs S) = bs T by unfold bodyOf;rw [hhd,hTb,if_pos (.inr h43)])
 have HHd:=Hd (show decide ((bs S).headD 0 = 45) = false by rw [hhd,h43];decide)
 rw [h43] at hc
 clear hTb hhd h43 hb0 hh
 by_cases hTz:T.size = 0
 ·have hTz0:((T.size:Int) == 0) = true:=by simp [hTz]
  have HTnil:=Hd (show bs T = [] from List.eq_nil_of_length_eq_zero (by rw [bs_length];exact hTz))
  go_enter Tryz.func114,Tryz.ntmps114
  go_wp2
  refine bodyPost_ret (v:=.tuple #[.agg #[.bool false,.slice none 0 0],.int .i64 2]) (by simp [results,Tryz.results114,go_sem,e1,e2]) rfl ⟨_,_,_,_,0,2,rfl,Rval.zero20,.inr (.inr ⟨h0,h1,?_,rfl,rfl⟩),?_⟩
  ·rw [HBody.out];exact fun h=>h.1 HTnil.out
  ·exact hW
 ·have hTz0:((T.size:Int) == 0) = false:=by rw [beq_eq_false_iff_ne];omega
  have HTne:=Hd (show bs T ≠ [] from fun h=>hTz (by rw [<- bs_length,h];rfl))
  obtain ⟨i0,hii,hz0,hz1,hz2⟩:=info_parts Tryz.info3
  go_enter Tryz.func114,Tryz.ntmps114
  go_wp2_with fail
  go_loopw [7,8] (fun dv iv wr=>∃ (i:Nat) (ds:List Int),iv = .int .i64 i /\ i <= T.size /\ Ints64 wr (w.heap.size + 1) dv ds /\ Hid (RRead R (bs T) i ds) /\ Below (w.heap.size + 1) (w.alloc (.cells #[.bool false,.slice none 0 0] 34)) wr) (fun _ iv _=>T.size - (intOf iv).toNat)
  case atStart=>exact ⟨0,[],rfl,Nat.zero_le _,World.ownsRow_nil _ _ _ _,Hd ⟨Nat.zero_le _,fun c h=>by simp at h,fun d h=>by simp at h,by simp [valR,horner],Nat.le_refl _⟩,Below.refl _ _⟩
  case round=>
   obtain ⟨i,ds,rfl,hi,hown,HD,hb⟩:=hrel
   have HO:=Hd hown
   obtain ⟨A,cp,rfl,hrow⟩:=Row.of_ownsRow HO.out
   obtain ⟨n,hn⟩ : ∃ n,ds.length = n:=⟨_,rfl⟩
   have HROW:=Hd hrow
   have hni:n <= i:=by rw [<- hn];exact HD.out.2.2.2.2
   have HB:=Hd hb
   have HNN:=Hd hn
   have hbs:w.heap.size + 1 <= wr.heap.size:=by have:=hb.size;simpa using this
   clear hown hrow hb
   rw [hn]
   by_cases hlt:i < T.size
   ·have hbj:=bs_byte T i hlt
    obtain ⟨c,hc⟩ : ∃ c,((T[i].toNat:Int)) = c:=⟨_,rfl⟩
    have HC:=Hd (show (bs T).getD i 0 = c by rw [bs_get T i hlt,hc])
    rw [hc] at hbj
    have HIL:=Hd (show i < (bs T).length by rw [bs_length];exact hlt)
    clear hn
    go_wp2_with fail
    refine (Digit_ref c _ hbj.1 hbj.2).mono ?_
    rintro e wd ⟨rfl,rfl⟩
    obtain ⟨d,hd⟩ : ∃ d,digVal 36 c = d:=⟨_,rfl⟩
    have hd0:0 <= d:=by rw [<- hd];exact digVal_nonneg (by decide)
    have HDV:=Hd hd
    have HSAME:=Hd (digVal_same (c:=c) h1)
    rw [hd]
    clear hd
    by_cases hdR:d < R
    ·have HD99:=Hd (show digVal 99 c = d by rw [<- HSAME.out.2 (HSAME.out.1.1 (by rw [HDV.out];exact hdR)),HDV.out])
     have HLT:=Hd (show digVal 99 c < R by rw [HD99.out];exact hdR)
     go_wp2_with fail
     obtain ⟨wo,rfl⟩ : ∃ wo:World,wo = wr:=⟨_,rfl⟩
     go_loopw [9,10] (fun cv kv wx=>∃ (k:Nat) (cs:List Int) (cc:Int),cv = .int .i64 cc /\ kv = .int .i64 k /\ k <= n /\ Ints64 wx (w.heap.size + 1) (.slice A n cp) cs /\ Hid (TimesRel R d ds cs k cc) /\ Below (w.heap.size + 1) (w.alloc (.cells #[.bool false,.slice none 0 0] 34)) wx) (fun _ kv _=>n - (intOf kv).toNat)
     case atStart=>exact ⟨0,ds,d,rfl,rfl,Nat.zero_le _,by have:=HO.out;rw [HNN.out] at this;exact this,Hd (TimesRel.start HD.out.2.2.1 hd0 hdR),HB.out⟩
     case round=>
      obtain ⟨k,cs,cc,rfl,rfl,hkn,hown,HT,hb⟩:=hrel
      have HX:=Hd hown
      have HBX:=Hd hb
      have hbx:w.heap.size + 1 <= wr.heap.size:=by have:=hb.size;simpa using this
      clear hown hb
      have hcl:cs.length = n:=by rw [HT.out.1,HNN.out]
      have HCL:=Hd hcl
      clear hcl
      have hc0:=HT.out.2.2.2.1
      have hc1:=HT.out.2.2.2.2.1
      by_cases hk2:k < n
      ·obtain ⟨g,rfl,hg,hcell,hfr,hset⟩:=HX.out.at HCL.out hk2
       obtain ⟨x,hx⟩ : ∃ x,cs.getD k 0 = x:=⟨_,rfl⟩
       rw [hx] at hcell
       obtain ⟨x0,x1,p0,p1,hstep⟩:=HT.out.step h0 (by rw [HNN.out];exact hk2) hx
       have HST:=Hd hstep
       have hown':=hset ((x * R + cc) % 65536)
       have HOW:=Hd hown'
       have HBN:=Hd (HBX.out.setCell (p:=⟨g,k,none⟩) hg (.int .i64 ((x * R + cc) % 65536)))
       clear hx hset hstep hown'
       have q1:IntKind.i64.wrap (x * R) = x * R:=by rw [IntKind.wrap_i64];omega
       have q2:IntKind.i64.wrap (x * R + cc) = x * R + cc:=by rw [IntKind.wrap_i64];omega
       have q3:(x * R + cc).tmod 65536 = (x * R + cc) % 65536:=Int.tmod_eq_emod_of_nonneg (by omega)
       have q4:(x * R + cc).tdiv 65536 = (x * R + cc) / 65536:=Int.tdiv_eq_ediv_of_nonneg (by omega)
       have q5:IntKind.i64.wrap ((x * R + cc) % 65536) = (x * R + cc) % 65536:=by rw [IntKind.wrap_i64];omega
       have q6:IntKind.i64.wrap ((x * R + cc) / 65536) = (x * R + cc) / 65536:=by rw [IntKind.wrap_i64];omega
       go_wp2_with fail
       go_roundw
       case rel=>exact ⟨k + 1,_,_,rfl,by go_num,hk2,HOW.out,HST,HBN.out⟩
       case measure=>simp [intOf];omega
      ·obtain rfl:k = n:=by omega
       by_cases hcz:0 < cc
       ·have HX2:Hid (wr.ownsRow (w.heap.size + 1) 3 1 (.slice A k cp) k (cs.map (Value.int .i64))):=Hd (by have h:=HX.out;unfold Ints64 at h;rw [HCL.out] at h;exact h)
        go_wp2_with (at_builtin;refine wpList_append_own _ rfl (.tmp 87) (.tmp 89) _ rfl (w.heap.size + 1) 3 i0 (.int .i64 0) 1 8 Tryz.underlying32 hii hz0 hz1 hz2 rfl (by decide) _ _ _ rfl (HX2.out.alloc _) ⟨wr.heap.size,0,none⟩ 1 1 [.int .i64 cc] rfl rfl ?c1 ?c2 ?c3 ?c4 ?c5 ?_)
        case c1=>exact cell_one _ _
        case c2=>exact one_cell _
        case c3=>unfold maxLen;omega
        case c4=>omega
        case c5=>simp;omega
        intro v' w3 hown3 hg3 _
        have hb3:Below (w.heap.size + 1) (w.alloc (.cells #[.bool false,.slice none 0 0] 34)) w3:=
         (HBX.out.alloc hbx _).grown hg3 (by simp;omega) (fun g hg=>(HX2.out.lt g hg).1)
        have ho3:Ints64 w3 (w.heap.size + 1) v' (cs ++ [cc]):=by
         unfold Ints64;rw [List.length_append,List.length_singleton,List.map_append,HCL.out];exact hown3
        have HO3:=Hd ho3
        have HTF:TimesRel R (digVal 99 c) ds cs ds.length cc:=by rw [HD99.out,HNN.out];exact HT.out
        have HNX:=Hd (HD.out.next1 HIL.out HC.out HLT.out h1 HTF)
        clear hown3 hg3 ho3 HTF
        go_wp2
        exact ⟨⟨i + 1,_,by go_num,hlt,HO3.out,HNX,hb3⟩,by simp [intOf];omega⟩
       ·obtain rfl:cc = 0:=by omega
        have HTF:TimesRel R (digVal 99 c) ds cs ds.length 0:=by rw [HD99.out,HNN.out];exact HT.out
        have HNX:=Hd (HD.out.next0 HIL.out HC.out HLT.out HTF)
        clear HTF
        go_wp2
        exact ⟨⟨i + 1,_,by go_num,hlt,HX.out,HNX,HBX.out⟩,by simp [intOf];omega⟩
    ·have hbad:=HD.out.bad HIL.out HC.out (fun h=>hdR (by have:=HSAME.out.1.2 h;rw [HDV.out] at this;exact this))
     have HBAD:=Hd hbad
     obtain ⟨e1,e2,f1,f2⟩:=room31 HB.out
     clear hbad
     go_wp2
     refine bodyPost_ret (v:=.tuple #[.agg #[.bool false,.slice none 0 0],.int .i64 2]) (by simp [results,Tryz.results114,go_sem,e1,e2]) rfl ⟨_,_,_,_,0,2,rfl,Rval.zero20,.inr (.inr ⟨h0,h1,?_,rfl,rfl⟩),?_⟩
     ·rw [HBody.out];exact fun h=>HBAD.out h.2
     ·exact ((hW.trans (HB.out.mono (by omega))).setCell (Nat.le_refl _) _).setCell (Nat.le_refl _) _
   ·obtain rfl:i = T.size:=by omega
    have hall:=HD.out
    have HOK:=Hd (show AllOk R (bs T) /\ valR 65536 ds = horner R 0 (bs T) by
     refine ⟨?_,?_⟩
     ·have:=hall.2.1;rw [List.take_of_length_le (by rw [bs_length];exact Nat.le_refl _)] at this;exact this
     ·have:=hall.2.2.2.1;rw [List.take_of_length_le (by rw [bs_length];exact Nat.le_refl _)] at this;exact this)
    have hrow:=HROW.out
    rw [hn] at hrow
    have HROW2:=Hd hrow
    clear hall hrow
    go_wp2_with fail
    refine (rmade_any false A n cp ds _ HROW2.out (by omega) HD.out.2.2.1).mono ?_
    rintro e w4 ⟨ng,A2,n2,c2,rfl,hr,hb4⟩
    have hB:=HB.out.trans (hb4.mono (B':=w.heap.size + 1) hbs)
    obtain ⟨e1,e2,f1,f2⟩:=room31 hB
    have HR:=Hd hr
    clear hr
    go_wp2
    refine bodyPost_ret (v:=.tuple #[.agg #[.bool ng,.slice A2 n2 c2],.int .i64 0]) (by simp [results,Tryz.results114,go_sem,e1,e2]) rfl ⟨_,_,_,_,withSign false (valR 65536 ds),0,rfl,?_,.inr (.inl ⟨h0,h1,?_,?_,?_,rfl⟩),?_⟩
    ·obtain ⟨neg',A',n',c',ds',ev,r1,r2,r3,r4,r5,r6⟩:=HR.out.stored e1 e2 (.bool ng) (.slice A2 n2 c2)
     exact ⟨neg',A',n',c',ds',ev,r1,r2,r3,r4,r5,by omega⟩
    ·rw [HBody.out];exact HTne.out
    ·rw [HBody.out];exact HOK.out.1
    ·rw [HBody.out,HHd.out,HOK.out.2]
    ·exact ((hW.trans (hB.mono (by omega))).setCell (Nat.le_refl _) _).setCell (Nat.le_refl _) _
theorem rParse_none (S:ByteArray) (R:Int) (w:World) (hS2:S.size <= 20000) (hR:¬ (R < 2 \/ 36 < R)) (hS:S.size ≠ 0) (hh:(bs S).headD 0 ≠ 45) (hg:(bs S).headD 0 ≠ 43) : Calls Tryz.prog 114 #[.string S,.int .i64 R] w (RParsed w R S):=by
 have h0:2 <= R:=by omega
 have h1:R <= 36:=by omega
 clear hR
 have hW:=below_alloc w (.cells #[.bool false,.slice none 0 0] 34)
 obtain ⟨e1,e2,f1,f2⟩:=room31 (Below.refl (w.heap.size + 1) (w.alloc (.cells #[.bool false,.slice none 0 0] 34)))
 have hle:¬ (20000:Int) < (S.size:Int):=by omega
 have hlt:0 < S.size:=by omega
 have hb0:=bs_byte S 0 hlt
 obtain ⟨c0,hc⟩ : ∃ c0,(S[0].toNat:Int) = c0:=⟨_,rfl⟩
 have hhd:=bs_head S hlt
 rw [hc] at hhd hb0
 have hsz:(1:Int) <= (S.size:Int):=by omega
 have hsp:(0:Int) < (S.size:Int):=by omega
 have HBody:=Hd (show bodyOf (bs S) = bs S by unfold bodyOf;rw [if_neg (by omega)])
 have HHd:=Hd (show decide ((bs S).headD 0 = 45) = false by simpa using hh)
 rw [hhd] at hh hg
 have q1:(c0 == 45) = false:=by simpa using hh
 have q2:(c0 == 43) = false:=by simpa using hg
 have hTS:=hS2
 clear hhd
 by_cases hTz:S.size = 0
 ·exact absurd hTz hS
 ·have hTz0:((S.size:Int) == 0) = false:=by rw [beq_eq_false_iff_ne];omega
  have HTne:=Hd (show bs S ≠ [] from fun h=>hTz (by rw [<- bs_length,h];rfl))
  obtain ⟨i0,hii,hz0,hz1,hz2⟩:=info_parts Tryz.info3
  go_enter Tryz.func114,Tryz.ntmps114
  go_wp2_with fail
  go_loopw [7,8] (fun dv iv wr=>∃ (i:Nat) (ds:List Int),iv = .int .i64 i /\ i <= S.size /\ Ints64 wr (w.heap.size + 1) dv ds /\ Hid (RRead R (bs S) i ds) /\ Below (w.heap.size + 1) (w.alloc (.cells #[.bool false,.slice none 0 0] 34)) wr) (fun _ iv _=>S.size - (intOf iv).toNat)
  case atStart=>exact ⟨0,[],rfl,Nat.zero_le _,World.ownsRow_nil _ _ _ _,Hd ⟨Nat.zero_le _,fun c h=>by simp at h,fun d h=>by simp at h,by simp [valR,horner],Nat.le_refl _⟩,Below.refl _ _⟩
  case round=>
   obtain ⟨i,ds,rfl,hi,hown,HD,hb⟩:=hrel
   have HO:=Hd hown
   obtain ⟨A,cp,rfl,hrow⟩:=Row.of_ownsRow HO.out
   obtain ⟨n,hn⟩ : ∃ n,ds.length = n:=⟨_,rfl⟩
   have HROW:=Hd hrow
   have hni:n <= i:=by rw [<- hn];exact HD.out.2.2.2.2
   have HB:=Hd hb
   have HNN:=Hd hn
   have hbs:w.heap.size + 1 <= wr.heap.size:=by have:=hb.size;simpa using this
   clear hown hrow hb
   rw [hn]
   by_cases hlt:i < S.size
   ·have hbj:=bs_byte S i hlt
    obtain ⟨c,hc⟩ : ∃ c,((S[i].toNat:Int)) = c:=⟨_,rfl⟩
    have HC:=Hd (show (bs S).getD i 0 = c by rw [bs_get S i hlt,hc])
    rw [hc] at hbj
    have HIL:=Hd (show i < (bs S).length by rw [bs_length];exact hlt)
    clear hn
    go_wp2_with fail
    refine (Digit_ref c _ hbj.1 hbj.2).mono ?_
    rintro e wd ⟨rfl,rfl⟩
    obtain ⟨d,hd⟩ : ∃ d,digVal 36 c = d:=⟨_,rfl⟩
    have hd0:0 <= d:=by rw [<- hd];exact digVal_nonneg (by decide)
    have HDV:=Hd hd
    have HSAME:=Hd (digVal_same (c:=c) h1)
    rw [hd]
    clear hd
    by_cases hdR:d < R
    ·have HD99:=Hd (show digVal 99 c = d by rw [<- HSAME.out.2 (HSAME.out.1.1 (by rw [HDV.out];exact hdR)),HDV.out])
     have HLT:=Hd (show digVal 99 c < R by rw [HD99.out];exact hdR)
     go_wp2_with fail
     obtain ⟨wo,rfl⟩ : ∃ wo:World,wo = wr:=⟨_,rfl⟩
     go_loopw [9,10] (fun cv kv wx=>∃ (k:Nat) (cs:List Int) (cc:Int),cv = .int .i64 cc /\ kv = .int .i64 k /\ k <= n /\ Ints64 wx (w.heap.size + 1) (.slice A n cp) cs /\ Hid (TimesRel R d ds cs k cc) /\ Below (w.heap.size + 1) (w.alloc (.cells #[.bool false,.slice none 0 0] 34)) wx) (fun _ kv _=>n - (intOf kv).toNat)
     case atStart=>exact ⟨0,ds,d,rfl,rfl,Nat.zero_le _,by have:=HO.out;rw [HNN.out] at this;exact this,Hd (TimesRel.start HD.out.2.2.1 hd0 hdR),HB.out⟩
     case round=>
      obtain ⟨k,cs,cc,rfl,rfl,hkn,hown,HT,hb⟩:=hrel
      have HX:=Hd hown
      have HBX:=Hd hb
      have hbx:w.heap.size + 1 <= wr.heap.size:=by have:=hb.size;simpa using this
      clear hown hb
      have hcl:cs.length = n:=by rw [HT.out.1,HNN.out]
      have HCL:=Hd hcl
      clear hcl
      have hc0:=HT.out.2.2.2.1
      have hc1:=HT.out.2.2.2.2.1
      by_cases hk2:k < n
      ·obtain ⟨g,rfl,hg,hcell,hfr,hset⟩:=HX.out.at HCL.out hk2
       obtain ⟨x,hx⟩ : ∃ x,cs.getD k 0 = x:=⟨_,rfl⟩
       rw [hx] at hcell
       obtain ⟨x0,x1,p0,p1,hstep⟩:=HT.out.step h0 (by rw [HNN.out];exact hk2) hx
       have HST:=Hd hstep
       have hown':=hset ((x * R + cc) % 65536)
       have HOW:=Hd hown'
       have HBN:=Hd (HBX.out.setCell (p:=⟨g,k,none⟩) hg (.int .i64 ((x * R + cc) % 65536)))
       clear hx hset hstep hown'
       have q1:IntKind.i64.wrap (x * R) = x * R:=by rw [IntKind.wrap_i64];omega
       have q2:IntKind.i64.wrap (x * R + cc) = x * R + cc:=by rw [IntKind.wrap_i64];omega
       have q3:(x * R + cc).tmod 65536 = (x * R + cc) % 65536:=Int.tmod_eq_emod_of_nonneg (by omega)
       have q4:(x * R + cc).tdiv 65536 = (x * R + cc) / 65536:=Int.tdiv_eq_ediv_of_nonneg (by omega)
       have q5:IntKind.i64.wrap ((x * R + cc) % 65536) = (x * R + cc) % 65536:=by rw [IntKind.wrap_i64];omega
       have q6:IntKind.i64.wrap ((x * R + cc) / 65536) = (x * R + cc) / 65536:=by rw [IntKind.wrap_i64];omega
       go_wp2_with fail
       go_roundw
       case rel=>exact ⟨k + 1,_,_,rfl,by go_num,hk2,HOW.out,HST,HBN.out⟩
       case measure=>simp [intOf];omega
      ·obtain rfl:k = n:=by omega
       by_cases hcz:0 < cc
       ·have HX2:Hid (wr.ownsRow (w.heap.size + 1) 3 1 (.slice A k cp) k (cs.map (Value.int .i64))):=Hd (by have h:=HX.out;unfold Ints64 at h;rw [HCL.out] at h;exact h)
        go_wp2_with (at_builtin;refine wpList_append_own _ rfl (.tmp 87) (.tmp 89) _ rfl (w.heap.size + 1) 3 i0 (.int .i64 0) 1 8 Tryz.underlying32 hii hz0 hz1 hz2 rfl (by decide) _ _ _ rfl (HX2.out.alloc _) ⟨wr.heap.size,0,none⟩ 1 1 [.int .i64 cc] rfl rfl ?c1 ?c2 ?c3 ?c4 ?c5 ?_)
        case c1=>exact cell_one _ _
        case c2=>exact one_cell _
        case c3=>unfold maxLen;omega
        case c4=>omega
        case c5=>simp;omega
        intro v' w3 hown3 hg3 _
        have hb3:Below (w.heap.size + 1) (w.alloc (.cells #[.bool false,.slice none 0 0] 34)) w3:=
         (HBX.out.alloc hbx _).grown hg3 (by simp;omega) (fun g hg=>(HX2.out.lt g hg).1)
        have ho3:Ints64 w3 (w.heap.size + 1) v' (cs ++ [cc]):=by
         unfold Ints64;rw [List.length_append,List.length_singleton,List.map_append,HCL.out];exact hown3
        have HO3:=Hd ho3
        have HTF:TimesRel R (digVal 99 c) ds cs ds.length cc:=by rw [HD99.out,HNN.out];exact HT.out
        have HNX:=Hd (HD.out.next1 HIL.out HC.out HLT.out h1 HTF)
        clear hown3 hg3 ho3 HTF
        go_wp2
        exact ⟨⟨i + 1,_,by go_num,hlt,HO3.out,HNX,hb3⟩,by simp [intOf];omega⟩
       ·obtain rfl:cc = 0:=by omega
        have HTF:TimesRel R (digVal 99 c) ds cs ds.length 0:=by rw [HD99.out,HNN.out];exact HT.out
        have HNX:=Hd (HD.out.next0 HIL.out HC.out HLT.out HTF)
        clear HTF
        go_wp2
        exact ⟨⟨i + 1,_,by go_num,hlt,HX.out,HNX,HBX.out⟩,by simp [intOf];omega⟩
    ·have hbad:=HD.out.bad HIL.out HC.out (fun h=>hdR (by have:=HSAME.out.1.2 h;rw [HDV.out] at this;exact this))
     have HBAD:=Hd hbad
     obtain ⟨e1,e2,f1,f2⟩:=room31 HB.out
     clear hbad
     go_wp2
     refine bodyPost_ret (v:=.tuple #[.agg #[.bool false,.slice none 0 0],.int .i64 2]) (by simp [results,Tryz.results114,go_sem,e1,e2]) rfl ⟨_,_,_,_,0,2,rfl,Rval.zero20,.inr (.inr ⟨h0,h1,?_,rfl,rfl⟩),?_⟩
     ·rw [HBody.out];exact fun h=>HBAD.out h.2
     ·exact ((hW.trans (HB.out.mono (by omega))).setCell (Nat.le_refl _) _).setCell (Nat.le_refl _) _
   ·obtain rfl:i = S.size:=by omega
    have hall:=HD.out
    have HOK:=Hd (show AllOk R (bs S) /\ valR 65536 ds = horner R 0 (bs S) by
     refine ⟨?_,?_⟩
     ·have:=hall.2.1;rw [List.take_of_length_le (by rw [bs_length];exact Nat.le_refl _)] at this;exact this
     ·have:=hall.2.2.2.1;rw [List.take_of_length_le (by rw [bs_length];exact Nat.le_refl _)] at this;exact this)
    have hrow:=HROW.out
    rw [hn] at hrow
    have HROW2:=Hd hrow
    clear hall hrow
    go_wp2_with fail
    refine (rmade_any false A n cp ds _ HROW2.out (by omega) HD.out.2.2.1).mono ?_
    rintro e w4 ⟨ng,A2,n2,c2,rfl,hr,hb4⟩
    have hB:=HB.out.trans (hb4.mono (B':=w.heap.size + 1) hbs)
    obtain ⟨e1,e2,f1,f2⟩:=room31 hB
    have HR:=Hd hr
    clear hr
    go_wp2
    refine bodyPost_ret (v:=.tuple #[.agg #[.bool ng,.slice A2 n2 c2],.int .i64 0]) (by simp [results,Tryz.results114,go_sem,e1,e2]) rfl ⟨_,_,_,_,withSign false (valR 65536 ds),0,rfl,?_,.inr (.inl ⟨h0,h1,?_,?_,?_,rfl⟩),?_⟩
    ·obtain ⟨neg',A',n',c',ds',ev,r1,r2,r3,r4,r5,r6⟩:=HR.out.stored e1 e2 (.bool ng) (.slice A2 n2 c2)
     exact ⟨neg',A',n',c',ds',ev,r1,r2,r3,r4,r5,by omega⟩
    ·rw [HBody.out];exact HTne.out
    ·rw [HBody.out];exact HOK.out.1
    ·rw [HBody.out,HHd.out,HOK.out.2]
    ·exact ((hW.trans (hB.mono (by omega))).setCell (Nat.le_refl _) _).setCell (Nat.le_refl _) _
theorem rParse_any (S:ByteArray) (R:Int) (w:World) (hS2:S.size <= 20000) : Calls Tryz.prog 114 #[.string S,.int .i64 R] w (RParsed w R S):=by
 by_cases hR:R < 2 \/ 36 < R
 ·exact rParse_bad S R w hR
 by_cases hS:S.size = 0
 ·exact rParse_empty S R w hR hS
 by_cases hh:(bs S).headD 0 = 45
 ·exact rParse_neg S R w hS2 hR hS hh
 by_cases hg:(bs S).headD 0 = 43
 ·exact rParse_pos S R w hS2 hR hS hg
 exact rParse_none S R w hS2 hR hS hh hg
theorem zeros_made64 (n:Nat) : (madeCells (Value.int .i64 0).cells (n * 1)).toList = (List.replicate n (0:Int)).map (Value.int .i64):=by
 rw [Nat.mul_one];simp [Value.cells,toList_madeCells_one]
def TxRel (R z:Int) (ds:List Int) (y:Int) : Prop:=
 DigR R ds /\ valR R ds + R ^ ds.length * y = z /\ 0 <= y /\ (y = 0 -> ds ≠ [] /\ ds.getLastD 0 ≠ 0)
theorem TxRel.start {R z:Int} (h:0 < z) : TxRel R z [] z:=
 ⟨fun d h=>by simp at h,by simp [valR],by omega,fun h'=>by omega⟩
theorem TxRel.step {R z y:Int} {ds:List Int} (h:TxRel R z ds y) (hR:2 <= R) (hy:0 < y) : TxRel R z (ds ++ [y % R]) (y / R):=by
 obtain ⟨hd,hv,_,_⟩:=h
 have m0:0 <= y % R:=Int.emod_nonneg _ (by omega)
 have m1:y % R < R:=Int.emod_lt_of_pos _ (by omega)
 have e:=Int.mul_ediv_add_emod y R
 refine ⟨?_,?_,Int.ediv_nonneg (by omega) (by omega),fun h0=>⟨by simp,?_⟩⟩
 ·intro x hx
  rcases List.mem_append.1 hx with hx | hx
  ·exact hd x hx
  ·simp at hx;subst hx;exact ⟨m0,m1⟩
 ·rw [valR_append,List.length_append,List.length_singleton,Int.pow_succ]
  simp only [valR,Int.mul_zero,Int.add_zero]
  have e2:R ^ ds.length * R * (y / R) = R ^ ds.length * (R * (y / R)):=Int.mul_assoc _ _ _
  have e3:R ^ ds.length * y = R ^ ds.length * (R * (y / R)) + R ^ ds.length * (y % R):=by
   rw [<- Int.mul_add];exact congrArg _ e.symm
  rw [e2];omega
 ·have e':y % R = y:=by rw [h0,Int.mul_zero,Int.zero_add] at e;exact e
  rw [List.getLastD_concat,e']
  omega
theorem TxRel.len {R z y:Int} {ds:List Int} (h:TxRel R z ds y) (hR:2 <= R) (hy:0 < y) : R ^ ds.length <= z:=by
 obtain ⟨hd,hv,_,_⟩:=h
 have h3:=valR_nonneg (show 0 <= R by omega) hd
 have h4:R ^ ds.length * 1 <= R ^ ds.length * y:=Int.mul_le_mul_of_nonneg_left (by omega) (Int.pow_nonneg (by omega))
 omega
theorem TxRel.done {R z:Int} {ds:List Int} (h:TxRel R z ds 0) : DigitsOf R z ds:=by
 obtain ⟨hd,hv,_,hz⟩:=h
 exact ⟨hd,by simpa using hv,(hz rfl).1,(hz rfl).2⟩
def RDiv (R:Int) (ys qs:List Int) (k:Nat) (r:Int) : Prop:=
 k <= ys.length /\ 0 <= r /\ r < R /\ qs.length = ys.length - k /\ DigR 65536 qs /\ valR 65536 (ys.drop k) = R * valR 65536 qs + r
theorem RDiv.start {R:Int} (ys:List Int) (hR:2 <= R) : RDiv R ys [] ys.length 0:=
 ⟨Nat.le_refl _,by omega,by omega,by simp,fun d h=>by simp at h,by simp [valR]⟩
theorem RDiv.step {R:Int} {ys qs:List Int} {k:Nat} {r x:Int} (h:RDiv R ys qs k r) (hR:2 <= R) (hR2:R <= 36) (hk:k ≠ 0) (hy:DigR 65536 ys) (hx:ys.getD (k - 1) 0 = x) :
  0 <= x /\ x < 65536 /\ RDiv R ys ((r * 65536 + x) / R :: qs) (k - 1) ((r * 65536 + x) % R):=by
 obtain ⟨hkn,r0,r1,hl,hd,hv⟩:=h
 have hk1:k - 1 < ys.length:=by omega
 have hxd:0 <= x /\ x < 65536:=by
  rw [<- hx]
  have e:ys.getD (k - 1) 0 = ys[k - 1]:=by simp [List.getD,hk1]
  rw [e];exact hy _ (List.getElem_mem hk1)
 have z0:0 <= r * 65536 + x:=by omega
 refine ⟨hxd.1,hxd.2,by omega,Int.emod_nonneg _ (by omega),Int.emod_lt_of_pos _ (by omega),by simp [hl];omega,?_,?_⟩
 ·intro d hm
  rcases List.mem_cons.1 hm with rfl | hm
  ·exact ⟨Int.ediv_nonneg z0 (by omega),Int.ediv_lt_of_lt_mul (by omega) (by omega)⟩
  ·exact hd d hm
 ·rw [drop_cons ys (k - 1) hk1,hx]
  simp only [valR]
  rw [show k - 1 + 1 = k from by omega,hv]
  have e1:=Int.mul_ediv_add_emod (r * 65536 + x) R
  have e2:R * ((r * 65536 + x) / R + 65536 * valR 65536 qs) = R * ((r * 65536 + x) / R) + 65536 * (R * valR 65536 qs):=by
   rw [Int.mul_add];grind
  rw [e2];omega
theorem RDiv.done {R:Int} {ys qs:List Int} {r:Int} (h:RDiv R ys qs 0 r) (hR:2 <= R) : valR 65536 qs = valR 65536 ys / R /\ r = valR 65536 ys % R /\ DigR 65536 qs /\ qs.length = ys.length:=by
 obtain ⟨_,r0,r1,hl,hd,hv⟩:=h
 rw [List.drop_zero] at hv
 refine ⟨?_,?_,hd,hl⟩
 ·rw [hv,Int.add_comm,Int.add_mul_ediv_left _ _ (by omega),Int.ediv_eq_zero_of_lt r0 r1];omega
 ·rw [hv,Int.add_comm,Int.add_mul_emod_self_left,Int.emod_eq_of_lt r0 r1]
theorem valR_lt {R:Int} (hR:1 <= R) {l:List Int} (h:DigR R l) : valR R l < R ^ l.length:=by
 induction l with
 | nil=>simp [valR]
 | cons d l ih=>
  have h1:=ih (fun x hx=>h x (List.mem_cons_of_mem _ hx))
  have h2:=h d (List.mem_cons_self ..)
  have h3:R * (valR R l + 1) <= R * R ^ l.length:=Int.mul_le_mul_of_nonneg_left h1 (by omega)
  rw [Int.mul_add,Int.mul_one] at h3
  rw [List.length_cons,Int.pow_succ,Int.mul_comm (R ^ l.length) R]
  simp only [valR]
  omega
theorem pow_mono65 (n:Nat) : (65536:Int) ^ n <= BB ^ n:=by
 rw [BB_def]
 induction n with
 | zero=>simp
 | succ n ih=>
  rw [Int.pow_succ,Int.pow_succ]
  have h0:(0:Int) <= 65536 ^ n:=Int.pow_nonneg (by decide)
  omega
theorem bs_append (S T:ByteArray) : bs (S ++ T) = bs S ++ bs T:=by
 unfold bs
 rw [<- List.map_append]
 congr 1
theorem nameOf_byte {d:Int} (h0:0 <= d) (h1:d < 36) : 0 <= nameOf d /\ nameOf d < 256:=by
 unfold nameOf;split <;> omega
def DIG:ByteArray:={ data:=#[48,49,50,51,52,53,54,55,56,57,65,66,67,68,69,70,71,72,73,74,75,76,77,78,79,80,81,82,83,84,85,86,87,88,89,90] }
theorem dig_name:∀ r:Nat,r < 36 -> bs (DIG.extract r (r + 1)) = [nameOf r]:=by
 intro r hr
 have:∀ r:Fin 36,bs (DIG.extract r.val (r.val + 1)) = [nameOf r.val]:=by decide
 exact this ⟨r,hr⟩
theorem bs_strOf {xs:List Int} (h:∀ x ∈ xs,0 <= x /\ x < 256) : bs (strOf xs) = xs:=by
 unfold bs strOf
 simp only [List.map_map]
 refine (List.map_congr_left (fun x hx=>?_)).trans (List.map_id _)
 have:=h x hx
 simp only [Function.comp,UInt8.toNat_ofNat',id]
 omega
theorem digits_unique {R:Int} (hR:2 <= R) : ∀ {ds es:List Int} {z:Int},DigitsOf R z ds -> DigitsOf R z es -> ds = es:=by
 have key:∀ (ds es:List Int),DigR R ds -> DigR R es -> (ds ≠ [] -> ds.getLastD 0 ≠ 0) -> (es ≠ [] -> es.getLastD 0 ≠ 0) -> valR R ds = valR R es -> ds = es:=by
  have pos:∀ es:List Int,DigR R es -> (es ≠ [] -> es.getLastD 0 ≠ 0) -> valR R es = 0 -> es = []:=by
   intro es
   induction es with
   | nil=>intros;rfl
   | cons b es ih=>
    intro he hl hv
    exfalso
    have hb:=he b (List.mem_cons_self ..)
    have he':DigR R es:=fun x hx=>he x (List.mem_cons_of_mem _ hx)
    have h1:=valR_nonneg (show 0 <= R by omega) he'
    have h2:0 <= R * valR R es:=Int.mul_nonneg (by omega) h1
    simp only [valR] at hv
    have h3:R * valR R es = 0:=by omega
    have h4:valR R es = 0:=by
     rcases Int.mul_eq_zero.1 h3 with h | h
     ·omega
     ·exact h
    have h5:=ih he' (fun hne=>by
     have:=hl (by simp)
     cases es with
     | nil=>exact absurd rfl hne
     | cons c es=>simpa [List.getLastD] using this) h4
    subst h5
    have:=hl (by simp)
    simp [List.getLastD] at this
    omega
  intro ds
  induction ds with
  | nil=>intro es _ he _ hle hv;exact (pos es he hle hv.symm).symm
  | cons a ds ih=>
   intro es hd he hld hle hv
   cases es with
   | nil=>exact pos (a :: ds) hd hld hv
   | cons b es=>
    have ha:=hd a (List.mem_cons_self ..)
    have hb:=he b (List.mem_cons_self ..)
    have hd':DigR R ds:=fun x hx=>hd x (List.mem_cons_of_mem _ hx)
    have he':DigR R es:=fun x hx=>he x (List.mem_cons_of_mem _ hx)
    simp only [valR] at hv
    have e1:(a + R * valR R ds) % R = a:=by rw [Int.add_mul_emod_self_left];exact Int.emod_eq_of_lt ha.1 ha.2
    have e2:(b + R * valR R es) % R = b:=by rw [Int.add_mul_emod_self_left];exact Int.emod_eq_of_lt hb.1 hb.2
    have hab:a = b:=by rw [<- e1,<- e2,hv]
    subst hab
    have h3:R * valR R ds = R * valR R es:=by omega
    have h4:valR R ds = valR R es:=Int.eq_of_mul_eq_mul_left (by omega) h3
    rw [ih es hd' he' (fun hne=>by
     have:=hld (by simp)
     cases ds with
     | nil=>exact absurd rfl hne
     | cons c ds=>simpa [List.getLastD] using this) (fun hne=>by
     have:=hle (by simp)
     cases es with
     | nil=>exact absurd rfl hne
     | cons c es=>simpa [List.getLastD] using this) h4]
 intro ds es z h g
 exact key ds es h.1 g.1 (fun _=>h.2.2.2) (fun _=>g.2.2.2) (h.2.1.trans g.2.1.symm)
end Go.Proofs.YtbajnceoolkckaaGreat
