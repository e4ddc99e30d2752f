/- Of the proof of RationalRounds: Long2, RTexts0. -/
import Derived.Test.YtbajnceoolkckaaGreatRd05
open List renaming set_cons_succ → cS
open Go.Lib renaming hid → Hd
set_option maxRecDepth 100000
set_option maxHeartbeats 16000000
namespace Go.Proofs.YtbajnceoolkckaaGreat
open Go.RowKit LM
theorem takeAway_any (base g N i bb bo c cb n:Nat) (rs bs:List Int) (d:Int) (w:World) (ho:Own w base g N rs) (dr:Dig rs) (db:Dig bs) (hbl:bs.length = n) (hin:i + n + 1 <= N) (hN:N <= 1048579)
  (hbb:bb < w.heap.size) (hne:bb ≠ g) (hbc:∀ t,t < n -> w.cell? ⟨bb,bo + t,none⟩ = some (.int .u32 (bs.getD t 0))) (hd:0 <= d /\ d < BB) :
  Calls Tryz.prog 191 #[.slice (some ⟨g,i,none⟩) (n + 1) c,.slice (some ⟨bb,bo,none⟩) n cb,.int .u32 d] w fun e w'=>∃ br zs,e = .returned (.bool (br != 0)) /\ (0 <= br /\ br <= 1) /\ zs.length = n + 1 /\ Dig zs /\
   val zs = val (partOf rs i n) - d * val bs + BB ^ (n + 1) * br /\ Own w' base g N (rs.take i ++ (zs ++ rs.drop (i + n + 1))) /\ w.grownBy w' (some g):=by
 have HO:=Hd ho
 have HBC:=Hd hbc
 have HBL:=Hd hbl
 have HD:=Hd hd
 rw [BB_def] at hd
 obtain ⟨hd0,hd1⟩:=hd
 clear ho hbc hbl
 go_enter Tryz.func191,Tryz.ntmps191
 go_wp2_with fail
 go_loopw [7,8,14] (fun cv bv iv wr=>∃ (k:Nat) (cc br:Int),iv = .int .i64 k /\ cv = .int .u64 cc /\ bv = .int .u32 br /\ TakeRel w wr base g N i n rs bs d k cc br) (fun _ _ iv _=>n - (intOf iv).toNat)
 case atStart=>exact ⟨0,0,0,rfl,rfl,rfl,Nat.zero_le _,by decide,by decide,[],Win.start HO.out (by omega),Dig.nil,by simp [val]⟩
 case round=>
  obtain ⟨k,cc,br,rfl,rfl,rfl,hrel⟩:=hrel
  have HR:=Hd hrel
  obtain ⟨cx,fx,hg⟩:=hrel.cells hin
  obtain ⟨hk,hcc,hbr,-⟩:=hrel
  rw [BB_def] at hcc
  obtain ⟨hcc0,hcc1⟩:=hcc
  obtain ⟨hbr0,hbr1⟩:=hbr
  obtain ⟨x,ex⟩ : ∃ x,rs.getD (i + k) 0 = x:=⟨_,rfl⟩
  rw [ex] at cx
  have bx:=dr.getD (i + k)
  rw [ex] at bx
  have BX:=Hd bx
  rw [BB_def] at bx
  obtain ⟨bx0,bx1⟩:=bx
  have EX:=Hd ex
  clear ex
  by_cases hlt:k < n
  ·obtain ⟨y,ey⟩ : ∃ y,bs.getD k 0 = y:=⟨_,rfl⟩
   have cy:wr.cell? ⟨bb,bo + k,none⟩ = some (.int .u32 y):=by rw [grown_cell hg hbb hne,<- ey];exact HBC.out k hlt
   have by':=db.getD k
   rw [ey] at by'
   obtain ⟨s,hs⟩ : ∃ s,cc + y * d = s:=⟨_,rfl⟩
   obtain ⟨⟨p0,p1⟩,⟨s0,s1⟩,⟨l0,l1⟩,hst⟩:=HR.out.step hin hlt HD.out BX.out by' EX.out ey hs
   have HST:=Hd hst
   rw [BB_def] at by'
   obtain ⟨by0,by1⟩:=by'
   have q1:(k:Int) < ((n + 1:Nat) : Int):=by omega
   clear hst hg ey
   go_wp2_with fail
   refine (sub32_any x (s % 4294967296) br _ ⟨bx0,bx1⟩ ⟨l0,l1⟩ ⟨hbr0,hbr1⟩).mono ?_
   rintro e w' ⟨rfl,rfl⟩
   go_wp2_with fail
   exact ⟨⟨k + 1,_,_,by go_num,rfl,rfl,HST.out⟩,by simp [intOf];omega⟩
  ·obtain rfl:k = n:=by omega
   obtain ⟨⟨t0,t1⟩,zs,hzl,hzd,hzv,hzo,hzg⟩:=HR.out.last hin HBL.out BX.out EX.out
   have HF:=Hd (And.intro (And.intro t0 t1) (And.intro hzl (And.intro hzd (And.intro hzv (And.intro hzo hzg)))))
   have q1:(k:Int) < ((k + 1:Nat) : Int):=by omega
   clear hzl hzd hzv hzo hzg hg t0 t1
   go_wp2_with fail
   refine (sub32_any x cc br _ ⟨bx0,bx1⟩ ⟨hcc0,hcc1⟩ ⟨hbr0,hbr1⟩).mono ?_
   rintro e w' ⟨rfl,rfl⟩
   go_wp2_with fail
   go_ret
   obtain ⟨h1,h2,h3,h4,h5,h6⟩:=HF.out
   exact ⟨_,zs,rfl,h1,h2,h3,h4,h5,h6⟩
theorem add32_any (x y b:Int) (w:World) (hx:0 <= x /\ x < 4294967296) (hy:0 <= y /\ y < 4294967296) (hb:0 <= b /\ b <= 1) :
  Calls Tryz.prog 195 #[.int .u32 x,.int .u32 y,.int .u32 b] w fun e w'=>e = .returned (.tuple #[.int .u32 ((x + y + b) % 4294967296),.int .u32 ((x + y + b) / 4294967296)]) /\ w = w':=by
 have hs:¬ IntKind.u32.signed = true:=by decide
 obtain ⟨x0,x1⟩:=hx
 obtain ⟨y0,y1⟩:=hy
 obtain ⟨b0,b1⟩:=hb
 go_enter Tryz.func195,Tryz.ntmps195
 go_wp2
 go_ret2
 exact ⟨rfl,rfl⟩
theorem putBack_any (base g N i bb bo c cb n:Nat) (rs bs:List Int) (w:World) (ho:Own w base g N rs) (dr:Dig rs) (db:Dig bs) (hbl:bs.length = n) (hin:i + n + 1 <= N) (hN:N <= 1048579)
  (hbb:bb < w.heap.size) (hne:bb ≠ g) (hbc:∀ t,t < n -> w.cell? ⟨bb,bo + t,none⟩ = some (.int .u32 (bs.getD t 0))) :
  Calls Tryz.prog 192 #[.slice (some ⟨g,i,none⟩) (n + 1) c,.slice (some ⟨bb,bo,none⟩) n cb] w fun e w'=>e = .returned (.tuple #[]) /\ ∃ zs,zs.length = n + 1 /\ Dig zs /\
   val zs = (val (partOf rs i n) + val bs) % BB ^ (n + 1) /\ Own w' base g N (rs.take i ++ (zs ++ rs.drop (i + n + 1))) /\ w.grownBy w' (some g):=by
 have HO:=Hd ho
 have HBC:=Hd hbc
 have HBL:=Hd hbl
 clear ho hbc hbl
 go_enter Tryz.func192,Tryz.ntmps192
 go_wp2_with fail
 go_loopw [4,9] (fun cv iv wr=>∃ (k:Nat) (cc:Int),iv = .int .i64 k /\ cv = .int .u32 cc /\ PutRel w wr base g N i n rs bs k cc) (fun _ iv _=>n - (intOf iv).toNat)
 case atStart=>exact ⟨0,0,rfl,rfl,Nat.zero_le _,by decide,[],Win.start HO.out (by omega),Dig.nil,by simp [val]⟩
 case round=>
  obtain ⟨k,cc,rfl,rfl,hrel⟩:=hrel
  have HR:=Hd hrel
  obtain ⟨cx,fx,hg⟩:=hrel.cells hin
  obtain ⟨hk,hcc,-⟩:=hrel
  obtain ⟨hcc0,hcc1⟩:=hcc
  obtain ⟨x,ex⟩ : ∃ x,rs.getD (i + k) 0 = x:=⟨_,rfl⟩
  rw [ex] at cx
  have bx:=dr.getD (i + k)
  rw [ex] at bx
  have BX:=Hd bx
  rw [BB_def] at bx
  obtain ⟨bx0,bx1⟩:=bx
  have EX:=Hd ex
  clear ex
  by_cases hlt:k < n
  ·obtain ⟨y,ey⟩ : ∃ y,bs.getD k 0 = y:=⟨_,rfl⟩
   have cy:wr.cell? ⟨bb,bo + k,none⟩ = some (.int .u32 y):=by rw [grown_cell hg hbb hne,<- ey];exact HBC.out k hlt
   have by':=db.getD k
   rw [ey] at by'
   have HST:=Hd (HR.out.step hin hlt BX.out by' EX.out ey)
   rw [BB_def] at by'
   obtain ⟨by0,by1⟩:=by'
   have q1:(k:Int) < ((n + 1:Nat) : Int):=by omega
   clear hg ey
   go_wp2_with fail
   refine (add32_any x y cc _ ⟨bx0,bx1⟩ ⟨by0,by1⟩ ⟨hcc0,hcc1⟩).mono ?_
   rintro e w' ⟨rfl,rfl⟩
   go_wp2_with fail
   exact ⟨⟨k + 1,_,by go_num,rfl,HST.out⟩,by simp [intOf];omega⟩
  ·obtain rfl:k = n:=by omega
   obtain ⟨zs,hzl,hzd,hzv,hzo,hzg⟩:=HR.out.last hin HBL.out EX.out
   have HF:=Hd (And.intro hzl (And.intro hzd (And.intro hzv (And.intro hzo hzg))))
   have q1:(k:Int) < ((k + 1:Nat) : Int):=by omega
   have hs:¬ IntKind.u32.signed = true:=by decide
   clear hzl hzd hzv hzo hzg hg
   go_wp2_with fail
   go_end0
   exact ⟨rfl,zs,HF.out⟩
theorem Ints64.at {w:World} {base n c:Nat} {A:Option Addr} {ds:List Int} (h:Ints64 w base (.slice A n c) ds) (hn:ds.length = n) {k:Nat} (hk:k < n) :
  ∃ g,A = some ⟨g,0,none⟩ /\ base <= g /\ w.cell? ⟨g,k,none⟩ = some (.int .i64 (ds.getD k 0)) /\ w.frozen? ⟨g,k,none⟩ = false /\ ∀ u,Ints64 (w.setCell ⟨g,k,none⟩ (.int .i64 u)) base (.slice A n c) (ds.set k u):=by
 have h':=h
 unfold Ints64 at h
 rw [hn] at h
 rcases h.2 with ⟨h0,h1⟩ | ⟨g,cap,cur,hv,hb,r⟩
 ·omega
 ·simp only [Value.slice.injEq,true_and] at hv
  obtain ⟨rfl,rfl⟩:=hv
  refine ⟨g,rfl,hb,?_,h.frozenAt k,fun u=>?_⟩
  ·rw [h.cellAt k (by omega)];simp [List.getD,hn,hk]
  ·have:=(h.stored k (.int .i64 u)).1
   rw [<- List.map_set] at this
   unfold Ints64
   rw [List.length_set,hn]
   exact this
theorem valR_set (R:Int) (l:List Int) (i:Nat) (d:Int) (h:i < l.length) : valR R (l.set i d) = valR R l + R ^ i * (d - l.getD i 0):=by
 induction l generalizing i with
 | nil=>simp at h
 | cons x l ih=>
  cases i with
  | zero=>simp [valR];omega
  | succ i=>
   have:=ih i (by simpa using h)
   simp only [cS,valR,List.getD_cons_succ] at *
   rw [this,Int.pow_succ,Int.mul_add]
   grind
theorem DigR.set' {R:Int} {l:List Int} (h:DigR R l) (i:Nat) {d:Int} (h0:0 <= d) (h1:d < R) : DigR R (l.set i d):=by
 intro x hx
 rcases List.mem_or_eq_of_mem_set hx with h' | rfl
 ·exact h x h'
 ·exact ⟨h0,h1⟩
def TimesRel (R d:Int) (ds cs:List Int) (k:Nat) (cc:Int) : Prop:=
 cs.length = ds.length /\ k <= ds.length /\ DigR 65536 cs /\ 0 <= cc /\ cc < R /\ valR 65536 (cs.take k) + 65536 ^ k * cc = valR 65536 (ds.take k) * R + d /\ cs.drop k = ds.drop k
theorem TimesRel.step {R d:Int} {ds cs:List Int} {k:Nat} {cc x:Int} (h:TimesRel R d ds cs k cc) (hR:2 <= R) (hk:k < ds.length) (hx:cs.getD k 0 = x) :
  0 <= x /\ x < 65536 /\ 0 <= x * R /\ x * R <= 65535 * R /\ TimesRel R d ds (cs.set k ((x * R + cc) % 65536)) (k + 1) ((x * R + cc) / 65536):=by
 obtain ⟨hl,_,hd,c0,c1,hv,hr⟩:=h
 have hkc:k < cs.length:=by omega
 have hxd:0 <= x /\ x < 65536:=by
  rw [<- hx]
  have e:cs.getD k 0 = cs[k]:=by simp [List.getD,hkc]
  rw [e];exact hd _ (List.getElem_mem hkc)
 have hp0:0 <= x * R:=Int.mul_nonneg hxd.1 (by omega)
 have hp1:x * R <= 65535 * R:=Int.mul_le_mul_of_nonneg_right (by omega) (by omega)
 have hdk:ds.getD k 0 = x:=by
  have e1:cs.getD k 0 = (cs.drop k).headD 0:=by cases hq:cs.drop k with
   | nil=>have:=congrArg List.length hq;simp at this;omega
   | cons a t=>rw [drop_cons cs k hkc] at hq;simp at hq;rw [<- hq.1];rfl
  have e2:ds.getD k 0 = (ds.drop k).headD 0:=by cases hq:ds.drop k with
   | nil=>have:=congrArg List.length hq;simp at this;omega
   | cons a t=>rw [drop_cons ds k hk] at hq;simp at hq;rw [<- hq.1];rfl
  rw [e2,<- hr,<- e1,hx]
 refine ⟨hxd.1,hxd.2,hp0,hp1,by simpa using hl,hk,hd.set' k (Int.emod_nonneg _ (by decide)) (Int.emod_lt_of_pos _ (by decide)),Int.ediv_nonneg (by omega) (by decide),?_,?_,?_⟩
 ·exact Int.ediv_lt_of_lt_mul (by decide) (by omega)
 ·have hkset:k < (cs.set k ((x * R + cc) % 65536)).length:=by simpa using hkc
  have e3:(cs.set k ((x * R + cc) % 65536)).getD k 0 = (x * R + cc) % 65536:=by simp [List.getD,hkc]
  rw [take_snoc _ k hkset,e3,take_snoc ds k hk,hdk,List.take_set_of_le (Nat.le_refl k),valR_append,valR_append,List.length_take,List.length_take,Nat.min_eq_left (by omega),Nat.min_eq_left (by omega)]
  simp only [valR,Int.mul_zero,Int.add_zero]
  rw [Int.add_mul,Int.pow_succ]
  have e4:(65536:Int) ^ k * (x * R + cc) = 65536 ^ k * (65536 * ((x * R + cc) / 65536)) + 65536 ^ k * ((x * R + cc) % 65536):=by
   rw [<- Int.mul_add]
   exact congrArg _ (by omega:x * R + cc = 65536 * ((x * R + cc) / 65536) + (x * R + cc) % 65536)
  rw [Int.mul_add] at e4
  have e5:(65536:Int) ^ k * x * R = 65536 ^ k * (x * R):=Int.mul_assoc _ _ _
  have e6:(65536:Int) ^ k * 65536 * ((x * R + cc) / 65536) = 65536 ^ k * (65536 * ((x * R + cc) / 65536)):=Int.mul_assoc _ _ _
  rw [e5,e6]
  omega
 ·have:=congrArg (List.drop 1) hr
  rw [List.drop_drop,List.drop_drop] at this
  rw [List.drop_set_of_lt (by omega)]
  exact this
theorem TimesRel.start {R d:Int} {ds:List Int} (hd:DigR 65536 ds) (h0:0 <= d) (h1:d < R) : TimesRel R d ds ds 0 d:=
 ⟨rfl,Nat.zero_le _,hd,h0,h1,by simp [valR],rfl⟩
def RRead (R:Int) (cs:List Int) (i:Nat) (ds:List Int) : Prop:=
 i <= cs.length /\ AllOk R (cs.take i) /\ DigR 65536 ds /\ valR 65536 ds = horner R 0 (cs.take i) /\ ds.length <= i
theorem RRead.bad {R:Int} {cs ds:List Int} {i:Nat} {c:Int} (_h:RRead R cs i ds) (hi:i < cs.length) (hc:cs.getD i 0 = c) (hd:¬ digVal 99 c < R) : ¬ AllOk R cs:=by
 intro ho
 apply hd
 rw [<- hc]
 apply ho
 have:cs.getD i 0 = cs[i]:=by simp [List.getD,hi]
 rw [this]
 exact List.getElem_mem hi
theorem Rval.zero20 {w:World} : Rval w (.agg #[.bool false,.slice none 0 0]) 0 20000:=
 ⟨false,none,0,0,[],rfl,Row.nil_,fun d h=>by simp at h,.inl rfl,rfl,(fun h=>by cases h),Nat.zero_le _⟩
theorem zeros_made64 (n:Nat) : (madeCells (Value.int .i64 0).cells (n * 1)).toList = (List.replicate n (0:Int)).map (Value.int .i64):=by
 rw [Nat.mul_one];simp [Value.cells,toList_madeCells_one]
def TxRel (R z:Int) (ds:List Int) (y:Int) : Prop:=
 DigR R ds /\ valR R ds + R ^ ds.length * y = z /\ 0 <= y /\ (y = 0 -> ds ≠ [] /\ ds.getLastD 0 ≠ 0)
theorem TxRel.start {R z:Int} (h:0 < z) : TxRel R z [] z:=
 ⟨fun d h=>by simp at h,by simp [valR],by omega,fun h'=>by omega⟩
theorem TxRel.step {R z y:Int} {ds:List Int} (h:TxRel R z ds y) (hR:2 <= R) (hy:0 < y) : TxRel R z (ds ++ [y % R]) (y / R):=by
 obtain ⟨hd,hv,_,_⟩:=h
 have m0:0 <= y % R:=Int.emod_nonneg _ (by omega)
 have m1:y % R < R:=Int.emod_lt_of_pos _ (by omega)
 have e:=Int.mul_ediv_add_emod y R
 refine ⟨?_,?_,Int.ediv_nonneg (by omega) (by omega),fun h0=>⟨by simp,?_⟩⟩
 ·intro x hx
  rcases List.mem_append.1 hx with hx | hx
  ·exact hd x hx
  ·simp at hx;subst hx;exact ⟨m0,m1⟩
 ·rw [valR_append,List.length_append,List.length_singleton,Int.pow_succ]
  simp only [valR,Int.mul_zero,Int.add_zero]
  have e2:R ^ ds.length * R * (y / R) = R ^ ds.length * (R * (y / R)):=Int.mul_assoc _ _ _
  have e3:R ^ ds.length * y = R ^ ds.length * (R * (y / R)) + R ^ ds.length * (y % R):=by
   rw [<- Int.mul_add];exact congrArg _ e.symm
  rw [e2];omega
 ·have e':y % R = y:=by rw [h0,Int.mul_zero,Int.zero_add] at e;exact e
  rw [List.getLastD_concat,e']
  omega
theorem TxRel.len {R z y:Int} {ds:List Int} (h:TxRel R z ds y) (hR:2 <= R) (hy:0 < y) : R ^ ds.length <= z:=by
 obtain ⟨hd,hv,_,_⟩:=h
 have h3:=valR_nonneg (show 0 <= R by omega) hd
 have h4:R ^ ds.length * 1 <= R ^ ds.length * y:=Int.mul_le_mul_of_nonneg_left (by omega) (Int.pow_nonneg (by omega))
 omega
theorem TxRel.done {R z:Int} {ds:List Int} (h:TxRel R z ds 0) : DigitsOf R z ds:=by
 obtain ⟨hd,hv,_,hz⟩:=h
 exact ⟨hd,by simpa using hv,(hz rfl).1,(hz rfl).2⟩
def RDiv (R:Int) (ys qs:List Int) (k:Nat) (r:Int) : Prop:=
 k <= ys.length /\ 0 <= r /\ r < R /\ qs.length = ys.length - k /\ DigR 65536 qs /\ valR 65536 (ys.drop k) = R * valR 65536 qs + r
theorem RDiv.start {R:Int} (ys:List Int) (hR:2 <= R) : RDiv R ys [] ys.length 0:=
 ⟨Nat.le_refl _,by omega,by omega,by simp,fun d h=>by simp at h,by simp [valR]⟩
theorem RDiv.step {R:Int} {ys qs:List Int} {k:Nat} {r x:Int} (h:RDiv R ys qs k r) (hR:2 <= R) (hR2:R <= 36) (hk:k ≠ 0) (hy:DigR 65536 ys) (hx:ys.getD (k - 1) 0 = x) :
  0 <= x /\ x < 65536 /\ RDiv R ys ((r * 65536 + x) / R :: qs) (k - 1) ((r * 65536 + x) % R):=by
 obtain ⟨hkn,r0,r1,hl,hd,hv⟩:=h
 have hk1:k - 1 < ys.length:=by omega
 have hxd:0 <= x /\ x < 65536:=by
  rw [<- hx]
  have e:ys.getD (k - 1) 0 = ys[k - 1]:=by simp [List.getD,hk1]
  rw [e];exact hy _ (List.getElem_mem hk1)
 have z0:0 <= r * 65536 + x:=by omega
 refine ⟨hxd.1,hxd.2,by omega,Int.emod_nonneg _ (by omega),Int.emod_lt_of_pos _ (by omega),by simp [hl];omega,?_,?_⟩
 ·intro d hm
  rcases List.mem_cons.1 hm with rfl | hm
  ·exact ⟨Int.ediv_nonneg z0 (by omega),Int.ediv_lt_of_lt_mul (by omega) (by omega)⟩
  ·exact hd d hm
 ·rw [drop_cons ys (k - 1) hk1,hx]
  simp only [valR]
  rw [show k - 1 + 1 = k from by omega,hv]
  have e1:=Int.mul_ediv_add_emod (r * 65536 + x) R
  have e2:R * ((r * 65536 + x) / R + 65536 * valR 65536 qs) = R * ((r * 65536 + x) / R) + 65536 * (R * valR 65536 qs):=by
   rw [Int.mul_add];grind
  rw [e2];omega
theorem RDiv.done {R:Int} {ys qs:List Int} {r:Int} (h:RDiv R ys qs 0 r) (hR:2 <= R) : valR 65536 qs = valR 65536 ys / R /\ r = valR 65536 ys % R /\ DigR 65536 qs /\ qs.length = ys.length:=by
 obtain ⟨_,r0,r1,hl,hd,hv⟩:=h
 rw [List.drop_zero] at hv
 refine ⟨?_,?_,hd,hl⟩
 ·rw [hv,Int.add_comm,Int.add_mul_ediv_left _ _ (by omega),Int.ediv_eq_zero_of_lt r0 r1];omega
 ·rw [hv,Int.add_comm,Int.add_mul_emod_self_left,Int.emod_eq_of_lt r0 r1]
theorem valR_lt {R:Int} (hR:1 <= R) {l:List Int} (h:DigR R l) : valR R l < R ^ l.length:=by
 induction l with
 | nil=>simp [valR]
 | cons d l ih=>
  have h1:=ih (fun x hx=>h x (List.mem_cons_of_mem _ hx))
  have h2:=h d (List.mem_cons_self ..)
  have h3:R * (valR R l + 1) <= R * R ^ l.length:=Int.mul_le_mul_of_nonneg_left h1 (by omega)
  rw [Int.mul_add,Int.mul_one] at h3
  rw [List.length_cons,Int.pow_succ,Int.mul_comm (R ^ l.length) R]
  simp only [valR]
  omega
theorem nameOf_byte {d:Int} (h0:0 <= d) (h1:d < 36) : 0 <= nameOf d /\ nameOf d < 256:=by
 unfold nameOf;split <;> omega
theorem bs_strOf {xs:List Int} (h:∀ x ∈ xs,0 <= x /\ x < 256) : bs (strOf xs) = xs:=by
 unfold bs strOf
 simp only [List.map_map]
 refine (List.map_congr_left (fun x hx=>?_)).trans (List.map_id _)
 have:=h x hx
 simp only [Function.comp,UInt8.toNat_ofNat',id]
 omega
theorem digits_unique {R:Int} (hR:2 <= R) : ∀ {ds es:List Int} {z:Int},DigitsOf R z ds -> DigitsOf R z es -> ds = es:=by
 have key:∀ (ds es:List Int),DigR R ds -> DigR R es -> (ds ≠ [] -> ds.getLastD 0 ≠ 0) -> (es ≠ [] -> es.getLastD 0 ≠ 0) -> valR R ds = valR R es -> ds = es:=by
  have pos:∀ es:List Int,DigR R es -> (es ≠ [] -> es.getLastD 0 ≠ 0) -> valR R es = 0 -> es = []:=by
   intro es
   induction es with
   | nil=>intros;rfl
   | cons b es ih=>
    intro he hl hv
    exfalso
    have hb:=he b (List.mem_cons_self ..)
    have he':DigR R es:=fun x hx=>he x (List.mem_cons_of_mem _ hx)
    have h1:=valR_nonneg (show 0 <= R by omega) he'
    have h2:0 <= R * valR R es:=Int.mul_nonneg (by omega) h1
    simp only [valR] at hv
    have h3:R * valR R es = 0:=by omega
    have h4:valR R es = 0:=by
     rcases Int.mul_eq_zero.1 h3 with h | h
     ·omega
     ·exact h
    have h5:=ih he' (fun hne=>by
     have:=hl (by simp)
     cases es with
     | nil=>exact absurd rfl hne
     | cons c es=>simpa [List.getLastD] using this) h4
    subst h5
    have:=hl (by simp)
    simp [List.getLastD] at this
    omega
  intro ds
  induction ds with
  | nil=>intro es _ he _ hle hv;exact (pos es he hle hv.symm).symm
  | cons a ds ih=>
   intro es hd he hld hle hv
   cases es with
   | nil=>exact pos (a :: ds) hd hld hv
   | cons b es=>
    have ha:=hd a (List.mem_cons_self ..)
    have hb:=he b (List.mem_cons_self ..)
    have hd':DigR R ds:=fun x hx=>hd x (List.mem_cons_of_mem _ hx)
    have he':DigR R es:=fun x hx=>he x (List.mem_cons_of_mem _ hx)
    simp only [valR] at hv
    have e1:(a + R * valR R ds) % R = a:=by rw [Int.add_mul_emod_self_left];exact Int.emod_eq_of_lt ha.1 ha.2
    have e2:(b + R * valR R es) % R = b:=by rw [Int.add_mul_emod_self_left];exact Int.emod_eq_of_lt hb.1 hb.2
    have hab:a = b:=by rw [<- e1,<- e2,hv]
    subst hab
    have h3:R * valR R ds = R * valR R es:=by omega
    have h4:valR R ds = valR R es:=Int.eq_of_mul_eq_mul_left (by omega) h3
    rw [ih es hd' he' (fun hne=>by
     have:=hld (by simp)
     cases ds with
     | nil=>exact absurd rfl hne
     | cons c ds=>simpa [List.getLastD] using this) (fun hne=>by
     have:=hle (by simp)
     cases es with
     | nil=>exact absurd rfl hne
     | cons c es=>simpa [List.getLastD] using this) h4]
 intro ds es z h g
 exact key ds es h.1 g.1 (fun _=>h.2.2.2) (fun _=>g.2.2.2) (h.2.1.trans g.2.1.symm)
end Go.Proofs.YtbajnceoolkckaaGreat
