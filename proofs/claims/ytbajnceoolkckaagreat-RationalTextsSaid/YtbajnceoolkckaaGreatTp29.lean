/- Of the proof of RationalTexts: Texts, DigMath, RatJ, Strs, RatK. -/
import Derived.Test.YtbajnceoolkckaaGreatTp28
import Derived.Lib.Repeat
import Derived.Lib.Case
import Derived.Shelf.Strings.Cut
import Derived.Shelf.Strings.Prefix
open Go.Lib renaming hid → Hd
set_option maxRecDepth 100000
set_option maxHeartbeats 16000000
namespace Go.Proofs.YtbajnceoolkckaaGreat
open Go.RowKit LM
def TextRel (R x:Int) (T:ByteArray) (err:Int) : Prop:=
 ((R < 2 \/ 36 < R) /\ T = ⟨#[]⟩ /\ err = 1) \/ (2 <= R /\ R <= 36 /\ x = 0 /\ T = ⟨#[48]⟩ /\ err = 0) \/
 (2 <= R /\ R <= 36 /\ x ≠ 0 /\ err = 0 /\ ∃ ds,DigitsOf R (if x < 0 then -x else x) ds /\ bs T = textBytes (decide (x < 0)) ds)
theorem TextRel.det {R x:Int} {T T':ByteArray} {r r':Int} (h:TextRel R x T r) (g:TextRel R x T' r') : T = T' /\ r = r':=by
 unfold TextRel at h g
 rcases h with h | h | h <;> rcases g with g | g | g
 ·exact ⟨h.2.1.trans g.2.1.symm,h.2.2.trans g.2.2.symm⟩
 ·exfalso;have:=h.1;have:=g.1;have:=g.2.1;omega
 ·exfalso;have:=h.1;have:=g.1;have:=g.2.1;omega
 ·exfalso;have:=g.1;have:=h.1;have:=h.2.1;omega
 ·exact ⟨h.2.2.2.1.trans g.2.2.2.1.symm,h.2.2.2.2.trans g.2.2.2.2.symm⟩
 ·exact absurd h.2.2.1 g.2.2.1
 ·exfalso;have:=g.1;have:=h.1;have:=h.2.1;omega
 ·exact absurd g.2.2.1 h.2.2.1
 ·obtain ⟨hR,_,_,he,ds,hd,hb⟩:=h
  obtain ⟨_,_,_,ge,es,gd,gb⟩:=g
  have:=digits_unique hR hd gd
  subst this
  exact ⟨bs_inj (hb.trans gb.symm),he.trans ge.symm⟩
theorem textBytes_ok {R z:Int} {ds:List Int} {neg:Bool} (h:DigitsOf R z ds) (hR:R <= 36) : ∀ x ∈ textBytes neg ds,0 <= x /\ x < 256:=by
 intro x hx
 unfold textBytes at hx
 rcases List.mem_append.1 hx with hx | hx
 ·cases neg with
  | false=>simp at hx
  | true=>simp at hx;subst hx;decide
 ·rw [List.mem_reverse] at hx
  obtain ⟨d,hd,rfl⟩:=List.mem_map.1 hx
  have:=h.1 d hd
  exact nameOf_byte this.1 (by omega)
theorem Text_all (u:Value) (x R:Int) (L:Nat) (w:World) (h:Ival w u x L) (hL:L <= 1048576) :
  Calls Tryz.prog 109 #[u,.int .i64 R] w fun e w'=>(∃ T err,e = .returned (.tuple #[.string T,.int .i64 err]) /\ TextRel R x T err) /\ Below w.heap.size w w':=by
 by_cases hR:R < 2 \/ 36 < R
 ·refine (Text_bad u x R L w h hR).mono ?_
  rintro e w' ⟨rfl,hb⟩
  exact ⟨⟨_,_,rfl,.inl ⟨hR,rfl,rfl⟩⟩,hb⟩
 have h0:2 <= R:=by omega
 have h1:R <= 36:=by omega
 by_cases hx:x = 0
 ·subst hx
  refine (Text_zero u R L w h h0 h1).mono ?_
  rintro e w' ⟨rfl,hb⟩
  exact ⟨⟨_,_,rfl,.inr (.inl ⟨h0,h1,rfl,rfl,rfl⟩)⟩,hb⟩
 ·refine (Text_some u x R L w h hL h0 h1 hx).mono ?_
  rintro e w' ⟨⟨ds,hd,rfl⟩,hb⟩
  exact ⟨⟨_,_,rfl,.inr (.inr ⟨h0,h1,hx,rfl,ds,hd,bs_strOf (textBytes_ok hd h1)⟩)⟩,hb⟩
theorem rText_all (u:Value) (x R:Int) (L:Nat) (w:World) (h:Rval w u x L) (hL:L <= 1000) :
  Calls Tryz.prog 110 #[u,.int .i64 R] w fun e w'=>(∃ T err,e = .returned (.tuple #[.string T,.int .i64 err]) /\ TextRel R x T err) /\ Below w.heap.size w w':=by
 obtain ⟨p,A,n,c,ds,rfl,hr,hd,ht,hz,hp,hn⟩:=h
 by_cases hR:R < 2 \/ 36 < R
 ·refine (rText_bad p A n c R w hR).mono ?_
  rintro e w' ⟨rfl,hb⟩
  exact ⟨⟨_,_,rfl,.inl ⟨hR,rfl,rfl⟩⟩,hb⟩
 have h0:2 <= R:=by omega
 have h1:R <= 36:=by omega
 have hv:=valR_nonneg (by decide:(0:Int) <= 65536) hd
 by_cases hx:valR 65536 ds = 0
 ·have hds:=(valR_zero_iff hd ht).1 hx
  have hn0:n = 0:=by rw [<- hr.1,hds];rfl
  have hp0:p = false:=by cases p with
   | false=>rfl
   | true=>exact absurd hx (hp rfl)
  subst hn0 hp0
  have hx0:x = 0:=by rw [hz,hx];simp [withSign]
  refine (rText_zero A c R w h0 h1).mono ?_
  rintro e w' ⟨rfl,hb⟩
  exact ⟨⟨_,_,rfl,.inr (.inl ⟨h0,h1,hx0,rfl,rfl⟩)⟩,hb⟩
 ·have hneg:decide (x < 0) = p:=by cases p <;> simp [hz,withSign] <;> omega
  have habs:(if x < 0 then -x else x) = valR 65536 ds:=by cases p <;> simp [hz,withSign] <;> omega
  have hx0:x ≠ 0:=by rw [hz];cases p <;> simp [withSign] <;> omega
  refine (rText_some p A n c ds R w hr hd ht (by omega) h0 h1 hx).mono ?_
  rintro e w' ⟨⟨T,es,hes,hT,rfl⟩,hb⟩
  exact ⟨⟨_,_,rfl,.inr (.inr ⟨h0,h1,hx0,rfl,es,by rw [habs];exact hes,by rw [hneg];exact hT⟩)⟩,hb⟩
def TextOf (R x:Int) (ds:List Int) (T:ByteArray) : Prop:=
 DigR R ds /\ valR R ds = (if x < 0 then -x else x) /\ ds ≠ [] /\ (ds.getLastD 0 ≠ 0 \/ x = 0 /\ ds = [0]) /\ bs T = textBytes (decide (x < 0)) ds
theorem TextRel.of {R x:Int} {T:ByteArray} {r:Int} (h:TextRel R x T r) (h0:2 <= R) (h1:R <= 36) : r = 0 /\ ∃ ds,TextOf R x ds T:=by
 rcases h with ⟨h,_⟩ | ⟨_,_,rfl,rfl,rfl⟩ | ⟨_,_,hx,rfl,ds,⟨a,b,c,d⟩,e⟩
 ·omega
 ·exact ⟨rfl,[0],fun d hd=>by simp at hd;omega,by simp [valR],by simp,.inr ⟨rfl,rfl⟩,rfl⟩
 ·exact ⟨rfl,ds,a,b,c,.inl d,e⟩
theorem head_name {f:Int -> Int} {ds:List Int} (h:ds ≠ []) (a:Int) : ((ds.map f).reverse).headD a = f (ds.getLastD 0):=by
 obtain ⟨l,d,rfl⟩ : ∃ l d,ds = l ++ [d]:=⟨ds.dropLast,ds.getLast h,(List.dropLast_concat_getLast h).symm⟩
 simp
theorem lastD_mem {ds:List Int} (h:ds ≠ []) : ds.getLastD 0 ∈ ds:=by
 rw [List.getLastD_eq_getLast?,List.getLast?_eq_some_getLast h];exact List.getLast_mem h
theorem bs_mk (l:List UInt8) : bs ⟨l.toArray⟩ = l.map fun b=>(b.toNat:Int):=by
 unfold bs;simp
theorem prefix_is (T:ByteArray) (c:UInt8) (hc:c.toNat ≠ 0) : Lib.hasPrefix T.data.toList [c] = decide ((bs T).headD 0 = (c.toNat:Int)):=by
 unfold Lib.hasPrefix bs
 cases h:T.data.toList with
 | nil=>
  rw [List.map_nil,decide_eq_false (by simp;omega)];rfl
 | cons a r=>
  simp only [List.isPrefixOf,List.map_cons,List.headD_cons,Bool.and_true]
  by_cases e:c = a
  ·subst e;simp
  ·have e2:¬ ((a.toNat:Int) = (c.toNat:Int)):=fun h=>e (UInt8.toNat_inj.1 (by omega))
   rw [decide_eq_false e2];simpa using e
theorem trim_bs (T:ByteArray) : bs ⟨(Lib.trimPrefix T.data.toList [45]).toArray⟩ = if (bs T).headD 0 = 45 then (bs T).tail else bs T:=by
 unfold Lib.trimPrefix
 rw [prefix_is T 45 (by decide),bs_mk]
 by_cases h:(bs T).headD 0 = 45
 ·rw [if_pos (by simpa using h),if_pos h]
  unfold bs
  cases T.data.toList <;> simp
 ·rw [if_neg (by simpa using h),if_neg h]
  rfl
theorem valR_last_ge {R:Int} (hR:2 <= R) {ds:List Int} (hd:DigR R ds) (hne:ds ≠ []) (hl:ds.getLastD 0 ≠ 0) : R ^ (ds.length - 1) <= valR R ds:=by
 obtain ⟨l,d,rfl⟩ : ∃ l d,ds = l ++ [d]:=⟨ds.dropLast,ds.getLast hne,(List.dropLast_concat_getLast hne).symm⟩
 have hd0:=(hd d (by simp)).1
 have hl0:d ≠ 0:=by simpa [List.getLastD_concat] using hl
 have h1:=valR_nonneg (by omega:(0:Int) <= R) (fun x hx=>hd x (by simp [hx]) : DigR R l)
 rw [valR_append]
 have e:(l ++ [d]).length - 1 = l.length:=by simp
 rw [e]
 have h2:(0:Int) <= R ^ l.length:=Int.pow_nonneg (by omega)
 have h3:R ^ l.length * 1 <= R ^ l.length * d:=Int.mul_le_mul_of_nonneg_left (by omega) h2
 have h4:valR R [d] = d:=by simp [valR]
 rw [h4];omega
theorem body_head {R:Int} {ds:List Int} (hR:R <= 36) (hd:DigR R ds) (hne:ds ≠ []) (a:Int) : 48 <= ((ds.map nameOf).reverse).headD a /\ ((ds.map nameOf).reverse).headD a <= 90:=by
 rw [head_name hne]
 have:=hd _ (lastD_mem hne)
 unfold nameOf;split <;> omega
theorem TextOf.parts {R x:Int} {ds:List Int} {T:ByteArray} (h:TextOf R x ds T) (hR:R <= 36) :
  bs ⟨(Lib.trimPrefix T.data.toList [45]).toArray⟩ = (ds.map nameOf).reverse /\ Lib.hasPrefix T.data.toList [45] = decide (x < 0):=by
 obtain ⟨hd,hv,hne,hl,ht⟩:=h
 have hh:=body_head hR hd hne 0
 have e:(bs T).headD 0 = 45 ↔ x < 0:=by
  rw [ht]
  by_cases hx:x < 0
  ·simp [textBytes,hx]
  ·have e2:textBytes (decide (x < 0)) ds = (ds.map nameOf).reverse:=by rw [decide_eq_false hx];rfl
   rw [e2]
   exact ⟨fun h=>by omega,fun h=>absurd h hx⟩
 refine ⟨?_,?_⟩
 ·rw [trim_bs]
  by_cases hx:x < 0
  ·rw [if_pos (e.2 hx),ht,decide_eq_true hx];rfl
  ·rw [if_neg (fun h=>hx (e.1 h)),ht,decide_eq_false hx];rfl
 ·rw [prefix_is T 45 (by decide)]
  exact decide_eq_decide.2 e
theorem TextOf.len {R x:Int} {ds:List Int} {T:ByteArray} {L:Nat} (h:TextOf R x ds T) (hR:2 <= R) (hx:(if x < 0 then -x else x) < BB ^ L) (_:1 <= L) : ds.length <= 32 * L + 1:=by
 obtain ⟨hd,hv,hne,hl,ht⟩:=h
 rcases hl with hl | ⟨_,rfl⟩
 ·have h1:=valR_last_ge hR hd hne hl
  rw [hv] at h1
  have:=len_bound hR h1 hx
  omega
 ·simp
theorem ival_lt {w:World} {u:Value} {x:Int} {L:Nat} (h:Ival w u x L) : (if x < 0 then -x else x) < BB ^ L:=by
 obtain ⟨neg,s,a,rfl,hn,h0,rfl,hz⟩:=h
 have h1:=hn.lt
 cases neg with
 | true=>have:=hz rfl;simp only [withSign,if_true];rw [if_pos (by omega)];omega
 | false=>simp only [withSign,Bool.false_eq_true,if_false];rw [if_neg (by omega)];exact h1
theorem TextRel.size {R x:Int} {T:ByteArray} {r:Int} {L:Nat} (h:TextRel R x T r) (hx:(if x < 0 then -x else x) < BB ^ L) (hL:1 <= L) : T.size <= 32 * L + 2:=by
 by_cases hR:2 <= R /\ R <= 36
 ·obtain ⟨_,ds,ho⟩:=h.of hR.1 hR.2
  have h1:=ho.len hR.1 hx hL
  have h2:=ho.2.2.2.2
  rw [<- bs_length,h2]
  unfold textBytes
  rw [List.length_append,List.length_reverse,List.length_map]
  split <;> simp <;> omega
 ·rcases h with ⟨_,rfl,_⟩ | ⟨a,b,_⟩ | ⟨a,b,_⟩
  ·show 0 <= _;omega
  ·exact absurd ⟨a,b⟩ hR
  ·exact absurd ⟨a,b⟩ hR
def QText (R n d:Int) (T:ByteArray) (err:Int) : Prop:=
 ∃ T1,TextRel R n T1 err /\ ((err ≠ 0 \/ d = 1) /\ T = T1 \/ err = 0 /\ d ≠ 1 /\ ∃ T2,TextRel R d T2 0 /\ T = T1 ++ ⟨#[47]⟩ ++ T2)
theorem TextRel.err {R x:Int} {T:ByteArray} {r:Int} (h:TextRel R x T r) : r = 0 /\ 2 <= R /\ R <= 36 \/ r = 1 /\ (R < 2 \/ 36 < R):=by
 rcases h with ⟨a,_,b⟩ | ⟨a,b,_,_,c⟩ | ⟨a,b,_,c,_⟩
 ·exact .inr ⟨b,a⟩
 ·exact .inl ⟨c,a,b⟩
 ·exact .inl ⟨c,a,b⟩
theorem Text_q (v:Value) (n d R:Int) (L:Nat) (w:World) (h:Rat w v n d L) (hL:L <= 400000) (hL2:2 <= L) :
  Calls Tryz.prog 56 #[v,.int .i64 R] w fun e w'=>(∃ T err,e = .returned (.tuple #[.string T,.int .i64 err]) /\ QText R n d T err) /\ Below w.heap.size w w':=by
 obtain ⟨g1,A1,n1,c1,e1,E1,m1,d1,rfl⟩:=h.form
 have hW:=below_alloc w (.cells #[.bool g1,.slice A1 n1 c1,.bool e1,.slice E1 m1 d1] 38)
 have X:=Hd (h.below hW)
 have B0:=Hd (Fx4.new w (.bool g1) (.slice A1 n1 c1) (.bool e1) (.slice E1 m1 d1) 38)
 have hd:=X.out.parts.2.2.1
 clear h
 go_enter Tryz.func56,Tryz.ntmps56
 go_wp2_with fail
 refine (Text_all _ n R L _ X.out.parts.1 (by omega)).mono ?_
 rintro e w1 ⟨⟨T1,r1,rfl,ht1⟩,hb⟩
 have hw:=hW.trans (hb.mono hW.size)
 have HT1:=Hd ht1
 have hsz:=ht1.size (ival_lt X.out.parts.1) (by omega)
 replace X:=Hd (X.out.below hb)
 replace B0:=Hd (B0.out.below hb)
 clear hb ht1 hW
 rcases HT1.out.err with ⟨rfl,hR1,hR2⟩ | ⟨rfl,hR⟩
 ·obtain ⟨a0,a1,a2,a3,-,-,-,-,-⟩:=B0.out
  go_wp2_with fail
  refine (Whole_any _ n d L _ X.out).mono ?_
  rintro e w2 ⟨rfl,hb⟩
  replace hw:=hw.trans (hb.mono hw.size)
  replace X:=Hd (X.out.below hb)
  replace B0:=Hd (B0.out.below hb)
  clear a0 a1 a2 a3 hb
  by_cases hd1:d = 1
  ·simp only [decide_eq_true hd1]
   go_wp2
   go_ret2
   exact ⟨⟨_,_,rfl,T1,HT1.out,.inl ⟨.inr hd1,rfl⟩⟩,hw⟩
  ·have e2:decide (d = 1) = false:=decide_eq_false hd1
   have e3:dn d = d:=if_neg hd1
   have X2:=X.out.parts.2.1
   rw [e3] at X2
   have HX2:=Hd X2
   rw [e2]
   clear e2 e3 X2
   obtain ⟨a0,a1,a2,a3,-,-,-,-,-⟩:=B0.out
   go_wp2_with fail
   refine (Text_all _ d R L _ HX2.out (by omega)).mono ?_
   rintro e w3 ⟨⟨T2,r2,rfl,ht2⟩,hb⟩
   replace hw:=hw.trans (hb.mono hw.size)
   have hsz2:=ht2.size (ival_lt HX2.out) (by omega)
   rcases ht2.err with ⟨rfl,_⟩ | ⟨_,hh⟩
   ·have HT2:=Hd ht2
    have s1:∀ w0:World,(Op.stringOp .add T1 ⟨#[47]⟩).run Tryz.prog w0 = _:=fun w0=>run_string_add_sum (P:=Tryz.prog) w0 T1 ⟨#[47]⟩ (by show _ + 1 <= _;omega)
    have s2:∀ w0:World,(Op.stringOp .add (T1 ++ ⟨#[47]⟩) T2).run Tryz.prog w0 = _:=fun w0=>run_string_add_sum (P:=Tryz.prog) w0 (T1 ++ ⟨#[47]⟩) T2 (by rw [ByteArray.size_append];show _ + 1 + _ <= _;omega)
    clear ht2 hb a0 a1 a2 a3
    go_wp2
    go_ret2
    exact ⟨⟨_,_,rfl,T1,HT1.out,.inr ⟨rfl,hd1,T2,HT2.out,rfl⟩⟩,hw⟩
   ·exfalso;omega
 ·go_wp2
  go_ret2
  exact ⟨⟨_,_,rfl,T1,HT1.out,.inl ⟨.inl (by decide),rfl⟩⟩,hw⟩
end Go.Proofs.YtbajnceoolkckaaGreat
namespace Go.Proofs
open Go.Shelf
def Tryz.lays145_ren:Go.Shelf.Ren:=⟨fun | 145=>111 | 220=>151 | 219=>172 | 217=>186 | 225=>187 | 224=>188 | 267=>189 | 266=>193 | 314=>194 | n=>n,fun | 9=>9 | 4=>4 | 59=>144 | 3=>3 | 5=>5 | 46=>184 | 146=>207 | 51=>135 | n=>n,fun | 1=>0 | n=>n⟩
theorem Tryz.lays145:Go.Proofs.Lays.n145 Tryz.prog Tryz.lays145_ren:={
 mixed:=by kernel_rfl
 f145:=Tryz.func111.trans (congrArg some (by kernel_rfl))
 f217:=Tryz.func186.trans (congrArg some (by kernel_rfl))
 f219:=Tryz.func172.trans (congrArg some (by kernel_rfl))
 f220:=Tryz.func151.trans (congrArg some (by kernel_rfl))
 f224:=Tryz.func188.trans (congrArg some (by kernel_rfl))
 f225:=Tryz.func187.trans (congrArg some (by kernel_rfl))
 f266:=Tryz.func193.trans (congrArg some (by kernel_rfl))
 f267:=Tryz.func189.trans (congrArg some (by kernel_rfl))
 f314:=Tryz.func194.trans (congrArg some (by kernel_rfl))
 t3:=Tryz.underlying3
 a3:=Tryz.isAgg3
 z3:=Tryz.sizeOf3
 v3:=Tryz.zeroValue3
 t4:=Tryz.underlying4
 a4:=Tryz.isAgg4
 z4:=Tryz.sizeOf4
 v4:=Tryz.zeroValue4
 t5:=Tryz.underlying5
 a5:=Tryz.isAgg5
 z5:=Tryz.sizeOf5
 v5:=Tryz.zeroValue5
 t9:=Tryz.underlying9
 a9:=Tryz.isAgg9
 z9:=Tryz.sizeOf9
 v9:=Tryz.zeroValue9
 t46:=Tryz.underlying184
 a46:=Tryz.isAgg184
 z46:=Tryz.sizeOf184
 v46:=Tryz.zeroValue184
 t51:=Tryz.underlying135
 a51:=Tryz.isAgg135
 z51:=Tryz.sizeOf135
 v51:=Tryz.zeroValue135
 t59:=Tryz.underlying144
 a59:=Tryz.isAgg144
 z59:=Tryz.sizeOf144
 v59:=Tryz.zeroValue144
 t146:=Tryz.underlying207
 a146:=Tryz.isAgg207
 z146:=Tryz.sizeOf207
 v146:=Tryz.zeroValue207
 g1:=by kernel_rfl }
open Go.RowKit Go.Lib in
theorem Tryz.strings_Cut (s sep:ByteArray) (m:Int) (w:World) (hs:s.size < 4294967281) (hm:w.cell? ⟨0,0,none⟩ = some (.int .i64 m)) :
    Calls Tryz.prog 111 #[.string s,.string sep] w fun e w'=>e = .returned (.tuple #[.string ⟨(Lib.cut s.data.toList sep.data.toList).1.toArray⟩,.string ⟨(Lib.cut s.data.toList sep.data.toList).2.1.toArray⟩,.bool (Lib.cut s.data.toList sep.data.toList).2.2]) /\ ∃ n,w' = w.drewN n:=Any.strings_Cut Tryz.lays145 s sep m w hs hm
def Tryz.lays99_ren:Go.Shelf.Ren:=⟨fun | 99=>113 | 206=>153 | n=>n,fun | 9=>9 | 4=>4 | 3=>3 | n=>n,fun | n=>n⟩
theorem Tryz.lays99:Go.Proofs.Lays.n99 Tryz.prog Tryz.lays99_ren:={
 mixed:=by kernel_rfl
 f99:=Tryz.func113.trans (congrArg some (by kernel_rfl))
 f206:=Tryz.func153.trans (congrArg some (by kernel_rfl))
 t3:=Tryz.underlying3
 a3:=Tryz.isAgg3
 z3:=Tryz.sizeOf3
 v3:=Tryz.zeroValue3
 t4:=Tryz.underlying4
 a4:=Tryz.isAgg4
 z4:=Tryz.sizeOf4
 v4:=Tryz.zeroValue4
 t9:=Tryz.underlying9
 a9:=Tryz.isAgg9
 z9:=Tryz.sizeOf9
 v9:=Tryz.zeroValue9 }
open Go.RowKit Go.Lib in
theorem Tryz.strings_HasPrefix (s p:ByteArray) (w:World) :
    Calls Tryz.prog 113 #[.string s,.string p] w fun e w'=>e = .returned (.bool (Lib.hasPrefix s.data.toList p.data.toList)) /\ w' = w:=Any.strings_HasPrefix Tryz.lays99 s p w
end Go.Proofs
namespace Go.Proofs.YtbajnceoolkckaaGreat
open Go.RowKit LM
def topOf (S:ByteArray) : ByteArray:=⟨(Lib.cut S.data.toList [47]).1.toArray⟩
def botOf (S:ByteArray) : ByteArray:=⟨(Lib.cut S.data.toList [47]).2.1.toArray⟩
def hasBar (S:ByteArray) : Bool:=(Lib.cut S.data.toList [47]).2.2
theorem size_mk (l:List UInt8) : (⟨l.toArray⟩ : ByteArray).size = l.length:=by simp [ByteArray.size]
theorem size_list (S:ByteArray) : S.data.toList.length = S.size:=by rw [Array.length_toList];rfl
theorem top_size (S:ByteArray) : (topOf S).size <= S.size:=by
 unfold topOf Lib.cut
 rw [size_mk]
 split
 ·rw [List.length_take,size_list];exact Nat.min_le_right _ _
 ·rw [size_list];exact Nat.le_refl _
theorem bot_size (S:ByteArray) : (botOf S).size <= S.size:=by
 unfold botOf Lib.cut
 rw [size_mk]
 split
 ·rw [List.length_drop,size_list];exact Nat.sub_le _ _
 ·exact Nat.zero_le _
def signed47 (S:ByteArray) : Prop:=(bs (botOf S)).headD 0 = 43 \/ (bs (botOf S)).headD 0 = 45
def ParseIn (R : Int) (S : ByteArray) (n d err : Int) : Prop :=
  ∃ z e1, ParseRel R (bs (topOf S)) z e1 ∧
    ((e1 ≠ 0 ∨ hasBar S = false) ∧ n = z ∧ d = 1 ∧ err = e1 ∨
     e1 = 0 ∧ hasBar S = true ∧ (signed47 S ∧ n = 0 ∧ d = 1 ∧ err = 2 ∨
       ¬ signed47 S ∧ ∃ y e2, ParseRel R (bs (botOf S)) y e2 ∧ (e2 ≠ 0 ∧ n = 0 ∧ d = 1 ∧ err = e2 ∨ e2 = 0 ∧ n = newN z y ∧ d = newD z y ∧ err = divE y)))
def ParseQ (R:Int) (S:ByteArray) (n d err:Int) : Prop:=
 (R < 2 \/ 36 < R) /\ n = 0 /\ d = 1 /\ err = 1 \/ (2 <= R /\ R <= 36) /\ 20000 < S.size /\ n = 0 /\ d = 1 /\ err = 14 \/ (2 <= R /\ R <= 36) /\ S.size <= 20000 /\ ParseIn R S n d err
def ParsedQ (R:Int) (S:ByteArray) (w:World) (e:Ending) (w':World) : Prop:=∃ n d err,ParseQ R S n d err /\ RatErr 20002 n d err w e w'
theorem below_drews (w:World) (k:Nat) : Below w.heap.size w (w.drewN k):=by
 have h:=Below.refl w.heap.size w
 exact ⟨h.os,h.tape,h.output,h.size,h.block⟩
theorem cut_b (S:ByteArray) (m:Int) (w:World) (hs:S.size < 4294967281) (hm:w.cell? ⟨0,0,none⟩ = some (.int .i64 m)) :
  Calls Tryz.prog 111 #[.string S,.string ⟨#[47]⟩] w fun e w'=>e = .returned (.tuple #[.string (topOf S),.string (botOf S),.bool (hasBar S)]) /\ Below w.heap.size w w':=
 (Tryz.strings_Cut S ⟨#[47]⟩ m w hs hm).mono fun _ _ ⟨he,k,hw⟩=>⟨he,hw ▸ below_drews _ k⟩
theorem prefix_b (S:ByteArray) (c:UInt8) (hc:c.toNat ≠ 0) (w:World) :
  Calls Tryz.prog 113 #[.string S,.string ⟨#[c]⟩] w fun e w'=>e = .returned (.bool (decide ((bs S).headD 0 = (c.toNat:Int)))) /\ Below w.heap.size w w':=
 (Tryz.strings_HasPrefix S ⟨#[c]⟩ w).mono fun _ _ ⟨he,hw⟩=>⟨by rw [he];exact congrArg (fun b=>Ending.returned (.bool b)) (prefix_is S c hc),hw ▸ Below.refl _ _⟩
theorem Parse_q (S:ByteArray) (R m:Int) (w:World) (hm:w.cell? ⟨0,0,none⟩ = some (.int .i64 m)) (hS0:S.size <= 9223372036854775807) :
  Calls Tryz.prog 58 #[.string S,.int .i64 R] w (ParsedQ R S w):=by
 have hW:=below_alloc w (.cells #[.bool false,.slice none 0 0,.bool false,.slice none 0 0] 38)
 have BR:=Hd (Fx4.new w (.bool false) (.slice none 0 0) (.bool false) (.slice none 0 0) 38)
 have hM:=Hd ((hW.cell (p:=⟨0,0,none⟩) (World.block_lt_of_cell? w _ hm)).trans hm)
 have hlt0:0 < (w.alloc (.cells #[.bool false,.slice none 0 0,.bool false,.slice none 0 0] 38)).heap.size:=by simp
 clear hm
 by_cases hR:R < 2 \/ 36 < R
 ·obtain ⟨W0,hW0⟩ : ∃ W0,w.alloc (.cells #[.bool false,.slice none 0 0,.bool false,.slice none 0 0] 38) = W0:=⟨_,rfl⟩
  rw [hW0] at hW BR
  go_enter Tryz.func58,Tryz.ntmps58
  go_upto_region 1 with fail
  clear hW0
  obtain ⟨r0,r1,r2,r3,r4,r5,r6,r7,r8⟩:=BR.out
  rcases (by omega:R < 2 \/ ¬ R < 2 /\ 36 < R) with h | ⟨h,h2⟩
  all_goals go_wp2
  all_goals exact bodyPost_ret (v:=.tuple #[.agg #[.bool false,.slice none 0 0,.bool false,.slice none 0 0],.int .i64 1]) (by simp [results,Tryz.results58,go_sem,r0,r1,r2,r3]) rfl ⟨0,1,1,.inl ⟨hR,rfl,rfl,rfl⟩,⟨⟨false,none,0,0,false,none,0,0,rfl,_,_,_,_,_,_,_,_,rfl,Ival.nought,Ival.nought,by decide,by decide⟩,below_put4 hW (Nat.le_refl _) _ _ _ _⟩⟩
 ·have hR1:¬ R < 2:=by omega
  have hR2:¬ 36 < R:=by omega
  by_cases hbig:(20000:Int) < (S.size:Int)
  ·obtain ⟨W0,hW0⟩ : ∃ W0,w.alloc (.cells #[.bool false,.slice none 0 0,.bool false,.slice none 0 0] 38) = W0:=⟨_,rfl⟩
   rw [hW0] at hW BR
   go_enter Tryz.func58,Tryz.ntmps58
   go_upto_region 1 with fail
   clear hW0
   obtain ⟨r0,r1,r2,r3,r4,r5,r6,r7,r8⟩:=BR.out
   go_wp2
   exact bodyPost_ret (v:=.tuple #[.agg #[.bool false,.slice none 0 0,.bool false,.slice none 0 0],.int .i64 14]) (by simp [results,Tryz.results58,go_sem,r0,r1,r2,r3]) rfl ⟨0,1,14,.inr (.inl ⟨by omega,by omega,rfl,rfl,rfl⟩),⟨⟨false,none,0,0,false,none,0,0,rfl,_,_,_,_,_,_,_,_,rfl,Ival.nought,Ival.nought,by decide,by decide⟩,below_put4 hW (Nat.le_refl _) _ _ _ _⟩⟩
  ·have hS:S.size <= 20000:=by omega
   obtain ⟨W0,hW0⟩ : ∃ W0,w.alloc (.cells #[.bool false,.slice none 0 0,.bool false,.slice none 0 0] 38) = W0:=⟨_,rfl⟩
   rw [hW0] at hW BR hM hlt0
   go_enter Tryz.func58,Tryz.ntmps58
   go_upto_region 1 with fail
   clear hW0
   go_wp2_with fail
   refine (cut_b S m _ (by omega) hM.out).mono ?_
   rintro e w1 ⟨rfl,hb⟩
   have hw:=hW.trans (hb.mono hW.size)
   replace BR:=Hd (BR.out.below hb)
   have ht:=top_size S
   have hbt:=bot_size S
   clear hb hM hlt0 hW
   go_wp2_with fail
   refine (Parse_any (topOf S) R _ (by omega)).mono ?_
   rintro e w2 ⟨g9,A9,n9,d9,z,e1,rfl,hv9,hp9,hb⟩
   replace hw:=hw.trans (hb.mono hw.size)
   replace BR:=Hd (BR.out.below hb)
   have hX:=below_alloc w2 (.cells #[.bool g9,.slice A9 n9 d9] 31)
   have B9:=Hd (Fx.new w2 (.bool g9) (.slice A9 n9 d9) 31)
   have V9:=Hd (hv9.below hX)
   have HP:=Hd hp9
   replace hw:=hw.trans (hX.mono hw.size)
   replace BR:=Hd (BR.out.below hX)
   clear hb hX hv9 hp9
   by_cases hA:e1 ≠ 0 \/ hasBar S = false
   ·have hgd:(e1 != 0) = true \/ (e1 != 0) = false /\ hasBar S = false:=by
     by_cases h0:e1 = 0
     ·right;exact ⟨by simp [h0],by rcases hA with h | h;exact absurd h0 h;exact h⟩
     ·left;simpa using h0
    go_upto_region 7 with fail
    generalize w2.alloc (.cells #[.bool g9,.slice A9 n9 d9] 31) = W9 at *
    generalize w2.heap.size = k9 at *
    obtain ⟨c0,c1,-,-,-⟩:=B9.out
    rcases hgd with hg1 | ⟨hg1,hg2⟩
    all_goals (
     go_wp2_with fail
     refine (Of_any _ z 20000 _ V9.out).mono ?_
     rintro e w3 ⟨⟨ng,A2,n2,c2,rfl,hz⟩,hb⟩
     have Z1:=Hd hz
     replace hw:=hw.trans (hb.mono hw.size)
     replace BR:=Hd (BR.out.below hb)
     clear hz hb c0 c1
     obtain ⟨r0,r1,r2,r3,r4,r5,r6,r7,r8⟩:=BR.out
     go_wp2
     exact bodyPost_ret (v:=.tuple #[.agg #[.bool ng,.slice A2 n2 c2,.bool false,.slice none 0 0],.int .i64 e1]) (by simp [results,Tryz.results58,go_sem,r0,r1,r2,r3]) rfl ⟨z,1,e1,.inr (.inr ⟨⟨by omega,by omega⟩,hS,z,e1,HP.out,.inl ⟨hA,rfl,rfl,rfl⟩⟩),⟨⟨_,_,_,_,_,_,_,_,rfl,_,_,_,_,_,_,_,_,rfl,(Z1.out.mono (by omega)).put4 BR.out _ _ _ _,Ival.nought,by decide,Int.gcd_one_right ..⟩,below_put4 hw (Nat.le_refl _) _ _ _ _⟩⟩)
   ·obtain ⟨h0,hbar⟩ : e1 = 0 /\ hasBar S = true:=by
     refine ⟨?_,?_⟩
     ·exact Classical.byContradiction fun h=>hA (.inl h)
     ·cases h:hasBar S with
      | true=>rfl
      | false=>exact absurd (.inr h) hA
    subst h0
    clear hA
    go_upto_region 9 with fail
    generalize w2.alloc (.cells #[.bool g9,.slice A9 n9 d9] 31) = W9 at *
    generalize w2.heap.size = k9 at *
    go_wp2_with fail
    refine (prefix_b (botOf S) 43 (by decide) _).mono ?_
    rintro e w3 ⟨rfl,hb⟩
    replace hw:=hw.trans (hb.mono hw.size)
    replace BR:=Hd (BR.out.below hb)
    replace B9:=Hd (B9.out.below hb)
    replace V9:=Hd (V9.out.below hb)
    clear hb
    by_cases h43:(bs (botOf S)).headD 0 = 43
    ·rw [decide_eq_true (show (bs (botOf S)).headD 0 = ((43:UInt8).toNat:Int) from h43)]
     obtain ⟨r0,r1,r2,r3,r4,r5,r6,r7,r8⟩:=BR.out
     go_wp2
     exact bodyPost_ret (v:=.tuple #[.agg #[.bool false,.slice none 0 0,.bool false,.slice none 0 0],.int .i64 2]) (by simp [results,Tryz.results58,go_sem,r0,r1,r2,r3]) rfl ⟨0,1,2,.inr (.inr ⟨⟨by omega,by omega⟩,hS,z,0,HP.out,.inr ⟨rfl,hbar,.inl ⟨.inl h43,rfl,rfl,rfl⟩⟩⟩),⟨⟨false,none,0,0,false,none,0,0,rfl,_,_,_,_,_,_,_,_,rfl,Ival.nought,Ival.nought,by decide,by decide⟩,below_put4 hw (Nat.le_refl _) _ _ _ _⟩⟩
    ·rw [decide_eq_false (show ¬ (bs (botOf S)).headD 0 = ((43:UInt8).toNat:Int) from h43)]
     go_wp2_with fail
     refine (prefix_b (botOf S) 45 (by decide) _).mono ?_
     rintro e w4 ⟨rfl,hb⟩
     replace hw:=hw.trans (hb.mono hw.size)
     replace BR:=Hd (BR.out.below hb)
     replace B9:=Hd (B9.out.below hb)
     replace V9:=Hd (V9.out.below hb)
     clear hb
     by_cases h45:(bs (botOf S)).headD 0 = 45
     ·rw [decide_eq_true (show (bs (botOf S)).headD 0 = ((45:UInt8).toNat:Int) from h45)]
      obtain ⟨r0,r1,r2,r3,r4,r5,r6,r7,r8⟩:=BR.out
      go_wp2
      exact bodyPost_ret (v:=.tuple #[.agg #[.bool false,.slice none 0 0,.bool false,.slice none 0 0],.int .i64 2]) (by simp [results,Tryz.results58,go_sem,r0,r1,r2,r3]) rfl ⟨0,1,2,.inr (.inr ⟨⟨by omega,by omega⟩,hS,z,0,HP.out,.inr ⟨rfl,hbar,.inl ⟨.inr h45,rfl,rfl,rfl⟩⟩⟩),⟨⟨false,none,0,0,false,none,0,0,rfl,_,_,_,_,_,_,_,_,rfl,Ival.nought,Ival.nought,by decide,by decide⟩,below_put4 hw (Nat.le_refl _) _ _ _ _⟩⟩
     ·rw [decide_eq_false (show ¬ (bs (botOf S)).headD 0 = ((45:UInt8).toNat:Int) from h45)]
      have hsg:¬ signed47 S:=fun h=>h.elim h43 h45
      go_wp2_with fail
      refine (Parse_any (botOf S) R _ (by omega)).mono ?_
      rintro e w5 ⟨g11,A11,n11,d11,y,e2,rfl,hv11,hp11,hb⟩
      have hX:=below_alloc w5 (.cells #[.bool g11,.slice A11 n11 d11] 31)
      have hbx:=hb.trans (hX.mono hb.size)
      have B11:=Hd (Fx.new w5 (.bool g11) (.slice A11 n11 d11) 31)
      have V11:=Hd (hv11.below hX)
      have HP2:=Hd hp11
      replace hw:=hw.trans (hbx.mono hw.size)
      replace BR:=Hd (BR.out.below hbx)
      replace B9:=Hd (B9.out.below hbx)
      replace V9:=Hd (V9.out.below hbx)
      clear hb hX hbx hv11 hp11
      go_upto_region 12 with fail
      generalize w5.alloc (.cells #[.bool g11,.slice A11 n11 d11] 31) = W11 at *
      generalize w5.heap.size = k11 at *
      by_cases he2:e2 = 0
      ·subst he2
       obtain ⟨c0,c1,-,-,-⟩:=B9.out
       obtain ⟨b0,b1,-,-,-⟩:=B11.out
       go_wp2_with fail
       refine (New_any _ _ z y 20000 _ V9.out V11.out (by omega) (by omega)).mono ?_
       rintro e w6 ⟨⟨q1,Q1,s1,t1,q2,Q2,s2,t2,rfl,hq⟩,hb⟩
       have HQ:=Hd hq
       replace hw:=hw.trans (hb.mono hw.size)
       replace BR:=Hd (BR.out.below hb)
       clear hq hb c0 c1 b0 b1
       obtain ⟨r0,r1,r2,r3,r4,r5,r6,r7,r8⟩:=BR.out
       go_wp2
       exact bodyPost_ret (v:=.tuple #[.agg #[.bool q1,.slice Q1 s1 t1,.bool q2,.slice Q2 s2 t2],.int .i64 (divE y)]) (by simp [results,Tryz.results58,go_sem,r0,r1,r2,r3]) rfl ⟨newN z y,newD z y,divE y,.inr (.inr ⟨⟨by omega,by omega⟩,hS,z,0,HP.out,.inr ⟨rfl,hbar,.inr ⟨hsg,y,0,HP2.out,.inr ⟨rfl,rfl,rfl,rfl⟩⟩⟩⟩),⟨⟨_,_,_,_,_,_,_,_,rfl,HQ.out.put4 BR.out _ _ _ _⟩,below_put4 hw (Nat.le_refl _) _ _ _ _⟩⟩
      ·have hg:(e2 != 0) = true:=by simpa using he2
       obtain ⟨r0,r1,r2,r3,r4,r5,r6,r7,r8⟩:=BR.out
       go_wp2
       exact bodyPost_ret (v:=.tuple #[.agg #[.bool false,.slice none 0 0,.bool false,.slice none 0 0],.int .i64 e2]) (by simp [results,Tryz.results58,go_sem,r0,r1,r2,r3]) rfl ⟨0,1,e2,.inr (.inr ⟨⟨by omega,by omega⟩,hS,z,0,HP.out,.inr ⟨rfl,hbar,.inr ⟨hsg,y,e2,HP2.out,.inl ⟨he2,rfl,rfl,rfl⟩⟩⟩⟩),⟨⟨false,none,0,0,false,none,0,0,rfl,_,_,_,_,_,_,_,_,rfl,Ival.nought,Ival.nought,by decide,by decide⟩,below_put4 hw (Nat.le_refl _) _ _ _ _⟩⟩
end Go.Proofs.YtbajnceoolkckaaGreat
