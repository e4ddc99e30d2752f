/- Of the proof of RationalRounds: Strs, RatK, RatR. -/
import Derived.Shelf.Strings.Cut
import Derived.Shelf.Strings.Prefix
import Derived.Test.YtbajnceoolkckaaGreatRd28
open Go.Lib renaming hid → Hd
set_option maxRecDepth 100000
set_option maxHeartbeats 16000000
namespace Go.Proofs
open Go.Shelf
def Tryz.lays145_ren:Go.Shelf.Ren:=⟨fun | 145=>111 | 220=>151 | 219=>172 | 217=>186 | 225=>187 | 224=>188 | 267=>189 | 266=>193 | 314=>194 | n=>n,fun | 9=>9 | 4=>4 | 59=>144 | 3=>3 | 5=>5 | 46=>184 | 146=>207 | 51=>135 | n=>n,fun | 1=>0 | n=>n⟩
theorem Tryz.lays145:Go.Proofs.Lays.n145 Tryz.prog Tryz.lays145_ren:={
 mixed:=by kernel_rfl
 f145:=Tryz.func111.trans (congrArg some (by kernel_rfl))
 f217:=Tryz.func186.trans (congrArg some (by kernel_rfl))
 f219:=Tryz.func172.trans (congrArg some (by kernel_rfl))
 f220:=Tryz.func151.trans (congrArg some (by kernel_rfl))
 f224:=Tryz.func188.trans (congrArg some (by kernel_rfl))
 f225:=Tryz.func187.trans (congrArg some (by kernel_rfl))
 f266:=Tryz.func193.trans (congrArg some (by kernel_rfl))
 f267:=Tryz.func189.trans (congrArg some (by kernel_rfl))
 f314:=Tryz.func194.trans (congrArg some (by kernel_rfl))
 t3:=Tryz.underlying3
 a3:=Tryz.isAgg3
 z3:=Tryz.sizeOf3
 v3:=Tryz.zeroValue3
 t4:=Tryz.underlying4
 a4:=Tryz.isAgg4
 z4:=Tryz.sizeOf4
 v4:=Tryz.zeroValue4
 t5:=Tryz.underlying5
 a5:=Tryz.isAgg5
 z5:=Tryz.sizeOf5
 v5:=Tryz.zeroValue5
 t9:=Tryz.underlying9
 a9:=Tryz.isAgg9
 z9:=Tryz.sizeOf9
 v9:=Tryz.zeroValue9
 t46:=Tryz.underlying184
 a46:=Tryz.isAgg184
 z46:=Tryz.sizeOf184
 v46:=Tryz.zeroValue184
 t51:=Tryz.underlying135
 a51:=Tryz.isAgg135
 z51:=Tryz.sizeOf135
 v51:=Tryz.zeroValue135
 t59:=Tryz.underlying144
 a59:=Tryz.isAgg144
 z59:=Tryz.sizeOf144
 v59:=Tryz.zeroValue144
 t146:=Tryz.underlying207
 a146:=Tryz.isAgg207
 z146:=Tryz.sizeOf207
 v146:=Tryz.zeroValue207
 g1:=by kernel_rfl }
open Go.RowKit Go.Lib in
theorem Tryz.strings_Cut (s sep:ByteArray) (m:Int) (w:World) (hs:s.size < 4294967281) (hm:w.cell? ⟨0,0,none⟩ = some (.int .i64 m)) :
    Calls Tryz.prog 111 #[.string s,.string sep] w fun e w'=>e = .returned (.tuple #[.string ⟨(Lib.cut s.data.toList sep.data.toList).1.toArray⟩,.string ⟨(Lib.cut s.data.toList sep.data.toList).2.1.toArray⟩,.bool (Lib.cut s.data.toList sep.data.toList).2.2]) /\ ∃ n,w' = w.drewN n:=Any.strings_Cut Tryz.lays145 s sep m w hs hm
def Tryz.lays99_ren:Go.Shelf.Ren:=⟨fun | 99=>113 | 206=>153 | n=>n,fun | 9=>9 | 4=>4 | 3=>3 | n=>n,fun | n=>n⟩
theorem Tryz.lays99:Go.Proofs.Lays.n99 Tryz.prog Tryz.lays99_ren:={
 mixed:=by kernel_rfl
 f99:=Tryz.func113.trans (congrArg some (by kernel_rfl))
 f206:=Tryz.func153.trans (congrArg some (by kernel_rfl))
 t3:=Tryz.underlying3
 a3:=Tryz.isAgg3
 z3:=Tryz.sizeOf3
 v3:=Tryz.zeroValue3
 t4:=Tryz.underlying4
 a4:=Tryz.isAgg4
 z4:=Tryz.sizeOf4
 v4:=Tryz.zeroValue4
 t9:=Tryz.underlying9
 a9:=Tryz.isAgg9
 z9:=Tryz.sizeOf9
 v9:=Tryz.zeroValue9 }
open Go.RowKit Go.Lib in
theorem Tryz.strings_HasPrefix (s p:ByteArray) (w:World) :
    Calls Tryz.prog 113 #[.string s,.string p] w fun e w'=>e = .returned (.bool (Lib.hasPrefix s.data.toList p.data.toList)) /\ w' = w:=Any.strings_HasPrefix Tryz.lays99 s p w
end Go.Proofs
namespace Go.Proofs.YtbajnceoolkckaaGreat
open Go.RowKit LM
def topOf (S:ByteArray) : ByteArray:=⟨(Lib.cut S.data.toList [47]).1.toArray⟩
def botOf (S:ByteArray) : ByteArray:=⟨(Lib.cut S.data.toList [47]).2.1.toArray⟩
def hasBar (S:ByteArray) : Bool:=(Lib.cut S.data.toList [47]).2.2
theorem size_mk (l:List UInt8) : (⟨l.toArray⟩ : ByteArray).size = l.length:=by simp [ByteArray.size]
theorem size_list (S:ByteArray) : S.data.toList.length = S.size:=by rw [Array.length_toList];rfl
theorem top_size (S:ByteArray) : (topOf S).size <= S.size:=by
 unfold topOf Lib.cut
 rw [size_mk]
 split
 ·rw [List.length_take,size_list];exact Nat.min_le_right _ _
 ·rw [size_list];exact Nat.le_refl _
theorem bot_size (S:ByteArray) : (botOf S).size <= S.size:=by
 unfold botOf Lib.cut
 rw [size_mk]
 split
 ·rw [List.length_drop,size_list];exact Nat.sub_le _ _
 ·exact Nat.zero_le _
def signed47 (S:ByteArray) : Prop:=(bs (botOf S)).headD 0 = 43 \/ (bs (botOf S)).headD 0 = 45
def ParseIn (R : Int) (S : ByteArray) (n d err : Int) : Prop :=
  ∃ z e1, ParseRel R (bs (topOf S)) z e1 ∧
    ((e1 ≠ 0 ∨ hasBar S = false) ∧ n = z ∧ d = 1 ∧ err = e1 ∨
     e1 = 0 ∧ hasBar S = true ∧ (signed47 S ∧ n = 0 ∧ d = 1 ∧ err = 2 ∨
       ¬ signed47 S ∧ ∃ y e2, ParseRel R (bs (botOf S)) y e2 ∧ (e2 ≠ 0 ∧ n = 0 ∧ d = 1 ∧ err = e2 ∨ e2 = 0 ∧ n = newN z y ∧ d = newD z y ∧ err = divE y)))
def ParseQ (R:Int) (S:ByteArray) (n d err:Int) : Prop:=
 (R < 2 \/ 36 < R) /\ n = 0 /\ d = 1 /\ err = 1 \/ (2 <= R /\ R <= 36) /\ 20000 < S.size /\ n = 0 /\ d = 1 /\ err = 14 \/ (2 <= R /\ R <= 36) /\ S.size <= 20000 /\ ParseIn R S n d err
def ParsedQ (R:Int) (S:ByteArray) (w:World) (e:Ending) (w':World) : Prop:=∃ n d err,ParseQ R S n d err /\ RatErr 20002 n d err w e w'
theorem below_drews (w:World) (k:Nat) : Below w.heap.size w (w.drewN k):=by
 have h:=Below.refl w.heap.size w
 exact ⟨h.os,h.tape,h.output,h.size,h.block⟩
theorem cut_b (S:ByteArray) (m:Int) (w:World) (hs:S.size < 4294967281) (hm:w.cell? ⟨0,0,none⟩ = some (.int .i64 m)) :
  Calls Tryz.prog 111 #[.string S,.string ⟨#[47]⟩] w fun e w'=>e = .returned (.tuple #[.string (topOf S),.string (botOf S),.bool (hasBar S)]) /\ Below w.heap.size w w':=
 (Tryz.strings_Cut S ⟨#[47]⟩ m w hs hm).mono fun _ _ ⟨he,k,hw⟩=>⟨he,hw ▸ below_drews _ k⟩
theorem prefix_b (S:ByteArray) (c:UInt8) (hc:c.toNat ≠ 0) (w:World) :
  Calls Tryz.prog 113 #[.string S,.string ⟨#[c]⟩] w fun e w'=>e = .returned (.bool (decide ((bs S).headD 0 = (c.toNat:Int)))) /\ Below w.heap.size w w':=
 (Tryz.strings_HasPrefix S ⟨#[c]⟩ w).mono fun _ _ ⟨he,hw⟩=>⟨by rw [he];exact congrArg (fun b=>Ending.returned (.bool b)) (prefix_is S c hc),hw ▸ Below.refl _ _⟩
theorem Parse_q (S:ByteArray) (R m:Int) (w:World) (hm:w.cell? ⟨0,0,none⟩ = some (.int .i64 m)) (hS0:S.size <= 9223372036854775807) :
  Calls Tryz.prog 58 #[.string S,.int .i64 R] w (ParsedQ R S w):=by
 have hW:=below_alloc w (.cells #[.bool false,.slice none 0 0,.bool false,.slice none 0 0] 38)
 have BR:=Hd (Fx4.new w (.bool false) (.slice none 0 0) (.bool false) (.slice none 0 0) 38)
 have hM:=Hd ((hW.cell (p:=⟨0,0,none⟩) (World.block_lt_of_cell? w _ hm)).trans hm)
 have hlt0:0 < (w.alloc (.cells #[.bool false,.slice none 0 0,.bool false,.slice none 0 0] 38)).heap.size:=by simp
 clear hm
 by_cases hR:R < 2 \/ 36 < R
 ·obtain ⟨W0,hW0⟩ : ∃ W0,w.alloc (.cells #[.bool false,.slice none 0 0,.bool false,.slice none 0 0] 38) = W0:=⟨_,rfl⟩
  rw [hW0] at hW BR
  go_enter Tryz.func58,Tryz.ntmps58
  go_upto_region 1 with fail
  clear hW0
  obtain ⟨r0,r1,r2,r3,r4,r5,r6,r7,r8⟩:=BR.out
  rcases (by omega:R < 2 \/ ¬ R < 2 /\ 36 < R) with h | ⟨h,h2⟩
  all_goals go_wp2
  all_goals exact bodyPost_ret (v:=.tuple #[.agg #[.bool false,.slice none 0 0,.bool false,.slice none 0 0],.int .i64 1]) (by simp [results,Tryz.results58,go_sem,r0,r1,r2,r3]) rfl ⟨0,1,1,.inl ⟨hR,rfl,rfl,rfl⟩,⟨⟨false,none,0,0,false,none,0,0,rfl,_,_,_,_,_,_,_,_,rfl,Ival.nought,Ival.nought,by decide,by decide⟩,below_put4 hW (Nat.le_refl _) _ _ _ _⟩⟩
 ·have hR1:¬ R < 2:=by omega
  have hR2:¬ 36 < R:=by omega
  by_cases hbig:(20000:Int) < (S.size:Int)
  ·obtain ⟨W0,hW0⟩ : ∃ W0,w.alloc (.cells #[.bool false,.slice none 0 0,.bool false,.slice none 0 0] 38) = W0:=⟨_,rfl⟩
   rw [hW0] at hW BR
   go_enter Tryz.func58,Tryz.ntmps58
   go_upto_region 1 with fail
   clear hW0
   obtain ⟨r0,r1,r2,r3,r4,r5,r6,r7,r8⟩:=BR.out
   go_wp2
   exact bodyPost_ret (v:=.tuple #[.agg #[.bool false,.slice none 0 0,.bool false,.slice none 0 0],.int .i64 14]) (by simp [results,Tryz.results58,go_sem,r0,r1,r2,r3]) rfl ⟨0,1,14,.inr (.inl ⟨by omega,by omega,rfl,rfl,rfl⟩),⟨⟨false,none,0,0,false,none,0,0,rfl,_,_,_,_,_,_,_,_,rfl,Ival.nought,Ival.nought,by decide,by decide⟩,below_put4 hW (Nat.le_refl _) _ _ _ _⟩⟩
  ·have hS:S.size <= 20000:=by omega
   obtain ⟨W0,hW0⟩ : ∃ W0,w.alloc (.cells #[.bool false,.slice none 0 0,.bool false,.slice none 0 0] 38) = W0:=⟨_,rfl⟩
   rw [hW0] at hW BR hM hlt0
   go_enter Tryz.func58,Tryz.ntmps58
   go_upto_region 1 with fail
   clear hW0
   go_wp2_with fail
   refine (cut_b S m _ (by omega) hM.out).mono ?_
   rintro e w1 ⟨rfl,hb⟩
   have hw:=hW.trans (hb.mono hW.size)
   replace BR:=Hd (BR.out.below hb)
   have ht:=top_size S
   have hbt:=bot_size S
   clear hb hM hlt0 hW
   go_wp2_with fail
   refine (Parse_any (topOf S) R _ (by omega)).mono ?_
   rintro e w2 ⟨g9,A9,n9,d9,z,e1,rfl,hv9,hp9,hb⟩
   replace hw:=hw.trans (hb.mono hw.size)
   replace BR:=Hd (BR.out.below hb)
   have hX:=below_alloc w2 (.cells #[.bool g9,.slice A9 n9 d9] 31)
   have B9:=Hd (Fx.new w2 (.bool g9) (.slice A9 n9 d9) 31)
   have V9:=Hd (hv9.below hX)
   have HP:=Hd hp9
   replace hw:=hw.trans (hX.mono hw.size)
   replace BR:=Hd (BR.out.below hX)
   clear hb hX hv9 hp9
   by_cases hA:e1 ≠ 0 \/ hasBar S = false
   ·have hgd:(e1 != 0) = true \/ (e1 != 0) = false /\ hasBar S = false:=by
     by_cases h0:e1 = 0
     ·right;exact ⟨by simp [h0],by rcases hA with h | h;exact absurd h0 h;exact h⟩
     ·left;simpa using h0
    go_upto_region 7 with fail
    generalize w2.alloc (.cells #[.bool g9,.slice A9 n9 d9] 31) = W9 at *
    generalize w2.heap.size = k9 at *
    obtain ⟨c0,c1,-,-,-⟩:=B9.out
    rcases hgd with hg1 | ⟨hg1,hg2⟩
    all_goals (
     go_wp2_with fail
     refine (Of_any _ z 20000 _ V9.out).mono ?_
     rintro e w3 ⟨⟨ng,A2,n2,c2,rfl,hz⟩,hb⟩
     have Z1:=Hd hz
     replace hw:=hw.trans (hb.mono hw.size)
     replace BR:=Hd (BR.out.below hb)
     clear hz hb c0 c1
     obtain ⟨r0,r1,r2,r3,r4,r5,r6,r7,r8⟩:=BR.out
     go_wp2
     exact bodyPost_ret (v:=.tuple #[.agg #[.bool ng,.slice A2 n2 c2,.bool false,.slice none 0 0],.int .i64 e1]) (by simp [results,Tryz.results58,go_sem,r0,r1,r2,r3]) rfl ⟨z,1,e1,.inr (.inr ⟨⟨by omega,by omega⟩,hS,z,e1,HP.out,.inl ⟨hA,rfl,rfl,rfl⟩⟩),⟨⟨_,_,_,_,_,_,_,_,rfl,_,_,_,_,_,_,_,_,rfl,(Z1.out.mono (by omega)).put4 BR.out _ _ _ _,Ival.nought,by decide,Int.gcd_one_right ..⟩,below_put4 hw (Nat.le_refl _) _ _ _ _⟩⟩)
   ·obtain ⟨h0,hbar⟩ : e1 = 0 /\ hasBar S = true:=by
     refine ⟨?_,?_⟩
     ·exact Classical.byContradiction fun h=>hA (.inl h)
     ·cases h:hasBar S with
      | true=>rfl
      | false=>exact absurd (.inr h) hA
    subst h0
    clear hA
    go_upto_region 9 with fail
    generalize w2.alloc (.cells #[.bool g9,.slice A9 n9 d9] 31) = W9 at *
    generalize w2.heap.size = k9 at *
    go_wp2_with fail
    refine (prefix_b (botOf S) 43 (by decide) _).mono ?_
    rintro e w3 ⟨rfl,hb⟩
    replace hw:=hw.trans (hb.mono hw.size)
    replace BR:=Hd (BR.out.below hb)
    replace B9:=Hd (B9.out.below hb)
    replace V9:=Hd (V9.out.below hb)
    clear hb
    by_cases h43:(bs (botOf S)).headD 0 = 43
    ·rw [decide_eq_true (show (bs (botOf S)).headD 0 = ((43:UInt8).toNat:Int) from h43)]
     obtain ⟨r0,r1,r2,r3,r4,r5,r6,r7,r8⟩:=BR.out
     go_wp2
     exact bodyPost_ret (v:=.tuple #[.agg #[.bool false,.slice none 0 0,.bool false,.slice none 0 0],.int .i64 2]) (by simp [results,Tryz.results58,go_sem,r0,r1,r2,r3]) rfl ⟨0,1,2,.inr (.inr ⟨⟨by omega,by omega⟩,hS,z,0,HP.out,.inr ⟨rfl,hbar,.inl ⟨.inl h43,rfl,rfl,rfl⟩⟩⟩),⟨⟨false,none,0,0,false,none,0,0,rfl,_,_,_,_,_,_,_,_,rfl,Ival.nought,Ival.nought,by decide,by decide⟩,below_put4 hw (Nat.le_refl _) _ _ _ _⟩⟩
    ·rw [decide_eq_false (show ¬ (bs (botOf S)).headD 0 = ((43:UInt8).toNat:Int) from h43)]
     go_wp2_with fail
     refine (prefix_b (botOf S) 45 (by decide) _).mono ?_
     rintro e w4 ⟨rfl,hb⟩
     replace hw:=hw.trans (hb.mono hw.size)
     replace BR:=Hd (BR.out.below hb)
     replace B9:=Hd (B9.out.below hb)
     replace V9:=Hd (V9.out.below hb)
     clear hb
     by_cases h45:(bs (botOf S)).headD 0 = 45
     ·rw [decide_eq_true (show (bs (botOf S)).headD 0 = ((45:UInt8).toNat:Int) from h45)]
      obtain ⟨r0,r1,r2,r3,r4,r5,r6,r7,r8⟩:=BR.out
      go_wp2
      exact bodyPost_ret (v:=.tuple #[.agg #[.bool false,.slice none 0 0,.bool false,.slice none 0 0],.int .i64 2]) (by simp [results,Tryz.results58,go_sem,r0,r1,r2,r3]) rfl ⟨0,1,2,.inr (.inr ⟨⟨by omega,by omega⟩,hS,z,0,HP.out,.inr ⟨rfl,hbar,.inl ⟨.inr h45,rfl,rfl,rfl⟩⟩⟩),⟨⟨false,none,0,0,false,none,0,0,rfl,_,_,_,_,_,_,_,_,rfl,Ival.nought,Ival.nought,by decide,by decide⟩,below_put4 hw (Nat.le_refl _) _ _ _ _⟩⟩
     ·rw [decide_eq_false (show ¬ (bs (botOf S)).headD 0 = ((45:UInt8).toNat:Int) from h45)]
      have hsg:¬ signed47 S:=fun h=>h.elim h43 h45
      go_wp2_with fail
      refine (Parse_any (botOf S) R _ (by omega)).mono ?_
      rintro e w5 ⟨g11,A11,n11,d11,y,e2,rfl,hv11,hp11,hb⟩
      have hX:=below_alloc w5 (.cells #[.bool g11,.slice A11 n11 d11] 31)
      have hbx:=hb.trans (hX.mono hb.size)
      have B11:=Hd (Fx.new w5 (.bool g11) (.slice A11 n11 d11) 31)
      have V11:=Hd (hv11.below hX)
      have HP2:=Hd hp11
      replace hw:=hw.trans (hbx.mono hw.size)
      replace BR:=Hd (BR.out.below hbx)
      replace B9:=Hd (B9.out.below hbx)
      replace V9:=Hd (V9.out.below hbx)
      clear hb hX hbx hv11 hp11
      go_upto_region 12 with fail
      generalize w5.alloc (.cells #[.bool g11,.slice A11 n11 d11] 31) = W11 at *
      generalize w5.heap.size = k11 at *
      by_cases he2:e2 = 0
      ·subst he2
       obtain ⟨c0,c1,-,-,-⟩:=B9.out
       obtain ⟨b0,b1,-,-,-⟩:=B11.out
       go_wp2_with fail
       refine (New_any _ _ z y 20000 _ V9.out V11.out (by omega) (by omega)).mono ?_
       rintro e w6 ⟨⟨q1,Q1,s1,t1,q2,Q2,s2,t2,rfl,hq⟩,hb⟩
       have HQ:=Hd hq
       replace hw:=hw.trans (hb.mono hw.size)
       replace BR:=Hd (BR.out.below hb)
       clear hq hb c0 c1 b0 b1
       obtain ⟨r0,r1,r2,r3,r4,r5,r6,r7,r8⟩:=BR.out
       go_wp2
       exact bodyPost_ret (v:=.tuple #[.agg #[.bool q1,.slice Q1 s1 t1,.bool q2,.slice Q2 s2 t2],.int .i64 (divE y)]) (by simp [results,Tryz.results58,go_sem,r0,r1,r2,r3]) rfl ⟨newN z y,newD z y,divE y,.inr (.inr ⟨⟨by omega,by omega⟩,hS,z,0,HP.out,.inr ⟨rfl,hbar,.inr ⟨hsg,y,0,HP2.out,.inr ⟨rfl,rfl,rfl,rfl⟩⟩⟩⟩),⟨⟨_,_,_,_,_,_,_,_,rfl,HQ.out.put4 BR.out _ _ _ _⟩,below_put4 hw (Nat.le_refl _) _ _ _ _⟩⟩
      ·have hg:(e2 != 0) = true:=by simpa using he2
       obtain ⟨r0,r1,r2,r3,r4,r5,r6,r7,r8⟩:=BR.out
       go_wp2
       exact bodyPost_ret (v:=.tuple #[.agg #[.bool false,.slice none 0 0,.bool false,.slice none 0 0],.int .i64 e2]) (by simp [results,Tryz.results58,go_sem,r0,r1,r2,r3]) rfl ⟨0,1,e2,.inr (.inr ⟨⟨by omega,by omega⟩,hS,z,0,HP.out,.inr ⟨rfl,hbar,.inr ⟨hsg,y,e2,HP2.out,.inl ⟨he2,rfl,rfl,rfl⟩⟩⟩⟩),⟨⟨false,none,0,0,false,none,0,0,rfl,_,_,_,_,_,_,_,_,rfl,Ival.nought,Ival.nought,by decide,by decide⟩,below_put4 hw (Nat.le_refl _) _ _ _ _⟩⟩
theorem top_a:bs (topOf ⟨#[43,48,54,47,52]⟩) = [43,48,54]:=by kernel_rfl
theorem bot_a:bs (botOf ⟨#[43,48,54,47,52]⟩) = [52]:=by kernel_rfl
theorem bar_a:hasBar ⟨#[43,48,54,47,52]⟩ = true:=by kernel_rfl
theorem top_b:bs (topOf ⟨#[51,49,47,49,48,48]⟩) = [51,49]:=by kernel_rfl
theorem bot_b:bs (botOf ⟨#[51,49,47,49,48,48]⟩) = [49,48,48]:=by kernel_rfl
theorem bar_b:hasBar ⟨#[51,49,47,49,48,48]⟩ = true:=by kernel_rfl
theorem top_c:bs (topOf ⟨#[51,50,47,49,48,48]⟩) = [51,50]:=by kernel_rfl
theorem bot_c:bs (botOf ⟨#[51,50,47,49,48,48]⟩) = [49,48,48]:=by kernel_rfl
theorem bar_c:hasBar ⟨#[51,50,47,49,48,48]⟩ = true:=by kernel_rfl
theorem parse_lit {S:ByteArray} {n d err z y:Int} (hsz:S.size <= 20000) (hb:hasBar S = true) (h1:ParseRel 10 (bs (topOf S)) z 0) (h2:ParseRel 10 (bs (botOf S)) y 0) (hs:¬ signed47 S) (h:ParseQ 10 S n d err) : n = newN z y /\ d = newD z y /\ err = divE y:=by
 rcases h with ⟨h,_⟩ | ⟨_,h,_⟩ | ⟨_,_,z',e1,hp,h⟩
 ·omega
 ·omega
 ·obtain ⟨rfl,rfl⟩:=hp.det h1
  rcases h with ⟨h | h,_⟩ | ⟨_,_,⟨h,_⟩ | ⟨_,y',e2,hq,h⟩⟩
  ·exact absurd rfl h
  ·rw [hb] at h;cases h
  ·exact absurd h hs
  ·obtain ⟨rfl,rfl⟩:=hq.det h2
   rcases h with ⟨h,_⟩ | ⟨_,h⟩
   ·exact absurd rfl h
   ·exact h
theorem parse_a {n d err:Int} (h:ParseQ 10 ⟨#[43,48,54,47,52]⟩ n d err) : n = 3 /\ d = 2 /\ err = 0:=by
 have:=parse_lit (z:=6) (y:=4) (by decide) bar_a (by rw [top_a];exact Or.inr (Or.inl ⟨by decide,by decide,by decide,by unfold AllOk;decide,by decide,rfl⟩)) (by rw [bot_a];exact Or.inr (Or.inl ⟨by decide,by decide,by decide,by unfold AllOk;decide,by decide,rfl⟩)) (by unfold signed47;rw [bot_a];decide) h
 rw [show newN 6 4 = 3 from by decide,show newD 6 4 = 2 from by decide,show divE 4 = 0 from by decide] at this
 exact this
theorem parse_b {n d err:Int} (h:ParseQ 10 ⟨#[51,49,47,49,48,48]⟩ n d err) : n = 31 /\ d = 100 /\ err = 0:=by
 have:=parse_lit (z:=31) (y:=100) (by decide) bar_b (by rw [top_b];exact Or.inr (Or.inl ⟨by decide,by decide,by decide,by unfold AllOk;decide,by decide,rfl⟩)) (by rw [bot_b];exact Or.inr (Or.inl ⟨by decide,by decide,by decide,by unfold AllOk;decide,by decide,rfl⟩)) (by unfold signed47;rw [bot_b];decide) h
 rw [show newN 31 100 = 31 from by decide,show newD 31 100 = 100 from by decide,show divE 100 = 0 from by decide] at this
 exact this
theorem parse_c {n d err:Int} (h:ParseQ 10 ⟨#[51,50,47,49,48,48]⟩ n d err) : n = 8 /\ d = 25 /\ err = 0:=by
 have:=parse_lit (z:=32) (y:=100) (by decide) bar_c (by rw [top_c];exact Or.inr (Or.inl ⟨by decide,by decide,by decide,by unfold AllOk;decide,by decide,rfl⟩)) (by rw [bot_c];exact Or.inr (Or.inl ⟨by decide,by decide,by decide,by unfold AllOk;decide,by decide,rfl⟩)) (by unfold signed47;rw [bot_c];decide) h
 rw [show newN 32 100 = 8 from by decide,show newD 32 100 = 25 from by decide,show divE 100 = 0 from by decide] at this
 exact this
theorem text_lit {n d:Int} {T T1 T2:ByteArray} {err:Int} (hd:d ≠ 1) (h1:TextRel 10 n T1 0) (h2:TextRel 10 d T2 0) (h:QText 10 n d T err) : T = T1 ++ ⟨#[47]⟩ ++ T2 /\ err = 0:=by
 obtain ⟨T1',hr,h⟩:=h
 obtain ⟨rfl,rfl⟩:=hr.det h1
 rcases h with ⟨h | h,_⟩ | ⟨_,_,T2',hr2,h⟩
 ·exact absurd rfl h
 ·exact absurd h hd
 ·obtain ⟨rfl,_⟩:=hr2.det h2
  exact ⟨h,rfl⟩
theorem digits_of_dec (z:Int) (ds:List Int) (h:valR 10 ds = z) (h0:ds ≠ []) (h1:ds.getLastD 0 ≠ 0) (h2:DigR 10 ds) : DigitsOf 10 z ds:=⟨h2,h,h0,h1⟩
theorem text_a {T:ByteArray} {err:Int} (h:QText 10 3 2 T err) : T = ⟨#[51,47,50]⟩ /\ err = 0:=by
 have:=text_lit (T1:=⟨#[51]⟩) (T2:=⟨#[50]⟩) (by decide) (Or.inr (Or.inr ⟨by decide,by decide,by decide,rfl,[3],digits_of_dec _ _ (by decide) (by decide) (by decide) (by unfold DigR;decide),by decide⟩)) (Or.inr (Or.inr ⟨by decide,by decide,by decide,rfl,[2],digits_of_dec _ _ (by decide) (by decide) (by decide) (by unfold DigR;decide),by decide⟩)) h
 exact ⟨this.1.trans (by kernel_rfl),this.2⟩
theorem text_d {T:ByteArray} {err:Int} (h:QText 10 5 16 T err) : T = ⟨#[53,47,49,54]⟩ /\ err = 0:=by
 have:=text_lit (T1:=⟨#[53]⟩) (T2:=⟨#[49,54]⟩) (by decide) (Or.inr (Or.inr ⟨by decide,by decide,by decide,rfl,[5],digits_of_dec _ _ (by decide) (by decide) (by decide) (by unfold DigR;decide),by decide⟩)) (Or.inr (Or.inr ⟨by decide,by decide,by decide,rfl,[6,1],digits_of_dec _ _ (by decide) (by decide) (by decide) (by unfold DigR;decide),by decide⟩)) h
 exact ⟨this.1.trans (by kernel_rfl),this.2⟩
theorem simplest_bc {w:World} {e:Ending} {w':World} (h:SimplestAns 2 31 100 8 25 w e w') : RatErr 2 5 16 0 w e w':=by
 rcases h with ⟨h,_⟩ | ⟨_,n,d,hs,hr⟩
 ·omega
 ·have h1:=hs.min 5 16 (by decide) (by decide) (by decide)
  have h2:=hs.D0
  have h3:=hs.lo
  have h4:=hs.hi
  have hn:0 < n:=by omega
  have h5:n = 1 \/ n = 2 \/ n = 3 \/ n = 4 \/ n = 5:=by omega
  have:n = 5 /\ d = 16:=by rcases h5 with h | h | h | h | h <;> subst h <;> omega
  obtain ⟨rfl,rfl⟩:=this
  exact hr
theorem awake_any (w:World) (M:Int) (hM:w.cell? ⟨0,0,none⟩ = some (.int .i64 M)) :
  Calls Tryz.prog 14 #[] w fun e w'=>e = .returned (.bool true) /\ Below w.heap.size w w':=by
 have hm:=Hd hM
 clear hM
 have hw:=Hd (Below.refl w.heap.size w)
 go_enter Tryz.func14,Tryz.ntmps14
 go_wp2_with fail
 refine (Parse_q ⟨#[43,48,54,47,52]⟩ 10 M _ hm.out (by decide)).mono ?_
 rintro e w1 ⟨n,d,err,hP,⟨ua,Aa,la,ca,va,Ea,ma,da,rfl,hz⟩,hb⟩
 obtain ⟨rfl,rfl,rfl⟩:=parse_a hP
 replace hz:=hz.tight (L:=2) (by decide) (by decide) (by decide)
 replace hm:=Hd (((hb).cell (p:=⟨0,0,none⟩) (World.block_lt_of_cell? _ _ hm.out)).trans hm.out)
 replace hw:=Hd (hw.out.trans (hb.mono hw.out.size))
 clear hb hP
 have hb2:=below_alloc w1 (.cells #[.bool ua,.slice Aa la ca,.bool va,.slice Ea ma da] 38)
 replace hm:=Hd (((hb2).cell (p:=⟨0,0,none⟩) (World.block_lt_of_cell? _ _ hm.out)).trans hm.out)
 replace hw:=Hd (hw.out.trans (hb2.mono hw.out.size))
 have Ba:=Hd (Fx4.new w1 (.bool ua) (.slice Aa la ca) (.bool va) (.slice Ea ma da) 38)
 have Qa:=Hd (hz.below hb2)
 clear hb2 hz
 go_upto_region 2 with fail
 generalize w1.alloc (.cells #[.bool ua,.slice Aa la ca,.bool va,.slice Ea ma da] 38) = W1 at *
 generalize w1.heap.size = ja at *
 obtain ⟨xa0,xa1,xa2,xa3,-,-,-,-,-⟩:=Ba.out
 go_wp2_with fail
 refine (Text_q _ 3 2 10 2 _ Qa.out (by decide) (by decide)).mono ?_
 rintro e w2 ⟨⟨Ta,ra,rfl,hT⟩,hb⟩
 obtain ⟨rfl,rfl⟩:=text_a hT
 clear xa0 xa1 xa2 xa3
 replace Ba:=Hd (Ba.out.below hb)
 replace Qa:=Hd (Qa.out.below hb)
 replace hm:=Hd (((hb).cell (p:=⟨0,0,none⟩) (World.block_lt_of_cell? _ _ hm.out)).trans hm.out)
 replace hw:=Hd (hw.out.trans (hb.mono hw.out.size))
 clear hb hT
 go_wp2_with fail
 refine (Parse_q ⟨#[51,49,47,49,48,48]⟩ 10 M _ hm.out (by decide)).mono ?_
 rintro e w3 ⟨n,d,err,hP,⟨ub,Ab,lb,cb,vb,Eb,mb,db,rfl,hz⟩,hb⟩
 obtain ⟨rfl,rfl,rfl⟩:=parse_b hP
 replace hz:=hz.tight (L:=2) (by decide) (by decide) (by decide)
 replace Ba:=Hd (Ba.out.below hb)
 replace Qa:=Hd (Qa.out.below hb)
 replace hm:=Hd (((hb).cell (p:=⟨0,0,none⟩) (World.block_lt_of_cell? _ _ hm.out)).trans hm.out)
 replace hw:=Hd (hw.out.trans (hb.mono hw.out.size))
 clear hb hP
 have hb2:=below_alloc w3 (.cells #[.bool ub,.slice Ab lb cb,.bool vb,.slice Eb mb db] 38)
 replace Ba:=Hd (Ba.out.below hb2)
 replace Qa:=Hd (Qa.out.below hb2)
 replace hm:=Hd (((hb2).cell (p:=⟨0,0,none⟩) (World.block_lt_of_cell? _ _ hm.out)).trans hm.out)
 replace hw:=Hd (hw.out.trans (hb2.mono hw.out.size))
 have Bb:=Hd (Fx4.new w3 (.bool ub) (.slice Ab lb cb) (.bool vb) (.slice Eb mb db) 38)
 have Qb:=Hd (hz.below hb2)
 clear hb2 hz
 go_upto_region 4 with fail
 generalize w3.alloc (.cells #[.bool ub,.slice Ab lb cb,.bool vb,.slice Eb mb db] 38) = W3 at *
 generalize w3.heap.size = jb at *
 go_wp2_with fail
 refine (Parse_q ⟨#[51,50,47,49,48,48]⟩ 10 M _ hm.out (by decide)).mono ?_
 rintro e w4 ⟨n,d,err,hP,⟨uc,Ac,lc,cc,vc,Ec,mc,dc,rfl,hz⟩,hb⟩
 obtain ⟨rfl,rfl,rfl⟩:=parse_c hP
 replace hz:=hz.tight (L:=2) (by decide) (by decide) (by decide)
 replace Ba:=Hd (Ba.out.below hb)
 replace Qa:=Hd (Qa.out.below hb)
 replace Bb:=Hd (Bb.out.below hb)
 replace Qb:=Hd (Qb.out.below hb)
 replace hm:=Hd (((hb).cell (p:=⟨0,0,none⟩) (World.block_lt_of_cell? _ _ hm.out)).trans hm.out)
 replace hw:=Hd (hw.out.trans (hb.mono hw.out.size))
 clear hb hP
 have hb2:=below_alloc w4 (.cells #[.bool uc,.slice Ac lc cc,.bool vc,.slice Ec mc dc] 38)
 replace Ba:=Hd (Ba.out.below hb2)
 replace Qa:=Hd (Qa.out.below hb2)
 replace Bb:=Hd (Bb.out.below hb2)
 replace Qb:=Hd (Qb.out.below hb2)
 replace hm:=Hd (((hb2).cell (p:=⟨0,0,none⟩) (World.block_lt_of_cell? _ _ hm.out)).trans hm.out)
 replace hw:=Hd (hw.out.trans (hb2.mono hw.out.size))
 have Bc:=Hd (Fx4.new w4 (.bool uc) (.slice Ac lc cc) (.bool vc) (.slice Ec mc dc) 38)
 have Qc:=Hd (hz.below hb2)
 clear hb2 hz
 go_upto_region 5 with fail
 generalize w4.alloc (.cells #[.bool uc,.slice Ac lc cc,.bool vc,.slice Ec mc dc] 38) = W4 at *
 generalize w4.heap.size = jc at *
 obtain ⟨xb0,xb1,xb2,xb3,-,-,-,-,-⟩:=Bb.out
 obtain ⟨xc0,xc1,xc2,xc3,-,-,-,-,-⟩:=Bc.out
 go_wp2_with fail
 refine (Simplest_any _ _ 31 100 8 25 2 _ Qb.out Qc.out (by decide) (by decide)).mono ?_
 rintro e w5 hS
 obtain ⟨⟨ud,Ad,ld,cd,vd,Ed,md,dd,rfl,hz⟩,hb⟩:=simplest_bc hS
 clear xb0 xb1 xb2 xb3
 clear xc0 xc1 xc2 xc3
 replace Ba:=Hd (Ba.out.below hb)
 replace Qa:=Hd (Qa.out.below hb)
 replace Bb:=Hd (Bb.out.below hb)
 replace Qb:=Hd (Qb.out.below hb)
 replace Bc:=Hd (Bc.out.below hb)
 replace Qc:=Hd (Qc.out.below hb)
 replace hm:=Hd (((hb).cell (p:=⟨0,0,none⟩) (World.block_lt_of_cell? _ _ hm.out)).trans hm.out)
 replace hw:=Hd (hw.out.trans (hb.mono hw.out.size))
 clear hb hS
 have hb2:=below_alloc w5 (.cells #[.bool ud,.slice Ad ld cd,.bool vd,.slice Ed md dd] 38)
 replace Ba:=Hd (Ba.out.below hb2)
 replace Qa:=Hd (Qa.out.below hb2)
 replace Bb:=Hd (Bb.out.below hb2)
 replace Qb:=Hd (Qb.out.below hb2)
 replace Bc:=Hd (Bc.out.below hb2)
 replace Qc:=Hd (Qc.out.below hb2)
 replace hm:=Hd (((hb2).cell (p:=⟨0,0,none⟩) (World.block_lt_of_cell? _ _ hm.out)).trans hm.out)
 replace hw:=Hd (hw.out.trans (hb2.mono hw.out.size))
 have Bd:=Hd (Fx4.new w5 (.bool ud) (.slice Ad ld cd) (.bool vd) (.slice Ed md dd) 38)
 have Qd:=Hd (hz.below hb2)
 clear hb2 hz
 go_upto_region 6 with fail
 generalize w5.alloc (.cells #[.bool ud,.slice Ad ld cd,.bool vd,.slice Ed md dd] 38) = W5 at *
 generalize w5.heap.size = jd at *
 obtain ⟨xd0,xd1,xd2,xd3,-,-,-,-,-⟩:=Bd.out
 go_wp2_with fail
 refine (Text_q _ 5 16 10 2 _ Qd.out (by decide) (by decide)).mono ?_
 rintro e w6 ⟨⟨Td,rd,rfl,hT⟩,hb⟩
 obtain ⟨rfl,rfl⟩:=text_d hT
 clear xd0 xd1 xd2 xd3
 replace Ba:=Hd (Ba.out.below hb)
 replace Qa:=Hd (Qa.out.below hb)
 replace Bb:=Hd (Bb.out.below hb)
 replace Qb:=Hd (Qb.out.below hb)
 replace Bc:=Hd (Bc.out.below hb)
 replace Qc:=Hd (Qc.out.below hb)
 replace Bd:=Hd (Bd.out.below hb)
 replace Qd:=Hd (Qd.out.below hb)
 replace hm:=Hd (((hb).cell (p:=⟨0,0,none⟩) (World.block_lt_of_cell? _ _ hm.out)).trans hm.out)
 replace hw:=Hd (hw.out.trans (hb.mono hw.out.size))
 clear hb hT
 have hmx:∀ w0:World,Sem.run Tryz.prog (Builtin.max_ #[39,39,39,39,39,39] 39 #[Value.int IntKind.i64 0,Value.int IntKind.i64 0,Value.int IntKind.i64 0,Value.int IntKind.i64 0,Value.int IntKind.i64 0,Value.int IntKind.i64 0]) w0 = Result.ok (Value.int IntKind.i64 0) w0:=fun _=>by kernel_rfl
 go_wp2
 go_ret
 exact ⟨rfl,hw.out⟩
end Go.Proofs.YtbajnceoolkckaaGreat
