/- Of the proof of RationalActs: Lens0. -/
import Derived.Shelf.Small.Bits
import Derived.Shelf.Strconv.Itoa0
import Derived.Test.YtbajnceoolkckaaGreatProg
import Derived.Test.YtbajnceoolkckaaGreatRa03
import Derived.Lib.ItoaNum
open Go.Lib renaming hid → Hd
set_option maxRecDepth 100000
set_option maxHeartbeats 16000000
namespace Go.Proofs
open Go.Shelf
def Tryz.lays125_ren:Go.Shelf.Ren:=⟨fun | 125=>160 | 128=>177 | 129=>178 | n=>n,fun | 46=>184 | 3=>3 | 51=>135 | 53=>151 | 4=>4 | 5=>5 | 9=>9 | n=>n,fun | n=>n⟩
theorem Tryz.lays125:Go.Proofs.Lays.n125 Tryz.prog Tryz.lays125_ren:={
 mixed:=by kernel_rfl
 f125:=Tryz.func160.trans (congrArg some (by kernel_rfl))
 f128:=Tryz.func177.trans (congrArg some (by kernel_rfl))
 f129:=Tryz.func178.trans (congrArg some (by kernel_rfl))
 t3:=Tryz.underlying3
 a3:=Tryz.isAgg3
 z3:=Tryz.sizeOf3
 v3:=Tryz.zeroValue3
 t4:=Tryz.underlying4
 a4:=Tryz.isAgg4
 z4:=Tryz.sizeOf4
 v4:=Tryz.zeroValue4
 t5:=Tryz.underlying5
 a5:=Tryz.isAgg5
 z5:=Tryz.sizeOf5
 v5:=Tryz.zeroValue5
 t9:=Tryz.underlying9
 a9:=Tryz.isAgg9
 z9:=Tryz.sizeOf9
 v9:=Tryz.zeroValue9
 t46:=Tryz.underlying184
 a46:=Tryz.isAgg184
 z46:=Tryz.sizeOf184
 v46:=Tryz.zeroValue184
 t51:=Tryz.underlying135
 a51:=Tryz.isAgg135
 z51:=Tryz.sizeOf135
 v51:=Tryz.zeroValue135
 t53:=Tryz.underlying151
 a53:=Tryz.isAgg151
 z53:=Tryz.sizeOf151
 v53:=Tryz.zeroValue151 }
theorem Tryz.bits_Len (x:Int) (w:World) (h0:0 <= x) (h1:x <= 18446744073709551615) :
    Calls Tryz.prog 160 #[.int .u64 x] w fun e w'=>e = .returned (.int .i64 (Lib.bitLen x.toNat)) /\ w' = w:=Any.bits_Len Tryz.lays125 x w h0 h1
def Tryz.lays133_ren:Go.Shelf.Ren:=⟨fun | 133=>158 | 128=>177 | n=>n,fun | 51=>135 | 3=>3 | 4=>4 | 46=>184 | 5=>5 | 9=>9 | n=>n,fun | n=>n⟩
theorem Tryz.lays133:Go.Proofs.Lays.n133 Tryz.prog Tryz.lays133_ren:={
 mixed:=by kernel_rfl
 f128:=Tryz.func177.trans (congrArg some (by kernel_rfl))
 f133:=Tryz.func158.trans (congrArg some (by kernel_rfl))
 t3:=Tryz.underlying3
 a3:=Tryz.isAgg3
 z3:=Tryz.sizeOf3
 v3:=Tryz.zeroValue3
 t4:=Tryz.underlying4
 a4:=Tryz.isAgg4
 z4:=Tryz.sizeOf4
 v4:=Tryz.zeroValue4
 t5:=Tryz.underlying5
 a5:=Tryz.isAgg5
 z5:=Tryz.sizeOf5
 v5:=Tryz.zeroValue5
 t9:=Tryz.underlying9
 a9:=Tryz.isAgg9
 z9:=Tryz.sizeOf9
 v9:=Tryz.zeroValue9
 t46:=Tryz.underlying184
 a46:=Tryz.isAgg184
 z46:=Tryz.sizeOf184
 v46:=Tryz.zeroValue184
 t51:=Tryz.underlying135
 a51:=Tryz.isAgg135
 z51:=Tryz.sizeOf135
 v51:=Tryz.zeroValue135 }
theorem Tryz.bits_LeadingZeros32 (x:Int) (w:World) (h0:0 <= x) (h1:x <= 4294967295) :
    Calls Tryz.prog 158 #[.int .u32 x] w fun e w'=>e = .returned (.int .i64 (32 - (Lib.bitLen x.toNat:Int))) /\ w' = w:=Any.bits_LeadingZeros32 Tryz.lays133 x w h0 h1
end Go.Proofs
namespace Go.Proofs.YtbajnceoolkckaaGreat
open Go.RowKit LM
theorem of_boxes {w w':World} {u:Value} {p:Bool} (h:Below (w.heap.size + 1) (((w.alloc (.cells #[.bool p,u] 24)).alloc (.cells #[.bool false,.slice none 0 0] 31)).alloc (.cells #[.bool false,.slice none 0 0] 34)) w') :
  w'.cell? ⟨w.heap.size,0,none⟩ = some (.bool p) /\ w'.cell? ⟨w.heap.size,1,none⟩ = some u /\ Below (w.heap.size + 1) (((w.alloc (.cells #[.bool p,u] 24)).alloc (.cells #[.bool false,.slice none 0 0] 31)).alloc (.cells #[.bool false,.slice none 0 0] 34)) w':=by
 refine ⟨?_,?_,h⟩
 ·rw [h.cell (by simp),World.cell?_alloc_past _ _ _ (by simp;omega),World.cell?_alloc_past _ _ _ (by simp),World.cell?_alloc_at _ _ _ _ rfl];rfl
 ·rw [h.cell (by simp),World.cell?_alloc_past _ _ _ (by simp;omega),World.cell?_alloc_past _ _ _ (by simp),World.cell?_alloc_at _ _ _ _ rfl];rfl
theorem of_rooms {w w':World} {x:Obj} (h:Below (w.heap.size + 3) (((w.alloc x).alloc (.cells #[.bool false,.slice none 0 0] 31)).alloc (.cells #[.bool false,.slice none 0 0] 34)) w') :
  (w'.cell? ⟨w.heap.size + 1,0,none⟩ = some (.bool false) /\ w'.cell? ⟨w.heap.size + 1,1,none⟩ = some (.slice none 0 0) /\ w'.frozen? ⟨w.heap.size + 1,0,none⟩ = false /\ w'.frozen? ⟨w.heap.size + 1,1,none⟩ = false) /\
  w'.cell? ⟨w.heap.size + 1 + 1,0,none⟩ = some (.bool false) /\ w'.cell? ⟨w.heap.size + 1 + 1,1,none⟩ = some (.slice none 0 0) /\ w'.frozen? ⟨w.heap.size + 1 + 1,0,none⟩ = false /\ w'.frozen? ⟨w.heap.size + 1 + 1,1,none⟩ = false:=by
 refine ⟨⟨?_,?_,?_,?_⟩,?_,?_,?_,?_⟩
 ·rw [h.cell (by simp),World.cell?_alloc_past _ _ _ (by simp),World.cell?_alloc_at _ _ _ _ (by simp)];rfl
 ·rw [h.cell (by simp),World.cell?_alloc_past _ _ _ (by simp),World.cell?_alloc_at _ _ _ _ (by simp)];rfl
 ·rw [h.frozen (by simp),World.frozen?_alloc_past _ _ _ (by simp)];exact World.frozen?_alloc_at _ _ _ _ (by simp)
 ·rw [h.frozen (by simp),World.frozen?_alloc_past _ _ _ (by simp)];exact World.frozen?_alloc_at _ _ _ _ (by simp)
 ·rw [h.cell (by simp),World.cell?_alloc_at _ _ _ _ (by simp)];rfl
 ·rw [h.cell (by simp),World.cell?_alloc_at _ _ _ _ (by simp)];rfl
 ·rw [h.frozen (by simp)];exact World.frozen?_alloc_at _ _ _ _ (by simp)
 ·rw [h.frozen (by simp)];exact World.frozen?_alloc_at _ _ _ _ (by simp)
theorem Rval.stored2 {w:World} {s:Value} {z:Int} {L:Nat} (h:Rval w s z L) {r t:Nat} (hrt:r ≠ t) (e1:w.cell? ⟨r,0,none⟩ = some (.bool false)) (e2:w.cell? ⟨r,1,none⟩ = some (.slice none 0 0))
  (g1:w.cell? ⟨t,0,none⟩ = some (.bool false)) (g2:w.cell? ⟨t,1,none⟩ = some (.slice none 0 0)) (x y x' y':Value) :
  Rval ((((w.setCell ⟨r,0,none⟩ x).setCell ⟨r,1,none⟩ y).setCell ⟨t,0,none⟩ x').setCell ⟨t,1,none⟩ y') s z L:=by
 refine (h.stored e1 e2 x y).stored ?_ ?_ x' y'
 ·rw [World.cell?_setCell_other _ _ _ _ (by simp <;> omega),World.cell?_setCell_other _ _ _ _ (by simp <;> omega),g1]
 ·rw [World.cell?_setCell_other _ _ _ _ (by simp <;> omega),World.cell?_setCell_other _ _ _ _ (by simp <;> omega),g2]
theorem of_any (p:Bool) (A:Option Addr) (n c:Nat) (xs:List Int) (w:World) (h:Row .u32 w A n c xs) (hn:n <= 1048576) (hd:Dig xs) :
  Calls Tryz.prog 15 #[.agg #[.bool p,.slice A n c]] w fun e w'=>∃ g1 A1 n1 c1 g2 A2 n2 c2,e = .returned (.tuple #[.agg #[.bool g1,.slice A1 n1 c1],.agg #[.bool g2,.slice A2 n2 c2]]) /\
   Ival w' (.agg #[.bool g1,.slice A1 n1 c1]) (withSign p (val xs)) n /\ Rval w' (.agg #[.bool g2,.slice A2 n2 c2]) (withSign p (val xs)) (2 * n) /\ Below w.heap.size w w':=by
 have hW:Below w.heap.size w (((w.alloc (.cells #[.bool p,.slice A n c] 24)).alloc (.cells #[.bool false,.slice none 0 0] 31)).alloc (.cells #[.bool false,.slice none 0 0] 34)):=(below_two w _ _).alloc (by simp;omega) _
 have hC0:=(Below.refl (w.heap.size + 1) (((w.alloc (.cells #[.bool p,.slice A n c] 24)).alloc (.cells #[.bool false,.slice none 0 0] 31)).alloc (.cells #[.bool false,.slice none 0 0] 34))).drew
 have hD0:=(Below.refl (w.heap.size + 3) (((w.alloc (.cells #[.bool p,.slice A n c] 24)).alloc (.cells #[.bool false,.slice none 0 0] 31)).alloc (.cells #[.bool false,.slice none 0 0] 34))).drew
 have HH:=Hd h
 have HD:=Hd hd
 clear h hd
 have h1:w.heap.size + 1 <= w.heap.size + 1:=Nat.le_refl _
 have h2:w.heap.size + 1 <= w.heap.size + 1 + 1:=Nat.le_succ _
 go_enter Tryz.func15,Tryz.ntmps15
 go_wp2_with fail
 go_region_held3 (fun w'=>w'.cell? ⟨w.heap.size,0,none⟩ = some (.bool p) /\ w'.cell? ⟨w.heap.size,1,none⟩ = some (.slice A n c) /\ Below (w.heap.size + 1) (((w.alloc (.cells #[.bool p,.slice A n c] 24)).alloc (.cells #[.bool false,.slice none 0 0] 31)).alloc (.cells #[.bool false,.slice none 0 0] 34)) w')
  (first | (with_reducible exact of_boxes hC2) | (with_reducible exact of_boxes (Below.setCell (Below.setCell hC2 h1 _) h1 _)) | (with_reducible exact of_boxes (Below.setCell (Below.setCell (Below.setCell (Below.setCell hC2 h1 _) h1 _) h2 _) h2 _)) | (with_reducible exact of_boxes hC1) | (with_reducible exact of_boxes hC0))
  (first
   | (go_at_call 75;have hK:=hC1;clear hK;refine (rmake_any p A n c xs _ (HH.out.below (hW.trans (hC1.mono (by omega)))) hn HD.out).mono ?_;rintro e w2 ⟨⟨ng2,A2,n2,c2,rfl,hr2⟩,hb2⟩;have hD2:=Below.trans hD1 (hb2.mono (by have:=hD1.size;simpa using this));have hC2:=hD2.mono (B':=w.heap.size + 1) (by omega);have HR2:=Hd hr2;clear hr2;obtain ⟨⟨e1,e2,f1,f2⟩,g1,g2,k1,k2⟩:=of_rooms hD2)
   | (go_at_call 74;refine (make_typed p A n c xs _ (HH.out.below (hW.trans (hC0.mono (by omega)))) (by omega) HD.out).mono ?_;rintro e w1 ⟨ng1,A1,n1,c1,rfl,hv1,_,hb1⟩;have hD1:=Below.trans hD0 (hb1.mono (by simp));have hC1:=hD1.mono (B':=w.heap.size + 1) (by omega);have HV1:=Hd hv1;clear hv1))
 go_wp2
 have hrt:w.heap.size + 1 ≠ w.heap.size + 1 + 1:=by omega
 refine bodyPost_ret (v:=.tuple #[.agg #[.bool ng1,.slice A1 n1 c1],.agg #[.bool ng2,.slice A2 n2 c2]]) (by simp [results,Tryz.results15,go_sem,e1,e2,g1,g2]) rfl ⟨_,_,_,_,_,_,_,_,rfl,?_,?_,?_⟩
 ·exact (HV1.out.below hb2).stored2 hrt e1 e2 g1 g2 _ _ _ _
 ·exact HR2.out.stored2 hrt e1 e2 g1 g2 _ _ _ _
 ·exact ((((hW.trans (hC2.mono (by omega))).setCell (by show _ <= _;simp) _).setCell (by show _ <= _;simp) _).setCell (by show _ <= _;simp;omega) _).setCell (by show _ <= _;simp;omega) _
open Go.RowKit LM
def IsLen (z:Int) (k:Nat) : Prop:=(z = 0 /\ k = 0) \/ (1 <= k /\ (2:Int) ^ (k - 1) <= z /\ z < 2 ^ k)
theorem two_pos (n:Nat) : (0:Int) < 2 ^ n:=Int.pow_pos (by decide)
theorem two_mono {m n:Nat} (h:m <= n) : (2:Int) ^ m <= 2 ^ n:=by
 obtain ⟨k,rfl⟩:=Nat.exists_eq_add_of_le h
 rw [Int.pow_add]
 have h1:=two_pos k
 have:=Int.mul_le_mul_of_nonneg_left (show (1:Int) <= 2 ^ k by omega) (Int.le_of_lt (two_pos m))
 omega
theorem two_lt {m n:Nat} (h:(2:Int) ^ m < 2 ^ n) : m < n:=by
 rcases Nat.lt_or_ge m n with h' | h'
 ·exact h'
 ·have:=two_mono h';omega
theorem IsLen.det {z:Int} {k m:Nat} (h:IsLen z k) (g:IsLen z m) : k = m:=by
 rcases h with ⟨rfl,rfl⟩ | ⟨h1,h2,h3⟩ <;> rcases g with ⟨g0,rfl⟩ | ⟨g1,g2,g3⟩
 ·rfl
 ·have:=two_pos (m - 1);omega
 ·subst g0;have:=two_pos (k - 1);omega
 ·have a:=two_lt (show (2:Int) ^ (k - 1) < 2 ^ m by omega)
  have b:=two_lt (show (2:Int) ^ (m - 1) < 2 ^ k by omega)
  omega
theorem bitLen_is (x : Int) (h0 : 0 < x) (h1 : x < 4294967296) : IsLen x (Lib.bitLen x.toNat) ∧ Lib.bitLen x.toNat ≤ 32 := by
  obtain ⟨a, b, c⟩ := Lib.bitLenAux_bounds 64 x.toNat (by omega) (by omega)
  have e : Lib.bitLen x.toNat = Lib.bitLenAux 64 x.toNat := rfl
  rw [e]
  generalize Lib.bitLenAux 64 x.toNat = k at *
  have b' : (2 : Int) ^ (k - 1) ≤ x := by
    have : ((2 ^ (k - 1) : Nat) : Int) ≤ (x.toNat : Int) := by exact_mod_cast b
    rw [Int.natCast_pow] at this
    have e2 : (x.toNat : Int) = x := Int.toNat_of_nonneg (by omega)
    rw [e2] at this; exact this
  have c' : x < (2 : Int) ^ k := by
    have : (x.toNat : Int) < ((2 ^ k : Nat) : Int) := by exact_mod_cast c
    rw [Int.natCast_pow] at this
    have e2 : (x.toNat : Int) = x := Int.toNat_of_nonneg (by omega)
    rw [e2] at this; exact this
  refine ⟨.inr ⟨a, b', c'⟩, ?_⟩
  have h32 : x < (2 : Int) ^ 32 := by have : (2 : Int) ^ 32 = 4294967296 := by decide
                                      omega
  have := two_lt (show (2 : Int) ^ (k - 1) < 2 ^ 32 by omega)
  omega
theorem top_len {xs:List Int} {n:Nat} {t:Int} {b:Nat} (hd:Dig xs) (hl:xs.length = n) (hn:n ≠ 0) (ht:xs.getD (n - 1) 0 = t) (hb:IsLen t b) (ht0:t ≠ 0) : IsLen (val xs) (32 * (n - 1) + b):=by
 rcases hb with ⟨h,_⟩ | ⟨b1,b2,b3⟩
 ·exact absurd h ht0
 have e:=val_take_succ xs (n - 1)
 rw [show n - 1 + 1 = n from by omega,List.take_of_length_le (by omega),ht,BB_two] at e
 have h1:=val_bounds (hd.take (n - 1))
 rw [List.length_take,hl,Nat.min_eq_left (by omega),BB_two] at h1
 generalize val (xs.take (n - 1)) = r at *
 have hp:=two_pos (32 * (n - 1))
 refine .inr ⟨by omega,?_,?_⟩
 ·rw [show 32 * (n - 1) + b - 1 = 32 * (n - 1) + (b - 1) from by omega,Int.pow_add,e]
  have:=Int.mul_le_mul_of_nonneg_left b2 (Int.le_of_lt hp)
  omega
 ·rw [Int.pow_add,e]
  have:=Int.mul_le_mul_of_nonneg_left (show t + 1 <= 2 ^ b by omega) (Int.le_of_lt hp)
  rw [Int.mul_add,Int.mul_one] at this
  omega
theorem length_num (u:Value) (z:Int) (L:Nat) (w:World) (h:Num w u z L) (hL:L <= 1048576) :
  Calls Tryz.prog 128 #[u] w fun e w'=>(∃ k:Nat,e = .returned (.int .i64 k) /\ IsLen z k /\ k <= 32 * L) /\ w = w':=by
 obtain ⟨A,n,c,xs,rfl,hr,hd,ht,hv,hn⟩:=h
 by_cases hn0:n = 0
 ·have hz:z = 0:=by
   have:xs = []:=List.eq_nil_of_length_eq_zero (by rw [hr.1];exact hn0)
   rw [<- hv,this];rfl
  have HZ:=Hd hz
  subst hn0
  clear hz hv hr ht
  go_enter Tryz.func128,Tryz.ntmps128
  go_wp2_with fail
  go_ret
  exact ⟨⟨0,rfl,.inl ⟨HZ.out,rfl⟩,Nat.zero_le _⟩,rfl⟩
 ·obtain ⟨b,o,rfl,hbx,hx⟩:=hr.2.2 hn0
  obtain ⟨t,et⟩ : ∃ t,xs.getD (n - 1) 0 = t:=⟨_,rfl⟩
  have hx1:w.cell? ⟨b,o + (n - 1),none⟩ = some (.int .u32 t):=by rw [<- et];exact hx (n - 1) (by omega)
  have ht0:t ≠ 0:=by
   rcases ht with h | h
   ·rw [hr.1] at h;exact absurd h hn0
   ·rw [hr.1,et] at h;exact h
  have bt:=hd.getD (n - 1)
  rw [et,BB_def] at bt
  obtain ⟨hlen,hle⟩:=bitLen_is t (by omega) bt.2
  have hres:=top_len hd hr.1 hn0 et hlen ht0
  rw [hv] at hres
  have HRES:=Hd hres
  obtain ⟨bl,hbl⟩ : ∃ bl,Lib.bitLen t.toNat = bl:=⟨_,rfl⟩
  rw [hbl] at HRES hle
  have z2:((n:Int) == 0) = false:=by simp;omega
  have q1:(0:Int) <= (n:Int) - 1:=by omega
  have q2:(n:Int) - 1 < (n:Int):=by omega
  have q3:((n:Int) - 1).toNat = n - 1:=by omega
  clear hres hlen hv ht hr hx et
  go_enter Tryz.func128,Tryz.ntmps128
  go_wp2_with fail
  refine (Tryz.bits_LeadingZeros32 t _ (by omega) (by omega)).mono ?_
  rintro e w' ⟨rfl,rfl⟩
  rw [hbl]
  go_wp2_with fail
  go_ret
  have e:(((32 * (n - 1) + bl:Nat)) : Int) = (n:Int) * 32 - (32 - (bl:Int)):=by omega
  exact ⟨⟨32 * (n - 1) + bl,by rw [e];rfl,HRES.out,by omega⟩,rfl⟩
def patOf (x:Int) : Int:=if x < 0 then -1 - x else x
theorem row_one (w:World) (e:TypeId) : Row .u32 (w.alloc (.cells #[.int .u32 1] e)) (some ⟨w.heap.size,0,none⟩) 1 1 [1]:=by
 refine ⟨rfl,Nat.le_refl _,fun _=>⟨w.heap.size,0,rfl,by simp,fun i hi=>?_⟩⟩
 obtain rfl:i = 0:=by omega
 rw [World.cell?_alloc_at _ _ _ _ rfl];rfl
theorem pattern_any (u:Value) (x:Int) (L:Nat) (w:World) (h:Ival w u x L) (hL:L <= 1048576) :
  Calls Tryz.prog 161 #[u] w fun e w'=>(∃ v,e = .returned v /\ Num w' v (patOf x) L) /\ Below w.heap.size w w':=by
 obtain ⟨p,A,n,c,rfl⟩:=h.form
 obtain ⟨a,ha,ha0,rfl,ha1⟩:=h.parts
 have hW:=below_alloc w (.cells #[.bool p,.slice A n c] 31)
 cases p with
 | false=>
  have HA:=Hd (ha.below hW)
  have hp:patOf (withSign false a) = a:=by simp [patOf,withSign];omega
  rw [hp]
  clear h ha hp
  go_enter Tryz.func161,Tryz.ntmps161
  go_wp2_with fail
  go_ret
  exact ⟨⟨_,rfl,HA.out⟩,hW⟩
 | true=>
  have hW2:=below_two w (.cells #[.bool true,.slice A n c] 31) (.cells #[.int .u32 1] 135)
  have hane:=ha1 rfl
  have hp:patOf (withSign true a) = a - 1:=by simp [patOf,withSign];omega
  have HA:=Hd (ha.below hW2)
  have h1:=row_one (w.alloc (.cells #[.bool true,.slice A n c] 31)) 135
  have H1:=Hd (show Num ((w.alloc (.cells #[.bool true,.slice A n c] 31)).alloc (.cells #[.int .u32 1] 135)) (.slice (some ⟨(w.alloc (.cells #[.bool true,.slice A n c] 31)).heap.size,0,none⟩) 1 1) 1 1 from
   ⟨_,_,_,_,rfl,h1,Dig.one (by decide) (by decide),.inr (by decide),by simp [val],Nat.le_refl _⟩)
  rw [hp]
  clear h ha hp h1
  go_enter Tryz.func161,Tryz.ntmps161
  go_wp2_with fail
  have H1':=H1.out
  simp at H1'
  refine (subtract_num _ _ a 1 L 1 _ HA.out H1' (by omega) (by omega)).mono ?_
  rintro e w' ⟨r,rfl,hr,hb⟩
  have HR:=Hd hr
  clear hr H1'
  go_wp2_with fail
  go_ret
  exact ⟨⟨_,rfl,HR.out⟩,hW2.trans (hb.mono (by simp;omega))⟩
theorem Length_any (u:Value) (x:Int) (L:Nat) (w:World) (h:Ival w u x L) (hL:L <= 1048576) :
  Calls Tryz.prog 131 #[u] w fun e w'=>(∃ k:Nat,e = .returned (.int .i64 k) /\ IsLen (patOf x) k /\ k <= 32 * L) /\ Below w.heap.size w w':=by
 obtain ⟨p,A,n,c,rfl⟩:=h.form
 have hW:=below_alloc w (.cells #[.bool p,.slice A n c] 31)
 have HH:=Hd (h.below hW)
 clear h
 go_enter Tryz.func131,Tryz.ntmps131
 go_wp2_with fail
 refine (pattern_any _ x L _ HH.out hL).mono ?_
 rintro e w1 ⟨⟨v,rfl,hv⟩,hb⟩
 have HV:=Hd hv
 clear hv
 go_wp2_with fail
 refine (length_num v _ L _ HV.out hL).mono ?_
 rintro e w2 ⟨⟨k,rfl,hk,hkl⟩,rfl⟩
 have HK:=Hd hk
 clear hk
 go_wp2_with fail
 go_ret
 exact ⟨⟨k,rfl,HK.out,hkl⟩,hW.trans (hb.mono (by simp))⟩
end Go.Proofs.YtbajnceoolkckaaGreat
