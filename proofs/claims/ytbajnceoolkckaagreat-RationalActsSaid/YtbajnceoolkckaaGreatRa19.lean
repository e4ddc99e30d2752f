/- Of the proof of RationalActs: RPower, RPower2, PowInt, RAbs. -/
import Derived.Test.YtbajnceoolkckaaGreatRa18
open Go.Lib renaming hid → Hd
set_option maxRecDepth 100000
set_option maxHeartbeats 16000000
namespace Go.Proofs.YtbajnceoolkckaaGreat
open Go.RowKit LM
theorem rPower_bad (p:Bool) (A:Option Addr) (m c:Nat) (n:Int) (w:World) (h:n < 0) :
  Calls Tryz.prog 93 #[.agg #[.bool p,.slice A m c],.int .i64 n] w fun e w'=>e = .returned (.tuple #[.agg #[.bool false,.slice none 0 0],.int .i64 1]) /\ Below w.heap.size w w':=by
 have hW:=below_two w (.cells #[.bool p,.slice A m c] 34) (.cells #[.bool false,.slice none 0 0] 34)
 obtain ⟨-,⟨e1,e2,f1,f2⟩⟩:=sh_hold (Below.refl (w.heap.size + 2) ((w.alloc (.cells #[.bool p,.slice A m c] 34)).alloc (.cells #[.bool false,.slice none 0 0] 34)))
 go_enter Tryz.func93,Tryz.ntmps93
 go_wp2
 refine bodyPost_ret (v:=.tuple #[.agg #[.bool false,.slice none 0 0],.int .i64 1]) (by simp [results,Tryz.results93,go_sem,e1,e2]) rfl ⟨rfl,?_⟩
 exact hW
theorem rbox_new {w w':World} {p:Bool} {u:Value} {t:TypeId} (h:Below (w.heap.size + 1) (w.alloc (.cells #[.bool p,u] t)) w') : w'.cell? ⟨w.heap.size,0,none⟩ = some (.bool p) /\ w'.cell? ⟨w.heap.size,1,none⟩ = some u:=by
 refine ⟨?_,?_⟩
 ·rw [h.cell (by simp),World.cell?_alloc_at _ _ _ _ (by simp)];rfl
 ·rw [h.cell (by simp),World.cell?_alloc_at _ _ _ _ (by simp)];rfl
theorem small_even {x:Int} (h:x = -1) (n:Nat) (he:n % 2 = 0) : x ^ n = 1:=by
 subst h
 have:=neg_pow 1 n
 rw [if_neg (by omega),Int.one_pow] at this
 exact this
theorem small_odd {x:Int} (h:x = -1) (n:Nat) (ho:n % 2 = 1) : x ^ n = x:=by
 subst h
 have:=neg_pow 1 n
 rw [if_pos ho,Int.one_pow] at this
 exact this
theorem rPower_small (u:Value) (x:Int) (L n:Nat) (w:World) (h:Rval w u x L) (hL:L <= 100) (hn:n <= 9223372036854775807) (hx:-1 <= x /\ x <= 1) :
  Calls Tryz.prog 93 #[u,.int .i64 n] w fun e w'=>(∃ ng A2 n2 c2,e = .returned (.tuple #[.agg #[.bool ng,.slice A2 n2 c2],.int .i64 0]) /\ Rval w' (.agg #[.bool ng,.slice A2 n2 c2]) (x ^ n) 100) /\ Below w.heap.size w w':=by
 obtain ⟨p,A,m,c,rfl⟩:=h.form
 have hW:=below_two w (.cells #[.bool p,.slice A m c] 34) (.cells #[.bool false,.slice none 0 0] 34)
 have hs2:w.heap.size + 2 <= ((w.alloc (.cells #[.bool p,.slice A m c] 34)).alloc (.cells #[.bool false,.slice none 0 0] 34)).heap.size:=by simp
 have HX:=Hd (h.below hW)
 have HS:=Hd (fun (w':World) (hb:Below (w.heap.size + 2) ((w.alloc (.cells #[.bool p,.slice A m c] 34)).alloc (.cells #[.bool false,.slice none 0 0] 34)) w')=>sh_hold hb)
 have hB0:=Below.refl (w.heap.size + 2) ((w.alloc (.cells #[.bool p,.slice A m c] 34)).alloc (.cells #[.bool false,.slice none 0 0] 34))
 have z1:¬ (n:Int) < 0:=by omega
 clear h
 go_enter Tryz.func93,Tryz.ntmps93
 go_wp2_with fail
 refine (rnew_any 1 _ (by decide) (by decide)).mono ?_
 rintro e w1 ⟨⟨g1,A1,n1,d1,rfl,hone⟩,hb1⟩
 have hB1:=hB0.trans (hb1.mono (B':=w.heap.size + 2) hs2)
 have hN:=below_alloc w1 (.cells #[.bool g1,.slice A1 n1 d1] 34)
 have hz1:w.heap.size + 2 <= w1.heap.size:=Nat.le_trans hs2 hB1.size
 have hB2:=hB1.trans (hN.mono hz1)
 have HONE:=Hd (hone.below hN)
 have HX2:=Hd (HX.out.below (hb1.trans (hN.mono hb1.size)))
 have hD2:=Below.refl (w1.heap.size + 1) (w1.alloc (.cells #[.bool g1,.slice A1 n1 d1] 34))
 clear hone hN
 obtain ⟨⟨k0,k1⟩,-⟩:=HS.out _ hB2
 go_wp2_with fail
 refine (width_abs _ x L _ HX2.out (by omega)).mono ?_
 rintro e w2 ⟨⟨d,rfl,hd,hdl⟩,hb2⟩
 have hd2:(d:Int) <= 1:=by
  rcases hd with ⟨h',rfl⟩ | ⟨h1,h2,h3⟩
  ·decide
  ·by_cases hdd:d <= 1
   ·omega
   ·have:=two_mono (show 1 <= d - 1 by omega)
    have e2:(2:Int) ^ 1 = 2:=by decide
    split at h2 <;> omega
 have hB3:=hB2.trans (hb2.mono (B':=w.heap.size + 2) (by simp;omega))
 have hD3:=hD2.trans (hb2.mono (B':=w1.heap.size + 1) (by simp))
 have HONE3:=Hd (HONE.out.below hb2)
 have HX3:=Hd (HX2.out.below hb2)
 clear hd k0 k1
 by_cases hn0:n = 0
 ·subst hn0
  have z0:((((0:Nat) : Int)) == 0) = true:=by decide
  obtain ⟨c1,c2⟩:=rbox_new hD3
  have HV:=Hd (show x ^ 0 = 1 from Int.pow_zero x)
  obtain ⟨e1,e2,f1,f2⟩:=(HS.out _ hB3).2
  go_wp2
  refine bodyPost_ret (v:=.tuple #[.agg #[.bool g1,.slice A1 n1 d1],.int .i64 0]) (by simp [results,Tryz.results93,go_sem,e1,e2]) rfl ⟨⟨_,_,_,_,rfl,?_⟩,?_⟩
  ·rw [HV.out];exact (HONE3.out.mono (by omega)).stored e1 e2 _ _
  ·exact ((hW.trans (hB3.mono (by omega))).setCell (by show _ <= _;simp) _).setCell (by show _ <= _;simp) _
 ·have z0:((n:Int) == 0) = false:=by simp;omega
  obtain ⟨⟨k0,k1⟩,-⟩:=HS.out _ hB3
  go_wp2_with fail
  refine (rsign_any _ x L _ HX3.out (by omega)).mono ?_
  rintro e w3 ⟨rfl,hb3⟩
  have hB4:=hB3.trans (hb3.mono (B':=w.heap.size + 2) (Nat.le_trans hs2 hB3.size))
  have hz2:w1.heap.size + 1 <= w2.heap.size:=by have:=hD3.size;simpa using this
  have hD4:=hD3.trans (hb3.mono (B':=w1.heap.size + 1) hz2)
  have HONE4:=Hd (HONE3.out.below hb3)
  have HX4:=Hd (HX3.out.below hb3)
  clear k0 k1
  obtain ⟨sg,hsg⟩ : ∃ sg,cmpI x 0 = sg:=⟨_,rfl⟩
  rw [hsg]
  by_cases hx1:x = 1
  ·have hs0:(0:Int) < sg:=by rw [<- hsg,hx1];decide
   obtain ⟨c1,c2⟩:=rbox_new hD4
   have HV:=Hd (show x ^ n = 1 by rw [hx1,Int.one_pow])
   obtain ⟨e1,e2,f1,f2⟩:=(HS.out _ hB4).2
   go_wp2
   refine bodyPost_ret (v:=.tuple #[.agg #[.bool g1,.slice A1 n1 d1],.int .i64 0]) (by simp [results,Tryz.results93,go_sem,e1,e2]) rfl ⟨⟨_,_,_,_,rfl,?_⟩,?_⟩
   ·rw [HV.out];exact (HONE4.out.mono (by omega)).stored e1 e2 _ _
   ·exact ((hW.trans (hB4.mono (by omega))).setCell (by show _ <= _;simp) _).setCell (by show _ <= _;simp) _
  ·have hs0:¬ (0:Int) < sg:=by
    have:x = 0 \/ x = -1:=by omega
    rw [<- hsg]
    rcases this with rfl | rfl <;> decide
   obtain ⟨⟨k0,k1⟩,-⟩:=HS.out _ hB4
   go_wp2_with fail
   refine (rsign_any _ x L _ HX4.out (by omega)).mono ?_
   rintro e w4 ⟨rfl,hb4⟩
   have hB5:=hB4.trans (hb4.mono (B':=w.heap.size + 2) (Nat.le_trans hs2 hB4.size))
   have hz3:w1.heap.size + 1 <= w3.heap.size:=by have:=hD4.size;simpa using this
   have hD5:=hD4.trans (hb4.mono (B':=w1.heap.size + 1) hz3)
   have HONE5:=Hd (HONE4.out.below hb4)
   have HX5:=Hd (HX4.out.below hb4)
   clear k0 k1
   rw [hsg]
   obtain ⟨c1,c2⟩:=rbox_new hD5
   obtain ⟨⟨k0,k1⟩,-⟩:=HS.out _ hB5
   by_cases hx0:x = 0
   ·have hs1:¬ sg < (0:Int):=by rw [<- hsg,hx0];decide
    have HV:=Hd (show x ^ n = x by rw [hx0];exact Int.zero_pow hn0)
    clear hx0
    obtain ⟨e1,e2,f1,f2⟩:=(HS.out _ hB5).2
    have HF:=Hd (HX5.out.mono (show L <= 100 by omega) |>.stored e1 e2 (.bool p) (.slice A m c))
    go_wp2
    refine bodyPost_ret (v:=.tuple #[.agg #[.bool p,.slice A m c],.int .i64 0]) (by simp [results,Tryz.results93,go_sem,e1,e2]) rfl ⟨?_,?_⟩
    ·rw [HV.out]
     have hf:=HF.out
     clear HF HX5 HX4 HX3 HX2 HX HS
     cases p
     ·exact .inl ⟨_,_,_,rfl,hf⟩
     ·exact .inr ⟨_,_,_,rfl,hf⟩
    ·exact ((hW.trans (hB5.mono (by omega))).setCell (by show _ <= _;simp) _).setCell (by show _ <= _;simp) _
   ·have hxm:x = -1:=by omega
    have hs1:sg < (0:Int):=by rw [<- hsg,hxm];decide
    by_cases hodd:n % 2 = 1
    ·have hr1:((n:Int).tmod 2 == 0) = false:=by rw [Int.tmod_eq_emod_of_nonneg (by omega)];simp;omega
     have HV:=Hd (small_odd hxm n hodd)
     obtain ⟨e1,e2,f1,f2⟩:=(HS.out _ hB5).2
     go_wp2
     refine bodyPost_ret (v:=.tuple #[.agg #[.bool p,.slice A m c],.int .i64 0]) (by simp [results,Tryz.results93,go_sem,e1,e2]) rfl ⟨⟨_,_,_,_,rfl,?_⟩,?_⟩
     ·rw [HV.out];exact (HX5.out.mono (by omega)).stored e1 e2 _ _
     ·exact ((hW.trans (hB5.mono (by omega))).setCell (by show _ <= _;simp) _).setCell (by show _ <= _;simp) _
    ·have hr1:((n:Int).tmod 2 == 0) = true:=by rw [Int.tmod_eq_emod_of_nonneg (by omega)];simp;omega
     have HV:=Hd (small_even hxm n (by omega))
     obtain ⟨e1,e2,f1,f2⟩:=(HS.out _ hB5).2
     go_wp2
     refine bodyPost_ret (v:=.tuple #[.agg #[.bool g1,.slice A1 n1 d1],.int .i64 0]) (by simp [results,Tryz.results93,go_sem,e1,e2]) rfl ⟨⟨_,_,_,_,rfl,?_⟩,?_⟩
     ·rw [HV.out];exact (HONE5.out.mono (by omega)).stored e1 e2 _ _
     ·exact ((hW.trans (hB5.mono (by omega))).setCell (by show _ <= _;simp) _).setCell (by show _ <= _;simp) _
open Go.RowKit LM
theorem Rval.restored {w:World} {s:Value} {z:Int} {L:Nat} (h:Rval w s z L) {r:Nat} {g:Bool} {A:Option Addr} {n c:Nat} (e1:w.cell? ⟨r,0,none⟩ = some (.bool g)) (e2:w.cell? ⟨r,1,none⟩ = some (.slice A n c)) (x y:Value) :
  Rval ((w.setCell ⟨r,0,none⟩ x).setCell ⟨r,1,none⟩ y) s z L:=by
 obtain ⟨neg,A',n',c',ds,e,hr,t⟩:=h
 refine ⟨neg,A',n',c',ds,e,(hr.setOther (fun u=>by rw [e1];simp) x).setOther (fun u=>?_) y,t⟩
 rw [World.cell?_setCell_other _ _ _ _ (by simp),e2];simp
def RBox (w:World) (b:Nat) (z:Int) (L:Nat) : Prop:=
 ∃ g A n c,w.cell? ⟨b,0,none⟩ = some (.bool g) /\ w.cell? ⟨b,1,none⟩ = some (.slice A n c) /\ w.frozen? ⟨b,0,none⟩ = false /\ w.frozen? ⟨b,1,none⟩ = false /\ b < w.heap.size /\ Rval w (.agg #[.bool g,.slice A n c]) z L
theorem RBox.new (w:World) (g:Bool) (A:Option Addr) (n c L:Nat) (z:Int) (h:Rval w (.agg #[.bool g,.slice A n c]) z L) : RBox (w.alloc (.cells #[.bool g,.slice A n c] 34)) w.heap.size z L:=
 ⟨g,A,n,c,(rbox_new (Below.refl _ _)).1,(rbox_new (Below.refl _ _)).2,World.frozen?_alloc_at _ _ _ _ rfl,World.frozen?_alloc_at _ _ _ _ rfl,by simp,h.below (below_alloc _ _)⟩
theorem RBox.below {w w':World} {b:Nat} {z:Int} {L:Nat} (h:RBox w b z L) (hb:Below w.heap.size w w') : RBox w' b z L:=by
 obtain ⟨g,A,n,c,h1,h2,h3,h4,h5,h6⟩:=h
 exact ⟨g,A,n,c,(hb.cell (p:=⟨b,0,none⟩) h5).trans h1,(hb.cell (p:=⟨b,1,none⟩) h5).trans h2,(hb.frozen (p:=⟨b,0,none⟩) h5).trans h3,(hb.frozen (p:=⟨b,1,none⟩) h5).trans h4,Nat.lt_of_lt_of_le h5 hb.size,h6.below hb⟩
theorem RBox.set {w:World} {b:Nat} {z y:Int} {L M:Nat} (h:RBox w b z L) {g:Bool} {A:Option Addr} {n c:Nat} (hv:Rval w (.agg #[.bool g,.slice A n c]) y M) :
  ((w.setCell ⟨b,0,none⟩ (.bool g)).setCell ⟨b,1,none⟩ (.slice A n c)).cell? ⟨b,0,none⟩ = some (.bool g) /\ ((w.setCell ⟨b,0,none⟩ (.bool g)).setCell ⟨b,1,none⟩ (.slice A n c)).cell? ⟨b,1,none⟩ = some (.slice A n c) /\
  Rval ((w.setCell ⟨b,0,none⟩ (.bool g)).setCell ⟨b,1,none⟩ (.slice A n c)) (.agg #[.bool g,.slice A n c]) y M /\ RBox ((w.setCell ⟨b,0,none⟩ (.bool g)).setCell ⟨b,1,none⟩ (.slice A n c)) b y M:=by
 obtain ⟨g0,A0,n0,c0,h1,h2,h3,h4,h5,h6⟩:=h
 have e1:((w.setCell ⟨b,0,none⟩ (.bool g)).setCell ⟨b,1,none⟩ (.slice A n c)).cell? ⟨b,0,none⟩ = some (.bool g):=by
  rw [World.cell?_setCell_other _ _ _ _ (by simp)];exact World.cell?_setCell_same _ _ _ h1
 have e2:((w.setCell ⟨b,0,none⟩ (.bool g)).setCell ⟨b,1,none⟩ (.slice A n c)).cell? ⟨b,1,none⟩ = some (.slice A n c):=
  World.cell?_setCell_same _ _ _ ((World.cell?_setCell_other _ _ _ _ (by simp)).trans h2)
 exact ⟨e1,e2,hv.restored h1 h2 _ _,g,A,n,c,e1,e2,by simpa using h3,by simpa using h4,by simpa using h5,hv.restored h1 h2 _ _⟩
theorem abs_big {x:Int} (hx:x <= -2 \/ 2 <= x) {d:Nat} (hd:IsLen (if x < 0 then -x else x) d) : ¬ (d:Int) <= 1:=by
 rcases hd with ⟨h',_⟩ | ⟨h1,_,h3⟩
 ·split at h' <;> omega
 ·have h2:(2:Int) ^ 1 = 2:=by decide
  have:(2:Int) ^ 1 < 2 ^ d:=by split at h3 <;> omega
  have:=two_lt this
  omega
theorem rPower_in (u:Value) (x:Int) (L n:Nat) (w:World) (h:Rval w u x L) (hL:L <= 16) (hn:n <= 40) (hx:x <= -2 \/ 2 <= x) :
  Calls Tryz.prog 93 #[u,.int .i64 n] w fun e w'=>(∃ ng A2 n2 c2 k,e = .returned (.tuple #[.agg #[.bool ng,.slice A2 n2 c2],.int .i64 0]) /\ Rval w' (.agg #[.bool ng,.slice A2 n2 c2]) (x ^ n) 1000 /\ IsLen (patOf (x ^ n)) k /\ k <= 65536) /\ Below w.heap.size w w':=by
 obtain ⟨p,A,m,c,rfl⟩:=h.form
 have hW:=below_two w (.cells #[.bool p,.slice A m c] 34) (.cells #[.bool false,.slice none 0 0] 34)
 have hs2:w.heap.size + 2 <= ((w.alloc (.cells #[.bool p,.slice A m c] 34)).alloc (.cells #[.bool false,.slice none 0 0] 34)).heap.size:=by simp
 have HX:=Hd (h.below hW)
 have HS:=Hd (fun (w':World) (hb:Below (w.heap.size + 2) ((w.alloc (.cells #[.bool p,.slice A m c] 34)).alloc (.cells #[.bool false,.slice none 0 0] 34)) w')=>sh_hold hb)
 have hB0:=Below.refl (w.heap.size + 2) ((w.alloc (.cells #[.bool p,.slice A m c] 34)).alloc (.cells #[.bool false,.slice none 0 0] 34))
 have z1:¬ (n:Int) < 0:=by omega
 have HBIG:=Hd hx
 clear h hx
 go_enter Tryz.func93,Tryz.ntmps93
 go_wp2_with fail
 refine (rnew_any 1 _ (by decide) (by decide)).mono ?_
 rintro e w1 ⟨⟨g1,A1,n1,d1,rfl,hone⟩,hb1⟩
 have hB1:=hB0.trans (hb1.mono (B':=w.heap.size + 2) hs2)
 have hN:=below_alloc w1 (.cells #[.bool g1,.slice A1 n1 d1] 34)
 have hz1:w.heap.size + 2 <= w1.heap.size:=Nat.le_trans hs2 hB1.size
 have hB2:=hB1.trans (hN.mono hz1)
 have HBX:=Hd (RBox.new w1 g1 A1 n1 d1 64 1 hone)
 have HX1:=Hd (HX.out.below hb1)
 have HX2:=Hd (HX1.out.below hN)
 clear hone
 obtain ⟨⟨k0,k1⟩,-⟩:=HS.out _ hB2
 go_wp2_with fail
 refine (width_abs _ x L _ HX2.out (by omega)).mono ?_
 rintro e w2 ⟨⟨d,rfl,hd,hdl⟩,hb2⟩
 have hd2:=abs_big HBIG.out hd
 have hN2:=hN.trans (hb2.mono hN.size)
 have HBX2:=Hd (HBX.out.below hb2)
 clear hd k0 k1 hB2 hN HX2 HX HBX
 go_wp2_with fail
 go_loopw [7] (fun iv wr=>∃ i:Nat,iv = .int .i64 i /\ i <= n /\ Hid (RBox wr w1.heap.size (x ^ i) (64 + 17 * i)) /\ Below w1.heap.size w1 wr) (fun iv _=>n - (intOf iv).toNat)
 case atStart=>exact ⟨0,rfl,Nat.zero_le _,Hd (by rw [Int.pow_zero];exact HBX2.out),hN2⟩
 case round=>
  obtain ⟨i,rfl,hi,HB,hBR⟩:=hrel
  obtain ⟨g,A',n',c',c1,c2,f1,f2,hlt0,hv⟩:=HB.out
  have HV:=Hd hv
  have hBW:=hB1.trans (hBR.mono hz1)
  have HXr:=Hd (HX1.out.below hBR)
  obtain ⟨⟨k0,k1⟩,-⟩:=HS.out _ hBW
  clear hv f1 f2
  by_cases hlt:i < n
  ·have s5:(i:Int) < (n:Int):=by omega
   go_wp2_with fail
   refine (rMul_any _ _ (x ^ i) x (64 + 17 * i) L _ HV.out HXr.out (by omega) (by omega)).mono ?_
   rintro e w3 ⟨⟨g3,A3,n3,d3,rfl,hv3⟩,hb3⟩
   have HB3:=HB.out.below hb3
   obtain ⟨q1,q2,hv4,hb4⟩:=HB3.set hv3
   obtain ⟨g5,A5,n5,c5,c15,c25,f15,f25,hlt5,_⟩:=HB3
   have hv4':=hv4.mono (show 64 + 17 * i + L + 1 <= 64 + 17 * (i + 1) by omega)
   rw [<- Int.pow_succ] at hv4'
   have HV4:=Hd hv4'
   rw [<- Int.pow_succ] at hb4
   have HB4:=Hd hb4
   have hBR3:=(hBR.trans (hb3.mono hBR.size))
   have hBR4:=(hBR3.setCell (p:=⟨w1.heap.size,0,none⟩) (Nat.le_refl _) (.bool g3)).setCell (p:=⟨w1.heap.size,1,none⟩) (Nat.le_refl _) (.slice A3 n3 d3)
   clear hv3 hv4 hv4' hb4 k0 k1 c1 c2
   go_wp2_with fail
   refine (width_abs _ (x ^ (i + 1)) (64 + 17 * (i + 1)) _ HV4.out (by omega)).mono ?_
   rintro e w5 ⟨⟨dd,rfl,_,hdl5⟩,hb5⟩
   have HB5:=Hd (HB4.out.below hb5)
   have hBR5:=hBR4.trans (hb5.mono hBR4.size)
   have s6:¬ (65537:Int) < (dd:Int):=by omega
   clear q1 q2 c15 c25 f15 f25
   go_wp2_with fail
   refine ⟨⟨i + 1,by go_num,by omega,Hd ?_,hBR5⟩,by simp [intOf];omega⟩
   obtain ⟨g6,A6,n6,c6,h1,h2,h3,h4,h5,h6⟩:=HB5.out
   exact ⟨g6,A6,n6,c6,h1,h2,h3,h4,h5,h6.mono (by omega)⟩
  ·obtain rfl:i = n:=by omega
   go_wp2_with fail
   refine (rLength_any _ (x ^ i) (64 + 17 * i) _ HV.out (by omega)).mono ?_
   rintro e w3 ⟨⟨k,rfl,hk,hkl⟩,hb3⟩
   obtain ⟨g5,A5,n5,c5,c15,c25,f15,f25,hlt5,hv5⟩:=HB.out.below hb3
   have s7:¬ (65536:Int) < (k:Int):=by omega
   have HV5:=Hd hv5
   have HK:=Hd hk
   have hBW3:=hBW.trans (hb3.mono (B':=w.heap.size + 2) (Nat.le_trans hz1 hBR.size))
   obtain ⟨e1,e2,f1,f2⟩:=(HS.out _ hBW3).2
   clear hk hv5 k0 k1 f15 f25
   go_wp2
   refine bodyPost_ret (v:=.tuple #[.agg #[.bool g5,.slice A5 n5 c5],.int .i64 0]) (by simp [results,Tryz.results93,go_sem,e1,e2]) rfl ⟨⟨_,_,_,_,k,rfl,(HV5.out.mono (by omega)).stored e1 e2 _ _,HK.out,by omega⟩,?_⟩
   exact ((hW.trans (hBW3.mono (by omega))).setCell (by show _ <= _;simp) _).setCell (by show _ <= _;simp) _
open Go.RowKit LM
def powV (x n:Int) : Int:=if n < 0 then 0 else x ^ n.toNat
def powE (n:Int) : Int:=if n < 0 then 1 else 0
theorem two_lt_succ (N:Nat) : (2:Int) ^ N < 2 ^ (N + 1):=by
 have:=two_pos N
 rw [Int.pow_succ];omega
theorem Power_zero (p:Bool) (A:Option Addr) (m c:Nat) (w:World) :
  Calls Tryz.prog 91 #[.agg #[.bool p,.slice A m c],.int .i64 ((0:Nat) : Int)] w fun e w'=>(∃ ng A2 n2 c2,e = .returned (.tuple #[.agg #[.bool ng,.slice A2 n2 c2],.int .i64 0]) /\ Ival w' (.agg #[.bool ng,.slice A2 n2 c2]) 1 2) /\ Below w.heap.size w w':=by
 have hW:=below_two w (.cells #[.bool p,.slice A m c] 31) (.cells #[.bool false,.slice none 0 0] 31)
 go_enter Tryz.func91,Tryz.ntmps91
 go_wp2_with fail
 refine (new_int 1 _ (by omega) (by omega)).mono ?_
 rintro e w1 ⟨r,rfl,hr,hb1⟩
 obtain ⟨ng,A2,n2,c2,rfl⟩:=hr.form
 have hB1:=hb1.mono (B':=w.heap.size + 2) (by simp)
 obtain ⟨e1,e2,f1,f2⟩:=room1 hB1
 have HR:=Hd hr
 clear hr
 go_wp2
 refine bodyPost_ret (v:=.tuple #[.agg #[.bool ng,.slice A2 n2 c2],.int .i64 0]) (by simp [results,Tryz.results91,go_sem,e1,e2]) rfl ⟨⟨_,_,_,_,rfl,HR.out.stored e1 e2 _ _⟩,?_⟩
 exact ((hW.trans (hB1.mono (by omega))).setCell (by show _ <= _;simp) _).setCell (by show _ <= _;simp) _
theorem num_lt {w:World} {v:Value} {a:Int} {L:Nat} (h:Num w v a L) : a < 2 ^ (32 * L):=by
 obtain ⟨A,n,c,xs,_,hr,hd,ht,hv,hn⟩:=h
 have hb:=val_bounds hd
 rw [hr.1,BB_two,hv] at hb
 have:=two_mono (show 32 * n <= 32 * L by omega)
 omega
theorem IsLen.le {z:Int} {k N:Nat} (h:IsLen z k) (hz:z < 2 ^ N) : k <= N:=by
 rcases h with ⟨_,rfl⟩ | ⟨h1,h2,_⟩
 ·exact Nat.zero_le _
 ·have:=two_lt (show (2:Int) ^ (k - 1) < 2 ^ N by omega)
  omega
theorem pow_short {p:Bool} {a:Int} {L n k:Nat} (h0:0 <= a) (ha:a < 2 ^ (32 * L)) (hL:L <= 16) (hn:n <= 40) (hk:IsLen (patOf (withSign p a ^ n)) k) : k <= 65536:=by
 have h1:=pow_mono_base h0 (Int.le_of_lt ha) n
 rw [<- Int.pow_mul] at h1
 have h2:32 * L * n <= 512 * 40:=Nat.mul_le_mul (by omega) hn
 have h3:=two_mono (show 32 * L * n <= 20480 by omega)
 have h4:(0:Int) <= a ^ n:=Int.pow_nonneg h0
 have h5:patOf (withSign p a ^ n) <= a ^ n:=by
  rw [<- withSign_pow]
  generalize a ^ n = s at *
  unfold patOf withSign
  split <;> split <;> omega
 have h6:=two_lt_succ 20480
 have:=hk.le (show patOf (withSign p a ^ n) < 2 ^ 20481 by omega)
 omega
theorem Power_int (u:Value) (x n:Int) (L:Nat) (w:World) (h:Ival w u x L) (hL:L <= 16) (hn:n <= 9223372036854775807) (hc:n <= 40 \/ -1 <= x /\ x <= 1) :
  Calls Tryz.prog 91 #[u,.int .i64 n] w fun e w'=>(∃ ng A2 n2 c2,e = .returned (.tuple #[.agg #[.bool ng,.slice A2 n2 c2],.int .i64 (powE n)]) /\ Ival w' (.agg #[.bool ng,.slice A2 n2 c2]) (powV x n) 200000) /\ Below w.heap.size w w':=by
 by_cases hneg:n < 0
 ·have hE:powE n = 1:=if_pos hneg
  have hV:powV x n = 0:=if_pos hneg
  rw [hE,hV]
  obtain ⟨p,A,m,c,rfl⟩:=h.form
  refine (Power_bad p A m c n w hneg).mono ?_
  rintro e w' ⟨rfl,hb⟩
  exact ⟨⟨false,none,0,0,rfl,Ival.nought⟩,hb⟩
 ·have hE:powE n = 0:=if_neg hneg
  have hV:powV x n = x ^ n.toNat:=if_neg hneg
  rw [hE,hV]
  obtain ⟨N,rfl⟩ : ∃ N:Nat,n = (N:Int):=⟨n.toNat,by omega⟩
  rw [show ((N:Int)).toNat = N from by omega]
  by_cases hx:x <= -2 \/ 2 <= x
  ·have hN:N <= 40:=by omega
   refine (Power_any u x L N w h (by omega) (by omega) hx).mono ?_
   rintro e w' ⟨⟨ng,A2,n2,c2,err,rfl,k,hk,hans⟩,hb⟩
   have hk2:k <= 65536:=by
    obtain ⟨p,A,m,c,rfl⟩:=h.form
    obtain ⟨a,ha,ha0,rfl,ha1⟩:=h.parts
    exact pow_short ha0 (num_lt ha) hL hN hk
   rcases hans with ⟨hf,_⟩ | ⟨_,rfl,hv⟩
   ·omega
   ·exact ⟨⟨ng,A2,n2,c2,rfl,hv⟩,hb⟩
  ·by_cases hN0:N = 0
   ·subst hN0
    obtain ⟨p,A,m,c,rfl⟩:=h.form
    refine (Power_zero p A m c w).mono ?_
    rintro e w' ⟨⟨ng,A2,n2,c2,rfl,hv⟩,hb⟩
    exact ⟨⟨ng,A2,n2,c2,rfl,by rw [Int.pow_zero];exact hv.mono (by omega)⟩,hb⟩
   ·refine (Power_small u x L N w h (by omega) (by omega) hN0 (by omega)).mono ?_
    rintro e w' ⟨⟨ng,A2,n2,c2,rfl,hv⟩,hb⟩
    exact ⟨⟨ng,A2,n2,c2,rfl,hv.mono (by omega)⟩,hb⟩
theorem rPower_int (u:Value) (x n:Int) (L:Nat) (w:World) (h:Rval w u x L) (hL:L <= 16) (hn:n <= 9223372036854775807) (hc:n <= 40 \/ -1 <= x /\ x <= 1) :
  Calls Tryz.prog 93 #[u,.int .i64 n] w fun e w'=>(∃ ng A2 n2 c2,e = .returned (.tuple #[.agg #[.bool ng,.slice A2 n2 c2],.int .i64 (powE n)]) /\ Rval w' (.agg #[.bool ng,.slice A2 n2 c2]) (powV x n) 1000) /\ Below w.heap.size w w':=by
 by_cases hneg:n < 0
 ·have hE:powE n = 1:=if_pos hneg
  have hV:powV x n = 0:=if_pos hneg
  rw [hE,hV]
  obtain ⟨p,A,m,c,rfl⟩:=h.form
  refine (rPower_bad p A m c n w hneg).mono ?_
  rintro e w' ⟨rfl,hb⟩
  exact ⟨⟨false,none,0,0,rfl,Rval.nought⟩,hb⟩
 ·have hE:powE n = 0:=if_neg hneg
  have hV:powV x n = x ^ n.toNat:=if_neg hneg
  rw [hE,hV]
  obtain ⟨N,rfl⟩ : ∃ N:Nat,n = (N:Int):=⟨n.toNat,by omega⟩
  rw [show ((N:Int)).toNat = N from by omega]
  by_cases hx:x <= -2 \/ 2 <= x
  ·refine (rPower_in u x L N w h hL (by omega) hx).mono ?_
   rintro e w' ⟨⟨ng,A2,n2,c2,k,rfl,hv,_⟩,hb⟩
   exact ⟨⟨ng,A2,n2,c2,rfl,hv⟩,hb⟩
  ·refine (rPower_small u x L N w h (by omega) (by omega) (by omega)).mono ?_
   rintro e w' ⟨⟨ng,A2,n2,c2,rfl,hv⟩,hb⟩
   exact ⟨⟨ng,A2,n2,c2,rfl,hv.mono (by omega)⟩,hb⟩
open Go.RowKit LM
theorem Rval.abs {w:World} {g:Bool} {A:Option Addr} {n c:Nat} {x:Int} {L:Nat} (h:Rval w (.agg #[.bool g,.slice A n c]) x L) : Rval w (.agg #[.bool false,.slice A n c]) (if x < 0 then -x else x) L:=by
 obtain ⟨neg,A',n',c',ds,e,hr,hd,ht,hz,hp,hn⟩:=h
 simp only [Value.agg.injEq] at e
 injection e with e
 simp only [List.cons.injEq,Value.bool.injEq,Value.slice.injEq,and_true] at e
 obtain ⟨rfl,rfl,rfl,rfl⟩:=e
 refine ⟨false,A,n,c,ds,rfl,hr,hd,ht,?_,(fun h=>by cases h),hn⟩
 have h0:=valR_nonneg (by decide) hd
 rw [hz]
 cases g <;> simp [withSign] <;> omega
theorem rabs_any (u:Value) (x:Int) (L:Nat) (w:World) (h:Rval w u x L) :
  Calls Tryz.prog 29 #[u] w fun e w'=>(∃ ng A2 n2 c2,e = .returned (.agg #[.bool ng,.slice A2 n2 c2]) /\ Rval w' (.agg #[.bool ng,.slice A2 n2 c2]) (if x < 0 then -x else x) L) /\ Below w.heap.size w w':=by
 obtain ⟨p,A,n,c,rfl⟩:=h.form
 have hW:=below_two w (.cells #[.bool p,.slice A n c] 34) (.cells #[.bool false,.slice none 0 0] 34)
 have hA:=h.abs
 obtain ⟨y,hy⟩ : ∃ y,(if x < 0 then -x else x) = y:=⟨_,rfl⟩
 rw [hy] at hA ⊢
 have HA:=Hd hA
 clear h hy hA
 go_enter Tryz.func29,Tryz.ntmps29
 go_wp2
 refine bodyPost_ret (v:=.agg #[.bool false,.slice A n c]) (by simp [results,Tryz.results29,go_sem]) rfl ⟨⟨_,_,_,_,rfl,HA.out.below (below_two _ _ _)⟩,below_two _ _ _⟩
end Go.Proofs.YtbajnceoolkckaaGreat
