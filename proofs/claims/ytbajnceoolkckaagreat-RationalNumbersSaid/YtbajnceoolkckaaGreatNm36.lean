/- Of the proof of RationalNumbers: RatNum. -/
import Derived.Test.YtbajnceoolkckaaGreatNm34
import Derived.Test.YtbajnceoolkckaaGreatNm35
import Derived.Test.YtbajnceoolkckaaGreatNm15
open List renaming getElem_toArray → gEA, getElem_cons_succ → gES, getElem_cons_zero → gEZ, setIfInBounds_toArray → sTA, set_cons_zero → sCZ, set_cons_succ → sCS
/- The law of numbers of chapter 3, walked. -/
namespace Go.Proofs.YtbajnceoolkckaaGreat
open Go.RowKit LM

/-- The one word of the library's that a comparison of texts may read. -/
def MCell (M : Int) (w : World) : Prop := w.cell? ⟨0, 0, none⟩ = some (.int .i64 M)
theorem MCell.below {w w' : World} {M : Int} (h : MCell M w) (hb : Below w.heap.size w w') : MCell M w' := (hb.cell (p := ⟨0, 0, none⟩) (World.block_lt_of_cell? _ _ h)).trans h
theorem awake_m (w : World) (M : Int) (h : MCell M w) : Calls Tryz.prog 14 #[] w fun e w' => e = .returned (.bool true) ∧ Below w.heap.size w w' := awake_any w M h

theorem lensQ1 (w : World) {g : Nat} (hg : w.heap.size = g) (p0 p1 : Bool) (A0 A1 : Option Addr) (n0 n1 c0 c1 : Nat) :
  LensQ (w.alloc (.cells #[.bool p0, .slice A0 n0 c0, .bool p1, .slice A1 n1 c1] 26)) g 1 [(n0, n1)] := by
 subst hg
 refine ⟨rfl, by simp, fun i hi => ?_⟩
 match i, hi with
 | 0, _ => exact ⟨p0, A0, c0, p1, A1, c1, World.cell?_alloc_at _ _ _ _ rfl, World.cell?_alloc_at _ _ _ _ rfl, World.cell?_alloc_at _ _ _ _ rfl, World.cell?_alloc_at _ _ _ _ rfl⟩

theorem Fx4.new1 (w : World) (v0 v1 v2 v3 : Value) (t : TypeId) (o : Obj) : Fx4 ((w.alloc (.cells #[v0, v1, v2, v3] t)).alloc o) w.heap.size v0 v1 v2 v3 := (Fx4.new w v0 v1 v2 v3 t).below (below_alloc _ _)
theorem Fx4.new2 (w : World) (v0 v1 v2 v3 : Value) (t : TypeId) (C : Array Value) (s : TypeId) : Fx4 ((w.alloc (.cells C s)).alloc (.cells #[v0, v1, v2, v3] t)) (w.heap.size + 1) v0 v1 v2 v3 := by
 have h := Fx4.new (w.alloc (.cells C s)) v0 v1 v2 v3 t
 rw [show (w.alloc (.cells C s)).heap.size = w.heap.size + 1 from by simp] at h
 exact h
theorem Fx.newA (w : World) (v0 v1 : Value) (t : TypeId) (o : Obj) : Fx ((w.alloc (.cells #[v0, v1] t)).alloc o) w.heap.size v0 v1 := (Fx.new w v0 v1 t).below (below_alloc _ _)
theorem Fx.newB (w : World) (v0 v1 : Value) (t : TypeId) (C : Array Value) (s : TypeId) : Fx ((w.alloc (.cells C s)).alloc (.cells #[v0, v1] t)) (w.heap.size + 1) v0 v1 := by
 have h := Fx.new (w.alloc (.cells C s)) v0 v1 t
 rw [show (w.alloc (.cells C s)).heap.size = w.heap.size + 1 from by simp] at h
 exact h

theorem start24 (w : World) (pa pb pc pd : Bool) (Aa Ab Ac Ad : Option Addr) (na ca nb cb nc cc nd cd : Nat) :
  Below w.heap.size w (((w.alloc (.cells #[.bool pa, .slice Aa na ca] 24)).alloc (.cells #[.bool pb, .slice Ab nb cb] 24)).alloc (.cells #[.bool pc, .slice Ac nc cc, .bool pd, .slice Ad nd cd] 26)) ∧ Fx (((w.alloc (.cells #[.bool pa, .slice Aa na ca] 24)).alloc (.cells #[.bool pb, .slice Ab nb cb] 24)).alloc (.cells #[.bool pc, .slice Ac nc cc, .bool pd, .slice Ad nd cd] 26)) w.heap.size (.bool pa) (.slice Aa na ca) ∧
  Fx (((w.alloc (.cells #[.bool pa, .slice Aa na ca] 24)).alloc (.cells #[.bool pb, .slice Ab nb cb] 24)).alloc (.cells #[.bool pc, .slice Ac nc cc, .bool pd, .slice Ad nd cd] 26)) (w.heap.size + 1) (.bool pb) (.slice Ab nb cb) ∧ Fx4 (((w.alloc (.cells #[.bool pa, .slice Aa na ca] 24)).alloc (.cells #[.bool pb, .slice Ab nb cb] 24)).alloc (.cells #[.bool pc, .slice Ac nc cc, .bool pd, .slice Ad nd cd] 26)) (w.heap.size + 1 + 1) (.bool pc) (.slice Ac nc cc) (.bool pd) (.slice Ad nd cd) := by
 have h2 := below_two w (.cells #[.bool pa, .slice Aa na ca] 24) (.cells #[.bool pb, .slice Ab nb cb] 24)
 have h3 := below_alloc ((w.alloc (.cells #[.bool pa, .slice Aa na ca] 24)).alloc (.cells #[.bool pb, .slice Ab nb cb] 24)) (.cells #[.bool pc, .slice Ac nc cc, .bool pd, .slice Ad nd cd] 26)
 have F2 := Fx4.new ((w.alloc (.cells #[.bool pa, .slice Aa na ca] 24)).alloc (.cells #[.bool pb, .slice Ab nb cb] 24)) (.bool pc) (.slice Ac nc cc) (.bool pd) (.slice Ad nd cd) 26
 rw [show ((w.alloc (.cells #[.bool pa, .slice Aa na ca] 24)).alloc (.cells #[.bool pb, .slice Ab nb cb] 24)).heap.size = w.heap.size + 1 + 1 from by simp] at F2
 exact ⟨h2.trans (h3.mono h2.size), (Fx.newA w _ _ 24 _).below h3, (Fx.newB w _ _ 24 _ 24).below h3, F2⟩

theorem Of_rat (u : Value) (x : Int) (L : Nat) (w : World) (h : Ival w u x L) :
  Calls Tryz.prog 20 #[u] w fun e w' => (∃ g1 A1 n1 c1 g2 A2 n2 c2, e = .returned (.agg #[.bool g1, .slice A1 n1 c1, .bool g2, .slice A2 n2 c2]) ∧ Rat w' (.agg #[.bool g1, .slice A1 n1 c1, .bool g2, .slice A2 n2 c2]) x 1 L) ∧ Below w.heap.size w w' :=
 (Of_any u x L w h).mono fun _ _ ⟨⟨ng, A2, n2, c2, he, hv⟩, hb⟩ => ⟨⟨ng, A2, n2, c2, false, none, 0, 0, he, Rat.mk' hv Ival.nought (by decide) (Int.gcd_one_right ..)⟩, hb⟩
theorem rOf_rat (u : Value) (x : Int) (L : Nat) (w : World) (h : Rval w u x L) (hL : L ≤ 64) :
  Calls Tryz.prog 21 #[u] w (RQRes 64 x 1 w) :=
 (rOf_any u x L w h).mono fun _ _ ⟨⟨g1, A1, n1, c1, g2, A2, n2, c2, he, hv, ho⟩, hb⟩ => ⟨⟨g1, A1, n1, c1, g2, A2, n2, c2, he, RQ.mk' (hv.mono hL) ho (by decide) (Int.gcd_one_right ..)⟩, hb⟩

set_option maxRecDepth 100000 in
set_option maxHeartbeats 8000000 in
theorem rnumbers_any (pa pb pc pd : Bool) (Aa Ab Ac Ad : Option Addr) (na ca nb cb nc cc nd cd : Nat) (xa xb xc xd : List Int) (M : Int) (w : World)
  (ha : Row .u32 w Aa na ca xa) (da : Dig xa) (hb0 : Row .u32 w Ab nb cb xb) (db : Dig xb) (hc : Row .u32 w Ac nc cc xc) (dc : Dig xc) (hd : Row .u32 w Ad nd cd xd) (dd : Dig xd) (hM : MCell M w) :
  Calls Tryz.prog 3 #[.agg #[.bool pa, .slice Aa na ca], .agg #[.bool pb, .slice Ab nb cb], .agg #[.bool pc, .slice Ac nc cc, .bool pd, .slice Ad nd cd]] w fun e w' => e = .returned (.bool true) ∧ Below w.heap.size w w' := by
 obtain ⟨hw, F0, F1, F2⟩ := start24 w pa pb pc pd Aa Ab Ac Ad na ca nb cb nc cc nd cd
 obtain ⟨W0, hW0⟩ : ∃ W0, ((w.alloc (.cells #[.bool pa, .slice Aa na ca] 24)).alloc (.cells #[.bool pb, .slice Ab nb cb] 24)).alloc (.cells #[.bool pc, .slice Ac nc cc, .bool pd, .slice Ad nd cd] 26) = W0 := ⟨_, rfl⟩
 rw [hW0] at hw F0 F1 F2
 have B0 := Lib.hid F0
 have B1 := Lib.hid F1
 have B2 := Lib.hid F2
 have HM := Lib.hid (MCell.below hM hw)
 have HA := Lib.hid (ha.below hw)
 have HB := Lib.hid (hb0.below hw)
 have HC := Lib.hid (hc.below hw)
 have HD := Lib.hid (hd.below hw)
 have DA := Lib.hid da
 have DB := Lib.hid db
 have DC := Lib.hid dc
 have DD := Lib.hid dd
 clear F0 F1 F2 hM ha hb0 hc hd da db dc dd
 go_enter Tryz.func3, Tryz.ntmps3
 go_upto_region 1 with fail
 clear hW0
 obtain ⟨c00, c01, f00, f01, s0⟩ := B0.out
 obtain ⟨c10, c11, f10, f11, s1⟩ := B1.out
 go_wp2_with fail
 refine (short_any _ 2 [na, nb] 4 _ (lens2 _ rfl pa pb Aa Ab na ca nb cb) (by omega)).mono ?_
 rintro e w1 ⟨rfl, hb⟩
 replace hb := (below_alloc W0 (.cells #[.bool pa, .slice Aa na ca, .bool pb, .slice Ab nb cb] 24)).trans (hb.mono (by simp))
 clear c00 c01 f00 f01 s0
 clear c10 c11 f10 f11 s1
 replace B0 := Lib.hid (B0.out.below hb)
 replace B1 := Lib.hid (B1.out.below hb)
 replace B2 := Lib.hid (B2.out.below hb)
 replace HM := Lib.hid (HM.out.below hb)
 replace HA := Lib.hid (HA.out.below hb)
 replace HB := Lib.hid (HB.out.below hb)
 replace HC := Lib.hid (HC.out.below hb)
 replace HD := Lib.hid (HD.out.below hb)
 replace hw := hw.trans (hb.mono hw.size)
 clear hb
 cases ht : tooLong [na, nb] 4 with
 | true =>
  go_wp2_with fail
  refine (awake_m _ M HM.out).mono ?_
  rintro e wz ⟨rfl, hb⟩
  go_wp2
  go_ret
  exact ⟨rfl, hw.trans (hb.mono hw.size)⟩
 | false =>
  have hn : na ≤ 4 ∧ nb ≤ 4 := by simp [tooLong] at ht; omega
  clear ht
  have HN := Lib.hid hn
  clear hn
  obtain ⟨c20, c21, c22, c23, f20, f21, f22, f23, s2⟩ := B2.out
  go_wp2_with fail
  refine (shortQ_any _ 1 [(nc, nd)] 4 _ (lensQ1 _ rfl pc pd Ac Ad nc nd cc cd) (by omega)).mono ?_
  rintro e w2 ⟨rfl, hb⟩
  replace hb := (below_alloc w1 (.cells #[.bool pc, .slice Ac nc cc, .bool pd, .slice Ad nd cd] 26)).trans (hb.mono (by simp))
  clear c20 c21 c22 c23 f20 f21 f22 f23 s2
  replace B0 := Lib.hid (B0.out.below hb)
  replace B1 := Lib.hid (B1.out.below hb)
  replace B2 := Lib.hid (B2.out.below hb)
  replace HM := Lib.hid (HM.out.below hb)
  replace HA := Lib.hid (HA.out.below hb)
  replace HB := Lib.hid (HB.out.below hb)
  replace HC := Lib.hid (HC.out.below hb)
  replace HD := Lib.hid (HD.out.below hb)
  replace hw := hw.trans (hb.mono hw.size)
  clear hb
  cases ht : anyLong [(nc, nd)] 4 with
  | true =>
   go_wp2_with fail
   refine (awake_m _ M HM.out).mono ?_
   rintro e wz ⟨rfl, hb⟩
   go_wp2
   go_ret
   exact ⟨rfl, hw.trans (hb.mono hw.size)⟩
  | false =>
   have hn : nc ≤ 4 ∧ nd ≤ 4 := by simp [anyLong, tooLong] at ht; omega
   clear ht
   have HN2 := Lib.hid hn
   clear hn
   obtain ⟨c00, c01, f00, f01, s0⟩ := B0.out
   go_wp2_with fail
   refine (of_any pa Aa na ca xa _ HA.out (by have := HN.out.1; omega) DA.out).mono ?_
   rintro e w3 ⟨g7, A7, n7, o7, g8, A8, n8, o8, rfl, hv, hr, hb⟩
   obtain ⟨x, hx⟩ : ∃ x, withSign pa (val xa) = x := ⟨_, rfl⟩
   rw [hx] at hv hr
   clear hx
   replace hv := hv.mono (show na ≤ 4 from HN.out.1)
   replace hr := hr.mono (show 2 * na ≤ 8 by have := HN.out.1; omega)
   clear c00 c01 f00 f01 s0
   clear HA
   replace B0 := Lib.hid (B0.out.below hb)
   replace B1 := Lib.hid (B1.out.below hb)
   replace B2 := Lib.hid (B2.out.below hb)
   replace HM := Lib.hid (HM.out.below hb)
   replace HB := Lib.hid (HB.out.below hb)
   replace HC := Lib.hid (HC.out.below hb)
   replace HD := Lib.hid (HD.out.below hb)
   replace hw := hw.trans (hb.mono hw.size)
   clear hb
   have hX := below_two w3 (.cells #[.bool g7, .slice A7 n7 o7] 31) (.cells #[.bool g8, .slice A8 n8 o8] 34)
   replace B0 := Lib.hid (B0.out.below hX)
   replace B1 := Lib.hid (B1.out.below hX)
   replace B2 := Lib.hid (B2.out.below hX)
   replace HM := Lib.hid (HM.out.below hX)
   replace HB := Lib.hid (HB.out.below hX)
   replace HC := Lib.hid (HC.out.below hX)
   replace HD := Lib.hid (HD.out.below hX)
   replace hw := hw.trans (hX.mono hw.size)
   have B7 := Lib.hid (Fx.newA w3 (.bool g7) (.slice A7 n7 o7) 31 (.cells #[.bool g8, .slice A8 n8 o8] 34))
   have B8 := Lib.hid (Fx.newB w3 (.bool g8) (.slice A8 n8 o8) 34 #[.bool g7, .slice A7 n7 o7] 31)
   have V7 := Lib.hid (hv.below hX)
   have V8 := Lib.hid (hr.below hX)
   clear hX hv hr DA
   clear B0
   obtain ⟨c10, c11, f10, f11, s1⟩ := B1.out
   go_wp2_with fail
   refine (of_any pb Ab nb cb xb _ HB.out (by have := HN.out.2; omega) DB.out).mono ?_
   rintro e w4 ⟨g9, A9, n9, o9, g10, A10, n10, o10, rfl, hv, hr, hb⟩
   obtain ⟨y, hy⟩ : ∃ y, withSign pb (val xb) = y := ⟨_, rfl⟩
   rw [hy] at hv hr
   clear hy
   replace hv := hv.mono (show nb ≤ 4 from HN.out.2)
   replace hr := hr.mono (show 2 * nb ≤ 8 by have := HN.out.2; omega)
   clear c10 c11 f10 f11 s1
   clear HB
   replace B1 := Lib.hid (B1.out.below hb)
   replace B2 := Lib.hid (B2.out.below hb)
   replace B7 := Lib.hid (B7.out.below hb)
   replace B8 := Lib.hid (B8.out.below hb)
   replace HM := Lib.hid (HM.out.below hb)
   replace HC := Lib.hid (HC.out.below hb)
   replace HD := Lib.hid (HD.out.below hb)
   replace V7 := Lib.hid (V7.out.below hb)
   replace V8 := Lib.hid (V8.out.below hb)
   replace hw := hw.trans (hb.mono hw.size)
   clear hb
   have hX := below_two w4 (.cells #[.bool g9, .slice A9 n9 o9] 31) (.cells #[.bool g10, .slice A10 n10 o10] 34)
   replace B1 := Lib.hid (B1.out.below hX)
   replace B2 := Lib.hid (B2.out.below hX)
   replace B7 := Lib.hid (B7.out.below hX)
   replace B8 := Lib.hid (B8.out.below hX)
   replace HM := Lib.hid (HM.out.below hX)
   replace HC := Lib.hid (HC.out.below hX)
   replace HD := Lib.hid (HD.out.below hX)
   replace V7 := Lib.hid (V7.out.below hX)
   replace V8 := Lib.hid (V8.out.below hX)
   replace hw := hw.trans (hX.mono hw.size)
   have B9 := Lib.hid (Fx.newA w4 (.bool g9) (.slice A9 n9 o9) 31 (.cells #[.bool g10, .slice A10 n10 o10] 34))
   have B10 := Lib.hid (Fx.newB w4 (.bool g10) (.slice A10 n10 o10) 34 #[.bool g9, .slice A9 n9 o9] 31)
   have V9 := Lib.hid (hv.below hX)
   have V10 := Lib.hid (hr.below hX)
   clear hX hv hr DB
   clear B1
   obtain ⟨c70, c71, f70, f71, s7⟩ := B7.out
   obtain ⟨c90, c91, f90, f91, s9⟩ := B9.out
   go_wp2_with fail
   refine (New_any _ _ x y 4 _ V7.out V9.out (by decide) (by decide)).mono ?_
   rintro e w5 ⟨⟨g11, A11, n11, o11, e11, E11, m11, d11, rfl, hz⟩, hb⟩
   obtain ⟨er, her⟩ : ∃ er, divE y = er := ⟨_, rfl⟩
   rw [her]
   clear c70 c71 f70 f71 s7
   clear c90 c91 f90 f91 s9
   replace B2 := Lib.hid (B2.out.below hb)
   replace B7 := Lib.hid (B7.out.below hb)
   replace B8 := Lib.hid (B8.out.below hb)
   replace B9 := Lib.hid (B9.out.below hb)
   replace B10 := Lib.hid (B10.out.below hb)
   replace HM := Lib.hid (HM.out.below hb)
   replace HC := Lib.hid (HC.out.below hb)
   replace HD := Lib.hid (HD.out.below hb)
   replace V7 := Lib.hid (V7.out.below hb)
   replace V8 := Lib.hid (V8.out.below hb)
   replace V9 := Lib.hid (V9.out.below hb)
   replace V10 := Lib.hid (V10.out.below hb)
   replace hw := hw.trans (hb.mono hw.size)
   have V11 := Lib.hid hz
   clear hb hz
   have hX := below_alloc w5 (.cells #[.bool g11, .slice A11 n11 o11, .bool e11, .slice E11 m11 d11] 38)
   replace B2 := Lib.hid (B2.out.below hX)
   replace B7 := Lib.hid (B7.out.below hX)
   replace B8 := Lib.hid (B8.out.below hX)
   replace B9 := Lib.hid (B9.out.below hX)
   replace B10 := Lib.hid (B10.out.below hX)
   replace HM := Lib.hid (HM.out.below hX)
   replace HC := Lib.hid (HC.out.below hX)
   replace HD := Lib.hid (HD.out.below hX)
   replace V7 := Lib.hid (V7.out.below hX)
   replace V8 := Lib.hid (V8.out.below hX)
   replace V9 := Lib.hid (V9.out.below hX)
   replace V10 := Lib.hid (V10.out.below hX)
   replace V11 := Lib.hid (V11.out.below hX)
   replace hw := hw.trans (hX.mono hw.size)
   have B11 := Lib.hid (Fx4.new w5 (.bool g11) (.slice A11 n11 o11) (.bool e11) (.slice E11 m11 d11) 38)
   skip
   clear hX
   obtain ⟨c80, c81, f80, f81, s8⟩ := B8.out
   obtain ⟨c100, c101, f100, f101, s10⟩ := B10.out
   go_wp2_with fail
   refine (rNew_any _ _ x y 8 _ V8.out V10.out (by decide)).mono ?_
   rintro e w6 ⟨⟨g13, A13, n13, o13, e13, E13, m13, d13, rfl, hz⟩, hb⟩
   rw [her]
   clear her
   clear c80 c81 f80 f81 s8
   clear c100 c101 f100 f101 s10
   replace B2 := Lib.hid (B2.out.below hb)
   replace B7 := Lib.hid (B7.out.below hb)
   replace B8 := Lib.hid (B8.out.below hb)
   replace B9 := Lib.hid (B9.out.below hb)
   replace B10 := Lib.hid (B10.out.below hb)
   replace B11 := Lib.hid (B11.out.below hb)
   replace HM := Lib.hid (HM.out.below hb)
   replace HC := Lib.hid (HC.out.below hb)
   replace HD := Lib.hid (HD.out.below hb)
   replace V7 := Lib.hid (V7.out.below hb)
   replace V8 := Lib.hid (V8.out.below hb)
   replace V9 := Lib.hid (V9.out.below hb)
   replace V10 := Lib.hid (V10.out.below hb)
   replace V11 := Lib.hid (V11.out.below hb)
   replace hw := hw.trans (hb.mono hw.size)
   have V13 := Lib.hid hz
   clear hb hz
   have hX := below_alloc w6 (.cells #[.bool g13, .slice A13 n13 o13, .bool e13, .slice E13 m13 d13] 43)
   replace B2 := Lib.hid (B2.out.below hX)
   replace B7 := Lib.hid (B7.out.below hX)
   replace B8 := Lib.hid (B8.out.below hX)
   replace B9 := Lib.hid (B9.out.below hX)
   replace B10 := Lib.hid (B10.out.below hX)
   replace B11 := Lib.hid (B11.out.below hX)
   replace HM := Lib.hid (HM.out.below hX)
   replace HC := Lib.hid (HC.out.below hX)
   replace HD := Lib.hid (HD.out.below hX)
   replace V7 := Lib.hid (V7.out.below hX)
   replace V8 := Lib.hid (V8.out.below hX)
   replace V9 := Lib.hid (V9.out.below hX)
   replace V10 := Lib.hid (V10.out.below hX)
   replace V11 := Lib.hid (V11.out.below hX)
   replace V13 := Lib.hid (V13.out.below hX)
   replace hw := hw.trans (hX.mono hw.size)
   have B13 := Lib.hid (Fx4.new w6 (.bool g13) (.slice A13 n13 o13) (.bool e13) (.slice E13 m13 d13) 43)
   skip
   clear hX
   clear B9
   clear B10
   clear V9
   clear V10
   obtain ⟨c20, c21, c22, c23, f20, f21, f22, f23, s2⟩ := B2.out
   go_wp2_with fail
   refine (ofQ_any pc pd Ac Ad nc cc nd cd xc xd _ HC.out DC.out HD.out DD.out (by have := HN2.out; omega) (by have := HN2.out; omega)).mono ?_
   rintro e w7 ⟨⟨g15, A15, n15, o15, e15, E15, m15, d15, g16, A16, n16, o16, e16, E16, m16, d16, rfl, hv, hr⟩, hb⟩
   obtain ⟨z, hz⟩ : ∃ z, ofN (withSign pc (val xc)) (withSign pd (val xd)) = z := ⟨_, rfl⟩
   obtain ⟨t, ht⟩ : ∃ t, ofD (withSign pc (val xc)) (withSign pd (val xd)) = t := ⟨_, rfl⟩
   rw [hz, ht] at hv hr
   clear hz ht
   replace hv := hv.mono (show max nc nd + 4 ≤ 8 by have := HN2.out; omega)
   replace hr := hr.mono (show 2 * max nc nd + 64 ≤ 72 by have := HN2.out; omega)
   clear c20 c21 c22 c23 f20 f21 f22 f23 s2
   clear HC
   clear HD
   replace B2 := Lib.hid (B2.out.below hb)
   replace B7 := Lib.hid (B7.out.below hb)
   replace B8 := Lib.hid (B8.out.below hb)
   replace B11 := Lib.hid (B11.out.below hb)
   replace B13 := Lib.hid (B13.out.below hb)
   replace HM := Lib.hid (HM.out.below hb)
   replace V7 := Lib.hid (V7.out.below hb)
   replace V8 := Lib.hid (V8.out.below hb)
   replace V11 := Lib.hid (V11.out.below hb)
   replace V13 := Lib.hid (V13.out.below hb)
   replace hw := hw.trans (hb.mono hw.size)
   clear hb
   have hX := below_two w7 (.cells #[.bool g15, .slice A15 n15 o15, .bool e15, .slice E15 m15 d15] 38) (.cells #[.bool g16, .slice A16 n16 o16, .bool e16, .slice E16 m16 d16] 43)
   replace B2 := Lib.hid (B2.out.below hX)
   replace B7 := Lib.hid (B7.out.below hX)
   replace B8 := Lib.hid (B8.out.below hX)
   replace B11 := Lib.hid (B11.out.below hX)
   replace B13 := Lib.hid (B13.out.below hX)
   replace HM := Lib.hid (HM.out.below hX)
   replace V7 := Lib.hid (V7.out.below hX)
   replace V8 := Lib.hid (V8.out.below hX)
   replace V11 := Lib.hid (V11.out.below hX)
   replace V13 := Lib.hid (V13.out.below hX)
   replace hw := hw.trans (hX.mono hw.size)
   have B15 := Lib.hid (Fx4.new1 w7 (.bool g15) (.slice A15 n15 o15) (.bool e15) (.slice E15 m15 d15) 38 (.cells #[.bool g16, .slice A16 n16 o16, .bool e16, .slice E16 m16 d16] 43))
   have B16 := Lib.hid (Fx4.new2 w7 (.bool g16) (.slice A16 n16 o16) (.bool e16) (.slice E16 m16 d16) 43 #[.bool g15, .slice A15 n15 o15, .bool e15, .slice E15 m15 d15] 38)
   have V15 := Lib.hid (hv.below hX)
   have V16 := Lib.hid (hr.below hX)
   clear hX hv hr DC DD HN HN2
   clear B2
   go_upto_region 8 with fail
   generalize (w7.alloc (.cells #[.bool g15, .slice A15 n15 o15, .bool e15, .slice E15 m15 d15] 38)).alloc (.cells #[.bool g16, .slice A16 n16 o16, .bool e16, .slice E16 m16 d16] 43) = W8 at *
   generalize w7.heap.size = k7 at *
   generalize w6.heap.size = k6 at *
   generalize w5.heap.size = k5 at *
   generalize w3.heap.size = k3 at *
   obtain ⟨P, hP⟩ : ∃ P, newN x y = P := ⟨_, rfl⟩
   obtain ⟨Q, hQ⟩ : ∃ Q, newD x y = Q := ⟨_, rfl⟩
   rw [hP, hQ] at V11 V13
   clear hP hQ
   have HT := Lib.hid (fun (w' : World) (hb : Below W8.heap.size W8 w') => (show w'.cell? ⟨k3, 0, none⟩ = some (.bool g7) ∧ w'.cell? ⟨k3, 1, none⟩ = some (.slice A7 n7 o7) ∧ w'.cell? ⟨(k3 + 1), 0, none⟩ = some (.bool g8) ∧ w'.cell? ⟨(k3 + 1), 1, none⟩ = some (.slice A8 n8 o8) ∧ w'.cell? ⟨k5, 0, none⟩ = some (.bool g11) ∧ w'.cell? ⟨k5, 1, none⟩ = some (.slice A11 n11 o11) ∧ w'.cell? ⟨k5, 2, none⟩ = some (.bool e11) ∧ w'.cell? ⟨k5, 3, none⟩ = some (.slice E11 m11 d11) ∧ w'.cell? ⟨k6, 0, none⟩ = some (.bool g13) ∧ w'.cell? ⟨k6, 1, none⟩ = some (.slice A13 n13 o13) ∧ w'.cell? ⟨k6, 2, none⟩ = some (.bool e13) ∧ w'.cell? ⟨k6, 3, none⟩ = some (.slice E13 m13 d13) ∧ w'.cell? ⟨k7, 0, none⟩ = some (.bool g15) ∧ w'.cell? ⟨k7, 1, none⟩ = some (.slice A15 n15 o15) ∧ w'.cell? ⟨k7, 2, none⟩ = some (.bool e15) ∧ w'.cell? ⟨k7, 3, none⟩ = some (.slice E15 m15 d15) ∧ w'.cell? ⟨(k7 + 1), 0, none⟩ = some (.bool g16) ∧ w'.cell? ⟨(k7 + 1), 1, none⟩ = some (.slice A16 n16 o16) ∧ w'.cell? ⟨(k7 + 1), 2, none⟩ = some (.bool e16) ∧ w'.cell? ⟨(k7 + 1), 3, none⟩ = some (.slice E16 m16 d16) from ⟨(B7.out.below hb).1, (B7.out.below hb).2.1, (B8.out.below hb).1, (B8.out.below hb).2.1, (B11.out.below hb).c0, (B11.out.below hb).c1, (B11.out.below hb).c2, (B11.out.below hb).c3, (B13.out.below hb).c0, (B13.out.below hb).c1, (B13.out.below hb).c2, (B13.out.below hb).c3, (B15.out.below hb).c0, (B15.out.below hb).c1, (B15.out.below hb).c2, (B15.out.below hb).c3, (B16.out.below hb).c0, (B16.out.below hb).c1, (B16.out.below hb).c2, (B16.out.below hb).c3⟩))
   have hB := (Below.refl W8.heap.size W8).drew
   replace HM := Lib.hid (HM.out.below hB)
   replace V7 := Lib.hid (V7.out.below hB)
   replace V8 := Lib.hid (V8.out.below hB)
   replace V11 := Lib.hid (V11.out.below hB)
   replace V13 := Lib.hid (V13.out.below hB)
   replace V15 := Lib.hid (V15.out.below hB)
   replace V16 := Lib.hid (V16.out.below hB)
   refine wp_region_held_drew (S := fun w' => w'.cell? ⟨k3, 0, none⟩ = some (.bool g7) ∧ w'.cell? ⟨k3, 1, none⟩ = some (.slice A7 n7 o7) ∧ w'.cell? ⟨(k3 + 1), 0, none⟩ = some (.bool g8) ∧ w'.cell? ⟨(k3 + 1), 1, none⟩ = some (.slice A8 n8 o8) ∧ w'.cell? ⟨k5, 0, none⟩ = some (.bool g11) ∧ w'.cell? ⟨k5, 1, none⟩ = some (.slice A11 n11 o11) ∧ w'.cell? ⟨k5, 2, none⟩ = some (.bool e11) ∧ w'.cell? ⟨k5, 3, none⟩ = some (.slice E11 m11 d11) ∧ w'.cell? ⟨k6, 0, none⟩ = some (.bool g13) ∧ w'.cell? ⟨k6, 1, none⟩ = some (.slice A13 n13 o13) ∧ w'.cell? ⟨k6, 2, none⟩ = some (.bool e13) ∧ w'.cell? ⟨k6, 3, none⟩ = some (.slice E13 m13 d13) ∧ w'.cell? ⟨k7, 0, none⟩ = some (.bool g15) ∧ w'.cell? ⟨k7, 1, none⟩ = some (.slice A15 n15 o15) ∧ w'.cell? ⟨k7, 2, none⟩ = some (.bool e15) ∧ w'.cell? ⟨k7, 3, none⟩ = some (.slice E15 m15 d15) ∧ w'.cell? ⟨(k7 + 1), 0, none⟩ = some (.bool g16) ∧ w'.cell? ⟨(k7 + 1), 1, none⟩ = some (.slice A16 n16 o16) ∧ w'.cell? ⟨(k7 + 1), 2, none⟩ = some (.bool e16) ∧ w'.cell? ⟨(k7 + 1), 3, none⟩ = some (.slice E16 m16 d16)) (by kernel_rfl) (HT.out _ hB) (fun hHeldn => ?_)
   clear hHeldn
   generalize W8.drew = wr0 at *
   refine wpAnyH_taken (i := 0) (d := some 56) (v := ?_) rfl rfl (by kernel_rfl) (by kernel_rfl) (by kernel_rfl) (fun _ _ _ h => h) (Or.inl ⟨by rfl, ?_⟩) (by first | assumption | exact HT.out _ hB) ?_
   rotate_left 1
   ·(intro w hSw; (try dsimp only at hSw); go_simp; try with_reducible rfl)
   try simp only [Act.put, sTA, sCZ, sCS]
   refine wpAnyH_taken (i := 1) (d := some 57) (v := ?_) rfl rfl (by kernel_rfl) (by kernel_rfl) (by kernel_rfl) (fun _ _ _ h => h) (Or.inl ⟨by rfl, ?_⟩) (by first | assumption | exact HT.out _ hB) ?_
   rotate_left 1
   ·(intro w hSw; (try dsimp only at hSw); go_simp; try with_reducible rfl)
   try simp only [Act.put, sTA, sCZ, sCS]
   refine wpAnyH_taken (i := 2) (d := some 58) (v := ?_) rfl rfl (by kernel_rfl) (by kernel_rfl) (by kernel_rfl) (fun _ _ _ h => h) (Or.inl ⟨by rfl, ?_⟩) (by first | assumption | exact HT.out _ hB) ?_
   rotate_left 1
   ·(intro w hSw; (try dsimp only at hSw); go_simp; try with_reducible rfl)
   try simp only [Act.put, sTA, sCZ, sCS]
   refine wpAnyH_taken (i := 3) (d := some 59) (v := ?_) rfl rfl (by kernel_rfl) (by kernel_rfl) (by kernel_rfl) (fun _ _ _ h => h) (Or.inl ⟨by rfl, ?_⟩) (by first | assumption | exact HT.out _ hB) ?_
   rotate_left 1
   ·(intro w hSw; (try dsimp only at hSw); go_simp; try with_reducible rfl)
   try simp only [Act.put, sTA, sCZ, sCS]
   refine wpAnyH_taken (i := 4) (d := some 60) (v := ?_) rfl rfl (by kernel_rfl) (by kernel_rfl) (by kernel_rfl) (fun _ _ _ h => h) (Or.inl ⟨by rfl, ?_⟩) (by first | assumption | exact HT.out _ hB) ?_
   rotate_left 1
   ·(intro w hSw; (try dsimp only at hSw); go_simp; try with_reducible rfl)
   try simp only [Act.put, sTA, sCZ, sCS]
   refine wpAnyH_taken (i := 5) (d := some 61) (v := ?_) rfl rfl (by kernel_rfl) (by kernel_rfl) (by kernel_rfl) (fun _ _ _ h => h) (Or.inl ⟨by rfl, ?_⟩) (by first | assumption | exact HT.out _ hB) ?_
   rotate_left 1
   ·(intro w hSw; (try dsimp only at hSw); go_simp; try with_reducible rfl)
   try simp only [Act.put, sTA, sCZ, sCS]
   refine wpAnyH_ready (rs := [6]) (by kernel_rfl) (by simp) ?_
   refine AllReadyH.cons rfl (fun K hK => ?_) AllReadyH.nil
   (try simp only [gEA]); (try simp only [gES]); (try simp only [gEZ])
   go_simp
   (go_at_call 19; refine (Is_q _ _ P Q 6 72 _ V11.out V13.out (by decide) (by decide) (by decide)).mono ?_; rintro e wc6 ⟨rfl, hb⟩)
   replace HM := Lib.hid (HM.out.below hb)
   replace V7 := Lib.hid (V7.out.below hb)
   replace V8 := Lib.hid (V8.out.below hb)
   replace V11 := Lib.hid (V11.out.below hb)
   replace V13 := Lib.hid (V13.out.below hb)
   replace V15 := Lib.hid (V15.out.below hb)
   replace V16 := Lib.hid (V16.out.below hb)
   replace hB := Below.trans hB (hb.mono hB.size)
   refine hK.out _ _ (HT.out _ hB) (fun hHeldn => ?_)
   clear hK K hHeldn
   try simp only [Act.put, sTA, sCZ, sCS]
   clear hb
   refine wpAnyH_taken (i := 7) (d := some 63) (v := ?_) rfl rfl (by kernel_rfl) (by kernel_rfl) (by kernel_rfl) (fun _ _ _ h => h) (Or.inl ⟨by rfl, ?_⟩) (by first | assumption | exact HT.out _ hB) ?_
   rotate_left 1
   ·(intro w hSw; (try dsimp only at hSw); go_simp; try with_reducible rfl)
   try simp only [Act.put, sTA, sCZ, sCS]
   refine wpAnyH_taken (i := 8) (d := some 64) (v := ?_) rfl rfl (by kernel_rfl) (by kernel_rfl) (by kernel_rfl) (fun _ _ _ h => h) (Or.inl ⟨by rfl, ?_⟩) (by first | assumption | exact HT.out _ hB) ?_
   rotate_left 1
   ·(intro w hSw; (try dsimp only at hSw); go_simp; try with_reducible rfl)
   try simp only [Act.put, sTA, sCZ, sCS]
   refine wpAnyH_taken (i := 9) (d := some 65) (v := ?_) rfl rfl (by kernel_rfl) (by kernel_rfl) (by kernel_rfl) (fun _ _ _ h => h) (Or.inl ⟨by rfl, ?_⟩) (by first | assumption | exact HT.out _ hB) ?_
   rotate_left 1
   ·(intro w hSw; (try dsimp only at hSw); go_simp; try with_reducible rfl)
   try simp only [Act.put, sTA, sCZ, sCS]
   refine wpAnyH_taken (i := 11) (d := some 67) (v := ?_) rfl rfl (by kernel_rfl) (by kernel_rfl) (by kernel_rfl) (fun _ _ _ h => h) (Or.inl ⟨by rfl, ?_⟩) (by first | assumption | exact HT.out _ hB) ?_
   rotate_left 1
   ·(intro w hSw; (try dsimp only at hSw); go_simp; try with_reducible rfl)
   try simp only [Act.put, sTA, sCZ, sCS]
   refine wpAnyH_ready (rs := [10]) (by kernel_rfl) (by simp) ?_
   refine AllReadyH.cons rfl (fun K hK => ?_) AllReadyH.nil
   (try simp only [gEA]); (try simp only [gES]); (try simp only [gEZ])
   go_simp
   (go_at_call 20; refine (Of_rat _ x 4 _ V7.out).mono ?_; rintro e wc10 ⟨⟨g30, A30, n30, o30, e30, E30, m30, d30, rfl, hz⟩, hb⟩)
   replace HM := Lib.hid (HM.out.below hb)
   replace V7 := Lib.hid (V7.out.below hb)
   replace V8 := Lib.hid (V8.out.below hb)
   replace V11 := Lib.hid (V11.out.below hb)
   replace V13 := Lib.hid (V13.out.below hb)
   replace V15 := Lib.hid (V15.out.below hb)
   replace V16 := Lib.hid (V16.out.below hb)
   replace hB := Below.trans hB (hb.mono hB.size)
   have T1 := Lib.hid hz
   refine hK.out _ _ (HT.out _ hB) (fun hHeldn => ?_)
   clear hK K hHeldn
   try simp only [Act.put, sTA, sCZ, sCS]
   clear hb hz
   refine wpAnyH_ready (rs := [12]) (by kernel_rfl) (by simp) ?_
   refine AllReadyH.cons rfl (fun K hK => ?_) AllReadyH.nil
   (try simp only [gEA]); (try simp only [gES]); (try simp only [gEZ])
   go_simp
   (go_at_call 21; refine (rOf_rat _ x 8 _ V8.out (by decide)).mono ?_; rintro e wc12 ⟨⟨g32, A32, n32, o32, e32, E32, m32, d32, rfl, hz⟩, hb⟩)
   replace HM := Lib.hid (HM.out.below hb)
   replace V7 := Lib.hid (V7.out.below hb)
   replace V8 := Lib.hid (V8.out.below hb)
   replace V11 := Lib.hid (V11.out.below hb)
   replace V13 := Lib.hid (V13.out.below hb)
   replace V15 := Lib.hid (V15.out.below hb)
   replace V16 := Lib.hid (V16.out.below hb)
   replace T1 := Lib.hid (T1.out.below hb)
   replace hB := Below.trans hB (hb.mono hB.size)
   have T2 := Lib.hid hz
   refine hK.out _ _ (HT.out _ hB) (fun hHeldn => ?_)
   clear hK K hHeldn
   try simp only [Act.put, sTA, sCZ, sCS]
   clear hb hz
   refine wpAnyH_ready (rs := [13]) (by kernel_rfl) (by simp) ?_
   refine AllReadyH.cons rfl (fun K hK => ?_) AllReadyH.nil
   (try simp only [gEA]); (try simp only [gES]); (try simp only [gEZ])
   go_simp
   (go_at_call 19; refine (Is_q _ _ x 1 4 64 _ T1.out T2.out (by decide) (by decide) (by decide)).mono ?_; rintro e wc13 ⟨rfl, hb⟩)
   replace HM := Lib.hid (HM.out.below hb)
   replace V7 := Lib.hid (V7.out.below hb)
   replace V8 := Lib.hid (V8.out.below hb)
   replace V11 := Lib.hid (V11.out.below hb)
   replace V13 := Lib.hid (V13.out.below hb)
   replace V15 := Lib.hid (V15.out.below hb)
   replace V16 := Lib.hid (V16.out.below hb)
   replace T1 := Lib.hid (T1.out.below hb)
   replace T2 := Lib.hid (T2.out.below hb)
   replace hB := Below.trans hB (hb.mono hB.size)
   clear T1
   clear T2
   refine hK.out _ _ (HT.out _ hB) (fun hHeldn => ?_)
   clear hK K hHeldn
   try simp only [Act.put, sTA, sCZ, sCS]
   clear hb
   refine wpAnyH_taken (i := 14) (d := some 70) (v := ?_) rfl rfl (by kernel_rfl) (by kernel_rfl) (by kernel_rfl) (fun _ _ _ h => h) (Or.inl ⟨by rfl, ?_⟩) (by first | assumption | exact HT.out _ hB) ?_
   rotate_left 1
   ·(intro w hSw; (try dsimp only at hSw); go_simp; try with_reducible rfl)
   try simp only [Act.put, sTA, sCZ, sCS]
   refine wpAnyH_taken (i := 15) (d := some 71) (v := ?_) rfl rfl (by kernel_rfl) (by kernel_rfl) (by kernel_rfl) (fun _ _ _ h => h) (Or.inl ⟨by rfl, ?_⟩) (by first | assumption | exact HT.out _ hB) ?_
   rotate_left 1
   ·(intro w hSw; (try dsimp only at hSw); go_simp; try with_reducible rfl)
   try simp only [Act.put, sTA, sCZ, sCS]
   refine wpAnyH_taken (i := 16) (d := some 72) (v := ?_) rfl rfl (by kernel_rfl) (by kernel_rfl) (by kernel_rfl) (fun _ _ _ h => h) (Or.inl ⟨by rfl, ?_⟩) (by first | assumption | exact HT.out _ hB) ?_
   rotate_left 1
   ·(intro w hSw; (try dsimp only at hSw); go_simp; try with_reducible rfl)
   try simp only [Act.put, sTA, sCZ, sCS]
   refine wpAnyH_taken (i := 17) (d := some 73) (v := ?_) rfl rfl (by kernel_rfl) (by kernel_rfl) (by kernel_rfl) (fun _ _ _ h => h) (Or.inl ⟨by rfl, ?_⟩) (by first | assumption | exact HT.out _ hB) ?_
   rotate_left 1
   ·(intro w hSw; (try dsimp only at hSw); go_simp; try with_reducible rfl)
   try simp only [Act.put, sTA, sCZ, sCS]
   refine wpAnyH_ready (rs := [18]) (by kernel_rfl) (by simp) ?_
   refine AllReadyH.cons rfl (fun K hK => ?_) AllReadyH.nil
   (try simp only [gEA]); (try simp only [gES]); (try simp only [gEZ])
   go_simp
   (go_at_call 19; refine (Is_q _ _ z t 8 72 _ V15.out V16.out (by decide) (by decide) (by decide)).mono ?_; rintro e wc18 ⟨rfl, hb⟩)
   replace HM := Lib.hid (HM.out.below hb)
   replace V7 := Lib.hid (V7.out.below hb)
   replace V8 := Lib.hid (V8.out.below hb)
   replace V11 := Lib.hid (V11.out.below hb)
   replace V13 := Lib.hid (V13.out.below hb)
   replace V15 := Lib.hid (V15.out.below hb)
   replace V16 := Lib.hid (V16.out.below hb)
   replace hB := Below.trans hB (hb.mono hB.size)
   refine hK.out _ _ (HT.out _ hB) (fun hHeldn => ?_)
   clear hK K hHeldn
   try simp only [Act.put, sTA, sCZ, sCS]
   clear hb
   refine wpAnyH_taken (i := 19) (d := some 75) (v := ?_) rfl rfl (by kernel_rfl) (by kernel_rfl) (by kernel_rfl) (fun _ _ _ h => h) (Or.inl ⟨by rfl, ?_⟩) (by first | assumption | exact HT.out _ hB) ?_
   rotate_left 1
   ·(intro w hSw; (try dsimp only at hSw); go_simp; try with_reducible rfl)
   try simp only [Act.put, sTA, sCZ, sCS]
   refine wpAnyH_taken (i := 20) (d := some 76) (v := ?_) rfl rfl (by kernel_rfl) (by kernel_rfl) (by kernel_rfl) (fun _ _ _ h => h) (Or.inl ⟨by rfl, ?_⟩) (by first | assumption | exact HT.out _ hB) ?_
   rotate_left 1
   ·(intro w hSw; (try dsimp only at hSw); go_simp; try with_reducible rfl)
   try simp only [Act.put, sTA, sCZ, sCS]
   refine wpAnyH_taken (i := 21) (d := some 77) (v := ?_) rfl rfl (by kernel_rfl) (by kernel_rfl) (by kernel_rfl) (fun _ _ _ h => h) (Or.inl ⟨by rfl, ?_⟩) (by first | assumption | exact HT.out _ hB) ?_
   rotate_left 1
   ·(intro w hSw; (try dsimp only at hSw); go_simp; try with_reducible rfl)
   try simp only [Act.put, sTA, sCZ, sCS]
   refine wpAnyH_taken (i := 23) (d := some 79) (v := ?_) rfl rfl (by kernel_rfl) (by kernel_rfl) (by kernel_rfl) (fun _ _ _ h => h) (Or.inl ⟨by rfl, ?_⟩) (by first | assumption | exact HT.out _ hB) ?_
   rotate_left 1
   ·(intro w hSw; (try dsimp only at hSw); go_simp; try with_reducible rfl)
   try simp only [Act.put, sTA, sCZ, sCS]
   refine wpAnyH_ready (rs := [22]) (by kernel_rfl) (by simp) ?_
   refine AllReadyH.cons rfl (fun K hK => ?_) AllReadyH.nil
   (try simp only [gEA]); (try simp only [gES]); (try simp only [gEZ])
   go_simp
   (go_at_call 22; refine (Whole_any _ P Q 6 _ V11.out).mono ?_; rintro e wc22 ⟨rfl, hb⟩)
   replace HM := Lib.hid (HM.out.below hb)
   replace V7 := Lib.hid (V7.out.below hb)
   replace V8 := Lib.hid (V8.out.below hb)
   replace V11 := Lib.hid (V11.out.below hb)
   replace V13 := Lib.hid (V13.out.below hb)
   replace V15 := Lib.hid (V15.out.below hb)
   replace V16 := Lib.hid (V16.out.below hb)
   replace hB := Below.trans hB (hb.mono hB.size)
   refine hK.out _ _ (HT.out _ hB) (fun hHeldn => ?_)
   clear hK K hHeldn
   try simp only [Act.put, sTA, sCZ, sCS]
   clear hb
   refine wpAnyH_ready (rs := [24]) (by kernel_rfl) (by simp) ?_
   refine AllReadyH.cons rfl (fun K hK => ?_) AllReadyH.nil
   (try simp only [gEA]); (try simp only [gES]); (try simp only [gEZ])
   go_simp
   (go_at_call 23; refine (rWhole_q _ P Q 72 _ V13.out (by decide)).mono ?_; rintro e wc24 ⟨rfl, hb⟩)
   replace HM := Lib.hid (HM.out.below hb)
   replace V7 := Lib.hid (V7.out.below hb)
   replace V8 := Lib.hid (V8.out.below hb)
   replace V11 := Lib.hid (V11.out.below hb)
   replace V13 := Lib.hid (V13.out.below hb)
   replace V15 := Lib.hid (V15.out.below hb)
   replace V16 := Lib.hid (V16.out.below hb)
   replace hB := Below.trans hB (hb.mono hB.size)
   refine hK.out _ _ (HT.out _ hB) (fun hHeldn => ?_)
   clear hK K hHeldn
   try simp only [Act.put, sTA, sCZ, sCS]
   clear hb
   refine wpAnyH_taken (i := 25) (d := some 81) (v := ?_) rfl rfl (by kernel_rfl) (by kernel_rfl) (by kernel_rfl) (fun _ _ _ h => h) (Or.inl ⟨by rfl, ?_⟩) (by first | assumption | exact HT.out _ hB) ?_
   rotate_left 1
   ·(intro w hSw; (try dsimp only at hSw); go_simp; try with_reducible rfl)
   try simp only [Act.put, sTA, sCZ, sCS]
   refine wpAnyH_taken (i := 26) (d := some 82) (v := ?_) rfl rfl (by kernel_rfl) (by kernel_rfl) (by kernel_rfl) (fun _ _ _ h => h) (Or.inl ⟨by rfl, ?_⟩) (by first | assumption | exact HT.out _ hB) ?_
   rotate_left 1
   ·(intro w hSw; (try dsimp only at hSw); go_simp; try with_reducible rfl)
   try simp only [Act.put, sTA, sCZ, sCS]
   refine wpAnyH_taken (i := 27) (d := some 83) (v := ?_) rfl rfl (by kernel_rfl) (by kernel_rfl) (by kernel_rfl) (fun _ _ _ h => h) (Or.inl ⟨by rfl, ?_⟩) (by first | assumption | exact HT.out _ hB) ?_
   rotate_left 1
   ·(intro w hSw; (try dsimp only at hSw); go_simp; try with_reducible rfl)
   try simp only [Act.put, sTA, sCZ, sCS]
   refine wpAnyH_taken (i := 28) (d := some 84) (v := ?_) rfl rfl (by kernel_rfl) (by kernel_rfl) (by kernel_rfl) (fun _ _ _ h => h) (Or.inl ⟨by rfl, ?_⟩) (by first | assumption | exact HT.out _ hB) ?_
   rotate_left 1
   ·(intro w hSw; (try dsimp only at hSw); go_simp; try with_reducible rfl)
   try simp only [Act.put, sTA, sCZ, sCS]
   refine wpAnyH_taken (i := 30) (d := some 86) (v := ?_) rfl rfl (by kernel_rfl) (by kernel_rfl) (by kernel_rfl) (fun _ _ _ h => h) (Or.inl ⟨by rfl, ?_⟩) (by first | assumption | exact HT.out _ hB) ?_
   rotate_left 1
   ·(intro w hSw; (try dsimp only at hSw); go_simp; try with_reducible rfl)
   try simp only [Act.put, sTA, sCZ, sCS]
   refine wpAnyH_ready (rs := [29]) (by kernel_rfl) (by simp) ?_
   refine AllReadyH.cons rfl (fun K hK => ?_) AllReadyH.nil
   (try simp only [gEA]); (try simp only [gES]); (try simp only [gEZ])
   go_simp
   (go_at_call 24; refine (Sign_any _ P Q 6 _ V11.out).mono ?_; rintro e wc29 ⟨rfl, hb⟩)
   replace HM := Lib.hid (HM.out.below hb)
   replace V7 := Lib.hid (V7.out.below hb)
   replace V8 := Lib.hid (V8.out.below hb)
   replace V11 := Lib.hid (V11.out.below hb)
   replace V13 := Lib.hid (V13.out.below hb)
   replace V15 := Lib.hid (V15.out.below hb)
   replace V16 := Lib.hid (V16.out.below hb)
   replace hB := Below.trans hB (hb.mono hB.size)
   refine hK.out _ _ (HT.out _ hB) (fun hHeldn => ?_)
   clear hK K hHeldn
   try simp only [Act.put, sTA, sCZ, sCS]
   clear hb
   refine wpAnyH_ready (rs := [31]) (by kernel_rfl) (by simp) ?_
   refine AllReadyH.cons rfl (fun K hK => ?_) AllReadyH.nil
   (try simp only [gEA]); (try simp only [gES]); (try simp only [gEZ])
   go_simp
   (go_at_call 25; refine (rSign_q _ P Q 72 _ V13.out (by decide)).mono ?_; rintro e wc31 ⟨rfl, hb⟩)
   replace HM := Lib.hid (HM.out.below hb)
   replace V7 := Lib.hid (V7.out.below hb)
   replace V8 := Lib.hid (V8.out.below hb)
   replace V11 := Lib.hid (V11.out.below hb)
   replace V13 := Lib.hid (V13.out.below hb)
   replace V15 := Lib.hid (V15.out.below hb)
   replace V16 := Lib.hid (V16.out.below hb)
   replace hB := Below.trans hB (hb.mono hB.size)
   refine hK.out _ _ (HT.out _ hB) (fun hHeldn => ?_)
   clear hK K hHeldn
   try simp only [Act.put, sTA, sCZ, sCS]
   clear hb
   refine wpAnyH_taken (i := 32) (d := some 88) (v := ?_) rfl rfl (by kernel_rfl) (by kernel_rfl) (by kernel_rfl) (fun _ _ _ h => h) (Or.inl ⟨by rfl, ?_⟩) (by first | assumption | exact HT.out _ hB) ?_
   rotate_left 1
   ·(intro w hSw; (try dsimp only at hSw); go_simp; try with_reducible rfl)
   try simp only [Act.put, sTA, sCZ, sCS]
   refine wpAnyH_taken (i := 33) (d := some 89) (v := ?_) rfl rfl (by kernel_rfl) (by kernel_rfl) (by kernel_rfl) (fun _ _ _ h => h) (Or.inl ⟨by rfl, ?_⟩) (by first | assumption | exact HT.out _ hB) ?_
   rotate_left 1
   ·(intro w hSw; (try dsimp only at hSw); go_simp; try with_reducible rfl)
   try simp only [Act.put, sTA, sCZ, sCS]
   refine wpAnyH_taken (i := 34) (d := some 90) (v := ?_) rfl rfl (by kernel_rfl) (by kernel_rfl) (by kernel_rfl) (fun _ _ _ h => h) (Or.inl ⟨by rfl, ?_⟩) (by first | assumption | exact HT.out _ hB) ?_
   rotate_left 1
   ·(intro w hSw; (try dsimp only at hSw); go_simp; try with_reducible rfl)
   try simp only [Act.put, sTA, sCZ, sCS]
   refine wpAnyH_taken (i := 35) (d := some 91) (v := ?_) rfl rfl (by kernel_rfl) (by kernel_rfl) (by kernel_rfl) (fun _ _ _ h => h) (Or.inl ⟨by rfl, ?_⟩) (by first | assumption | exact HT.out _ hB) ?_
   rotate_left 1
   ·(intro w hSw; (try dsimp only at hSw); go_simp; try with_reducible rfl)
   try simp only [Act.put, sTA, sCZ, sCS]
   refine wpAnyH_taken (i := 36) (d := some 92) (v := ?_) rfl rfl (by kernel_rfl) (by kernel_rfl) (by kernel_rfl) (fun _ _ _ h => h) (Or.inl ⟨by rfl, ?_⟩) (by first | assumption | exact HT.out _ hB) ?_
   rotate_left 1
   ·(intro w hSw; (try dsimp only at hSw); go_simp; try with_reducible rfl)
   try simp only [Act.put, sTA, sCZ, sCS]
   refine wpAnyH_taken (i := 38) (d := some 94) (v := ?_) rfl rfl (by kernel_rfl) (by kernel_rfl) (by kernel_rfl) (fun _ _ _ h => h) (Or.inl ⟨by rfl, ?_⟩) (by first | assumption | exact HT.out _ hB) ?_
   rotate_left 1
   ·(intro w hSw; (try dsimp only at hSw); go_simp; try with_reducible rfl)
   try simp only [Act.put, sTA, sCZ, sCS]
   refine wpAnyH_taken (i := 39) (d := some 95) (v := ?_) rfl rfl (by kernel_rfl) (by kernel_rfl) (by kernel_rfl) (fun _ _ _ h => h) (Or.inl ⟨by rfl, ?_⟩) (by first | assumption | exact HT.out _ hB) ?_
   rotate_left 1
   ·(intro w hSw; (try dsimp only at hSw); go_simp; try with_reducible rfl)
   try simp only [Act.put, sTA, sCZ, sCS]
   refine wpAnyH_ready (rs := [37]) (by kernel_rfl) (by simp) ?_
   refine AllReadyH.cons rfl (fun K hK => ?_) AllReadyH.nil
   (try simp only [gEA]); (try simp only [gES]); (try simp only [gEZ])
   go_simp
   (go_at_call 26; refine (Cmp_q _ _ P Q z t 8 _ (V11.out.mono (by decide)) V15.out (by decide)).mono ?_; rintro e wc37 ⟨rfl, hb⟩)
   replace HM := Lib.hid (HM.out.below hb)
   replace V7 := Lib.hid (V7.out.below hb)
   replace V8 := Lib.hid (V8.out.below hb)
   replace V11 := Lib.hid (V11.out.below hb)
   replace V13 := Lib.hid (V13.out.below hb)
   replace V15 := Lib.hid (V15.out.below hb)
   replace V16 := Lib.hid (V16.out.below hb)
   replace hB := Below.trans hB (hb.mono hB.size)
   refine hK.out _ _ (HT.out _ hB) (fun hHeldn => ?_)
   clear hK K hHeldn
   try simp only [Act.put, sTA, sCZ, sCS]
   clear hb
   refine wpAnyH_ready (rs := [40]) (by kernel_rfl) (by simp) ?_
   refine AllReadyH.cons rfl (fun K hK => ?_) AllReadyH.nil
   (try simp only [gEA]); (try simp only [gES]); (try simp only [gEZ])
   go_simp
   (go_at_call 27; refine (rCmp_q _ _ P Q z t 72 _ V13.out V16.out (by decide)).mono ?_; rintro e wc40 ⟨rfl, hb⟩)
   replace HM := Lib.hid (HM.out.below hb)
   replace V7 := Lib.hid (V7.out.below hb)
   replace V8 := Lib.hid (V8.out.below hb)
   replace V11 := Lib.hid (V11.out.below hb)
   replace V13 := Lib.hid (V13.out.below hb)
   replace V15 := Lib.hid (V15.out.below hb)
   replace V16 := Lib.hid (V16.out.below hb)
   replace hB := Below.trans hB (hb.mono hB.size)
   refine hK.out _ _ (HT.out _ hB) (fun hHeldn => ?_)
   clear hK K hHeldn
   try simp only [Act.put, sTA, sCZ, sCS]
   clear hb
   refine wpAnyH_taken (i := 41) (d := some 97) (v := ?_) rfl rfl (by kernel_rfl) (by kernel_rfl) (by kernel_rfl) (fun _ _ _ h => h) (Or.inl ⟨by rfl, ?_⟩) (by first | assumption | exact HT.out _ hB) ?_
   rotate_left 1
   ·(intro w hSw; (try dsimp only at hSw); go_simp; try with_reducible rfl)
   try simp only [Act.put, sTA, sCZ, sCS]
   refine wpAnyH_taken (i := 42) (d := some 98) (v := ?_) rfl rfl (by kernel_rfl) (by kernel_rfl) (by kernel_rfl) (fun _ _ _ h => h) (Or.inl ⟨by rfl, ?_⟩) (by first | assumption | exact HT.out _ hB) ?_
   rotate_left 1
   ·(intro w hSw; (try dsimp only at hSw); go_simp; try with_reducible rfl)
   try simp only [Act.put, sTA, sCZ, sCS]
   refine wpAnyH_taken (i := 43) (d := some 99) (v := ?_) rfl rfl (by kernel_rfl) (by kernel_rfl) (by kernel_rfl) (fun _ _ _ h => h) (Or.inl ⟨by rfl, ?_⟩) (by first | assumption | exact HT.out _ hB) ?_
   rotate_left 1
   ·(intro w hSw; (try dsimp only at hSw); go_simp; try with_reducible rfl)
   try simp only [Act.put, sTA, sCZ, sCS]
   refine wpAnyH_ready (rs := [44]) (by kernel_rfl) (by simp) ?_
   refine AllReadyH.cons rfl (fun K hK => ?_) AllReadyH.nil
   (try simp only [gEA]); (try simp only [gES]); (try simp only [gEZ])
   go_simp
   (go_at_call 14; refine (awake_m _ M HM.out).mono ?_; rintro e wc44 ⟨rfl, hb⟩)
   replace HM := Lib.hid (HM.out.below hb)
   replace V7 := Lib.hid (V7.out.below hb)
   replace V8 := Lib.hid (V8.out.below hb)
   replace V11 := Lib.hid (V11.out.below hb)
   replace V13 := Lib.hid (V13.out.below hb)
   replace V15 := Lib.hid (V15.out.below hb)
   replace V16 := Lib.hid (V16.out.below hb)
   replace hB := Below.trans hB (hb.mono hB.size)
   refine hK.out _ _ (HT.out _ hB) (fun hHeldn => ?_)
   clear hK K hHeldn
   try simp only [Act.put, sTA, sCZ, sCS]
   clear hb
   refine wpAnyH_taken (i := 45) (d := some 101) (v := ?_) rfl rfl (by kernel_rfl) (by kernel_rfl) (by kernel_rfl) (fun _ _ _ h => h) (Or.inl ⟨by rfl, ?_⟩) (by first | assumption | exact HT.out _ hB) ?_
   rotate_left 1
   ·(intro w hSw; (try dsimp only at hSw); go_simp; try with_reducible rfl)
   try simp only [Act.put, sTA, sCZ, sCS]
   refine wpAnyH_taken (i := 46) (d := some 6) (v := ?_) rfl rfl (by kernel_rfl) (by kernel_rfl) (by kernel_rfl) (fun _ _ _ h => h) (Or.inl ⟨by rfl, ?_⟩) (by first | assumption | exact HT.out _ hB) ?_
   rotate_left 1
   ·(intro w hSw; (try dsimp only at hSw); go_simp; try with_reducible rfl)
   try simp only [Act.put, sTA, sCZ, sCS]
   refine wpAnyH_done (by kernel_rfl) ?_ _
   replace B7 := Lib.hid (B7.out.below hB)
   replace B8 := Lib.hid (B8.out.below hB)
   replace B11 := Lib.hid (B11.out.below hB)
   replace B13 := Lib.hid (B13.out.below hB)
   replace B15 := Lib.hid (B15.out.below hB)
   replace B16 := Lib.hid (B16.out.below hB)
   replace hw := hw.trans (hB.mono hw.size)
   go_wp2
   go_ret
   exact ⟨rfl, hw⟩

end Go.Proofs.YtbajnceoolkckaaGreat
