/- Of the proof of RationalPowers: RatPow. -/
import Derived.Test.YtbajnceoolkckaaGreatPw38
open List renaming getElem_toArray → gEA, getElem_cons_succ → gES, getElem_cons_zero → gEZ, setIfInBounds_toArray → sTA, set_cons_zero → sCZ, set_cons_succ → sCS
/- The law of powers of chapter 3, walked. -/
namespace Go.Proofs.YtbajnceoolkckaaGreat
open Go.RowKit LM

theorem givenQ1 (w : World) {g : Nat} (hg : w.heap.size = g) (pa pb : Bool) {Aa Ab : Option Addr} {na nb ca cb : Nat} {xa xb : List Int} (ha : Row .u32 w Aa na ca xa) (hb0 : Row .u32 w Ab nb cb xb) (da : Dig xa) (db : Dig xb) (hn : na ≤ 3 ∧ nb ≤ 3) :
  GivenQ (w.alloc (.cells #[.bool pa, .slice Aa na ca, .bool pb, .slice Ab nb cb] 26)) g 1 3 [(ofN (withSign pa (val xa)) (withSign pb (val xb)), ofD (withSign pa (val xa)) (withSign pb (val xb)))] := by
 subst hg
 have hb := below_alloc w (.cells #[.bool pa, .slice Aa na ca, .bool pb, .slice Ab nb cb] 26)
 refine ⟨rfl, by simp, fun i hi => ?_⟩
 match i, hi with
 | 0, _ => exact ⟨pa, Aa, na, ca, xa, pb, Ab, nb, cb, xb, World.cell?_alloc_at _ _ _ _ rfl, World.cell?_alloc_at _ _ _ _ rfl, World.cell?_alloc_at _ _ _ _ rfl, World.cell?_alloc_at _ _ _ _ rfl, ha.below hb, da, hn.1, hb0.below hb, db, hn.2, rfl⟩

theorem six_bounds {m : Int} (h : -128 ≤ m ∧ m ≤ 127) : -5 ≤ wrap64 (m.tmod 6) ∧ wrap64 (m.tmod 6) ≤ 5 := by
 have h1 : -6 < m.tmod 6 ∧ m.tmod 6 < 6 := by
  rcases Int.le_total 0 m with h | h
  ·rw [Int.tmod_eq_emod_of_nonneg h]; omega
  ·have e : m.tmod 6 = -((-m) % 6) := by rw [← Int.tmod_eq_emod_of_nonneg (by omega : 0 ≤ -m), Int.neg_tmod, Int.neg_neg]
   rw [e]; omega
 unfold wrap64
 omega

theorem own1 {w : World} {base : Nat} {v : Value} {x y : Int} {L : Nat} (h : OwnRats w base v [(x, y)] L) :
  ∃ b cap g0 K0 l0 f0 s0 E0 r0 t0, v = .slice (some ⟨b, 0, none⟩) 1 cap ∧ b < w.heap.size ∧ (w.cell? ⟨b, 0, none⟩ = some (.bool g0) ∧ w.cell? ⟨b, 1, none⟩ = some (.slice K0 l0 f0) ∧ w.cell? ⟨b, 2, none⟩ = some (.bool s0) ∧ w.cell? ⟨b, 3, none⟩ = some (.slice E0 r0 t0)) ∧
   Rat w (.agg #[.bool g0, .slice K0 l0 f0, .bool s0, .slice E0 r0 t0]) x y L := by
 obtain ⟨b, cap, g0, K0, l0, f0, s0, E0, r0, t0, rfl, hb, hlt, a0, a1, a2, a3, V0⟩ := h.get (i := 0) (by simp)
 exact ⟨b, cap, g0, K0, l0, f0, s0, E0, r0, t0, rfl, hlt, ⟨a0, a1, a2, a3⟩, V0⟩

set_option maxRecDepth 100000 in
set_option maxHeartbeats 8000000 in
theorem rpowers_any (pa pb : Bool) (Aa Ab : Option Addr) (na ca nb cb : Nat) (xa xb : List Int) (m n M : Int) (w : World)
  (ha : Row .u32 w Aa na ca xa) (da : Dig xa) (hb0 : Row .u32 w Ab nb cb xb) (db : Dig xb) (hm : -128 ≤ m ∧ m ≤ 127) (hn0 : -128 ≤ n ∧ n ≤ 127) (hM : MCell M w) :
  Calls Tryz.prog 10 #[.agg #[.bool pa, .slice Aa na ca, .bool pb, .slice Ab nb cb], .int .i8 m, .int .i8 n] w fun e w' => e = .returned (.bool true) ∧ Below w.heap.size w w' := by
 have hw := below_alloc w (.cells #[.bool pa, .slice Aa na ca, .bool pb, .slice Ab nb cb] 26)
 have F0 := Fx4.new w (.bool pa) (.slice Aa na ca) (.bool pb) (.slice Ab nb cb) 26
 obtain ⟨W0, hW0⟩ : ∃ W0, w.alloc (.cells #[.bool pa, .slice Aa na ca, .bool pb, .slice Ab nb cb] 26) = W0 := ⟨_, rfl⟩
 rw [hW0] at hw F0
 have B0 := Lib.hid F0
 have HM := Lib.hid (MCell.below hM hw)
 have HA := Lib.hid (ha.below hw)
 have HB := Lib.hid (hb0.below hw)
 have DA := Lib.hid da
 have DB := Lib.hid db
 have HI := Lib.hid hm
 have HJ := Lib.hid hn0
 clear F0 hM ha hb0 da db hm hn0
 go_enter Tryz.func10, Tryz.ntmps10
 go_upto_region 1 with fail
 clear hW0
 obtain ⟨c00, c01, c02, c03, f00, f01, f02, f03, s0⟩ := B0.out
 go_wp2_with fail
 refine (shortQ_any _ 1 [(na, nb)] 3 _ (lensQ1 _ rfl pa pb Aa Ab na nb ca cb) (by omega)).mono ?_
 rintro e w1 ⟨rfl, hb⟩
 replace hb := (below_alloc W0 (.cells #[.bool pa, .slice Aa na ca, .bool pb, .slice Ab nb cb] 26)).trans (hb.mono (by simp))
 clear c00 c01 c02 c03 f00 f01 f02 f03 s0
 replace B0 := Lib.hid (B0.out.below hb)
 replace HM := Lib.hid (HM.out.below hb)
 replace HA := Lib.hid (HA.out.below hb)
 replace HB := Lib.hid (HB.out.below hb)
 replace hw := hw.trans (hb.mono hw.size)
 clear hb
 cases ht : anyLong [(na, nb)] 3 with
 | true =>
  go_wp2_with fail
  refine (awake_m _ M HM.out).mono ?_
  rintro e wz ⟨rfl, hb⟩
  go_wp2
  go_ret
  exact ⟨rfl, hw.trans (hb.mono hw.size)⟩
 | false =>
  have HN := Lib.hid (show na ≤ 3 ∧ nb ≤ 3 by simp [anyLong, tooLong] at ht; omega)
  clear ht
  obtain ⟨c00, c01, c02, c03, f00, f01, f02, f03, s0⟩ := B0.out
  go_wp2_with fail
  refine (ofList_any _ 1 3 [(ofN (withSign pa (val xa)) (withSign pb (val xb)), ofD (withSign pa (val xa)) (withSign pb (val xb)))] _ (givenQ1 _ rfl pa pb HA.out HB.out DA.out DB.out HN.out) (by omega) (by omega)).mono ?_
  rintro e w3 ⟨⟨v, rfl, hv⟩, hb⟩
  replace hb := (below_alloc w1 (.cells #[.bool pa, .slice Aa na ca, .bool pb, .slice Ab nb cb] 26)).trans (hb.mono (by simp))
  obtain ⟨x, hx⟩ : ∃ x, ofN (withSign pa (val xa)) (withSign pb (val xb)) = x := ⟨_, rfl⟩
  obtain ⟨y, hy⟩ : ∃ y, ofD (withSign pa (val xa)) (withSign pb (val xb)) = y := ⟨_, rfl⟩
  rw [hx, hy] at hv
  clear hx hy
  clear c00 c01 c02 c03 f00 f01 f02 f03 s0
  clear HA
  clear HB
  replace B0 := Lib.hid (B0.out.below hb)
  replace HM := Lib.hid (HM.out.below hb)
  replace hw := hw.trans (hb.mono hw.size)
  clear hb
  clear HN DA DB
  clear B0
  obtain ⟨jb, cap, g0, K0, l0, f0, s0, E0, r0, t0, rfl, hjb, ⟨k0, k1, k2, k3⟩, hr⟩ := own1 hv
  clear hv
  have V7 := Lib.hid hr
  clear hr
  have hX := below_alloc w3 (.cells #[.bool g0, .slice K0 l0 f0, .bool s0, .slice E0 r0 t0] 38)
  replace HM := Lib.hid (HM.out.below hX)
  replace V7 := Lib.hid (V7.out.below hX)
  replace hw := hw.trans (hX.mono hw.size)
  have B7 := Lib.hid (Fx4.new w3 (.bool g0) (.slice K0 l0 f0) (.bool s0) (.slice E0 r0 t0) 38)
  skip
  clear hX
  go_upto_region 4 with fail
  clear k0 k1 k2 k3 hjb
  generalize w3.alloc (.cells #[.bool g0, .slice K0 l0 f0, .bool s0, .slice E0 r0 t0] 38) = W7 at *
  generalize w3.heap.size = k7 at *
  obtain ⟨c70, c71, c72, c73, f70, f71, f72, f73, s7⟩ := B7.out
  go_wp2_with fail
  refine (Mul_sq _ _ x y 7 _ V7.out V7.out (by decide) (by decide)).mono ?_
  rintro e w4 ⟨⟨g1, A1, n1, o1, e1, E1, m1, d1, rfl, hz⟩, hb⟩
  clear c70 c71 c72 c73 f70 f71 f72 f73 s7
  replace B7 := Lib.hid (B7.out.below hb)
  replace HM := Lib.hid (HM.out.below hb)
  replace V7 := Lib.hid (V7.out.below hb)
  replace hw := hw.trans (hb.mono hw.size)
  have T1 := Lib.hid hz
  clear hb hz
  go_wp2_with fail
  refine (Root_sq _ x y 18 _ T1.out V7.out.d0 (by decide) (by decide)).mono ?_
  rintro e w5 ⟨⟨g8, A8, n8, o8, e8, E8, m8, d8, rfl, hz⟩, hb⟩
  clear T1
  replace B7 := Lib.hid (B7.out.below hb)
  replace HM := Lib.hid (HM.out.below hb)
  replace V7 := Lib.hid (V7.out.below hb)
  replace hw := hw.trans (hb.mono hw.size)
  have V8 := Lib.hid hz
  clear hb hz
  have hX := below_alloc w5 (.cells #[.bool g8, .slice A8 n8 o8, .bool e8, .slice E8 m8 d8] 38)
  replace B7 := Lib.hid (B7.out.below hX)
  replace HM := Lib.hid (HM.out.below hX)
  replace V7 := Lib.hid (V7.out.below hX)
  replace V8 := Lib.hid (V8.out.below hX)
  replace hw := hw.trans (hX.mono hw.size)
  have B8 := Lib.hid (Fx4.new w5 (.bool g8) (.slice A8 n8 o8) (.bool e8) (.slice E8 m8 d8) 38)
  skip
  clear hX
  go_upto_region 5 with fail
  generalize w5.alloc (.cells #[.bool g8, .slice A8 n8 o8, .bool e8, .slice E8 m8 d8] 38) = W8 at *
  generalize w5.heap.size = k8 at *
  have HT := Lib.hid (fun (w' : World) (hb : Below W8.heap.size W8 w') => (show w'.cell? ⟨k7, 0, none⟩ = some (.bool g0) ∧ w'.cell? ⟨k7, 1, none⟩ = some (.slice K0 l0 f0) ∧ w'.cell? ⟨k7, 2, none⟩ = some (.bool s0) ∧ w'.cell? ⟨k7, 3, none⟩ = some (.slice E0 r0 t0) ∧ w'.cell? ⟨k8, 0, none⟩ = some (.bool g8) ∧ w'.cell? ⟨k8, 1, none⟩ = some (.slice A8 n8 o8) ∧ w'.cell? ⟨k8, 2, none⟩ = some (.bool e8) ∧ w'.cell? ⟨k8, 3, none⟩ = some (.slice E8 m8 d8) from ⟨(B7.out.below hb).c0, (B7.out.below hb).c1, (B7.out.below hb).c2, (B7.out.below hb).c3, (B8.out.below hb).c0, (B8.out.below hb).c1, (B8.out.below hb).c2, (B8.out.below hb).c3⟩))
  have hB := (Below.refl W8.heap.size W8).drew
  replace HM := Lib.hid (HM.out.below hB)
  replace V7 := Lib.hid (V7.out.below hB)
  replace V8 := Lib.hid (V8.out.below hB)
  refine wp_region_held_drew (S := fun w' => w'.cell? ⟨k7, 0, none⟩ = some (.bool g0) ∧ w'.cell? ⟨k7, 1, none⟩ = some (.slice K0 l0 f0) ∧ w'.cell? ⟨k7, 2, none⟩ = some (.bool s0) ∧ w'.cell? ⟨k7, 3, none⟩ = some (.slice E0 r0 t0) ∧ w'.cell? ⟨k8, 0, none⟩ = some (.bool g8) ∧ w'.cell? ⟨k8, 1, none⟩ = some (.slice A8 n8 o8) ∧ w'.cell? ⟨k8, 2, none⟩ = some (.bool e8) ∧ w'.cell? ⟨k8, 3, none⟩ = some (.slice E8 m8 d8)) (by kernel_rfl) (HT.out _ hB) (fun hHeldn => ?_)
  clear hHeldn
  generalize W8.drew = wr0 at *
  refine wpAnyH_taken (i := 0) (d := some 34) (v := ?_) rfl rfl (by kernel_rfl) (by kernel_rfl) (by kernel_rfl) (fun _ _ _ h => h) (Or.inl ⟨by rfl, ?_⟩) (by first | assumption | exact HT.out _ hB) ?_
  rotate_left 1
  ·(intro w hSw; (try dsimp only at hSw); go_simp; try with_reducible rfl)
  try simp only [Act.put, sTA, sCZ, sCS]
  refine wpAnyH_taken (i := 1) (d := some 35) (v := ?_) rfl rfl (by kernel_rfl) (by kernel_rfl) (by kernel_rfl) (fun _ _ _ h => h) (Or.inl ⟨by rfl, ?_⟩) (by first | assumption | exact HT.out _ hB) ?_
  rotate_left 1
  ·(intro w hSw; (try dsimp only at hSw); go_simp; try with_reducible rfl)
  try simp only [Act.put, sTA, sCZ, sCS]
  refine wpAnyH_taken (i := 2) (d := some 36) (v := ?_) rfl rfl (by kernel_rfl) (by kernel_rfl) (by kernel_rfl) (fun _ _ _ h => h) (Or.inl ⟨by rfl, ?_⟩) (by first | assumption | exact HT.out _ hB) ?_
  rotate_left 1
  ·(intro w hSw; (try dsimp only at hSw); go_simp; try with_reducible rfl)
  try simp only [Act.put, sTA, sCZ, sCS]
  refine wpAnyH_taken (i := 3) (d := some 37) (v := ?_) rfl rfl (by kernel_rfl) (by kernel_rfl) (by kernel_rfl) (fun _ _ _ h => h) (Or.inl ⟨by rfl, ?_⟩) (by first | assumption | exact HT.out _ hB) ?_
  rotate_left 1
  ·(intro w hSw; (try dsimp only at hSw); go_simp; try with_reducible rfl)
  try simp only [Act.put, sTA, sCZ, sCS]
  refine wpAnyH_taken (i := 4) (d := some 38) (v := ?_) rfl rfl (by kernel_rfl) (by kernel_rfl) (by kernel_rfl) (fun _ _ _ h => h) (Or.inl ⟨by rfl, ?_⟩) (by first | assumption | exact HT.out _ hB) ?_
  rotate_left 1
  ·(intro w hSw; (try dsimp only at hSw); go_simp; try with_reducible rfl)
  try simp only [Act.put, sTA, sCZ, sCS]
  refine wpAnyH_ready (rs := [5]) (by kernel_rfl) (by simp) ?_
  refine AllReadyH.cons rfl (fun K hK => ?_) AllReadyH.nil
  (try simp only [gEA]); (try simp only [gES]); (try simp only [gEZ])
  go_simp
  (go_at_call 38; refine (Abs_any _ x y 7 _ V7.out (by decide)).mono ?_; rintro e wc5 ⟨⟨ga, Aa5, na5, oa, ea, Ea, ma, dda, rfl, hz⟩, hb⟩)
  replace HM := Lib.hid (HM.out.below hb)
  replace V7 := Lib.hid (V7.out.below hb)
  replace V8 := Lib.hid (V8.out.below hb)
  replace hB := Below.trans hB (hb.mono hB.size)
  have T2 := Lib.hid hz
  refine hK.out _ _ (HT.out _ hB) (fun hHeldn => ?_)
  clear hK K hHeldn
  try simp only [Act.put, sTA, sCZ, sCS]
  clear hb hz
  refine wpAnyH_ready (rs := [6]) (by kernel_rfl) (by simp) ?_
  refine AllReadyH.cons rfl (fun K hK => ?_) AllReadyH.nil
  (try simp only [gEA]); (try simp only [gES]); (try simp only [gEZ])
  go_simp
  (go_at_call 61; refine (same_v_yes _ _ (absI x) y (absI x) y 19 _ V8.out.v (T2.out.mono (by decide)).v (by decide) rfl).mono ?_; rintro e wc6 ⟨rfl, hb⟩)
  replace HM := Lib.hid (HM.out.below hb)
  replace V7 := Lib.hid (V7.out.below hb)
  replace V8 := Lib.hid (V8.out.below hb)
  replace T2 := Lib.hid (T2.out.below hb)
  replace hB := Below.trans hB (hb.mono hB.size)
  clear T2
  refine hK.out _ _ (HT.out _ hB) (fun hHeldn => ?_)
  clear hK K hHeldn
  try simp only [Act.put, sTA, sCZ, sCS]
  clear hb
  refine wpAnyH_taken (i := 7) (d := some 41) (v := ?_) rfl rfl (by kernel_rfl) (by kernel_rfl) (by kernel_rfl) (fun _ _ _ h => h) (Or.inl ⟨by rfl, ?_⟩) (by first | assumption | exact HT.out _ hB) ?_
  rotate_left 1
  ·(intro w hSw; (try dsimp only at hSw); go_simp; try with_reducible rfl)
  try simp only [Act.put, sTA, sCZ, sCS]
  refine wpAnyH_taken (i := 8) (d := some 42) (v := ?_) rfl rfl (by kernel_rfl) (by kernel_rfl) (by kernel_rfl) (fun _ _ _ h => h) (Or.inl ⟨by rfl, ?_⟩) (by first | assumption | exact HT.out _ hB) ?_
  rotate_left 1
  ·(intro w hSw; (try dsimp only at hSw); go_simp; try with_reducible rfl)
  try simp only [Act.put, sTA, sCZ, sCS]
  refine wpAnyH_done (by kernel_rfl) ?_ _
  replace B7 := Lib.hid (B7.out.below hB)
  replace B8 := Lib.hid (B8.out.below hB)
  replace hw := hw.trans (hB.mono hw.size)
  go_upto_region 7 with fail
  clear B8
  clear V8
  obtain ⟨c70, c71, c72, c73, f70, f71, f72, f73, s7⟩ := B7.out
  go_wp2_with fail
  refine (Sign_any _ x y 7 _ V7.out).mono ?_
  rintro e w6 ⟨rfl, hb⟩
  clear c70 c71 c72 c73 f70 f71 f72 f73 s7
  replace B7 := Lib.hid (B7.out.below hb)
  replace HM := Lib.hid (HM.out.below hb)
  replace V7 := Lib.hid (V7.out.below hb)
  replace hw := hw.trans (hb.mono hw.size)
  clear hb
  by_cases hx : x = 0
  ·skip
   have hcm : cmpI x 0 = 0 := cmpI_eq hx
   rw [hcm]
   clear hcm hx
   go_wp2_with fail
   refine (awake_m _ M HM.out).mono ?_
   rintro e wz ⟨rfl, hb⟩
   go_wp2
   go_ret
   exact ⟨rfl, hw.trans (hb.mono hw.size)⟩
  ·skip
   have hcm : (cmpI x 0 == 0) = false := cmp_ne hx
   have HX := Lib.hid hx
   clear hx
   go_upto_region 10 with fail
   clear hcm
   obtain ⟨i, hi⟩ : ∃ i, wrap64 (m.tmod 6) = i := ⟨_, rfl⟩
   obtain ⟨k, hk⟩ : ∃ k, wrap64 (n.tmod 6) = k := ⟨_, rfl⟩
   have HI5 := Lib.hid (show -5 ≤ i ∧ i ≤ 5 by rw [← hi]; exact six_bounds HI.out)
   have HK5 := Lib.hid (show -5 ≤ k ∧ k ≤ 5 by rw [← hk]; exact six_bounds HJ.out)
   rw [hi, hk]
   clear hi hk HI HJ
   obtain ⟨s, hs⟩ : ∃ s, i + k = s := ⟨_, rfl⟩
   have hws : IntKind.i64.wrap (i + k) = s := by rw [IntKind.wrap_i64]; have := HI5.out; have := HK5.out; omega
   have hws2 : wrap64 (i + k) = s := by unfold wrap64; have := HI5.out; have := HK5.out; omega
   have HS := Lib.hid hs
   clear hs
   obtain ⟨c70, c71, c72, c73, f70, f71, f72, f73, s7⟩ := B7.out
   go_wp2_with fail
   refine (Power_nz _ x y i 7 _ V7.out (by decide) (by decide) HX.out (by have := HI5.out; omega) (by have := HI5.out; omega)).mono ?_
   rintro e w12 ⟨⟨g12, A12, n12, o12, e12, E12, m12, d12, rfl, hz⟩, hb⟩
   clear c70 c71 c72 c73 f70 f71 f72 f73 s7
   replace B7 := Lib.hid (B7.out.below hb)
   replace HM := Lib.hid (HM.out.below hb)
   replace V7 := Lib.hid (V7.out.below hb)
   replace hw := hw.trans (hb.mono hw.size)
   have V12 := Lib.hid hz
   clear hb hz
   have hX := below_alloc w12 (.cells #[.bool g12, .slice A12 n12 o12, .bool e12, .slice E12 m12 d12] 38)
   replace B7 := Lib.hid (B7.out.below hX)
   replace HM := Lib.hid (HM.out.below hX)
   replace V7 := Lib.hid (V7.out.below hX)
   replace V12 := Lib.hid (V12.out.below hX)
   replace hw := hw.trans (hX.mono hw.size)
   have B12 := Lib.hid (Fx4.new w12 (.bool g12) (.slice A12 n12 o12) (.bool e12) (.slice E12 m12 d12) 38)
   skip
   clear hX
   go_upto_region 11 with fail
   generalize w12.alloc (.cells #[.bool g12, .slice A12 n12 o12, .bool e12, .slice E12 m12 d12] 38) = W12 at *
   generalize w12.heap.size = k12 at *
   obtain ⟨c70, c71, c72, c73, f70, f71, f72, f73, s7⟩ := B7.out
   go_wp2_with fail
   refine (Power_nz _ x y k 7 _ V7.out (by decide) (by decide) HX.out (by have := HK5.out; omega) (by have := HK5.out; omega)).mono ?_
   rintro e w13 ⟨⟨g13, A13, n13, o13, e13, E13, m13, d13, rfl, hz⟩, hb⟩
   clear c70 c71 c72 c73 f70 f71 f72 f73 s7
   replace B7 := Lib.hid (B7.out.below hb)
   replace B12 := Lib.hid (B12.out.below hb)
   replace HM := Lib.hid (HM.out.below hb)
   replace V7 := Lib.hid (V7.out.below hb)
   replace V12 := Lib.hid (V12.out.below hb)
   replace hw := hw.trans (hb.mono hw.size)
   have V13 := Lib.hid hz
   clear hb hz
   have hX := below_alloc w13 (.cells #[.bool g13, .slice A13 n13 o13, .bool e13, .slice E13 m13 d13] 38)
   replace B7 := Lib.hid (B7.out.below hX)
   replace B12 := Lib.hid (B12.out.below hX)
   replace HM := Lib.hid (HM.out.below hX)
   replace V7 := Lib.hid (V7.out.below hX)
   replace V12 := Lib.hid (V12.out.below hX)
   replace V13 := Lib.hid (V13.out.below hX)
   replace hw := hw.trans (hX.mono hw.size)
   have B13 := Lib.hid (Fx4.new w13 (.bool g13) (.slice A13 n13 o13) (.bool e13) (.slice E13 m13 d13) 38)
   skip
   clear hX
   go_upto_region 12 with fail
   generalize w13.alloc (.cells #[.bool g13, .slice A13 n13 o13, .bool e13, .slice E13 m13 d13] 38) = W13 at *
   generalize w13.heap.size = k13 at *
   obtain ⟨c70, c71, c72, c73, f70, f71, f72, f73, s7⟩ := B7.out
   go_wp2_with fail
   refine (Power_nz _ x y s 7 _ V7.out (by decide) (by decide) HX.out (by have := HI5.out; have := HK5.out; have := HS.out; omega) (by have := HI5.out; have := HK5.out; have := HS.out; omega)).mono ?_
   rintro e w15 ⟨⟨g15, A15, n15, o15, e15, E15, m15, d15, rfl, hz⟩, hb⟩
   clear c70 c71 c72 c73 f70 f71 f72 f73 s7
   replace B7 := Lib.hid (B7.out.below hb)
   replace B12 := Lib.hid (B12.out.below hb)
   replace B13 := Lib.hid (B13.out.below hb)
   replace HM := Lib.hid (HM.out.below hb)
   replace V7 := Lib.hid (V7.out.below hb)
   replace V12 := Lib.hid (V12.out.below hb)
   replace V13 := Lib.hid (V13.out.below hb)
   replace hw := hw.trans (hb.mono hw.size)
   have V15 := Lib.hid hz
   clear hb hz
   have hX := below_alloc w15 (.cells #[.bool g15, .slice A15 n15 o15, .bool e15, .slice E15 m15 d15] 38)
   replace B7 := Lib.hid (B7.out.below hX)
   replace B12 := Lib.hid (B12.out.below hX)
   replace B13 := Lib.hid (B13.out.below hX)
   replace HM := Lib.hid (HM.out.below hX)
   replace V7 := Lib.hid (V7.out.below hX)
   replace V12 := Lib.hid (V12.out.below hX)
   replace V13 := Lib.hid (V13.out.below hX)
   replace V15 := Lib.hid (V15.out.below hX)
   replace hw := hw.trans (hX.mono hw.size)
   have B15 := Lib.hid (Fx4.new w15 (.bool g15) (.slice A15 n15 o15) (.bool e15) (.slice E15 m15 d15) 38)
   skip
   clear hX
   go_upto_region 13 with fail
   generalize w15.alloc (.cells #[.bool g15, .slice A15 n15 o15, .bool e15, .slice E15 m15 d15] 38) = W15 at *
   generalize w15.heap.size = k15 at *
   clear B7
   have hmx : ∀ w0 : World, Sem.run Tryz.prog (Builtin.max_ #[39, 39, 39] 39 #[Value.int IntKind.i64 0, Value.int IntKind.i64 0, Value.int IntKind.i64 0]) w0 = Result.ok (Value.int IntKind.i64 0) w0 := fun _ => by kernel_rfl
   have hlaw := pow_law x y i k
   rw [HS.out] at hlaw
   have HL := Lib.hid hlaw
   clear hlaw hws hws2
   have HT := Lib.hid (fun (w' : World) (hb : Below W15.heap.size W15 w') => (show w'.cell? ⟨k12, 0, none⟩ = some (.bool g12) ∧ w'.cell? ⟨k12, 1, none⟩ = some (.slice A12 n12 o12) ∧ w'.cell? ⟨k12, 2, none⟩ = some (.bool e12) ∧ w'.cell? ⟨k12, 3, none⟩ = some (.slice E12 m12 d12) ∧ w'.cell? ⟨k13, 0, none⟩ = some (.bool g13) ∧ w'.cell? ⟨k13, 1, none⟩ = some (.slice A13 n13 o13) ∧ w'.cell? ⟨k13, 2, none⟩ = some (.bool e13) ∧ w'.cell? ⟨k13, 3, none⟩ = some (.slice E13 m13 d13) ∧ w'.cell? ⟨k15, 0, none⟩ = some (.bool g15) ∧ w'.cell? ⟨k15, 1, none⟩ = some (.slice A15 n15 o15) ∧ w'.cell? ⟨k15, 2, none⟩ = some (.bool e15) ∧ w'.cell? ⟨k15, 3, none⟩ = some (.slice E15 m15 d15) from ⟨(B12.out.below hb).c0, (B12.out.below hb).c1, (B12.out.below hb).c2, (B12.out.below hb).c3, (B13.out.below hb).c0, (B13.out.below hb).c1, (B13.out.below hb).c2, (B13.out.below hb).c3, (B15.out.below hb).c0, (B15.out.below hb).c1, (B15.out.below hb).c2, (B15.out.below hb).c3⟩))
   have hB := (Below.refl W15.heap.size W15).drew
   replace HM := Lib.hid (HM.out.below hB)
   replace V7 := Lib.hid (V7.out.below hB)
   replace V12 := Lib.hid (V12.out.below hB)
   replace V13 := Lib.hid (V13.out.below hB)
   replace V15 := Lib.hid (V15.out.below hB)
   refine wp_region_held_drew (S := fun w' => w'.cell? ⟨k12, 0, none⟩ = some (.bool g12) ∧ w'.cell? ⟨k12, 1, none⟩ = some (.slice A12 n12 o12) ∧ w'.cell? ⟨k12, 2, none⟩ = some (.bool e12) ∧ w'.cell? ⟨k12, 3, none⟩ = some (.slice E12 m12 d12) ∧ w'.cell? ⟨k13, 0, none⟩ = some (.bool g13) ∧ w'.cell? ⟨k13, 1, none⟩ = some (.slice A13 n13 o13) ∧ w'.cell? ⟨k13, 2, none⟩ = some (.bool e13) ∧ w'.cell? ⟨k13, 3, none⟩ = some (.slice E13 m13 d13) ∧ w'.cell? ⟨k15, 0, none⟩ = some (.bool g15) ∧ w'.cell? ⟨k15, 1, none⟩ = some (.slice A15 n15 o15) ∧ w'.cell? ⟨k15, 2, none⟩ = some (.bool e15) ∧ w'.cell? ⟨k15, 3, none⟩ = some (.slice E15 m15 d15)) (by kernel_rfl) (HT.out _ hB) (fun hHeldn => ?_)
   clear hHeldn
   generalize W15.drew = wr0 at *
   refine wpAnyH_taken (i := 0) (d := some 73) (v := ?_) rfl rfl (by kernel_rfl) (by kernel_rfl) (by kernel_rfl) (fun _ _ _ h => h) (Or.inl ⟨by rfl, ?_⟩) (by first | assumption | exact HT.out _ hB) ?_
   rotate_left 1
   ·(intro w hSw; (try dsimp only at hSw); go_simp; try with_reducible rfl)
   try simp only [Act.put, sTA, sCZ, sCS]
   refine wpAnyH_taken (i := 1) (d := some 74) (v := ?_) rfl rfl (by kernel_rfl) (by kernel_rfl) (by kernel_rfl) (fun _ _ _ h => h) (Or.inl ⟨by rfl, ?_⟩) (by first | assumption | exact HT.out _ hB) ?_
   rotate_left 1
   ·(intro w hSw; (try dsimp only at hSw); go_simp; try with_reducible rfl)
   try simp only [Act.put, sTA, sCZ, sCS]
   refine wpAnyH_taken (i := 2) (d := some 75) (v := ?_) rfl rfl (by kernel_rfl) (by kernel_rfl) (by kernel_rfl) (fun _ _ _ h => h) (Or.inl ⟨by rfl, ?_⟩) (by first | assumption | exact HT.out _ hB) ?_
   rotate_left 1
   ·(intro w hSw; (try dsimp only at hSw); go_simp; try with_reducible rfl)
   try simp only [Act.put, sTA, sCZ, sCS]
   refine wpAnyH_ready (rs := [3]) (by kernel_rfl) (by simp) ?_
   refine AllReadyH.cons rfl (fun K hK => ?_) AllReadyH.nil
   (try simp only [gEA]); (try simp only [gES]); (try simp only [gEZ])
   go_simp
   have hb := Below.refl wr0.heap.size wr0
   replace HM := Lib.hid (HM.out.below hb)
   replace V7 := Lib.hid (V7.out.below hb)
   replace V12 := Lib.hid (V12.out.below hb)
   replace V13 := Lib.hid (V13.out.below hb)
   replace V15 := Lib.hid (V15.out.below hb)
   replace hB := Below.trans hB (hb.mono hB.size)
   refine hK.out _ _ (HT.out _ hB) (fun hHeldn => ?_)
   clear hK K hHeldn
   try simp only [Act.put, sTA, sCZ, sCS]
   clear hb
   refine wpAnyH_taken (i := 4) (d := some 77) (v := ?_) rfl rfl (by kernel_rfl) (by kernel_rfl) (by kernel_rfl) (fun _ _ _ h => h) (Or.inl ⟨by rfl, ?_⟩) (by first | assumption | exact HT.out _ hB) ?_
   rotate_left 1
   ·(intro w hSw; (try dsimp only at hSw); go_simp; try with_reducible rfl)
   try simp only [Act.put, sTA, sCZ, sCS]
   refine wpAnyH_taken (i := 5) (d := some 78) (v := ?_) rfl rfl (by kernel_rfl) (by kernel_rfl) (by kernel_rfl) (fun _ _ _ h => h) (Or.inl ⟨by rfl, ?_⟩) (by first | assumption | exact HT.out _ hB) ?_
   rotate_left 1
   ·(intro w hSw; (try dsimp only at hSw); go_simp; try with_reducible rfl)
   try simp only [Act.put, sTA, sCZ, sCS]
   refine wpAnyH_taken (i := 6) (d := some 79) (v := ?_) rfl rfl (by kernel_rfl) (by kernel_rfl) (by kernel_rfl) (fun _ _ _ h => h) (Or.inl ⟨by rfl, ?_⟩) (by first | assumption | exact HT.out _ hB) ?_
   rotate_left 1
   ·(intro w hSw; (try dsimp only at hSw); go_simp; try with_reducible rfl)
   try simp only [Act.put, sTA, sCZ, sCS]
   refine wpAnyH_taken (i := 7) (d := some 80) (v := ?_) rfl rfl (by kernel_rfl) (by kernel_rfl) (by kernel_rfl) (fun _ _ _ h => h) (Or.inl ⟨by rfl, ?_⟩) (by first | assumption | exact HT.out _ hB) ?_
   rotate_left 1
   ·(intro w hSw; (try dsimp only at hSw); go_simp; try with_reducible rfl)
   try simp only [Act.put, sTA, sCZ, sCS]
   refine wpAnyH_taken (i := 9) (d := some 82) (v := ?_) rfl rfl (by kernel_rfl) (by kernel_rfl) (by kernel_rfl) (fun _ _ _ h => h) (Or.inl ⟨by rfl, ?_⟩) (by first | assumption | exact HT.out _ hB) ?_
   rotate_left 1
   ·(intro w hSw; (try dsimp only at hSw); go_simp; try with_reducible rfl)
   try simp only [Act.put, sTA, sCZ, sCS]
   refine wpAnyH_ready (rs := [8]) (by kernel_rfl) (by simp) ?_
   refine AllReadyH.cons rfl (fun K hK => ?_) AllReadyH.nil
   (try simp only [gEA]); (try simp only [gES]); (try simp only [gEZ])
   go_simp
   (go_at_call 44; refine (mul_v _ _ (pN x y i) (pD x y i) (pN x y k) (pD x y k) 200 _ V12.out.v V13.out.v (by decide) (by decide)).mono ?_; rintro e wc8 ⟨⟨gb, Ab5, nb5, ob, eb, Eb, mb, db5, rfl, hz⟩, hb⟩)
   replace HM := Lib.hid (HM.out.below hb)
   replace V7 := Lib.hid (V7.out.below hb)
   replace V12 := Lib.hid (V12.out.below hb)
   replace V13 := Lib.hid (V13.out.below hb)
   replace V15 := Lib.hid (V15.out.below hb)
   replace hB := Below.trans hB (hb.mono hB.size)
   have T2 := Lib.hid hz
   refine hK.out _ _ (HT.out _ hB) (fun hHeldn => ?_)
   clear hK K hHeldn
   try simp only [Act.put, sTA, sCZ, sCS]
   clear hb hz
   refine wpAnyH_ready (rs := [10]) (by kernel_rfl) (by simp) ?_
   refine AllReadyH.cons rfl (fun K hK => ?_) AllReadyH.nil
   (try simp only [gEA]); (try simp only [gES]); (try simp only [gEZ])
   go_simp
   (go_at_call 61; refine (same_v_yes _ _ (pN x y i * pN x y k) (pD x y i * pD x y k) (pN x y s) (pD x y s) 405 _ T2.out (V15.out.mono (by decide)).v (by decide) HL.out).mono ?_; rintro e wc10 ⟨rfl, hb⟩)
   replace HM := Lib.hid (HM.out.below hb)
   replace V7 := Lib.hid (V7.out.below hb)
   replace V12 := Lib.hid (V12.out.below hb)
   replace V13 := Lib.hid (V13.out.below hb)
   replace V15 := Lib.hid (V15.out.below hb)
   replace T2 := Lib.hid (T2.out.below hb)
   replace hB := Below.trans hB (hb.mono hB.size)
   clear T2
   refine hK.out _ _ (HT.out _ hB) (fun hHeldn => ?_)
   clear hK K hHeldn
   try simp only [Act.put, sTA, sCZ, sCS]
   clear hb
   refine wpAnyH_taken (i := 11) (d := some 84) (v := ?_) rfl rfl (by kernel_rfl) (by kernel_rfl) (by kernel_rfl) (fun _ _ _ h => h) (Or.inl ⟨by rfl, ?_⟩) (by first | assumption | exact HT.out _ hB) ?_
   rotate_left 1
   ·(intro w hSw; (try dsimp only at hSw); go_simp; try with_reducible rfl)
   try simp only [Act.put, sTA, sCZ, sCS]
   refine wpAnyH_taken (i := 12) (d := some 85) (v := ?_) rfl rfl (by kernel_rfl) (by kernel_rfl) (by kernel_rfl) (fun _ _ _ h => h) (Or.inl ⟨by rfl, ?_⟩) (by first | assumption | exact HT.out _ hB) ?_
   rotate_left 1
   ·(intro w hSw; (try dsimp only at hSw); go_simp; try with_reducible rfl)
   try simp only [Act.put, sTA, sCZ, sCS]
   refine wpAnyH_ready (rs := [13]) (by kernel_rfl) (by simp) ?_
   refine AllReadyH.cons rfl (fun K hK => ?_) AllReadyH.nil
   (try simp only [gEA]); (try simp only [gES]); (try simp only [gEZ])
   go_simp
   (go_at_call 14; refine (awake_m _ M HM.out).mono ?_; rintro e wc13 ⟨rfl, hb⟩)
   replace HM := Lib.hid (HM.out.below hb)
   replace V7 := Lib.hid (V7.out.below hb)
   replace V12 := Lib.hid (V12.out.below hb)
   replace V13 := Lib.hid (V13.out.below hb)
   replace V15 := Lib.hid (V15.out.below hb)
   replace hB := Below.trans hB (hb.mono hB.size)
   refine hK.out _ _ (HT.out _ hB) (fun hHeldn => ?_)
   clear hK K hHeldn
   try simp only [Act.put, sTA, sCZ, sCS]
   clear hb
   refine wpAnyH_taken (i := 14) (d := some 87) (v := ?_) rfl rfl (by kernel_rfl) (by kernel_rfl) (by kernel_rfl) (fun _ _ _ h => h) (Or.inl ⟨by rfl, ?_⟩) (by first | assumption | exact HT.out _ hB) ?_
   rotate_left 1
   ·(intro w hSw; (try dsimp only at hSw); go_simp; try with_reducible rfl)
   try simp only [Act.put, sTA, sCZ, sCS]
   refine wpAnyH_taken (i := 15) (d := some 6) (v := ?_) rfl rfl (by kernel_rfl) (by kernel_rfl) (by kernel_rfl) (fun _ _ _ h => h) (Or.inl ⟨by rfl, ?_⟩) (by first | assumption | exact HT.out _ hB) ?_
   rotate_left 1
   ·(intro w hSw; (try dsimp only at hSw); go_simp; try with_reducible rfl)
   try simp only [Act.put, sTA, sCZ, sCS]
   refine wpAnyH_done (by kernel_rfl) ?_ _
   replace B12 := Lib.hid (B12.out.below hB)
   replace B13 := Lib.hid (B13.out.below hB)
   replace B15 := Lib.hid (B15.out.below hB)
   replace hw := hw.trans (hB.mono hw.size)
   go_wp2
   go_ret
   exact ⟨rfl, hw⟩

end Go.Proofs.YtbajnceoolkckaaGreat
