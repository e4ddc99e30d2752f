/- IntegerDivides: the walk. -/
import Derived.Test.YtoanomgdkkbbmaaActs0
import Derived.Test.YtoanomgdkkbbmaaMadeKit
namespace Go.Proofs.Ytoanomgdkkbbmaa
open Go.RowKit LM

/-- A box that holds an integer, and may be written. -/
def IFx (w : World) (b : Nat) (z : Int) (L : Nat) : Prop := ∃ g A n c, Fx w b (.bool g) (.slice A n c) ∧ Ival w (.agg #[.bool g, .slice A n c]) z L

def ThreeFx (W0 : World) (x y z : Int) (L : Nat) (u v t : Value) (wx : World) : Prop :=
  ∃ a b c : Nat, u = .pointer (some ⟨a, 0, none⟩) ∧ v = .pointer (some ⟨b, 0, none⟩) ∧ t = .pointer (some ⟨c, 0, none⟩) ∧ IFx wx a x L ∧ IFx wx b y L ∧ IFx wx c z L ∧ Below W0.heap.size W0 wx

theorem cmp_ne {x : Int} (h : x ≠ 0) : (cmpI x 0 == 0) = false := by
  rcases Int.lt_or_gt_of_ne h with h | h
  · rw [cmpI_lt h]; decide
  · rw [cmpI_gt h]; decide

theorem abs_tmod {x y : Int} (hy : y ≠ 0) : (if x.tmod y < 0 then -(x.tmod y) else x.tmod y) < (if y < 0 then -y else y) := by
  have h1 := Int.natAbs_tmod x y
  have h2 : x.natAbs % y.natAbs < y.natAbs := Nat.mod_lt _ (by omega)
  rw [← h1] at h2
  generalize x.tmod y = r at *
  split <;> split <;> omega

theorem sign_tmod {x y : Int} (h : x.tmod y ≠ 0) : cmpI (x.tmod y) 0 = cmpI x 0 := by
  rcases Int.lt_trichotomy x 0 with hx | hx | hx
  · have h1 : (-x).tmod y = -(x.tmod y) := Int.neg_tmod _ _
    have h2 : 0 ≤ (-x).tmod y := Int.tmod_nonneg _ (by omega)
    rw [cmpI_lt hx, cmpI_lt (by omega)]
  · subst hx; simp at h
  · have h2 : 0 ≤ x.tmod y := Int.tmod_nonneg _ (by omega)
    rw [cmpI_gt hx, cmpI_gt (by omega)]

theorem gcd_pos {x y : Int} (hy : y ≠ 0) : 0 < (Int.gcd x y : Int) := by
  have := Int.gcd_pos_of_ne_zero_right x hy
  omega

theorem gcd_scale (x y z : Int) : (Int.gcd (x * z) (y * z) : Int) = (Int.gcd x y : Int) * (if z < 0 then -z else z) := by
  rw [Int.gcd_mul_right, Int.natCast_mul]
  congr 1
  split <;> omega

set_option maxRecDepth 100000 in
set_option maxHeartbeats 80000000 in
theorem divides_any (p0 p1 p2 : Bool) (A0 A1 A2 : Option Addr) (n0 c0 n1 c1 n2 c2 : Nat) (xs0 xs1 xs2 : List Int) (w : World) (h0 : Row .u32 w A0 n0 c0 xs0) (d0 : Dig xs0) (h1 : Row .u32 w A1 n1 c1 xs1) (d1 : Dig xs1) (h2 : Row .u32 w A2 n2 c2 xs2) (d2 : Dig xs2) :
    Calls Try.prog 11 #[.agg #[.bool p0, .slice A0 n0 c0], .agg #[.bool p1, .slice A1 n1 c1], .agg #[.bool p2, .slice A2 n2 c2]] w fun e w' => e = .returned (.bool true) ∧ Below w.heap.size w w' := by
  have hW := below_boxed2 w (.cells #[.bool p0, .slice A0 n0 c0] 24) (.cells #[.bool p1, .slice A1 n1 c1] 24) (.cells #[.bool p2, .slice A2 n2 c2] 24)
  have HG0 := Lib.hid (fun w1 (hb : Below w.heap.size w w1) (b0 : n0 ≤ 6) (b1 : n1 ≤ 6) (b2 : n2 ≤ 6) => given3 (p0 := p0) (p1 := p1) (p2 := p2) h0 h1 h2 d0 d1 d2 b0 b1 b2 hb rfl)
  clear h0 h1 h2 d0 d1 d2
  have ba := Lib.hid (((Fx.new w (.bool p0) (.slice A0 n0 c0) 24).below (below_alloc _ (.cells #[.bool p1, .slice A1 n1 c1] 24))).below (below_alloc _ (.cells #[.bool p2, .slice A2 n2 c2] 24)))
  have bb := Lib.hid ((Fx.new2 w p0 p1 (.slice A0 n0 c0) (.slice A1 n1 c1) 24 24).below (below_alloc _ (.cells #[.bool p2, .slice A2 n2 c2] 24)))
  have bc := Lib.hid (show Fx (((w.alloc (.cells #[.bool p0, .slice A0 n0 c0] 24)).alloc (.cells #[.bool p1, .slice A1 n1 c1] 24)).alloc (.cells #[.bool p2, .slice A2 n2 c2] 24)) (w.heap.size + 1 + 1) (.bool p2) (.slice A2 n2 c2) from fx_at (by simp))
  go_enter Try.func11, Try.ntmps11
  go_wp2_with fail
  refine (short_any _ 3 [n0, n1, n2] 6 _ (lens3 _ (by simp) p0 p1 p2 A0 A1 A2 n0 c0 n1 c1 n2 c2) (by omega)).mono ?_
  rintro e w1 ⟨rfl, hb⟩
  have hk := (below_alloc (((w.alloc (.cells #[.bool p0, .slice A0 n0 c0] 24)).alloc (.cells #[.bool p1, .slice A1 n1 c1] 24)).alloc (.cells #[.bool p2, .slice A2 n2 c2] 24)) (.cells #[.bool p0, .slice A0 n0 c0, .bool p1, .slice A1 n1 c1, .bool p2, .slice A2 n2 c2] 24)).trans (hb.mono (by simp))
  have hw := hW.trans (hk.mono hW.size)
  replace ba := Lib.hid (ba.out.below hk)
  replace bb := Lib.hid (bb.out.below hk)
  replace bc := Lib.hid (bc.out.below hk)
  clear hk hb hW
  cases ht : tooLong [n0, n1, n2] 6 with
  | true =>
    go_wp2_with fail
    refine (awake_any _).mono ?_
    rintro e wz ⟨rfl, hb⟩
    go_wp2
    go_ret
    exact ⟨rfl, hw.trans (hb.mono hw.size)⟩
  | false =>
    have hn : n0 ≤ 6 ∧ n1 ≤ 6 ∧ n2 ≤ 6 := by simp [tooLong] at ht; omega
    clear ht
    have HGV := Lib.hid (HG0.out w1 hw hn.1 hn.2.1 hn.2.2)
    clear HG0
    obtain ⟨cxa, cxb, -, -, -⟩ := ba.out
    obtain ⟨cya, cyb, -, -, -⟩ := bb.out
    obtain ⟨cza, czb, -, -, -⟩ := bc.out
    go_wp2_with fail
    refine (made_any _ 3 6 _ _ HGV.out (by omega) (by omega)).mono ?_
    rintro e w3 ⟨v, vs, rfl, hints, hb⟩
    obtain ⟨x, hx⟩ : ∃ x, withSign p0 (val xs0) = x := ⟨_, rfl⟩
    obtain ⟨y, hy⟩ : ∃ y, withSign p1 (val xs1) = y := ⟨_, rfl⟩
    obtain ⟨z, hz⟩ : ∃ z, withSign p2 (val xs2) = z := ⟨_, rfl⟩
    rw [hx, hy, hz] at hints
    obtain ⟨g, cc, q0, B0, m0, e0, q1, B1, m1, e1, q2, B2, m2, e2, rfl, hg1, ⟨k0, k1, k2, k3, k4, k5⟩, hvx, hvy, hvz⟩ := ints3 hints
    have hb2 := (below_alloc w1 (.cells #[.bool p0, .slice A0 n0 c0, .bool p1, .slice A1 n1 c1, .bool p2, .slice A2 n2 c2] 24)).trans (hb.mono (by simp))
    replace hw := hw.trans (hb2.mono hw.size)
    have TX := Lib.hid hvx
    have TY := Lib.hid hvy
    have TZ := Lib.hid hvz
    clear cxa cxb cya cyb cza czb HGV hints hx hy hz ba bb bc hb hb2 hvx hvy hvz hn
    have HW3 := Lib.hid hw
    clear hw
    go_upto_region 4 with fail
    go_cut [8, 9, 10] (fun v8 v9 v10 wx => ThreeFx w3 x y z 6 v8 v9 v10 wx)
    case first =>
      have HT := Lib.hid (fun (w' : World) (hb : Below w3.heap.size w3 w') => (show w'.cell? ⟨g, 0, none⟩ = some (.bool q0) ∧ w'.cell? ⟨g, 1, none⟩ = some (.slice B0 m0 e0) ∧ w'.cell? ⟨g, 2, none⟩ = some (.bool q1) ∧ w'.cell? ⟨g, 3, none⟩ = some (.slice B1 m1 e1) ∧ w'.cell? ⟨g, 4, none⟩ = some (.bool q2) ∧ w'.cell? ⟨g, 5, none⟩ = some (.slice B2 m2 e2) ∧ Below w3.heap.size w3 w' from ⟨(hb.cell (p := ⟨g, 0, none⟩) hg1).trans k0, (hb.cell (p := ⟨g, 1, none⟩) hg1).trans k1, (hb.cell (p := ⟨g, 2, none⟩) hg1).trans k2, (hb.cell (p := ⟨g, 3, none⟩) hg1).trans k3, (hb.cell (p := ⟨g, 4, none⟩) hg1).trans k4, (hb.cell (p := ⟨g, 5, none⟩) hg1).trans k5, hb⟩))
      have hB := (Below.refl w3.heap.size w3).drew
      replace TX := Lib.hid (TX.out.below hB)
      replace TY := Lib.hid (TY.out.below hB)
      replace TZ := Lib.hid (TZ.out.below hB)
      refine wp_region_held_drew (S := fun w' => w'.cell? ⟨g, 0, none⟩ = some (.bool q0) ∧ w'.cell? ⟨g, 1, none⟩ = some (.slice B0 m0 e0) ∧ w'.cell? ⟨g, 2, none⟩ = some (.bool q1) ∧ w'.cell? ⟨g, 3, none⟩ = some (.slice B1 m1 e1) ∧ w'.cell? ⟨g, 4, none⟩ = some (.bool q2) ∧ w'.cell? ⟨g, 5, none⟩ = some (.slice B2 m2 e2) ∧ Below w3.heap.size w3 w') (by kernel_rfl) (HT.out _ hB) (fun hHeldn => ?_)
      clear hHeldn
      generalize w3.drew = wr0 at *
      refine wpAnyH_taken (i := 0) (d := some 41) (v := ?_) rfl rfl (by kernel_rfl) (by kernel_rfl) (by kernel_rfl) (fun _ _ _ h => h) (Or.inl ⟨by rfl, ?_⟩) (by first | assumption | exact HT.out _ hB) ?_
      rotate_left 1
      · (intro w hSw; (try dsimp only at hSw); go_simp; try with_reducible rfl)
      try simp only [Act.put, List.setIfInBounds_toArray, List.set_cons_zero, List.set_cons_succ]
      refine wpAnyH_taken (i := 3) (d := some 44) (v := ?_) rfl rfl (by kernel_rfl) (by kernel_rfl) (by kernel_rfl) (fun _ _ _ h => h) (Or.inl ⟨by rfl, ?_⟩) (by first | assumption | exact HT.out _ hB) ?_
      rotate_left 1
      · (intro w hSw; (try dsimp only at hSw); go_simp; try with_reducible rfl)
      try simp only [Act.put, List.setIfInBounds_toArray, List.set_cons_zero, List.set_cons_succ]
      refine wpAnyH_taken (i := 6) (d := some 47) (v := ?_) rfl rfl (by kernel_rfl) (by kernel_rfl) (by kernel_rfl) (fun _ _ _ h => h) (Or.inl ⟨by rfl, ?_⟩) (by first | assumption | exact HT.out _ hB) ?_
      rotate_left 1
      · (intro w hSw; (try dsimp only at hSw); go_simp; try with_reducible rfl)
      try simp only [Act.put, List.setIfInBounds_toArray, List.set_cons_zero, List.set_cons_succ]
      refine wpAnyH_taken (i := 1) (d := some 42) (v := ?_) rfl rfl (by kernel_rfl) (by kernel_rfl) (by kernel_rfl) (fun _ _ _ h => h) (Or.inl ⟨by rfl, ?_⟩) (by first | assumption | exact HT.out _ hB) ?_
      rotate_left 1
      · (intro w hSw; (try dsimp only at hSw); go_simp; try with_reducible rfl)
      try simp only [Act.put, List.setIfInBounds_toArray, List.set_cons_zero, List.set_cons_succ]
      refine wpAnyH_taken (i := 4) (d := some 45) (v := ?_) rfl rfl (by kernel_rfl) (by kernel_rfl) (by kernel_rfl) (fun _ _ _ h => h) (Or.inl ⟨by rfl, ?_⟩) (by first | assumption | exact HT.out _ hB) ?_
      rotate_left 1
      · (intro w hSw; (try dsimp only at hSw); go_simp; try with_reducible rfl)
      try simp only [Act.put, List.setIfInBounds_toArray, List.set_cons_zero, List.set_cons_succ]
      refine wpAnyH_taken (i := 7) (d := some 48) (v := ?_) rfl rfl (by kernel_rfl) (by kernel_rfl) (by kernel_rfl) (fun _ _ _ h => h) (Or.inl ⟨by rfl, ?_⟩) (by first | assumption | exact HT.out _ hB) ?_
      rotate_left 1
      · (intro w hSw; (try dsimp only at hSw); go_simp; try with_reducible rfl)
      try simp only [Act.put, List.setIfInBounds_toArray, List.set_cons_zero, List.set_cons_succ]
      refine wpAnyH_taken (i := 2) (d := some 43) (v := ?_) rfl rfl (by kernel_rfl) (by kernel_rfl) (by kernel_rfl) (fun _ _ _ h => h) (Or.inl ⟨by rfl, ?_⟩) (by first | assumption | exact HT.out _ hB) ?_
      rotate_left 1
      · (intro w hSw; (try dsimp only at hSw); go_simp; try with_reducible rfl)
      try simp only [Act.put, List.setIfInBounds_toArray, List.set_cons_zero, List.set_cons_succ]
      refine wpAnyH_taken (i := 5) (d := some 46) (v := ?_) rfl rfl (by kernel_rfl) (by kernel_rfl) (by kernel_rfl) (fun _ _ _ h => h) (Or.inl ⟨by rfl, ?_⟩) (by first | assumption | exact HT.out _ hB) ?_
      rotate_left 1
      · (intro w hSw; (try dsimp only at hSw); go_simp; try with_reducible rfl)
      try simp only [Act.put, List.setIfInBounds_toArray, List.set_cons_zero, List.set_cons_succ]
      refine wpAnyH_taken (i := 8) (d := some 49) (v := ?_) rfl rfl (by kernel_rfl) (by kernel_rfl) (by kernel_rfl) (fun _ _ _ h => h) (Or.inl ⟨by rfl, ?_⟩) (by first | assumption | exact HT.out _ hB) ?_
      rotate_left 1
      · (intro w hSw; (try dsimp only at hSw); go_simp; try with_reducible rfl)
      try simp only [Act.put, List.setIfInBounds_toArray, List.set_cons_zero, List.set_cons_succ]
      refine wpAnyH_ready (rs := [9, 10, 11]) (by kernel_rfl) (by simp) ?_
      refine AllReadyH.cons rfl (fun K hK => ?_) (AllReadyH.cons rfl (fun K hK => ?_) (AllReadyH.cons rfl (fun K hK => ?_) AllReadyH.nil))
      · (try simp only [List.getElem_toArray]); (try simp only [List.getElem_cons_succ]); (try simp only [List.getElem_cons_zero])
        go_simp
        have hbl := below_alloc wr0 (.cells #[.bool false, .slice none 0 0] 28)
        replace TX := Lib.hid (TX.out.below hbl)
        replace TY := Lib.hid (TY.out.below hbl)
        replace TZ := Lib.hid (TZ.out.below hbl)
        have F8 := Lib.hid (Fx.new wr0 (.bool false) (.slice none 0 0) 28)
        have hge8 := hB.size
        replace hB := hB.alloc hB.size (.cells #[.bool false, .slice none 0 0] 28)
        refine hK.out _ _ (HT.out _ hB) (fun hHeldn => ?_)
        clear hK K hHeldn
        try simp only [Act.put, List.setIfInBounds_toArray, List.set_cons_zero, List.set_cons_succ]
        clear hbl
        generalize wr0.alloc (.cells #[.bool false, .slice none 0 0] 28) = wa8 at *
        generalize wr0.heap.size = ba8 at *
        refine wpAnyH_ready (rs := [10, 11]) (by kernel_rfl) (by simp) ?_
        refine AllReadyH.cons rfl (fun K hK => ?_) (AllReadyH.cons rfl (fun K hK => ?_) AllReadyH.nil)
        · (try simp only [List.getElem_toArray]); (try simp only [List.getElem_cons_succ]); (try simp only [List.getElem_cons_zero])
          go_simp
          have hne89 := F8.out.2.2.2.2
          have hbl := below_alloc wa8 (.cells #[.bool false, .slice none 0 0] 28)
          replace F8 := Lib.hid (F8.out.below hbl)
          replace TX := Lib.hid (TX.out.below hbl)
          replace TY := Lib.hid (TY.out.below hbl)
          replace TZ := Lib.hid (TZ.out.below hbl)
          have F9 := Lib.hid (Fx.new wa8 (.bool false) (.slice none 0 0) 28)
          have hge9 := hB.size
          replace hB := hB.alloc hB.size (.cells #[.bool false, .slice none 0 0] 28)
          refine hK.out _ _ (HT.out _ hB) (fun hHeldn => ?_)
          clear hK K hHeldn
          try simp only [Act.put, List.setIfInBounds_toArray, List.set_cons_zero, List.set_cons_succ]
          clear hbl
          generalize wa8.alloc (.cells #[.bool false, .slice none 0 0] 28) = wa9 at *
          generalize wa8.heap.size = ba9 at *
          refine wpAnyH_ready (rs := [11]) (by kernel_rfl) (by simp) ?_
          refine AllReadyH.cons rfl (fun K hK => ?_) AllReadyH.nil
          (try simp only [List.getElem_toArray]); (try simp only [List.getElem_cons_succ]); (try simp only [List.getElem_cons_zero])
          go_simp
          have hne810 := F8.out.2.2.2.2
          have hne910 := F9.out.2.2.2.2
          have hbl := below_alloc wa9 (.cells #[.bool false, .slice none 0 0] 28)
          replace F8 := Lib.hid (F8.out.below hbl)
          replace F9 := Lib.hid (F9.out.below hbl)
          replace TX := Lib.hid (TX.out.below hbl)
          replace TY := Lib.hid (TY.out.below hbl)
          replace TZ := Lib.hid (TZ.out.below hbl)
          have F10 := Lib.hid (Fx.new wa9 (.bool false) (.slice none 0 0) 28)
          have hge10 := hB.size
          replace hB := hB.alloc hB.size (.cells #[.bool false, .slice none 0 0] 28)
          refine hK.out _ _ (HT.out _ hB) (fun hHeldn => ?_)
          clear hK K hHeldn
          try simp only [Act.put, List.setIfInBounds_toArray, List.set_cons_zero, List.set_cons_succ]
          clear hbl
          generalize wa9.alloc (.cells #[.bool false, .slice none 0 0] 28) = wa10 at *
          generalize wa9.heap.size = ba10 at *
          refine wpAnyH_ready (rs := [12]) (by kernel_rfl) (by simp) ?_
          refine AllReadyH.cons rfl (fun K hK => ?_) AllReadyH.nil
          (try simp only [List.getElem_toArray]); (try simp only [List.getElem_cons_succ]); (try simp only [List.getElem_cons_zero])
          obtain ⟨x0, x1, x2, x3, x4⟩ := F8.out
          go_simp
          have hBs := (hB.setCell (p := ⟨ba8, 0, none⟩) hge8 (.bool q0)).setCell (p := ⟨ba8, 1, none⟩) hge8 (.slice B0 m0 e0)
          replace TX := Lib.hid (TX.out.fx F8.out (.bool q0) (.slice B0 m0 e0))
          replace TY := Lib.hid (TY.out.fx F8.out (.bool q0) (.slice B0 m0 e0))
          replace TZ := Lib.hid (TZ.out.fx F8.out (.bool q0) (.slice B0 m0 e0))
          replace F9 := Lib.hid (F9.out.other (by omega : ba8 ≠ ba9) (.bool q0) (.slice B0 m0 e0))
          replace F10 := Lib.hid (F10.out.other (by omega : ba8 ≠ ba10) (.bool q0) (.slice B0 m0 e0))
          replace F8 := Lib.hid (F8.out.store (.bool q0) (.slice B0 m0 e0))
          clear x0 x1 x2 x3 x4 hB
          refine hK.out _ _ (HT.out _ hBs) (fun hHeldn => ?_)
          clear hK K hHeldn
          try simp only [Act.put, List.setIfInBounds_toArray, List.set_cons_zero, List.set_cons_succ]
          generalize (wa10.setCell ⟨ba8, 0, none⟩ (.bool q0)).setCell ⟨ba8, 1, none⟩ (.slice B0 m0 e0) = ws8 at *
          have hB := hBs
          clear hBs
          refine wpAnyH_ready (rs := [13]) (by kernel_rfl) (by simp) ?_
          refine AllReadyH.cons rfl (fun K hK => ?_) AllReadyH.nil
          (try simp only [List.getElem_toArray]); (try simp only [List.getElem_cons_succ]); (try simp only [List.getElem_cons_zero])
          obtain ⟨x0, x1, x2, x3, x4⟩ := F9.out
          go_simp
          have hBs := (hB.setCell (p := ⟨ba9, 0, none⟩) hge9 (.bool q1)).setCell (p := ⟨ba9, 1, none⟩) hge9 (.slice B1 m1 e1)
          replace TX := Lib.hid (TX.out.fx F9.out (.bool q1) (.slice B1 m1 e1))
          replace TY := Lib.hid (TY.out.fx F9.out (.bool q1) (.slice B1 m1 e1))
          replace TZ := Lib.hid (TZ.out.fx F9.out (.bool q1) (.slice B1 m1 e1))
          replace F8 := Lib.hid (F8.out.other (by omega : ba9 ≠ ba8) (.bool q1) (.slice B1 m1 e1))
          replace F10 := Lib.hid (F10.out.other (by omega : ba9 ≠ ba10) (.bool q1) (.slice B1 m1 e1))
          replace F9 := Lib.hid (F9.out.store (.bool q1) (.slice B1 m1 e1))
          clear x0 x1 x2 x3 x4 hB
          refine hK.out _ _ (HT.out _ hBs) (fun hHeldn => ?_)
          clear hK K hHeldn
          try simp only [Act.put, List.setIfInBounds_toArray, List.set_cons_zero, List.set_cons_succ]
          generalize (ws8.setCell ⟨ba9, 0, none⟩ (.bool q1)).setCell ⟨ba9, 1, none⟩ (.slice B1 m1 e1) = ws9 at *
          have hB := hBs
          clear hBs
          refine wpAnyH_ready (rs := [14]) (by kernel_rfl) (by simp) ?_
          refine AllReadyH.cons rfl (fun K hK => ?_) AllReadyH.nil
          (try simp only [List.getElem_toArray]); (try simp only [List.getElem_cons_succ]); (try simp only [List.getElem_cons_zero])
          obtain ⟨x0, x1, x2, x3, x4⟩ := F10.out
          go_simp
          have hBs := (hB.setCell (p := ⟨ba10, 0, none⟩) hge10 (.bool q2)).setCell (p := ⟨ba10, 1, none⟩) hge10 (.slice B2 m2 e2)
          replace TX := Lib.hid (TX.out.fx F10.out (.bool q2) (.slice B2 m2 e2))
          replace TY := Lib.hid (TY.out.fx F10.out (.bool q2) (.slice B2 m2 e2))
          replace TZ := Lib.hid (TZ.out.fx F10.out (.bool q2) (.slice B2 m2 e2))
          replace F8 := Lib.hid (F8.out.other (by omega : ba10 ≠ ba8) (.bool q2) (.slice B2 m2 e2))
          replace F9 := Lib.hid (F9.out.other (by omega : ba10 ≠ ba9) (.bool q2) (.slice B2 m2 e2))
          replace F10 := Lib.hid (F10.out.store (.bool q2) (.slice B2 m2 e2))
          clear x0 x1 x2 x3 x4 hB
          refine hK.out _ _ (HT.out _ hBs) (fun hHeldn => ?_)
          clear hK K hHeldn
          try simp only [Act.put, List.setIfInBounds_toArray, List.set_cons_zero, List.set_cons_succ]
          generalize (ws9.setCell ⟨ba10, 0, none⟩ (.bool q2)).setCell ⟨ba10, 1, none⟩ (.slice B2 m2 e2) = ws10 at *
          have hB := hBs
          clear hBs
          refine wpAnyH_done (by kernel_rfl) ?_ _
          go_wp2_with fail
          go_meet
          exact ⟨ba8, ba9, ba10, rfl, rfl, rfl, ⟨_, _, _, _, F8.out, TX.out⟩, ⟨_, _, _, _, F9.out, TY.out⟩, ⟨_, _, _, _, F10.out, TZ.out⟩, hB⟩
        · (try simp only [List.getElem_toArray]); (try simp only [List.getElem_cons_succ]); (try simp only [List.getElem_cons_zero])
          go_simp
          have hne810 := F8.out.2.2.2.2
          have hbl := below_alloc wa8 (.cells #[.bool false, .slice none 0 0] 28)
          replace F8 := Lib.hid (F8.out.below hbl)
          replace TX := Lib.hid (TX.out.below hbl)
          replace TY := Lib.hid (TY.out.below hbl)
          replace TZ := Lib.hid (TZ.out.below hbl)
          have F10 := Lib.hid (Fx.new wa8 (.bool false) (.slice none 0 0) 28)
          have hge10 := hB.size
          replace hB := hB.alloc hB.size (.cells #[.bool false, .slice none 0 0] 28)
          refine hK.out _ _ (HT.out _ hB) (fun hHeldn => ?_)
          clear hK K hHeldn
          try simp only [Act.put, List.setIfInBounds_toArray, List.set_cons_zero, List.set_cons_succ]
          clear hbl
          generalize wa8.alloc (.cells #[.bool false, .slice none 0 0] 28) = wa10 at *
          generalize wa8.heap.size = ba10 at *
          refine wpAnyH_ready (rs := [10]) (by kernel_rfl) (by simp) ?_
          refine AllReadyH.cons rfl (fun K hK => ?_) AllReadyH.nil
          (try simp only [List.getElem_toArray]); (try simp only [List.getElem_cons_succ]); (try simp only [List.getElem_cons_zero])
          go_simp
          have hne89 := F8.out.2.2.2.2
          have hne109 := F10.out.2.2.2.2
          have hbl := below_alloc wa10 (.cells #[.bool false, .slice none 0 0] 28)
          replace F8 := Lib.hid (F8.out.below hbl)
          replace F10 := Lib.hid (F10.out.below hbl)
          replace TX := Lib.hid (TX.out.below hbl)
          replace TY := Lib.hid (TY.out.below hbl)
          replace TZ := Lib.hid (TZ.out.below hbl)
          have F9 := Lib.hid (Fx.new wa10 (.bool false) (.slice none 0 0) 28)
          have hge9 := hB.size
          replace hB := hB.alloc hB.size (.cells #[.bool false, .slice none 0 0] 28)
          refine hK.out _ _ (HT.out _ hB) (fun hHeldn => ?_)
          clear hK K hHeldn
          try simp only [Act.put, List.setIfInBounds_toArray, List.set_cons_zero, List.set_cons_succ]
          clear hbl
          generalize wa10.alloc (.cells #[.bool false, .slice none 0 0] 28) = wa9 at *
          generalize wa10.heap.size = ba9 at *
          refine wpAnyH_ready (rs := [12]) (by kernel_rfl) (by simp) ?_
          refine AllReadyH.cons rfl (fun K hK => ?_) AllReadyH.nil
          (try simp only [List.getElem_toArray]); (try simp only [List.getElem_cons_succ]); (try simp only [List.getElem_cons_zero])
          obtain ⟨x0, x1, x2, x3, x4⟩ := F8.out
          go_simp
          have hBs := (hB.setCell (p := ⟨ba8, 0, none⟩) hge8 (.bool q0)).setCell (p := ⟨ba8, 1, none⟩) hge8 (.slice B0 m0 e0)
          replace TX := Lib.hid (TX.out.fx F8.out (.bool q0) (.slice B0 m0 e0))
          replace TY := Lib.hid (TY.out.fx F8.out (.bool q0) (.slice B0 m0 e0))
          replace TZ := Lib.hid (TZ.out.fx F8.out (.bool q0) (.slice B0 m0 e0))
          replace F10 := Lib.hid (F10.out.other (by omega : ba8 ≠ ba10) (.bool q0) (.slice B0 m0 e0))
          replace F9 := Lib.hid (F9.out.other (by omega : ba8 ≠ ba9) (.bool q0) (.slice B0 m0 e0))
          replace F8 := Lib.hid (F8.out.store (.bool q0) (.slice B0 m0 e0))
          clear x0 x1 x2 x3 x4 hB
          refine hK.out _ _ (HT.out _ hBs) (fun hHeldn => ?_)
          clear hK K hHeldn
          try simp only [Act.put, List.setIfInBounds_toArray, List.set_cons_zero, List.set_cons_succ]
          generalize (wa9.setCell ⟨ba8, 0, none⟩ (.bool q0)).setCell ⟨ba8, 1, none⟩ (.slice B0 m0 e0) = ws8 at *
          have hB := hBs
          clear hBs
          refine wpAnyH_ready (rs := [13]) (by kernel_rfl) (by simp) ?_
          refine AllReadyH.cons rfl (fun K hK => ?_) AllReadyH.nil
          (try simp only [List.getElem_toArray]); (try simp only [List.getElem_cons_succ]); (try simp only [List.getElem_cons_zero])
          obtain ⟨x0, x1, x2, x3, x4⟩ := F9.out
          go_simp
          have hBs := (hB.setCell (p := ⟨ba9, 0, none⟩) hge9 (.bool q1)).setCell (p := ⟨ba9, 1, none⟩) hge9 (.slice B1 m1 e1)
          replace TX := Lib.hid (TX.out.fx F9.out (.bool q1) (.slice B1 m1 e1))
          replace TY := Lib.hid (TY.out.fx F9.out (.bool q1) (.slice B1 m1 e1))
          replace TZ := Lib.hid (TZ.out.fx F9.out (.bool q1) (.slice B1 m1 e1))
          replace F8 := Lib.hid (F8.out.other (by omega : ba9 ≠ ba8) (.bool q1) (.slice B1 m1 e1))
          replace F10 := Lib.hid (F10.out.other (by omega : ba9 ≠ ba10) (.bool q1) (.slice B1 m1 e1))
          replace F9 := Lib.hid (F9.out.store (.bool q1) (.slice B1 m1 e1))
          clear x0 x1 x2 x3 x4 hB
          refine hK.out _ _ (HT.out _ hBs) (fun hHeldn => ?_)
          clear hK K hHeldn
          try simp only [Act.put, List.setIfInBounds_toArray, List.set_cons_zero, List.set_cons_succ]
          generalize (ws8.setCell ⟨ba9, 0, none⟩ (.bool q1)).setCell ⟨ba9, 1, none⟩ (.slice B1 m1 e1) = ws9 at *
          have hB := hBs
          clear hBs
          refine wpAnyH_ready (rs := [14]) (by kernel_rfl) (by simp) ?_
          refine AllReadyH.cons rfl (fun K hK => ?_) AllReadyH.nil
          (try simp only [List.getElem_toArray]); (try simp only [List.getElem_cons_succ]); (try simp only [List.getElem_cons_zero])
          obtain ⟨x0, x1, x2, x3, x4⟩ := F10.out
          go_simp
          have hBs := (hB.setCell (p := ⟨ba10, 0, none⟩) hge10 (.bool q2)).setCell (p := ⟨ba10, 1, none⟩) hge10 (.slice B2 m2 e2)
          replace TX := Lib.hid (TX.out.fx F10.out (.bool q2) (.slice B2 m2 e2))
          replace TY := Lib.hid (TY.out.fx F10.out (.bool q2) (.slice B2 m2 e2))
          replace TZ := Lib.hid (TZ.out.fx F10.out (.bool q2) (.slice B2 m2 e2))
          replace F8 := Lib.hid (F8.out.other (by omega : ba10 ≠ ba8) (.bool q2) (.slice B2 m2 e2))
          replace F9 := Lib.hid (F9.out.other (by omega : ba10 ≠ ba9) (.bool q2) (.slice B2 m2 e2))
          replace F10 := Lib.hid (F10.out.store (.bool q2) (.slice B2 m2 e2))
          clear x0 x1 x2 x3 x4 hB
          refine hK.out _ _ (HT.out _ hBs) (fun hHeldn => ?_)
          clear hK K hHeldn
          try simp only [Act.put, List.setIfInBounds_toArray, List.set_cons_zero, List.set_cons_succ]
          generalize (ws9.setCell ⟨ba10, 0, none⟩ (.bool q2)).setCell ⟨ba10, 1, none⟩ (.slice B2 m2 e2) = ws10 at *
          have hB := hBs
          clear hBs
          refine wpAnyH_done (by kernel_rfl) ?_ _
          go_wp2_with fail
          go_meet
          exact ⟨ba8, ba9, ba10, rfl, rfl, rfl, ⟨_, _, _, _, F8.out, TX.out⟩, ⟨_, _, _, _, F9.out, TY.out⟩, ⟨_, _, _, _, F10.out, TZ.out⟩, hB⟩
      · (try simp only [List.getElem_toArray]); (try simp only [List.getElem_cons_succ]); (try simp only [List.getElem_cons_zero])
        go_simp
        have hbl := below_alloc wr0 (.cells #[.bool false, .slice none 0 0] 28)
        replace TX := Lib.hid (TX.out.below hbl)
        replace TY := Lib.hid (TY.out.below hbl)
        replace TZ := Lib.hid (TZ.out.below hbl)
        have F9 := Lib.hid (Fx.new wr0 (.bool false) (.slice none 0 0) 28)
        have hge9 := hB.size
        replace hB := hB.alloc hB.size (.cells #[.bool false, .slice none 0 0] 28)
        refine hK.out _ _ (HT.out _ hB) (fun hHeldn => ?_)
        clear hK K hHeldn
        try simp only [Act.put, List.setIfInBounds_toArray, List.set_cons_zero, List.set_cons_succ]
        clear hbl
        generalize wr0.alloc (.cells #[.bool false, .slice none 0 0] 28) = wa9 at *
        generalize wr0.heap.size = ba9 at *
        refine wpAnyH_ready (rs := [9, 11]) (by kernel_rfl) (by simp) ?_
        refine AllReadyH.cons rfl (fun K hK => ?_) (AllReadyH.cons rfl (fun K hK => ?_) AllReadyH.nil)
        · (try simp only [List.getElem_toArray]); (try simp only [List.getElem_cons_succ]); (try simp only [List.getElem_cons_zero])
          go_simp
          have hne98 := F9.out.2.2.2.2
          have hbl := below_alloc wa9 (.cells #[.bool false, .slice none 0 0] 28)
          replace F9 := Lib.hid (F9.out.below hbl)
          replace TX := Lib.hid (TX.out.below hbl)
          replace TY := Lib.hid (TY.out.below hbl)
          replace TZ := Lib.hid (TZ.out.below hbl)
          have F8 := Lib.hid (Fx.new wa9 (.bool false) (.slice none 0 0) 28)
          have hge8 := hB.size
          replace hB := hB.alloc hB.size (.cells #[.bool false, .slice none 0 0] 28)
          refine hK.out _ _ (HT.out _ hB) (fun hHeldn => ?_)
          clear hK K hHeldn
          try simp only [Act.put, List.setIfInBounds_toArray, List.set_cons_zero, List.set_cons_succ]
          clear hbl
          generalize wa9.alloc (.cells #[.bool false, .slice none 0 0] 28) = wa8 at *
          generalize wa9.heap.size = ba8 at *
          refine wpAnyH_ready (rs := [11]) (by kernel_rfl) (by simp) ?_
          refine AllReadyH.cons rfl (fun K hK => ?_) AllReadyH.nil
          (try simp only [List.getElem_toArray]); (try simp only [List.getElem_cons_succ]); (try simp only [List.getElem_cons_zero])
          go_simp
          have hne910 := F9.out.2.2.2.2
          have hne810 := F8.out.2.2.2.2
          have hbl := below_alloc wa8 (.cells #[.bool false, .slice none 0 0] 28)
          replace F9 := Lib.hid (F9.out.below hbl)
          replace F8 := Lib.hid (F8.out.below hbl)
          replace TX := Lib.hid (TX.out.below hbl)
          replace TY := Lib.hid (TY.out.below hbl)
          replace TZ := Lib.hid (TZ.out.below hbl)
          have F10 := Lib.hid (Fx.new wa8 (.bool false) (.slice none 0 0) 28)
          have hge10 := hB.size
          replace hB := hB.alloc hB.size (.cells #[.bool false, .slice none 0 0] 28)
          refine hK.out _ _ (HT.out _ hB) (fun hHeldn => ?_)
          clear hK K hHeldn
          try simp only [Act.put, List.setIfInBounds_toArray, List.set_cons_zero, List.set_cons_succ]
          clear hbl
          generalize wa8.alloc (.cells #[.bool false, .slice none 0 0] 28) = wa10 at *
          generalize wa8.heap.size = ba10 at *
          refine wpAnyH_ready (rs := [12]) (by kernel_rfl) (by simp) ?_
          refine AllReadyH.cons rfl (fun K hK => ?_) AllReadyH.nil
          (try simp only [List.getElem_toArray]); (try simp only [List.getElem_cons_succ]); (try simp only [List.getElem_cons_zero])
          obtain ⟨x0, x1, x2, x3, x4⟩ := F8.out
          go_simp
          have hBs := (hB.setCell (p := ⟨ba8, 0, none⟩) hge8 (.bool q0)).setCell (p := ⟨ba8, 1, none⟩) hge8 (.slice B0 m0 e0)
          replace TX := Lib.hid (TX.out.fx F8.out (.bool q0) (.slice B0 m0 e0))
          replace TY := Lib.hid (TY.out.fx F8.out (.bool q0) (.slice B0 m0 e0))
          replace TZ := Lib.hid (TZ.out.fx F8.out (.bool q0) (.slice B0 m0 e0))
          replace F9 := Lib.hid (F9.out.other (by omega : ba8 ≠ ba9) (.bool q0) (.slice B0 m0 e0))
          replace F10 := Lib.hid (F10.out.other (by omega : ba8 ≠ ba10) (.bool q0) (.slice B0 m0 e0))
          replace F8 := Lib.hid (F8.out.store (.bool q0) (.slice B0 m0 e0))
          clear x0 x1 x2 x3 x4 hB
          refine hK.out _ _ (HT.out _ hBs) (fun hHeldn => ?_)
          clear hK K hHeldn
          try simp only [Act.put, List.setIfInBounds_toArray, List.set_cons_zero, List.set_cons_succ]
          generalize (wa10.setCell ⟨ba8, 0, none⟩ (.bool q0)).setCell ⟨ba8, 1, none⟩ (.slice B0 m0 e0) = ws8 at *
          have hB := hBs
          clear hBs
          refine wpAnyH_ready (rs := [13]) (by kernel_rfl) (by simp) ?_
          refine AllReadyH.cons rfl (fun K hK => ?_) AllReadyH.nil
          (try simp only [List.getElem_toArray]); (try simp only [List.getElem_cons_succ]); (try simp only [List.getElem_cons_zero])
          obtain ⟨x0, x1, x2, x3, x4⟩ := F9.out
          go_simp
          have hBs := (hB.setCell (p := ⟨ba9, 0, none⟩) hge9 (.bool q1)).setCell (p := ⟨ba9, 1, none⟩) hge9 (.slice B1 m1 e1)
          replace TX := Lib.hid (TX.out.fx F9.out (.bool q1) (.slice B1 m1 e1))
          replace TY := Lib.hid (TY.out.fx F9.out (.bool q1) (.slice B1 m1 e1))
          replace TZ := Lib.hid (TZ.out.fx F9.out (.bool q1) (.slice B1 m1 e1))
          replace F8 := Lib.hid (F8.out.other (by omega : ba9 ≠ ba8) (.bool q1) (.slice B1 m1 e1))
          replace F10 := Lib.hid (F10.out.other (by omega : ba9 ≠ ba10) (.bool q1) (.slice B1 m1 e1))
          replace F9 := Lib.hid (F9.out.store (.bool q1) (.slice B1 m1 e1))
          clear x0 x1 x2 x3 x4 hB
          refine hK.out _ _ (HT.out _ hBs) (fun hHeldn => ?_)
          clear hK K hHeldn
          try simp only [Act.put, List.setIfInBounds_toArray, List.set_cons_zero, List.set_cons_succ]
          generalize (ws8.setCell ⟨ba9, 0, none⟩ (.bool q1)).setCell ⟨ba9, 1, none⟩ (.slice B1 m1 e1) = ws9 at *
          have hB := hBs
          clear hBs
          refine wpAnyH_ready (rs := [14]) (by kernel_rfl) (by simp) ?_
          refine AllReadyH.cons rfl (fun K hK => ?_) AllReadyH.nil
          (try simp only [List.getElem_toArray]); (try simp only [List.getElem_cons_succ]); (try simp only [List.getElem_cons_zero])
          obtain ⟨x0, x1, x2, x3, x4⟩ := F10.out
          go_simp
          have hBs := (hB.setCell (p := ⟨ba10, 0, none⟩) hge10 (.bool q2)).setCell (p := ⟨ba10, 1, none⟩) hge10 (.slice B2 m2 e2)
          replace TX := Lib.hid (TX.out.fx F10.out (.bool q2) (.slice B2 m2 e2))
          replace TY := Lib.hid (TY.out.fx F10.out (.bool q2) (.slice B2 m2 e2))
          replace TZ := Lib.hid (TZ.out.fx F10.out (.bool q2) (.slice B2 m2 e2))
          replace F9 := Lib.hid (F9.out.other (by omega : ba10 ≠ ba9) (.bool q2) (.slice B2 m2 e2))
          replace F8 := Lib.hid (F8.out.other (by omega : ba10 ≠ ba8) (.bool q2) (.slice B2 m2 e2))
          replace F10 := Lib.hid (F10.out.store (.bool q2) (.slice B2 m2 e2))
          clear x0 x1 x2 x3 x4 hB
          refine hK.out _ _ (HT.out _ hBs) (fun hHeldn => ?_)
          clear hK K hHeldn
          try simp only [Act.put, List.setIfInBounds_toArray, List.set_cons_zero, List.set_cons_succ]
          generalize (ws9.setCell ⟨ba10, 0, none⟩ (.bool q2)).setCell ⟨ba10, 1, none⟩ (.slice B2 m2 e2) = ws10 at *
          have hB := hBs
          clear hBs
          refine wpAnyH_done (by kernel_rfl) ?_ _
          go_wp2_with fail
          go_meet
          exact ⟨ba8, ba9, ba10, rfl, rfl, rfl, ⟨_, _, _, _, F8.out, TX.out⟩, ⟨_, _, _, _, F9.out, TY.out⟩, ⟨_, _, _, _, F10.out, TZ.out⟩, hB⟩
        · (try simp only [List.getElem_toArray]); (try simp only [List.getElem_cons_succ]); (try simp only [List.getElem_cons_zero])
          go_simp
          have hne910 := F9.out.2.2.2.2
          have hbl := below_alloc wa9 (.cells #[.bool false, .slice none 0 0] 28)
          replace F9 := Lib.hid (F9.out.below hbl)
          replace TX := Lib.hid (TX.out.below hbl)
          replace TY := Lib.hid (TY.out.below hbl)
          replace TZ := Lib.hid (TZ.out.below hbl)
          have F10 := Lib.hid (Fx.new wa9 (.bool false) (.slice none 0 0) 28)
          have hge10 := hB.size
          replace hB := hB.alloc hB.size (.cells #[.bool false, .slice none 0 0] 28)
          refine hK.out _ _ (HT.out _ hB) (fun hHeldn => ?_)
          clear hK K hHeldn
          try simp only [Act.put, List.setIfInBounds_toArray, List.set_cons_zero, List.set_cons_succ]
          clear hbl
          generalize wa9.alloc (.cells #[.bool false, .slice none 0 0] 28) = wa10 at *
          generalize wa9.heap.size = ba10 at *
          refine wpAnyH_ready (rs := [9]) (by kernel_rfl) (by simp) ?_
          refine AllReadyH.cons rfl (fun K hK => ?_) AllReadyH.nil
          (try simp only [List.getElem_toArray]); (try simp only [List.getElem_cons_succ]); (try simp only [List.getElem_cons_zero])
          go_simp
          have hne98 := F9.out.2.2.2.2
          have hne108 := F10.out.2.2.2.2
          have hbl := below_alloc wa10 (.cells #[.bool false, .slice none 0 0] 28)
          replace F9 := Lib.hid (F9.out.below hbl)
          replace F10 := Lib.hid (F10.out.below hbl)
          replace TX := Lib.hid (TX.out.below hbl)
          replace TY := Lib.hid (TY.out.below hbl)
          replace TZ := Lib.hid (TZ.out.below hbl)
          have F8 := Lib.hid (Fx.new wa10 (.bool false) (.slice none 0 0) 28)
          have hge8 := hB.size
          replace hB := hB.alloc hB.size (.cells #[.bool false, .slice none 0 0] 28)
          refine hK.out _ _ (HT.out _ hB) (fun hHeldn => ?_)
          clear hK K hHeldn
          try simp only [Act.put, List.setIfInBounds_toArray, List.set_cons_zero, List.set_cons_succ]
          clear hbl
          generalize wa10.alloc (.cells #[.bool false, .slice none 0 0] 28) = wa8 at *
          generalize wa10.heap.size = ba8 at *
          refine wpAnyH_ready (rs := [12]) (by kernel_rfl) (by simp) ?_
          refine AllReadyH.cons rfl (fun K hK => ?_) AllReadyH.nil
          (try simp only [List.getElem_toArray]); (try simp only [List.getElem_cons_succ]); (try simp only [List.getElem_cons_zero])
          obtain ⟨x0, x1, x2, x3, x4⟩ := F8.out
          go_simp
          have hBs := (hB.setCell (p := ⟨ba8, 0, none⟩) hge8 (.bool q0)).setCell (p := ⟨ba8, 1, none⟩) hge8 (.slice B0 m0 e0)
          replace TX := Lib.hid (TX.out.fx F8.out (.bool q0) (.slice B0 m0 e0))
          replace TY := Lib.hid (TY.out.fx F8.out (.bool q0) (.slice B0 m0 e0))
          replace TZ := Lib.hid (TZ.out.fx F8.out (.bool q0) (.slice B0 m0 e0))
          replace F9 := Lib.hid (F9.out.other (by omega : ba8 ≠ ba9) (.bool q0) (.slice B0 m0 e0))
          replace F10 := Lib.hid (F10.out.other (by omega : ba8 ≠ ba10) (.bool q0) (.slice B0 m0 e0))
          replace F8 := Lib.hid (F8.out.store (.bool q0) (.slice B0 m0 e0))
          clear x0 x1 x2 x3 x4 hB
          refine hK.out _ _ (HT.out _ hBs) (fun hHeldn => ?_)
          clear hK K hHeldn
          try simp only [Act.put, List.setIfInBounds_toArray, List.set_cons_zero, List.set_cons_succ]
          generalize (wa8.setCell ⟨ba8, 0, none⟩ (.bool q0)).setCell ⟨ba8, 1, none⟩ (.slice B0 m0 e0) = ws8 at *
          have hB := hBs
          clear hBs
          refine wpAnyH_ready (rs := [13]) (by kernel_rfl) (by simp) ?_
          refine AllReadyH.cons rfl (fun K hK => ?_) AllReadyH.nil
          (try simp only [List.getElem_toArray]); (try simp only [List.getElem_cons_succ]); (try simp only [List.getElem_cons_zero])
          obtain ⟨x0, x1, x2, x3, x4⟩ := F9.out
          go_simp
          have hBs := (hB.setCell (p := ⟨ba9, 0, none⟩) hge9 (.bool q1)).setCell (p := ⟨ba9, 1, none⟩) hge9 (.slice B1 m1 e1)
          replace TX := Lib.hid (TX.out.fx F9.out (.bool q1) (.slice B1 m1 e1))
          replace TY := Lib.hid (TY.out.fx F9.out (.bool q1) (.slice B1 m1 e1))
          replace TZ := Lib.hid (TZ.out.fx F9.out (.bool q1) (.slice B1 m1 e1))
          replace F10 := Lib.hid (F10.out.other (by omega : ba9 ≠ ba10) (.bool q1) (.slice B1 m1 e1))
          replace F8 := Lib.hid (F8.out.other (by omega : ba9 ≠ ba8) (.bool q1) (.slice B1 m1 e1))
          replace F9 := Lib.hid (F9.out.store (.bool q1) (.slice B1 m1 e1))
          clear x0 x1 x2 x3 x4 hB
          refine hK.out _ _ (HT.out _ hBs) (fun hHeldn => ?_)
          clear hK K hHeldn
          try simp only [Act.put, List.setIfInBounds_toArray, List.set_cons_zero, List.set_cons_succ]
          generalize (ws8.setCell ⟨ba9, 0, none⟩ (.bool q1)).setCell ⟨ba9, 1, none⟩ (.slice B1 m1 e1) = ws9 at *
          have hB := hBs
          clear hBs
          refine wpAnyH_ready (rs := [14]) (by kernel_rfl) (by simp) ?_
          refine AllReadyH.cons rfl (fun K hK => ?_) AllReadyH.nil
          (try simp only [List.getElem_toArray]); (try simp only [List.getElem_cons_succ]); (try simp only [List.getElem_cons_zero])
          obtain ⟨x0, x1, x2, x3, x4⟩ := F10.out
          go_simp
          have hBs := (hB.setCell (p := ⟨ba10, 0, none⟩) hge10 (.bool q2)).setCell (p := ⟨ba10, 1, none⟩) hge10 (.slice B2 m2 e2)
          replace TX := Lib.hid (TX.out.fx F10.out (.bool q2) (.slice B2 m2 e2))
          replace TY := Lib.hid (TY.out.fx F10.out (.bool q2) (.slice B2 m2 e2))
          replace TZ := Lib.hid (TZ.out.fx F10.out (.bool q2) (.slice B2 m2 e2))
          replace F9 := Lib.hid (F9.out.other (by omega : ba10 ≠ ba9) (.bool q2) (.slice B2 m2 e2))
          replace F8 := Lib.hid (F8.out.other (by omega : ba10 ≠ ba8) (.bool q2) (.slice B2 m2 e2))
          replace F10 := Lib.hid (F10.out.store (.bool q2) (.slice B2 m2 e2))
          clear x0 x1 x2 x3 x4 hB
          refine hK.out _ _ (HT.out _ hBs) (fun hHeldn => ?_)
          clear hK K hHeldn
          try simp only [Act.put, List.setIfInBounds_toArray, List.set_cons_zero, List.set_cons_succ]
          generalize (ws9.setCell ⟨ba10, 0, none⟩ (.bool q2)).setCell ⟨ba10, 1, none⟩ (.slice B2 m2 e2) = ws10 at *
          have hB := hBs
          clear hBs
          refine wpAnyH_done (by kernel_rfl) ?_ _
          go_wp2_with fail
          go_meet
          exact ⟨ba8, ba9, ba10, rfl, rfl, rfl, ⟨_, _, _, _, F8.out, TX.out⟩, ⟨_, _, _, _, F9.out, TY.out⟩, ⟨_, _, _, _, F10.out, TZ.out⟩, hB⟩
      · (try simp only [List.getElem_toArray]); (try simp only [List.getElem_cons_succ]); (try simp only [List.getElem_cons_zero])
        go_simp
        have hbl := below_alloc wr0 (.cells #[.bool false, .slice none 0 0] 28)
        replace TX := Lib.hid (TX.out.below hbl)
        replace TY := Lib.hid (TY.out.below hbl)
        replace TZ := Lib.hid (TZ.out.below hbl)
        have F10 := Lib.hid (Fx.new wr0 (.bool false) (.slice none 0 0) 28)
        have hge10 := hB.size
        replace hB := hB.alloc hB.size (.cells #[.bool false, .slice none 0 0] 28)
        refine hK.out _ _ (HT.out _ hB) (fun hHeldn => ?_)
        clear hK K hHeldn
        try simp only [Act.put, List.setIfInBounds_toArray, List.set_cons_zero, List.set_cons_succ]
        clear hbl
        generalize wr0.alloc (.cells #[.bool false, .slice none 0 0] 28) = wa10 at *
        generalize wr0.heap.size = ba10 at *
        refine wpAnyH_ready (rs := [9, 10]) (by kernel_rfl) (by simp) ?_
        refine AllReadyH.cons rfl (fun K hK => ?_) (AllReadyH.cons rfl (fun K hK => ?_) AllReadyH.nil)
        · (try simp only [List.getElem_toArray]); (try simp only [List.getElem_cons_succ]); (try simp only [List.getElem_cons_zero])
          go_simp
          have hne108 := F10.out.2.2.2.2
          have hbl := below_alloc wa10 (.cells #[.bool false, .slice none 0 0] 28)
          replace F10 := Lib.hid (F10.out.below hbl)
          replace TX := Lib.hid (TX.out.below hbl)
          replace TY := Lib.hid (TY.out.below hbl)
          replace TZ := Lib.hid (TZ.out.below hbl)
          have F8 := Lib.hid (Fx.new wa10 (.bool false) (.slice none 0 0) 28)
          have hge8 := hB.size
          replace hB := hB.alloc hB.size (.cells #[.bool false, .slice none 0 0] 28)
          refine hK.out _ _ (HT.out _ hB) (fun hHeldn => ?_)
          clear hK K hHeldn
          try simp only [Act.put, List.setIfInBounds_toArray, List.set_cons_zero, List.set_cons_succ]
          clear hbl
          generalize wa10.alloc (.cells #[.bool false, .slice none 0 0] 28) = wa8 at *
          generalize wa10.heap.size = ba8 at *
          refine wpAnyH_ready (rs := [10]) (by kernel_rfl) (by simp) ?_
          refine AllReadyH.cons rfl (fun K hK => ?_) AllReadyH.nil
          (try simp only [List.getElem_toArray]); (try simp only [List.getElem_cons_succ]); (try simp only [List.getElem_cons_zero])
          go_simp
          have hne109 := F10.out.2.2.2.2
          have hne89 := F8.out.2.2.2.2
          have hbl := below_alloc wa8 (.cells #[.bool false, .slice none 0 0] 28)
          replace F10 := Lib.hid (F10.out.below hbl)
          replace F8 := Lib.hid (F8.out.below hbl)
          replace TX := Lib.hid (TX.out.below hbl)
          replace TY := Lib.hid (TY.out.below hbl)
          replace TZ := Lib.hid (TZ.out.below hbl)
          have F9 := Lib.hid (Fx.new wa8 (.bool false) (.slice none 0 0) 28)
          have hge9 := hB.size
          replace hB := hB.alloc hB.size (.cells #[.bool false, .slice none 0 0] 28)
          refine hK.out _ _ (HT.out _ hB) (fun hHeldn => ?_)
          clear hK K hHeldn
          try simp only [Act.put, List.setIfInBounds_toArray, List.set_cons_zero, List.set_cons_succ]
          clear hbl
          generalize wa8.alloc (.cells #[.bool false, .slice none 0 0] 28) = wa9 at *
          generalize wa8.heap.size = ba9 at *
          refine wpAnyH_ready (rs := [12]) (by kernel_rfl) (by simp) ?_
          refine AllReadyH.cons rfl (fun K hK => ?_) AllReadyH.nil
          (try simp only [List.getElem_toArray]); (try simp only [List.getElem_cons_succ]); (try simp only [List.getElem_cons_zero])
          obtain ⟨x0, x1, x2, x3, x4⟩ := F8.out
          go_simp
          have hBs := (hB.setCell (p := ⟨ba8, 0, none⟩) hge8 (.bool q0)).setCell (p := ⟨ba8, 1, none⟩) hge8 (.slice B0 m0 e0)
          replace TX := Lib.hid (TX.out.fx F8.out (.bool q0) (.slice B0 m0 e0))
          replace TY := Lib.hid (TY.out.fx F8.out (.bool q0) (.slice B0 m0 e0))
          replace TZ := Lib.hid (TZ.out.fx F8.out (.bool q0) (.slice B0 m0 e0))
          replace F10 := Lib.hid (F10.out.other (by omega : ba8 ≠ ba10) (.bool q0) (.slice B0 m0 e0))
          replace F9 := Lib.hid (F9.out.other (by omega : ba8 ≠ ba9) (.bool q0) (.slice B0 m0 e0))
          replace F8 := Lib.hid (F8.out.store (.bool q0) (.slice B0 m0 e0))
          clear x0 x1 x2 x3 x4 hB
          refine hK.out _ _ (HT.out _ hBs) (fun hHeldn => ?_)
          clear hK K hHeldn
          try simp only [Act.put, List.setIfInBounds_toArray, List.set_cons_zero, List.set_cons_succ]
          generalize (wa9.setCell ⟨ba8, 0, none⟩ (.bool q0)).setCell ⟨ba8, 1, none⟩ (.slice B0 m0 e0) = ws8 at *
          have hB := hBs
          clear hBs
          refine wpAnyH_ready (rs := [13]) (by kernel_rfl) (by simp) ?_
          refine AllReadyH.cons rfl (fun K hK => ?_) AllReadyH.nil
          (try simp only [List.getElem_toArray]); (try simp only [List.getElem_cons_succ]); (try simp only [List.getElem_cons_zero])
          obtain ⟨x0, x1, x2, x3, x4⟩ := F9.out
          go_simp
          have hBs := (hB.setCell (p := ⟨ba9, 0, none⟩) hge9 (.bool q1)).setCell (p := ⟨ba9, 1, none⟩) hge9 (.slice B1 m1 e1)
          replace TX := Lib.hid (TX.out.fx F9.out (.bool q1) (.slice B1 m1 e1))
          replace TY := Lib.hid (TY.out.fx F9.out (.bool q1) (.slice B1 m1 e1))
          replace TZ := Lib.hid (TZ.out.fx F9.out (.bool q1) (.slice B1 m1 e1))
          replace F10 := Lib.hid (F10.out.other (by omega : ba9 ≠ ba10) (.bool q1) (.slice B1 m1 e1))
          replace F8 := Lib.hid (F8.out.other (by omega : ba9 ≠ ba8) (.bool q1) (.slice B1 m1 e1))
          replace F9 := Lib.hid (F9.out.store (.bool q1) (.slice B1 m1 e1))
          clear x0 x1 x2 x3 x4 hB
          refine hK.out _ _ (HT.out _ hBs) (fun hHeldn => ?_)
          clear hK K hHeldn
          try simp only [Act.put, List.setIfInBounds_toArray, List.set_cons_zero, List.set_cons_succ]
          generalize (ws8.setCell ⟨ba9, 0, none⟩ (.bool q1)).setCell ⟨ba9, 1, none⟩ (.slice B1 m1 e1) = ws9 at *
          have hB := hBs
          clear hBs
          refine wpAnyH_ready (rs := [14]) (by kernel_rfl) (by simp) ?_
          refine AllReadyH.cons rfl (fun K hK => ?_) AllReadyH.nil
          (try simp only [List.getElem_toArray]); (try simp only [List.getElem_cons_succ]); (try simp only [List.getElem_cons_zero])
          obtain ⟨x0, x1, x2, x3, x4⟩ := F10.out
          go_simp
          have hBs := (hB.setCell (p := ⟨ba10, 0, none⟩) hge10 (.bool q2)).setCell (p := ⟨ba10, 1, none⟩) hge10 (.slice B2 m2 e2)
          replace TX := Lib.hid (TX.out.fx F10.out (.bool q2) (.slice B2 m2 e2))
          replace TY := Lib.hid (TY.out.fx F10.out (.bool q2) (.slice B2 m2 e2))
          replace TZ := Lib.hid (TZ.out.fx F10.out (.bool q2) (.slice B2 m2 e2))
          replace F8 := Lib.hid (F8.out.other (by omega : ba10 ≠ ba8) (.bool q2) (.slice B2 m2 e2))
          replace F9 := Lib.hid (F9.out.other (by omega : ba10 ≠ ba9) (.bool q2) (.slice B2 m2 e2))
          replace F10 := Lib.hid (F10.out.store (.bool q2) (.slice B2 m2 e2))
          clear x0 x1 x2 x3 x4 hB
          refine hK.out _ _ (HT.out _ hBs) (fun hHeldn => ?_)
          clear hK K hHeldn
          try simp only [Act.put, List.setIfInBounds_toArray, List.set_cons_zero, List.set_cons_succ]
          generalize (ws9.setCell ⟨ba10, 0, none⟩ (.bool q2)).setCell ⟨ba10, 1, none⟩ (.slice B2 m2 e2) = ws10 at *
          have hB := hBs
          clear hBs
          refine wpAnyH_done (by kernel_rfl) ?_ _
          go_wp2_with fail
          go_meet
          exact ⟨ba8, ba9, ba10, rfl, rfl, rfl, ⟨_, _, _, _, F8.out, TX.out⟩, ⟨_, _, _, _, F9.out, TY.out⟩, ⟨_, _, _, _, F10.out, TZ.out⟩, hB⟩
        · (try simp only [List.getElem_toArray]); (try simp only [List.getElem_cons_succ]); (try simp only [List.getElem_cons_zero])
          go_simp
          have hne109 := F10.out.2.2.2.2
          have hbl := below_alloc wa10 (.cells #[.bool false, .slice none 0 0] 28)
          replace F10 := Lib.hid (F10.out.below hbl)
          replace TX := Lib.hid (TX.out.below hbl)
          replace TY := Lib.hid (TY.out.below hbl)
          replace TZ := Lib.hid (TZ.out.below hbl)
          have F9 := Lib.hid (Fx.new wa10 (.bool false) (.slice none 0 0) 28)
          have hge9 := hB.size
          replace hB := hB.alloc hB.size (.cells #[.bool false, .slice none 0 0] 28)
          refine hK.out _ _ (HT.out _ hB) (fun hHeldn => ?_)
          clear hK K hHeldn
          try simp only [Act.put, List.setIfInBounds_toArray, List.set_cons_zero, List.set_cons_succ]
          clear hbl
          generalize wa10.alloc (.cells #[.bool false, .slice none 0 0] 28) = wa9 at *
          generalize wa10.heap.size = ba9 at *
          refine wpAnyH_ready (rs := [9]) (by kernel_rfl) (by simp) ?_
          refine AllReadyH.cons rfl (fun K hK => ?_) AllReadyH.nil
          (try simp only [List.getElem_toArray]); (try simp only [List.getElem_cons_succ]); (try simp only [List.getElem_cons_zero])
          go_simp
          have hne108 := F10.out.2.2.2.2
          have hne98 := F9.out.2.2.2.2
          have hbl := below_alloc wa9 (.cells #[.bool false, .slice none 0 0] 28)
          replace F10 := Lib.hid (F10.out.below hbl)
          replace F9 := Lib.hid (F9.out.below hbl)
          replace TX := Lib.hid (TX.out.below hbl)
          replace TY := Lib.hid (TY.out.below hbl)
          replace TZ := Lib.hid (TZ.out.below hbl)
          have F8 := Lib.hid (Fx.new wa9 (.bool false) (.slice none 0 0) 28)
          have hge8 := hB.size
          replace hB := hB.alloc hB.size (.cells #[.bool false, .slice none 0 0] 28)
          refine hK.out _ _ (HT.out _ hB) (fun hHeldn => ?_)
          clear hK K hHeldn
          try simp only [Act.put, List.setIfInBounds_toArray, List.set_cons_zero, List.set_cons_succ]
          clear hbl
          generalize wa9.alloc (.cells #[.bool false, .slice none 0 0] 28) = wa8 at *
          generalize wa9.heap.size = ba8 at *
          refine wpAnyH_ready (rs := [12]) (by kernel_rfl) (by simp) ?_
          refine AllReadyH.cons rfl (fun K hK => ?_) AllReadyH.nil
          (try simp only [List.getElem_toArray]); (try simp only [List.getElem_cons_succ]); (try simp only [List.getElem_cons_zero])
          obtain ⟨x0, x1, x2, x3, x4⟩ := F8.out
          go_simp
          have hBs := (hB.setCell (p := ⟨ba8, 0, none⟩) hge8 (.bool q0)).setCell (p := ⟨ba8, 1, none⟩) hge8 (.slice B0 m0 e0)
          replace TX := Lib.hid (TX.out.fx F8.out (.bool q0) (.slice B0 m0 e0))
          replace TY := Lib.hid (TY.out.fx F8.out (.bool q0) (.slice B0 m0 e0))
          replace TZ := Lib.hid (TZ.out.fx F8.out (.bool q0) (.slice B0 m0 e0))
          replace F10 := Lib.hid (F10.out.other (by omega : ba8 ≠ ba10) (.bool q0) (.slice B0 m0 e0))
          replace F9 := Lib.hid (F9.out.other (by omega : ba8 ≠ ba9) (.bool q0) (.slice B0 m0 e0))
          replace F8 := Lib.hid (F8.out.store (.bool q0) (.slice B0 m0 e0))
          clear x0 x1 x2 x3 x4 hB
          refine hK.out _ _ (HT.out _ hBs) (fun hHeldn => ?_)
          clear hK K hHeldn
          try simp only [Act.put, List.setIfInBounds_toArray, List.set_cons_zero, List.set_cons_succ]
          generalize (wa8.setCell ⟨ba8, 0, none⟩ (.bool q0)).setCell ⟨ba8, 1, none⟩ (.slice B0 m0 e0) = ws8 at *
          have hB := hBs
          clear hBs
          refine wpAnyH_ready (rs := [13]) (by kernel_rfl) (by simp) ?_
          refine AllReadyH.cons rfl (fun K hK => ?_) AllReadyH.nil
          (try simp only [List.getElem_toArray]); (try simp only [List.getElem_cons_succ]); (try simp only [List.getElem_cons_zero])
          obtain ⟨x0, x1, x2, x3, x4⟩ := F9.out
          go_simp
          have hBs := (hB.setCell (p := ⟨ba9, 0, none⟩) hge9 (.bool q1)).setCell (p := ⟨ba9, 1, none⟩) hge9 (.slice B1 m1 e1)
          replace TX := Lib.hid (TX.out.fx F9.out (.bool q1) (.slice B1 m1 e1))
          replace TY := Lib.hid (TY.out.fx F9.out (.bool q1) (.slice B1 m1 e1))
          replace TZ := Lib.hid (TZ.out.fx F9.out (.bool q1) (.slice B1 m1 e1))
          replace F10 := Lib.hid (F10.out.other (by omega : ba9 ≠ ba10) (.bool q1) (.slice B1 m1 e1))
          replace F8 := Lib.hid (F8.out.other (by omega : ba9 ≠ ba8) (.bool q1) (.slice B1 m1 e1))
          replace F9 := Lib.hid (F9.out.store (.bool q1) (.slice B1 m1 e1))
          clear x0 x1 x2 x3 x4 hB
          refine hK.out _ _ (HT.out _ hBs) (fun hHeldn => ?_)
          clear hK K hHeldn
          try simp only [Act.put, List.setIfInBounds_toArray, List.set_cons_zero, List.set_cons_succ]
          generalize (ws8.setCell ⟨ba9, 0, none⟩ (.bool q1)).setCell ⟨ba9, 1, none⟩ (.slice B1 m1 e1) = ws9 at *
          have hB := hBs
          clear hBs
          refine wpAnyH_ready (rs := [14]) (by kernel_rfl) (by simp) ?_
          refine AllReadyH.cons rfl (fun K hK => ?_) AllReadyH.nil
          (try simp only [List.getElem_toArray]); (try simp only [List.getElem_cons_succ]); (try simp only [List.getElem_cons_zero])
          obtain ⟨x0, x1, x2, x3, x4⟩ := F10.out
          go_simp
          have hBs := (hB.setCell (p := ⟨ba10, 0, none⟩) hge10 (.bool q2)).setCell (p := ⟨ba10, 1, none⟩) hge10 (.slice B2 m2 e2)
          replace TX := Lib.hid (TX.out.fx F10.out (.bool q2) (.slice B2 m2 e2))
          replace TY := Lib.hid (TY.out.fx F10.out (.bool q2) (.slice B2 m2 e2))
          replace TZ := Lib.hid (TZ.out.fx F10.out (.bool q2) (.slice B2 m2 e2))
          replace F9 := Lib.hid (F9.out.other (by omega : ba10 ≠ ba9) (.bool q2) (.slice B2 m2 e2))
          replace F8 := Lib.hid (F8.out.other (by omega : ba10 ≠ ba8) (.bool q2) (.slice B2 m2 e2))
          replace F10 := Lib.hid (F10.out.store (.bool q2) (.slice B2 m2 e2))
          clear x0 x1 x2 x3 x4 hB
          refine hK.out _ _ (HT.out _ hBs) (fun hHeldn => ?_)
          clear hK K hHeldn
          try simp only [Act.put, List.setIfInBounds_toArray, List.set_cons_zero, List.set_cons_succ]
          generalize (ws9.setCell ⟨ba10, 0, none⟩ (.bool q2)).setCell ⟨ba10, 1, none⟩ (.slice B2 m2 e2) = ws10 at *
          have hB := hBs
          clear hBs
          refine wpAnyH_done (by kernel_rfl) ?_ _
          go_wp2_with fail
          go_meet
          exact ⟨ba8, ba9, ba10, rfl, rfl, rfl, ⟨_, _, _, _, F8.out, TX.out⟩, ⟨_, _, _, _, F9.out, TY.out⟩, ⟨_, _, _, _, F10.out, TZ.out⟩, hB⟩
    case rest =>
      obtain ⟨b8n, b9n, b10n, rfl, rfl, rfl, ⟨g8, A8, n8, c8, f8, v8⟩, ⟨g9, A9, n9, c9, f9, v9⟩, ⟨g10, A10, n10, c10, f10, v10⟩, hbc⟩ := hcut
      obtain ⟨wk, rfl⟩ : ∃ wk, wk = wc := ⟨wc, rfl⟩
      have hw := HW3.out.trans (hbc.mono HW3.out.size)
      have b8 := Lib.hid f8
      have b9 := Lib.hid f9
      have b10 := Lib.hid f10
      have V8 := Lib.hid v8
      have V9 := Lib.hid v9
      have V10 := Lib.hid v10
      clear f8 f9 f10 v8 v9 v10 hbc HW3 TX TY TZ k0 k1 k2 k3 k4 k5 hg1
      obtain ⟨c8a, c8b, c8f, c8g, c8s⟩ := b8.out
      obtain ⟨c9a, c9b, c9f, c9g, c9s⟩ := b9.out
      go_wp2_with fail
      refine (DivideE_int _ _ x y 6 6 _ V8.out V9.out (by decide) (by decide)).mono ?_
      rintro e w5 ⟨⟨g11, A11, n11, d11, g12, A12, n12, d12, rfl, hv, hr⟩, hb⟩
      clear c8a c8b c8f c8g c8s c9a c9b c9f c9g c9s
      replace b8 := Lib.hid (b8.out.below hb)
      replace V8 := Lib.hid (V8.out.below hb)
      replace b9 := Lib.hid (b9.out.below hb)
      replace V9 := Lib.hid (V9.out.below hb)
      replace b10 := Lib.hid (b10.out.below hb)
      replace V10 := Lib.hid (V10.out.below hb)
      replace hw := hw.trans (hb.mono hw.size)
      have hX := below_two w5 (.cells #[.bool g11, .slice A11 n11 d11] 28) (.cells #[.bool g12, .slice A12 n12 d12] 28)
      replace b8 := Lib.hid (b8.out.below hX)
      replace V8 := Lib.hid (V8.out.below hX)
      replace b9 := Lib.hid (b9.out.below hX)
      replace V9 := Lib.hid (V9.out.below hX)
      replace b10 := Lib.hid (b10.out.below hX)
      replace V10 := Lib.hid (V10.out.below hX)
      replace hw := hw.trans (hX.mono hw.size)
      have b11 := Lib.hid (Fx.new1 w5 g11 g12 (.slice A11 n11 d11) (.slice A12 n12 d12) 28 28)
      have b12 := Lib.hid (Fx.new2 w5 g11 g12 (.slice A11 n11 d11) (.slice A12 n12 d12) 28 28)
      have V11 := Lib.hid (hv.below hX)
      have V12 := Lib.hid (hr.below hX)
      clear hX hb hv hr
      obtain ⟨c9a, c9b, c9f, c9g, c9s⟩ := b9.out
      go_wp2_with fail
      refine (sign_int _ y 6 _ V9.out).mono ?_
      rintro e w6 ⟨rfl, hb⟩
      clear c9a c9b c9f c9g c9s
      replace b8 := Lib.hid (b8.out.below hb)
      replace V8 := Lib.hid (V8.out.below hb)
      replace b9 := Lib.hid (b9.out.below hb)
      replace V9 := Lib.hid (V9.out.below hb)
      replace b10 := Lib.hid (b10.out.below hb)
      replace V10 := Lib.hid (V10.out.below hb)
      replace b11 := Lib.hid (b11.out.below hb)
      replace V11 := Lib.hid (V11.out.below hb)
      replace b12 := Lib.hid (b12.out.below hb)
      replace V12 := Lib.hid (V12.out.below hb)
      replace hw := hw.trans (hb.mono hw.size)
      clear hb
      by_cases hy0 : y = 0
      · skip
        have hcm : (cmpI y 0 == 0) = true := by rw [cmpI_eq hy0]; decide
        have hde : divE y = 6 := if_pos hy0
        clear hy0
        go_wp2_with fail
        refine (awake_any _).mono ?_
        rintro e wz ⟨rfl, hb⟩
        go_wp2
        go_ret
        exact ⟨rfl, hw.trans (hb.mono hw.size)⟩
      · skip
        have hcm : (cmpI y 0 == 0) = false := cmp_ne hy0
        have hde : divE y = 0 := if_neg hy0
        have hdq : divQ x y = x.tdiv y := if_neg hy0
        have hdr : divR x y = x.tmod y := if_neg hy0
        rw [hdq] at V11
        rw [hdr] at V12
        clear hdq hdr
        have HY0 := Lib.hid hy0
        clear hy0
        go_upto_region 8 with fail
        clear hcm hde
        obtain ⟨q, hq⟩ : ∃ q, x.tdiv y = q := ⟨_, rfl⟩
        obtain ⟨r, hr⟩ : ∃ r, x.tmod y = r := ⟨_, rfl⟩
        have HQR := Lib.hid (show y * q + r = x by rw [← hq, ← hr]; exact Int.mul_tdiv_add_tmod x y)
        have HAB := Lib.hid (show (if r < 0 then -r else r) < (if y < 0 then -y else y) by rw [← hr]; exact abs_tmod HY0.out)
        have HSG := Lib.hid (show r ≠ 0 → cmpI r 0 = cmpI x 0 by rw [← hr]; exact sign_tmod)
        rw [hq] at V11
        rw [hr] at V12
        clear hq hr
        by_cases hr0 : r = 0
        · skip
          have hsr : cmpI r 0 = 0 := cmpI_eq hr0
          clear hr0
          have HT := Lib.hid (fun (w' : World) (hb : Below w6.heap.size w6 w') => (show w'.cell? ⟨b8n, 0, none⟩ = some (.bool g8) ∧ w'.cell? ⟨b8n, 1, none⟩ = some (.slice A8 n8 c8) ∧ w'.cell? ⟨b9n, 0, none⟩ = some (.bool g9) ∧ w'.cell? ⟨b9n, 1, none⟩ = some (.slice A9 n9 c9) ∧ w'.cell? ⟨w5.heap.size, 0, none⟩ = some (.bool g11) ∧ w'.cell? ⟨w5.heap.size, 1, none⟩ = some (.slice A11 n11 d11) ∧ w'.cell? ⟨w5.heap.size + 1, 0, none⟩ = some (.bool g12) ∧ w'.cell? ⟨w5.heap.size + 1, 1, none⟩ = some (.slice A12 n12 d12) ∧ Below w6.heap.size w6 w' from ⟨(b8.out.below hb).1, (b8.out.below hb).2.1, (b9.out.below hb).1, (b9.out.below hb).2.1, (b11.out.below hb).1, (b11.out.below hb).2.1, (b12.out.below hb).1, (b12.out.below hb).2.1, hb⟩))
          have hB := (Below.refl w6.heap.size w6).drew
          replace V8 := Lib.hid (V8.out.below hB)
          replace V9 := Lib.hid (V9.out.below hB)
          replace V10 := Lib.hid (V10.out.below hB)
          replace V11 := Lib.hid (V11.out.below hB)
          replace V12 := Lib.hid (V12.out.below hB)
          refine wp_region_held_drew (S := fun w' => w'.cell? ⟨b8n, 0, none⟩ = some (.bool g8) ∧ w'.cell? ⟨b8n, 1, none⟩ = some (.slice A8 n8 c8) ∧ w'.cell? ⟨b9n, 0, none⟩ = some (.bool g9) ∧ w'.cell? ⟨b9n, 1, none⟩ = some (.slice A9 n9 c9) ∧ w'.cell? ⟨w5.heap.size, 0, none⟩ = some (.bool g11) ∧ w'.cell? ⟨w5.heap.size, 1, none⟩ = some (.slice A11 n11 d11) ∧ w'.cell? ⟨w5.heap.size + 1, 0, none⟩ = some (.bool g12) ∧ w'.cell? ⟨w5.heap.size + 1, 1, none⟩ = some (.slice A12 n12 d12) ∧ Below w6.heap.size w6 w') (by kernel_rfl) (HT.out _ hB) (fun hHeldn => ?_)
          clear hHeldn
          generalize w6.drew = wr0 at *
          refine wpAnyH_taken (i := 0) (d := some 65) (v := ?_) rfl rfl (by kernel_rfl) (by kernel_rfl) (by kernel_rfl) (fun _ _ _ h => h) (Or.inl ⟨by rfl, ?_⟩) (by first | assumption | exact HT.out _ hB) ?_
          rotate_left 1
          · (intro w hSw; (try dsimp only at hSw); go_simp; try with_reducible rfl)
          try simp only [Act.put, List.setIfInBounds_toArray, List.set_cons_zero, List.set_cons_succ]
          refine wpAnyH_taken (i := 1) (d := some 66) (v := ?_) rfl rfl (by kernel_rfl) (by kernel_rfl) (by kernel_rfl) (fun _ _ _ h => h) (Or.inl ⟨by rfl, ?_⟩) (by first | assumption | exact HT.out _ hB) ?_
          rotate_left 1
          · (intro w hSw; (try dsimp only at hSw); go_simp; try with_reducible rfl)
          try simp only [Act.put, List.setIfInBounds_toArray, List.set_cons_zero, List.set_cons_succ]
          refine wpAnyH_taken (i := 2) (d := some 67) (v := ?_) rfl rfl (by kernel_rfl) (by kernel_rfl) (by kernel_rfl) (fun _ _ _ h => h) (Or.inl ⟨by rfl, ?_⟩) (by first | assumption | exact HT.out _ hB) ?_
          rotate_left 1
          · (intro w hSw; (try dsimp only at hSw); go_simp; try with_reducible rfl)
          try simp only [Act.put, List.setIfInBounds_toArray, List.set_cons_zero, List.set_cons_succ]
          refine wpAnyH_taken (i := 3) (d := some 68) (v := ?_) rfl rfl (by kernel_rfl) (by kernel_rfl) (by kernel_rfl) (fun _ _ _ h => h) (Or.inl ⟨by rfl, ?_⟩) (by first | assumption | exact HT.out _ hB) ?_
          rotate_left 1
          · (intro w hSw; (try dsimp only at hSw); go_simp; try with_reducible rfl)
          try simp only [Act.put, List.setIfInBounds_toArray, List.set_cons_zero, List.set_cons_succ]
          refine wpAnyH_taken (i := 4) (d := some 69) (v := ?_) rfl rfl (by kernel_rfl) (by kernel_rfl) (by kernel_rfl) (fun _ _ _ h => h) (Or.inl ⟨by rfl, ?_⟩) (by first | assumption | exact HT.out _ hB) ?_
          rotate_left 1
          · (intro w hSw; (try dsimp only at hSw); go_simp; try with_reducible rfl)
          try simp only [Act.put, List.setIfInBounds_toArray, List.set_cons_zero, List.set_cons_succ]
          refine wpAnyH_taken (i := 6) (d := some 71) (v := ?_) rfl rfl (by kernel_rfl) (by kernel_rfl) (by kernel_rfl) (fun _ _ _ h => h) (Or.inl ⟨by rfl, ?_⟩) (by first | assumption | exact HT.out _ hB) ?_
          rotate_left 1
          · (intro w hSw; (try dsimp only at hSw); go_simp; try with_reducible rfl)
          try simp only [Act.put, List.setIfInBounds_toArray, List.set_cons_zero, List.set_cons_succ]
          refine wpAnyH_taken (i := 8) (d := some 73) (v := ?_) rfl rfl (by kernel_rfl) (by kernel_rfl) (by kernel_rfl) (fun _ _ _ h => h) (Or.inl ⟨by rfl, ?_⟩) (by first | assumption | exact HT.out _ hB) ?_
          rotate_left 1
          · (intro w hSw; (try dsimp only at hSw); go_simp; try with_reducible rfl)
          try simp only [Act.put, List.setIfInBounds_toArray, List.set_cons_zero, List.set_cons_succ]
          refine wpAnyH_ready (rs := [5]) (by kernel_rfl) (by simp) ?_
          refine AllReadyH.cons rfl (fun K hK => ?_) AllReadyH.nil
          (try simp only [List.getElem_toArray]); (try simp only [List.getElem_cons_succ]); (try simp only [List.getElem_cons_zero])
          go_simp
          (go_at_call 42; refine (mul_t _ _ y q 6 8 _ V9.out V11.out (by decide) (by decide)).mono ?_; rintro e wc1 ⟨⟨gt1, At1, nt1, ct1, rfl, hz⟩, hb⟩)
          replace V8 := Lib.hid (V8.out.below hb)
          replace V9 := Lib.hid (V9.out.below hb)
          replace V10 := Lib.hid (V10.out.below hb)
          replace V11 := Lib.hid (V11.out.below hb)
          replace V12 := Lib.hid (V12.out.below hb)
          replace hB := Below.trans hB (hb.mono hB.size)
          have T1 := Lib.hid hz
          refine hK.out _ _ (HT.out _ hB) (fun hHeldn => ?_)
          clear hK K hHeldn
          try simp only [Act.put, List.setIfInBounds_toArray, List.set_cons_zero, List.set_cons_succ]
          clear hb hz
          refine wpAnyH_ready (rs := [7]) (by kernel_rfl) (by simp) ?_
          refine AllReadyH.cons rfl (fun K hK => ?_) AllReadyH.nil
          (try simp only [List.getElem_toArray]); (try simp only [List.getElem_cons_succ]); (try simp only [List.getElem_cons_zero])
          go_simp
          (go_at_call 38; refine (add_t _ _ (y * q) r (6 + 8) 8 _ T1.out V12.out (by decide) (by decide)).mono ?_; rintro e wc2 ⟨⟨gt2, At2, nt2, ct2, rfl, hz⟩, hb⟩)
          replace V8 := Lib.hid (V8.out.below hb)
          replace V9 := Lib.hid (V9.out.below hb)
          replace V10 := Lib.hid (V10.out.below hb)
          replace V11 := Lib.hid (V11.out.below hb)
          replace V12 := Lib.hid (V12.out.below hb)
          replace T1 := Lib.hid (T1.out.below hb)
          replace hB := Below.trans hB (hb.mono hB.size)
          clear T1
          have T2 := Lib.hid hz
          refine hK.out _ _ (HT.out _ hB) (fun hHeldn => ?_)
          clear hK K hHeldn
          try simp only [Act.put, List.setIfInBounds_toArray, List.set_cons_zero, List.set_cons_succ]
          clear hb hz
          refine wpAnyH_ready (rs := [9]) (by kernel_rfl) (by simp) ?_
          refine AllReadyH.cons rfl (fun K hK => ?_) AllReadyH.nil
          (try simp only [List.getElem_toArray]); (try simp only [List.getElem_cons_succ]); (try simp only [List.getElem_cons_zero])
          go_simp
          (go_at_call 65; refine (same_yes _ _ (y * q + r) x (max (6 + 8) 8 + 1) 6 _ T2.out V8.out (by decide) (by decide) HQR.out).mono ?_; rintro e wc3 ⟨rfl, hb⟩)
          replace V8 := Lib.hid (V8.out.below hb)
          replace V9 := Lib.hid (V9.out.below hb)
          replace V10 := Lib.hid (V10.out.below hb)
          replace V11 := Lib.hid (V11.out.below hb)
          replace V12 := Lib.hid (V12.out.below hb)
          replace T2 := Lib.hid (T2.out.below hb)
          replace hB := Below.trans hB (hb.mono hB.size)
          clear T2
          refine hK.out _ _ (HT.out _ hB) (fun hHeldn => ?_)
          clear hK K hHeldn
          try simp only [Act.put, List.setIfInBounds_toArray, List.set_cons_zero, List.set_cons_succ]
          clear hb
          refine wpAnyH_taken (i := 10) (d := some 75) (v := ?_) rfl rfl (by kernel_rfl) (by kernel_rfl) (by kernel_rfl) (fun _ _ _ h => h) (Or.inl ⟨by rfl, ?_⟩) (by first | assumption | exact HT.out _ hB) ?_
          rotate_left 1
          · (intro w hSw; (try dsimp only at hSw); go_simp; try with_reducible rfl)
          try simp only [Act.put, List.setIfInBounds_toArray, List.set_cons_zero, List.set_cons_succ]
          refine wpAnyH_taken (i := 11) (d := some 76) (v := ?_) rfl rfl (by kernel_rfl) (by kernel_rfl) (by kernel_rfl) (fun _ _ _ h => h) (Or.inl ⟨by rfl, ?_⟩) (by first | assumption | exact HT.out _ hB) ?_
          rotate_left 1
          · (intro w hSw; (try dsimp only at hSw); go_simp; try with_reducible rfl)
          try simp only [Act.put, List.setIfInBounds_toArray, List.set_cons_zero, List.set_cons_succ]
          refine wpAnyH_taken (i := 12) (d := some 77) (v := ?_) rfl rfl (by kernel_rfl) (by kernel_rfl) (by kernel_rfl) (fun _ _ _ h => h) (Or.inl ⟨by rfl, ?_⟩) (by first | assumption | exact HT.out _ hB) ?_
          rotate_left 1
          · (intro w hSw; (try dsimp only at hSw); go_simp; try with_reducible rfl)
          try simp only [Act.put, List.setIfInBounds_toArray, List.set_cons_zero, List.set_cons_succ]
          refine wpAnyH_taken (i := 13) (d := some 78) (v := ?_) rfl rfl (by kernel_rfl) (by kernel_rfl) (by kernel_rfl) (fun _ _ _ h => h) (Or.inl ⟨by rfl, ?_⟩) (by first | assumption | exact HT.out _ hB) ?_
          rotate_left 1
          · (intro w hSw; (try dsimp only at hSw); go_simp; try with_reducible rfl)
          try simp only [Act.put, List.setIfInBounds_toArray, List.set_cons_zero, List.set_cons_succ]
          refine wpAnyH_taken (i := 15) (d := some 80) (v := ?_) rfl rfl (by kernel_rfl) (by kernel_rfl) (by kernel_rfl) (fun _ _ _ h => h) (Or.inl ⟨by rfl, ?_⟩) (by first | assumption | exact HT.out _ hB) ?_
          rotate_left 1
          · (intro w hSw; (try dsimp only at hSw); go_simp; try with_reducible rfl)
          try simp only [Act.put, List.setIfInBounds_toArray, List.set_cons_zero, List.set_cons_succ]
          refine wpAnyH_ready (rs := [14]) (by kernel_rfl) (by simp) ?_
          refine AllReadyH.cons rfl (fun K hK => ?_) AllReadyH.nil
          (try simp only [List.getElem_toArray]); (try simp only [List.getElem_cons_succ]); (try simp only [List.getElem_cons_zero])
          go_simp
          (go_at_call 36; refine (abs_int _ r 8 _ V12.out (by decide)).mono ?_; rintro e wc4 ⟨⟨gt3, At3, nt3, ct3, rfl, hz⟩, hb⟩)
          replace V8 := Lib.hid (V8.out.below hb)
          replace V9 := Lib.hid (V9.out.below hb)
          replace V10 := Lib.hid (V10.out.below hb)
          replace V11 := Lib.hid (V11.out.below hb)
          replace V12 := Lib.hid (V12.out.below hb)
          replace hB := Below.trans hB (hb.mono hB.size)
          have T3 := Lib.hid hz
          refine hK.out _ _ (HT.out _ hB) (fun hHeldn => ?_)
          clear hK K hHeldn
          try simp only [Act.put, List.setIfInBounds_toArray, List.set_cons_zero, List.set_cons_succ]
          clear hb hz
          refine wpAnyH_ready (rs := [16]) (by kernel_rfl) (by simp) ?_
          refine AllReadyH.cons rfl (fun K hK => ?_) AllReadyH.nil
          (try simp only [List.getElem_toArray]); (try simp only [List.getElem_cons_succ]); (try simp only [List.getElem_cons_zero])
          go_simp
          (go_at_call 36; refine (abs_int _ y 6 _ V9.out (by decide)).mono ?_; rintro e wc5 ⟨⟨gt4, At4, nt4, ct4, rfl, hz⟩, hb⟩)
          replace V8 := Lib.hid (V8.out.below hb)
          replace V9 := Lib.hid (V9.out.below hb)
          replace V10 := Lib.hid (V10.out.below hb)
          replace V11 := Lib.hid (V11.out.below hb)
          replace V12 := Lib.hid (V12.out.below hb)
          replace T3 := Lib.hid (T3.out.below hb)
          replace hB := Below.trans hB (hb.mono hB.size)
          have T4 := Lib.hid hz
          refine hK.out _ _ (HT.out _ hB) (fun hHeldn => ?_)
          clear hK K hHeldn
          try simp only [Act.put, List.setIfInBounds_toArray, List.set_cons_zero, List.set_cons_succ]
          clear hb hz
          refine wpAnyH_ready (rs := [17]) (by kernel_rfl) (by simp) ?_
          refine AllReadyH.cons rfl (fun K hK => ?_) AllReadyH.nil
          (try simp only [List.getElem_toArray]); (try simp only [List.getElem_cons_succ]); (try simp only [List.getElem_cons_zero])
          go_simp
          (go_at_call 32; refine (cmp_int _ _ (if r < 0 then -r else r) (if y < 0 then -y else y) 8 6 _ T3.out T4.out (by decide) (by decide)).mono ?_; rintro e wc6 ⟨rfl, hb⟩)
          obtain ⟨cc, hcc⟩ : ∃ cc, cmpI ((if r < 0 then -r else r)) ((if y < 0 then -y else y)) = cc := ⟨_, rfl⟩
          rw [hcc]
          have hcs : ¬ 0 ≤ cc := by rw [← hcc]; rw [cmpI_lt HAB.out]; decide
          clear hcc
          replace V8 := Lib.hid (V8.out.below hb)
          replace V9 := Lib.hid (V9.out.below hb)
          replace V10 := Lib.hid (V10.out.below hb)
          replace V11 := Lib.hid (V11.out.below hb)
          replace V12 := Lib.hid (V12.out.below hb)
          replace T3 := Lib.hid (T3.out.below hb)
          replace T4 := Lib.hid (T4.out.below hb)
          replace hB := Below.trans hB (hb.mono hB.size)
          clear T3
          clear T4
          refine hK.out _ _ (HT.out _ hB) (fun hHeldn => ?_)
          clear hK K hHeldn
          try simp only [Act.put, List.setIfInBounds_toArray, List.set_cons_zero, List.set_cons_succ]
          clear hb
          refine wpAnyH_taken (i := 18) (d := some 83) (v := ?_) rfl rfl (by kernel_rfl) (by kernel_rfl) (by kernel_rfl) (fun _ _ _ h => h) (Or.inl ⟨by rfl, ?_⟩) (by first | assumption | exact HT.out _ hB) ?_
          rotate_left 1
          · (intro w hSw; (try dsimp only at hSw); go_simp; try with_reducible rfl)
          try simp only [Act.put, List.setIfInBounds_toArray, List.set_cons_zero, List.set_cons_succ]
          refine wpAnyH_taken (i := 19) (d := some 84) (v := ?_) rfl rfl (by kernel_rfl) (by kernel_rfl) (by kernel_rfl) (fun _ _ _ h => h) (Or.inl ⟨by rfl, ?_⟩) (by first | assumption | exact HT.out _ hB) ?_
          rotate_left 1
          · (intro w hSw; (try dsimp only at hSw); go_simp; try with_reducible rfl)
          try simp only [Act.put, List.setIfInBounds_toArray, List.set_cons_zero, List.set_cons_succ]
          refine wpAnyH_taken (i := 20) (d := some 85) (v := ?_) rfl rfl (by kernel_rfl) (by kernel_rfl) (by kernel_rfl) (fun _ _ _ h => h) (Or.inl ⟨by rfl, ?_⟩) (by first | assumption | exact HT.out _ hB) ?_
          rotate_left 1
          · (intro w hSw; (try dsimp only at hSw); go_simp; try with_reducible rfl)
          try simp only [Act.put, List.setIfInBounds_toArray, List.set_cons_zero, List.set_cons_succ]
          refine wpAnyH_taken (i := 21) (d := some 86) (v := ?_) rfl rfl (by kernel_rfl) (by kernel_rfl) (by kernel_rfl) (fun _ _ _ h => h) (Or.inl ⟨by rfl, ?_⟩) (by first | assumption | exact HT.out _ hB) ?_
          rotate_left 1
          · (intro w hSw; (try dsimp only at hSw); go_simp; try with_reducible rfl)
          try simp only [Act.put, List.setIfInBounds_toArray, List.set_cons_zero, List.set_cons_succ]
          refine wpAnyH_ready (rs := [22]) (by kernel_rfl) (by simp) ?_
          refine AllReadyH.cons rfl (fun K hK => ?_) AllReadyH.nil
          (try simp only [List.getElem_toArray]); (try simp only [List.getElem_cons_succ]); (try simp only [List.getElem_cons_zero])
          go_simp
          (go_at_call 22; refine (sign_int _ r 8 _ V12.out).mono ?_; rintro e wc7 ⟨rfl, hb⟩)
          rw [hsr]
          replace V8 := Lib.hid (V8.out.below hb)
          replace V9 := Lib.hid (V9.out.below hb)
          replace V10 := Lib.hid (V10.out.below hb)
          replace V11 := Lib.hid (V11.out.below hb)
          replace V12 := Lib.hid (V12.out.below hb)
          replace hB := Below.trans hB (hb.mono hB.size)
          refine hK.out _ _ (HT.out _ hB) (fun hHeldn => ?_)
          clear hK K hHeldn
          try simp only [Act.put, List.setIfInBounds_toArray, List.set_cons_zero, List.set_cons_succ]
          clear hb
          refine wpAnyH_taken (i := 23) (d := some 88) (v := ?_) rfl rfl (by kernel_rfl) (by kernel_rfl) (by kernel_rfl) (fun _ _ _ h => h) (Or.inl ⟨by rfl, ?_⟩) (by first | assumption | exact HT.out _ hB) ?_
          rotate_left 1
          · (intro w hSw; (try dsimp only at hSw); go_simp; try with_reducible rfl)
          try simp only [Act.put, List.setIfInBounds_toArray, List.set_cons_zero, List.set_cons_succ]
          refine wpAnyH_taken (i := 24) (d := some 89) (v := ?_) rfl rfl (by kernel_rfl) (by kernel_rfl) (by kernel_rfl) (fun _ _ _ h => h) (Or.inl ⟨by rfl, ?_⟩) (by first | assumption | exact HT.out _ hB) ?_
          rotate_left 1
          · (intro w hSw; (try dsimp only at hSw); go_simp; try with_reducible rfl)
          try simp only [Act.put, List.setIfInBounds_toArray, List.set_cons_zero, List.set_cons_succ]
          refine wpAnyH_taken (i := 25) (d := some 90) (v := undef) rfl rfl (by kernel_rfl) (by kernel_rfl) (by kernel_rfl) (fun _ _ _ h => h) (Or.inr ⟨by rfl, rfl⟩) (by first | assumption | exact HT.out _ hB) ?_
          try simp only [Act.put, List.setIfInBounds_toArray, List.set_cons_zero, List.set_cons_succ]
          refine wpAnyH_taken (i := 27) (d := some 92) (v := undef) rfl rfl (by kernel_rfl) (by kernel_rfl) (by kernel_rfl) (fun _ _ _ h => h) (Or.inr ⟨by rfl, rfl⟩) (by first | assumption | exact HT.out _ hB) ?_
          try simp only [Act.put, List.setIfInBounds_toArray, List.set_cons_zero, List.set_cons_succ]
          refine wpAnyH_taken (i := 26) (d := some 91) (v := undef) rfl rfl (by kernel_rfl) (by kernel_rfl) (by kernel_rfl) (fun _ _ _ h => h) (Or.inr ⟨by rfl, rfl⟩) (by first | assumption | exact HT.out _ hB) ?_
          try simp only [Act.put, List.setIfInBounds_toArray, List.set_cons_zero, List.set_cons_succ]
          refine wpAnyH_taken (i := 28) (d := some 93) (v := undef) rfl rfl (by kernel_rfl) (by kernel_rfl) (by kernel_rfl) (fun _ _ _ h => h) (Or.inr ⟨by rfl, rfl⟩) (by first | assumption | exact HT.out _ hB) ?_
          try simp only [Act.put, List.setIfInBounds_toArray, List.set_cons_zero, List.set_cons_succ]
          refine wpAnyH_taken (i := 29) (d := some 94) (v := undef) rfl rfl (by kernel_rfl) (by kernel_rfl) (by kernel_rfl) (fun _ _ _ h => h) (Or.inr ⟨by rfl, rfl⟩) (by first | assumption | exact HT.out _ hB) ?_
          try simp only [Act.put, List.setIfInBounds_toArray, List.set_cons_zero, List.set_cons_succ]
          refine wpAnyH_taken (i := 30) (d := some 95) (v := ?_) rfl rfl (by kernel_rfl) (by kernel_rfl) (by kernel_rfl) (fun _ _ _ h => h) (Or.inl ⟨by rfl, ?_⟩) (by first | assumption | exact HT.out _ hB) ?_
          rotate_left 1
          · (intro w hSw; (try dsimp only at hSw); go_simp; try with_reducible rfl)
          try simp only [Act.put, List.setIfInBounds_toArray, List.set_cons_zero, List.set_cons_succ]
          refine wpAnyH_taken (i := 31) (d := some 96) (v := ?_) rfl rfl (by kernel_rfl) (by kernel_rfl) (by kernel_rfl) (fun _ _ _ h => h) (Or.inl ⟨by rfl, ?_⟩) (by first | assumption | exact HT.out _ hB) ?_
          rotate_left 1
          · (intro w hSw; (try dsimp only at hSw); go_simp; try with_reducible rfl)
          try simp only [Act.put, List.setIfInBounds_toArray, List.set_cons_zero, List.set_cons_succ]
          refine wpAnyH_done (by kernel_rfl) ?_ _
          replace b8 := Lib.hid (b8.out.below hB)
          replace b9 := Lib.hid (b9.out.below hB)
          replace b10 := Lib.hid (b10.out.below hB)
          replace b11 := Lib.hid (b11.out.below hB)
          replace b12 := Lib.hid (b12.out.below hB)
          replace hw := hw.trans (hB.mono hw.size)
          clear HQR HAB HSG
          clear b11 V11
          clear b12 V12
          obtain ⟨c8a, c8b, c8f, c8g, c8s⟩ := b8.out
          obtain ⟨c9a, c9b, c9f, c9g, c9s⟩ := b9.out
          go_wp2_with fail
          refine (Gcd_int _ _ x y 6 _ V8.out V9.out (by decide) (by decide)).mono ?_
          rintro e w7 ⟨⟨g14, A14, n14, d14, rfl, hz⟩, hb⟩
          obtain ⟨gg, hgg⟩ : ∃ gg : Int, (Int.gcd x y : Int) = gg := ⟨_, rfl⟩
          rw [hgg] at hz
          have HGG := Lib.hid hgg
          have hg0 : 0 < gg := by rw [← hgg]; exact gcd_pos HY0.out
          have hgx : x.tmod gg = 0 := by rw [← hgg]; exact Int.tmod_eq_zero_of_dvd (Int.gcd_dvd_left x y)
          have hgy : y.tmod gg = 0 := by rw [← hgg]; exact Int.tmod_eq_zero_of_dvd (Int.gcd_dvd_right x y)
          have HG0 := Lib.hid hg0
          have HGX := Lib.hid hgx
          have HGY := Lib.hid hgy
          clear hgg hg0 hgx hgy
          clear c8a c8b c8f c8g c8s c9a c9b c9f c9g c9s
          replace b8 := Lib.hid (b8.out.below hb)
          replace V8 := Lib.hid (V8.out.below hb)
          replace b9 := Lib.hid (b9.out.below hb)
          replace V9 := Lib.hid (V9.out.below hb)
          replace b10 := Lib.hid (b10.out.below hb)
          replace V10 := Lib.hid (V10.out.below hb)
          replace hw := hw.trans (hb.mono hw.size)
          have hX := below_alloc w7 (.cells #[.bool g14, .slice A14 n14 d14] 28)
          replace b8 := Lib.hid (b8.out.below hX)
          replace V8 := Lib.hid (V8.out.below hX)
          replace b9 := Lib.hid (b9.out.below hX)
          replace V9 := Lib.hid (V9.out.below hX)
          replace b10 := Lib.hid (b10.out.below hX)
          replace V10 := Lib.hid (V10.out.below hX)
          replace hw := hw.trans (hX.mono hw.size)
          have b14 := Lib.hid (Fx.new w7 (.bool g14) (.slice A14 n14 d14) 28)
          have V14 := Lib.hid (hz.below hX)
          clear hX hb hz
          obtain ⟨c8a, c8b, c8f, c8g, c8s⟩ := b8.out
          obtain ⟨c14a, c14b, c14f, c14g, c14s⟩ := b14.out
          go_wp2_with fail
          refine (DivideE_int _ _ x gg 6 6 _ V8.out V14.out (by decide) (by decide)).mono ?_
          rintro e w8 ⟨⟨g15, A15, n15, d15, g16, A16, n16, d16, rfl, hv, hr⟩, hb⟩
          rw [show divE gg = 0 from if_neg (by have := HG0.out; omega)]
          rw [show divR x gg = x.tmod gg from if_neg (by have := HG0.out; omega), HGX.out] at hr
          clear c8a c8b c8f c8g c8s c14a c14b c14f c14g c14s
          replace b8 := Lib.hid (b8.out.below hb)
          replace V8 := Lib.hid (V8.out.below hb)
          replace b9 := Lib.hid (b9.out.below hb)
          replace V9 := Lib.hid (V9.out.below hb)
          replace b10 := Lib.hid (b10.out.below hb)
          replace V10 := Lib.hid (V10.out.below hb)
          replace b14 := Lib.hid (b14.out.below hb)
          replace V14 := Lib.hid (V14.out.below hb)
          replace hw := hw.trans (hb.mono hw.size)
          have hX := below_two w8 (.cells #[.bool g15, .slice A15 n15 d15] 28) (.cells #[.bool g16, .slice A16 n16 d16] 28)
          replace b8 := Lib.hid (b8.out.below hX)
          replace V8 := Lib.hid (V8.out.below hX)
          replace b9 := Lib.hid (b9.out.below hX)
          replace V9 := Lib.hid (V9.out.below hX)
          replace b10 := Lib.hid (b10.out.below hX)
          replace V10 := Lib.hid (V10.out.below hX)
          replace b14 := Lib.hid (b14.out.below hX)
          replace V14 := Lib.hid (V14.out.below hX)
          replace hw := hw.trans (hX.mono hw.size)
          have b15 := Lib.hid (Fx.new1 w8 g15 g16 (.slice A15 n15 d15) (.slice A16 n16 d16) 28 28)
          have b16 := Lib.hid (Fx.new2 w8 g15 g16 (.slice A15 n15 d15) (.slice A16 n16 d16) 28 28)
          have V15 := Lib.hid (hv.below hX)
          have V16 := Lib.hid (hr.below hX)
          clear hX hb hv hr
          obtain ⟨c9a, c9b, c9f, c9g, c9s⟩ := b9.out
          obtain ⟨c14a, c14b, c14f, c14g, c14s⟩ := b14.out
          go_wp2_with fail
          refine (DivideE_int _ _ y gg 6 6 _ V9.out V14.out (by decide) (by decide)).mono ?_
          rintro e w9 ⟨⟨g17, A17, n17, d17, g18, A18, n18, d18, rfl, hv, hr⟩, hb⟩
          rw [show divE gg = 0 from if_neg (by have := HG0.out; omega)]
          rw [show divR y gg = y.tmod gg from if_neg (by have := HG0.out; omega), HGY.out] at hr
          clear c9a c9b c9f c9g c9s c14a c14b c14f c14g c14s
          replace b8 := Lib.hid (b8.out.below hb)
          replace V8 := Lib.hid (V8.out.below hb)
          replace b9 := Lib.hid (b9.out.below hb)
          replace V9 := Lib.hid (V9.out.below hb)
          replace b10 := Lib.hid (b10.out.below hb)
          replace V10 := Lib.hid (V10.out.below hb)
          replace b14 := Lib.hid (b14.out.below hb)
          replace V14 := Lib.hid (V14.out.below hb)
          replace b15 := Lib.hid (b15.out.below hb)
          replace V15 := Lib.hid (V15.out.below hb)
          replace b16 := Lib.hid (b16.out.below hb)
          replace V16 := Lib.hid (V16.out.below hb)
          replace hw := hw.trans (hb.mono hw.size)
          have hX := below_two w9 (.cells #[.bool g17, .slice A17 n17 d17] 28) (.cells #[.bool g18, .slice A18 n18 d18] 28)
          replace b8 := Lib.hid (b8.out.below hX)
          replace V8 := Lib.hid (V8.out.below hX)
          replace b9 := Lib.hid (b9.out.below hX)
          replace V9 := Lib.hid (V9.out.below hX)
          replace b10 := Lib.hid (b10.out.below hX)
          replace V10 := Lib.hid (V10.out.below hX)
          replace b14 := Lib.hid (b14.out.below hX)
          replace V14 := Lib.hid (V14.out.below hX)
          replace b15 := Lib.hid (b15.out.below hX)
          replace V15 := Lib.hid (V15.out.below hX)
          replace b16 := Lib.hid (b16.out.below hX)
          replace V16 := Lib.hid (V16.out.below hX)
          replace hw := hw.trans (hX.mono hw.size)
          have b17 := Lib.hid (Fx.new1 w9 g17 g18 (.slice A17 n17 d17) (.slice A18 n18 d18) 28 28)
          have b18 := Lib.hid (Fx.new2 w9 g17 g18 (.slice A17 n17 d17) (.slice A18 n18 d18) 28 28)
          have V17 := Lib.hid (hv.below hX)
          have V18 := Lib.hid (hr.below hX)
          clear hX hb hv hr
          go_upto_region 13 with fail
          generalize ((w9.alloc (.cells #[.bool g17, .slice A17 n17 d17] 28)).alloc (.cells #[.bool g18, .slice A18 n18 d18] 28)) = WC at *
          have HT := Lib.hid (fun (w' : World) (hb : Below WC.heap.size WC w') => (show w'.cell? ⟨b8n, 0, none⟩ = some (.bool g8) ∧ w'.cell? ⟨b8n, 1, none⟩ = some (.slice A8 n8 c8) ∧ w'.cell? ⟨b9n, 0, none⟩ = some (.bool g9) ∧ w'.cell? ⟨b9n, 1, none⟩ = some (.slice A9 n9 c9) ∧ w'.cell? ⟨b10n, 0, none⟩ = some (.bool g10) ∧ w'.cell? ⟨b10n, 1, none⟩ = some (.slice A10 n10 c10) ∧ w'.cell? ⟨w7.heap.size, 0, none⟩ = some (.bool g14) ∧ w'.cell? ⟨w7.heap.size, 1, none⟩ = some (.slice A14 n14 d14) ∧ w'.cell? ⟨w8.heap.size + 1, 0, none⟩ = some (.bool g16) ∧ w'.cell? ⟨w8.heap.size + 1, 1, none⟩ = some (.slice A16 n16 d16) ∧ w'.cell? ⟨w9.heap.size + 1, 0, none⟩ = some (.bool g18) ∧ w'.cell? ⟨w9.heap.size + 1, 1, none⟩ = some (.slice A18 n18 d18) ∧ Below WC.heap.size WC w' from ⟨(b8.out.below hb).1, (b8.out.below hb).2.1, (b9.out.below hb).1, (b9.out.below hb).2.1, (b10.out.below hb).1, (b10.out.below hb).2.1, (b14.out.below hb).1, (b14.out.below hb).2.1, (b16.out.below hb).1, (b16.out.below hb).2.1, (b18.out.below hb).1, (b18.out.below hb).2.1, hb⟩))
          have hB := (Below.refl WC.heap.size WC).drew
          replace V8 := Lib.hid (V8.out.below hB)
          replace V9 := Lib.hid (V9.out.below hB)
          replace V10 := Lib.hid (V10.out.below hB)
          replace V14 := Lib.hid (V14.out.below hB)
          replace V15 := Lib.hid (V15.out.below hB)
          replace V16 := Lib.hid (V16.out.below hB)
          replace V17 := Lib.hid (V17.out.below hB)
          replace V18 := Lib.hid (V18.out.below hB)
          refine wp_region_held_drew (S := fun w' => w'.cell? ⟨b8n, 0, none⟩ = some (.bool g8) ∧ w'.cell? ⟨b8n, 1, none⟩ = some (.slice A8 n8 c8) ∧ w'.cell? ⟨b9n, 0, none⟩ = some (.bool g9) ∧ w'.cell? ⟨b9n, 1, none⟩ = some (.slice A9 n9 c9) ∧ w'.cell? ⟨b10n, 0, none⟩ = some (.bool g10) ∧ w'.cell? ⟨b10n, 1, none⟩ = some (.slice A10 n10 c10) ∧ w'.cell? ⟨w7.heap.size, 0, none⟩ = some (.bool g14) ∧ w'.cell? ⟨w7.heap.size, 1, none⟩ = some (.slice A14 n14 d14) ∧ w'.cell? ⟨w8.heap.size + 1, 0, none⟩ = some (.bool g16) ∧ w'.cell? ⟨w8.heap.size + 1, 1, none⟩ = some (.slice A16 n16 d16) ∧ w'.cell? ⟨w9.heap.size + 1, 0, none⟩ = some (.bool g18) ∧ w'.cell? ⟨w9.heap.size + 1, 1, none⟩ = some (.slice A18 n18 d18) ∧ Below WC.heap.size WC w') (by kernel_rfl) (HT.out _ hB) (fun hHeldn => ?_)
          clear hHeldn
          generalize WC.drew = wr0 at *
          refine wpAnyH_taken (i := 0) (d := some 114) (v := ?_) rfl rfl (by kernel_rfl) (by kernel_rfl) (by kernel_rfl) (fun _ _ _ h => h) (Or.inl ⟨by rfl, ?_⟩) (by first | assumption | exact HT.out _ hB) ?_
          rotate_left 1
          · (intro w hSw; (try dsimp only at hSw); go_simp; try with_reducible rfl)
          try simp only [Act.put, List.setIfInBounds_toArray, List.set_cons_zero, List.set_cons_succ]
          refine wpAnyH_taken (i := 1) (d := some 115) (v := ?_) rfl rfl (by kernel_rfl) (by kernel_rfl) (by kernel_rfl) (fun _ _ _ h => h) (Or.inl ⟨by rfl, ?_⟩) (by first | assumption | exact HT.out _ hB) ?_
          rotate_left 1
          · (intro w hSw; (try dsimp only at hSw); go_simp; try with_reducible rfl)
          try simp only [Act.put, List.setIfInBounds_toArray, List.set_cons_zero, List.set_cons_succ]
          refine wpAnyH_taken (i := 2) (d := some 116) (v := ?_) rfl rfl (by kernel_rfl) (by kernel_rfl) (by kernel_rfl) (fun _ _ _ h => h) (Or.inl ⟨by rfl, ?_⟩) (by first | assumption | exact HT.out _ hB) ?_
          rotate_left 1
          · (intro w hSw; (try dsimp only at hSw); go_simp; try with_reducible rfl)
          try simp only [Act.put, List.setIfInBounds_toArray, List.set_cons_zero, List.set_cons_succ]
          refine wpAnyH_taken (i := 3) (d := some 117) (v := ?_) rfl rfl (by kernel_rfl) (by kernel_rfl) (by kernel_rfl) (fun _ _ _ h => h) (Or.inl ⟨by rfl, ?_⟩) (by first | assumption | exact HT.out _ hB) ?_
          rotate_left 1
          · (intro w hSw; (try dsimp only at hSw); go_simp; try with_reducible rfl)
          try simp only [Act.put, List.setIfInBounds_toArray, List.set_cons_zero, List.set_cons_succ]
          refine wpAnyH_taken (i := 4) (d := some 118) (v := ?_) rfl rfl (by kernel_rfl) (by kernel_rfl) (by kernel_rfl) (fun _ _ _ h => h) (Or.inl ⟨by rfl, ?_⟩) (by first | assumption | exact HT.out _ hB) ?_
          rotate_left 1
          · (intro w hSw; (try dsimp only at hSw); go_simp; try with_reducible rfl)
          try simp only [Act.put, List.setIfInBounds_toArray, List.set_cons_zero, List.set_cons_succ]
          refine wpAnyH_taken (i := 5) (d := some 119) (v := ?_) rfl rfl (by kernel_rfl) (by kernel_rfl) (by kernel_rfl) (fun _ _ _ h => h) (Or.inl ⟨by rfl, ?_⟩) (by first | assumption | exact HT.out _ hB) ?_
          rotate_left 1
          · (intro w hSw; (try dsimp only at hSw); go_simp; try with_reducible rfl)
          try simp only [Act.put, List.setIfInBounds_toArray, List.set_cons_zero, List.set_cons_succ]
          refine wpAnyH_taken (i := 6) (d := some 120) (v := ?_) rfl rfl (by kernel_rfl) (by kernel_rfl) (by kernel_rfl) (fun _ _ _ h => h) (Or.inl ⟨by rfl, ?_⟩) (by first | assumption | exact HT.out _ hB) ?_
          rotate_left 1
          · (intro w hSw; (try dsimp only at hSw); go_simp; try with_reducible rfl)
          try simp only [Act.put, List.setIfInBounds_toArray, List.set_cons_zero, List.set_cons_succ]
          refine wpAnyH_taken (i := 7) (d := some 121) (v := ?_) rfl rfl (by kernel_rfl) (by kernel_rfl) (by kernel_rfl) (fun _ _ _ h => h) (Or.inl ⟨by rfl, ?_⟩) (by first | assumption | exact HT.out _ hB) ?_
          rotate_left 1
          · (intro w hSw; (try dsimp only at hSw); go_simp; try with_reducible rfl)
          try simp only [Act.put, List.setIfInBounds_toArray, List.set_cons_zero, List.set_cons_succ]
          refine wpAnyH_ready (rs := [8]) (by kernel_rfl) (by simp) ?_
          refine AllReadyH.cons rfl (fun K hK => ?_) AllReadyH.nil
          (try simp only [List.getElem_toArray]); (try simp only [List.getElem_cons_succ]); (try simp only [List.getElem_cons_zero])
          go_simp
          (go_at_call 22; refine (sign_int _ 0 (6 + 2) _ V16.out).mono ?_; rintro e wd1 ⟨rfl, hb⟩)
          rw [show cmpI 0 0 = 0 from rfl]
          replace V8 := Lib.hid (V8.out.below hb)
          replace V9 := Lib.hid (V9.out.below hb)
          replace V10 := Lib.hid (V10.out.below hb)
          replace V14 := Lib.hid (V14.out.below hb)
          replace V15 := Lib.hid (V15.out.below hb)
          replace V16 := Lib.hid (V16.out.below hb)
          replace V17 := Lib.hid (V17.out.below hb)
          replace V18 := Lib.hid (V18.out.below hb)
          replace hB := Below.trans hB (hb.mono hB.size)
          refine hK.out _ _ (HT.out _ hB) (fun hHeldn => ?_)
          clear hK K hHeldn
          try simp only [Act.put, List.setIfInBounds_toArray, List.set_cons_zero, List.set_cons_succ]
          clear hb
          refine wpAnyH_taken (i := 9) (d := some 123) (v := ?_) rfl rfl (by kernel_rfl) (by kernel_rfl) (by kernel_rfl) (fun _ _ _ h => h) (Or.inl ⟨by rfl, ?_⟩) (by first | assumption | exact HT.out _ hB) ?_
          rotate_left 1
          · (intro w hSw; (try dsimp only at hSw); go_simp; try with_reducible rfl)
          try simp only [Act.put, List.setIfInBounds_toArray, List.set_cons_zero, List.set_cons_succ]
          refine wpAnyH_taken (i := 10) (d := some 124) (v := ?_) rfl rfl (by kernel_rfl) (by kernel_rfl) (by kernel_rfl) (fun _ _ _ h => h) (Or.inl ⟨by rfl, ?_⟩) (by first | assumption | exact HT.out _ hB) ?_
          rotate_left 1
          · (intro w hSw; (try dsimp only at hSw); go_simp; try with_reducible rfl)
          try simp only [Act.put, List.setIfInBounds_toArray, List.set_cons_zero, List.set_cons_succ]
          refine wpAnyH_taken (i := 11) (d := some 125) (v := ?_) rfl rfl (by kernel_rfl) (by kernel_rfl) (by kernel_rfl) (fun _ _ _ h => h) (Or.inl ⟨by rfl, ?_⟩) (by first | assumption | exact HT.out _ hB) ?_
          rotate_left 1
          · (intro w hSw; (try dsimp only at hSw); go_simp; try with_reducible rfl)
          try simp only [Act.put, List.setIfInBounds_toArray, List.set_cons_zero, List.set_cons_succ]
          refine wpAnyH_taken (i := 12) (d := some 126) (v := ?_) rfl rfl (by kernel_rfl) (by kernel_rfl) (by kernel_rfl) (fun _ _ _ h => h) (Or.inl ⟨by rfl, ?_⟩) (by first | assumption | exact HT.out _ hB) ?_
          rotate_left 1
          · (intro w hSw; (try dsimp only at hSw); go_simp; try with_reducible rfl)
          try simp only [Act.put, List.setIfInBounds_toArray, List.set_cons_zero, List.set_cons_succ]
          refine wpAnyH_ready (rs := [13]) (by kernel_rfl) (by simp) ?_
          refine AllReadyH.cons rfl (fun K hK => ?_) AllReadyH.nil
          (try simp only [List.getElem_toArray]); (try simp only [List.getElem_cons_succ]); (try simp only [List.getElem_cons_zero])
          go_simp
          (go_at_call 22; refine (sign_int _ 0 (6 + 2) _ V18.out).mono ?_; rintro e wd2 ⟨rfl, hb⟩)
          rw [show cmpI 0 0 = 0 from rfl]
          replace V8 := Lib.hid (V8.out.below hb)
          replace V9 := Lib.hid (V9.out.below hb)
          replace V10 := Lib.hid (V10.out.below hb)
          replace V14 := Lib.hid (V14.out.below hb)
          replace V15 := Lib.hid (V15.out.below hb)
          replace V16 := Lib.hid (V16.out.below hb)
          replace V17 := Lib.hid (V17.out.below hb)
          replace V18 := Lib.hid (V18.out.below hb)
          replace hB := Below.trans hB (hb.mono hB.size)
          refine hK.out _ _ (HT.out _ hB) (fun hHeldn => ?_)
          clear hK K hHeldn
          try simp only [Act.put, List.setIfInBounds_toArray, List.set_cons_zero, List.set_cons_succ]
          clear hb
          refine wpAnyH_taken (i := 14) (d := some 128) (v := ?_) rfl rfl (by kernel_rfl) (by kernel_rfl) (by kernel_rfl) (fun _ _ _ h => h) (Or.inl ⟨by rfl, ?_⟩) (by first | assumption | exact HT.out _ hB) ?_
          rotate_left 1
          · (intro w hSw; (try dsimp only at hSw); go_simp; try with_reducible rfl)
          try simp only [Act.put, List.setIfInBounds_toArray, List.set_cons_zero, List.set_cons_succ]
          refine wpAnyH_taken (i := 15) (d := some 129) (v := ?_) rfl rfl (by kernel_rfl) (by kernel_rfl) (by kernel_rfl) (fun _ _ _ h => h) (Or.inl ⟨by rfl, ?_⟩) (by first | assumption | exact HT.out _ hB) ?_
          rotate_left 1
          · (intro w hSw; (try dsimp only at hSw); go_simp; try with_reducible rfl)
          try simp only [Act.put, List.setIfInBounds_toArray, List.set_cons_zero, List.set_cons_succ]
          refine wpAnyH_taken (i := 16) (d := some 130) (v := ?_) rfl rfl (by kernel_rfl) (by kernel_rfl) (by kernel_rfl) (fun _ _ _ h => h) (Or.inl ⟨by rfl, ?_⟩) (by first | assumption | exact HT.out _ hB) ?_
          rotate_left 1
          · (intro w hSw; (try dsimp only at hSw); go_simp; try with_reducible rfl)
          try simp only [Act.put, List.setIfInBounds_toArray, List.set_cons_zero, List.set_cons_succ]
          refine wpAnyH_taken (i := 17) (d := some 131) (v := ?_) rfl rfl (by kernel_rfl) (by kernel_rfl) (by kernel_rfl) (fun _ _ _ h => h) (Or.inl ⟨by rfl, ?_⟩) (by first | assumption | exact HT.out _ hB) ?_
          rotate_left 1
          · (intro w hSw; (try dsimp only at hSw); go_simp; try with_reducible rfl)
          try simp only [Act.put, List.setIfInBounds_toArray, List.set_cons_zero, List.set_cons_succ]
          refine wpAnyH_ready (rs := [18]) (by kernel_rfl) (by simp) ?_
          refine AllReadyH.cons rfl (fun K hK => ?_) AllReadyH.nil
          (try simp only [List.getElem_toArray]); (try simp only [List.getElem_cons_succ]); (try simp only [List.getElem_cons_zero])
          go_simp
          (go_at_call 22; refine (sign_int _ gg 6 _ V14.out).mono ?_; rintro e wd3 ⟨rfl, hb⟩)
          rw [cmpI_gt HG0.out]
          replace V8 := Lib.hid (V8.out.below hb)
          replace V9 := Lib.hid (V9.out.below hb)
          replace V10 := Lib.hid (V10.out.below hb)
          replace V14 := Lib.hid (V14.out.below hb)
          replace V15 := Lib.hid (V15.out.below hb)
          replace V16 := Lib.hid (V16.out.below hb)
          replace V17 := Lib.hid (V17.out.below hb)
          replace V18 := Lib.hid (V18.out.below hb)
          replace hB := Below.trans hB (hb.mono hB.size)
          refine hK.out _ _ (HT.out _ hB) (fun hHeldn => ?_)
          clear hK K hHeldn
          try simp only [Act.put, List.setIfInBounds_toArray, List.set_cons_zero, List.set_cons_succ]
          clear hb
          refine wpAnyH_taken (i := 19) (d := some 133) (v := ?_) rfl rfl (by kernel_rfl) (by kernel_rfl) (by kernel_rfl) (fun _ _ _ h => h) (Or.inl ⟨by rfl, ?_⟩) (by first | assumption | exact HT.out _ hB) ?_
          rotate_left 1
          · (intro w hSw; (try dsimp only at hSw); go_simp; try with_reducible rfl)
          try simp only [Act.put, List.setIfInBounds_toArray, List.set_cons_zero, List.set_cons_succ]
          refine wpAnyH_taken (i := 20) (d := some 134) (v := ?_) rfl rfl (by kernel_rfl) (by kernel_rfl) (by kernel_rfl) (fun _ _ _ h => h) (Or.inl ⟨by rfl, ?_⟩) (by first | assumption | exact HT.out _ hB) ?_
          rotate_left 1
          · (intro w hSw; (try dsimp only at hSw); go_simp; try with_reducible rfl)
          try simp only [Act.put, List.setIfInBounds_toArray, List.set_cons_zero, List.set_cons_succ]
          refine wpAnyH_taken (i := 21) (d := some 135) (v := ?_) rfl rfl (by kernel_rfl) (by kernel_rfl) (by kernel_rfl) (fun _ _ _ h => h) (Or.inl ⟨by rfl, ?_⟩) (by first | assumption | exact HT.out _ hB) ?_
          rotate_left 1
          · (intro w hSw; (try dsimp only at hSw); go_simp; try with_reducible rfl)
          try simp only [Act.put, List.setIfInBounds_toArray, List.set_cons_zero, List.set_cons_succ]
          refine wpAnyH_taken (i := 22) (d := some 136) (v := ?_) rfl rfl (by kernel_rfl) (by kernel_rfl) (by kernel_rfl) (fun _ _ _ h => h) (Or.inl ⟨by rfl, ?_⟩) (by first | assumption | exact HT.out _ hB) ?_
          rotate_left 1
          · (intro w hSw; (try dsimp only at hSw); go_simp; try with_reducible rfl)
          try simp only [Act.put, List.setIfInBounds_toArray, List.set_cons_zero, List.set_cons_succ]
          refine wpAnyH_taken (i := 23) (d := some 137) (v := ?_) rfl rfl (by kernel_rfl) (by kernel_rfl) (by kernel_rfl) (fun _ _ _ h => h) (Or.inl ⟨by rfl, ?_⟩) (by first | assumption | exact HT.out _ hB) ?_
          rotate_left 1
          · (intro w hSw; (try dsimp only at hSw); go_simp; try with_reducible rfl)
          try simp only [Act.put, List.setIfInBounds_toArray, List.set_cons_zero, List.set_cons_succ]
          refine wpAnyH_taken (i := 25) (d := some 139) (v := ?_) rfl rfl (by kernel_rfl) (by kernel_rfl) (by kernel_rfl) (fun _ _ _ h => h) (Or.inl ⟨by rfl, ?_⟩) (by first | assumption | exact HT.out _ hB) ?_
          rotate_left 1
          · (intro w hSw; (try dsimp only at hSw); go_simp; try with_reducible rfl)
          try simp only [Act.put, List.setIfInBounds_toArray, List.set_cons_zero, List.set_cons_succ]
          refine wpAnyH_taken (i := 26) (d := some 140) (v := ?_) rfl rfl (by kernel_rfl) (by kernel_rfl) (by kernel_rfl) (fun _ _ _ h => h) (Or.inl ⟨by rfl, ?_⟩) (by first | assumption | exact HT.out _ hB) ?_
          rotate_left 1
          · (intro w hSw; (try dsimp only at hSw); go_simp; try with_reducible rfl)
          try simp only [Act.put, List.setIfInBounds_toArray, List.set_cons_zero, List.set_cons_succ]
          refine wpAnyH_taken (i := 29) (d := some 143) (v := ?_) rfl rfl (by kernel_rfl) (by kernel_rfl) (by kernel_rfl) (fun _ _ _ h => h) (Or.inl ⟨by rfl, ?_⟩) (by first | assumption | exact HT.out _ hB) ?_
          rotate_left 1
          · (intro w hSw; (try dsimp only at hSw); go_simp; try with_reducible rfl)
          try simp only [Act.put, List.setIfInBounds_toArray, List.set_cons_zero, List.set_cons_succ]
          refine wpAnyH_taken (i := 30) (d := some 144) (v := ?_) rfl rfl (by kernel_rfl) (by kernel_rfl) (by kernel_rfl) (fun _ _ _ h => h) (Or.inl ⟨by rfl, ?_⟩) (by first | assumption | exact HT.out _ hB) ?_
          rotate_left 1
          · (intro w hSw; (try dsimp only at hSw); go_simp; try with_reducible rfl)
          try simp only [Act.put, List.setIfInBounds_toArray, List.set_cons_zero, List.set_cons_succ]
          refine wpAnyH_ready (rs := [24]) (by kernel_rfl) (by simp) ?_
          refine AllReadyH.cons rfl (fun K hK => ?_) AllReadyH.nil
          (try simp only [List.getElem_toArray]); (try simp only [List.getElem_cons_succ]); (try simp only [List.getElem_cons_zero])
          go_simp
          (go_at_call 42; refine (mul_t _ _ x z 6 6 _ V8.out V10.out (by decide) (by decide)).mono ?_; rintro e wd4 ⟨⟨gt5, At5, nt5, ct5, rfl, hz⟩, hb⟩)
          replace V8 := Lib.hid (V8.out.below hb)
          replace V9 := Lib.hid (V9.out.below hb)
          replace V10 := Lib.hid (V10.out.below hb)
          replace V14 := Lib.hid (V14.out.below hb)
          replace V15 := Lib.hid (V15.out.below hb)
          replace V16 := Lib.hid (V16.out.below hb)
          replace V17 := Lib.hid (V17.out.below hb)
          replace V18 := Lib.hid (V18.out.below hb)
          replace hB := Below.trans hB (hb.mono hB.size)
          have T5 := Lib.hid hz
          refine hK.out _ _ (HT.out _ hB) (fun hHeldn => ?_)
          clear hK K hHeldn
          try simp only [Act.put, List.setIfInBounds_toArray, List.set_cons_zero, List.set_cons_succ]
          clear hb hz
          refine wpAnyH_ready (rs := [27]) (by kernel_rfl) (by simp) ?_
          refine AllReadyH.cons rfl (fun K hK => ?_) AllReadyH.nil
          (try simp only [List.getElem_toArray]); (try simp only [List.getElem_cons_succ]); (try simp only [List.getElem_cons_zero])
          go_simp
          (go_at_call 42; refine (mul_t _ _ y z 6 6 _ V9.out V10.out (by decide) (by decide)).mono ?_; rintro e wd5 ⟨⟨gt6, At6, nt6, ct6, rfl, hz⟩, hb⟩)
          replace V8 := Lib.hid (V8.out.below hb)
          replace V9 := Lib.hid (V9.out.below hb)
          replace V10 := Lib.hid (V10.out.below hb)
          replace V14 := Lib.hid (V14.out.below hb)
          replace V15 := Lib.hid (V15.out.below hb)
          replace V16 := Lib.hid (V16.out.below hb)
          replace V17 := Lib.hid (V17.out.below hb)
          replace V18 := Lib.hid (V18.out.below hb)
          replace T5 := Lib.hid (T5.out.below hb)
          replace hB := Below.trans hB (hb.mono hB.size)
          have T6 := Lib.hid hz
          refine hK.out _ _ (HT.out _ hB) (fun hHeldn => ?_)
          clear hK K hHeldn
          try simp only [Act.put, List.setIfInBounds_toArray, List.set_cons_zero, List.set_cons_succ]
          clear hb hz
          refine wpAnyH_ready (rs := [28]) (by kernel_rfl) (by simp) ?_
          refine AllReadyH.cons rfl (fun K hK => ?_) AllReadyH.nil
          (try simp only [List.getElem_toArray]); (try simp only [List.getElem_cons_succ]); (try simp only [List.getElem_cons_zero])
          go_simp
          (go_at_call 44; refine (Gcd_int _ _ (x * z) (y * z) (6 + 6) _ T5.out T6.out (by decide) (by decide)).mono ?_; rintro e wd6 ⟨⟨gt7, At7, nt7, ct7, rfl, hz⟩, hb⟩)
          replace V8 := Lib.hid (V8.out.below hb)
          replace V9 := Lib.hid (V9.out.below hb)
          replace V10 := Lib.hid (V10.out.below hb)
          replace V14 := Lib.hid (V14.out.below hb)
          replace V15 := Lib.hid (V15.out.below hb)
          replace V16 := Lib.hid (V16.out.below hb)
          replace V17 := Lib.hid (V17.out.below hb)
          replace V18 := Lib.hid (V18.out.below hb)
          replace T5 := Lib.hid (T5.out.below hb)
          replace T6 := Lib.hid (T6.out.below hb)
          replace hB := Below.trans hB (hb.mono hB.size)
          clear T5
          clear T6
          have T7 := Lib.hid hz
          refine hK.out _ _ (HT.out _ hB) (fun hHeldn => ?_)
          clear hK K hHeldn
          try simp only [Act.put, List.setIfInBounds_toArray, List.set_cons_zero, List.set_cons_succ]
          clear hb hz
          refine wpAnyH_ready (rs := [31]) (by kernel_rfl) (by simp) ?_
          refine AllReadyH.cons rfl (fun K hK => ?_) AllReadyH.nil
          (try simp only [List.getElem_toArray]); (try simp only [List.getElem_cons_succ]); (try simp only [List.getElem_cons_zero])
          go_simp
          (go_at_call 36; refine (abs_int _ z 6 _ V10.out (by decide)).mono ?_; rintro e wd7 ⟨⟨gt8, At8, nt8, ct8, rfl, hz⟩, hb⟩)
          replace V8 := Lib.hid (V8.out.below hb)
          replace V9 := Lib.hid (V9.out.below hb)
          replace V10 := Lib.hid (V10.out.below hb)
          replace V14 := Lib.hid (V14.out.below hb)
          replace V15 := Lib.hid (V15.out.below hb)
          replace V16 := Lib.hid (V16.out.below hb)
          replace V17 := Lib.hid (V17.out.below hb)
          replace V18 := Lib.hid (V18.out.below hb)
          replace T7 := Lib.hid (T7.out.below hb)
          replace hB := Below.trans hB (hb.mono hB.size)
          have T8 := Lib.hid hz
          refine hK.out _ _ (HT.out _ hB) (fun hHeldn => ?_)
          clear hK K hHeldn
          try simp only [Act.put, List.setIfInBounds_toArray, List.set_cons_zero, List.set_cons_succ]
          clear hb hz
          refine wpAnyH_ready (rs := [32]) (by kernel_rfl) (by simp) ?_
          refine AllReadyH.cons rfl (fun K hK => ?_) AllReadyH.nil
          (try simp only [List.getElem_toArray]); (try simp only [List.getElem_cons_succ]); (try simp only [List.getElem_cons_zero])
          go_simp
          (go_at_call 42; refine (mul_t _ _ gg (if z < 0 then -z else z) 6 6 _ V14.out T8.out (by decide) (by decide)).mono ?_; rintro e wd8 ⟨⟨gt9, At9, nt9, ct9, rfl, hz⟩, hb⟩)
          replace V8 := Lib.hid (V8.out.below hb)
          replace V9 := Lib.hid (V9.out.below hb)
          replace V10 := Lib.hid (V10.out.below hb)
          replace V14 := Lib.hid (V14.out.below hb)
          replace V15 := Lib.hid (V15.out.below hb)
          replace V16 := Lib.hid (V16.out.below hb)
          replace V17 := Lib.hid (V17.out.below hb)
          replace V18 := Lib.hid (V18.out.below hb)
          replace T7 := Lib.hid (T7.out.below hb)
          replace T8 := Lib.hid (T8.out.below hb)
          replace hB := Below.trans hB (hb.mono hB.size)
          clear T8
          have T9 := Lib.hid hz
          refine hK.out _ _ (HT.out _ hB) (fun hHeldn => ?_)
          clear hK K hHeldn
          try simp only [Act.put, List.setIfInBounds_toArray, List.set_cons_zero, List.set_cons_succ]
          clear hb hz
          refine wpAnyH_ready (rs := [33]) (by kernel_rfl) (by simp) ?_
          refine AllReadyH.cons rfl (fun K hK => ?_) AllReadyH.nil
          (try simp only [List.getElem_toArray]); (try simp only [List.getElem_cons_succ]); (try simp only [List.getElem_cons_zero])
          go_simp
          (go_at_call 65; refine (same_yes _ _ (Int.gcd (x * z) (y * z) : Int) (gg * (if z < 0 then -z else z)) (6 + 6) (6 + 6) _ T7.out T9.out (by decide) (by decide) (by rw [← HGG.out]; exact gcd_scale x y z)).mono ?_; rintro e wd9 ⟨rfl, hb⟩)
          replace V8 := Lib.hid (V8.out.below hb)
          replace V9 := Lib.hid (V9.out.below hb)
          replace V10 := Lib.hid (V10.out.below hb)
          replace V14 := Lib.hid (V14.out.below hb)
          replace V15 := Lib.hid (V15.out.below hb)
          replace V16 := Lib.hid (V16.out.below hb)
          replace V17 := Lib.hid (V17.out.below hb)
          replace V18 := Lib.hid (V18.out.below hb)
          replace T7 := Lib.hid (T7.out.below hb)
          replace T9 := Lib.hid (T9.out.below hb)
          replace hB := Below.trans hB (hb.mono hB.size)
          clear T7
          clear T9
          refine hK.out _ _ (HT.out _ hB) (fun hHeldn => ?_)
          clear hK K hHeldn
          try simp only [Act.put, List.setIfInBounds_toArray, List.set_cons_zero, List.set_cons_succ]
          clear hb
          refine wpAnyH_taken (i := 34) (d := some 148) (v := ?_) rfl rfl (by kernel_rfl) (by kernel_rfl) (by kernel_rfl) (fun _ _ _ h => h) (Or.inl ⟨by rfl, ?_⟩) (by first | assumption | exact HT.out _ hB) ?_
          rotate_left 1
          · (intro w hSw; (try dsimp only at hSw); go_simp; try with_reducible rfl)
          try simp only [Act.put, List.setIfInBounds_toArray, List.set_cons_zero, List.set_cons_succ]
          refine wpAnyH_taken (i := 35) (d := some 149) (v := ?_) rfl rfl (by kernel_rfl) (by kernel_rfl) (by kernel_rfl) (fun _ _ _ h => h) (Or.inl ⟨by rfl, ?_⟩) (by first | assumption | exact HT.out _ hB) ?_
          rotate_left 1
          · (intro w hSw; (try dsimp only at hSw); go_simp; try with_reducible rfl)
          try simp only [Act.put, List.setIfInBounds_toArray, List.set_cons_zero, List.set_cons_succ]
          refine wpAnyH_done (by kernel_rfl) ?_ _
          replace b8 := Lib.hid (b8.out.below hB)
          replace b9 := Lib.hid (b9.out.below hB)
          replace b10 := Lib.hid (b10.out.below hB)
          replace b14 := Lib.hid (b14.out.below hB)
          replace b15 := Lib.hid (b15.out.below hB)
          replace b16 := Lib.hid (b16.out.below hB)
          replace b17 := Lib.hid (b17.out.below hB)
          replace b18 := Lib.hid (b18.out.below hB)
          replace hw := hw.trans (hB.mono hw.size)
          clear b15 V15
          clear b16 V16
          clear b17 V17
          clear b18 V18
          obtain ⟨c8a, c8b, c8f, c8g, c8s⟩ := b8.out
          obtain ⟨c10a, c10b, c10f, c10g, c10s⟩ := b10.out
          go_wp2_with fail
          refine (DivideE_int _ _ x z 6 6 _ V8.out V10.out (by decide) (by decide)).mono ?_
          rintro e w10 ⟨⟨g20, A20, n20, d20, g21, A21, n21, d21, rfl, hv, hr⟩, hb⟩
          clear c8a c8b c8f c8g c8s c10a c10b c10f c10g c10s
          replace b8 := Lib.hid (b8.out.below hb)
          replace V8 := Lib.hid (V8.out.below hb)
          replace b9 := Lib.hid (b9.out.below hb)
          replace V9 := Lib.hid (V9.out.below hb)
          replace b10 := Lib.hid (b10.out.below hb)
          replace V10 := Lib.hid (V10.out.below hb)
          replace b14 := Lib.hid (b14.out.below hb)
          replace V14 := Lib.hid (V14.out.below hb)
          replace hw := hw.trans (hb.mono hw.size)
          have hX := below_two w10 (.cells #[.bool g20, .slice A20 n20 d20] 28) (.cells #[.bool g21, .slice A21 n21 d21] 28)
          replace b8 := Lib.hid (b8.out.below hX)
          replace V8 := Lib.hid (V8.out.below hX)
          replace b9 := Lib.hid (b9.out.below hX)
          replace V9 := Lib.hid (V9.out.below hX)
          replace b10 := Lib.hid (b10.out.below hX)
          replace V10 := Lib.hid (V10.out.below hX)
          replace b14 := Lib.hid (b14.out.below hX)
          replace V14 := Lib.hid (V14.out.below hX)
          replace hw := hw.trans (hX.mono hw.size)
          have b20 := Lib.hid (Fx.new1 w10 g20 g21 (.slice A20 n20 d20) (.slice A21 n21 d21) 28 28)
          have b21 := Lib.hid (Fx.new2 w10 g20 g21 (.slice A20 n20 d20) (.slice A21 n21 d21) 28 28)
          have V20 := Lib.hid (hv.below hX)
          have V21 := Lib.hid (hr.below hX)
          clear hX hb hv hr
          by_cases hz0 : z = 0
          · skip
            have hde : divE z = 6 := if_pos hz0
            clear hz0
            go_wp2_with fail
            refine (awake_any _).mono ?_
            rintro e wz ⟨rfl, hb⟩
            go_wp2
            go_ret
            exact ⟨rfl, hw.trans (hb.mono hw.size)⟩
          · skip
            have hde : divE z = 0 := if_neg hz0
            have hdr : divR x z = x.tmod z := if_neg hz0
            rw [hdr] at V21
            clear hdr
            have HZ0 := Lib.hid hz0
            clear hz0
            obtain ⟨c21a, c21b, c21f, c21g, c21s⟩ := b21.out
            go_wp2_with fail
            refine (sign_int _ (x.tmod z) (6 + 2) _ V21.out).mono ?_
            rintro e w11 ⟨rfl, hb⟩
            clear c21a c21b c21f c21g c21s
            replace b8 := Lib.hid (b8.out.below hb)
            replace V8 := Lib.hid (V8.out.below hb)
            replace b9 := Lib.hid (b9.out.below hb)
            replace V9 := Lib.hid (V9.out.below hb)
            replace b10 := Lib.hid (b10.out.below hb)
            replace V10 := Lib.hid (V10.out.below hb)
            replace b14 := Lib.hid (b14.out.below hb)
            replace V14 := Lib.hid (V14.out.below hb)
            replace b20 := Lib.hid (b20.out.below hb)
            replace V20 := Lib.hid (V20.out.below hb)
            replace b21 := Lib.hid (b21.out.below hb)
            replace V21 := Lib.hid (V21.out.below hb)
            replace hw := hw.trans (hb.mono hw.size)
            clear hb
            by_cases hu0 : x.tmod z = 0
            · skip
              have hcm : (cmpI (x.tmod z) 0 == 0) = true := by rw [cmpI_eq hu0]; decide
              have HU0 := Lib.hid hu0
              clear hu0
              clear b20 V20
              clear b21 V21
              obtain ⟨c9a, c9b, c9f, c9g, c9s⟩ := b9.out
              obtain ⟨c10a, c10b, c10f, c10g, c10s⟩ := b10.out
              go_wp2_with fail
              refine (DivideE_int _ _ y z 6 6 _ V9.out V10.out (by decide) (by decide)).mono ?_
              rintro e w12 ⟨⟨g23, A23, n23, d23, g24, A24, n24, d24, rfl, hv, hr⟩, hb⟩
              rw [show divR y z = y.tmod z from if_neg HZ0.out] at hr
              clear c9a c9b c9f c9g c9s c10a c10b c10f c10g c10s
              replace b8 := Lib.hid (b8.out.below hb)
              replace V8 := Lib.hid (V8.out.below hb)
              replace b9 := Lib.hid (b9.out.below hb)
              replace V9 := Lib.hid (V9.out.below hb)
              replace b10 := Lib.hid (b10.out.below hb)
              replace V10 := Lib.hid (V10.out.below hb)
              replace b14 := Lib.hid (b14.out.below hb)
              replace V14 := Lib.hid (V14.out.below hb)
              replace hw := hw.trans (hb.mono hw.size)
              have hX := below_two w12 (.cells #[.bool g23, .slice A23 n23 d23] 28) (.cells #[.bool g24, .slice A24 n24 d24] 28)
              replace b8 := Lib.hid (b8.out.below hX)
              replace V8 := Lib.hid (V8.out.below hX)
              replace b9 := Lib.hid (b9.out.below hX)
              replace V9 := Lib.hid (V9.out.below hX)
              replace b10 := Lib.hid (b10.out.below hX)
              replace V10 := Lib.hid (V10.out.below hX)
              replace b14 := Lib.hid (b14.out.below hX)
              replace V14 := Lib.hid (V14.out.below hX)
              replace hw := hw.trans (hX.mono hw.size)
              have b23 := Lib.hid (Fx.new1 w12 g23 g24 (.slice A23 n23 d23) (.slice A24 n24 d24) 28 28)
              have b24 := Lib.hid (Fx.new2 w12 g23 g24 (.slice A23 n23 d23) (.slice A24 n24 d24) 28 28)
              have V23 := Lib.hid (hv.below hX)
              have V24 := Lib.hid (hr.below hX)
              clear hX hb hv hr
              obtain ⟨c14a, c14b, c14f, c14g, c14s⟩ := b14.out
              obtain ⟨c10a, c10b, c10f, c10g, c10s⟩ := b10.out
              go_wp2_with fail
              refine (DivideE_int _ _ gg z 6 6 _ V14.out V10.out (by decide) (by decide)).mono ?_
              rintro e w13 ⟨⟨g26, A26, n26, d26, g27, A27, n27, d27, rfl, hv, hr⟩, hb⟩
              rw [show divR gg z = gg.tmod z from if_neg HZ0.out] at hr
              clear c14a c14b c14f c14g c14s c10a c10b c10f c10g c10s
              replace b8 := Lib.hid (b8.out.below hb)
              replace V8 := Lib.hid (V8.out.below hb)
              replace b9 := Lib.hid (b9.out.below hb)
              replace V9 := Lib.hid (V9.out.below hb)
              replace b10 := Lib.hid (b10.out.below hb)
              replace V10 := Lib.hid (V10.out.below hb)
              replace b14 := Lib.hid (b14.out.below hb)
              replace V14 := Lib.hid (V14.out.below hb)
              replace b23 := Lib.hid (b23.out.below hb)
              replace V23 := Lib.hid (V23.out.below hb)
              replace b24 := Lib.hid (b24.out.below hb)
              replace V24 := Lib.hid (V24.out.below hb)
              replace hw := hw.trans (hb.mono hw.size)
              have hX := below_two w13 (.cells #[.bool g26, .slice A26 n26 d26] 28) (.cells #[.bool g27, .slice A27 n27 d27] 28)
              replace b8 := Lib.hid (b8.out.below hX)
              replace V8 := Lib.hid (V8.out.below hX)
              replace b9 := Lib.hid (b9.out.below hX)
              replace V9 := Lib.hid (V9.out.below hX)
              replace b10 := Lib.hid (b10.out.below hX)
              replace V10 := Lib.hid (V10.out.below hX)
              replace b14 := Lib.hid (b14.out.below hX)
              replace V14 := Lib.hid (V14.out.below hX)
              replace b23 := Lib.hid (b23.out.below hX)
              replace V23 := Lib.hid (V23.out.below hX)
              replace b24 := Lib.hid (b24.out.below hX)
              replace V24 := Lib.hid (V24.out.below hX)
              replace hw := hw.trans (hX.mono hw.size)
              have b26 := Lib.hid (Fx.new1 w13 g26 g27 (.slice A26 n26 d26) (.slice A27 n27 d27) 28 28)
              have b27 := Lib.hid (Fx.new2 w13 g26 g27 (.slice A26 n26 d26) (.slice A27 n27 d27) 28 28)
              have V26 := Lib.hid (hv.below hX)
              have V27 := Lib.hid (hr.below hX)
              clear hX hb hv hr
              obtain ⟨c24a, c24b, c24f, c24g, c24s⟩ := b24.out
              obtain ⟨c27a, c27b, c27f, c27g, c27s⟩ := b27.out
              go_wp2_with fail
              refine (sign_int _ (y.tmod z) (6 + 2) _ V24.out).mono ?_
              rintro e w14 ⟨rfl, hb⟩
              clear c24a c24b c24f c24g c24s c27a c27b c27f c27g c27s
              replace b8 := Lib.hid (b8.out.below hb)
              replace V8 := Lib.hid (V8.out.below hb)
              replace b9 := Lib.hid (b9.out.below hb)
              replace V9 := Lib.hid (V9.out.below hb)
              replace b10 := Lib.hid (b10.out.below hb)
              replace V10 := Lib.hid (V10.out.below hb)
              replace b14 := Lib.hid (b14.out.below hb)
              replace V14 := Lib.hid (V14.out.below hb)
              replace b23 := Lib.hid (b23.out.below hb)
              replace V23 := Lib.hid (V23.out.below hb)
              replace b24 := Lib.hid (b24.out.below hb)
              replace V24 := Lib.hid (V24.out.below hb)
              replace b26 := Lib.hid (b26.out.below hb)
              replace V26 := Lib.hid (V26.out.below hb)
              replace b27 := Lib.hid (b27.out.below hb)
              replace V27 := Lib.hid (V27.out.below hb)
              replace hw := hw.trans (hb.mono hw.size)
              clear hb
              by_cases hv0 : y.tmod z = 0
              · skip
                have hcv : (cmpI (y.tmod z) 0 == 0) = true := by rw [cmpI_eq hv0]; decide
                have hw0 : gg.tmod z = 0 := by rw [← HGG.out]; exact Int.tmod_eq_zero_of_dvd (Int.dvd_coe_gcd (Int.dvd_of_tmod_eq_zero HU0.out) (Int.dvd_of_tmod_eq_zero hv0))
                rw [hw0] at V27
                clear hw0 hv0
                obtain ⟨c27a, c27b, c27f, c27g, c27s⟩ := b27.out
                go_wp2_with fail
                refine (sign_int _ 0 (6 + 2) _ V27.out).mono ?_
                rintro e w15 ⟨rfl, hb⟩
                rw [show cmpI 0 0 = 0 from rfl]
                clear c27a c27b c27f c27g c27s
                replace b8 := Lib.hid (b8.out.below hb)
                replace V8 := Lib.hid (V8.out.below hb)
                replace b9 := Lib.hid (b9.out.below hb)
                replace V9 := Lib.hid (V9.out.below hb)
                replace b10 := Lib.hid (b10.out.below hb)
                replace V10 := Lib.hid (V10.out.below hb)
                replace b14 := Lib.hid (b14.out.below hb)
                replace V14 := Lib.hid (V14.out.below hb)
                replace b23 := Lib.hid (b23.out.below hb)
                replace V23 := Lib.hid (V23.out.below hb)
                replace b24 := Lib.hid (b24.out.below hb)
                replace V24 := Lib.hid (V24.out.below hb)
                replace b26 := Lib.hid (b26.out.below hb)
                replace V26 := Lib.hid (V26.out.below hb)
                replace b27 := Lib.hid (b27.out.below hb)
                replace V27 := Lib.hid (V27.out.below hb)
                replace hw := hw.trans (hb.mono hw.size)
                clear hb
                go_wp2_with fail
                refine (awake_any _).mono ?_
                rintro e wz ⟨rfl, hb⟩
                go_wp2
                go_ret
                exact ⟨rfl, hw.trans (hb.mono hw.size)⟩
              · skip
                have hcv : (cmpI (y.tmod z) 0 == 0) = false := cmp_ne hv0
                clear hv0
                go_wp2_with fail
                refine (awake_any _).mono ?_
                rintro e wz ⟨rfl, hb⟩
                go_wp2
                go_ret
                exact ⟨rfl, hw.trans (hb.mono hw.size)⟩
            · skip
              have hcm : (cmpI (x.tmod z) 0 == 0) = false := cmp_ne hu0
              clear hu0
              go_wp2_with fail
              refine (awake_any _).mono ?_
              rintro e wz ⟨rfl, hb⟩
              go_wp2
              go_ret
              exact ⟨rfl, hw.trans (hb.mono hw.size)⟩
        · skip
          have hsr : (cmpI r 0 != 0) = true := by simp [bne, cmp_ne hr0]
          have hss : cmpI r 0 = cmpI x 0 := HSG.out hr0
          have HSS := Lib.hid hss
          obtain ⟨sg, hsg⟩ : ∃ sg, cmpI x 0 = sg := ⟨_, rfl⟩
          rw [hss, hsg] at hsr
          have HSX := Lib.hid hsg
          clear hr0 hss hsg
          have HT := Lib.hid (fun (w' : World) (hb : Below w6.heap.size w6 w') => (show w'.cell? ⟨b8n, 0, none⟩ = some (.bool g8) ∧ w'.cell? ⟨b8n, 1, none⟩ = some (.slice A8 n8 c8) ∧ w'.cell? ⟨b9n, 0, none⟩ = some (.bool g9) ∧ w'.cell? ⟨b9n, 1, none⟩ = some (.slice A9 n9 c9) ∧ w'.cell? ⟨w5.heap.size, 0, none⟩ = some (.bool g11) ∧ w'.cell? ⟨w5.heap.size, 1, none⟩ = some (.slice A11 n11 d11) ∧ w'.cell? ⟨w5.heap.size + 1, 0, none⟩ = some (.bool g12) ∧ w'.cell? ⟨w5.heap.size + 1, 1, none⟩ = some (.slice A12 n12 d12) ∧ Below w6.heap.size w6 w' from ⟨(b8.out.below hb).1, (b8.out.below hb).2.1, (b9.out.below hb).1, (b9.out.below hb).2.1, (b11.out.below hb).1, (b11.out.below hb).2.1, (b12.out.below hb).1, (b12.out.below hb).2.1, hb⟩))
          have hB := (Below.refl w6.heap.size w6).drew
          replace V8 := Lib.hid (V8.out.below hB)
          replace V9 := Lib.hid (V9.out.below hB)
          replace V10 := Lib.hid (V10.out.below hB)
          replace V11 := Lib.hid (V11.out.below hB)
          replace V12 := Lib.hid (V12.out.below hB)
          refine wp_region_held_drew (S := fun w' => w'.cell? ⟨b8n, 0, none⟩ = some (.bool g8) ∧ w'.cell? ⟨b8n, 1, none⟩ = some (.slice A8 n8 c8) ∧ w'.cell? ⟨b9n, 0, none⟩ = some (.bool g9) ∧ w'.cell? ⟨b9n, 1, none⟩ = some (.slice A9 n9 c9) ∧ w'.cell? ⟨w5.heap.size, 0, none⟩ = some (.bool g11) ∧ w'.cell? ⟨w5.heap.size, 1, none⟩ = some (.slice A11 n11 d11) ∧ w'.cell? ⟨w5.heap.size + 1, 0, none⟩ = some (.bool g12) ∧ w'.cell? ⟨w5.heap.size + 1, 1, none⟩ = some (.slice A12 n12 d12) ∧ Below w6.heap.size w6 w') (by kernel_rfl) (HT.out _ hB) (fun hHeldn => ?_)
          clear hHeldn
          generalize w6.drew = wr0 at *
          refine wpAnyH_taken (i := 0) (d := some 65) (v := ?_) rfl rfl (by kernel_rfl) (by kernel_rfl) (by kernel_rfl) (fun _ _ _ h => h) (Or.inl ⟨by rfl, ?_⟩) (by first | assumption | exact HT.out _ hB) ?_
          rotate_left 1
          · (intro w hSw; (try dsimp only at hSw); go_simp; try with_reducible rfl)
          try simp only [Act.put, List.setIfInBounds_toArray, List.set_cons_zero, List.set_cons_succ]
          refine wpAnyH_taken (i := 1) (d := some 66) (v := ?_) rfl rfl (by kernel_rfl) (by kernel_rfl) (by kernel_rfl) (fun _ _ _ h => h) (Or.inl ⟨by rfl, ?_⟩) (by first | assumption | exact HT.out _ hB) ?_
          rotate_left 1
          · (intro w hSw; (try dsimp only at hSw); go_simp; try with_reducible rfl)
          try simp only [Act.put, List.setIfInBounds_toArray, List.set_cons_zero, List.set_cons_succ]
          refine wpAnyH_taken (i := 2) (d := some 67) (v := ?_) rfl rfl (by kernel_rfl) (by kernel_rfl) (by kernel_rfl) (fun _ _ _ h => h) (Or.inl ⟨by rfl, ?_⟩) (by first | assumption | exact HT.out _ hB) ?_
          rotate_left 1
          · (intro w hSw; (try dsimp only at hSw); go_simp; try with_reducible rfl)
          try simp only [Act.put, List.setIfInBounds_toArray, List.set_cons_zero, List.set_cons_succ]
          refine wpAnyH_taken (i := 3) (d := some 68) (v := ?_) rfl rfl (by kernel_rfl) (by kernel_rfl) (by kernel_rfl) (fun _ _ _ h => h) (Or.inl ⟨by rfl, ?_⟩) (by first | assumption | exact HT.out _ hB) ?_
          rotate_left 1
          · (intro w hSw; (try dsimp only at hSw); go_simp; try with_reducible rfl)
          try simp only [Act.put, List.setIfInBounds_toArray, List.set_cons_zero, List.set_cons_succ]
          refine wpAnyH_taken (i := 4) (d := some 69) (v := ?_) rfl rfl (by kernel_rfl) (by kernel_rfl) (by kernel_rfl) (fun _ _ _ h => h) (Or.inl ⟨by rfl, ?_⟩) (by first | assumption | exact HT.out _ hB) ?_
          rotate_left 1
          · (intro w hSw; (try dsimp only at hSw); go_simp; try with_reducible rfl)
          try simp only [Act.put, List.setIfInBounds_toArray, List.set_cons_zero, List.set_cons_succ]
          refine wpAnyH_taken (i := 6) (d := some 71) (v := ?_) rfl rfl (by kernel_rfl) (by kernel_rfl) (by kernel_rfl) (fun _ _ _ h => h) (Or.inl ⟨by rfl, ?_⟩) (by first | assumption | exact HT.out _ hB) ?_
          rotate_left 1
          · (intro w hSw; (try dsimp only at hSw); go_simp; try with_reducible rfl)
          try simp only [Act.put, List.setIfInBounds_toArray, List.set_cons_zero, List.set_cons_succ]
          refine wpAnyH_taken (i := 8) (d := some 73) (v := ?_) rfl rfl (by kernel_rfl) (by kernel_rfl) (by kernel_rfl) (fun _ _ _ h => h) (Or.inl ⟨by rfl, ?_⟩) (by first | assumption | exact HT.out _ hB) ?_
          rotate_left 1
          · (intro w hSw; (try dsimp only at hSw); go_simp; try with_reducible rfl)
          try simp only [Act.put, List.setIfInBounds_toArray, List.set_cons_zero, List.set_cons_succ]
          refine wpAnyH_ready (rs := [5]) (by kernel_rfl) (by simp) ?_
          refine AllReadyH.cons rfl (fun K hK => ?_) AllReadyH.nil
          (try simp only [List.getElem_toArray]); (try simp only [List.getElem_cons_succ]); (try simp only [List.getElem_cons_zero])
          go_simp
          (go_at_call 42; refine (mul_t _ _ y q 6 8 _ V9.out V11.out (by decide) (by decide)).mono ?_; rintro e wc1 ⟨⟨gt1, At1, nt1, ct1, rfl, hz⟩, hb⟩)
          replace V8 := Lib.hid (V8.out.below hb)
          replace V9 := Lib.hid (V9.out.below hb)
          replace V10 := Lib.hid (V10.out.below hb)
          replace V11 := Lib.hid (V11.out.below hb)
          replace V12 := Lib.hid (V12.out.below hb)
          replace hB := Below.trans hB (hb.mono hB.size)
          have T1 := Lib.hid hz
          refine hK.out _ _ (HT.out _ hB) (fun hHeldn => ?_)
          clear hK K hHeldn
          try simp only [Act.put, List.setIfInBounds_toArray, List.set_cons_zero, List.set_cons_succ]
          clear hb hz
          refine wpAnyH_ready (rs := [7]) (by kernel_rfl) (by simp) ?_
          refine AllReadyH.cons rfl (fun K hK => ?_) AllReadyH.nil
          (try simp only [List.getElem_toArray]); (try simp only [List.getElem_cons_succ]); (try simp only [List.getElem_cons_zero])
          go_simp
          (go_at_call 38; refine (add_t _ _ (y * q) r (6 + 8) 8 _ T1.out V12.out (by decide) (by decide)).mono ?_; rintro e wc2 ⟨⟨gt2, At2, nt2, ct2, rfl, hz⟩, hb⟩)
          replace V8 := Lib.hid (V8.out.below hb)
          replace V9 := Lib.hid (V9.out.below hb)
          replace V10 := Lib.hid (V10.out.below hb)
          replace V11 := Lib.hid (V11.out.below hb)
          replace V12 := Lib.hid (V12.out.below hb)
          replace T1 := Lib.hid (T1.out.below hb)
          replace hB := Below.trans hB (hb.mono hB.size)
          clear T1
          have T2 := Lib.hid hz
          refine hK.out _ _ (HT.out _ hB) (fun hHeldn => ?_)
          clear hK K hHeldn
          try simp only [Act.put, List.setIfInBounds_toArray, List.set_cons_zero, List.set_cons_succ]
          clear hb hz
          refine wpAnyH_ready (rs := [9]) (by kernel_rfl) (by simp) ?_
          refine AllReadyH.cons rfl (fun K hK => ?_) AllReadyH.nil
          (try simp only [List.getElem_toArray]); (try simp only [List.getElem_cons_succ]); (try simp only [List.getElem_cons_zero])
          go_simp
          (go_at_call 65; refine (same_yes _ _ (y * q + r) x (max (6 + 8) 8 + 1) 6 _ T2.out V8.out (by decide) (by decide) HQR.out).mono ?_; rintro e wc3 ⟨rfl, hb⟩)
          replace V8 := Lib.hid (V8.out.below hb)
          replace V9 := Lib.hid (V9.out.below hb)
          replace V10 := Lib.hid (V10.out.below hb)
          replace V11 := Lib.hid (V11.out.below hb)
          replace V12 := Lib.hid (V12.out.below hb)
          replace T2 := Lib.hid (T2.out.below hb)
          replace hB := Below.trans hB (hb.mono hB.size)
          clear T2
          refine hK.out _ _ (HT.out _ hB) (fun hHeldn => ?_)
          clear hK K hHeldn
          try simp only [Act.put, List.setIfInBounds_toArray, List.set_cons_zero, List.set_cons_succ]
          clear hb
          refine wpAnyH_taken (i := 10) (d := some 75) (v := ?_) rfl rfl (by kernel_rfl) (by kernel_rfl) (by kernel_rfl) (fun _ _ _ h => h) (Or.inl ⟨by rfl, ?_⟩) (by first | assumption | exact HT.out _ hB) ?_
          rotate_left 1
          · (intro w hSw; (try dsimp only at hSw); go_simp; try with_reducible rfl)
          try simp only [Act.put, List.setIfInBounds_toArray, List.set_cons_zero, List.set_cons_succ]
          refine wpAnyH_taken (i := 11) (d := some 76) (v := ?_) rfl rfl (by kernel_rfl) (by kernel_rfl) (by kernel_rfl) (fun _ _ _ h => h) (Or.inl ⟨by rfl, ?_⟩) (by first | assumption | exact HT.out _ hB) ?_
          rotate_left 1
          · (intro w hSw; (try dsimp only at hSw); go_simp; try with_reducible rfl)
          try simp only [Act.put, List.setIfInBounds_toArray, List.set_cons_zero, List.set_cons_succ]
          refine wpAnyH_taken (i := 12) (d := some 77) (v := ?_) rfl rfl (by kernel_rfl) (by kernel_rfl) (by kernel_rfl) (fun _ _ _ h => h) (Or.inl ⟨by rfl, ?_⟩) (by first | assumption | exact HT.out _ hB) ?_
          rotate_left 1
          · (intro w hSw; (try dsimp only at hSw); go_simp; try with_reducible rfl)
          try simp only [Act.put, List.setIfInBounds_toArray, List.set_cons_zero, List.set_cons_succ]
          refine wpAnyH_taken (i := 13) (d := some 78) (v := ?_) rfl rfl (by kernel_rfl) (by kernel_rfl) (by kernel_rfl) (fun _ _ _ h => h) (Or.inl ⟨by rfl, ?_⟩) (by first | assumption | exact HT.out _ hB) ?_
          rotate_left 1
          · (intro w hSw; (try dsimp only at hSw); go_simp; try with_reducible rfl)
          try simp only [Act.put, List.setIfInBounds_toArray, List.set_cons_zero, List.set_cons_succ]
          refine wpAnyH_taken (i := 15) (d := some 80) (v := ?_) rfl rfl (by kernel_rfl) (by kernel_rfl) (by kernel_rfl) (fun _ _ _ h => h) (Or.inl ⟨by rfl, ?_⟩) (by first | assumption | exact HT.out _ hB) ?_
          rotate_left 1
          · (intro w hSw; (try dsimp only at hSw); go_simp; try with_reducible rfl)
          try simp only [Act.put, List.setIfInBounds_toArray, List.set_cons_zero, List.set_cons_succ]
          refine wpAnyH_ready (rs := [14]) (by kernel_rfl) (by simp) ?_
          refine AllReadyH.cons rfl (fun K hK => ?_) AllReadyH.nil
          (try simp only [List.getElem_toArray]); (try simp only [List.getElem_cons_succ]); (try simp only [List.getElem_cons_zero])
          go_simp
          (go_at_call 36; refine (abs_int _ r 8 _ V12.out (by decide)).mono ?_; rintro e wc4 ⟨⟨gt3, At3, nt3, ct3, rfl, hz⟩, hb⟩)
          replace V8 := Lib.hid (V8.out.below hb)
          replace V9 := Lib.hid (V9.out.below hb)
          replace V10 := Lib.hid (V10.out.below hb)
          replace V11 := Lib.hid (V11.out.below hb)
          replace V12 := Lib.hid (V12.out.below hb)
          replace hB := Below.trans hB (hb.mono hB.size)
          have T3 := Lib.hid hz
          refine hK.out _ _ (HT.out _ hB) (fun hHeldn => ?_)
          clear hK K hHeldn
          try simp only [Act.put, List.setIfInBounds_toArray, List.set_cons_zero, List.set_cons_succ]
          clear hb hz
          refine wpAnyH_ready (rs := [16]) (by kernel_rfl) (by simp) ?_
          refine AllReadyH.cons rfl (fun K hK => ?_) AllReadyH.nil
          (try simp only [List.getElem_toArray]); (try simp only [List.getElem_cons_succ]); (try simp only [List.getElem_cons_zero])
          go_simp
          (go_at_call 36; refine (abs_int _ y 6 _ V9.out (by decide)).mono ?_; rintro e wc5 ⟨⟨gt4, At4, nt4, ct4, rfl, hz⟩, hb⟩)
          replace V8 := Lib.hid (V8.out.below hb)
          replace V9 := Lib.hid (V9.out.below hb)
          replace V10 := Lib.hid (V10.out.below hb)
          replace V11 := Lib.hid (V11.out.below hb)
          replace V12 := Lib.hid (V12.out.below hb)
          replace T3 := Lib.hid (T3.out.below hb)
          replace hB := Below.trans hB (hb.mono hB.size)
          have T4 := Lib.hid hz
          refine hK.out _ _ (HT.out _ hB) (fun hHeldn => ?_)
          clear hK K hHeldn
          try simp only [Act.put, List.setIfInBounds_toArray, List.set_cons_zero, List.set_cons_succ]
          clear hb hz
          refine wpAnyH_ready (rs := [17]) (by kernel_rfl) (by simp) ?_
          refine AllReadyH.cons rfl (fun K hK => ?_) AllReadyH.nil
          (try simp only [List.getElem_toArray]); (try simp only [List.getElem_cons_succ]); (try simp only [List.getElem_cons_zero])
          go_simp
          (go_at_call 32; refine (cmp_int _ _ (if r < 0 then -r else r) (if y < 0 then -y else y) 8 6 _ T3.out T4.out (by decide) (by decide)).mono ?_; rintro e wc6 ⟨rfl, hb⟩)
          obtain ⟨cc, hcc⟩ : ∃ cc, cmpI ((if r < 0 then -r else r)) ((if y < 0 then -y else y)) = cc := ⟨_, rfl⟩
          rw [hcc]
          have hcs : ¬ 0 ≤ cc := by rw [← hcc]; rw [cmpI_lt HAB.out]; decide
          clear hcc
          replace V8 := Lib.hid (V8.out.below hb)
          replace V9 := Lib.hid (V9.out.below hb)
          replace V10 := Lib.hid (V10.out.below hb)
          replace V11 := Lib.hid (V11.out.below hb)
          replace V12 := Lib.hid (V12.out.below hb)
          replace T3 := Lib.hid (T3.out.below hb)
          replace T4 := Lib.hid (T4.out.below hb)
          replace hB := Below.trans hB (hb.mono hB.size)
          clear T3
          clear T4
          refine hK.out _ _ (HT.out _ hB) (fun hHeldn => ?_)
          clear hK K hHeldn
          try simp only [Act.put, List.setIfInBounds_toArray, List.set_cons_zero, List.set_cons_succ]
          clear hb
          refine wpAnyH_taken (i := 18) (d := some 83) (v := ?_) rfl rfl (by kernel_rfl) (by kernel_rfl) (by kernel_rfl) (fun _ _ _ h => h) (Or.inl ⟨by rfl, ?_⟩) (by first | assumption | exact HT.out _ hB) ?_
          rotate_left 1
          · (intro w hSw; (try dsimp only at hSw); go_simp; try with_reducible rfl)
          try simp only [Act.put, List.setIfInBounds_toArray, List.set_cons_zero, List.set_cons_succ]
          refine wpAnyH_taken (i := 19) (d := some 84) (v := ?_) rfl rfl (by kernel_rfl) (by kernel_rfl) (by kernel_rfl) (fun _ _ _ h => h) (Or.inl ⟨by rfl, ?_⟩) (by first | assumption | exact HT.out _ hB) ?_
          rotate_left 1
          · (intro w hSw; (try dsimp only at hSw); go_simp; try with_reducible rfl)
          try simp only [Act.put, List.setIfInBounds_toArray, List.set_cons_zero, List.set_cons_succ]
          refine wpAnyH_taken (i := 20) (d := some 85) (v := ?_) rfl rfl (by kernel_rfl) (by kernel_rfl) (by kernel_rfl) (fun _ _ _ h => h) (Or.inl ⟨by rfl, ?_⟩) (by first | assumption | exact HT.out _ hB) ?_
          rotate_left 1
          · (intro w hSw; (try dsimp only at hSw); go_simp; try with_reducible rfl)
          try simp only [Act.put, List.setIfInBounds_toArray, List.set_cons_zero, List.set_cons_succ]
          refine wpAnyH_taken (i := 21) (d := some 86) (v := ?_) rfl rfl (by kernel_rfl) (by kernel_rfl) (by kernel_rfl) (fun _ _ _ h => h) (Or.inl ⟨by rfl, ?_⟩) (by first | assumption | exact HT.out _ hB) ?_
          rotate_left 1
          · (intro w hSw; (try dsimp only at hSw); go_simp; try with_reducible rfl)
          try simp only [Act.put, List.setIfInBounds_toArray, List.set_cons_zero, List.set_cons_succ]
          refine wpAnyH_ready (rs := [22]) (by kernel_rfl) (by simp) ?_
          refine AllReadyH.cons rfl (fun K hK => ?_) AllReadyH.nil
          (try simp only [List.getElem_toArray]); (try simp only [List.getElem_cons_succ]); (try simp only [List.getElem_cons_zero])
          go_simp
          (go_at_call 22; refine (sign_int _ r 8 _ V12.out).mono ?_; rintro e wc7 ⟨rfl, hb⟩)
          rw [HSS.out, HSX.out]
          replace V8 := Lib.hid (V8.out.below hb)
          replace V9 := Lib.hid (V9.out.below hb)
          replace V10 := Lib.hid (V10.out.below hb)
          replace V11 := Lib.hid (V11.out.below hb)
          replace V12 := Lib.hid (V12.out.below hb)
          replace hB := Below.trans hB (hb.mono hB.size)
          refine hK.out _ _ (HT.out _ hB) (fun hHeldn => ?_)
          clear hK K hHeldn
          try simp only [Act.put, List.setIfInBounds_toArray, List.set_cons_zero, List.set_cons_succ]
          clear hb
          refine wpAnyH_taken (i := 23) (d := some 88) (v := ?_) rfl rfl (by kernel_rfl) (by kernel_rfl) (by kernel_rfl) (fun _ _ _ h => h) (Or.inl ⟨by rfl, ?_⟩) (by first | assumption | exact HT.out _ hB) ?_
          rotate_left 1
          · (intro w hSw; (try dsimp only at hSw); go_simp; try with_reducible rfl)
          try simp only [Act.put, List.setIfInBounds_toArray, List.set_cons_zero, List.set_cons_succ]
          refine wpAnyH_taken (i := 24) (d := some 89) (v := ?_) rfl rfl (by kernel_rfl) (by kernel_rfl) (by kernel_rfl) (fun _ _ _ h => h) (Or.inl ⟨by rfl, ?_⟩) (by first | assumption | exact HT.out _ hB) ?_
          rotate_left 1
          · (intro w hSw; (try dsimp only at hSw); go_simp; try with_reducible rfl)
          try simp only [Act.put, List.setIfInBounds_toArray, List.set_cons_zero, List.set_cons_succ]
          refine wpAnyH_taken (i := 25) (d := some 90) (v := ?_) rfl rfl (by kernel_rfl) (by kernel_rfl) (by kernel_rfl) (fun _ _ _ h => h) (Or.inl ⟨by rfl, ?_⟩) (by first | assumption | exact HT.out _ hB) ?_
          rotate_left 1
          · (intro w hSw; (try dsimp only at hSw); go_simp; try with_reducible rfl)
          try simp only [Act.put, List.setIfInBounds_toArray, List.set_cons_zero, List.set_cons_succ]
          refine wpAnyH_taken (i := 27) (d := some 92) (v := ?_) rfl rfl (by kernel_rfl) (by kernel_rfl) (by kernel_rfl) (fun _ _ _ h => h) (Or.inl ⟨by rfl, ?_⟩) (by first | assumption | exact HT.out _ hB) ?_
          rotate_left 1
          · (intro w hSw; (try dsimp only at hSw); go_simp; try with_reducible rfl)
          try simp only [Act.put, List.setIfInBounds_toArray, List.set_cons_zero, List.set_cons_succ]
          refine wpAnyH_ready (rs := [26]) (by kernel_rfl) (by simp) ?_
          refine AllReadyH.cons rfl (fun K hK => ?_) AllReadyH.nil
          (try simp only [List.getElem_toArray]); (try simp only [List.getElem_cons_succ]); (try simp only [List.getElem_cons_zero])
          go_simp
          (go_at_call 22; refine (sign_int _ r 8 _ V12.out).mono ?_; rintro e wc8 ⟨rfl, hb⟩)
          rw [HSS.out, HSX.out]
          replace V8 := Lib.hid (V8.out.below hb)
          replace V9 := Lib.hid (V9.out.below hb)
          replace V10 := Lib.hid (V10.out.below hb)
          replace V11 := Lib.hid (V11.out.below hb)
          replace V12 := Lib.hid (V12.out.below hb)
          replace hB := Below.trans hB (hb.mono hB.size)
          refine hK.out _ _ (HT.out _ hB) (fun hHeldn => ?_)
          clear hK K hHeldn
          try simp only [Act.put, List.setIfInBounds_toArray, List.set_cons_zero, List.set_cons_succ]
          clear hb
          refine wpAnyH_ready (rs := [28]) (by kernel_rfl) (by simp) ?_
          refine AllReadyH.cons rfl (fun K hK => ?_) AllReadyH.nil
          (try simp only [List.getElem_toArray]); (try simp only [List.getElem_cons_succ]); (try simp only [List.getElem_cons_zero])
          go_simp
          (go_at_call 22; refine (sign_int _ x 6 _ V8.out).mono ?_; rintro e wc9 ⟨rfl, hb⟩)
          rw [HSX.out]
          replace V8 := Lib.hid (V8.out.below hb)
          replace V9 := Lib.hid (V9.out.below hb)
          replace V10 := Lib.hid (V10.out.below hb)
          replace V11 := Lib.hid (V11.out.below hb)
          replace V12 := Lib.hid (V12.out.below hb)
          replace hB := Below.trans hB (hb.mono hB.size)
          refine hK.out _ _ (HT.out _ hB) (fun hHeldn => ?_)
          clear hK K hHeldn
          try simp only [Act.put, List.setIfInBounds_toArray, List.set_cons_zero, List.set_cons_succ]
          clear hb
          refine wpAnyH_taken (i := 29) (d := some 94) (v := ?_) rfl rfl (by kernel_rfl) (by kernel_rfl) (by kernel_rfl) (fun _ _ _ h => h) (Or.inl ⟨by rfl, ?_⟩) (by first | assumption | exact HT.out _ hB) ?_
          rotate_left 1
          · (intro w hSw; (try dsimp only at hSw); go_simp; try with_reducible rfl)
          try simp only [Act.put, List.setIfInBounds_toArray, List.set_cons_zero, List.set_cons_succ]
          refine wpAnyH_taken (i := 30) (d := some 95) (v := ?_) rfl rfl (by kernel_rfl) (by kernel_rfl) (by kernel_rfl) (fun _ _ _ h => h) (Or.inl ⟨by rfl, ?_⟩) (by first | assumption | exact HT.out _ hB) ?_
          rotate_left 1
          · (intro w hSw; (try dsimp only at hSw); go_simp; try with_reducible rfl)
          try simp only [Act.put, List.setIfInBounds_toArray, List.set_cons_zero, List.set_cons_succ]
          refine wpAnyH_taken (i := 31) (d := some 96) (v := ?_) rfl rfl (by kernel_rfl) (by kernel_rfl) (by kernel_rfl) (fun _ _ _ h => h) (Or.inl ⟨by rfl, ?_⟩) (by first | assumption | exact HT.out _ hB) ?_
          rotate_left 1
          · (intro w hSw; (try dsimp only at hSw); go_simp; try with_reducible rfl)
          try simp only [Act.put, List.setIfInBounds_toArray, List.set_cons_zero, List.set_cons_succ]
          refine wpAnyH_done (by kernel_rfl) ?_ _
          replace b8 := Lib.hid (b8.out.below hB)
          replace b9 := Lib.hid (b9.out.below hB)
          replace b10 := Lib.hid (b10.out.below hB)
          replace b11 := Lib.hid (b11.out.below hB)
          replace b12 := Lib.hid (b12.out.below hB)
          replace hw := hw.trans (hB.mono hw.size)
          clear HQR HAB HSG
          clear b11 V11
          clear b12 V12
          obtain ⟨c8a, c8b, c8f, c8g, c8s⟩ := b8.out
          obtain ⟨c9a, c9b, c9f, c9g, c9s⟩ := b9.out
          go_wp2_with fail
          refine (Gcd_int _ _ x y 6 _ V8.out V9.out (by decide) (by decide)).mono ?_
          rintro e w7 ⟨⟨g14, A14, n14, d14, rfl, hz⟩, hb⟩
          obtain ⟨gg, hgg⟩ : ∃ gg : Int, (Int.gcd x y : Int) = gg := ⟨_, rfl⟩
          rw [hgg] at hz
          have HGG := Lib.hid hgg
          have hg0 : 0 < gg := by rw [← hgg]; exact gcd_pos HY0.out
          have hgx : x.tmod gg = 0 := by rw [← hgg]; exact Int.tmod_eq_zero_of_dvd (Int.gcd_dvd_left x y)
          have hgy : y.tmod gg = 0 := by rw [← hgg]; exact Int.tmod_eq_zero_of_dvd (Int.gcd_dvd_right x y)
          have HG0 := Lib.hid hg0
          have HGX := Lib.hid hgx
          have HGY := Lib.hid hgy
          clear hgg hg0 hgx hgy
          clear c8a c8b c8f c8g c8s c9a c9b c9f c9g c9s
          replace b8 := Lib.hid (b8.out.below hb)
          replace V8 := Lib.hid (V8.out.below hb)
          replace b9 := Lib.hid (b9.out.below hb)
          replace V9 := Lib.hid (V9.out.below hb)
          replace b10 := Lib.hid (b10.out.below hb)
          replace V10 := Lib.hid (V10.out.below hb)
          replace hw := hw.trans (hb.mono hw.size)
          have hX := below_alloc w7 (.cells #[.bool g14, .slice A14 n14 d14] 28)
          replace b8 := Lib.hid (b8.out.below hX)
          replace V8 := Lib.hid (V8.out.below hX)
          replace b9 := Lib.hid (b9.out.below hX)
          replace V9 := Lib.hid (V9.out.below hX)
          replace b10 := Lib.hid (b10.out.below hX)
          replace V10 := Lib.hid (V10.out.below hX)
          replace hw := hw.trans (hX.mono hw.size)
          have b14 := Lib.hid (Fx.new w7 (.bool g14) (.slice A14 n14 d14) 28)
          have V14 := Lib.hid (hz.below hX)
          clear hX hb hz
          obtain ⟨c8a, c8b, c8f, c8g, c8s⟩ := b8.out
          obtain ⟨c14a, c14b, c14f, c14g, c14s⟩ := b14.out
          go_wp2_with fail
          refine (DivideE_int _ _ x gg 6 6 _ V8.out V14.out (by decide) (by decide)).mono ?_
          rintro e w8 ⟨⟨g15, A15, n15, d15, g16, A16, n16, d16, rfl, hv, hr⟩, hb⟩
          rw [show divE gg = 0 from if_neg (by have := HG0.out; omega)]
          rw [show divR x gg = x.tmod gg from if_neg (by have := HG0.out; omega), HGX.out] at hr
          clear c8a c8b c8f c8g c8s c14a c14b c14f c14g c14s
          replace b8 := Lib.hid (b8.out.below hb)
          replace V8 := Lib.hid (V8.out.below hb)
          replace b9 := Lib.hid (b9.out.below hb)
          replace V9 := Lib.hid (V9.out.below hb)
          replace b10 := Lib.hid (b10.out.below hb)
          replace V10 := Lib.hid (V10.out.below hb)
          replace b14 := Lib.hid (b14.out.below hb)
          replace V14 := Lib.hid (V14.out.below hb)
          replace hw := hw.trans (hb.mono hw.size)
          have hX := below_two w8 (.cells #[.bool g15, .slice A15 n15 d15] 28) (.cells #[.bool g16, .slice A16 n16 d16] 28)
          replace b8 := Lib.hid (b8.out.below hX)
          replace V8 := Lib.hid (V8.out.below hX)
          replace b9 := Lib.hid (b9.out.below hX)
          replace V9 := Lib.hid (V9.out.below hX)
          replace b10 := Lib.hid (b10.out.below hX)
          replace V10 := Lib.hid (V10.out.below hX)
          replace b14 := Lib.hid (b14.out.below hX)
          replace V14 := Lib.hid (V14.out.below hX)
          replace hw := hw.trans (hX.mono hw.size)
          have b15 := Lib.hid (Fx.new1 w8 g15 g16 (.slice A15 n15 d15) (.slice A16 n16 d16) 28 28)
          have b16 := Lib.hid (Fx.new2 w8 g15 g16 (.slice A15 n15 d15) (.slice A16 n16 d16) 28 28)
          have V15 := Lib.hid (hv.below hX)
          have V16 := Lib.hid (hr.below hX)
          clear hX hb hv hr
          obtain ⟨c9a, c9b, c9f, c9g, c9s⟩ := b9.out
          obtain ⟨c14a, c14b, c14f, c14g, c14s⟩ := b14.out
          go_wp2_with fail
          refine (DivideE_int _ _ y gg 6 6 _ V9.out V14.out (by decide) (by decide)).mono ?_
          rintro e w9 ⟨⟨g17, A17, n17, d17, g18, A18, n18, d18, rfl, hv, hr⟩, hb⟩
          rw [show divE gg = 0 from if_neg (by have := HG0.out; omega)]
          rw [show divR y gg = y.tmod gg from if_neg (by have := HG0.out; omega), HGY.out] at hr
          clear c9a c9b c9f c9g c9s c14a c14b c14f c14g c14s
          replace b8 := Lib.hid (b8.out.below hb)
          replace V8 := Lib.hid (V8.out.below hb)
          replace b9 := Lib.hid (b9.out.below hb)
          replace V9 := Lib.hid (V9.out.below hb)
          replace b10 := Lib.hid (b10.out.below hb)
          replace V10 := Lib.hid (V10.out.below hb)
          replace b14 := Lib.hid (b14.out.below hb)
          replace V14 := Lib.hid (V14.out.below hb)
          replace b15 := Lib.hid (b15.out.below hb)
          replace V15 := Lib.hid (V15.out.below hb)
          replace b16 := Lib.hid (b16.out.below hb)
          replace V16 := Lib.hid (V16.out.below hb)
          replace hw := hw.trans (hb.mono hw.size)
          have hX := below_two w9 (.cells #[.bool g17, .slice A17 n17 d17] 28) (.cells #[.bool g18, .slice A18 n18 d18] 28)
          replace b8 := Lib.hid (b8.out.below hX)
          replace V8 := Lib.hid (V8.out.below hX)
          replace b9 := Lib.hid (b9.out.below hX)
          replace V9 := Lib.hid (V9.out.below hX)
          replace b10 := Lib.hid (b10.out.below hX)
          replace V10 := Lib.hid (V10.out.below hX)
          replace b14 := Lib.hid (b14.out.below hX)
          replace V14 := Lib.hid (V14.out.below hX)
          replace b15 := Lib.hid (b15.out.below hX)
          replace V15 := Lib.hid (V15.out.below hX)
          replace b16 := Lib.hid (b16.out.below hX)
          replace V16 := Lib.hid (V16.out.below hX)
          replace hw := hw.trans (hX.mono hw.size)
          have b17 := Lib.hid (Fx.new1 w9 g17 g18 (.slice A17 n17 d17) (.slice A18 n18 d18) 28 28)
          have b18 := Lib.hid (Fx.new2 w9 g17 g18 (.slice A17 n17 d17) (.slice A18 n18 d18) 28 28)
          have V17 := Lib.hid (hv.below hX)
          have V18 := Lib.hid (hr.below hX)
          clear hX hb hv hr
          go_upto_region 13 with fail
          generalize ((w9.alloc (.cells #[.bool g17, .slice A17 n17 d17] 28)).alloc (.cells #[.bool g18, .slice A18 n18 d18] 28)) = WC at *
          have HT := Lib.hid (fun (w' : World) (hb : Below WC.heap.size WC w') => (show w'.cell? ⟨b8n, 0, none⟩ = some (.bool g8) ∧ w'.cell? ⟨b8n, 1, none⟩ = some (.slice A8 n8 c8) ∧ w'.cell? ⟨b9n, 0, none⟩ = some (.bool g9) ∧ w'.cell? ⟨b9n, 1, none⟩ = some (.slice A9 n9 c9) ∧ w'.cell? ⟨b10n, 0, none⟩ = some (.bool g10) ∧ w'.cell? ⟨b10n, 1, none⟩ = some (.slice A10 n10 c10) ∧ w'.cell? ⟨w7.heap.size, 0, none⟩ = some (.bool g14) ∧ w'.cell? ⟨w7.heap.size, 1, none⟩ = some (.slice A14 n14 d14) ∧ w'.cell? ⟨w8.heap.size + 1, 0, none⟩ = some (.bool g16) ∧ w'.cell? ⟨w8.heap.size + 1, 1, none⟩ = some (.slice A16 n16 d16) ∧ w'.cell? ⟨w9.heap.size + 1, 0, none⟩ = some (.bool g18) ∧ w'.cell? ⟨w9.heap.size + 1, 1, none⟩ = some (.slice A18 n18 d18) ∧ Below WC.heap.size WC w' from ⟨(b8.out.below hb).1, (b8.out.below hb).2.1, (b9.out.below hb).1, (b9.out.below hb).2.1, (b10.out.below hb).1, (b10.out.below hb).2.1, (b14.out.below hb).1, (b14.out.below hb).2.1, (b16.out.below hb).1, (b16.out.below hb).2.1, (b18.out.below hb).1, (b18.out.below hb).2.1, hb⟩))
          have hB := (Below.refl WC.heap.size WC).drew
          replace V8 := Lib.hid (V8.out.below hB)
          replace V9 := Lib.hid (V9.out.below hB)
          replace V10 := Lib.hid (V10.out.below hB)
          replace V14 := Lib.hid (V14.out.below hB)
          replace V15 := Lib.hid (V15.out.below hB)
          replace V16 := Lib.hid (V16.out.below hB)
          replace V17 := Lib.hid (V17.out.below hB)
          replace V18 := Lib.hid (V18.out.below hB)
          refine wp_region_held_drew (S := fun w' => w'.cell? ⟨b8n, 0, none⟩ = some (.bool g8) ∧ w'.cell? ⟨b8n, 1, none⟩ = some (.slice A8 n8 c8) ∧ w'.cell? ⟨b9n, 0, none⟩ = some (.bool g9) ∧ w'.cell? ⟨b9n, 1, none⟩ = some (.slice A9 n9 c9) ∧ w'.cell? ⟨b10n, 0, none⟩ = some (.bool g10) ∧ w'.cell? ⟨b10n, 1, none⟩ = some (.slice A10 n10 c10) ∧ w'.cell? ⟨w7.heap.size, 0, none⟩ = some (.bool g14) ∧ w'.cell? ⟨w7.heap.size, 1, none⟩ = some (.slice A14 n14 d14) ∧ w'.cell? ⟨w8.heap.size + 1, 0, none⟩ = some (.bool g16) ∧ w'.cell? ⟨w8.heap.size + 1, 1, none⟩ = some (.slice A16 n16 d16) ∧ w'.cell? ⟨w9.heap.size + 1, 0, none⟩ = some (.bool g18) ∧ w'.cell? ⟨w9.heap.size + 1, 1, none⟩ = some (.slice A18 n18 d18) ∧ Below WC.heap.size WC w') (by kernel_rfl) (HT.out _ hB) (fun hHeldn => ?_)
          clear hHeldn
          generalize WC.drew = wr0 at *
          refine wpAnyH_taken (i := 0) (d := some 114) (v := ?_) rfl rfl (by kernel_rfl) (by kernel_rfl) (by kernel_rfl) (fun _ _ _ h => h) (Or.inl ⟨by rfl, ?_⟩) (by first | assumption | exact HT.out _ hB) ?_
          rotate_left 1
          · (intro w hSw; (try dsimp only at hSw); go_simp; try with_reducible rfl)
          try simp only [Act.put, List.setIfInBounds_toArray, List.set_cons_zero, List.set_cons_succ]
          refine wpAnyH_taken (i := 1) (d := some 115) (v := ?_) rfl rfl (by kernel_rfl) (by kernel_rfl) (by kernel_rfl) (fun _ _ _ h => h) (Or.inl ⟨by rfl, ?_⟩) (by first | assumption | exact HT.out _ hB) ?_
          rotate_left 1
          · (intro w hSw; (try dsimp only at hSw); go_simp; try with_reducible rfl)
          try simp only [Act.put, List.setIfInBounds_toArray, List.set_cons_zero, List.set_cons_succ]
          refine wpAnyH_taken (i := 2) (d := some 116) (v := ?_) rfl rfl (by kernel_rfl) (by kernel_rfl) (by kernel_rfl) (fun _ _ _ h => h) (Or.inl ⟨by rfl, ?_⟩) (by first | assumption | exact HT.out _ hB) ?_
          rotate_left 1
          · (intro w hSw; (try dsimp only at hSw); go_simp; try with_reducible rfl)
          try simp only [Act.put, List.setIfInBounds_toArray, List.set_cons_zero, List.set_cons_succ]
          refine wpAnyH_taken (i := 3) (d := some 117) (v := ?_) rfl rfl (by kernel_rfl) (by kernel_rfl) (by kernel_rfl) (fun _ _ _ h => h) (Or.inl ⟨by rfl, ?_⟩) (by first | assumption | exact HT.out _ hB) ?_
          rotate_left 1
          · (intro w hSw; (try dsimp only at hSw); go_simp; try with_reducible rfl)
          try simp only [Act.put, List.setIfInBounds_toArray, List.set_cons_zero, List.set_cons_succ]
          refine wpAnyH_taken (i := 4) (d := some 118) (v := ?_) rfl rfl (by kernel_rfl) (by kernel_rfl) (by kernel_rfl) (fun _ _ _ h => h) (Or.inl ⟨by rfl, ?_⟩) (by first | assumption | exact HT.out _ hB) ?_
          rotate_left 1
          · (intro w hSw; (try dsimp only at hSw); go_simp; try with_reducible rfl)
          try simp only [Act.put, List.setIfInBounds_toArray, List.set_cons_zero, List.set_cons_succ]
          refine wpAnyH_taken (i := 5) (d := some 119) (v := ?_) rfl rfl (by kernel_rfl) (by kernel_rfl) (by kernel_rfl) (fun _ _ _ h => h) (Or.inl ⟨by rfl, ?_⟩) (by first | assumption | exact HT.out _ hB) ?_
          rotate_left 1
          · (intro w hSw; (try dsimp only at hSw); go_simp; try with_reducible rfl)
          try simp only [Act.put, List.setIfInBounds_toArray, List.set_cons_zero, List.set_cons_succ]
          refine wpAnyH_taken (i := 6) (d := some 120) (v := ?_) rfl rfl (by kernel_rfl) (by kernel_rfl) (by kernel_rfl) (fun _ _ _ h => h) (Or.inl ⟨by rfl, ?_⟩) (by first | assumption | exact HT.out _ hB) ?_
          rotate_left 1
          · (intro w hSw; (try dsimp only at hSw); go_simp; try with_reducible rfl)
          try simp only [Act.put, List.setIfInBounds_toArray, List.set_cons_zero, List.set_cons_succ]
          refine wpAnyH_taken (i := 7) (d := some 121) (v := ?_) rfl rfl (by kernel_rfl) (by kernel_rfl) (by kernel_rfl) (fun _ _ _ h => h) (Or.inl ⟨by rfl, ?_⟩) (by first | assumption | exact HT.out _ hB) ?_
          rotate_left 1
          · (intro w hSw; (try dsimp only at hSw); go_simp; try with_reducible rfl)
          try simp only [Act.put, List.setIfInBounds_toArray, List.set_cons_zero, List.set_cons_succ]
          refine wpAnyH_ready (rs := [8]) (by kernel_rfl) (by simp) ?_
          refine AllReadyH.cons rfl (fun K hK => ?_) AllReadyH.nil
          (try simp only [List.getElem_toArray]); (try simp only [List.getElem_cons_succ]); (try simp only [List.getElem_cons_zero])
          go_simp
          (go_at_call 22; refine (sign_int _ 0 (6 + 2) _ V16.out).mono ?_; rintro e wd1 ⟨rfl, hb⟩)
          rw [show cmpI 0 0 = 0 from rfl]
          replace V8 := Lib.hid (V8.out.below hb)
          replace V9 := Lib.hid (V9.out.below hb)
          replace V10 := Lib.hid (V10.out.below hb)
          replace V14 := Lib.hid (V14.out.below hb)
          replace V15 := Lib.hid (V15.out.below hb)
          replace V16 := Lib.hid (V16.out.below hb)
          replace V17 := Lib.hid (V17.out.below hb)
          replace V18 := Lib.hid (V18.out.below hb)
          replace hB := Below.trans hB (hb.mono hB.size)
          refine hK.out _ _ (HT.out _ hB) (fun hHeldn => ?_)
          clear hK K hHeldn
          try simp only [Act.put, List.setIfInBounds_toArray, List.set_cons_zero, List.set_cons_succ]
          clear hb
          refine wpAnyH_taken (i := 9) (d := some 123) (v := ?_) rfl rfl (by kernel_rfl) (by kernel_rfl) (by kernel_rfl) (fun _ _ _ h => h) (Or.inl ⟨by rfl, ?_⟩) (by first | assumption | exact HT.out _ hB) ?_
          rotate_left 1
          · (intro w hSw; (try dsimp only at hSw); go_simp; try with_reducible rfl)
          try simp only [Act.put, List.setIfInBounds_toArray, List.set_cons_zero, List.set_cons_succ]
          refine wpAnyH_taken (i := 10) (d := some 124) (v := ?_) rfl rfl (by kernel_rfl) (by kernel_rfl) (by kernel_rfl) (fun _ _ _ h => h) (Or.inl ⟨by rfl, ?_⟩) (by first | assumption | exact HT.out _ hB) ?_
          rotate_left 1
          · (intro w hSw; (try dsimp only at hSw); go_simp; try with_reducible rfl)
          try simp only [Act.put, List.setIfInBounds_toArray, List.set_cons_zero, List.set_cons_succ]
          refine wpAnyH_taken (i := 11) (d := some 125) (v := ?_) rfl rfl (by kernel_rfl) (by kernel_rfl) (by kernel_rfl) (fun _ _ _ h => h) (Or.inl ⟨by rfl, ?_⟩) (by first | assumption | exact HT.out _ hB) ?_
          rotate_left 1
          · (intro w hSw; (try dsimp only at hSw); go_simp; try with_reducible rfl)
          try simp only [Act.put, List.setIfInBounds_toArray, List.set_cons_zero, List.set_cons_succ]
          refine wpAnyH_taken (i := 12) (d := some 126) (v := ?_) rfl rfl (by kernel_rfl) (by kernel_rfl) (by kernel_rfl) (fun _ _ _ h => h) (Or.inl ⟨by rfl, ?_⟩) (by first | assumption | exact HT.out _ hB) ?_
          rotate_left 1
          · (intro w hSw; (try dsimp only at hSw); go_simp; try with_reducible rfl)
          try simp only [Act.put, List.setIfInBounds_toArray, List.set_cons_zero, List.set_cons_succ]
          refine wpAnyH_ready (rs := [13]) (by kernel_rfl) (by simp) ?_
          refine AllReadyH.cons rfl (fun K hK => ?_) AllReadyH.nil
          (try simp only [List.getElem_toArray]); (try simp only [List.getElem_cons_succ]); (try simp only [List.getElem_cons_zero])
          go_simp
          (go_at_call 22; refine (sign_int _ 0 (6 + 2) _ V18.out).mono ?_; rintro e wd2 ⟨rfl, hb⟩)
          rw [show cmpI 0 0 = 0 from rfl]
          replace V8 := Lib.hid (V8.out.below hb)
          replace V9 := Lib.hid (V9.out.below hb)
          replace V10 := Lib.hid (V10.out.below hb)
          replace V14 := Lib.hid (V14.out.below hb)
          replace V15 := Lib.hid (V15.out.below hb)
          replace V16 := Lib.hid (V16.out.below hb)
          replace V17 := Lib.hid (V17.out.below hb)
          replace V18 := Lib.hid (V18.out.below hb)
          replace hB := Below.trans hB (hb.mono hB.size)
          refine hK.out _ _ (HT.out _ hB) (fun hHeldn => ?_)
          clear hK K hHeldn
          try simp only [Act.put, List.setIfInBounds_toArray, List.set_cons_zero, List.set_cons_succ]
          clear hb
          refine wpAnyH_taken (i := 14) (d := some 128) (v := ?_) rfl rfl (by kernel_rfl) (by kernel_rfl) (by kernel_rfl) (fun _ _ _ h => h) (Or.inl ⟨by rfl, ?_⟩) (by first | assumption | exact HT.out _ hB) ?_
          rotate_left 1
          · (intro w hSw; (try dsimp only at hSw); go_simp; try with_reducible rfl)
          try simp only [Act.put, List.setIfInBounds_toArray, List.set_cons_zero, List.set_cons_succ]
          refine wpAnyH_taken (i := 15) (d := some 129) (v := ?_) rfl rfl (by kernel_rfl) (by kernel_rfl) (by kernel_rfl) (fun _ _ _ h => h) (Or.inl ⟨by rfl, ?_⟩) (by first | assumption | exact HT.out _ hB) ?_
          rotate_left 1
          · (intro w hSw; (try dsimp only at hSw); go_simp; try with_reducible rfl)
          try simp only [Act.put, List.setIfInBounds_toArray, List.set_cons_zero, List.set_cons_succ]
          refine wpAnyH_taken (i := 16) (d := some 130) (v := ?_) rfl rfl (by kernel_rfl) (by kernel_rfl) (by kernel_rfl) (fun _ _ _ h => h) (Or.inl ⟨by rfl, ?_⟩) (by first | assumption | exact HT.out _ hB) ?_
          rotate_left 1
          · (intro w hSw; (try dsimp only at hSw); go_simp; try with_reducible rfl)
          try simp only [Act.put, List.setIfInBounds_toArray, List.set_cons_zero, List.set_cons_succ]
          refine wpAnyH_taken (i := 17) (d := some 131) (v := ?_) rfl rfl (by kernel_rfl) (by kernel_rfl) (by kernel_rfl) (fun _ _ _ h => h) (Or.inl ⟨by rfl, ?_⟩) (by first | assumption | exact HT.out _ hB) ?_
          rotate_left 1
          · (intro w hSw; (try dsimp only at hSw); go_simp; try with_reducible rfl)
          try simp only [Act.put, List.setIfInBounds_toArray, List.set_cons_zero, List.set_cons_succ]
          refine wpAnyH_ready (rs := [18]) (by kernel_rfl) (by simp) ?_
          refine AllReadyH.cons rfl (fun K hK => ?_) AllReadyH.nil
          (try simp only [List.getElem_toArray]); (try simp only [List.getElem_cons_succ]); (try simp only [List.getElem_cons_zero])
          go_simp
          (go_at_call 22; refine (sign_int _ gg 6 _ V14.out).mono ?_; rintro e wd3 ⟨rfl, hb⟩)
          rw [cmpI_gt HG0.out]
          replace V8 := Lib.hid (V8.out.below hb)
          replace V9 := Lib.hid (V9.out.below hb)
          replace V10 := Lib.hid (V10.out.below hb)
          replace V14 := Lib.hid (V14.out.below hb)
          replace V15 := Lib.hid (V15.out.below hb)
          replace V16 := Lib.hid (V16.out.below hb)
          replace V17 := Lib.hid (V17.out.below hb)
          replace V18 := Lib.hid (V18.out.below hb)
          replace hB := Below.trans hB (hb.mono hB.size)
          refine hK.out _ _ (HT.out _ hB) (fun hHeldn => ?_)
          clear hK K hHeldn
          try simp only [Act.put, List.setIfInBounds_toArray, List.set_cons_zero, List.set_cons_succ]
          clear hb
          refine wpAnyH_taken (i := 19) (d := some 133) (v := ?_) rfl rfl (by kernel_rfl) (by kernel_rfl) (by kernel_rfl) (fun _ _ _ h => h) (Or.inl ⟨by rfl, ?_⟩) (by first | assumption | exact HT.out _ hB) ?_
          rotate_left 1
          · (intro w hSw; (try dsimp only at hSw); go_simp; try with_reducible rfl)
          try simp only [Act.put, List.setIfInBounds_toArray, List.set_cons_zero, List.set_cons_succ]
          refine wpAnyH_taken (i := 20) (d := some 134) (v := ?_) rfl rfl (by kernel_rfl) (by kernel_rfl) (by kernel_rfl) (fun _ _ _ h => h) (Or.inl ⟨by rfl, ?_⟩) (by first | assumption | exact HT.out _ hB) ?_
          rotate_left 1
          · (intro w hSw; (try dsimp only at hSw); go_simp; try with_reducible rfl)
          try simp only [Act.put, List.setIfInBounds_toArray, List.set_cons_zero, List.set_cons_succ]
          refine wpAnyH_taken (i := 21) (d := some 135) (v := ?_) rfl rfl (by kernel_rfl) (by kernel_rfl) (by kernel_rfl) (fun _ _ _ h => h) (Or.inl ⟨by rfl, ?_⟩) (by first | assumption | exact HT.out _ hB) ?_
          rotate_left 1
          · (intro w hSw; (try dsimp only at hSw); go_simp; try with_reducible rfl)
          try simp only [Act.put, List.setIfInBounds_toArray, List.set_cons_zero, List.set_cons_succ]
          refine wpAnyH_taken (i := 22) (d := some 136) (v := ?_) rfl rfl (by kernel_rfl) (by kernel_rfl) (by kernel_rfl) (fun _ _ _ h => h) (Or.inl ⟨by rfl, ?_⟩) (by first | assumption | exact HT.out _ hB) ?_
          rotate_left 1
          · (intro w hSw; (try dsimp only at hSw); go_simp; try with_reducible rfl)
          try simp only [Act.put, List.setIfInBounds_toArray, List.set_cons_zero, List.set_cons_succ]
          refine wpAnyH_taken (i := 23) (d := some 137) (v := ?_) rfl rfl (by kernel_rfl) (by kernel_rfl) (by kernel_rfl) (fun _ _ _ h => h) (Or.inl ⟨by rfl, ?_⟩) (by first | assumption | exact HT.out _ hB) ?_
          rotate_left 1
          · (intro w hSw; (try dsimp only at hSw); go_simp; try with_reducible rfl)
          try simp only [Act.put, List.setIfInBounds_toArray, List.set_cons_zero, List.set_cons_succ]
          refine wpAnyH_taken (i := 25) (d := some 139) (v := ?_) rfl rfl (by kernel_rfl) (by kernel_rfl) (by kernel_rfl) (fun _ _ _ h => h) (Or.inl ⟨by rfl, ?_⟩) (by first | assumption | exact HT.out _ hB) ?_
          rotate_left 1
          · (intro w hSw; (try dsimp only at hSw); go_simp; try with_reducible rfl)
          try simp only [Act.put, List.setIfInBounds_toArray, List.set_cons_zero, List.set_cons_succ]
          refine wpAnyH_taken (i := 26) (d := some 140) (v := ?_) rfl rfl (by kernel_rfl) (by kernel_rfl) (by kernel_rfl) (fun _ _ _ h => h) (Or.inl ⟨by rfl, ?_⟩) (by first | assumption | exact HT.out _ hB) ?_
          rotate_left 1
          · (intro w hSw; (try dsimp only at hSw); go_simp; try with_reducible rfl)
          try simp only [Act.put, List.setIfInBounds_toArray, List.set_cons_zero, List.set_cons_succ]
          refine wpAnyH_taken (i := 29) (d := some 143) (v := ?_) rfl rfl (by kernel_rfl) (by kernel_rfl) (by kernel_rfl) (fun _ _ _ h => h) (Or.inl ⟨by rfl, ?_⟩) (by first | assumption | exact HT.out _ hB) ?_
          rotate_left 1
          · (intro w hSw; (try dsimp only at hSw); go_simp; try with_reducible rfl)
          try simp only [Act.put, List.setIfInBounds_toArray, List.set_cons_zero, List.set_cons_succ]
          refine wpAnyH_taken (i := 30) (d := some 144) (v := ?_) rfl rfl (by kernel_rfl) (by kernel_rfl) (by kernel_rfl) (fun _ _ _ h => h) (Or.inl ⟨by rfl, ?_⟩) (by first | assumption | exact HT.out _ hB) ?_
          rotate_left 1
          · (intro w hSw; (try dsimp only at hSw); go_simp; try with_reducible rfl)
          try simp only [Act.put, List.setIfInBounds_toArray, List.set_cons_zero, List.set_cons_succ]
          refine wpAnyH_ready (rs := [24]) (by kernel_rfl) (by simp) ?_
          refine AllReadyH.cons rfl (fun K hK => ?_) AllReadyH.nil
          (try simp only [List.getElem_toArray]); (try simp only [List.getElem_cons_succ]); (try simp only [List.getElem_cons_zero])
          go_simp
          (go_at_call 42; refine (mul_t _ _ x z 6 6 _ V8.out V10.out (by decide) (by decide)).mono ?_; rintro e wd4 ⟨⟨gt5, At5, nt5, ct5, rfl, hz⟩, hb⟩)
          replace V8 := Lib.hid (V8.out.below hb)
          replace V9 := Lib.hid (V9.out.below hb)
          replace V10 := Lib.hid (V10.out.below hb)
          replace V14 := Lib.hid (V14.out.below hb)
          replace V15 := Lib.hid (V15.out.below hb)
          replace V16 := Lib.hid (V16.out.below hb)
          replace V17 := Lib.hid (V17.out.below hb)
          replace V18 := Lib.hid (V18.out.below hb)
          replace hB := Below.trans hB (hb.mono hB.size)
          have T5 := Lib.hid hz
          refine hK.out _ _ (HT.out _ hB) (fun hHeldn => ?_)
          clear hK K hHeldn
          try simp only [Act.put, List.setIfInBounds_toArray, List.set_cons_zero, List.set_cons_succ]
          clear hb hz
          refine wpAnyH_ready (rs := [27]) (by kernel_rfl) (by simp) ?_
          refine AllReadyH.cons rfl (fun K hK => ?_) AllReadyH.nil
          (try simp only [List.getElem_toArray]); (try simp only [List.getElem_cons_succ]); (try simp only [List.getElem_cons_zero])
          go_simp
          (go_at_call 42; refine (mul_t _ _ y z 6 6 _ V9.out V10.out (by decide) (by decide)).mono ?_; rintro e wd5 ⟨⟨gt6, At6, nt6, ct6, rfl, hz⟩, hb⟩)
          replace V8 := Lib.hid (V8.out.below hb)
          replace V9 := Lib.hid (V9.out.below hb)
          replace V10 := Lib.hid (V10.out.below hb)
          replace V14 := Lib.hid (V14.out.below hb)
          replace V15 := Lib.hid (V15.out.below hb)
          replace V16 := Lib.hid (V16.out.below hb)
          replace V17 := Lib.hid (V17.out.below hb)
          replace V18 := Lib.hid (V18.out.below hb)
          replace T5 := Lib.hid (T5.out.below hb)
          replace hB := Below.trans hB (hb.mono hB.size)
          have T6 := Lib.hid hz
          refine hK.out _ _ (HT.out _ hB) (fun hHeldn => ?_)
          clear hK K hHeldn
          try simp only [Act.put, List.setIfInBounds_toArray, List.set_cons_zero, List.set_cons_succ]
          clear hb hz
          refine wpAnyH_ready (rs := [28]) (by kernel_rfl) (by simp) ?_
          refine AllReadyH.cons rfl (fun K hK => ?_) AllReadyH.nil
          (try simp only [List.getElem_toArray]); (try simp only [List.getElem_cons_succ]); (try simp only [List.getElem_cons_zero])
          go_simp
          (go_at_call 44; refine (Gcd_int _ _ (x * z) (y * z) (6 + 6) _ T5.out T6.out (by decide) (by decide)).mono ?_; rintro e wd6 ⟨⟨gt7, At7, nt7, ct7, rfl, hz⟩, hb⟩)
          replace V8 := Lib.hid (V8.out.below hb)
          replace V9 := Lib.hid (V9.out.below hb)
          replace V10 := Lib.hid (V10.out.below hb)
          replace V14 := Lib.hid (V14.out.below hb)
          replace V15 := Lib.hid (V15.out.below hb)
          replace V16 := Lib.hid (V16.out.below hb)
          replace V17 := Lib.hid (V17.out.below hb)
          replace V18 := Lib.hid (V18.out.below hb)
          replace T5 := Lib.hid (T5.out.below hb)
          replace T6 := Lib.hid (T6.out.below hb)
          replace hB := Below.trans hB (hb.mono hB.size)
          clear T5
          clear T6
          have T7 := Lib.hid hz
          refine hK.out _ _ (HT.out _ hB) (fun hHeldn => ?_)
          clear hK K hHeldn
          try simp only [Act.put, List.setIfInBounds_toArray, List.set_cons_zero, List.set_cons_succ]
          clear hb hz
          refine wpAnyH_ready (rs := [31]) (by kernel_rfl) (by simp) ?_
          refine AllReadyH.cons rfl (fun K hK => ?_) AllReadyH.nil
          (try simp only [List.getElem_toArray]); (try simp only [List.getElem_cons_succ]); (try simp only [List.getElem_cons_zero])
          go_simp
          (go_at_call 36; refine (abs_int _ z 6 _ V10.out (by decide)).mono ?_; rintro e wd7 ⟨⟨gt8, At8, nt8, ct8, rfl, hz⟩, hb⟩)
          replace V8 := Lib.hid (V8.out.below hb)
          replace V9 := Lib.hid (V9.out.below hb)
          replace V10 := Lib.hid (V10.out.below hb)
          replace V14 := Lib.hid (V14.out.below hb)
          replace V15 := Lib.hid (V15.out.below hb)
          replace V16 := Lib.hid (V16.out.below hb)
          replace V17 := Lib.hid (V17.out.below hb)
          replace V18 := Lib.hid (V18.out.below hb)
          replace T7 := Lib.hid (T7.out.below hb)
          replace hB := Below.trans hB (hb.mono hB.size)
          have T8 := Lib.hid hz
          refine hK.out _ _ (HT.out _ hB) (fun hHeldn => ?_)
          clear hK K hHeldn
          try simp only [Act.put, List.setIfInBounds_toArray, List.set_cons_zero, List.set_cons_succ]
          clear hb hz
          refine wpAnyH_ready (rs := [32]) (by kernel_rfl) (by simp) ?_
          refine AllReadyH.cons rfl (fun K hK => ?_) AllReadyH.nil
          (try simp only [List.getElem_toArray]); (try simp only [List.getElem_cons_succ]); (try simp only [List.getElem_cons_zero])
          go_simp
          (go_at_call 42; refine (mul_t _ _ gg (if z < 0 then -z else z) 6 6 _ V14.out T8.out (by decide) (by decide)).mono ?_; rintro e wd8 ⟨⟨gt9, At9, nt9, ct9, rfl, hz⟩, hb⟩)
          replace V8 := Lib.hid (V8.out.below hb)
          replace V9 := Lib.hid (V9.out.below hb)
          replace V10 := Lib.hid (V10.out.below hb)
          replace V14 := Lib.hid (V14.out.below hb)
          replace V15 := Lib.hid (V15.out.below hb)
          replace V16 := Lib.hid (V16.out.below hb)
          replace V17 := Lib.hid (V17.out.below hb)
          replace V18 := Lib.hid (V18.out.below hb)
          replace T7 := Lib.hid (T7.out.below hb)
          replace T8 := Lib.hid (T8.out.below hb)
          replace hB := Below.trans hB (hb.mono hB.size)
          clear T8
          have T9 := Lib.hid hz
          refine hK.out _ _ (HT.out _ hB) (fun hHeldn => ?_)
          clear hK K hHeldn
          try simp only [Act.put, List.setIfInBounds_toArray, List.set_cons_zero, List.set_cons_succ]
          clear hb hz
          refine wpAnyH_ready (rs := [33]) (by kernel_rfl) (by simp) ?_
          refine AllReadyH.cons rfl (fun K hK => ?_) AllReadyH.nil
          (try simp only [List.getElem_toArray]); (try simp only [List.getElem_cons_succ]); (try simp only [List.getElem_cons_zero])
          go_simp
          (go_at_call 65; refine (same_yes _ _ (Int.gcd (x * z) (y * z) : Int) (gg * (if z < 0 then -z else z)) (6 + 6) (6 + 6) _ T7.out T9.out (by decide) (by decide) (by rw [← HGG.out]; exact gcd_scale x y z)).mono ?_; rintro e wd9 ⟨rfl, hb⟩)
          replace V8 := Lib.hid (V8.out.below hb)
          replace V9 := Lib.hid (V9.out.below hb)
          replace V10 := Lib.hid (V10.out.below hb)
          replace V14 := Lib.hid (V14.out.below hb)
          replace V15 := Lib.hid (V15.out.below hb)
          replace V16 := Lib.hid (V16.out.below hb)
          replace V17 := Lib.hid (V17.out.below hb)
          replace V18 := Lib.hid (V18.out.below hb)
          replace T7 := Lib.hid (T7.out.below hb)
          replace T9 := Lib.hid (T9.out.below hb)
          replace hB := Below.trans hB (hb.mono hB.size)
          clear T7
          clear T9
          refine hK.out _ _ (HT.out _ hB) (fun hHeldn => ?_)
          clear hK K hHeldn
          try simp only [Act.put, List.setIfInBounds_toArray, List.set_cons_zero, List.set_cons_succ]
          clear hb
          refine wpAnyH_taken (i := 34) (d := some 148) (v := ?_) rfl rfl (by kernel_rfl) (by kernel_rfl) (by kernel_rfl) (fun _ _ _ h => h) (Or.inl ⟨by rfl, ?_⟩) (by first | assumption | exact HT.out _ hB) ?_
          rotate_left 1
          · (intro w hSw; (try dsimp only at hSw); go_simp; try with_reducible rfl)
          try simp only [Act.put, List.setIfInBounds_toArray, List.set_cons_zero, List.set_cons_succ]
          refine wpAnyH_taken (i := 35) (d := some 149) (v := ?_) rfl rfl (by kernel_rfl) (by kernel_rfl) (by kernel_rfl) (fun _ _ _ h => h) (Or.inl ⟨by rfl, ?_⟩) (by first | assumption | exact HT.out _ hB) ?_
          rotate_left 1
          · (intro w hSw; (try dsimp only at hSw); go_simp; try with_reducible rfl)
          try simp only [Act.put, List.setIfInBounds_toArray, List.set_cons_zero, List.set_cons_succ]
          refine wpAnyH_done (by kernel_rfl) ?_ _
          replace b8 := Lib.hid (b8.out.below hB)
          replace b9 := Lib.hid (b9.out.below hB)
          replace b10 := Lib.hid (b10.out.below hB)
          replace b14 := Lib.hid (b14.out.below hB)
          replace b15 := Lib.hid (b15.out.below hB)
          replace b16 := Lib.hid (b16.out.below hB)
          replace b17 := Lib.hid (b17.out.below hB)
          replace b18 := Lib.hid (b18.out.below hB)
          replace hw := hw.trans (hB.mono hw.size)
          clear b15 V15
          clear b16 V16
          clear b17 V17
          clear b18 V18
          obtain ⟨c8a, c8b, c8f, c8g, c8s⟩ := b8.out
          obtain ⟨c10a, c10b, c10f, c10g, c10s⟩ := b10.out
          go_wp2_with fail
          refine (DivideE_int _ _ x z 6 6 _ V8.out V10.out (by decide) (by decide)).mono ?_
          rintro e w10 ⟨⟨g20, A20, n20, d20, g21, A21, n21, d21, rfl, hv, hr⟩, hb⟩
          clear c8a c8b c8f c8g c8s c10a c10b c10f c10g c10s
          replace b8 := Lib.hid (b8.out.below hb)
          replace V8 := Lib.hid (V8.out.below hb)
          replace b9 := Lib.hid (b9.out.below hb)
          replace V9 := Lib.hid (V9.out.below hb)
          replace b10 := Lib.hid (b10.out.below hb)
          replace V10 := Lib.hid (V10.out.below hb)
          replace b14 := Lib.hid (b14.out.below hb)
          replace V14 := Lib.hid (V14.out.below hb)
          replace hw := hw.trans (hb.mono hw.size)
          have hX := below_two w10 (.cells #[.bool g20, .slice A20 n20 d20] 28) (.cells #[.bool g21, .slice A21 n21 d21] 28)
          replace b8 := Lib.hid (b8.out.below hX)
          replace V8 := Lib.hid (V8.out.below hX)
          replace b9 := Lib.hid (b9.out.below hX)
          replace V9 := Lib.hid (V9.out.below hX)
          replace b10 := Lib.hid (b10.out.below hX)
          replace V10 := Lib.hid (V10.out.below hX)
          replace b14 := Lib.hid (b14.out.below hX)
          replace V14 := Lib.hid (V14.out.below hX)
          replace hw := hw.trans (hX.mono hw.size)
          have b20 := Lib.hid (Fx.new1 w10 g20 g21 (.slice A20 n20 d20) (.slice A21 n21 d21) 28 28)
          have b21 := Lib.hid (Fx.new2 w10 g20 g21 (.slice A20 n20 d20) (.slice A21 n21 d21) 28 28)
          have V20 := Lib.hid (hv.below hX)
          have V21 := Lib.hid (hr.below hX)
          clear hX hb hv hr
          by_cases hz0 : z = 0
          · skip
            have hde : divE z = 6 := if_pos hz0
            clear hz0
            go_wp2_with fail
            refine (awake_any _).mono ?_
            rintro e wz ⟨rfl, hb⟩
            go_wp2
            go_ret
            exact ⟨rfl, hw.trans (hb.mono hw.size)⟩
          · skip
            have hde : divE z = 0 := if_neg hz0
            have hdr : divR x z = x.tmod z := if_neg hz0
            rw [hdr] at V21
            clear hdr
            have HZ0 := Lib.hid hz0
            clear hz0
            obtain ⟨c21a, c21b, c21f, c21g, c21s⟩ := b21.out
            go_wp2_with fail
            refine (sign_int _ (x.tmod z) (6 + 2) _ V21.out).mono ?_
            rintro e w11 ⟨rfl, hb⟩
            clear c21a c21b c21f c21g c21s
            replace b8 := Lib.hid (b8.out.below hb)
            replace V8 := Lib.hid (V8.out.below hb)
            replace b9 := Lib.hid (b9.out.below hb)
            replace V9 := Lib.hid (V9.out.below hb)
            replace b10 := Lib.hid (b10.out.below hb)
            replace V10 := Lib.hid (V10.out.below hb)
            replace b14 := Lib.hid (b14.out.below hb)
            replace V14 := Lib.hid (V14.out.below hb)
            replace b20 := Lib.hid (b20.out.below hb)
            replace V20 := Lib.hid (V20.out.below hb)
            replace b21 := Lib.hid (b21.out.below hb)
            replace V21 := Lib.hid (V21.out.below hb)
            replace hw := hw.trans (hb.mono hw.size)
            clear hb
            by_cases hu0 : x.tmod z = 0
            · skip
              have hcm : (cmpI (x.tmod z) 0 == 0) = true := by rw [cmpI_eq hu0]; decide
              have HU0 := Lib.hid hu0
              clear hu0
              clear b20 V20
              clear b21 V21
              obtain ⟨c9a, c9b, c9f, c9g, c9s⟩ := b9.out
              obtain ⟨c10a, c10b, c10f, c10g, c10s⟩ := b10.out
              go_wp2_with fail
              refine (DivideE_int _ _ y z 6 6 _ V9.out V10.out (by decide) (by decide)).mono ?_
              rintro e w12 ⟨⟨g23, A23, n23, d23, g24, A24, n24, d24, rfl, hv, hr⟩, hb⟩
              rw [show divR y z = y.tmod z from if_neg HZ0.out] at hr
              clear c9a c9b c9f c9g c9s c10a c10b c10f c10g c10s
              replace b8 := Lib.hid (b8.out.below hb)
              replace V8 := Lib.hid (V8.out.below hb)
              replace b9 := Lib.hid (b9.out.below hb)
              replace V9 := Lib.hid (V9.out.below hb)
              replace b10 := Lib.hid (b10.out.below hb)
              replace V10 := Lib.hid (V10.out.below hb)
              replace b14 := Lib.hid (b14.out.below hb)
              replace V14 := Lib.hid (V14.out.below hb)
              replace hw := hw.trans (hb.mono hw.size)
              have hX := below_two w12 (.cells #[.bool g23, .slice A23 n23 d23] 28) (.cells #[.bool g24, .slice A24 n24 d24] 28)
              replace b8 := Lib.hid (b8.out.below hX)
              replace V8 := Lib.hid (V8.out.below hX)
              replace b9 := Lib.hid (b9.out.below hX)
              replace V9 := Lib.hid (V9.out.below hX)
              replace b10 := Lib.hid (b10.out.below hX)
              replace V10 := Lib.hid (V10.out.below hX)
              replace b14 := Lib.hid (b14.out.below hX)
              replace V14 := Lib.hid (V14.out.below hX)
              replace hw := hw.trans (hX.mono hw.size)
              have b23 := Lib.hid (Fx.new1 w12 g23 g24 (.slice A23 n23 d23) (.slice A24 n24 d24) 28 28)
              have b24 := Lib.hid (Fx.new2 w12 g23 g24 (.slice A23 n23 d23) (.slice A24 n24 d24) 28 28)
              have V23 := Lib.hid (hv.below hX)
              have V24 := Lib.hid (hr.below hX)
              clear hX hb hv hr
              obtain ⟨c14a, c14b, c14f, c14g, c14s⟩ := b14.out
              obtain ⟨c10a, c10b, c10f, c10g, c10s⟩ := b10.out
              go_wp2_with fail
              refine (DivideE_int _ _ gg z 6 6 _ V14.out V10.out (by decide) (by decide)).mono ?_
              rintro e w13 ⟨⟨g26, A26, n26, d26, g27, A27, n27, d27, rfl, hv, hr⟩, hb⟩
              rw [show divR gg z = gg.tmod z from if_neg HZ0.out] at hr
              clear c14a c14b c14f c14g c14s c10a c10b c10f c10g c10s
              replace b8 := Lib.hid (b8.out.below hb)
              replace V8 := Lib.hid (V8.out.below hb)
              replace b9 := Lib.hid (b9.out.below hb)
              replace V9 := Lib.hid (V9.out.below hb)
              replace b10 := Lib.hid (b10.out.below hb)
              replace V10 := Lib.hid (V10.out.below hb)
              replace b14 := Lib.hid (b14.out.below hb)
              replace V14 := Lib.hid (V14.out.below hb)
              replace b23 := Lib.hid (b23.out.below hb)
              replace V23 := Lib.hid (V23.out.below hb)
              replace b24 := Lib.hid (b24.out.below hb)
              replace V24 := Lib.hid (V24.out.below hb)
              replace hw := hw.trans (hb.mono hw.size)
              have hX := below_two w13 (.cells #[.bool g26, .slice A26 n26 d26] 28) (.cells #[.bool g27, .slice A27 n27 d27] 28)
              replace b8 := Lib.hid (b8.out.below hX)
              replace V8 := Lib.hid (V8.out.below hX)
              replace b9 := Lib.hid (b9.out.below hX)
              replace V9 := Lib.hid (V9.out.below hX)
              replace b10 := Lib.hid (b10.out.below hX)
              replace V10 := Lib.hid (V10.out.below hX)
              replace b14 := Lib.hid (b14.out.below hX)
              replace V14 := Lib.hid (V14.out.below hX)
              replace b23 := Lib.hid (b23.out.below hX)
              replace V23 := Lib.hid (V23.out.below hX)
              replace b24 := Lib.hid (b24.out.below hX)
              replace V24 := Lib.hid (V24.out.below hX)
              replace hw := hw.trans (hX.mono hw.size)
              have b26 := Lib.hid (Fx.new1 w13 g26 g27 (.slice A26 n26 d26) (.slice A27 n27 d27) 28 28)
              have b27 := Lib.hid (Fx.new2 w13 g26 g27 (.slice A26 n26 d26) (.slice A27 n27 d27) 28 28)
              have V26 := Lib.hid (hv.below hX)
              have V27 := Lib.hid (hr.below hX)
              clear hX hb hv hr
              obtain ⟨c24a, c24b, c24f, c24g, c24s⟩ := b24.out
              obtain ⟨c27a, c27b, c27f, c27g, c27s⟩ := b27.out
              go_wp2_with fail
              refine (sign_int _ (y.tmod z) (6 + 2) _ V24.out).mono ?_
              rintro e w14 ⟨rfl, hb⟩
              clear c24a c24b c24f c24g c24s c27a c27b c27f c27g c27s
              replace b8 := Lib.hid (b8.out.below hb)
              replace V8 := Lib.hid (V8.out.below hb)
              replace b9 := Lib.hid (b9.out.below hb)
              replace V9 := Lib.hid (V9.out.below hb)
              replace b10 := Lib.hid (b10.out.below hb)
              replace V10 := Lib.hid (V10.out.below hb)
              replace b14 := Lib.hid (b14.out.below hb)
              replace V14 := Lib.hid (V14.out.below hb)
              replace b23 := Lib.hid (b23.out.below hb)
              replace V23 := Lib.hid (V23.out.below hb)
              replace b24 := Lib.hid (b24.out.below hb)
              replace V24 := Lib.hid (V24.out.below hb)
              replace b26 := Lib.hid (b26.out.below hb)
              replace V26 := Lib.hid (V26.out.below hb)
              replace b27 := Lib.hid (b27.out.below hb)
              replace V27 := Lib.hid (V27.out.below hb)
              replace hw := hw.trans (hb.mono hw.size)
              clear hb
              by_cases hv0 : y.tmod z = 0
              · skip
                have hcv : (cmpI (y.tmod z) 0 == 0) = true := by rw [cmpI_eq hv0]; decide
                have hw0 : gg.tmod z = 0 := by rw [← HGG.out]; exact Int.tmod_eq_zero_of_dvd (Int.dvd_coe_gcd (Int.dvd_of_tmod_eq_zero HU0.out) (Int.dvd_of_tmod_eq_zero hv0))
                rw [hw0] at V27
                clear hw0 hv0
                obtain ⟨c27a, c27b, c27f, c27g, c27s⟩ := b27.out
                go_wp2_with fail
                refine (sign_int _ 0 (6 + 2) _ V27.out).mono ?_
                rintro e w15 ⟨rfl, hb⟩
                rw [show cmpI 0 0 = 0 from rfl]
                clear c27a c27b c27f c27g c27s
                replace b8 := Lib.hid (b8.out.below hb)
                replace V8 := Lib.hid (V8.out.below hb)
                replace b9 := Lib.hid (b9.out.below hb)
                replace V9 := Lib.hid (V9.out.below hb)
                replace b10 := Lib.hid (b10.out.below hb)
                replace V10 := Lib.hid (V10.out.below hb)
                replace b14 := Lib.hid (b14.out.below hb)
                replace V14 := Lib.hid (V14.out.below hb)
                replace b23 := Lib.hid (b23.out.below hb)
                replace V23 := Lib.hid (V23.out.below hb)
                replace b24 := Lib.hid (b24.out.below hb)
                replace V24 := Lib.hid (V24.out.below hb)
                replace b26 := Lib.hid (b26.out.below hb)
                replace V26 := Lib.hid (V26.out.below hb)
                replace b27 := Lib.hid (b27.out.below hb)
                replace V27 := Lib.hid (V27.out.below hb)
                replace hw := hw.trans (hb.mono hw.size)
                clear hb
                go_wp2_with fail
                refine (awake_any _).mono ?_
                rintro e wz ⟨rfl, hb⟩
                go_wp2
                go_ret
                exact ⟨rfl, hw.trans (hb.mono hw.size)⟩
              · skip
                have hcv : (cmpI (y.tmod z) 0 == 0) = false := cmp_ne hv0
                clear hv0
                go_wp2_with fail
                refine (awake_any _).mono ?_
                rintro e wz ⟨rfl, hb⟩
                go_wp2
                go_ret
                exact ⟨rfl, hw.trans (hb.mono hw.size)⟩
            · skip
              have hcm : (cmpI (x.tmod z) 0 == 0) = false := cmp_ne hu0
              clear hu0
              go_wp2_with fail
              refine (awake_any _).mono ?_
              rintro e wz ⟨rfl, hb⟩
              go_wp2
              go_ret
              exact ⟨rfl, hw.trans (hb.mono hw.size)⟩

end Go.Proofs.Ytoanomgdkkbbmaa
