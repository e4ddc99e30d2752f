/- IntegerPatterns: the walk. -/
import Derived.Test.YtoanomgdkkbbmaaPatKit
import Derived.Deep.DeepCutAuto
namespace Go.Proofs.Ytoanomgdkkbbmaa
open Go.RowKit LM

set_option maxRecDepth 100000 in
set_option maxHeartbeats 40000000 in
theorem patterns_any (p q : Bool) (A B : Option Addr) (n c m d : Nat) (xs ys : List Int) (op sz po bit : Nat) (w : World) (h : Row .u32 w A n c xs) (hd : Dig xs) (g : Row .u32 w B m d ys) (gd : Dig ys) (hop : op ≤ 255) (hsz : sz ≤ 255) (hpo : po ≤ 255) (hbit : bit ≤ 65535) :
    Calls Try.prog 13 #[.agg #[.bool p, .slice A n c], .agg #[.bool q, .slice B m d], .int .u8 op, .int .u8 sz, .int .u8 po, .int .u16 bit] w fun e w' => e = .returned (.bool true) ∧ Below w.heap.size w w' := by
  have hW := below_two w (.cells #[.bool p, .slice A n c] 24) (.cells #[.bool q, .slice B m d] 24)
  have hs0 : w.heap.size + 2 ≤ ((w.alloc (.cells #[.bool p, .slice A n c] 24)).alloc (.cells #[.bool q, .slice B m d] 24)).heap.size := by simp
  have hW2 : Below (w.heap.size + 2) ((w.alloc (.cells #[.bool p, .slice A n c] 24)).alloc (.cells #[.bool q, .slice B m d] 24)) (((w.alloc (.cells #[.bool p, .slice A n c] 24)).alloc (.cells #[.bool q, .slice B m d] 24)).alloc (.cells #[.bool p, .slice A n c, .bool q, .slice B m d] 24)) := (Below.refl _ _).alloc hs0 _
  have HG := Lib.hid (fun w1 (hb : Below w.heap.size w w1) (b0 : n ≤ 6) (b1 : m ≤ 6) => two_given (p0 := p) (p1 := q) h g hd gd b0 b1 hb rfl)
  clear h hd g gd
  go_enter Try.func13, Try.ntmps13
  go_wp2_with fail
  refine (short_any _ 2 [n, m] 6 _ (lens_two _ (by simp) p q A B n c m d) (by omega)).mono ?_
  rintro e w1 ⟨rfl, hb1⟩
  have hB1 := hW2.trans (hb1.mono (B' := w.heap.size + 2) (by simp))
  have hw1 := hW.trans (hB1.mono (by omega))
  cases ht : tooLong [n, m] 6 with
  | true =>
    go_wp2_with fail
    refine (awake_any _).mono ?_
    rintro e w2 ⟨rfl, hb2⟩
    go_wp2
    go_ret
    exact ⟨rfl, hw1.trans (hb2.mono hw1.size)⟩
  | false =>
    have hn : n ≤ 6 ∧ m ≤ 6 := by simp [tooLong] at ht; omega
    obtain ⟨hn, hm⟩ := hn
    obtain ⟨c1, c2, c3, c4⟩ := boxes_gen hB1
    have hg := HG.out w1 hw1 hn hm
    have HG1 := Lib.hid hg
    clear hg HG ht
    go_wp2_with fail
    refine (made_any _ 2 6 _ _ HG1.out (by omega) (by omega)).mono ?_
    rintro e w2 ⟨v, vs, rfl, hints, hb2⟩
    obtain ⟨x, hx⟩ : ∃ x, withSign p (val xs) = x := ⟨_, rfl⟩
    obtain ⟨y, hy⟩ : ∃ y, withSign q (val ys) = y := ⟨_, rfl⟩
    rw [hx, hy] at hints
    obtain ⟨g, cc, q0, B0, m0, e0, q1, B1, m1, e1, rfl, hg1, ⟨k0, k1, k2, k3⟩, hvx, hvy⟩ := ints_two hints
    have hw2 := hw1.trans (((below_alloc w1 _).mono hw1.size).trans (hb2.mono (by have := hw1.size; simp; omega)))
    have VX := Lib.hid hvx
    have VY := Lib.hid hvy
    have HW2 := Lib.hid hw2
    clear hints hvx hvy hx hy HG1 hb2 hw1 hW hW2 hB1 c1 c2 c3 c4 hb1 hw2 hs0
    have HS := Lib.hid (fun w' (hb : Below w2.heap.size w2 w') => two_held hg1 k0 k1 k2 k3 hb)
    have hS0 := (Below.refl w2.heap.size w2).drew
    clear k0 k1 k2 k3
    go_upto_region 4 with fail
    go_cut [14, 15] (fun v14 v15 wx => TwoBoxes w2 x y 6 v14 v15 wx)
    case first =>
     as_aux_lemma =>
      go_region_held3 (fun w' => w'.cell? ⟨g, 0, none⟩ = some (.bool q0) ∧ w'.cell? ⟨g, 1, none⟩ = some (.slice B0 m0 e0) ∧ w'.cell? ⟨g, 2, none⟩ = some (.bool q1) ∧ w'.cell? ⟨g, 3, none⟩ = some (.slice B1 m1 e1) ∧ Below w2.heap.size w2 w')
        (first | (with_reducible exact HS.out _ hS0) | (with_reducible exact HS.out _ (below_step (Below.refl _ _) _).drew) | (with_reducible exact HS.out _ (below_step (below_step (Below.refl _ _) _) _).drew))
        (first | fail "arm")
      all_goals (go_wp2_with fail; go_meet)
      all_goals first | with_reducible exact (two_boxes VX.out VY.out).1 | with_reducible exact (two_boxes VX.out VY.out).2
    case rest =>
      obtain ⟨b14, b15, rfl, rfl, hbox, hbc⟩ := hcut
      obtain ⟨wk, rfl⟩ : ∃ wk, wk = wc := ⟨wc, rfl⟩
      have K0 := Lib.hid hbox
      have HW0 := Lib.hid (HW2.out.trans (hbc.mono HW2.out.size))
      clear hbox hbc VX VY HW2 HS hS0 hg1
      obtain ⟨hlt_b14, g_b14, A_b14, n_b14, c_b14, a_b14, e_b14, v_b14⟩ := K0.out.get (b := b14) (z := x) (L := 6) (by simp)
      have V_b14 := Lib.hid v_b14
      clear v_b14
      obtain ⟨hlt_b15, g_b15, A_b15, n_b15, c_b15, a_b15, e_b15, v_b15⟩ := K0.out.get (b := b15) (z := y) (L := 6) (by simp)
      have V_b15 := Lib.hid v_b15
      clear v_b15
      go_wp2_with fail
      refine (Boole_bits _ _ x y 6 6 6 _ V_b14.out V_b15.out (by decide) (by decide) (by decide) (by decide)).mono ?_
      rintro e w6 ⟨⟨z6, gw6, Aw6, nw6, dw6, rfl, hv, hz⟩, hb⟩
      have HZ_z6 := Lib.hid hz
      clear hz
      have K1 := Lib.hid ((K0.out.below hb).add 28 (hv.mono (by decide : max 6 6 + 1 ≤ 7)))
      have HW1 := Lib.hid (HW0.out.trans ((hb.trans ((below_alloc w6 (.cells #[.bool gw6, .slice Aw6 nw6 dw6] 28)).mono hb.size)).mono HW0.out.size))
      clear hv hb K0 HW0
      clear a_b14 e_b14 hlt_b14 V_b14 a_b15 e_b15 hlt_b15 V_b15
      obtain ⟨hlt_b14, g_b14, A_b14, n_b14, c_b14, a_b14, e_b14, v_b14⟩ := K1.out.get (b := b14) (z := x) (L := 6) (by simp)
      have V_b14 := Lib.hid v_b14
      clear v_b14
      obtain ⟨hlt_b15, g_b15, A_b15, n_b15, c_b15, a_b15, e_b15, v_b15⟩ := K1.out.get (b := b15) (z := y) (L := 6) (by simp)
      have V_b15 := Lib.hid v_b15
      clear v_b15
      go_wp2_with fail
      generalize (w6.alloc (.cells #[.bool gw6, .slice Aw6 nw6 dw6] 28)) = W1 at *
      generalize w6.heap.size = b18 at *
      refine (Boole_bits _ _ x y 8 6 6 _ V_b14.out V_b15.out (by decide) (by decide) (by decide) (by decide)).mono ?_
      rintro e w7 ⟨⟨z8, gw7, Aw7, nw7, dw7, rfl, hv, hz⟩, hb⟩
      have HZ_z8 := Lib.hid hz
      clear hz
      have K2 := Lib.hid ((K1.out.below hb).add 28 (hv.mono (by decide : max 6 6 + 1 ≤ 7)))
      have HW2 := Lib.hid (HW1.out.trans ((hb.trans ((below_alloc w7 (.cells #[.bool gw7, .slice Aw7 nw7 dw7] 28)).mono hb.size)).mono HW1.out.size))
      clear hv hb K1 HW1
      clear a_b14 e_b14 hlt_b14 V_b14 a_b15 e_b15 hlt_b15 V_b15
      obtain ⟨hlt_b14, g_b14, A_b14, n_b14, c_b14, a_b14, e_b14, v_b14⟩ := K2.out.get (b := b14) (z := x) (L := 6) (by simp)
      have V_b14 := Lib.hid v_b14
      clear v_b14
      go_upto_region 8 with fail
      generalize (w7.alloc (.cells #[.bool gw7, .slice Aw7 nw7 dw7] 28)) = W2 at *
      generalize w7.heap.size = b20 at *
      go_cut [22] (fun v22 wx => NewBox W2 [(b20, z8, 7), (b18, z6, 7), (b14, x, 6), (b15, y, 6)] (-1 - x) 7 v22 wx)
      case first =>
        as_aux_lemma =>
          have HT := Lib.hid (fun (w' : World) (hb : Below W2.heap.size W2 w') => (show w'.cell? ⟨b14, 0, none⟩ = some (.bool g_b14) ∧ w'.cell? ⟨b14, 1, none⟩ = some (.slice A_b14 n_b14 c_b14) ∧ Below W2.heap.size W2 w' from ⟨(hb.cell (p := ⟨b14, 0, none⟩) hlt_b14).trans a_b14, (hb.cell (p := ⟨b14, 1, none⟩) hlt_b14).trans e_b14, hb⟩))
          have hB0 := (Below.refl W2.heap.size W2).drew
          refine wp_region_held_drew (S := fun w' => w'.cell? ⟨b14, 0, none⟩ = some (.bool g_b14) ∧ w'.cell? ⟨b14, 1, none⟩ = some (.slice A_b14 n_b14 c_b14) ∧ Below W2.heap.size W2 w') (by kernel_rfl) (HT.out _ hB0) (fun hHeld0 => ?_)
          refine wpAnyH_taken (i := 1) (d := some 70) (v := ?_) rfl rfl (by kernel_rfl) (by kernel_rfl) (by kernel_rfl) (fun _ _ _ h => h) (Or.inl ⟨by rfl, ?_⟩) (by assumption) ?_
          rotate_left 1
          · (intro w hSw; (try dsimp only at hSw); go_simp; try with_reducible rfl)
          try simp only [Act.put, List.setIfInBounds_toArray, List.set_cons_zero, List.set_cons_succ]
          refine wpAnyH_ready (rs := [0, 3]) (by kernel_rfl) (by simp) ?_
          refine AllReadyH.cons rfl (fun K hK => ?_) (AllReadyH.cons rfl (fun K hK => ?_) AllReadyH.nil)
          · try simp only [List.getElem_toArray, List.getElem_cons_zero]
            go_simp
            (go_at_call 17; refine (new_typed (-1) _ (by decide) (by decide)).mono ?_; rintro e wa ⟨⟨ng1, A1, n1, d1, rfl, hv1⟩, hba⟩)
            have HV1 := Lib.hid hv1
            clear hv1
            have hBa := Below.trans hB0 (hba.mono hB0.size)
            refine hK.out _ _ (HT.out _ hBa) (fun hHeldn => ?_)
            clear hK K
            try simp only [Act.put, List.setIfInBounds_toArray, List.set_cons_zero, List.set_cons_succ]
            refine wpAnyH_ready (rs := [2, 3]) (by kernel_rfl) (by simp) ?_
            refine AllReadyH.cons rfl (fun K hK => ?_) (AllReadyH.cons rfl (fun K hK => ?_) AllReadyH.nil)
            · try simp only [List.getElem_toArray, List.getElem_cons_zero, List.getElem_cons_succ]
              go_simp
              (go_at_call 40; refine (sub_typed _ _ (-1) x 2 6 _ HV1.out (V_b14.out.below hBa) (by decide) (by decide)).mono ?_; rintro e wc ⟨⟨ng3, A3, n3, d3, rfl, hv3⟩, hbc⟩)
              have HV3 := Lib.hid (hv3.mono (by decide : max 2 6 + 1 ≤ 7))
              clear hv3
              have hBc := Below.trans hBa (hbc.mono hBa.size)
              refine hK.out _ _ (HT.out _ hBc) (fun hHeldn => ?_)
              clear hK K
              try simp only [Act.put, List.setIfInBounds_toArray, List.set_cons_zero, List.set_cons_succ]
              refine wpAnyH_ready (rs := [3]) (by kernel_rfl) (by simp) ?_
              refine AllReadyH.cons rfl (fun K hK => ?_) AllReadyH.nil
              try simp only [List.getElem_toArray, List.getElem_cons_zero, List.getElem_cons_succ]
              go_simp
              have hBl := hBc.alloc hBc.size (.cells #[.bool false, .slice none 0 0] 28)
              have hbl := below_alloc wc (.cells #[.bool false, .slice none 0 0] 28)
              have HRMl := Lib.hid (show RoomAt (wc.alloc (.cells #[.bool false, .slice none 0 0] 28)) wc.heap.size from alloc_room wc)
              have hge : W2.heap.size ≤ wc.heap.size := hBc.size
              refine hK.out _ _ (HT.out _ hBl) (fun hHeldn => ?_)
              clear hK K
              try simp only [Act.put, List.setIfInBounds_toArray, List.set_cons_zero, List.set_cons_succ]
              refine wpAnyH_ready (rs := [4]) (by kernel_rfl) (by simp) ?_
              refine AllReadyH.cons rfl (fun K hK => ?_) AllReadyH.nil
              try simp only [List.getElem_toArray, List.getElem_cons_zero, List.getElem_cons_succ]
              obtain ⟨⟨rm0, rm1, rm2, rm3⟩, rmz⟩ := HRMl.out
              go_simp
              have hBs := hBc.alloc hBc.size (.cells #[.bool ng3, .slice A3 n3 d3] 28)
              have hbs := below_alloc wc (.cells #[.bool ng3, .slice A3 n3 d3] 28)
              have hnew : BoxV (wc.alloc (.cells #[.bool ng3, .slice A3 n3 d3] 28)) wc.heap.size (-1 - x) 7 := ((Boxes.nil (w := wc)).add 28 HV3.out).get (b := wc.heap.size) (z := -1 - x) (L := 7) (by simp)
              refine hK.out _ _ (HT.out _ hBs) (fun hHeldS => ?_)
              clear hK K
              try simp only [Act.put, List.setIfInBounds_toArray, List.set_cons_zero, List.set_cons_succ]
              refine wpAnyH_done (by kernel_rfl) ?_ _
              go_wp2_with fail
              go_meet
              exact NewBox.mk K2.out hBs hnew
            · try simp only [List.getElem_toArray, List.getElem_cons_zero, List.getElem_cons_succ]
              go_simp
              have hBl := hBa.alloc hBa.size (.cells #[.bool false, .slice none 0 0] 28)
              have hbl := below_alloc wa (.cells #[.bool false, .slice none 0 0] 28)
              have HRMl := Lib.hid (show RoomAt (wa.alloc (.cells #[.bool false, .slice none 0 0] 28)) wa.heap.size from alloc_room wa)
              have hge : W2.heap.size ≤ wa.heap.size := hBa.size
              have HV1l := Lib.hid (HV1.out.below hbl)
              refine hK.out _ _ (HT.out _ hBl) (fun hHeldn => ?_)
              clear hK K
              try simp only [Act.put, List.setIfInBounds_toArray, List.set_cons_zero, List.set_cons_succ]
              refine wpAnyH_ready (rs := [2]) (by kernel_rfl) (by simp) ?_
              refine AllReadyH.cons rfl (fun K hK => ?_) AllReadyH.nil
              try simp only [List.getElem_toArray, List.getElem_cons_zero, List.getElem_cons_succ]
              go_simp
              (go_at_call 40; refine (sub_typed _ _ (-1) x 2 6 _ HV1l.out (V_b14.out.below hBl) (by decide) (by decide)).mono ?_; rintro e wc ⟨⟨ng3, A3, n3, d3, rfl, hv3⟩, hbc⟩)
              have HV3 := Lib.hid (hv3.mono (by decide : max 2 6 + 1 ≤ 7))
              clear hv3
              have hBc := Below.trans hBl (hbc.mono hBl.size)
              have HRM1 := Lib.hid (HRMl.out.below hbc)
              refine hK.out _ _ (HT.out _ hBc) (fun hHeldn => ?_)
              clear hK K
              try simp only [Act.put, List.setIfInBounds_toArray, List.set_cons_zero, List.set_cons_succ]
              refine wpAnyH_ready (rs := [4]) (by kernel_rfl) (by simp) ?_
              refine AllReadyH.cons rfl (fun K hK => ?_) AllReadyH.nil
              try simp only [List.getElem_toArray, List.getElem_cons_zero, List.getElem_cons_succ]
              obtain ⟨⟨rm0, rm1, rm2, rm3⟩, rmz⟩ := HRM1.out
              go_simp
              have hBs := (hBc.setCell (p := ⟨wa.heap.size, 0, none⟩) hge (.bool ng3)).setCell (p := ⟨wa.heap.size, 1, none⟩) hge (.slice A3 n3 d3)
              obtain ⟨f0, f1⟩ := box_filled HRM1.out (.bool ng3) (.slice A3 n3 d3)
              have hnew : BoxV (((wc).setCell ⟨wa.heap.size, 0, none⟩ (.bool ng3)).setCell ⟨wa.heap.size, 1, none⟩ (.slice A3 n3 d3)) wa.heap.size (-1 - x) 7 := ⟨by have := rmz; simp [World.setCell] at this ⊢ <;> omega, _, _, _, _, f0, f1, HV3.out.stored rm0 rm1 _ _⟩
              refine hK.out _ _ (HT.out _ hBs) (fun hHeldS => ?_)
              clear hK K
              try simp only [Act.put, List.setIfInBounds_toArray, List.set_cons_zero, List.set_cons_succ]
              refine wpAnyH_done (by kernel_rfl) ?_ _
              go_wp2_with fail
              go_meet
              exact NewBox.mk K2.out hBs hnew
          · try simp only [List.getElem_toArray, List.getElem_cons_zero, List.getElem_cons_succ]
            go_simp
            have hBl := hB0.alloc hB0.size (.cells #[.bool false, .slice none 0 0] 28)
            have hbl := below_alloc W2.drew (.cells #[.bool false, .slice none 0 0] 28)
            have HRMl := Lib.hid (show RoomAt (W2.drew.alloc (.cells #[.bool false, .slice none 0 0] 28)) W2.heap.size from alloc_room W2.drew)
            have hge : W2.heap.size ≤ W2.heap.size := hB0.size
            refine hK.out _ _ (HT.out _ hBl) (fun hHeldn => ?_)
            clear hK K
            try simp only [Act.put, List.setIfInBounds_toArray, List.set_cons_zero, List.set_cons_succ]
            refine wpAnyH_ready (rs := [0]) (by kernel_rfl) (by simp) ?_
            refine AllReadyH.cons rfl (fun K hK => ?_) AllReadyH.nil
            try simp only [List.getElem_toArray, List.getElem_cons_zero]
            go_simp
            (go_at_call 17; refine (new_typed (-1) _ (by decide) (by decide)).mono ?_; rintro e wa ⟨⟨ng1, A1, n1, d1, rfl, hv1⟩, hba⟩)
            have HV1 := Lib.hid hv1
            clear hv1
            have hBa := Below.trans hBl (hba.mono hBl.size)
            have HRM0 := Lib.hid (HRMl.out.below hba)
            refine hK.out _ _ (HT.out _ hBa) (fun hHeldn => ?_)
            clear hK K
            try simp only [Act.put, List.setIfInBounds_toArray, List.set_cons_zero, List.set_cons_succ]
            refine wpAnyH_ready (rs := [2]) (by kernel_rfl) (by simp) ?_
            refine AllReadyH.cons rfl (fun K hK => ?_) AllReadyH.nil
            try simp only [List.getElem_toArray, List.getElem_cons_zero, List.getElem_cons_succ]
            go_simp
            (go_at_call 40; refine (sub_typed _ _ (-1) x 2 6 _ HV1.out (V_b14.out.below hBa) (by decide) (by decide)).mono ?_; rintro e wc ⟨⟨ng3, A3, n3, d3, rfl, hv3⟩, hbc⟩)
            have HV3 := Lib.hid (hv3.mono (by decide : max 2 6 + 1 ≤ 7))
            clear hv3
            have hBc := Below.trans hBa (hbc.mono hBa.size)
            have HRM1 := Lib.hid (HRM0.out.below hbc)
            refine hK.out _ _ (HT.out _ hBc) (fun hHeldn => ?_)
            clear hK K
            try simp only [Act.put, List.setIfInBounds_toArray, List.set_cons_zero, List.set_cons_succ]
            refine wpAnyH_ready (rs := [4]) (by kernel_rfl) (by simp) ?_
            refine AllReadyH.cons rfl (fun K hK => ?_) AllReadyH.nil
            try simp only [List.getElem_toArray, List.getElem_cons_zero, List.getElem_cons_succ]
            obtain ⟨⟨rm0, rm1, rm2, rm3⟩, rmz⟩ := HRM1.out
            go_simp
            have hBs := (hBc.setCell (p := ⟨W2.heap.size, 0, none⟩) hge (.bool ng3)).setCell (p := ⟨W2.heap.size, 1, none⟩) hge (.slice A3 n3 d3)
            obtain ⟨f0, f1⟩ := box_filled HRM1.out (.bool ng3) (.slice A3 n3 d3)
            have hnew : BoxV (((wc).setCell ⟨W2.heap.size, 0, none⟩ (.bool ng3)).setCell ⟨W2.heap.size, 1, none⟩ (.slice A3 n3 d3)) W2.heap.size (-1 - x) 7 := ⟨by have := rmz; simp [World.setCell] at this ⊢ <;> omega, _, _, _, _, f0, f1, HV3.out.stored rm0 rm1 _ _⟩
            refine hK.out _ _ (HT.out _ hBs) (fun hHeldS => ?_)
            clear hK K
            try simp only [Act.put, List.setIfInBounds_toArray, List.set_cons_zero, List.set_cons_succ]
            refine wpAnyH_done (by kernel_rfl) ?_ _
            go_wp2_with fail
            go_meet
            exact NewBox.mk K2.out hBs hnew
      case rest =>
        obtain ⟨b22, rfl, hbox, hbc⟩ := hcut
        obtain ⟨W3, rfl⟩ : ∃ W3, W3 = wc := ⟨wc, rfl⟩
        have K3 := Lib.hid hbox
        have HW3 := Lib.hid (HW2.out.trans (hbc.mono HW2.out.size))
        clear hbox hbc K2 HW2
        clear a_b14 e_b14 hlt_b14 V_b14
        go_upto_region 9 with fail
        go_cut [103] (fun v103 wx => v103 = .bool false ∧ Below W3.heap.size W3 wx)
        case first =>
          obtain ⟨hlt_b18, g_b18, A_b18, n_b18, c_b18, a_b18, e_b18, v_b18⟩ := K3.out.get (b := b18) (z := z6) (L := 7) (by simp)
          have V_b18 := Lib.hid v_b18
          clear v_b18
          obtain ⟨hlt_b20, g_b20, A_b20, n_b20, c_b20, a_b20, e_b20, v_b20⟩ := K3.out.get (b := b20) (z := z8) (L := 7) (by simp)
          have V_b20 := Lib.hid v_b20
          clear v_b20
          obtain ⟨hlt_b14, g_b14, A_b14, n_b14, c_b14, a_b14, e_b14, v_b14⟩ := K3.out.get (b := b14) (z := x) (L := 6) (by simp)
          have V_b14 := Lib.hid v_b14
          clear v_b14
          obtain ⟨hlt_b15, g_b15, A_b15, n_b15, c_b15, a_b15, e_b15, v_b15⟩ := K3.out.get (b := b15) (z := y) (L := 6) (by simp)
          have V_b15 := Lib.hid v_b15
          clear v_b15
          obtain ⟨hlt_b22, g_b22, A_b22, n_b22, c_b22, a_b22, e_b22, v_b22⟩ := K3.out.get (b := b22) (z := (-1 - x)) (L := 7) (by simp)
          have V_b22 := Lib.hid v_b22
          clear v_b22
          have HT := Lib.hid (fun (w' : World) (hb : Below W3.heap.size W3 w') => (show w'.cell? ⟨b18, 0, none⟩ = some (.bool g_b18) ∧ w'.cell? ⟨b18, 1, none⟩ = some (.slice A_b18 n_b18 c_b18) ∧ w'.cell? ⟨b20, 0, none⟩ = some (.bool g_b20) ∧ w'.cell? ⟨b20, 1, none⟩ = some (.slice A_b20 n_b20 c_b20) ∧ w'.cell? ⟨b14, 0, none⟩ = some (.bool g_b14) ∧ w'.cell? ⟨b14, 1, none⟩ = some (.slice A_b14 n_b14 c_b14) ∧ w'.cell? ⟨b15, 0, none⟩ = some (.bool g_b15) ∧ w'.cell? ⟨b15, 1, none⟩ = some (.slice A_b15 n_b15 c_b15) ∧ w'.cell? ⟨b22, 0, none⟩ = some (.bool g_b22) ∧ w'.cell? ⟨b22, 1, none⟩ = some (.slice A_b22 n_b22 c_b22) ∧ Below W3.heap.size W3 w' from ⟨(hb.cell (p := ⟨b18, 0, none⟩) hlt_b18).trans a_b18, (hb.cell (p := ⟨b18, 1, none⟩) hlt_b18).trans e_b18, (hb.cell (p := ⟨b20, 0, none⟩) hlt_b20).trans a_b20, (hb.cell (p := ⟨b20, 1, none⟩) hlt_b20).trans e_b20, (hb.cell (p := ⟨b14, 0, none⟩) hlt_b14).trans a_b14, (hb.cell (p := ⟨b14, 1, none⟩) hlt_b14).trans e_b14, (hb.cell (p := ⟨b15, 0, none⟩) hlt_b15).trans a_b15, (hb.cell (p := ⟨b15, 1, none⟩) hlt_b15).trans e_b15, (hb.cell (p := ⟨b22, 0, none⟩) hlt_b22).trans a_b22, (hb.cell (p := ⟨b22, 1, none⟩) hlt_b22).trans e_b22, hb⟩))
          have hR0 := (Below.refl W3.heap.size W3).drew
          have hxa : z6 + z8 + z8 = x + y := xor_and HZ_z6.out HZ_z8.out
          have HXA := Lib.hid hxa
          clear hxa
          as_aux_lemma =>
            refine wp_region_held_drew (S := fun w' => w'.cell? ⟨b18, 0, none⟩ = some (.bool g_b18) ∧ w'.cell? ⟨b18, 1, none⟩ = some (.slice A_b18 n_b18 c_b18) ∧ w'.cell? ⟨b20, 0, none⟩ = some (.bool g_b20) ∧ w'.cell? ⟨b20, 1, none⟩ = some (.slice A_b20 n_b20 c_b20) ∧ w'.cell? ⟨b14, 0, none⟩ = some (.bool g_b14) ∧ w'.cell? ⟨b14, 1, none⟩ = some (.slice A_b14 n_b14 c_b14) ∧ w'.cell? ⟨b15, 0, none⟩ = some (.bool g_b15) ∧ w'.cell? ⟨b15, 1, none⟩ = some (.slice A_b15 n_b15 c_b15) ∧ w'.cell? ⟨b22, 0, none⟩ = some (.bool g_b22) ∧ w'.cell? ⟨b22, 1, none⟩ = some (.slice A_b22 n_b22 c_b22) ∧ Below W3.heap.size W3 w') (by kernel_rfl) (HT.out _ hR0) (fun hHeld0 => ?_)
            refine wpAnyH_taken (i := 0) (d := some 72) (v := ?_) rfl rfl (by kernel_rfl) (by kernel_rfl) (by kernel_rfl) (fun _ _ _ h => h) (Or.inl ⟨by rfl, ?_⟩) (by assumption) ?_
            rotate_left 1
            · (intro w hSw; (try dsimp only at hSw); go_simp; try with_reducible rfl)
            try simp only [Act.put, List.setIfInBounds_toArray, List.set_cons_zero, List.set_cons_succ]
            refine wpAnyH_taken (i := 1) (d := some 73) (v := ?_) rfl rfl (by kernel_rfl) (by kernel_rfl) (by kernel_rfl) (fun _ _ _ h => h) (Or.inl ⟨by rfl, ?_⟩) (by assumption) ?_
            rotate_left 1
            · (intro w hSw; (try dsimp only at hSw); go_simp; try with_reducible rfl)
            try simp only [Act.put, List.setIfInBounds_toArray, List.set_cons_zero, List.set_cons_succ]
            refine wpAnyH_taken (i := 2) (d := some 74) (v := ?_) rfl rfl (by kernel_rfl) (by kernel_rfl) (by kernel_rfl) (fun _ _ _ h => h) (Or.inl ⟨by rfl, ?_⟩) (by assumption) ?_
            rotate_left 1
            · (intro w hSw; (try dsimp only at hSw); go_simp; try with_reducible rfl)
            try simp only [Act.put, List.setIfInBounds_toArray, List.set_cons_zero, List.set_cons_succ]
            refine wpAnyH_taken (i := 3) (d := some 75) (v := ?_) rfl rfl (by kernel_rfl) (by kernel_rfl) (by kernel_rfl) (fun _ _ _ h => h) (Or.inl ⟨by rfl, ?_⟩) (by assumption) ?_
            rotate_left 1
            · (intro w hSw; (try dsimp only at hSw); go_simp; try with_reducible rfl)
            try simp only [Act.put, List.setIfInBounds_toArray, List.set_cons_zero, List.set_cons_succ]
            refine wpAnyH_taken (i := 4) (d := some 76) (v := ?_) rfl rfl (by kernel_rfl) (by kernel_rfl) (by kernel_rfl) (fun _ _ _ h => h) (Or.inl ⟨by rfl, ?_⟩) (by assumption) ?_
            rotate_left 1
            · (intro w hSw; (try dsimp only at hSw); go_simp; try with_reducible rfl)
            try simp only [Act.put, List.setIfInBounds_toArray, List.set_cons_zero, List.set_cons_succ]
            refine wpAnyH_taken (i := 5) (d := some 77) (v := ?_) rfl rfl (by kernel_rfl) (by kernel_rfl) (by kernel_rfl) (fun _ _ _ h => h) (Or.inl ⟨by rfl, ?_⟩) (by assumption) ?_
            rotate_left 1
            · (intro w hSw; (try dsimp only at hSw); go_simp; try with_reducible rfl)
            try simp only [Act.put, List.setIfInBounds_toArray, List.set_cons_zero, List.set_cons_succ]
            refine wpAnyH_taken (i := 6) (d := some 78) (v := ?_) rfl rfl (by kernel_rfl) (by kernel_rfl) (by kernel_rfl) (fun _ _ _ h => h) (Or.inl ⟨by rfl, ?_⟩) (by assumption) ?_
            rotate_left 1
            · (intro w hSw; (try dsimp only at hSw); go_simp; try with_reducible rfl)
            try simp only [Act.put, List.setIfInBounds_toArray, List.set_cons_zero, List.set_cons_succ]
            refine wpAnyH_taken (i := 7) (d := some 79) (v := ?_) rfl rfl (by kernel_rfl) (by kernel_rfl) (by kernel_rfl) (fun _ _ _ h => h) (Or.inl ⟨by rfl, ?_⟩) (by assumption) ?_
            rotate_left 1
            · (intro w hSw; (try dsimp only at hSw); go_simp; try with_reducible rfl)
            try simp only [Act.put, List.setIfInBounds_toArray, List.set_cons_zero, List.set_cons_succ]
            refine wpAnyH_taken (i := 8) (d := some 80) (v := ?_) rfl rfl (by kernel_rfl) (by kernel_rfl) (by kernel_rfl) (fun _ _ _ h => h) (Or.inl ⟨by rfl, ?_⟩) (by assumption) ?_
            rotate_left 1
            · (intro w hSw; (try dsimp only at hSw); go_simp; try with_reducible rfl)
            try simp only [Act.put, List.setIfInBounds_toArray, List.set_cons_zero, List.set_cons_succ]
            refine wpAnyH_taken (i := 10) (d := some 82) (v := ?_) rfl rfl (by kernel_rfl) (by kernel_rfl) (by kernel_rfl) (fun _ _ _ h => h) (Or.inl ⟨by rfl, ?_⟩) (by assumption) ?_
            rotate_left 1
            · (intro w hSw; (try dsimp only at hSw); go_simp; try with_reducible rfl)
            try simp only [Act.put, List.setIfInBounds_toArray, List.set_cons_zero, List.set_cons_succ]
            refine wpAnyH_taken (i := 12) (d := some 84) (v := ?_) rfl rfl (by kernel_rfl) (by kernel_rfl) (by kernel_rfl) (fun _ _ _ h => h) (Or.inl ⟨by rfl, ?_⟩) (by assumption) ?_
            rotate_left 1
            · (intro w hSw; (try dsimp only at hSw); go_simp; try with_reducible rfl)
            try simp only [Act.put, List.setIfInBounds_toArray, List.set_cons_zero, List.set_cons_succ]
            refine wpAnyH_taken (i := 13) (d := some 85) (v := ?_) rfl rfl (by kernel_rfl) (by kernel_rfl) (by kernel_rfl) (fun _ _ _ h => h) (Or.inl ⟨by rfl, ?_⟩) (by assumption) ?_
            rotate_left 1
            · (intro w hSw; (try dsimp only at hSw); go_simp; try with_reducible rfl)
            try simp only [Act.put, List.setIfInBounds_toArray, List.set_cons_zero, List.set_cons_succ]
            refine wpAnyH_ready (rs := [9]) (by kernel_rfl) (by simp) ?_
            refine AllReadyH.cons rfl (fun K hK => ?_) AllReadyH.nil
            try simp only [List.getElem_toArray, List.getElem_cons_zero, List.getElem_cons_succ]
            go_simp
            (go_at_call 38; refine (add_int _ _ z6 z8 7 7 _ (V_b18.out.below hR0) (V_b20.out.below hR0) (by decide) (by decide)).mono ?_; rintro e wz1 ⟨r1, rfl, hv1, hb1⟩)
            have hR1 := Below.trans hR0 (hb1.mono hR0.size)
            have HV1 := Lib.hid (hv1.mono (by decide : max 7 7 + 1 ≤ 8))
            clear hv1
            refine hK.out _ _ (HT.out _ hR1) (fun hHeld1 => ?_)
            clear hK K hHeld0 
            try simp only [Act.put, List.setIfInBounds_toArray, List.set_cons_zero, List.set_cons_succ]
            refine wpAnyH_ready (rs := [11]) (by kernel_rfl) (by simp) ?_
            refine AllReadyH.cons rfl (fun K hK => ?_) AllReadyH.nil
            try simp only [List.getElem_toArray, List.getElem_cons_zero, List.getElem_cons_succ]
            go_simp
            (go_at_call 38; refine (add_int _ _ (z6 + z8) z8 8 7 _ HV1.out (V_b20.out.below hR1) (by decide) (by decide)).mono ?_; rintro e wz2 ⟨r2, rfl, hv2, hb2⟩)
            have hR2 := Below.trans hR1 (hb2.mono hR1.size)
            have HV2 := Lib.hid (hv2.mono (by decide : max 8 7 + 1 ≤ 9))
            clear hv2
            refine hK.out _ _ (HT.out _ hR2) (fun hHeld2 => ?_)
            clear hK K hHeld1 
            try simp only [Act.put, List.setIfInBounds_toArray, List.set_cons_zero, List.set_cons_succ]
            refine wpAnyH_ready (rs := [14]) (by kernel_rfl) (by simp) ?_
            refine AllReadyH.cons rfl (fun K hK => ?_) AllReadyH.nil
            try simp only [List.getElem_toArray, List.getElem_cons_zero, List.getElem_cons_succ]
            go_simp
            (go_at_call 38; refine (add_int _ _ x y 6 6 _ (V_b14.out.below hR2) (V_b15.out.below hR2) (by decide) (by decide)).mono ?_; rintro e wz3 ⟨r3, rfl, hv3, hb3⟩)
            have hR3 := Below.trans hR2 (hb3.mono hR2.size)
            have HV3 := Lib.hid (hv3.mono (by decide : max 6 6 + 1 ≤ 7))
            clear hv3
            refine hK.out _ _ (HT.out _ hR3) (fun hHeld3 => ?_)
            clear hK K hHeld2 
            try simp only [Act.put, List.setIfInBounds_toArray, List.set_cons_zero, List.set_cons_succ]
            refine wpAnyH_ready (rs := [15]) (by kernel_rfl) (by simp) ?_
            refine AllReadyH.cons rfl (fun K hK => ?_) AllReadyH.nil
            try simp only [List.getElem_toArray, List.getElem_cons_zero, List.getElem_cons_succ]
            go_simp
            (go_at_call 65; refine (same_yes _ _ (z6 + z8 + z8) (x + y) 9 7 _ (HV2.out.below hb3) HV3.out (by decide) (by decide) HXA.out).mono ?_; rintro e wz4 ⟨rfl, hb4⟩)
            have hR4 := Below.trans hR3 (hb4.mono hR3.size)
            refine hK.out _ _ (HT.out _ hR4) (fun hHeld4 => ?_)
            clear hK K hHeld3 
            try simp only [Act.put, List.setIfInBounds_toArray, List.set_cons_zero, List.set_cons_succ]
            refine wpAnyH_taken (i := 16) (d := some 88) (v := ?_) rfl rfl (by kernel_rfl) (by kernel_rfl) (by kernel_rfl) (fun _ _ _ h => h) (Or.inl ⟨by rfl, ?_⟩) (by assumption) ?_
            rotate_left 1
            · (intro w hSw; (try dsimp only at hSw); go_simp; try with_reducible rfl)
            try simp only [Act.put, List.setIfInBounds_toArray, List.set_cons_zero, List.set_cons_succ]
            refine wpAnyH_taken (i := 17) (d := some 89) (v := ?_) rfl rfl (by kernel_rfl) (by kernel_rfl) (by kernel_rfl) (fun _ _ _ h => h) (Or.inl ⟨by rfl, ?_⟩) (by assumption) ?_
            rotate_left 1
            · (intro w hSw; (try dsimp only at hSw); go_simp; try with_reducible rfl)
            try simp only [Act.put, List.setIfInBounds_toArray, List.set_cons_zero, List.set_cons_succ]
            refine wpAnyH_taken (i := 18) (d := some 90) (v := ?_) rfl rfl (by kernel_rfl) (by kernel_rfl) (by kernel_rfl) (fun _ _ _ h => h) (Or.inl ⟨by rfl, ?_⟩) (by assumption) ?_
            rotate_left 1
            · (intro w hSw; (try dsimp only at hSw); go_simp; try with_reducible rfl)
            try simp only [Act.put, List.setIfInBounds_toArray, List.set_cons_zero, List.set_cons_succ]
            refine wpAnyH_taken (i := 19) (d := some 91) (v := ?_) rfl rfl (by kernel_rfl) (by kernel_rfl) (by kernel_rfl) (fun _ _ _ h => h) (Or.inl ⟨by rfl, ?_⟩) (by assumption) ?_
            rotate_left 1
            · (intro w hSw; (try dsimp only at hSw); go_simp; try with_reducible rfl)
            try simp only [Act.put, List.setIfInBounds_toArray, List.set_cons_zero, List.set_cons_succ]
            refine wpAnyH_taken (i := 21) (d := some 93) (v := ?_) rfl rfl (by kernel_rfl) (by kernel_rfl) (by kernel_rfl) (fun _ _ _ h => h) (Or.inl ⟨by rfl, ?_⟩) (by assumption) ?_
            rotate_left 1
            · (intro w hSw; (try dsimp only at hSw); go_simp; try with_reducible rfl)
            try simp only [Act.put, List.setIfInBounds_toArray, List.set_cons_zero, List.set_cons_succ]
            refine wpAnyH_ready (rs := [20]) (by kernel_rfl) (by simp) ?_
            refine AllReadyH.cons rfl (fun K hK => ?_) AllReadyH.nil
            try simp only [List.getElem_toArray, List.getElem_cons_zero, List.getElem_cons_succ]
            go_simp
            (go_at_call 26; refine (Length_any _ (-1 - x) 7 _ (V_b22.out.below hR4) (by decide)).mono ?_; rintro e wz5 ⟨⟨k5, rfl, hk5, _⟩, hb5⟩)
            have hR5 := Below.trans hR4 (hb5.mono hR4.size)
            have HK5 := Lib.hid (show IsLen (patOf x) k5 by rw [← patOf_flip]; exact hk5)
            clear hk5
            refine hK.out _ _ (HT.out _ hR5) (fun hHeld5 => ?_)
            clear hK K hHeld4 
            try simp only [Act.put, List.setIfInBounds_toArray, List.set_cons_zero, List.set_cons_succ]
            refine wpAnyH_ready (rs := [22]) (by kernel_rfl) (by simp) ?_
            refine AllReadyH.cons rfl (fun K hK => ?_) AllReadyH.nil
            try simp only [List.getElem_toArray, List.getElem_cons_zero, List.getElem_cons_succ]
            go_simp
            (go_at_call 26; refine (Length_any _ x 6 _ (V_b14.out.below hR5) (by decide)).mono ?_; rintro e wz6 ⟨⟨k6, rfl, hk6, _⟩, hb6⟩)
            have hR6 := Below.trans hR5 (hb6.mono hR5.size)
            obtain rfl := hk6.det HK5.out
            clear hk6
            refine hK.out _ _ (HT.out _ hR6) (fun hHeld6 => ?_)
            clear hK K hHeld5 
            try simp only [Act.put, List.setIfInBounds_toArray, List.set_cons_zero, List.set_cons_succ]
            refine wpAnyH_taken (i := 23) (d := some 95) (v := ?_) rfl rfl (by kernel_rfl) (by kernel_rfl) (by kernel_rfl) (fun _ _ _ h => h) (Or.inl ⟨by rfl, ?_⟩) (by assumption) ?_
            rotate_left 1
            · (intro w hSw; (try dsimp only at hSw); go_simp; try with_reducible rfl)
            try simp only [Act.put, List.setIfInBounds_toArray, List.set_cons_zero, List.set_cons_succ]
            refine wpAnyH_taken (i := 24) (d := some 96) (v := ?_) rfl rfl (by kernel_rfl) (by kernel_rfl) (by kernel_rfl) (fun _ _ _ h => h) (Or.inl ⟨by rfl, ?_⟩) (by assumption) ?_
            rotate_left 1
            · (intro w hSw; (try dsimp only at hSw); go_simp; try with_reducible rfl)
            try simp only [Act.put, List.setIfInBounds_toArray, List.set_cons_zero, List.set_cons_succ]
            refine wpAnyH_taken (i := 25) (d := some 97) (v := ?_) rfl rfl (by kernel_rfl) (by kernel_rfl) (by kernel_rfl) (fun _ _ _ h => h) (Or.inl ⟨by rfl, ?_⟩) (by assumption) ?_
            rotate_left 1
            · (intro w hSw; (try dsimp only at hSw); go_simp; try with_reducible rfl)
            try simp only [Act.put, List.setIfInBounds_toArray, List.set_cons_zero, List.set_cons_succ]
            refine wpAnyH_taken (i := 26) (d := some 98) (v := ?_) rfl rfl (by kernel_rfl) (by kernel_rfl) (by kernel_rfl) (fun _ _ _ h => h) (Or.inl ⟨by rfl, ?_⟩) (by assumption) ?_
            rotate_left 1
            · (intro w hSw; (try dsimp only at hSw); go_simp; try with_reducible rfl)
            try simp only [Act.put, List.setIfInBounds_toArray, List.set_cons_zero, List.set_cons_succ]
            refine wpAnyH_taken (i := 28) (d := some 100) (v := ?_) rfl rfl (by kernel_rfl) (by kernel_rfl) (by kernel_rfl) (fun _ _ _ h => h) (Or.inl ⟨by rfl, ?_⟩) (by assumption) ?_
            rotate_left 1
            · (intro w hSw; (try dsimp only at hSw); go_simp; try with_reducible rfl)
            try simp only [Act.put, List.setIfInBounds_toArray, List.set_cons_zero, List.set_cons_succ]
            refine wpAnyH_ready (rs := [27]) (by kernel_rfl) (by simp) ?_
            refine AllReadyH.cons rfl (fun K hK => ?_) AllReadyH.nil
            try simp only [List.getElem_toArray, List.getElem_cons_zero, List.getElem_cons_succ]
            go_simp
            (go_at_call 28; refine (Count_any _ (-1 - x) 7 _ (V_b22.out.below hR6) (by decide)).mono ?_; rintro e wz7 ⟨⟨m7, hm7, rfl⟩, hb7⟩)
            have hR7 := Below.trans hR6 (hb7.mono hR6.size)
            rw [patOf_flip] at hm7 ⊢
            have HM7 := Lib.hid hm7
            clear hm7
            obtain ⟨pp, hpp⟩ : ∃ pp, popN m7 (patOf x) = pp := ⟨_, rfl⟩
            have HPP := Lib.hid hpp
            rw [hpp]
            clear hpp
            refine hK.out _ _ (HT.out _ hR7) (fun hHeld7 => ?_)
            clear hK K hHeld6 
            try simp only [Act.put, List.setIfInBounds_toArray, List.set_cons_zero, List.set_cons_succ]
            refine wpAnyH_ready (rs := [29]) (by kernel_rfl) (by simp) ?_
            refine AllReadyH.cons rfl (fun K hK => ?_) AllReadyH.nil
            try simp only [List.getElem_toArray, List.getElem_cons_zero, List.getElem_cons_succ]
            go_simp
            (go_at_call 28; refine (Count_any _ x 6 _ (V_b14.out.below hR7) (by decide)).mono ?_; rintro e wz8 ⟨⟨m8, hm8, rfl⟩, hb8⟩)
            have hR8 := Below.trans hR7 (hb8.mono hR7.size)
            rw [popN_same (patOf_nonneg' x) hm8 HM7.out, HPP.out]
            clear hm8
            refine hK.out _ _ (HT.out _ hR8) (fun hHeld8 => ?_)
            clear hK K hHeld7 
            try simp only [Act.put, List.setIfInBounds_toArray, List.set_cons_zero, List.set_cons_succ]
            refine wpAnyH_taken (i := 30) (d := some 102) (v := ?_) rfl rfl (by kernel_rfl) (by kernel_rfl) (by kernel_rfl) (fun _ _ _ h => h) (Or.inl ⟨by rfl, ?_⟩) (by assumption) ?_
            rotate_left 1
            · (intro w hSw; (try dsimp only at hSw); go_simp; try with_reducible rfl)
            try simp only [Act.put, List.setIfInBounds_toArray, List.set_cons_zero, List.set_cons_succ]
            refine wpAnyH_taken (i := 31) (d := some 103) (v := ?_) rfl rfl (by kernel_rfl) (by kernel_rfl) (by kernel_rfl) (fun _ _ _ h => h) (Or.inl ⟨by rfl, ?_⟩) (by assumption) ?_
            rotate_left 1
            · (intro w hSw; (try dsimp only at hSw); go_simp; try with_reducible rfl)
            try simp only [Act.put, List.setIfInBounds_toArray, List.set_cons_zero, List.set_cons_succ]
            refine wpAnyH_done (by kernel_rfl) ?_ _
            go_wp2_with fail
            go_meet
            exact ⟨rfl, hR8⟩
        case rest =>
          obtain ⟨rfl, hbc⟩ := hcut
          obtain ⟨W4, rfl⟩ : ∃ W4, W4 = wc := ⟨wc, rfl⟩
          have K4 := Lib.hid (K3.out.below hbc)
          have HW4 := Lib.hid (HW3.out.trans (hbc.mono HW3.out.size))
          clear hbc K3 HW3
          obtain ⟨hlt_b14, g_b14, A_b14, n_b14, c_b14, a_b14, e_b14, v_b14⟩ := K4.out.get (b := b14) (z := x) (L := 6) (by simp)
          have V_b14 := Lib.hid v_b14
          clear v_b14
          obtain ⟨hlt_b15, g_b15, A_b15, n_b15, c_b15, a_b15, e_b15, v_b15⟩ := K4.out.get (b := b15) (z := y) (L := 6) (by simp)
          have V_b15 := Lib.hid v_b15
          clear v_b15
          go_wp2_with fail
          refine (Deposit_val _ _ x y 6 6 sz po _ V_b14.out V_b15.out (by decide) (by decide) (by omega) (by omega)).mono ?_
          rintro e w11 ⟨⟨gw11, Aw11, nw11, dw11, rfl, hv⟩, hb⟩
          have K5 := Lib.hid ((K4.out.below hb).add 28 (hv.mono (by decide : 6 + 10000 ≤ 10006)))
          have HW5 := Lib.hid (HW4.out.trans ((hb.trans ((below_alloc w11 (.cells #[.bool gw11, .slice Aw11 nw11 dw11] 28)).mono hb.size)).mono HW4.out.size))
          clear hv hb K4 HW4
          clear a_b14 e_b14 hlt_b14 V_b14 a_b15 e_b15 hlt_b15 V_b15
          obtain ⟨hlt_b23, g_b23, A_b23, n_b23, c_b23, a_b23, e_b23, v_b23⟩ := K5.out.get (b := w11.heap.size) (z := (depOf x y sz po)) (L := 10006) (by simp)
          have V_b23 := Lib.hid v_b23
          clear v_b23
          go_wp2_with fail
          generalize (w11.alloc (.cells #[.bool gw11, .slice Aw11 nw11 dw11] 28)) = W5 at *
          generalize w11.heap.size = b23 at *
          refine (Field_int _ (depOf x y sz po) 10006 sz po _ _ rfl rfl _ V_b23.out (by decide) (by omega) (by omega)).mono ?_
          rintro e w12 ⟨⟨gw12, Aw12, nw12, dw12, rfl, hv⟩, hb⟩
          rw [field_dep] at hv
          have K6 := Lib.hid ((K5.out.below hb).add 28 hv)
          have HW6 := Lib.hid (HW5.out.trans ((hb.trans ((below_alloc w12 (.cells #[.bool gw12, .slice Aw12 nw12 dw12] 28)).mono hb.size)).mono HW5.out.size))
          clear hv hb K5 HW5
          clear a_b23 e_b23 hlt_b23 V_b23
          obtain ⟨hlt_b15, g_b15, A_b15, n_b15, c_b15, a_b15, e_b15, v_b15⟩ := K6.out.get (b := b15) (z := y) (L := 6) (by simp)
          have V_b15 := Lib.hid v_b15
          clear v_b15
          go_wp2_with fail
          generalize (w12.alloc (.cells #[.bool gw12, .slice Aw12 nw12 dw12] 28)) = W6 at *
          generalize w12.heap.size = b24 at *
          refine (Field_int _ y 6 sz 0 _ _ rfl rfl _ V_b15.out (by decide) (by omega) (by omega)).mono ?_
          rintro e w13 ⟨⟨gw13, Aw13, nw13, dw13, rfl, hv⟩, hb⟩
          have K7 := Lib.hid ((K6.out.below hb).add 28 hv)
          have HW7 := Lib.hid (HW6.out.trans ((hb.trans ((below_alloc w13 (.cells #[.bool gw13, .slice Aw13 nw13 dw13] 28)).mono hb.size)).mono HW6.out.size))
          clear hv hb K6 HW6
          clear a_b15 e_b15 hlt_b15 V_b15
          obtain ⟨hlt_b14, g_b14, A_b14, n_b14, c_b14, a_b14, e_b14, v_b14⟩ := K7.out.get (b := b14) (z := x) (L := 6) (by simp)
          have V_b14 := Lib.hid v_b14
          clear v_b14
          go_wp2_with fail
          generalize (w13.alloc (.cells #[.bool gw13, .slice Aw13 nw13 dw13] 28)) = W7 at *
          generalize w13.heap.size = b25 at *
          refine (Field_int _ x 6 sz po _ _ rfl rfl _ V_b14.out (by decide) (by omega) (by omega)).mono ?_
          rintro e w14 ⟨⟨gw14, Aw14, nw14, dw14, rfl, hv⟩, hb⟩
          have K8 := Lib.hid ((K7.out.below hb).add 28 hv)
          have HW8 := Lib.hid (HW7.out.trans ((hb.trans ((below_alloc w14 (.cells #[.bool gw14, .slice Aw14 nw14 dw14] 28)).mono hb.size)).mono HW7.out.size))
          clear hv hb K7 HW7
          clear a_b14 e_b14 hlt_b14 V_b14
          obtain ⟨hlt_b14, g_b14, A_b14, n_b14, c_b14, a_b14, e_b14, v_b14⟩ := K8.out.get (b := b14) (z := x) (L := 6) (by simp)
          have V_b14 := Lib.hid v_b14
          clear v_b14
          obtain ⟨hlt_b27, g_b27, A_b27, n_b27, c_b27, a_b27, e_b27, v_b27⟩ := K8.out.get (b := w14.heap.size) (z := (fieldOf x sz po)) (L := 100) (by simp)
          have V_b27 := Lib.hid v_b27
          clear v_b27
          go_wp2_with fail
          generalize (w14.alloc (.cells #[.bool gw14, .slice Aw14 nw14 dw14] 28)) = W8 at *
          generalize w14.heap.size = b27 at *
          refine (Deposit_val _ _ x (fieldOf x sz po) 6 100 sz po _ V_b14.out V_b27.out (by decide) (by decide) (by omega) (by omega)).mono ?_
          rintro e w15 ⟨⟨gw15, Aw15, nw15, dw15, rfl, hv⟩, hb⟩
          rw [dep_own] at hv
          have K9 := Lib.hid ((K8.out.below hb).add 28 (hv.mono (by decide : 6 + 10000 ≤ 10006)))
          have HW9 := Lib.hid (HW8.out.trans ((hb.trans ((below_alloc w15 (.cells #[.bool gw15, .slice Aw15 nw15 dw15] 28)).mono hb.size)).mono HW8.out.size))
          clear hv hb K8 HW8
          clear a_b14 e_b14 hlt_b14 V_b14 a_b27 e_b27 hlt_b27 V_b27
          obtain ⟨hlt_b14, g_b14, A_b14, n_b14, c_b14, a_b14, e_b14, v_b14⟩ := K9.out.get (b := b14) (z := x) (L := 6) (by simp)
          have V_b14 := Lib.hid v_b14
          clear v_b14
          obtain ⟨hlt_b15, g_b15, A_b15, n_b15, c_b15, a_b15, e_b15, v_b15⟩ := K9.out.get (b := b15) (z := y) (L := 6) (by simp)
          have V_b15 := Lib.hid v_b15
          clear v_b15
          go_wp2_with fail
          generalize (w15.alloc (.cells #[.bool gw15, .slice Aw15 nw15 dw15] 28)) = W9 at *
          generalize w15.heap.size = b29 at *
          refine (Boole_bits _ _ x y ((op : Int) % 16) 6 6 _ V_b14.out V_b15.out (by decide) (by decide) (by omega) (by omega)).mono ?_
          rintro e w16 ⟨⟨z16, gw16, Aw16, nw16, dw16, rfl, hv, hz⟩, hb⟩
          have HZ_z16 := Lib.hid hz
          clear hz
          have K10 := Lib.hid ((K9.out.below hb).add 28 (hv.mono (by decide : max 6 6 + 1 ≤ 7)))
          have HW10 := Lib.hid (HW9.out.trans ((hb.trans ((below_alloc w16 (.cells #[.bool gw16, .slice Aw16 nw16 dw16] 28)).mono hb.size)).mono HW9.out.size))
          clear hv hb K9 HW9
          clear a_b14 e_b14 hlt_b14 V_b14 a_b15 e_b15 hlt_b15 V_b15
          have hmx : ∀ w0 : World, Sem.run Try.prog (Builtin.max_ #[44, 44, 44, 44, 44, 44] 44 #[Value.int IntKind.i64 0, Value.int IntKind.i64 0, Value.int IntKind.i64 0, Value.int IntKind.i64 0, Value.int IntKind.i64 0, Value.int IntKind.i64 0]) w0 = Result.ok (Value.int IntKind.i64 0) w0 := fun _ => by kernel_rfl
          obtain ⟨hlt_b24, g_b24, A_b24, n_b24, c_b24, a_b24, e_b24, v_b24⟩ := K10.out.get (b := b24) (z := (fieldOf y sz 0)) (L := 100) (by simp)
          have V_b24 := Lib.hid v_b24
          clear v_b24
          obtain ⟨hlt_b25, g_b25, A_b25, n_b25, c_b25, a_b25, e_b25, v_b25⟩ := K10.out.get (b := b25) (z := (fieldOf y sz 0)) (L := 100) (by simp)
          have V_b25 := Lib.hid v_b25
          clear v_b25
          go_wp2_with fail
          generalize (w16.alloc (.cells #[.bool gw16, .slice Aw16 nw16 dw16] 28)) = W10 at *
          generalize w16.heap.size = b31 at *
          clear hmx
          refine (same_yes _ _ (fieldOf y sz 0) (fieldOf y sz 0) 100 100 _ V_b24.out V_b25.out (by decide) (by decide) rfl).mono ?_
          rintro e w17 ⟨rfl, hb⟩
          clear a_b24 e_b24 hlt_b24 V_b24 a_b25 e_b25 hlt_b25 V_b25
          have K11 := Lib.hid (K10.out.below hb)
          have HW11 := Lib.hid (HW10.out.trans (hb.mono HW10.out.size))
          clear hb K10 HW10
          obtain ⟨hlt_b29, g_b29, A_b29, n_b29, c_b29, a_b29, e_b29, v_b29⟩ := K11.out.get (b := b29) (z := x) (L := 10006) (by simp)
          have V_b29 := Lib.hid v_b29
          clear v_b29
          obtain ⟨hlt_b14, g_b14, A_b14, n_b14, c_b14, a_b14, e_b14, v_b14⟩ := K11.out.get (b := b14) (z := x) (L := 6) (by simp)
          have V_b14 := Lib.hid v_b14
          clear v_b14
          go_wp2_with fail
          refine (same_yes _ _ x x 10006 6 _ V_b29.out V_b14.out (by decide) (by decide) rfl).mono ?_
          rintro e w18 ⟨rfl, hb⟩
          clear a_b29 e_b29 hlt_b29 V_b29 a_b14 e_b14 hlt_b14 V_b14
          have K12 := Lib.hid (K11.out.below hb)
          have HW12 := Lib.hid (HW11.out.trans (hb.mono HW11.out.size))
          clear hb K11 HW11
          obtain ⟨hlt_b14, g_b14, A_b14, n_b14, c_b14, a_b14, e_b14, v_b14⟩ := K12.out.get (b := b14) (z := x) (L := 6) (by simp)
          have V_b14 := Lib.hid v_b14
          clear v_b14
          obtain ⟨nn, hnn⟩ : ∃ nn : Nat, bit % 300 = nn := ⟨_, rfl⟩
          have HNN := Lib.hid hnn
          have hnb : nn ≤ 299 := by omega
          clear hnn
          go_wp2_with fail
          rw [show ((bit : Int) % 300) = (nn : Int) from by have := HNN.out; omega]
          refine (Bit_any _ x (nn : Int) 6 _ V_b14.out (by decide) (by omega) (by omega)).mono ?_
          rintro e w19 ⟨rfl, hb⟩
          obtain ⟨bx, hbx⟩ : ∃ bx, bitOf x (nn : Int) = bx := ⟨_, rfl⟩
          rw [hbx]
          have HBX := Lib.hid hbx
          clear hbx
          clear a_b14 e_b14 hlt_b14 V_b14
          have K13 := Lib.hid (K12.out.below hb)
          have HW13 := Lib.hid (HW12.out.trans (hb.mono HW12.out.size))
          clear hb K12 HW12
          go_upto_if 174 with fail
          go_cut [34] (fun v34 wx => v34 = .int .i64 (pairOf bx) ∧ Below w19.heap.size w19 wx)
          case first =>
            cases bx
            all_goals
              go_wp2_with fail
              go_meet
              exact ⟨rfl, Below.refl _ _⟩
          case rest =>
            as_aux_lemma =>
              obtain ⟨rfl, hbc⟩ := hcut
              obtain ⟨W20, rfl⟩ : ∃ W20, W20 = wc := ⟨wc, rfl⟩
              have K14 := Lib.hid (K13.out.below hbc)
              have HW14 := Lib.hid (HW13.out.trans (hbc.mono HW13.out.size))
              clear hbc K13 HW13
              obtain ⟨P, hP⟩ : ∃ P, pairOf bx = P := ⟨_, rfl⟩
              obtain ⟨hP0, hP1⟩ := pairOf_le bx
              rw [hP] at hP0 hP1 ⊢
              have HP := Lib.hid hP
              clear hP
              obtain ⟨hlt_b15, g_b15, A_b15, n_b15, c_b15, a_b15, e_b15, v_b15⟩ := K14.out.get (b := b15) (z := y) (L := 6) (by simp)
              have V_b15 := Lib.hid v_b15
              clear v_b15
              go_wp2_with fail
              refine (Bit_any _ y (nn : Int) 6 _ V_b15.out (by decide) (by omega) (by omega)).mono ?_
              rintro e w21 ⟨rfl, hb⟩
              obtain ⟨bY, hby⟩ : ∃ bY, bitOf y (nn : Int) = bY := ⟨_, rfl⟩
              rw [hby]
              have HBY := Lib.hid hby
              clear hby
              clear a_b15 e_b15 hlt_b15 V_b15
              have K15 := Lib.hid (K14.out.below hb)
              have HW15 := Lib.hid (HW14.out.trans (hb.mono HW14.out.size))
              clear hb K14 HW14
              go_upto_if 177 with fail
              go_cut [34] (fun v34 wx => v34 = .int .i64 (pairTwo P bY) ∧ Below w21.heap.size w21 wx)
              case first =>
                cases bY
                all_goals
                  go_wp2_with fail
                  go_meet
                  exact ⟨rfl, Below.refl _ _⟩
              case rest =>
                obtain ⟨rfl, hbc⟩ := hcut
                obtain ⟨W22, rfl⟩ : ∃ W22, W22 = wc := ⟨wc, rfl⟩
                have K16 := Lib.hid (K15.out.below hbc)
                have HW16 := Lib.hid (HW15.out.trans (hbc.mono HW15.out.size))
                clear hbc K15 HW15
                obtain ⟨N, hN⟩ : ∃ N : Nat, pairTwo P bY = (N : Int) := ⟨2 * bx.toNat + bY.toNat, by rw [← HP.out]; exact pairTwo_is bx bY⟩
                rw [hN]
                have HN := Lib.hid hN
                have hN3 : N ≤ 3 := by cases bY <;> simp [pairTwo] at hN <;> omega
                have hsel := sel_bit op N bx bY (by have h1 := pairTwo_is bx bY; rw [HP.out, hN] at h1; omega)
                obtain ⟨cz, hcz⟩ : ∃ cz, chosenOf ((op : Int) % 16) bx bY = cz := ⟨_, rfl⟩
                rw [hcz] at hsel
                have HSEL := Lib.hid hsel
                have HCZ := Lib.hid hcz
                clear hN hsel hcz
                go_upto_region 25 with fail
                go_cut [211] (fun v211 wx => v211 = .bool false ∧ Below W22.heap.size W22 wx)
                case first =>
                  obtain ⟨hlt_b23, g_b23, A_b23, n_b23, c_b23, a_b23, e_b23, v_b23⟩ := K16.out.get (b := b23) (z := (depOf x y sz po)) (L := 10006) (by simp)
                  have V_b23 := Lib.hid v_b23
                  clear v_b23
                  obtain ⟨hlt_b14, g_b14, A_b14, n_b14, c_b14, a_b14, e_b14, v_b14⟩ := K16.out.get (b := b14) (z := x) (L := 6) (by simp)
                  have V_b14 := Lib.hid v_b14
                  clear v_b14
                  obtain ⟨hlt_b31, g_b31, A_b31, n_b31, c_b31, a_b31, e_b31, v_b31⟩ := K16.out.get (b := b31) (z := z16) (L := 7) (by simp)
                  have V_b31 := Lib.hid v_b31
                  clear v_b31
                  have HT := Lib.hid (fun (w' : World) (hb : Below W22.heap.size W22 w') => (show w'.cell? ⟨b23, 0, none⟩ = some (.bool g_b23) ∧ w'.cell? ⟨b23, 1, none⟩ = some (.slice A_b23 n_b23 c_b23) ∧ w'.cell? ⟨b14, 0, none⟩ = some (.bool g_b14) ∧ w'.cell? ⟨b14, 1, none⟩ = some (.slice A_b14 n_b14 c_b14) ∧ w'.cell? ⟨b31, 0, none⟩ = some (.bool g_b31) ∧ w'.cell? ⟨b31, 1, none⟩ = some (.slice A_b31 n_b31 c_b31) ∧ Below W22.heap.size W22 w' from ⟨(hb.cell (p := ⟨b23, 0, none⟩) hlt_b23).trans a_b23, (hb.cell (p := ⟨b23, 1, none⟩) hlt_b23).trans e_b23, (hb.cell (p := ⟨b14, 0, none⟩) hlt_b14).trans a_b14, (hb.cell (p := ⟨b14, 1, none⟩) hlt_b14).trans e_b14, (hb.cell (p := ⟨b31, 0, none⟩) hlt_b31).trans a_b31, (hb.cell (p := ⟨b31, 1, none⟩) hlt_b31).trans e_b31, hb⟩))
                  have hR0 := (Below.refl W22.heap.size W22).drew
                  rcases (by omega : nn < po ∨ po + sz ≤ nn ∨ (po ≤ nn ∧ nn < po + sz)) with hc | hc | ⟨hc1, hc2⟩
                  · as_aux_lemma =>
                      have hc1 : (nn : Int) < (po : Int) := by omega
                      have HDB := Lib.hid (show bitOf (depOf x y sz po) (nn : Int) = bx by rw [dep_bit_low x y sz po nn hc]; exact HBX.out)
                      have HZB := Lib.hid (show bitOf z16 (nn : Int) = cz by rw [HZ_z16.out nn, HBX.out, HBY.out, HCZ.out])
                      refine wp_region_held_drew (S := fun w' => w'.cell? ⟨b23, 0, none⟩ = some (.bool g_b23) ∧ w'.cell? ⟨b23, 1, none⟩ = some (.slice A_b23 n_b23 c_b23) ∧ w'.cell? ⟨b14, 0, none⟩ = some (.bool g_b14) ∧ w'.cell? ⟨b14, 1, none⟩ = some (.slice A_b14 n_b14 c_b14) ∧ w'.cell? ⟨b31, 0, none⟩ = some (.bool g_b31) ∧ w'.cell? ⟨b31, 1, none⟩ = some (.slice A_b31 n_b31 c_b31) ∧ Below W22.heap.size W22 w') (by kernel_rfl) (HT.out _ hR0) (fun hHeld0 => ?_)
                      refine wpAnyH_taken (i := 0) (d := some 180) (v := ?_) rfl rfl (by kernel_rfl) (by kernel_rfl) (by kernel_rfl) (fun _ _ _ h => h) (Or.inl ⟨by rfl, ?_⟩) (by assumption) ?_
                      rotate_left 1
                      · (intro w hSw; (try dsimp only at hSw); go_simp; try with_reducible rfl)
                      try simp only [Act.put, List.setIfInBounds_toArray, List.set_cons_zero, List.set_cons_succ]
                      refine wpAnyH_taken (i := 1) (d := some 181) (v := ?_) rfl rfl (by kernel_rfl) (by kernel_rfl) (by kernel_rfl) (fun _ _ _ h => h) (Or.inl ⟨by rfl, ?_⟩) (by assumption) ?_
                      rotate_left 1
                      · (intro w hSw; (try dsimp only at hSw); go_simp; try with_reducible rfl)
                      try simp only [Act.put, List.setIfInBounds_toArray, List.set_cons_zero, List.set_cons_succ]
                      refine wpAnyH_taken (i := 2) (d := some 182) (v := ?_) rfl rfl (by kernel_rfl) (by kernel_rfl) (by kernel_rfl) (fun _ _ _ h => h) (Or.inl ⟨by rfl, ?_⟩) (by assumption) ?_
                      rotate_left 1
                      · (intro w hSw; (try dsimp only at hSw); go_simp; try with_reducible rfl)
                      try simp only [Act.put, List.setIfInBounds_toArray, List.set_cons_zero, List.set_cons_succ]
                      refine wpAnyH_taken (i := 3) (d := some 183) (v := ?_) rfl rfl (by kernel_rfl) (by kernel_rfl) (by kernel_rfl) (fun _ _ _ h => h) (Or.inl ⟨by rfl, ?_⟩) (by assumption) ?_
                      rotate_left 1
                      · (intro w hSw; (try dsimp only at hSw); go_simp; try with_reducible rfl)
                      try simp only [Act.put, List.setIfInBounds_toArray, List.set_cons_zero, List.set_cons_succ]
                      refine wpAnyH_taken (i := 4) (d := some 184) (v := undef) rfl rfl (by kernel_rfl) (by kernel_rfl) (by kernel_rfl) (fun _ _ _ h => h) (Or.inr ⟨by rfl, rfl⟩) (by assumption) ?_
                      try simp only [Act.put, List.setIfInBounds_toArray, List.set_cons_zero, List.set_cons_succ]
                      refine wpAnyH_taken (i := 5) (d := some 185) (v := undef) rfl rfl (by kernel_rfl) (by kernel_rfl) (by kernel_rfl) (fun _ _ _ h => h) (Or.inr ⟨by rfl, rfl⟩) (by assumption) ?_
                      try simp only [Act.put, List.setIfInBounds_toArray, List.set_cons_zero, List.set_cons_succ]
                      refine wpAnyH_taken (i := 6) (d := some 186) (v := undef) rfl rfl (by kernel_rfl) (by kernel_rfl) (by kernel_rfl) (fun _ _ _ h => h) (Or.inr ⟨by rfl, rfl⟩) (by assumption) ?_
                      try simp only [Act.put, List.setIfInBounds_toArray, List.set_cons_zero, List.set_cons_succ]
                      refine wpAnyH_taken (i := 7) (d := some 187) (v := undef) rfl rfl (by kernel_rfl) (by kernel_rfl) (by kernel_rfl) (fun _ _ _ h => h) (Or.inr ⟨by rfl, rfl⟩) (by assumption) ?_
                      try simp only [Act.put, List.setIfInBounds_toArray, List.set_cons_zero, List.set_cons_succ]
                      refine wpAnyH_taken (i := 8) (d := some 188) (v := undef) rfl rfl (by kernel_rfl) (by kernel_rfl) (by kernel_rfl) (fun _ _ _ h => h) (Or.inr ⟨by rfl, rfl⟩) (by assumption) ?_
                      try simp only [Act.put, List.setIfInBounds_toArray, List.set_cons_zero, List.set_cons_succ]
                      refine wpAnyH_taken (i := 9) (d := some 189) (v := ?_) rfl rfl (by kernel_rfl) (by kernel_rfl) (by kernel_rfl) (fun _ _ _ h => h) (Or.inl ⟨by rfl, ?_⟩) (by assumption) ?_
                      rotate_left 1
                      · (intro w hSw; (try dsimp only at hSw); go_simp; try with_reducible rfl)
                      try simp only [Act.put, List.setIfInBounds_toArray, List.set_cons_zero, List.set_cons_succ]
                      refine wpAnyH_taken (i := 10) (d := some 190) (v := ?_) rfl rfl (by kernel_rfl) (by kernel_rfl) (by kernel_rfl) (fun _ _ _ h => h) (Or.inl ⟨by rfl, ?_⟩) (by assumption) ?_
                      rotate_left 1
                      · (intro w hSw; (try dsimp only at hSw); go_simp; try with_reducible rfl)
                      try simp only [Act.put, List.setIfInBounds_toArray, List.set_cons_zero, List.set_cons_succ]
                      refine wpAnyH_taken (i := 11) (d := some 191) (v := ?_) rfl rfl (by kernel_rfl) (by kernel_rfl) (by kernel_rfl) (fun _ _ _ h => h) (Or.inl ⟨by rfl, ?_⟩) (by assumption) ?_
                      rotate_left 1
                      · (intro w hSw; (try dsimp only at hSw); go_simp; try with_reducible rfl)
                      try simp only [Act.put, List.setIfInBounds_toArray, List.set_cons_zero, List.set_cons_succ]
                      refine wpAnyH_taken (i := 12) (d := some 192) (v := ?_) rfl rfl (by kernel_rfl) (by kernel_rfl) (by kernel_rfl) (fun _ _ _ h => h) (Or.inl ⟨by rfl, ?_⟩) (by assumption) ?_
                      rotate_left 1
                      · (intro w hSw; (try dsimp only at hSw); go_simp; try with_reducible rfl)
                      try simp only [Act.put, List.setIfInBounds_toArray, List.set_cons_zero, List.set_cons_succ]
                      refine wpAnyH_taken (i := 14) (d := some 194) (v := ?_) rfl rfl (by kernel_rfl) (by kernel_rfl) (by kernel_rfl) (fun _ _ _ h => h) (Or.inl ⟨by rfl, ?_⟩) (by assumption) ?_
                      rotate_left 1
                      · (intro w hSw; (try dsimp only at hSw); go_simp; try with_reducible rfl)
                      try simp only [Act.put, List.setIfInBounds_toArray, List.set_cons_zero, List.set_cons_succ]
                      refine wpAnyH_taken (i := 15) (d := some 195) (v := ?_) rfl rfl (by kernel_rfl) (by kernel_rfl) (by kernel_rfl) (fun _ _ _ h => h) (Or.inl ⟨by rfl, ?_⟩) (by assumption) ?_
                      rotate_left 1
                      · (intro w hSw; (try dsimp only at hSw); go_simp; try with_reducible rfl)
                      try simp only [Act.put, List.setIfInBounds_toArray, List.set_cons_zero, List.set_cons_succ]
                      refine wpAnyH_ready (rs := [13]) (by kernel_rfl) (by simp) ?_
                      refine AllReadyH.cons rfl (fun K hK => ?_) AllReadyH.nil
                      try simp only [List.getElem_toArray, List.getElem_cons_zero, List.getElem_cons_succ]
                      go_simp
                      (go_at_call 53; refine (Bit_any _ (depOf x y sz po) (nn : Int) 10006 _ (V_b23.out.below hR0) (by decide) (by omega) (by omega)).mono ?_; rintro e wz1 ⟨rfl, hb1⟩)
                      have hR1 := Below.trans hR0 (hb1.mono hR0.size)
                      rw [HDB.out]
                      refine hK.out _ _ (HT.out _ hR1) (fun hHeld1 => ?_)
                      clear hK K hHeld0 
                      try simp only [Act.put, List.setIfInBounds_toArray, List.set_cons_zero, List.set_cons_succ]
                      refine wpAnyH_ready (rs := [16]) (by kernel_rfl) (by simp) ?_
                      refine AllReadyH.cons rfl (fun K hK => ?_) AllReadyH.nil
                      try simp only [List.getElem_toArray, List.getElem_cons_zero, List.getElem_cons_succ]
                      go_simp
                      (go_at_call 53; refine (Bit_any _ x (nn : Int) 6 _ (V_b14.out.below hR1) (by decide) (by omega) (by omega)).mono ?_; rintro e wz2 ⟨rfl, hb2⟩)
                      have hR2 := Below.trans hR1 (hb2.mono hR1.size)
                      rw [HBX.out]
                      refine hK.out _ _ (HT.out _ hR2) (fun hHeld2 => ?_)
                      clear hK K hHeld1 
                      try simp only [Act.put, List.setIfInBounds_toArray, List.set_cons_zero, List.set_cons_succ]
                      refine wpAnyH_taken (i := 17) (d := some 197) (v := ?_) rfl rfl (by kernel_rfl) (by kernel_rfl) (by kernel_rfl) (fun _ _ _ h => h) (Or.inl ⟨by rfl, ?_⟩) (by assumption) ?_
                      rotate_left 1
                      · (intro w hSw; (try dsimp only at hSw); go_simp; try with_reducible rfl)
                      try simp only [Act.put, List.setIfInBounds_toArray, List.set_cons_zero, List.set_cons_succ]
                      refine wpAnyH_taken (i := 18) (d := some 198) (v := ?_) rfl rfl (by kernel_rfl) (by kernel_rfl) (by kernel_rfl) (fun _ _ _ h => h) (Or.inl ⟨by rfl, ?_⟩) (by assumption) ?_
                      rotate_left 1
                      · (intro w hSw; (try dsimp only at hSw); go_simp; try with_reducible rfl)
                      try simp only [Act.put, List.setIfInBounds_toArray, List.set_cons_zero, List.set_cons_succ]
                      refine wpAnyH_taken (i := 19) (d := some 199) (v := ?_) rfl rfl (by kernel_rfl) (by kernel_rfl) (by kernel_rfl) (fun _ _ _ h => h) (Or.inl ⟨by rfl, ?_⟩) (by assumption) ?_
                      rotate_left 1
                      · (intro w hSw; (try dsimp only at hSw); go_simp; try with_reducible rfl)
                      try simp only [Act.put, List.setIfInBounds_toArray, List.set_cons_zero, List.set_cons_succ]
                      refine wpAnyH_taken (i := 20) (d := some 200) (v := ?_) rfl rfl (by kernel_rfl) (by kernel_rfl) (by kernel_rfl) (fun _ _ _ h => h) (Or.inl ⟨by rfl, ?_⟩) (by assumption) ?_
                      rotate_left 1
                      · (intro w hSw; (try dsimp only at hSw); go_simp; try with_reducible rfl)
                      try simp only [Act.put, List.setIfInBounds_toArray, List.set_cons_zero, List.set_cons_succ]
                      refine wpAnyH_taken (i := 21) (d := some 201) (v := ?_) rfl rfl (by kernel_rfl) (by kernel_rfl) (by kernel_rfl) (fun _ _ _ h => h) (Or.inl ⟨by rfl, ?_⟩) (by assumption) ?_
                      rotate_left 1
                      · (intro w hSw; (try dsimp only at hSw); go_simp; try with_reducible rfl)
                      try simp only [Act.put, List.setIfInBounds_toArray, List.set_cons_zero, List.set_cons_succ]
                      refine wpAnyH_taken (i := 23) (d := some 203) (v := ?_) rfl rfl (by kernel_rfl) (by kernel_rfl) (by kernel_rfl) (fun _ _ _ h => h) (Or.inl ⟨by rfl, ?_⟩) (by assumption) ?_
                      rotate_left 1
                      · (intro w hSw; (try dsimp only at hSw); go_simp; try with_reducible rfl)
                      try simp only [Act.put, List.setIfInBounds_toArray, List.set_cons_zero, List.set_cons_succ]
                      refine wpAnyH_taken (i := 24) (d := some 204) (v := ?_) rfl rfl (by kernel_rfl) (by kernel_rfl) (by kernel_rfl) (fun _ _ _ h => h) (Or.inl ⟨by rfl, ?_⟩) (by assumption) ?_
                      rotate_left 1
                      · (intro w hSw; (try dsimp only at hSw); go_simp; try with_reducible rfl)
                      try simp only [Act.put, List.setIfInBounds_toArray, List.set_cons_zero, List.set_cons_succ]
                      refine wpAnyH_taken (i := 25) (d := some 205) (v := ?_) rfl rfl (by kernel_rfl) (by kernel_rfl) (by kernel_rfl) (fun _ _ _ h => h) (Or.inl ⟨by rfl, ?_⟩) (by assumption) ?_
                      rotate_left 1
                      · (intro w hSw; (try dsimp only at hSw); go_simp; try with_reducible rfl)
                      try simp only [Act.put, List.setIfInBounds_toArray, List.set_cons_zero, List.set_cons_succ]
                      refine wpAnyH_taken (i := 26) (d := some 206) (v := ?_) rfl rfl (by kernel_rfl) (by kernel_rfl) (by kernel_rfl) (fun _ _ _ h => h) (Or.inl ⟨by rfl, ?_⟩) (by assumption) ?_
                      rotate_left 1
                      · (intro w hSw; (try dsimp only at hSw); go_simp; try with_reducible rfl)
                      try simp only [Act.put, List.setIfInBounds_toArray, List.set_cons_zero, List.set_cons_succ]
                      refine wpAnyH_taken (i := 27) (d := some 207) (v := ?_) rfl rfl (by kernel_rfl) (by kernel_rfl) (by kernel_rfl) (fun _ _ _ h => h) (Or.inl ⟨by rfl, ?_⟩) (by assumption) ?_
                      rotate_left 1
                      · (intro w hSw; (try dsimp only at hSw); go_simp; try with_reducible rfl)
                      try simp only [Act.put, List.setIfInBounds_toArray, List.set_cons_zero, List.set_cons_succ]
                      refine wpAnyH_taken (i := 28) (d := some 208) (v := ?_) rfl rfl (by kernel_rfl) (by kernel_rfl) (by kernel_rfl) (fun _ _ _ h => h) (Or.inl ⟨by rfl, ?_⟩) (by assumption) ?_
                      rotate_left 1
                      · (intro w hSw; (try dsimp only at hSw); go_simp; try with_reducible rfl)
                      try simp only [Act.put, List.setIfInBounds_toArray, List.set_cons_zero, List.set_cons_succ]
                      refine wpAnyH_taken (i := 29) (d := some 209) (v := ?_) rfl rfl (by kernel_rfl) (by kernel_rfl) (by kernel_rfl) (fun _ _ _ h => h) (Or.inl ⟨by rfl, ?_⟩) (by assumption) ?_
                      rotate_left 1
                      · (intro w hSw; (try dsimp only at hSw); go_simp; try with_reducible rfl)
                      try simp only [Act.put, List.setIfInBounds_toArray, List.set_cons_zero, List.set_cons_succ]
                      refine wpAnyH_ready (rs := [22]) (by kernel_rfl) (by simp) ?_
                      refine AllReadyH.cons rfl (fun K hK => ?_) AllReadyH.nil
                      try simp only [List.getElem_toArray, List.getElem_cons_zero, List.getElem_cons_succ]
                      go_simp
                      (go_at_call 53; refine (Bit_any _ z16 (nn : Int) 7 _ (V_b31.out.below hR2) (by decide) (by omega) (by omega)).mono ?_; rintro e wz3 ⟨rfl, hb3⟩)
                      have hR3 := Below.trans hR2 (hb3.mono hR2.size)
                      rw [HZB.out]
                      refine hK.out _ _ (HT.out _ hR3) (fun hHeld3 => ?_)
                      clear hK K hHeld2 
                      try simp only [Act.put, List.setIfInBounds_toArray, List.set_cons_zero, List.set_cons_succ]
                      rw [HSEL.out]
                      refine wpAnyH_taken (i := 30) (d := some 210) (v := ?_) rfl rfl (by kernel_rfl) (by kernel_rfl) (by kernel_rfl) (fun _ _ _ h => h) (Or.inl ⟨by rfl, ?_⟩) (by assumption) ?_
                      rotate_left 1
                      · (intro w hSw; (try dsimp only at hSw); go_simp; try with_reducible rfl)
                      try simp only [Act.put, List.setIfInBounds_toArray, List.set_cons_zero, List.set_cons_succ]
                      refine wpAnyH_taken (i := 31) (d := some 211) (v := ?_) rfl rfl (by kernel_rfl) (by kernel_rfl) (by kernel_rfl) (fun _ _ _ h => h) (Or.inl ⟨by rfl, ?_⟩) (by assumption) ?_
                      rotate_left 1
                      · (intro w hSw; (try dsimp only at hSw); go_simp; try with_reducible rfl)
                      try simp only [Act.put, List.setIfInBounds_toArray, List.set_cons_zero, List.set_cons_succ]
                      refine wpAnyH_done (by kernel_rfl) ?_ _
                      go_wp2_with fail
                      go_meet
                      exact ⟨rfl, hR3⟩
                  · as_aux_lemma =>
                      have hc1 : ¬ (nn : Int) < (po : Int) := by omega
                      have hc2 : (po : Int) + (sz : Int) ≤ (nn : Int) := by omega
                      have hs1 : IntKind.i64.wrap ((po : Int) + (sz : Int)) = (po : Int) + (sz : Int) := by rw [IntKind.wrap_i64]; omega
                      have HDB := Lib.hid (show bitOf (depOf x y sz po) (nn : Int) = bx by rw [dep_bit_high x y sz po nn hc]; exact HBX.out)
                      have HZB := Lib.hid (show bitOf z16 (nn : Int) = cz by rw [HZ_z16.out nn, HBX.out, HBY.out, HCZ.out])
                      refine wp_region_held_drew (S := fun w' => w'.cell? ⟨b23, 0, none⟩ = some (.bool g_b23) ∧ w'.cell? ⟨b23, 1, none⟩ = some (.slice A_b23 n_b23 c_b23) ∧ w'.cell? ⟨b14, 0, none⟩ = some (.bool g_b14) ∧ w'.cell? ⟨b14, 1, none⟩ = some (.slice A_b14 n_b14 c_b14) ∧ w'.cell? ⟨b31, 0, none⟩ = some (.bool g_b31) ∧ w'.cell? ⟨b31, 1, none⟩ = some (.slice A_b31 n_b31 c_b31) ∧ Below W22.heap.size W22 w') (by kernel_rfl) (HT.out _ hR0) (fun hHeld0 => ?_)
                      refine wpAnyH_taken (i := 0) (d := some 180) (v := ?_) rfl rfl (by kernel_rfl) (by kernel_rfl) (by kernel_rfl) (fun _ _ _ h => h) (Or.inl ⟨by rfl, ?_⟩) (by assumption) ?_
                      rotate_left 1
                      · (intro w hSw; (try dsimp only at hSw); go_simp; try with_reducible rfl)
                      try simp only [Act.put, List.setIfInBounds_toArray, List.set_cons_zero, List.set_cons_succ]
                      refine wpAnyH_taken (i := 1) (d := some 181) (v := ?_) rfl rfl (by kernel_rfl) (by kernel_rfl) (by kernel_rfl) (fun _ _ _ h => h) (Or.inl ⟨by rfl, ?_⟩) (by assumption) ?_
                      rotate_left 1
                      · (intro w hSw; (try dsimp only at hSw); go_simp; try with_reducible rfl)
                      try simp only [Act.put, List.setIfInBounds_toArray, List.set_cons_zero, List.set_cons_succ]
                      refine wpAnyH_taken (i := 2) (d := some 182) (v := ?_) rfl rfl (by kernel_rfl) (by kernel_rfl) (by kernel_rfl) (fun _ _ _ h => h) (Or.inl ⟨by rfl, ?_⟩) (by assumption) ?_
                      rotate_left 1
                      · (intro w hSw; (try dsimp only at hSw); go_simp; try with_reducible rfl)
                      try simp only [Act.put, List.setIfInBounds_toArray, List.set_cons_zero, List.set_cons_succ]
                      refine wpAnyH_taken (i := 3) (d := some 183) (v := ?_) rfl rfl (by kernel_rfl) (by kernel_rfl) (by kernel_rfl) (fun _ _ _ h => h) (Or.inl ⟨by rfl, ?_⟩) (by assumption) ?_
                      rotate_left 1
                      · (intro w hSw; (try dsimp only at hSw); go_simp; try with_reducible rfl)
                      try simp only [Act.put, List.setIfInBounds_toArray, List.set_cons_zero, List.set_cons_succ]
                      refine wpAnyH_taken (i := 4) (d := some 184) (v := ?_) rfl rfl (by kernel_rfl) (by kernel_rfl) (by kernel_rfl) (fun _ _ _ h => h) (Or.inl ⟨by rfl, ?_⟩) (by assumption) ?_
                      rotate_left 1
                      · (intro w hSw; (try dsimp only at hSw); go_simp; try with_reducible rfl)
                      try simp only [Act.put, List.setIfInBounds_toArray, List.set_cons_zero, List.set_cons_succ]
                      refine wpAnyH_taken (i := 5) (d := some 185) (v := ?_) rfl rfl (by kernel_rfl) (by kernel_rfl) (by kernel_rfl) (fun _ _ _ h => h) (Or.inl ⟨by rfl, ?_⟩) (by assumption) ?_
                      rotate_left 1
                      · (intro w hSw; (try dsimp only at hSw); go_simp; try with_reducible rfl)
                      try simp only [Act.put, List.setIfInBounds_toArray, List.set_cons_zero, List.set_cons_succ]
                      refine wpAnyH_taken (i := 6) (d := some 186) (v := ?_) rfl rfl (by kernel_rfl) (by kernel_rfl) (by kernel_rfl) (fun _ _ _ h => h) (Or.inl ⟨by rfl, ?_⟩) (by assumption) ?_
                      rotate_left 1
                      · (intro w hSw; (try dsimp only at hSw); go_simp; try with_reducible rfl)
                      try simp only [Act.put, List.setIfInBounds_toArray, List.set_cons_zero, List.set_cons_succ]
                      refine wpAnyH_taken (i := 7) (d := some 187) (v := ?_) rfl rfl (by kernel_rfl) (by kernel_rfl) (by kernel_rfl) (fun _ _ _ h => h) (Or.inl ⟨by rfl, ?_⟩) (by assumption) ?_
                      rotate_left 1
                      · (intro w hSw; (try dsimp only at hSw); go_simp; try with_reducible rfl)
                      try simp only [Act.put, List.setIfInBounds_toArray, List.set_cons_zero, List.set_cons_succ]
                      refine wpAnyH_taken (i := 8) (d := some 188) (v := ?_) rfl rfl (by kernel_rfl) (by kernel_rfl) (by kernel_rfl) (fun _ _ _ h => h) (Or.inl ⟨by rfl, ?_⟩) (by assumption) ?_
                      rotate_left 1
                      · (intro w hSw; (try dsimp only at hSw); go_simp; try with_reducible rfl)
                      try simp only [Act.put, List.setIfInBounds_toArray, List.set_cons_zero, List.set_cons_succ]
                      refine wpAnyH_taken (i := 9) (d := some 189) (v := ?_) rfl rfl (by kernel_rfl) (by kernel_rfl) (by kernel_rfl) (fun _ _ _ h => h) (Or.inl ⟨by rfl, ?_⟩) (by assumption) ?_
                      rotate_left 1
                      · (intro w hSw; (try dsimp only at hSw); go_simp; try with_reducible rfl)
                      try simp only [Act.put, List.setIfInBounds_toArray, List.set_cons_zero, List.set_cons_succ]
                      refine wpAnyH_taken (i := 10) (d := some 190) (v := ?_) rfl rfl (by kernel_rfl) (by kernel_rfl) (by kernel_rfl) (fun _ _ _ h => h) (Or.inl ⟨by rfl, ?_⟩) (by assumption) ?_
                      rotate_left 1
                      · (intro w hSw; (try dsimp only at hSw); go_simp; try with_reducible rfl)
                      try simp only [Act.put, List.setIfInBounds_toArray, List.set_cons_zero, List.set_cons_succ]
                      refine wpAnyH_taken (i := 11) (d := some 191) (v := ?_) rfl rfl (by kernel_rfl) (by kernel_rfl) (by kernel_rfl) (fun _ _ _ h => h) (Or.inl ⟨by rfl, ?_⟩) (by assumption) ?_
                      rotate_left 1
                      · (intro w hSw; (try dsimp only at hSw); go_simp; try with_reducible rfl)
                      try simp only [Act.put, List.setIfInBounds_toArray, List.set_cons_zero, List.set_cons_succ]
                      refine wpAnyH_taken (i := 12) (d := some 192) (v := ?_) rfl rfl (by kernel_rfl) (by kernel_rfl) (by kernel_rfl) (fun _ _ _ h => h) (Or.inl ⟨by rfl, ?_⟩) (by assumption) ?_
                      rotate_left 1
                      · (intro w hSw; (try dsimp only at hSw); go_simp; try with_reducible rfl)
                      try simp only [Act.put, List.setIfInBounds_toArray, List.set_cons_zero, List.set_cons_succ]
                      refine wpAnyH_taken (i := 14) (d := some 194) (v := ?_) rfl rfl (by kernel_rfl) (by kernel_rfl) (by kernel_rfl) (fun _ _ _ h => h) (Or.inl ⟨by rfl, ?_⟩) (by assumption) ?_
                      rotate_left 1
                      · (intro w hSw; (try dsimp only at hSw); go_simp; try with_reducible rfl)
                      try simp only [Act.put, List.setIfInBounds_toArray, List.set_cons_zero, List.set_cons_succ]
                      refine wpAnyH_taken (i := 15) (d := some 195) (v := ?_) rfl rfl (by kernel_rfl) (by kernel_rfl) (by kernel_rfl) (fun _ _ _ h => h) (Or.inl ⟨by rfl, ?_⟩) (by assumption) ?_
                      rotate_left 1
                      · (intro w hSw; (try dsimp only at hSw); go_simp; try with_reducible rfl)
                      try simp only [Act.put, List.setIfInBounds_toArray, List.set_cons_zero, List.set_cons_succ]
                      refine wpAnyH_ready (rs := [13]) (by kernel_rfl) (by simp) ?_
                      refine AllReadyH.cons rfl (fun K hK => ?_) AllReadyH.nil
                      try simp only [List.getElem_toArray, List.getElem_cons_zero, List.getElem_cons_succ]
                      go_simp
                      (go_at_call 53; refine (Bit_any _ (depOf x y sz po) (nn : Int) 10006 _ (V_b23.out.below hR0) (by decide) (by omega) (by omega)).mono ?_; rintro e wz1 ⟨rfl, hb1⟩)
                      have hR1 := Below.trans hR0 (hb1.mono hR0.size)
                      rw [HDB.out]
                      refine hK.out _ _ (HT.out _ hR1) (fun hHeld1 => ?_)
                      clear hK K hHeld0 
                      try simp only [Act.put, List.setIfInBounds_toArray, List.set_cons_zero, List.set_cons_succ]
                      refine wpAnyH_ready (rs := [16]) (by kernel_rfl) (by simp) ?_
                      refine AllReadyH.cons rfl (fun K hK => ?_) AllReadyH.nil
                      try simp only [List.getElem_toArray, List.getElem_cons_zero, List.getElem_cons_succ]
                      go_simp
                      (go_at_call 53; refine (Bit_any _ x (nn : Int) 6 _ (V_b14.out.below hR1) (by decide) (by omega) (by omega)).mono ?_; rintro e wz2 ⟨rfl, hb2⟩)
                      have hR2 := Below.trans hR1 (hb2.mono hR1.size)
                      rw [HBX.out]
                      refine hK.out _ _ (HT.out _ hR2) (fun hHeld2 => ?_)
                      clear hK K hHeld1 
                      try simp only [Act.put, List.setIfInBounds_toArray, List.set_cons_zero, List.set_cons_succ]
                      refine wpAnyH_taken (i := 17) (d := some 197) (v := ?_) rfl rfl (by kernel_rfl) (by kernel_rfl) (by kernel_rfl) (fun _ _ _ h => h) (Or.inl ⟨by rfl, ?_⟩) (by assumption) ?_
                      rotate_left 1
                      · (intro w hSw; (try dsimp only at hSw); go_simp; try with_reducible rfl)
                      try simp only [Act.put, List.setIfInBounds_toArray, List.set_cons_zero, List.set_cons_succ]
                      refine wpAnyH_taken (i := 18) (d := some 198) (v := ?_) rfl rfl (by kernel_rfl) (by kernel_rfl) (by kernel_rfl) (fun _ _ _ h => h) (Or.inl ⟨by rfl, ?_⟩) (by assumption) ?_
                      rotate_left 1
                      · (intro w hSw; (try dsimp only at hSw); go_simp; try with_reducible rfl)
                      try simp only [Act.put, List.setIfInBounds_toArray, List.set_cons_zero, List.set_cons_succ]
                      refine wpAnyH_taken (i := 19) (d := some 199) (v := ?_) rfl rfl (by kernel_rfl) (by kernel_rfl) (by kernel_rfl) (fun _ _ _ h => h) (Or.inl ⟨by rfl, ?_⟩) (by assumption) ?_
                      rotate_left 1
                      · (intro w hSw; (try dsimp only at hSw); go_simp; try with_reducible rfl)
                      try simp only [Act.put, List.setIfInBounds_toArray, List.set_cons_zero, List.set_cons_succ]
                      refine wpAnyH_taken (i := 20) (d := some 200) (v := ?_) rfl rfl (by kernel_rfl) (by kernel_rfl) (by kernel_rfl) (fun _ _ _ h => h) (Or.inl ⟨by rfl, ?_⟩) (by assumption) ?_
                      rotate_left 1
                      · (intro w hSw; (try dsimp only at hSw); go_simp; try with_reducible rfl)
                      try simp only [Act.put, List.setIfInBounds_toArray, List.set_cons_zero, List.set_cons_succ]
                      refine wpAnyH_taken (i := 21) (d := some 201) (v := ?_) rfl rfl (by kernel_rfl) (by kernel_rfl) (by kernel_rfl) (fun _ _ _ h => h) (Or.inl ⟨by rfl, ?_⟩) (by assumption) ?_
                      rotate_left 1
                      · (intro w hSw; (try dsimp only at hSw); go_simp; try with_reducible rfl)
                      try simp only [Act.put, List.setIfInBounds_toArray, List.set_cons_zero, List.set_cons_succ]
                      refine wpAnyH_taken (i := 23) (d := some 203) (v := ?_) rfl rfl (by kernel_rfl) (by kernel_rfl) (by kernel_rfl) (fun _ _ _ h => h) (Or.inl ⟨by rfl, ?_⟩) (by assumption) ?_
                      rotate_left 1
                      · (intro w hSw; (try dsimp only at hSw); go_simp; try with_reducible rfl)
                      try simp only [Act.put, List.setIfInBounds_toArray, List.set_cons_zero, List.set_cons_succ]
                      refine wpAnyH_taken (i := 24) (d := some 204) (v := ?_) rfl rfl (by kernel_rfl) (by kernel_rfl) (by kernel_rfl) (fun _ _ _ h => h) (Or.inl ⟨by rfl, ?_⟩) (by assumption) ?_
                      rotate_left 1
                      · (intro w hSw; (try dsimp only at hSw); go_simp; try with_reducible rfl)
                      try simp only [Act.put, List.setIfInBounds_toArray, List.set_cons_zero, List.set_cons_succ]
                      refine wpAnyH_taken (i := 25) (d := some 205) (v := ?_) rfl rfl (by kernel_rfl) (by kernel_rfl) (by kernel_rfl) (fun _ _ _ h => h) (Or.inl ⟨by rfl, ?_⟩) (by assumption) ?_
                      rotate_left 1
                      · (intro w hSw; (try dsimp only at hSw); go_simp; try with_reducible rfl)
                      try simp only [Act.put, List.setIfInBounds_toArray, List.set_cons_zero, List.set_cons_succ]
                      refine wpAnyH_taken (i := 26) (d := some 206) (v := ?_) rfl rfl (by kernel_rfl) (by kernel_rfl) (by kernel_rfl) (fun _ _ _ h => h) (Or.inl ⟨by rfl, ?_⟩) (by assumption) ?_
                      rotate_left 1
                      · (intro w hSw; (try dsimp only at hSw); go_simp; try with_reducible rfl)
                      try simp only [Act.put, List.setIfInBounds_toArray, List.set_cons_zero, List.set_cons_succ]
                      refine wpAnyH_taken (i := 27) (d := some 207) (v := ?_) rfl rfl (by kernel_rfl) (by kernel_rfl) (by kernel_rfl) (fun _ _ _ h => h) (Or.inl ⟨by rfl, ?_⟩) (by assumption) ?_
                      rotate_left 1
                      · (intro w hSw; (try dsimp only at hSw); go_simp; try with_reducible rfl)
                      try simp only [Act.put, List.setIfInBounds_toArray, List.set_cons_zero, List.set_cons_succ]
                      refine wpAnyH_taken (i := 28) (d := some 208) (v := ?_) rfl rfl (by kernel_rfl) (by kernel_rfl) (by kernel_rfl) (fun _ _ _ h => h) (Or.inl ⟨by rfl, ?_⟩) (by assumption) ?_
                      rotate_left 1
                      · (intro w hSw; (try dsimp only at hSw); go_simp; try with_reducible rfl)
                      try simp only [Act.put, List.setIfInBounds_toArray, List.set_cons_zero, List.set_cons_succ]
                      refine wpAnyH_taken (i := 29) (d := some 209) (v := ?_) rfl rfl (by kernel_rfl) (by kernel_rfl) (by kernel_rfl) (fun _ _ _ h => h) (Or.inl ⟨by rfl, ?_⟩) (by assumption) ?_
                      rotate_left 1
                      · (intro w hSw; (try dsimp only at hSw); go_simp; try with_reducible rfl)
                      try simp only [Act.put, List.setIfInBounds_toArray, List.set_cons_zero, List.set_cons_succ]
                      refine wpAnyH_ready (rs := [22]) (by kernel_rfl) (by simp) ?_
                      refine AllReadyH.cons rfl (fun K hK => ?_) AllReadyH.nil
                      try simp only [List.getElem_toArray, List.getElem_cons_zero, List.getElem_cons_succ]
                      go_simp
                      (go_at_call 53; refine (Bit_any _ z16 (nn : Int) 7 _ (V_b31.out.below hR2) (by decide) (by omega) (by omega)).mono ?_; rintro e wz3 ⟨rfl, hb3⟩)
                      have hR3 := Below.trans hR2 (hb3.mono hR2.size)
                      rw [HZB.out]
                      refine hK.out _ _ (HT.out _ hR3) (fun hHeld3 => ?_)
                      clear hK K hHeld2 
                      try simp only [Act.put, List.setIfInBounds_toArray, List.set_cons_zero, List.set_cons_succ]
                      rw [HSEL.out]
                      refine wpAnyH_taken (i := 30) (d := some 210) (v := ?_) rfl rfl (by kernel_rfl) (by kernel_rfl) (by kernel_rfl) (fun _ _ _ h => h) (Or.inl ⟨by rfl, ?_⟩) (by assumption) ?_
                      rotate_left 1
                      · (intro w hSw; (try dsimp only at hSw); go_simp; try with_reducible rfl)
                      try simp only [Act.put, List.setIfInBounds_toArray, List.set_cons_zero, List.set_cons_succ]
                      refine wpAnyH_taken (i := 31) (d := some 211) (v := ?_) rfl rfl (by kernel_rfl) (by kernel_rfl) (by kernel_rfl) (fun _ _ _ h => h) (Or.inl ⟨by rfl, ?_⟩) (by assumption) ?_
                      rotate_left 1
                      · (intro w hSw; (try dsimp only at hSw); go_simp; try with_reducible rfl)
                      try simp only [Act.put, List.setIfInBounds_toArray, List.set_cons_zero, List.set_cons_succ]
                      refine wpAnyH_done (by kernel_rfl) ?_ _
                      go_wp2_with fail
                      go_meet
                      exact ⟨rfl, hR3⟩
                  · as_aux_lemma =>
                      have hc3 : ¬ (nn : Int) < (po : Int) := by omega
                      have hc4 : ¬ (po : Int) + (sz : Int) ≤ (nn : Int) := by omega
                      have hs1 : IntKind.i64.wrap ((po : Int) + (sz : Int)) = (po : Int) + (sz : Int) := by rw [IntKind.wrap_i64]; omega
                      have HZB := Lib.hid (show bitOf z16 (nn : Int) = cz by rw [HZ_z16.out nn, HBX.out, HBY.out, HCZ.out])
                      refine wp_region_held_drew (S := fun w' => w'.cell? ⟨b23, 0, none⟩ = some (.bool g_b23) ∧ w'.cell? ⟨b23, 1, none⟩ = some (.slice A_b23 n_b23 c_b23) ∧ w'.cell? ⟨b14, 0, none⟩ = some (.bool g_b14) ∧ w'.cell? ⟨b14, 1, none⟩ = some (.slice A_b14 n_b14 c_b14) ∧ w'.cell? ⟨b31, 0, none⟩ = some (.bool g_b31) ∧ w'.cell? ⟨b31, 1, none⟩ = some (.slice A_b31 n_b31 c_b31) ∧ Below W22.heap.size W22 w') (by kernel_rfl) (HT.out _ hR0) (fun hHeld0 => ?_)
                      refine wpAnyH_taken (i := 0) (d := some 180) (v := ?_) rfl rfl (by kernel_rfl) (by kernel_rfl) (by kernel_rfl) (fun _ _ _ h => h) (Or.inl ⟨by rfl, ?_⟩) (by assumption) ?_
                      rotate_left 1
                      · (intro w hSw; (try dsimp only at hSw); go_simp; try with_reducible rfl)
                      try simp only [Act.put, List.setIfInBounds_toArray, List.set_cons_zero, List.set_cons_succ]
                      refine wpAnyH_taken (i := 1) (d := some 181) (v := ?_) rfl rfl (by kernel_rfl) (by kernel_rfl) (by kernel_rfl) (fun _ _ _ h => h) (Or.inl ⟨by rfl, ?_⟩) (by assumption) ?_
                      rotate_left 1
                      · (intro w hSw; (try dsimp only at hSw); go_simp; try with_reducible rfl)
                      try simp only [Act.put, List.setIfInBounds_toArray, List.set_cons_zero, List.set_cons_succ]
                      refine wpAnyH_taken (i := 2) (d := some 182) (v := ?_) rfl rfl (by kernel_rfl) (by kernel_rfl) (by kernel_rfl) (fun _ _ _ h => h) (Or.inl ⟨by rfl, ?_⟩) (by assumption) ?_
                      rotate_left 1
                      · (intro w hSw; (try dsimp only at hSw); go_simp; try with_reducible rfl)
                      try simp only [Act.put, List.setIfInBounds_toArray, List.set_cons_zero, List.set_cons_succ]
                      refine wpAnyH_taken (i := 3) (d := some 183) (v := ?_) rfl rfl (by kernel_rfl) (by kernel_rfl) (by kernel_rfl) (fun _ _ _ h => h) (Or.inl ⟨by rfl, ?_⟩) (by assumption) ?_
                      rotate_left 1
                      · (intro w hSw; (try dsimp only at hSw); go_simp; try with_reducible rfl)
                      try simp only [Act.put, List.setIfInBounds_toArray, List.set_cons_zero, List.set_cons_succ]
                      refine wpAnyH_taken (i := 4) (d := some 184) (v := ?_) rfl rfl (by kernel_rfl) (by kernel_rfl) (by kernel_rfl) (fun _ _ _ h => h) (Or.inl ⟨by rfl, ?_⟩) (by assumption) ?_
                      rotate_left 1
                      · (intro w hSw; (try dsimp only at hSw); go_simp; try with_reducible rfl)
                      try simp only [Act.put, List.setIfInBounds_toArray, List.set_cons_zero, List.set_cons_succ]
                      refine wpAnyH_taken (i := 5) (d := some 185) (v := ?_) rfl rfl (by kernel_rfl) (by kernel_rfl) (by kernel_rfl) (fun _ _ _ h => h) (Or.inl ⟨by rfl, ?_⟩) (by assumption) ?_
                      rotate_left 1
                      · (intro w hSw; (try dsimp only at hSw); go_simp; try with_reducible rfl)
                      try simp only [Act.put, List.setIfInBounds_toArray, List.set_cons_zero, List.set_cons_succ]
                      refine wpAnyH_taken (i := 6) (d := some 186) (v := ?_) rfl rfl (by kernel_rfl) (by kernel_rfl) (by kernel_rfl) (fun _ _ _ h => h) (Or.inl ⟨by rfl, ?_⟩) (by assumption) ?_
                      rotate_left 1
                      · (intro w hSw; (try dsimp only at hSw); go_simp; try with_reducible rfl)
                      try simp only [Act.put, List.setIfInBounds_toArray, List.set_cons_zero, List.set_cons_succ]
                      refine wpAnyH_taken (i := 7) (d := some 187) (v := ?_) rfl rfl (by kernel_rfl) (by kernel_rfl) (by kernel_rfl) (fun _ _ _ h => h) (Or.inl ⟨by rfl, ?_⟩) (by assumption) ?_
                      rotate_left 1
                      · (intro w hSw; (try dsimp only at hSw); go_simp; try with_reducible rfl)
                      try simp only [Act.put, List.setIfInBounds_toArray, List.set_cons_zero, List.set_cons_succ]
                      refine wpAnyH_taken (i := 8) (d := some 188) (v := ?_) rfl rfl (by kernel_rfl) (by kernel_rfl) (by kernel_rfl) (fun _ _ _ h => h) (Or.inl ⟨by rfl, ?_⟩) (by assumption) ?_
                      rotate_left 1
                      · (intro w hSw; (try dsimp only at hSw); go_simp; try with_reducible rfl)
                      try simp only [Act.put, List.setIfInBounds_toArray, List.set_cons_zero, List.set_cons_succ]
                      refine wpAnyH_taken (i := 9) (d := some 189) (v := ?_) rfl rfl (by kernel_rfl) (by kernel_rfl) (by kernel_rfl) (fun _ _ _ h => h) (Or.inl ⟨by rfl, ?_⟩) (by assumption) ?_
                      rotate_left 1
                      · (intro w hSw; (try dsimp only at hSw); go_simp; try with_reducible rfl)
                      try simp only [Act.put, List.setIfInBounds_toArray, List.set_cons_zero, List.set_cons_succ]
                      refine wpAnyH_taken (i := 10) (d := some 190) (v := ?_) rfl rfl (by kernel_rfl) (by kernel_rfl) (by kernel_rfl) (fun _ _ _ h => h) (Or.inl ⟨by rfl, ?_⟩) (by assumption) ?_
                      rotate_left 1
                      · (intro w hSw; (try dsimp only at hSw); go_simp; try with_reducible rfl)
                      try simp only [Act.put, List.setIfInBounds_toArray, List.set_cons_zero, List.set_cons_succ]
                      refine wpAnyH_taken (i := 11) (d := some 191) (v := undef) rfl rfl (by kernel_rfl) (by kernel_rfl) (by kernel_rfl) (fun _ _ _ h => h) (Or.inr ⟨by rfl, rfl⟩) (by assumption) ?_
                      try simp only [Act.put, List.setIfInBounds_toArray, List.set_cons_zero, List.set_cons_succ]
                      refine wpAnyH_taken (i := 12) (d := some 192) (v := undef) rfl rfl (by kernel_rfl) (by kernel_rfl) (by kernel_rfl) (fun _ _ _ h => h) (Or.inr ⟨by rfl, rfl⟩) (by assumption) ?_
                      try simp only [Act.put, List.setIfInBounds_toArray, List.set_cons_zero, List.set_cons_succ]
                      refine wpAnyH_taken (i := 13) (d := some 193) (v := undef) rfl rfl (by kernel_rfl) (by kernel_rfl) (by kernel_rfl) (fun _ _ _ h => h) (Or.inr ⟨by rfl, rfl⟩) (by assumption) ?_
                      try simp only [Act.put, List.setIfInBounds_toArray, List.set_cons_zero, List.set_cons_succ]
                      refine wpAnyH_taken (i := 14) (d := some 194) (v := undef) rfl rfl (by kernel_rfl) (by kernel_rfl) (by kernel_rfl) (fun _ _ _ h => h) (Or.inr ⟨by rfl, rfl⟩) (by assumption) ?_
                      try simp only [Act.put, List.setIfInBounds_toArray, List.set_cons_zero, List.set_cons_succ]
                      refine wpAnyH_taken (i := 15) (d := some 195) (v := undef) rfl rfl (by kernel_rfl) (by kernel_rfl) (by kernel_rfl) (fun _ _ _ h => h) (Or.inr ⟨by rfl, rfl⟩) (by assumption) ?_
                      try simp only [Act.put, List.setIfInBounds_toArray, List.set_cons_zero, List.set_cons_succ]
                      refine wpAnyH_taken (i := 16) (d := some 196) (v := undef) rfl rfl (by kernel_rfl) (by kernel_rfl) (by kernel_rfl) (fun _ _ _ h => h) (Or.inr ⟨by rfl, rfl⟩) (by assumption) ?_
                      try simp only [Act.put, List.setIfInBounds_toArray, List.set_cons_zero, List.set_cons_succ]
                      refine wpAnyH_taken (i := 17) (d := some 197) (v := undef) rfl rfl (by kernel_rfl) (by kernel_rfl) (by kernel_rfl) (fun _ _ _ h => h) (Or.inr ⟨by rfl, rfl⟩) (by assumption) ?_
                      try simp only [Act.put, List.setIfInBounds_toArray, List.set_cons_zero, List.set_cons_succ]
                      refine wpAnyH_taken (i := 18) (d := some 198) (v := ?_) rfl rfl (by kernel_rfl) (by kernel_rfl) (by kernel_rfl) (fun _ _ _ h => h) (Or.inl ⟨by rfl, ?_⟩) (by assumption) ?_
                      rotate_left 1
                      · (intro w hSw; (try dsimp only at hSw); go_simp; try with_reducible rfl)
                      try simp only [Act.put, List.setIfInBounds_toArray, List.set_cons_zero, List.set_cons_succ]
                      refine wpAnyH_taken (i := 19) (d := some 199) (v := ?_) rfl rfl (by kernel_rfl) (by kernel_rfl) (by kernel_rfl) (fun _ _ _ h => h) (Or.inl ⟨by rfl, ?_⟩) (by assumption) ?_
                      rotate_left 1
                      · (intro w hSw; (try dsimp only at hSw); go_simp; try with_reducible rfl)
                      try simp only [Act.put, List.setIfInBounds_toArray, List.set_cons_zero, List.set_cons_succ]
                      refine wpAnyH_taken (i := 20) (d := some 200) (v := ?_) rfl rfl (by kernel_rfl) (by kernel_rfl) (by kernel_rfl) (fun _ _ _ h => h) (Or.inl ⟨by rfl, ?_⟩) (by assumption) ?_
                      rotate_left 1
                      · (intro w hSw; (try dsimp only at hSw); go_simp; try with_reducible rfl)
                      try simp only [Act.put, List.setIfInBounds_toArray, List.set_cons_zero, List.set_cons_succ]
                      refine wpAnyH_taken (i := 21) (d := some 201) (v := ?_) rfl rfl (by kernel_rfl) (by kernel_rfl) (by kernel_rfl) (fun _ _ _ h => h) (Or.inl ⟨by rfl, ?_⟩) (by assumption) ?_
                      rotate_left 1
                      · (intro w hSw; (try dsimp only at hSw); go_simp; try with_reducible rfl)
                      try simp only [Act.put, List.setIfInBounds_toArray, List.set_cons_zero, List.set_cons_succ]
                      refine wpAnyH_taken (i := 23) (d := some 203) (v := ?_) rfl rfl (by kernel_rfl) (by kernel_rfl) (by kernel_rfl) (fun _ _ _ h => h) (Or.inl ⟨by rfl, ?_⟩) (by assumption) ?_
                      rotate_left 1
                      · (intro w hSw; (try dsimp only at hSw); go_simp; try with_reducible rfl)
                      try simp only [Act.put, List.setIfInBounds_toArray, List.set_cons_zero, List.set_cons_succ]
                      refine wpAnyH_taken (i := 24) (d := some 204) (v := ?_) rfl rfl (by kernel_rfl) (by kernel_rfl) (by kernel_rfl) (fun _ _ _ h => h) (Or.inl ⟨by rfl, ?_⟩) (by assumption) ?_
                      rotate_left 1
                      · (intro w hSw; (try dsimp only at hSw); go_simp; try with_reducible rfl)
                      try simp only [Act.put, List.setIfInBounds_toArray, List.set_cons_zero, List.set_cons_succ]
                      refine wpAnyH_taken (i := 25) (d := some 205) (v := ?_) rfl rfl (by kernel_rfl) (by kernel_rfl) (by kernel_rfl) (fun _ _ _ h => h) (Or.inl ⟨by rfl, ?_⟩) (by assumption) ?_
                      rotate_left 1
                      · (intro w hSw; (try dsimp only at hSw); go_simp; try with_reducible rfl)
                      try simp only [Act.put, List.setIfInBounds_toArray, List.set_cons_zero, List.set_cons_succ]
                      refine wpAnyH_taken (i := 26) (d := some 206) (v := ?_) rfl rfl (by kernel_rfl) (by kernel_rfl) (by kernel_rfl) (fun _ _ _ h => h) (Or.inl ⟨by rfl, ?_⟩) (by assumption) ?_
                      rotate_left 1
                      · (intro w hSw; (try dsimp only at hSw); go_simp; try with_reducible rfl)
                      try simp only [Act.put, List.setIfInBounds_toArray, List.set_cons_zero, List.set_cons_succ]
                      refine wpAnyH_taken (i := 27) (d := some 207) (v := ?_) rfl rfl (by kernel_rfl) (by kernel_rfl) (by kernel_rfl) (fun _ _ _ h => h) (Or.inl ⟨by rfl, ?_⟩) (by assumption) ?_
                      rotate_left 1
                      · (intro w hSw; (try dsimp only at hSw); go_simp; try with_reducible rfl)
                      try simp only [Act.put, List.setIfInBounds_toArray, List.set_cons_zero, List.set_cons_succ]
                      refine wpAnyH_taken (i := 28) (d := some 208) (v := ?_) rfl rfl (by kernel_rfl) (by kernel_rfl) (by kernel_rfl) (fun _ _ _ h => h) (Or.inl ⟨by rfl, ?_⟩) (by assumption) ?_
                      rotate_left 1
                      · (intro w hSw; (try dsimp only at hSw); go_simp; try with_reducible rfl)
                      try simp only [Act.put, List.setIfInBounds_toArray, List.set_cons_zero, List.set_cons_succ]
                      refine wpAnyH_taken (i := 29) (d := some 209) (v := ?_) rfl rfl (by kernel_rfl) (by kernel_rfl) (by kernel_rfl) (fun _ _ _ h => h) (Or.inl ⟨by rfl, ?_⟩) (by assumption) ?_
                      rotate_left 1
                      · (intro w hSw; (try dsimp only at hSw); go_simp; try with_reducible rfl)
                      try simp only [Act.put, List.setIfInBounds_toArray, List.set_cons_zero, List.set_cons_succ]
                      refine wpAnyH_ready (rs := [22]) (by kernel_rfl) (by simp) ?_
                      refine AllReadyH.cons rfl (fun K hK => ?_) AllReadyH.nil
                      try simp only [List.getElem_toArray, List.getElem_cons_zero, List.getElem_cons_succ]
                      go_simp
                      (go_at_call 53; refine (Bit_any _ z16 (nn : Int) 7 _ (V_b31.out.below hR0) (by decide) (by omega) (by omega)).mono ?_; rintro e wz1 ⟨rfl, hb1⟩)
                      have hR1 := Below.trans hR0 (hb1.mono hR0.size)
                      rw [HZB.out]
                      refine hK.out _ _ (HT.out _ hR1) (fun hHeld1 => ?_)
                      clear hK K hHeld0 
                      try simp only [Act.put, List.setIfInBounds_toArray, List.set_cons_zero, List.set_cons_succ]
                      rw [HSEL.out]
                      refine wpAnyH_taken (i := 30) (d := some 210) (v := ?_) rfl rfl (by kernel_rfl) (by kernel_rfl) (by kernel_rfl) (fun _ _ _ h => h) (Or.inl ⟨by rfl, ?_⟩) (by assumption) ?_
                      rotate_left 1
                      · (intro w hSw; (try dsimp only at hSw); go_simp; try with_reducible rfl)
                      try simp only [Act.put, List.setIfInBounds_toArray, List.set_cons_zero, List.set_cons_succ]
                      refine wpAnyH_taken (i := 31) (d := some 211) (v := ?_) rfl rfl (by kernel_rfl) (by kernel_rfl) (by kernel_rfl) (fun _ _ _ h => h) (Or.inl ⟨by rfl, ?_⟩) (by assumption) ?_
                      rotate_left 1
                      · (intro w hSw; (try dsimp only at hSw); go_simp; try with_reducible rfl)
                      try simp only [Act.put, List.setIfInBounds_toArray, List.set_cons_zero, List.set_cons_succ]
                      refine wpAnyH_done (by kernel_rfl) ?_ _
                      go_wp2_with fail
                      go_meet
                      exact ⟨rfl, hR1⟩
                case rest =>
                  as_aux_lemma =>
                    obtain ⟨rfl, hbc⟩ := hcut
                    obtain ⟨W23, rfl⟩ : ∃ W23, W23 = wc := ⟨wc, rfl⟩
                    have K17 := Lib.hid (K16.out.below hbc)
                    have HW17 := Lib.hid (HW16.out.trans (hbc.mono HW16.out.size))
                    clear hbc K16 HW16
                    obtain ⟨hlt_b14, g_b14, A_b14, n_b14, c_b14, a_b14, e_b14, v_b14⟩ := K17.out.get (b := b14) (z := x) (L := 6) (by simp)
                    have V_b14 := Lib.hid v_b14
                    clear v_b14
                    go_wp2_with fail
                    refine (Shift_small _ x 6 sz _ V_b14.out (by decide) (by omega)).mono ?_
                    rintro e w27 ⟨⟨gw27, Aw27, nw27, dw27, rfl, hv⟩, hb⟩
                    have K18 := Lib.hid ((K17.out.below hb).add 28 hv)
                    have HW18 := Lib.hid (HW17.out.trans ((hb.trans ((below_alloc w27 (.cells #[.bool gw27, .slice Aw27 nw27 dw27] 28)).mono hb.size)).mono HW17.out.size))
                    clear hv hb K17 HW17
                    clear a_b14 e_b14 hlt_b14 V_b14
                    obtain ⟨tt, htt⟩ : ∃ tt : Int, tt = -(sz : Int) := ⟨_, rfl⟩
                    have ht2 : IntKind.i64.wrap (-(sz : Int)) = tt := by rw [IntKind.wrap_i64]; omega
                    have ht3 : -(sz : Int) = tt := htt.symm
                    have HTT := Lib.hid htt
                    clear htt
                    obtain ⟨hlt_b35, g_b35, A_b35, n_b35, c_b35, a_b35, e_b35, v_b35⟩ := K18.out.get (b := w27.heap.size) (z := (x * 2 ^ sz)) (L := 200) (by simp)
                    have V_b35 := Lib.hid v_b35
                    clear v_b35
                    go_wp2_with fail
                    generalize (w27.alloc (.cells #[.bool gw27, .slice Aw27 nw27 dw27] 28)) = W18 at *
                    generalize w27.heap.size = b35 at *
                    refine (Shift_back _ x tt 200 sz _ V_b35.out (by decide) (by omega) HTT.out).mono ?_
                    rintro e w28 ⟨⟨gw28, Aw28, nw28, dw28, rfl, hv⟩, hb⟩
                    have K19 := Lib.hid ((K18.out.below hb).add 28 hv)
                    have HW19 := Lib.hid (HW18.out.trans ((hb.trans ((below_alloc w28 (.cells #[.bool gw28, .slice Aw28 nw28 dw28] 28)).mono hb.size)).mono HW18.out.size))
                    clear hv hb K18 HW18
                    clear a_b35 e_b35 hlt_b35 V_b35
                    clear ht2 ht3
                    obtain ⟨hlt_b36, g_b36, A_b36, n_b36, c_b36, a_b36, e_b36, v_b36⟩ := K19.out.get (b := w28.heap.size) (z := x) (L := 2000) (by simp)
                    have V_b36 := Lib.hid v_b36
                    clear v_b36
                    obtain ⟨hlt_b14, g_b14, A_b14, n_b14, c_b14, a_b14, e_b14, v_b14⟩ := K19.out.get (b := b14) (z := x) (L := 6) (by simp)
                    have V_b14 := Lib.hid v_b14
                    clear v_b14
                    go_wp2_with fail
                    generalize (w28.alloc (.cells #[.bool gw28, .slice Aw28 nw28 dw28] 28)) = W19 at *
                    generalize w28.heap.size = b36 at *
                    refine (same_yes _ _ x x 2000 6 _ V_b36.out V_b14.out (by decide) (by decide) rfl).mono ?_
                    rintro e w29 ⟨rfl, hb⟩
                    clear a_b36 e_b36 hlt_b36 V_b36 a_b14 e_b14 hlt_b14 V_b14
                    have K20 := Lib.hid (K19.out.below hb)
                    have HW20 := Lib.hid (HW19.out.trans (hb.mono HW19.out.size))
                    clear hb K19 HW19
                    go_wp2_with fail
                    refine (awake_any _).mono ?_
                    rintro e w30 ⟨rfl, hb⟩
                    have hfin := HW20.out.trans (hb.mono HW20.out.size)
                    go_wp2
                    go_ret
                    exact ⟨rfl, hfin⟩

end Go.Proofs.Ytoanomgdkkbbmaa
