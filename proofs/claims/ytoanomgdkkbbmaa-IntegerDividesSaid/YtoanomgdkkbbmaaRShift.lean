/- The reference's Shift. -/
import Derived.Test.YtoanomgdkkbbmaaShiftV
namespace Go.Proofs.Ytoanomgdkkbbmaa
open Go.RowKit LM

theorem IsLen.some {z : Int} (h0 : 0 ≤ z) : ∃ k, IsLen z k := by
  have key : ∀ N : Nat, ∀ z : Int, 0 ≤ z → z < 2 ^ N → ∃ k, IsLen z k := by
    intro N
    induction N with
    | zero => intro z h0 h1; exact ⟨0, .inl ⟨by simp at h1; omega, rfl⟩⟩
    | succ N ih =>
      intro z h0 h1
      by_cases hz : z < 2 ^ N
      · exact ih z h0 hz
      · exact ⟨N + 1, .inr ⟨by omega, by rw [Nat.add_sub_cancel]; omega, h1⟩⟩
  have hlt := Nat.lt_two_pow_self (n := z.toNat)
  refine key z.toNat z h0 ?_
  have e : (((2 : Nat) ^ z.toNat : Nat) : Int) = (2 : Int) ^ z.toNat := by simp
  rw [← e]; omega

theorem sh_hold {w w' : World} {p : Bool} {A : Option Addr} {n c : Nat} (h : Below (w.heap.size + 2) ((w.alloc (.cells #[.bool p, .slice A n c] 31)).alloc (.cells #[.bool false, .slice none 0 0] 31)) w') :
    (w'.cell? ⟨w.heap.size, 0, none⟩ = some (.bool p) ∧ w'.cell? ⟨w.heap.size, 1, none⟩ = some (.slice A n c)) ∧
    (w'.cell? ⟨w.heap.size + 1, 0, none⟩ = some (.bool false) ∧ w'.cell? ⟨w.heap.size + 1, 1, none⟩ = some (.slice none 0 0) ∧ w'.frozen? ⟨w.heap.size + 1, 0, none⟩ = false ∧ w'.frozen? ⟨w.heap.size + 1, 1, none⟩ = false) := by
  refine ⟨⟨?_, ?_⟩, ?_, ?_, ?_, ?_⟩
  · rw [h.cell (by simp), World.cell?_alloc_past _ _ _ (by simp), World.cell?_alloc_at _ _ _ _ rfl]; rfl
  · rw [h.cell (by simp), World.cell?_alloc_past _ _ _ (by simp), World.cell?_alloc_at _ _ _ _ rfl]; rfl
  · rw [h.cell (by simp), World.cell?_alloc_at _ _ _ _ (by simp)]; rfl
  · rw [h.cell (by simp), World.cell?_alloc_at _ _ _ _ (by simp)]; rfl
  · rw [h.frozen (by simp)]; exact World.frozen?_alloc_at _ _ _ _ (by simp)
  · rw [h.frozen (by simp)]; exact World.frozen?_alloc_at _ _ _ _ (by simp)

theorem shift_gone {x t : Int} {k : Nat} (hk : IsLen (if x < 0 then -x else x) k) (ht : t < -(k : Int)) : shiftOf x t = if x < 0 then -1 else 0 := by
  have h1 := hk.lt
  have h2 := two_mono (show k ≤ (-t).toNat by omega)
  unfold shiftOf
  rw [if_neg (by omega)]
  generalize (2 : Int) ^ (-t).toNat = P at *
  generalize (2 : Int) ^ k = K at *
  by_cases hx : x < 0
  · rw [if_pos hx] at h1 ⊢
    have e : x = (x + P) + P * (-1) := by omega
    rw [e, Int.add_mul_ediv_left _ _ (by omega), Int.ediv_eq_zero_of_lt (by omega) (by omega)]; rfl
  · rw [if_neg hx] at h1 ⊢
    exact Int.ediv_eq_zero_of_lt (by omega) (by omega)

set_option maxRecDepth 100000 in
set_option maxHeartbeats 8000000 in
theorem rShift_int (u : Value) (x t : Int) (L : Nat) (w : World) (h : Rval w u x L) (hL : L ≤ 100) (h0 : -9223372036854775808 ≤ t) (h1 : t ≤ 9223372036854775807) (h2 : t ≤ 300 ∨ 65536 < t) :
    Calls Try.prog 55 #[u, .int .i64 t] w fun e w' => (∃ z err ng A2 n2 c2, e = .returned (.tuple #[.agg #[.bool ng, .slice A2 n2 c2], .int .i64 err]) ∧ Rval w' (.agg #[.bool ng, .slice A2 n2 c2]) z 1000 ∧ ShiftV x t z err) ∧ Below w.heap.size w w' := by
  obtain ⟨p, A, n, c, rfl⟩ := h.form
  have hW := below_two w (.cells #[.bool p, .slice A n c] 31) (.cells #[.bool false, .slice none 0 0] 31)
  have hs2 : w.heap.size + 2 ≤ ((w.alloc (.cells #[.bool p, .slice A n c] 31)).alloc (.cells #[.bool false, .slice none 0 0] 31)).heap.size := by simp
  have hs2' : ((w.alloc (.cells #[.bool p, .slice A n c] 31)).alloc (.cells #[.bool false, .slice none 0 0] 31)).heap.size ≤ w.heap.size + 2 := by simp
  have HX := Lib.hid (h.below hW)
  have HNEG := Lib.hid (rval_neg h)
  have HS := Lib.hid (fun (w' : World) (hb : Below (w.heap.size + 2) ((w.alloc (.cells #[.bool p, .slice A n c] 31)).alloc (.cells #[.bool false, .slice none 0 0] 31)) w') => sh_hold hb)
  have hB0 := Below.refl (w.heap.size + 2) ((w.alloc (.cells #[.bool p, .slice A n c] 31)).alloc (.cells #[.bool false, .slice none 0 0] 31))
  obtain ⟨sg, hsg⟩ : ∃ sg, cmpI x 0 = sg := ⟨_, rfl⟩
  have HSG := Lib.hid hsg
  clear h hsg
  go_enter Try.func55, Try.ntmps55
  go_wp2_with fail
  refine (rsign_any _ x L _ HX.out (by omega)).mono ?_
  rintro e w1 ⟨rfl, hb1⟩
  rw [HSG.out]
  have hB1 := hB0.trans (hb1.mono (B' := w.heap.size + 2) hs2)
  generalize ((w.alloc (.cells #[.bool p, .slice A n c] 31)).alloc (.cells #[.bool false, .slice none 0 0] 31)) = wl at *
  obtain ⟨⟨k0, k1⟩, ⟨e1, e2, e3, e4⟩⟩ := HS.out _ hB1
  by_cases hx : x = 0
  · have hs0 : (sg == 0) = true := by rw [← HSG.out, hx]; decide
    have HXZ := Lib.hid hx
    clear hx
    go_wp2
    refine bodyPost_ret (v := .tuple #[.agg #[.bool p, .slice A n c], .int .i64 0]) (by simp [results, Try.results55, go_sem, e1, e2]) rfl ⟨⟨x, 0, _, _, _, _, rfl, ((HX.out.below (hB1.mono hs2')).mono (by omega)).stored e1 e2 _ _, .inr ⟨fun hf => hf.2.1 HXZ.out, by rw [HXZ.out]; exact (shiftOf_zero t).symm, rfl⟩⟩, ?_⟩
    exact ((hW.trans (hB1.mono (by omega))).setCell (by first | (show _ ≤ _; simp; done) | (show _ ≤ _; omega)) _).setCell (by first | (show _ ≤ _; simp; done) | (show _ ≤ _; omega)) _
  · have hs0 : (sg == 0) = false := by
      rw [← HSG.out]
      rcases cmpI_cases x 0 with ⟨h, _, _⟩ | ⟨_, _, h⟩ | ⟨h, _, _⟩
      · rw [h]; rfl
      · exact absurd h hx
      · rw [h]; rfl
    have HXN := Lib.hid hx
    clear hx
    by_cases ht0 : 0 ≤ t
    · by_cases ht1 : 65536 < t
      · have HTF := Lib.hid (show TooFar x t from ⟨by omega, HXN.out, by obtain ⟨k, hk⟩ := IsLen.some (patOf_nonneg' x); exact ⟨k, hk, by omega⟩⟩)
        go_wp2
        refine bodyPost_ret (v := .tuple #[.agg #[.bool false, .slice none 0 0], .int .i64 14]) (by simp [results, Try.results55, go_sem, e1, e2]) rfl ⟨⟨0, 14, _, _, _, _, rfl, Rval.nought, .inl ⟨HTF.out, rfl, rfl⟩⟩, ?_⟩
        exact ((hW.trans (hB1.mono (by omega))).setCell (by first | (show _ ≤ _; simp; done) | (show _ ≤ _; omega)) _).setCell (by first | (show _ ≤ _; simp; done) | (show _ ≤ _; omega)) _
      · have ht3 : t ≤ 300 := by omega
        go_wp2_with fail
        refine (rLength_any _ x L _ (HX.out.below (hB1.mono hs2')) (by omega)).mono ?_
        rintro e w2 ⟨⟨k, rfl, hk, hkl⟩, hb2⟩
        have hB2 := hB1.trans (hb2.mono (B' := w.heap.size + 2) (Nat.le_trans hs2 hB1.size))
        have hkt : ¬ 65536 < (k : Int) + t := by omega
        have HNF := Lib.hid (show ¬ TooFar x t from fun hf => by obtain ⟨_, _, k2, hk2, hlt⟩ := hf; obtain rfl := hk.det hk2; exact hkt hlt)
        clear hk k0 k1 e1 e2 e3 e4
        obtain ⟨⟨k0, k1⟩, -⟩ := HS.out _ hB2
        go_wp2_with fail
        have hB3 := hB2.drew
        refine wp_region_held_drew (S := fun w' => w'.cell? ⟨w.heap.size, 0, none⟩ = some (.bool p) ∧ w'.cell? ⟨w.heap.size, 1, none⟩ = some (.slice A n c)) (by kernel_rfl) ⟨k0, k1⟩ (fun hHeld0 => ?_)
        refine wpAnyH_taken (i := 0) (d := some 22) (v := ?_) rfl rfl (by kernel_rfl) (by kernel_rfl) (by kernel_rfl) (fun _ _ _ h => h) (Or.inl ⟨by rfl, ?_⟩) (by assumption) ?_
        rotate_left 1
        · (intro w hSw; (try dsimp only at hSw); go_simp; try with_reducible rfl)
        try simp only [Act.put, List.setIfInBounds_toArray, List.set_cons_zero, List.set_cons_succ]
        refine wpAnyH_taken (i := 1) (d := some 23) (v := ?_) rfl rfl (by kernel_rfl) (by kernel_rfl) (by kernel_rfl) (fun _ _ _ h => h) (Or.inl ⟨by rfl, ?_⟩) (by assumption) ?_
        rotate_left 1
        · (intro w hSw; (try dsimp only at hSw); go_simp; try with_reducible rfl)
        try simp only [Act.put, List.setIfInBounds_toArray, List.set_cons_zero, List.set_cons_succ]
        refine wpAnyH_ready (rs := [2]) (by kernel_rfl) (by simp) ?_
        refine AllReadyH.cons rfl (fun K hK => ?_) AllReadyH.nil
        try simp only [List.getElem_toArray, List.getElem_cons_zero, List.getElem_cons_succ]
        go_simp
        (go_at_call 95; refine (rTwo_any t t.toNat (by omega) _ (by omega)).mono ?_; rintro e w4 ⟨⟨ng4, A4, n4, c4, rfl, hv4⟩, hb4⟩)
        have hB4 := hB3.trans (hb4.mono (B' := w.heap.size + 2) (Nat.le_trans hs2 hB3.size))
        have HV4 := Lib.hid hv4
        clear hv4 k0 k1
        obtain ⟨⟨k0, k1⟩, -⟩ := HS.out _ hB4
        refine hK.out _ _ ⟨k0, k1⟩ (fun hHeld1 => ?_)
        clear hK K
        try simp only [Act.put, List.setIfInBounds_toArray, List.set_cons_zero, List.set_cons_succ]
        refine wpAnyH_ready (rs := [3]) (by kernel_rfl) (by simp) ?_
        refine AllReadyH.cons rfl (fun K hK => ?_) AllReadyH.nil
        try simp only [List.getElem_toArray, List.getElem_cons_zero, List.getElem_cons_succ]
        go_simp
        (go_at_call 43; refine (rMul_any _ _ x (2 ^ t.toNat) L (t.toNat / 16 + 1) _ (HX.out.below (hB4.mono hs2')) HV4.out (by omega) (by omega)).mono ?_; rintro e w5 ⟨⟨ng5, A5, n5, c5, rfl, hv5⟩, hb5⟩)
        have hB5 := hB4.trans (hb5.mono (B' := w.heap.size + 2) (Nat.le_trans hs2 hB4.size))
        have HV5 := Lib.hid hv5
        clear hv5 k0 k1
        obtain ⟨⟨k0, k1⟩, ⟨e1, e2, e3, e4⟩⟩ := HS.out _ hB5
        refine hK.out _ _ ⟨k0, k1⟩ (fun hHeld2 => ?_)
        clear hK K
        try simp only [Act.put, List.setIfInBounds_toArray, List.set_cons_zero, List.set_cons_succ]
        refine wpAnyH_ready (rs := [4]) (by kernel_rfl) (by simp) ?_
        refine AllReadyH.cons rfl (fun K hK => ?_) AllReadyH.nil
        try simp only [List.getElem_toArray, List.getElem_cons_zero, List.getElem_cons_succ]
        go_simp
        refine hK.out _ _ ⟨?_, ?_⟩ (fun hHeld3 => ?_)
        · rw [World.cell?_setCell_other _ _ _ _ (by simp <;> omega), World.cell?_setCell_other _ _ _ _ (by simp <;> omega)]; exact k0
        · rw [World.cell?_setCell_other _ _ _ _ (by simp <;> omega), World.cell?_setCell_other _ _ _ _ (by simp <;> omega)]; exact k1
        clear hK K
        try simp only [Act.put, List.setIfInBounds_toArray, List.set_cons_zero, List.set_cons_succ]
        refine wpAnyH_taken (i := 5) (d := some 5) (v := ?_) rfl rfl (by kernel_rfl) (by kernel_rfl) (by kernel_rfl) (fun _ _ _ h => h) (Or.inl ⟨by rfl, ?_⟩) (by assumption) ?_
        rotate_left 1
        · (intro w hSw; (try dsimp only at hSw); go_simp; try with_reducible rfl)
        try simp only [Act.put, List.setIfInBounds_toArray, List.set_cons_zero, List.set_cons_succ]
        refine wpAnyH_done (by kernel_rfl) ?_ _
        have hsv : x * 2 ^ t.toNat = shiftOf x t := by unfold shiftOf; rw [if_pos ht0]
        rw [hsv] at HV5
        go_wp2
        refine bodyPost_ret (v := .tuple #[.agg #[.bool ng5, .slice A5 n5 c5], .int .i64 0]) (by simp [results, Try.results55, go_sem, e1, e2]) rfl ⟨⟨_, 0, _, _, _, _, rfl, (HV5.out.mono (by omega)).stored e1 e2 _ _, .inr ⟨HNF.out, rfl, rfl⟩⟩, ?_⟩
        exact ((hW.trans (hB5.mono (by omega))).setCell (by first | (show _ ≤ _; simp; done) | (show _ ≤ _; omega)) _).setCell (by first | (show _ ≤ _; simp; done) | (show _ ≤ _; omega)) _
    · have HNF := Lib.hid (show ¬ TooFar x t from fun hf => by have := hf.1; omega)
      go_wp2_with fail
      refine (width_abs _ x L _ (HX.out.below (hB1.mono hs2')) (by omega)).mono ?_
      rintro e w2 ⟨⟨k, rfl, hk, hkl⟩, hb2⟩
      have hB2 := hB1.trans (hb2.mono (B' := w.heap.size + 2) (Nat.le_trans hs2 hB1.size))
      have HK := Lib.hid hk
      have HTN := Lib.hid ht0
      clear hk k0 k1 e1 e2 e3 e4
      obtain ⟨⟨k0, k1⟩, -⟩ := HS.out _ hB2
      have hkb : k ≤ 1600 := by omega
      by_cases htk : t < -(k : Int)
      · have HG := Lib.hid (shift_gone HK.out htk)
        cases p with
        | true =>
          have hxn : x < 0 := of_decide_eq_true HNEG.out
          have HG2 := Lib.hid (show shiftOf x t = -1 by rw [HG.out, if_pos hxn])
          clear hxn
          go_wp2_with fail
          refine (rnew_any (-1) _ (by decide) (by decide)).mono ?_
          rintro e w3 ⟨⟨ng3, A3, n3, c3, rfl, hv3⟩, hb3⟩
          have hB3 := hB2.trans (hb3.mono (B' := w.heap.size + 2) (Nat.le_trans hs2 hB2.size))
          rw [← HG2.out] at hv3
          have HV3 := Lib.hid hv3
          clear hv3 k0 k1
          obtain ⟨-, ⟨e1, e2, e3, e4⟩⟩ := HS.out _ hB3
          go_wp2
          refine bodyPost_ret (v := .tuple #[.agg #[.bool ng3, .slice A3 n3 c3], .int .i64 0]) (by simp [results, Try.results55, go_sem, e1, e2]) rfl ⟨⟨_, 0, _, _, _, _, rfl, (HV3.out.mono (by omega)).stored e1 e2 _ _, .inr ⟨HNF.out, rfl, rfl⟩⟩, ?_⟩
          exact ((hW.trans (hB3.mono (by omega))).setCell (by first | (show _ ≤ _; simp; done) | (show _ ≤ _; omega)) _).setCell (by first | (show _ ≤ _; simp; done) | (show _ ≤ _; omega)) _
        | false =>
          have hxn : ¬ x < 0 := of_decide_eq_false HNEG.out
          have HG2 := Lib.hid (show shiftOf x t = 0 by rw [HG.out, if_neg hxn])
          clear hxn
          go_wp2_with fail
          refine (rnew_any 0 _ (by decide) (by decide)).mono ?_
          rintro e w3 ⟨⟨ng3, A3, n3, c3, rfl, hv3⟩, hb3⟩
          have hB3 := hB2.trans (hb3.mono (B' := w.heap.size + 2) (Nat.le_trans hs2 hB2.size))
          rw [← HG2.out] at hv3
          have HV3 := Lib.hid hv3
          clear hv3 k0 k1
          obtain ⟨-, ⟨e1, e2, e3, e4⟩⟩ := HS.out _ hB3
          go_wp2
          refine bodyPost_ret (v := .tuple #[.agg #[.bool ng3, .slice A3 n3 c3], .int .i64 0]) (by simp [results, Try.results55, go_sem, e1, e2]) rfl ⟨⟨_, 0, _, _, _, _, rfl, (HV3.out.mono (by omega)).stored e1 e2 _ _, .inr ⟨HNF.out, rfl, rfl⟩⟩, ?_⟩
          exact ((hW.trans (hB3.mono (by omega))).setCell (by first | (show _ ≤ _; simp; done) | (show _ ≤ _; omega)) _).setCell (by first | (show _ ≤ _; simp; done) | (show _ ≤ _; omega)) _
      · obtain ⟨mm, hmm⟩ : ∃ mm : Nat, -t = (mm : Int) := ⟨(-t).toNat, by omega⟩
        have HMM := Lib.hid hmm
        have hmb : mm ≤ 1600 := by omega
        have hwn : IntKind.i64.wrap (mm : Int) = (mm : Int) := by rw [IntKind.wrap_i64]; omega
        go_wp2_with fail
        have hB3 := hB2.drew
        refine wp_region_held_drew (S := fun w' => w'.cell? ⟨w.heap.size, 0, none⟩ = some (.bool p) ∧ w'.cell? ⟨w.heap.size, 1, none⟩ = some (.slice A n c)) (by kernel_rfl) ⟨k0, k1⟩ (fun hHeld0 => ?_)
        refine wpAnyH_taken (i := 0) (d := some 35) (v := ?_) rfl rfl (by kernel_rfl) (by kernel_rfl) (by kernel_rfl) (fun _ _ _ h => h) (Or.inl ⟨by rfl, ?_⟩) (by assumption) ?_
        rotate_left 1
        · (intro w hSw; (try dsimp only at hSw); go_simp; try with_reducible rfl)
        try simp only [Act.put, List.setIfInBounds_toArray, List.set_cons_zero, List.set_cons_succ]
        refine wpAnyH_taken (i := 1) (d := some 36) (v := ?_) rfl rfl (by kernel_rfl) (by kernel_rfl) (by kernel_rfl) (fun _ _ _ h => h) (Or.inl ⟨by rfl, ?_⟩) (by assumption) ?_
        rotate_left 1
        · (intro w hSw; (try dsimp only at hSw); go_simp; try with_reducible rfl)
        try simp only [Act.put, List.setIfInBounds_toArray, List.set_cons_zero, List.set_cons_succ]
        refine wpAnyH_taken (i := 2) (d := some 37) (v := ?_) rfl rfl (by kernel_rfl) (by kernel_rfl) (by kernel_rfl) (fun _ _ _ h => h) (Or.inl ⟨by rfl, ?_⟩) (by assumption) ?_
        rotate_left 1
        · (intro w hSw; (try dsimp only at hSw); go_simp; try with_reducible rfl)
        try simp only [Act.put, List.setIfInBounds_toArray, List.set_cons_zero, List.set_cons_succ]
        refine wpAnyH_ready (rs := [3]) (by kernel_rfl) (by simp) ?_
        refine AllReadyH.cons rfl (fun K hK => ?_) AllReadyH.nil
        try simp only [List.getElem_toArray, List.getElem_cons_zero, List.getElem_cons_succ]
        go_simp
        (go_at_call 95; refine (rTwo_any _ mm rfl _ (by omega)).mono ?_; rintro e w4 ⟨⟨ng4, A4, n4, c4, rfl, hv4⟩, hb4⟩)
        have hB4 := hB3.trans (hb4.mono (B' := w.heap.size + 2) (Nat.le_trans hs2 hB3.size))
        have HV4 := Lib.hid hv4
        clear hv4 k0 k1
        obtain ⟨⟨k0, k1⟩, -⟩ := HS.out _ hB4
        refine hK.out _ _ ⟨k0, k1⟩ (fun hHeld1 => ?_)
        clear hK K
        try simp only [Act.put, List.setIfInBounds_toArray, List.set_cons_zero, List.set_cons_succ]
        refine wpAnyH_ready (rs := [4]) (by kernel_rfl) (by simp) ?_
        refine AllReadyH.cons rfl (fun K hK => ?_) AllReadyH.nil
        try simp only [List.getElem_toArray, List.getElem_cons_zero, List.getElem_cons_succ]
        go_simp
        (go_at_call 104; refine (rFloor_any _ _ x (2 ^ mm) L (mm / 16 + 1) _ (HX.out.below (hB4.mono hs2')) HV4.out (two_pos mm) (by omega) (by omega)).mono ?_; rintro e w5 ⟨⟨ng5, A5, n5, c5, rfl, hv5⟩, hb5⟩)
        have hB5 := hB4.trans (hb5.mono (B' := w.heap.size + 2) (Nat.le_trans hs2 hB4.size))
        have HV5 := Lib.hid hv5
        clear hv5 k0 k1
        obtain ⟨⟨k0, k1⟩, ⟨e1, e2, e3, e4⟩⟩ := HS.out _ hB5
        refine hK.out _ _ ⟨k0, k1⟩ (fun hHeld2 => ?_)
        clear hK K hwn hmm
        try simp only [Act.put, List.setIfInBounds_toArray, List.set_cons_zero, List.set_cons_succ]
        refine wpAnyH_ready (rs := [5]) (by kernel_rfl) (by simp) ?_
        refine AllReadyH.cons rfl (fun K hK => ?_) AllReadyH.nil
        try simp only [List.getElem_toArray, List.getElem_cons_zero, List.getElem_cons_succ]
        go_simp
        refine hK.out _ _ ⟨?_, ?_⟩ (fun hHeld3 => ?_)
        · rw [World.cell?_setCell_other _ _ _ _ (by simp <;> omega), World.cell?_setCell_other _ _ _ _ (by simp <;> omega)]; exact k0
        · rw [World.cell?_setCell_other _ _ _ _ (by simp <;> omega), World.cell?_setCell_other _ _ _ _ (by simp <;> omega)]; exact k1
        clear hK K
        try simp only [Act.put, List.setIfInBounds_toArray, List.set_cons_zero, List.set_cons_succ]
        refine wpAnyH_taken (i := 6) (d := some 5) (v := ?_) rfl rfl (by kernel_rfl) (by kernel_rfl) (by kernel_rfl) (fun _ _ _ h => h) (Or.inl ⟨by rfl, ?_⟩) (by assumption) ?_
        rotate_left 1
        · (intro w hSw; (try dsimp only at hSw); go_simp; try with_reducible rfl)
        try simp only [Act.put, List.setIfInBounds_toArray, List.set_cons_zero, List.set_cons_succ]
        refine wpAnyH_done (by kernel_rfl) ?_ _
        have hsv : x / 2 ^ mm = shiftOf x t := (shiftOf_back x mm t (by have := HMM.out; have := HTN.out; omega)).symm
        rw [hsv] at HV5
        go_wp2
        refine bodyPost_ret (v := .tuple #[.agg #[.bool ng5, .slice A5 n5 c5], .int .i64 0]) (by simp [results, Try.results55, go_sem, e1, e2]) rfl ⟨⟨_, 0, _, _, _, _, rfl, (HV5.out.mono (by omega)).stored e1 e2 _ _, .inr ⟨HNF.out, rfl, rfl⟩⟩, ?_⟩
        exact ((hW.trans (hB5.mono (by omega))).setCell (by first | (show _ ≤ _; simp; done) | (show _ ≤ _; omega)) _).setCell (by first | (show _ ≤ _; simp; done) | (show _ ≤ _; omega)) _


end Go.Proofs.Ytoanomgdkkbbmaa
