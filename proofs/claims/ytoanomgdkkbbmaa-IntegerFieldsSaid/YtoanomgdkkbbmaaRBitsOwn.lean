/- The reference's Bits, as an own row; within. -/
import Derived.Test.YtoanomgdkkbbmaaRBitsAll
namespace Go.Proofs.Ytoanomgdkkbbmaa
open Go.RowKit LM

set_option maxRecDepth 100000 in
set_option maxHeartbeats 4000000 in
theorem rBitsO_pos (A : Option Addr) (n c : Nat) (x : Int) (L N : Nat) (w : World) (h : Rval w (.agg #[.bool false, .slice A n c]) x L) (hL : L ≤ 400000) (hN : N ≤ 1000000) :
    Calls Try.prog 81 #[.agg #[.bool false, .slice A n c], .int .i64 N] w fun e w' => (∃ A2 c2 base, e = .returned (.slice A2 N c2) ∧ w.heap.size ≤ base ∧ w'.ownsRow base 4 1 (.slice A2 N c2) N ((bitsOf x N).map Value.bool)) ∧ Below w.heap.size w w' := by
  obtain ⟨i0, hii, hz0, hz1, hz2⟩ := info_parts Try.info4
  have hneg := rval_neg h
  have hx : 0 ≤ x := Int.not_lt.1 (of_decide_eq_false hneg)
  obtain ⟨P, hP⟩ : ∃ P, patOf x = P := ⟨_, rfl⟩
  have hP0 : 0 ≤ P := by rw [← hP]; exact patOf_nonneg' x
  have HPP := Lib.hid hP
  have hWL := below_two w (.cells #[.bool false, .slice A n c] 31) (.cells #[.bool false, .slice A n c] 31)
  have hPx : x = P := by rw [← hP]; exact (patOf_of_nonneg hx).symm
  have hcells : ((w.alloc (.cells #[.bool false, .slice A n c] 31)).alloc (.cells #[.bool false, .slice A n c] 31)).cell? ⟨w.heap.size, 0, none⟩ = some (.bool false) ∧ ((w.alloc (.cells #[.bool false, .slice A n c] 31)).alloc (.cells #[.bool false, .slice A n c] 31)).cell? ⟨w.heap.size + 1, 0, none⟩ = some (.bool false) ∧ ((w.alloc (.cells #[.bool false, .slice A n c] 31)).alloc (.cells #[.bool false, .slice A n c] 31)).cell? ⟨w.heap.size + 1, 1, none⟩ = some (.slice A n c) := by
    refine ⟨?_, ?_, ?_⟩
    · rw [World.cell?_alloc_past _ _ _ (by simp), World.cell?_alloc_at _ _ _ _ rfl]; rfl
    · rw [World.cell?_alloc_at _ _ _ _ (by simp)]; rfl
    · rw [World.cell?_alloc_at _ _ _ _ (by simp)]; rfl
  obtain ⟨r0, r1, r2⟩ := hcells
  have hwl2 : w.heap.size + 2 ≤ ((w.alloc (.cells #[.bool false, .slice A n c] 31)).alloc (.cells #[.bool false, .slice A n c] 31)).heap.size := by simp
  have HP0 := Lib.hid (show Rval ((w.alloc (.cells #[.bool false, .slice A n c] 31)).alloc (.cells #[.bool false, .slice A n c] 31)) (.agg #[.bool false, .slice A n c]) P L by rw [← hPx]; exact h.below hWL)
  have HNEG := Lib.hid hneg
  clear h hP hPx hx hneg
  go_enter Try.func81, Try.ntmps81
  go_wp2_with fail
  generalize ((w.alloc (.cells #[.bool false, .slice A n c] 31)).alloc (.cells #[.bool false, .slice A n c] 31)) = wl at *
  have HP := HP0
  have HT := Lib.hid (fun (w' : World) (hb : Below wl.heap.size wl w') => bits_hold r0 r1 r2 hwl2 hb)
  clear r0 r1 r2 HP0
  go_loopw [6, 7] (fun dv iv wr => ∃ (i : Nat) (bs : List Bool), iv = .int .i64 i ∧ i ≤ N ∧ Bools wr wl.heap.size dv bs ∧ bs.length = i ∧ Hid (bs = bitsOf x i) ∧ Below wl.heap.size wl wr) (fun _ iv _ => N - (intOf iv).toNat)
  case atStart => exact ⟨0, [], rfl, Nat.zero_le _, World.ownsRow_nil _ _ _ _, rfl, Lib.hid rfl, Below.refl _ _⟩
  case round =>
    obtain ⟨i, bs, rfl, hi, hown, hbl, HBS, hb⟩ := hrel
    have HO := Lib.hid hown
    have HBL := Lib.hid hbl
    have HO2 : Hid (wr.ownsRow wl.heap.size 4 1 u6 i (bs.map Value.bool)) := Lib.hid (by have h := HO.out; unfold Bools at h; rw [HBL.out] at h; exact h)
    clear hown hbl
    by_cases hlt : i < N
    · have hB0 := hb.drew
      obtain ⟨bb, hbb⟩ : ∃ bb, decide (P / 2 ^ i % 2 = 1) = bb := ⟨_, rfl⟩
      have HBI := Lib.hid hbb
      have HBO := Lib.hid (show bb = bitOf x (i : Int) by unfold bitOf; rw [if_neg (by omega), Int.toNat_natCast, HPP.out, hbb, HNEG.out]; cases bb <;> rfl)
      have hib : (i : Int) < (N : Int) := by omega
      obtain ⟨kk0, kk1, kk2, _⟩ := HT.out _ hb
      clear hbb
      go_wp2_with fail
      refine wp_region_held_drew (S := fun w' => w'.cell? ⟨w.heap.size, 0, none⟩ = some (.bool false) ∧ w'.cell? ⟨w.heap.size + 1, 0, none⟩ = some (.bool false) ∧ w'.cell? ⟨w.heap.size + 1, 1, none⟩ = some (.slice A n c) ∧ Below wl.heap.size wl w') (by kernel_rfl) (HT.out _ hB0) (fun hHeld0 => ?_)
      refine wpAnyH_taken (i := 0) (d := some 19) (v := ?_) rfl rfl (by kernel_rfl) (by kernel_rfl) (by kernel_rfl) (fun _ _ _ h => h) (Or.inl ⟨by rfl, ?_⟩) (by assumption) ?_
      rotate_left 1
      · (intro w hSw; (try dsimp only at hSw); go_simp; try with_reducible rfl)
      try simp only [Act.put, List.setIfInBounds_toArray, List.set_cons_zero, List.set_cons_succ]
      refine wpAnyH_taken (i := 1) (d := some 20) (v := ?_) rfl rfl (by kernel_rfl) (by kernel_rfl) (by kernel_rfl) (fun _ _ _ h => h) (Or.inl ⟨by rfl, ?_⟩) (by assumption) ?_
      rotate_left 1
      · (intro w hSw; (try dsimp only at hSw); go_simp; try with_reducible rfl)
      try simp only [Act.put, List.setIfInBounds_toArray, List.set_cons_zero, List.set_cons_succ]
      refine wpAnyH_taken (i := 2) (d := some 21) (v := ?_) rfl rfl (by kernel_rfl) (by kernel_rfl) (by kernel_rfl) (fun _ _ _ h => h) (Or.inl ⟨by rfl, ?_⟩) (by assumption) ?_
      rotate_left 1
      · (intro w hSw; (try dsimp only at hSw); go_simp; try with_reducible rfl)
      try simp only [Act.put, List.setIfInBounds_toArray, List.set_cons_zero, List.set_cons_succ]
      refine wpAnyH_taken (i := 4) (d := some 23) (v := ?_) rfl rfl (by kernel_rfl) (by kernel_rfl) (by kernel_rfl) (fun _ _ _ h => h) (Or.inl ⟨by rfl, ?_⟩) (by assumption) ?_
      rotate_left 1
      · (intro w hSw; (try dsimp only at hSw); go_simp; try with_reducible rfl)
      try simp only [Act.put, List.setIfInBounds_toArray, List.set_cons_zero, List.set_cons_succ]
      refine wpAnyH_taken (i := 5) (d := some 24) (v := ?_) rfl rfl (by kernel_rfl) (by kernel_rfl) (by kernel_rfl) (fun _ _ _ h => h) (Or.inl ⟨by rfl, ?_⟩) (by assumption) ?_
      rotate_left 1
      · (intro w hSw; (try dsimp only at hSw); go_simp; try with_reducible rfl)
      try simp only [Act.put, List.setIfInBounds_toArray, List.set_cons_zero, List.set_cons_succ]
      refine wpAnyH_ready (rs := [3]) (by kernel_rfl) (by simp) ?_
      refine AllReadyH.cons rfl (fun K hK => ?_) AllReadyH.nil
      try simp only [List.getElem_toArray, List.getElem_cons_zero, List.getElem_cons_succ]
      go_simp
      (go_at_call 103; refine (rset_val _ P L i _ (HP.out.below hB0) hP0 (by omega) (by omega)).mono ?_; rintro e w1 ⟨rfl, hb1⟩; rw [HBI.out])
      have hB1 := Below.trans hB0 (hb1.mono (B' := wl.heap.size) hB0.size)
      have HO1 := Lib.hid (owns_below (w := wr.drew) (show wr.drew.ownsRow wl.heap.size 4 1 u6 i (bs.map Value.bool) from HO2.out) hb1)
      refine hK.out _ _ (HT.out _ hB1) (fun hHeld1 => ?_)
      clear hK K hHeld0
      try simp only [Act.put, List.setIfInBounds_toArray, List.set_cons_zero, List.set_cons_succ]
      refine wpAnyH_taken (i := 6) (d := some 25) (v := ?_) rfl rfl (by kernel_rfl) (by kernel_rfl) (by kernel_rfl) (fun _ _ _ h => h) (Or.inl ⟨by rfl, ?_⟩) (by assumption) ?_
      rotate_left 1
      · (intro w hSw; (try dsimp only at hSw); go_simp; try with_reducible rfl)
      try simp only [Act.put, List.setIfInBounds_toArray, List.set_cons_zero, List.set_cons_succ]
      refine wpAnyH_ready (rs := [7]) (by kernel_rfl) (by simp) ?_
      refine AllReadyH.cons rfl (fun K hK => ?_) AllReadyH.nil
      try simp only [List.getElem_toArray, List.getElem_cons_zero, List.getElem_cons_succ]
      go_simp
      have hB2 := hB1.alloc hB1.size (.cells #[.bool (bb)] 4)
      refine hK.out _ _ (HT.out _ hB2) (fun hHeld2 => ?_)
      clear hK K hHeld1
      try simp only [Act.put, List.setIfInBounds_toArray, List.set_cons_zero, List.set_cons_succ]
      refine wpAnyH_ready (rs := [8]) (by kernel_rfl) (by simp) ?_
      refine AllReadyH.cons (o := { dst := some 27, op := Op.call { callee := Callee.builtin Builtin.append, args := #[Operand.tmp 19, Operand.tmp 26], argTypes := #[103, 103] }, type := 103, pos := "ref.go:369", after := #[{ on := 0, ground := Ground.data }, { on := 7, ground := Ground.data }, { on := 3, ground := Ground.chain }], guard := none }) rfl (fun K hK => ?_) AllReadyH.nil
      refine step_own rfl (.tmp 19) (.tmp 26) 103 rfl wl.heap.size 4 i0 (.bool false) 1 1 Try.underlying103 hii hz0 hz1 hz2 rfl (by decide) u6 i (bs.map Value.bool) (by simp [Act.eval]) (HO1.out.alloc _) ⟨w1.heap.size, 0, none⟩ 1 1 [.bool (bb)] (by simp [Act.eval]) rfl (cell_one _ _) (by intro u hu; simp at hu; subst hu; rfl) (by unfold maxLen; omega) (by omega) hB2.size ?_
      intro v' w3 hown3 hg3
      have hB3 := hB2.grown hg3 hB2.size (fun g hg => (HO1.out.lt g hg).1)
      have ho3 := Bools.snoc HBL.out hown3
      have HO3 := Lib.hid ho3
      refine hK.out _ _ (HT.out _ hB3) (fun hHeld3 => ?_)
      clear hK K hHeld2 hown3 hg3 ho3
      try simp only [Act.put, List.setIfInBounds_toArray, List.set_cons_zero, List.set_cons_succ]
      refine wpAnyH_taken (i := 9) (d := some 6) (v := ?_) rfl rfl (by kernel_rfl) (by kernel_rfl) (by kernel_rfl) (fun _ _ _ h => h) (Or.inl ⟨by rfl, ?_⟩) (by assumption) ?_
      rotate_left 1
      · (intro w hSw; (try dsimp only at hSw); go_simp; try with_reducible rfl)
      try simp only [Act.put, List.setIfInBounds_toArray, List.set_cons_zero, List.set_cons_succ]
      refine wpAnyH_done (by kernel_rfl) ?_ _
      go_wp2_with fail
      refine ⟨⟨i + 1, bs ++ [bb], by go_num, hlt, HO3.out, by simp [HBL.out], Lib.hid ?_, hB3⟩, by simp [intOf]; omega⟩
      rw [bitsOf_succ, ← HBS.out, ← HBO.out]
    · obtain rfl : i = N := by omega
      obtain ⟨A2, c2, rfl, hrow⟩ := BRow.of_own HO2.out
      clear hrow
      go_wp2_with fail
      go_ret
      exact ⟨⟨_, _, _, rfl, hWL.size, by rw [← HBS.out]; exact HO2.out⟩, hWL.trans (hb.mono hWL.size)⟩


set_option maxRecDepth 100000 in
set_option maxHeartbeats 4000000 in
theorem rBitsO_neg (A : Option Addr) (n c : Nat) (x : Int) (L N : Nat) (w : World) (h : Rval w (.agg #[.bool true, .slice A n c]) x L) (hL : L ≤ 400000) (hN : N ≤ 1000000) :
    Calls Try.prog 81 #[.agg #[.bool true, .slice A n c], .int .i64 N] w fun e w' => (∃ A2 c2 base, e = .returned (.slice A2 N c2) ∧ w.heap.size ≤ base ∧ w'.ownsRow base 4 1 (.slice A2 N c2) N ((bitsOf x N).map Value.bool)) ∧ Below w.heap.size w w' := by
  obtain ⟨i0, hii, hz0, hz1, hz2⟩ := info_parts Try.info4
  have hneg := rval_neg h
  have hx : x < 0 := of_decide_eq_true hneg
  obtain ⟨P, hP⟩ : ∃ P, patOf x = P := ⟨_, rfl⟩
  have hP0 : 0 ≤ P := by rw [← hP]; exact patOf_nonneg' x
  have HPP := Lib.hid hP
  have hPx : -1 - x = P := by rw [← hP]; exact (patOf_of_neg hx).symm
  have hW := below_two w (.cells #[.bool true, .slice A n c] 31) (.cells #[.bool true, .slice A n c] 31)
  have hB0 := (Below.refl (w.heap.size + 1) ((w.alloc (.cells #[.bool true, .slice A n c] 31)).alloc (.cells #[.bool true, .slice A n c] 31))).drew
  have hD0 := (Below.refl (w.heap.size + 2) ((w.alloc (.cells #[.bool true, .slice A n c] 31)).alloc (.cells #[.bool true, .slice A n c] 31))).drew
  have h1 : w.heap.size + 1 ≤ w.heap.size + 1 := Nat.le_refl _
  have hs1 : w.heap.size + 1 ≤ ((w.alloc (.cells #[.bool true, .slice A n c] 31)).alloc (.cells #[.bool true, .slice A n c] 31)).heap.size := by simp
  have hs2 : w.heap.size + 2 ≤ ((w.alloc (.cells #[.bool true, .slice A n c] 31)).alloc (.cells #[.bool true, .slice A n c] 31)).heap.size := by simp
  obtain ⟨r0, r0', _⟩ := neg_boxes (Below.refl (w.heap.size + 1) ((w.alloc (.cells #[.bool true, .slice A n c] 31)).alloc (.cells #[.bool true, .slice A n c] 31)))
  have HH := Lib.hid h
  have HNEG := Lib.hid hneg
  obtain ⟨LL, hLL⟩ : ∃ LL, max 64 L + 1 = LL := ⟨_, rfl⟩
  have hL2 : LL ≤ 1048576 := by omega
  clear h hP hx hneg
  go_enter Try.func81, Try.ntmps81
  go_wp2_with fail
  go_region_held3 (fun w' => w'.cell? ⟨w.heap.size, 0, none⟩ = some (.bool true) ∧ w'.cell? ⟨w.heap.size, 1, none⟩ = some (.slice A n c) ∧ Below (w.heap.size + 1) ((w.alloc (.cells #[.bool true, .slice A n c] 31)).alloc (.cells #[.bool true, .slice A n c] 31)) w')
    (first | (with_reducible exact neg_boxes hB2) | (with_reducible exact neg_boxes (Below.setCell (Below.setCell hB2 h1 _) h1 _)) | (with_reducible exact neg_boxes hB1) | (with_reducible exact neg_boxes hB0))
    (first
      | (go_at_call 41; have hK := hB1; clear hK; refine (rsub_any _ _ (-1) x 64 L _ HV1.out (HH.out.below (hW.trans (hB1.mono (by omega)))) (by decide) (by omega)).mono ?_; rintro e w2 ⟨⟨ng2, A2, n2, c2, rfl, hv2⟩, hb2⟩; have hB2 := Below.trans hB1 (hb2.mono (B' := w.heap.size + 1) (Nat.le_trans hs1 hB1.size)); have hD2 := Below.trans hD1 (hb2.mono (B' := w.heap.size + 2) (Nat.le_trans hs2 hD1.size)); have HV2 := Lib.hid hv2; obtain ⟨e1, e2, f1, f2⟩ := neg_room hD2; clear hv2)
      | (go_at_call 18; refine (rnew_any (-1) _ (by decide) (by decide)).mono ?_; rintro e w1 ⟨⟨ng1, A1, n1, c1, rfl, hv1⟩, hb1⟩; have hB1 := Below.trans hB0 (hb1.mono (B' := w.heap.size + 1) (Nat.le_trans hs1 hB0.size)); have hD1 := Below.trans hD0 (hb1.mono (B' := w.heap.size + 2) (Nat.le_trans hs2 hD0.size)); have HV1 := Lib.hid hv1; clear hv1))
  go_wp2_with fail
  obtain ⟨wl, hwl0⟩ : ∃ wl, (w2.setCell ⟨w.heap.size + 1, 0, none⟩ (.bool ng2)).setCell ⟨w.heap.size + 1, 1, none⟩ (.slice A2 n2 c2) = wl := ⟨_, rfl⟩
  have hWL : Below w.heap.size w wl := by rw [← hwl0]; exact ((hW.trans (hB2.mono (by omega))).setCell (by show _ ≤ _; simp) _).setCell (by show _ ≤ _; simp) _
  have hwl2 : w.heap.size + 2 ≤ wl.heap.size := by
    have h3 := hD2.size
    rw [← hwl0]; simp [World.size_setCell] at h3 ⊢; omega
  have q0 : wl.cell? ⟨w.heap.size, 0, none⟩ = some (.bool true) := by
    rw [← hwl0, World.cell?_setCell_other _ _ _ _ (by simp), World.cell?_setCell_other _ _ _ _ (by simp)]
    exact (neg_boxes hB2).1
  have q1 : wl.cell? ⟨w.heap.size + 1, 0, none⟩ = some (.bool ng2) := by
    rw [← hwl0, World.cell?_setCell_other _ _ _ _ (by simp)]
    exact World.cell?_setCell_same _ _ _ e1
  have q2 : wl.cell? ⟨w.heap.size + 1, 1, none⟩ = some (.slice A2 n2 c2) := by
    rw [← hwl0]
    exact World.cell?_setCell_same (u := .slice A n c) _ _ _ (by rw [World.cell?_setCell_other _ _ _ _ (by simp)]; exact e2)
  have HP := Lib.hid (show Rval wl (.agg #[.bool ng2, .slice A2 n2 c2]) P LL by
    have hv := HV2.out
    rw [hPx, hLL] at hv
    rw [← hwl0]
    exact rval_store hv e1 e2 _ _)
  rw [hwl0]
  have HT := Lib.hid (fun (w' : World) (hb : Below wl.heap.size wl w') => bits_hold q0 q1 q2 hwl2 hb)
  clear hB0 hB1 hB2 hD0 hD1 hD2 hb1 hb2 HV1 HV2 e1 e2 f1 f2 hwl0 q0 q1 q2 r0 r0' hs1 hs2 h1 hPx hLL
  go_loopw [6, 7] (fun dv iv wr => ∃ (i : Nat) (bs : List Bool), iv = .int .i64 i ∧ i ≤ N ∧ Bools wr wl.heap.size dv bs ∧ bs.length = i ∧ Hid (bs = bitsOf x i) ∧ Below wl.heap.size wl wr) (fun _ iv _ => N - (intOf iv).toNat)
  case atStart => exact ⟨0, [], rfl, Nat.zero_le _, World.ownsRow_nil _ _ _ _, rfl, Lib.hid rfl, Below.refl _ _⟩
  case round =>
    obtain ⟨i, bs, rfl, hi, hown, hbl, HBS, hb⟩ := hrel
    have HO := Lib.hid hown
    have HBL := Lib.hid hbl
    have HO2 : Hid (wr.ownsRow wl.heap.size 4 1 u6 i (bs.map Value.bool)) := Lib.hid (by have h := HO.out; unfold Bools at h; rw [HBL.out] at h; exact h)
    clear hown hbl
    by_cases hlt : i < N
    · have hB0 := hb.drew
      obtain ⟨bb, hbb⟩ : ∃ bb, decide (P / 2 ^ i % 2 = 1) = bb := ⟨_, rfl⟩
      have HBI := Lib.hid hbb
      have HBO := Lib.hid (show (!bb) = bitOf x (i : Int) by unfold bitOf; rw [if_neg (by omega), Int.toNat_natCast, HPP.out, hbb, HNEG.out]; cases bb <;> rfl)
      have hib : (i : Int) < (N : Int) := by omega
      obtain ⟨kk0, kk1, kk2, _⟩ := HT.out _ hb
      clear hbb
      go_wp2_with fail
      refine wp_region_held_drew (S := fun w' => w'.cell? ⟨w.heap.size, 0, none⟩ = some (.bool true) ∧ w'.cell? ⟨w.heap.size + 1, 0, none⟩ = some (.bool ng2) ∧ w'.cell? ⟨w.heap.size + 1, 1, none⟩ = some (.slice A2 n2 c2) ∧ Below wl.heap.size wl w') (by kernel_rfl) (HT.out _ hB0) (fun hHeld0 => ?_)
      refine wpAnyH_taken (i := 0) (d := some 19) (v := ?_) rfl rfl (by kernel_rfl) (by kernel_rfl) (by kernel_rfl) (fun _ _ _ h => h) (Or.inl ⟨by rfl, ?_⟩) (by assumption) ?_
      rotate_left 1
      · (intro w hSw; (try dsimp only at hSw); go_simp; try with_reducible rfl)
      try simp only [Act.put, List.setIfInBounds_toArray, List.set_cons_zero, List.set_cons_succ]
      refine wpAnyH_taken (i := 1) (d := some 20) (v := ?_) rfl rfl (by kernel_rfl) (by kernel_rfl) (by kernel_rfl) (fun _ _ _ h => h) (Or.inl ⟨by rfl, ?_⟩) (by assumption) ?_
      rotate_left 1
      · (intro w hSw; (try dsimp only at hSw); go_simp; try with_reducible rfl)
      try simp only [Act.put, List.setIfInBounds_toArray, List.set_cons_zero, List.set_cons_succ]
      refine wpAnyH_taken (i := 2) (d := some 21) (v := ?_) rfl rfl (by kernel_rfl) (by kernel_rfl) (by kernel_rfl) (fun _ _ _ h => h) (Or.inl ⟨by rfl, ?_⟩) (by assumption) ?_
      rotate_left 1
      · (intro w hSw; (try dsimp only at hSw); go_simp; try with_reducible rfl)
      try simp only [Act.put, List.setIfInBounds_toArray, List.set_cons_zero, List.set_cons_succ]
      refine wpAnyH_taken (i := 4) (d := some 23) (v := ?_) rfl rfl (by kernel_rfl) (by kernel_rfl) (by kernel_rfl) (fun _ _ _ h => h) (Or.inl ⟨by rfl, ?_⟩) (by assumption) ?_
      rotate_left 1
      · (intro w hSw; (try dsimp only at hSw); go_simp; try with_reducible rfl)
      try simp only [Act.put, List.setIfInBounds_toArray, List.set_cons_zero, List.set_cons_succ]
      refine wpAnyH_taken (i := 5) (d := some 24) (v := ?_) rfl rfl (by kernel_rfl) (by kernel_rfl) (by kernel_rfl) (fun _ _ _ h => h) (Or.inl ⟨by rfl, ?_⟩) (by assumption) ?_
      rotate_left 1
      · (intro w hSw; (try dsimp only at hSw); go_simp; try with_reducible rfl)
      try simp only [Act.put, List.setIfInBounds_toArray, List.set_cons_zero, List.set_cons_succ]
      refine wpAnyH_ready (rs := [3]) (by kernel_rfl) (by simp) ?_
      refine AllReadyH.cons rfl (fun K hK => ?_) AllReadyH.nil
      try simp only [List.getElem_toArray, List.getElem_cons_zero, List.getElem_cons_succ]
      go_simp
      (go_at_call 103; refine (rset_val _ P LL i _ (HP.out.below hB0) hP0 (by omega) (by omega)).mono ?_; rintro e w1 ⟨rfl, hb1⟩; rw [HBI.out])
      have hB1 := Below.trans hB0 (hb1.mono (B' := wl.heap.size) hB0.size)
      have HO1 := Lib.hid (owns_below (w := wr.drew) (show wr.drew.ownsRow wl.heap.size 4 1 u6 i (bs.map Value.bool) from HO2.out) hb1)
      refine hK.out _ _ (HT.out _ hB1) (fun hHeld1 => ?_)
      clear hK K hHeld0
      try simp only [Act.put, List.setIfInBounds_toArray, List.set_cons_zero, List.set_cons_succ]
      refine wpAnyH_taken (i := 6) (d := some 25) (v := ?_) rfl rfl (by kernel_rfl) (by kernel_rfl) (by kernel_rfl) (fun _ _ _ h => h) (Or.inl ⟨by rfl, ?_⟩) (by assumption) ?_
      rotate_left 1
      · (intro w hSw; (try dsimp only at hSw); go_simp; try with_reducible rfl)
      try simp only [Act.put, List.setIfInBounds_toArray, List.set_cons_zero, List.set_cons_succ]
      refine wpAnyH_ready (rs := [7]) (by kernel_rfl) (by simp) ?_
      refine AllReadyH.cons rfl (fun K hK => ?_) AllReadyH.nil
      try simp only [List.getElem_toArray, List.getElem_cons_zero, List.getElem_cons_succ]
      go_simp
      have hB2 := hB1.alloc hB1.size (.cells #[.bool ((!bb))] 4)
      refine hK.out _ _ (HT.out _ hB2) (fun hHeld2 => ?_)
      clear hK K hHeld1
      try simp only [Act.put, List.setIfInBounds_toArray, List.set_cons_zero, List.set_cons_succ]
      refine wpAnyH_ready (rs := [8]) (by kernel_rfl) (by simp) ?_
      refine AllReadyH.cons (o := { dst := some 27, op := Op.call { callee := Callee.builtin Builtin.append, args := #[Operand.tmp 19, Operand.tmp 26], argTypes := #[103, 103] }, type := 103, pos := "ref.go:369", after := #[{ on := 0, ground := Ground.data }, { on := 7, ground := Ground.data }, { on := 3, ground := Ground.chain }], guard := none }) rfl (fun K hK => ?_) AllReadyH.nil
      refine step_own rfl (.tmp 19) (.tmp 26) 103 rfl wl.heap.size 4 i0 (.bool false) 1 1 Try.underlying103 hii hz0 hz1 hz2 rfl (by decide) u6 i (bs.map Value.bool) (by simp [Act.eval]) (HO1.out.alloc _) ⟨w1.heap.size, 0, none⟩ 1 1 [.bool ((!bb))] (by simp [Act.eval]) rfl (cell_one _ _) (by intro u hu; simp at hu; subst hu; rfl) (by unfold maxLen; omega) (by omega) hB2.size ?_
      intro v' w3 hown3 hg3
      have hB3 := hB2.grown hg3 hB2.size (fun g hg => (HO1.out.lt g hg).1)
      have ho3 := Bools.snoc HBL.out hown3
      have HO3 := Lib.hid ho3
      refine hK.out _ _ (HT.out _ hB3) (fun hHeld3 => ?_)
      clear hK K hHeld2 hown3 hg3 ho3
      try simp only [Act.put, List.setIfInBounds_toArray, List.set_cons_zero, List.set_cons_succ]
      refine wpAnyH_taken (i := 9) (d := some 6) (v := ?_) rfl rfl (by kernel_rfl) (by kernel_rfl) (by kernel_rfl) (fun _ _ _ h => h) (Or.inl ⟨by rfl, ?_⟩) (by assumption) ?_
      rotate_left 1
      · (intro w hSw; (try dsimp only at hSw); go_simp; try with_reducible rfl)
      try simp only [Act.put, List.setIfInBounds_toArray, List.set_cons_zero, List.set_cons_succ]
      refine wpAnyH_done (by kernel_rfl) ?_ _
      go_wp2_with fail
      refine ⟨⟨i + 1, bs ++ [(!bb)], by go_num, hlt, HO3.out, by simp [HBL.out], Lib.hid ?_, hB3⟩, by simp [intOf]; omega⟩
      rw [bitsOf_succ, ← HBS.out, ← HBO.out]
    · obtain rfl : i = N := by omega
      obtain ⟨A5, c5, rfl, hrow⟩ := BRow.of_own HO2.out
      clear hrow
      go_wp2_with fail
      go_ret
      exact ⟨⟨_, _, _, rfl, hWL.size, by rw [← HBS.out]; exact HO2.out⟩, hWL.trans (hb.mono hWL.size)⟩


theorem rBits_own (v : Value) (x : Int) (L N : Nat) (M : Int) (hM : M = (N : Int)) (w : World) (h : Rval w v x L) (hL : L ≤ 400000) (hN : N ≤ 1000000) :
    Calls Try.prog 81 #[v, .int .i64 M] w fun e w' => (∃ A2 c2 base, e = .returned (.slice A2 N c2) ∧ w.heap.size ≤ base ∧ w'.ownsRow base 4 1 (.slice A2 N c2) N ((bitsOf x N).map Value.bool)) ∧ Below w.heap.size w w' := by
  subst hM
  obtain ⟨p, A, n, c, rfl⟩ := h.form
  cases p with
  | false => exact rBitsO_pos A n c x L N w h hL hN
  | true => exact rBitsO_neg A n c x L N w h hL hN

theorem within_any (n : Int) (w : World) : Calls Try.prog 107 #[.int .i64 n] w fun e w' => e = .returned (.bool (decide (0 ≤ n) && decide (n ≤ 65536))) ∧ w = w' := by
  by_cases h : 0 ≤ n
  · by_cases h2 : n ≤ 65536
    · go_enter Try.func107, Try.ntmps107
      go_wp2
      go_ret
      exact ⟨by simp; omega, rfl⟩
    · have h3 : 65536 < n := by omega
      go_enter Try.func107, Try.ntmps107
      go_wp2
      go_ret
      exact ⟨by simp; omega, rfl⟩
  · have h3 : n < 0 := by omega
    go_enter Try.func107, Try.ntmps107
    go_wp2
    go_ret
    exact ⟨by simp; omega, rfl⟩

end Go.Proofs.Ytoanomgdkkbbmaa
