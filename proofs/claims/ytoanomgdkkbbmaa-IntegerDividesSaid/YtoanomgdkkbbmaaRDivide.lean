/- The reference's Divide, by a number other than 0. -/
import Derived.Test.YtoanomgdkkbbmaaRDiv
namespace Go.Proofs.Ytoanomgdkkbbmaa
open Go.RowKit LM

theorem div_hold {w w' : World} {p q : Bool} {A B : Option Addr} {n c m d : Nat} (h : Below (w.heap.size + 4) ((((w.alloc (.cells #[.bool p, .slice A n c] 31)).alloc (.cells #[.bool q, .slice B m d] 31)).alloc (.cells #[.bool false, .slice none 0 0] 31)).alloc (.cells #[.bool false, .slice none 0 0] 31)) w') :
    (w'.cell? ⟨w.heap.size, 0, none⟩ = some (.bool p) ∧ w'.cell? ⟨w.heap.size, 1, none⟩ = some (.slice A n c) ∧ w'.cell? ⟨w.heap.size + 1, 0, none⟩ = some (.bool q) ∧ w'.cell? ⟨w.heap.size + 1, 1, none⟩ = some (.slice B m d)) ∧
    (w'.cell? ⟨w.heap.size + 1 + 1, 0, none⟩ = some (.bool false) ∧ w'.cell? ⟨w.heap.size + 1 + 1, 1, none⟩ = some (.slice none 0 0) ∧ w'.frozen? ⟨w.heap.size + 1 + 1, 0, none⟩ = false ∧ w'.frozen? ⟨w.heap.size + 1 + 1, 1, none⟩ = false) ∧
    (w'.cell? ⟨w.heap.size + 1 + 1 + 1, 0, none⟩ = some (.bool false) ∧ w'.cell? ⟨w.heap.size + 1 + 1 + 1, 1, none⟩ = some (.slice none 0 0) ∧ w'.frozen? ⟨w.heap.size + 1 + 1 + 1, 0, none⟩ = false ∧ w'.frozen? ⟨w.heap.size + 1 + 1 + 1, 1, none⟩ = false) := by
  refine ⟨⟨?_, ?_, ?_, ?_⟩, ⟨?_, ?_, ?_, ?_⟩, ?_, ?_, ?_, ?_⟩
  · rw [h.cell (by simp), World.cell?_alloc_past _ _ _ (by simp <;> omega), World.cell?_alloc_past _ _ _ (by simp <;> omega), World.cell?_alloc_past _ _ _ (by simp), World.cell?_alloc_at _ _ _ _ rfl]; rfl
  · rw [h.cell (by simp), World.cell?_alloc_past _ _ _ (by simp <;> omega), World.cell?_alloc_past _ _ _ (by simp <;> omega), World.cell?_alloc_past _ _ _ (by simp), World.cell?_alloc_at _ _ _ _ rfl]; rfl
  · rw [h.cell (by simp), World.cell?_alloc_past _ _ _ (by simp <;> omega), World.cell?_alloc_past _ _ _ (by simp), World.cell?_alloc_at _ _ _ _ (by simp)]; rfl
  · rw [h.cell (by simp), World.cell?_alloc_past _ _ _ (by simp <;> omega), World.cell?_alloc_past _ _ _ (by simp), World.cell?_alloc_at _ _ _ _ (by simp)]; rfl
  · rw [h.cell (by simp), World.cell?_alloc_past _ _ _ (by simp), World.cell?_alloc_at _ _ _ _ (by simp)]; rfl
  · rw [h.cell (by simp), World.cell?_alloc_past _ _ _ (by simp), World.cell?_alloc_at _ _ _ _ (by simp)]; rfl
  · rw [h.frozen (by simp), World.frozen?_alloc_past _ _ _ (by simp)]; exact World.frozen?_alloc_at _ _ _ _ (by simp)
  · rw [h.frozen (by simp), World.frozen?_alloc_past _ _ _ (by simp)]; exact World.frozen?_alloc_at _ _ _ _ (by simp)
  · rw [h.cell (by simp), World.cell?_alloc_at _ _ _ _ (by simp)]; rfl
  · rw [h.cell (by simp), World.cell?_alloc_at _ _ _ _ (by simp)]; rfl
  · rw [h.frozen (by simp)]; exact World.frozen?_alloc_at _ _ _ _ (by simp)
  · rw [h.frozen (by simp)]; exact World.frozen?_alloc_at _ _ _ _ (by simp)

set_option maxRecDepth 100000 in
set_option maxHeartbeats 4000000 in
theorem rDivide_any (p q : Bool) (A B : Option Addr) (n c m d : Nat) (xs ys : List Int) (w : World) (hr : Row .i64 w A n c xs) (gr : Row .i64 w B m d ys) (hd : DigR 65536 xs) (gd : DigR 65536 ys) (gt : Trimmed ys) (hpos : 0 < valR 65536 ys) (hn : n ≤ 100000) (hm : m ≤ 100000) :
    Calls Try.prog 31 #[.agg #[.bool p, .slice A n c], .agg #[.bool q, .slice B m d]] w fun e w' => (∃ g1 A1 n1 c1 g2 A2 n2 c2, e = .returned (.tuple #[.agg #[.bool g1, .slice A1 n1 c1], .agg #[.bool g2, .slice A2 n2 c2], .int .i64 0]) ∧
      Rval w' (.agg #[.bool g1, .slice A1 n1 c1]) (withSign (p != q) (valR 65536 xs / valR 65536 ys)) n ∧ Rval w' (.agg #[.bool g2, .slice A2 n2 c2]) (withSign p (valR 65536 xs % valR 65536 ys)) n) ∧ Below w.heap.size w w' := by
  have hW : Below w.heap.size w ((((w.alloc (.cells #[.bool p, .slice A n c] 31)).alloc (.cells #[.bool q, .slice B m d] 31)).alloc (.cells #[.bool false, .slice none 0 0] 31)).alloc (.cells #[.bool false, .slice none 0 0] 31)) := ((below_two w _ _).alloc (by simp; omega) _).alloc (by simp; omega) _
  have hs4 : w.heap.size + 4 ≤ ((((w.alloc (.cells #[.bool p, .slice A n c] 31)).alloc (.cells #[.bool q, .slice B m d] 31)).alloc (.cells #[.bool false, .slice none 0 0] 31)).alloc (.cells #[.bool false, .slice none 0 0] 31)).heap.size := by simp <;> omega
  have hs4' : ((((w.alloc (.cells #[.bool p, .slice A n c] 31)).alloc (.cells #[.bool q, .slice B m d] 31)).alloc (.cells #[.bool false, .slice none 0 0] 31)).alloc (.cells #[.bool false, .slice none 0 0] 31)).heap.size ≤ w.heap.size + 4 := by simp <;> omega
  have HX := Lib.hid (hr.below hW)
  have HY := Lib.hid (gr.below hW)
  have HS := Lib.hid (fun (w' : World) (hb : Below (w.heap.size + 4) ((((w.alloc (.cells #[.bool p, .slice A n c] 31)).alloc (.cells #[.bool q, .slice B m d] 31)).alloc (.cells #[.bool false, .slice none 0 0] 31)).alloc (.cells #[.bool false, .slice none 0 0] 31)) w') => div_hold hb)
  have hB0 := Below.refl (w.heap.size + 4) ((((w.alloc (.cells #[.bool p, .slice A n c] 31)).alloc (.cells #[.bool q, .slice B m d] 31)).alloc (.cells #[.bool false, .slice none 0 0] 31)).alloc (.cells #[.bool false, .slice none 0 0] 31))
  have hsg : (cmpI (withSign q (valR 65536 ys)) 0 == 0) = false := by
    rcases cmpI_cases (withSign q (valR 65536 ys)) 0 with ⟨h, _, _⟩ | ⟨_, _, h⟩ | ⟨h, _, _⟩
    · rw [h]; rfl
    · cases q <;> simp [withSign] at h <;> omega
    · rw [h]; rfl
  have hyv : Rval ((((w.alloc (.cells #[.bool p, .slice A n c] 31)).alloc (.cells #[.bool q, .slice B m d] 31)).alloc (.cells #[.bool false, .slice none 0 0] 31)).alloc (.cells #[.bool false, .slice none 0 0] 31)) (.agg #[.bool q, .slice B m d]) (withSign q (valR 65536 ys)) m := ⟨q, B, m, d, ys, rfl, HY.out, gd, gt, rfl, fun _ => by omega, Nat.le_refl _⟩
  have HYV := Lib.hid hyv
  have HSG := Lib.hid hsg
  clear hr gr hyv hsg
  go_enter Try.func31, Try.ntmps31
  go_wp2_with fail
  refine (rsign_any _ (withSign q (valR 65536 ys)) m _ HYV.out (by omega)).mono ?_
  rintro e w1 ⟨rfl, hb1⟩
  obtain ⟨sg, hsg⟩ : ∃ sg, cmpI (withSign q (valR 65536 ys)) 0 = sg := ⟨_, rfl⟩
  have hsg0 : (sg == 0) = false := by rw [← hsg]; exact HSG.out
  rw [hsg]
  have hB1 := hB0.trans (hb1.mono (B' := w.heap.size + 4) hs4)
  have hz1 := Nat.le_trans hs4 hB1.size
  obtain ⟨⟨k0, k1, k2, k3⟩, -⟩ := HS.out _ hB1
  clear hsg
  go_wp2_with fail
  refine (rdivided_any A B n m c d xs ys _ (HX.out.below hb1) (HY.out.below hb1) hn hm hd gd hpos).mono ?_
  rintro e w2 ⟨⟨v1, v2, rfl, hq, hrm⟩, hb2⟩
  obtain ⟨A1, n1, c1, ds1, rfl, r1, d1, v1, l1⟩ := hq
  obtain ⟨A2, n2, c2, ds2, rfl, r2, d2, v2, l2⟩ := hrm
  have R1 := Lib.hid r1
  have R2 := Lib.hid r2
  have V1 := Lib.hid v1
  have V2 := Lib.hid v2
  have hB2' := hB1.trans (hb2.mono (B' := w.heap.size + 4) hz1)
  have hB2 := hB2'.drew
  clear k0 k1 k2 k3 r1 r2 v1 v2
  obtain ⟨⟨k0, k1, k2, k3⟩, -⟩ := HS.out _ hB2'
  go_wp2_with fail
  generalize ((((w.alloc (.cells #[.bool p, .slice A n c] 31)).alloc (.cells #[.bool q, .slice B m d] 31)).alloc (.cells #[.bool false, .slice none 0 0] 31)).alloc (.cells #[.bool false, .slice none 0 0] 31)) = wl at *
  refine wp_region_held_drew (S := fun w' => w'.cell? ⟨w.heap.size, 0, none⟩ = some (.bool p) ∧ w'.cell? ⟨w.heap.size + 1, 0, none⟩ = some (.bool q)) (by kernel_rfl) ⟨k0, k2⟩ (fun hHeld0 => ?_)
  refine wpAnyH_taken (i := 0) (d := some 22) (v := ?_) rfl rfl (by kernel_rfl) (by kernel_rfl) (by kernel_rfl) (fun _ _ _ h => h) (Or.inl ⟨by rfl, ?_⟩) (by assumption) ?_
  rotate_left 1
  · (intro w hSw; (try dsimp only at hSw); go_simp; try with_reducible rfl)
  try simp only [Act.put, List.setIfInBounds_toArray, List.set_cons_zero, List.set_cons_succ]
  refine wpAnyH_taken (i := 1) (d := some 23) (v := ?_) rfl rfl (by kernel_rfl) (by kernel_rfl) (by kernel_rfl) (fun _ _ _ h => h) (Or.inl ⟨by rfl, ?_⟩) (by assumption) ?_
  rotate_left 1
  · (intro w hSw; (try dsimp only at hSw); go_simp; try with_reducible rfl)
  try simp only [Act.put, List.setIfInBounds_toArray, List.set_cons_zero, List.set_cons_succ]
  refine wpAnyH_taken (i := 2) (d := some 24) (v := ?_) rfl rfl (by kernel_rfl) (by kernel_rfl) (by kernel_rfl) (fun _ _ _ h => h) (Or.inl ⟨by rfl, ?_⟩) (by assumption) ?_
  rotate_left 1
  · (intro w hSw; (try dsimp only at hSw); go_simp; try with_reducible rfl)
  try simp only [Act.put, List.setIfInBounds_toArray, List.set_cons_zero, List.set_cons_succ]
  refine wpAnyH_taken (i := 3) (d := some 25) (v := ?_) rfl rfl (by kernel_rfl) (by kernel_rfl) (by kernel_rfl) (fun _ _ _ h => h) (Or.inl ⟨by rfl, ?_⟩) (by assumption) ?_
  rotate_left 1
  · (intro w hSw; (try dsimp only at hSw); go_simp; try with_reducible rfl)
  try simp only [Act.put, List.setIfInBounds_toArray, List.set_cons_zero, List.set_cons_succ]
  refine wpAnyH_taken (i := 4) (d := some 26) (v := ?_) rfl rfl (by kernel_rfl) (by kernel_rfl) (by kernel_rfl) (fun _ _ _ h => h) (Or.inl ⟨by rfl, ?_⟩) (by assumption) ?_
  rotate_left 1
  · (intro w hSw; (try dsimp only at hSw); go_simp; try with_reducible rfl)
  try simp only [Act.put, List.setIfInBounds_toArray, List.set_cons_zero, List.set_cons_succ]
  refine wpAnyH_taken (i := 5) (d := some 27) (v := ?_) rfl rfl (by kernel_rfl) (by kernel_rfl) (by kernel_rfl) (fun _ _ _ h => h) (Or.inl ⟨by rfl, ?_⟩) (by assumption) ?_
  rotate_left 1
  · (intro w hSw; (try dsimp only at hSw); go_simp; try with_reducible rfl)
  try simp only [Act.put, List.setIfInBounds_toArray, List.set_cons_zero, List.set_cons_succ]
  refine wpAnyH_taken (i := 7) (d := some 29) (v := ?_) rfl rfl (by kernel_rfl) (by kernel_rfl) (by kernel_rfl) (fun _ _ _ h => h) (Or.inl ⟨by rfl, ?_⟩) (by assumption) ?_
  rotate_left 1
  · (intro w hSw; (try dsimp only at hSw); go_simp; try with_reducible rfl)
  try simp only [Act.put, List.setIfInBounds_toArray, List.set_cons_zero, List.set_cons_succ]
  refine wpAnyH_taken (i := 8) (d := some 30) (v := ?_) rfl rfl (by kernel_rfl) (by kernel_rfl) (by kernel_rfl) (fun _ _ _ h => h) (Or.inl ⟨by rfl, ?_⟩) (by assumption) ?_
  rotate_left 1
  · (intro w hSw; (try dsimp only at hSw); go_simp; try with_reducible rfl)
  try simp only [Act.put, List.setIfInBounds_toArray, List.set_cons_zero, List.set_cons_succ]
  refine wpAnyH_taken (i := 9) (d := some 31) (v := ?_) rfl rfl (by kernel_rfl) (by kernel_rfl) (by kernel_rfl) (fun _ _ _ h => h) (Or.inl ⟨by rfl, ?_⟩) (by assumption) ?_
  rotate_left 1
  · (intro w hSw; (try dsimp only at hSw); go_simp; try with_reducible rfl)
  try simp only [Act.put, List.setIfInBounds_toArray, List.set_cons_zero, List.set_cons_succ]
  refine wpAnyH_ready (rs := [6]) (by kernel_rfl) (by simp) ?_
  refine AllReadyH.cons rfl (fun K hK => ?_) AllReadyH.nil
  try simp only [List.getElem_toArray, List.getElem_cons_zero, List.getElem_cons_succ]
  go_simp
  (go_at_call 72; refine (rmade_any (p != q) A1 n1 c1 ds1 _ (R1.out.below ((Below.refl _ _).drew)) (by omega) d1).mono ?_; rintro e w3 ⟨ng3, A3, n3, c3, rfl, hv3, hb3⟩)
  have hB3 := hB2.trans (hb3.mono (B' := w.heap.size + 4) (Nat.le_trans hs4 hB2.size))
  have HV3 := Lib.hid hv3
  clear hv3 k0 k1 k2 k3
  obtain ⟨⟨k0, k1, k2, k3⟩, -⟩ := HS.out _ hB3
  refine hK.out _ _ ⟨k0, k2⟩ (fun hHeld1 => ?_)
  clear hK K
  try simp only [Act.put, List.setIfInBounds_toArray, List.set_cons_zero, List.set_cons_succ]
  refine wpAnyH_ready (rs := [10]) (by kernel_rfl) (by simp) ?_
  refine AllReadyH.cons rfl (fun K hK => ?_) AllReadyH.nil
  try simp only [List.getElem_toArray, List.getElem_cons_zero, List.getElem_cons_succ]
  go_simp
  (go_at_call 72; refine (rmade_any p A2 n2 c2 ds2 _ ((R2.out.below ((Below.refl w2.heap.size w2).drew)).below hb3) (by omega) d2).mono ?_; rintro e w4 ⟨ng4, A4, n4, c4, rfl, hv4, hb4⟩)
  have hB4 := hB3.trans (hb4.mono (B' := w.heap.size + 4) (Nat.le_trans hs4 hB3.size))
  have HV4 := Lib.hid hv4
  have HV3b := Lib.hid (HV3.out.below hb4)
  clear hv4 k0 k1 k2 k3
  obtain ⟨⟨k0, k1, k2, k3⟩, ⟨e1, e2, e3, e4⟩, ⟨g1, g2, g3, g4⟩⟩ := HS.out _ hB4
  refine hK.out _ _ ⟨k0, k2⟩ (fun hHeld2 => ?_)
  clear hK K
  try simp only [Act.put, List.setIfInBounds_toArray, List.set_cons_zero, List.set_cons_succ]
  refine wpAnyH_ready (rs := [11]) (by kernel_rfl) (by simp) ?_
  refine AllReadyH.cons rfl (fun K hK => ?_) AllReadyH.nil
  try simp only [List.getElem_toArray, List.getElem_cons_zero, List.getElem_cons_succ]
  go_simp
  have s0 : ((w4.setCell ⟨w.heap.size + 1 + 1, 0, none⟩ (.bool ng3)).setCell ⟨w.heap.size + 1 + 1, 1, none⟩ (.slice A3 n3 c3)).cell? ⟨w.heap.size, 0, none⟩ = some (.bool p) := by rw [World.cell?_setCell_other _ _ _ _ (by simp <;> omega), World.cell?_setCell_other _ _ _ _ (by simp <;> omega)]; exact k0
  have s2 : ((w4.setCell ⟨w.heap.size + 1 + 1, 0, none⟩ (.bool ng3)).setCell ⟨w.heap.size + 1 + 1, 1, none⟩ (.slice A3 n3 c3)).cell? ⟨w.heap.size + 1, 0, none⟩ = some (.bool q) := by rw [World.cell?_setCell_other _ _ _ _ (by simp <;> omega), World.cell?_setCell_other _ _ _ _ (by simp <;> omega)]; exact k2
  refine hK.out _ _ ⟨s0, s2⟩ (fun hHeld3 => ?_)
  clear hK K
  try simp only [Act.put, List.setIfInBounds_toArray, List.set_cons_zero, List.set_cons_succ]
  refine wpAnyH_ready (rs := [12]) (by kernel_rfl) (by simp) ?_
  refine AllReadyH.cons rfl (fun K hK => ?_) AllReadyH.nil
  try simp only [List.getElem_toArray, List.getElem_cons_zero, List.getElem_cons_succ]
  go_simp
  refine hK.out _ _ ⟨?_, ?_⟩ (fun hHeld4 => ?_)
  · rw [World.cell?_setCell_other _ _ _ _ (by simp <;> omega), World.cell?_setCell_other _ _ _ _ (by simp <;> omega)]; exact s0
  · rw [World.cell?_setCell_other _ _ _ _ (by simp <;> omega), World.cell?_setCell_other _ _ _ _ (by simp <;> omega)]; exact s2
  clear hK K
  try simp only [Act.put, List.setIfInBounds_toArray, List.set_cons_zero, List.set_cons_succ]
  refine wpAnyH_taken (i := 13) (d := some 6) (v := ?_) rfl rfl (by kernel_rfl) (by kernel_rfl) (by kernel_rfl) (fun _ _ _ h => h) (Or.inl ⟨by rfl, ?_⟩) (by assumption) ?_
  rotate_left 1
  · (intro w hSw; (try dsimp only at hSw); go_simp; try with_reducible rfl)
  try simp only [Act.put, List.setIfInBounds_toArray, List.set_cons_zero, List.set_cons_succ]
  refine wpAnyH_done (by kernel_rfl) ?_ _
  go_wp2
  have hrt : w.heap.size + 1 + 1 ≠ w.heap.size + 1 + 1 + 1 := by omega
  refine bodyPost_ret (v := .tuple #[.agg #[.bool ng3, .slice A3 n3 c3], .agg #[.bool ng4, .slice A4 n4 c4], .int .i64 0]) (by simp [results, Try.results31, go_sem, e1, e2, g1, g2]) rfl ⟨⟨_, _, _, _, _, _, _, _, rfl, ?_, ?_⟩, ?_⟩
  · rw [← V1.out]; exact (HV3b.out.mono l1).stored2 hrt e1 e2 g1 g2 _ _ _ _
  · rw [← V2.out]; exact (HV4.out.mono l2).stored2 hrt e1 e2 g1 g2 _ _ _ _
  · exact ((((hW.trans (hB4.mono (by omega))).setCell (by show _ ≤ _; simp; omega) _).setCell (by show _ ≤ _; simp; omega) _).setCell (by show _ ≤ _; simp; omega) _).setCell (by show _ ≤ _; simp; omega) _

end Go.Proofs.Ytoanomgdkkbbmaa
