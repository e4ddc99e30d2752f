/- IntegerBits: the walk. -/
import Derived.Test.YtoanomgdkkbbmaaBooles
import Derived.Test.YtoanomgdkkbbmaaLens0
import Derived.Test.YtoanomgdkkbbmaaLawCore
namespace Go.Proofs.Ytoanomgdkkbbmaa
open Go.RowKit LM

theorem lens_two (w : World) {g : Nat} (hg : w.heap.size = g) (p q : Bool) (A B : Option Addr) (n c m d : Nat) :
    Lens (w.alloc (.cells #[.bool p, .slice A n c, .bool q, .slice B m d] 24)) g 2 [n, m] := by
  subst hg
  refine ⟨rfl, by simp, fun i hi => ?_⟩
  match i, hi with
  | 0, _ => exact ⟨p, A, c, World.cell?_alloc_at _ _ _ _ rfl, World.cell?_alloc_at _ _ _ _ rfl⟩
  | 1, _ => exact ⟨q, B, d, World.cell?_alloc_at _ _ _ _ rfl, World.cell?_alloc_at _ _ _ _ rfl⟩

theorem boxes_gen {w w' : World} {p q : Bool} {u v : Value} {t1 t2 : TypeId} (h : Below (w.heap.size + 2) ((w.alloc (.cells #[.bool p, u] t1)).alloc (.cells #[.bool q, v] t2)) w') :
    w'.cell? ⟨w.heap.size, 0, none⟩ = some (.bool p) ∧ w'.cell? ⟨w.heap.size, 1, none⟩ = some u ∧ w'.cell? ⟨w.heap.size + 1, 0, none⟩ = some (.bool q) ∧ w'.cell? ⟨w.heap.size + 1, 1, none⟩ = some v := by
  refine ⟨?_, ?_, ?_, ?_⟩
  · rw [h.cell (by simp), World.cell?_alloc_past _ _ _ (by simp), World.cell?_alloc_at _ _ _ _ rfl]; rfl
  · rw [h.cell (by simp), World.cell?_alloc_past _ _ _ (by simp), World.cell?_alloc_at _ _ _ _ rfl]; rfl
  · rw [h.cell (by simp), World.cell?_alloc_at _ _ _ _ (by simp)]; rfl
  · rw [h.cell (by simp), World.cell?_alloc_at _ _ _ _ (by simp)]; rfl

theorem box_gen {w w' : World} {p : Bool} {u : Value} {t : TypeId} (h : Below (w.heap.size + 1) (w.alloc (.cells #[.bool p, u] t)) w') : w'.cell? ⟨w.heap.size, 0, none⟩ = some (.bool p) ∧ w'.cell? ⟨w.heap.size, 1, none⟩ = some u := by
  refine ⟨?_, ?_⟩
  · rw [h.cell (by simp), World.cell?_alloc_at _ _ _ _ (by simp)]; rfl
  · rw [h.cell (by simp), World.cell?_alloc_at _ _ _ _ (by simp)]; rfl

theorem eight_hold {w9 w' : World} {b0 b1 b2 b3 : Nat} {v0 v1 v2 v3 v4 v5 v6 v7 : Value} (h0 : b0 < w9.heap.size) (h1 : b1 < w9.heap.size) (h2 : b2 < w9.heap.size) (h3 : b3 < w9.heap.size)
    (c0 : w9.cell? ⟨b0, 0, none⟩ = some v0) (c1 : w9.cell? ⟨b0, 1, none⟩ = some v1) (c2 : w9.cell? ⟨b1, 0, none⟩ = some v2) (c3 : w9.cell? ⟨b1, 1, none⟩ = some v3)
    (c4 : w9.cell? ⟨b2, 0, none⟩ = some v4) (c5 : w9.cell? ⟨b2, 1, none⟩ = some v5) (c6 : w9.cell? ⟨b3, 0, none⟩ = some v6) (c7 : w9.cell? ⟨b3, 1, none⟩ = some v7) (hb : Below w9.heap.size w9 w') :
    w'.cell? ⟨b0, 0, none⟩ = some v0 ∧ w'.cell? ⟨b0, 1, none⟩ = some v1 ∧ w'.cell? ⟨b1, 0, none⟩ = some v2 ∧ w'.cell? ⟨b1, 1, none⟩ = some v3 ∧
    w'.cell? ⟨b2, 0, none⟩ = some v4 ∧ w'.cell? ⟨b2, 1, none⟩ = some v5 ∧ w'.cell? ⟨b3, 0, none⟩ = some v6 ∧ w'.cell? ⟨b3, 1, none⟩ = some v7 ∧ Below w9.heap.size w9 w' := by
  have k : ∀ b o, b < w9.heap.size → w'.cell? ⟨b, o, none⟩ = w9.cell? ⟨b, o, none⟩ := fun b o h => hb.cell (p := ⟨b, o, none⟩) h
  exact ⟨(k _ _ h0).trans c0, (k _ _ h0).trans c1, (k _ _ h1).trans c2, (k _ _ h1).trans c3, (k _ _ h2).trans c4, (k _ _ h2).trans c5, (k _ _ h3).trans c6, (k _ _ h3).trans c7, hb⟩

set_option maxRecDepth 100000 in
set_option maxHeartbeats 8000000 in
theorem bits_any (p q : Bool) (A B : Option Addr) (n c m d : Nat) (xs ys : List Int) (op nn : Int) (w : World) (h : Row .u32 w A n c xs) (hd : Dig xs) (g : Row .u32 w B m d ys) (gd : Dig ys) (hn0 : -9223372036854775808 ≤ nn) (hn1 : nn ≤ 9223372036854775807) :
    Calls Try.prog 7 #[.int .i64 op, .agg #[.bool p, .slice A n c], .agg #[.bool q, .slice B m d], .int .i64 nn] w fun e w' => e = .returned (.bool true) ∧ Below w.heap.size w w' := by
  have hW := below_two w (.cells #[.bool p, .slice A n c] 24) (.cells #[.bool q, .slice B m d] 24)
  have hs0 : w.heap.size + 2 ≤ ((w.alloc (.cells #[.bool p, .slice A n c] 24)).alloc (.cells #[.bool q, .slice B m d] 24)).heap.size := by simp
  have hW2 : Below (w.heap.size + 2) ((w.alloc (.cells #[.bool p, .slice A n c] 24)).alloc (.cells #[.bool q, .slice B m d] 24)) (((w.alloc (.cells #[.bool p, .slice A n c] 24)).alloc (.cells #[.bool q, .slice B m d] 24)).alloc (.cells #[.bool p, .slice A n c, .bool q, .slice B m d] 24)) := (Below.refl _ _).alloc hs0 _
  have HH := Lib.hid h
  have HD := Lib.hid hd
  have GH := Lib.hid g
  have GD := Lib.hid gd
  clear h hd g gd
  go_enter Try.func7, Try.ntmps7
  go_wp2_with fail
  refine (short_any _ 2 [n, m] 8 _ (lens_two _ (by simp) p q A B n c m d) (by omega)).mono ?_
  rintro e w1 ⟨rfl, hb1⟩
  have hB1 := hW2.trans (hb1.mono (B' := w.heap.size + 2) (by simp))
  have hw1 := hW.trans (hB1.mono (by omega))
  cases ht : tooLong [n, m] 8 with
  | true =>
    go_wp2_with fail
    refine (awake_any _).mono ?_
    rintro e w2 ⟨rfl, hb2⟩
    go_wp2
    go_ret
    exact ⟨rfl, hw1.trans (hb2.mono hw1.size)⟩
  | false =>
    have hn : n ≤ 8 ∧ m ≤ 8 := by simp [tooLong] at ht; omega
    obtain ⟨hn, hm⟩ := hn
    obtain ⟨c1, c2, c3, c4⟩ := boxes_gen hB1
    go_wp2_with fail
    refine (of_any p A n c xs _ (HH.out.below hw1) (by omega) HD.out).mono ?_
    rintro e w2 ⟨g1, A1, n1, d1, g2, A2, n2, d2, rfl, hv, hr, hb2⟩
    obtain ⟨x, hx⟩ : ∃ x, withSign p (val xs) = x := ⟨_, rfl⟩
    rw [hx] at hv hr
    have HV := Lib.hid (hv.mono hn)
    have HR := Lib.hid (hr.mono (show 2 * n ≤ 16 by omega))
    have hw2 := hw1.trans (hb2.mono hw1.size)
    have hB2 := hB1.trans (hb2.mono (B' := w.heap.size + 2) (Nat.le_trans hs0 hB1.size))
    have hX := below_two w2 (.cells #[.bool g1, .slice A1 n1 d1] 28) (.cells #[.bool g2, .slice A2 n2 d2] 31)
    have hsX : w2.heap.size + 2 ≤ ((w2.alloc (.cells #[.bool g1, .slice A1 n1 d1] 28)).alloc (.cells #[.bool g2, .slice A2 n2 d2] 31)).heap.size := by simp
    have hw3 := hw2.trans (hX.mono hw2.size)
    have hB3 := hB2.trans (hX.mono (Nat.le_trans hs0 hB2.size))
    clear hv hr c1 c2 c3 c4 hx
    obtain ⟨c1, c2, c3, c4⟩ := boxes_gen hB3
    go_wp2_with fail
    refine (of_any q B m d ys _ (GH.out.below hw3) (by omega) GD.out).mono ?_
    rintro e w4 ⟨g3, A3, n3, d3, g4, A4, n4, d4, rfl, hv, hr, hb4⟩
    obtain ⟨y, hy⟩ : ∃ y, withSign q (val ys) = y := ⟨_, rfl⟩
    rw [hy] at hv hr
    have HV2 := Lib.hid (hv.mono hm)
    have HR2 := Lib.hid (hr.mono (show 2 * m ≤ 16 by omega))
    have hw4 := hw3.trans (hb4.mono hw3.size)
    have hP4 := hb4.mono (B' := w2.heap.size + 2) hsX
    have hY := below_two w4 (.cells #[.bool g3, .slice A3 n3 d3] 28) (.cells #[.bool g4, .slice A4 n4 d4] 31)
    have hsY : w4.heap.size + 2 ≤ ((w4.alloc (.cells #[.bool g3, .slice A3 n3 d3] 28)).alloc (.cells #[.bool g4, .slice A4 n4 d4] 31)).heap.size := by simp
    have hP5 := hP4.trans (hY.mono (Nat.le_trans hsX hP4.size))
    have hQ5 := Below.refl (w4.heap.size + 2) ((w4.alloc (.cells #[.bool g3, .slice A3 n3 d3] 28)).alloc (.cells #[.bool g4, .slice A4 n4 d4] 31))
    clear hv hr c1 c2 c3 c4 hy hB1 hB2 hB3
    obtain ⟨c1, c2, c3, c4⟩ := boxes_gen hP5
    obtain ⟨c5, c6, c7, c8⟩ := boxes_gen hQ5
    have hw5 := hw4.trans (hY.mono hw4.size)
    have HX5 := Lib.hid (HV.out.below (hX.trans (hP5.mono (by omega))))
    have HY5 := Lib.hid (HV2.out.below hY)
    go_wp2_with fail
    refine (Boole_int _ _ x y op 8 8 _ HX5.out HY5.out (by decide) (by decide)).mono ?_
    rintro e w6 ⟨⟨z, g5, A5, n5, d5, rfl, hz, hbo⟩, hb6⟩
    obtain ⟨er, her⟩ : ∃ er, boolE op = er := ⟨_, rfl⟩
    rw [her]
    have HER := Lib.hid her
    have HZ := Lib.hid hz
    have HBO := Lib.hid hbo
    have hC := below_alloc w6 (.cells #[.bool g5, .slice A5 n5 d5] 28)
    have hsC : w6.heap.size + 1 ≤ (w6.alloc (.cells #[.bool g5, .slice A5 n5 d5] 28)).heap.size := by simp
    have h67 := (hb6.trans (hC.mono hb6.size))
    have hP7 := hP5.trans (h67.mono (B' := w2.heap.size + 2) (Nat.le_trans hsX hP5.size))
    have hQ7 := hQ5.trans (h67.mono (B' := w4.heap.size + 2) hsY)
    have hC7 := Below.refl (w6.heap.size + 1) (w6.alloc (.cells #[.bool g5, .slice A5 n5 d5] 28))
    have hw7 := hw5.trans (h67.mono hw5.size)
    clear hz hbo her c1 c2 c3 c4 c5 c6 c7 c8
    obtain ⟨c1, c2, c3, c4⟩ := boxes_gen hP7
    obtain ⟨c5, c6, c7, c8⟩ := boxes_gen hQ7
    have HR7 := Lib.hid (HR.out.below (hX.trans (hP7.mono (by omega))))
    have HR27 := Lib.hid (HR2.out.below (hY.trans (hQ7.mono (by omega))))
    go_wp2_with fail
    refine (rBoole_int _ _ x y op 16 16 _ HR7.out HR27.out (by decide) (by decide)).mono ?_
    rintro e w8 ⟨⟨z', g6, A6, n6, d6, rfl, hz, hbo⟩, hb8⟩
    rw [HER.out]
    obtain rfl := RBoolV.same HBO.out hbo
    have HZR := Lib.hid hz
    have hD := below_alloc w8 (.cells #[.bool g6, .slice A6 n6 d6] 31)
    have hsD : w8.heap.size + 1 ≤ (w8.alloc (.cells #[.bool g6, .slice A6 n6 d6] 31)).heap.size := by simp
    have h89 := (hb8.trans (hD.mono hb8.size))
    have hP9 := hP7.trans (h89.mono (B' := w2.heap.size + 2) (Nat.le_trans hsX hP7.size))
    have hC9 := hC7.trans (h89.mono (B' := w6.heap.size + 1) hsC)
    have hD9 := Below.refl (w8.heap.size + 1) (w8.alloc (.cells #[.bool g6, .slice A6 n6 d6] 31))
    have hWW := hw7.trans (h89.mono hw7.size)
    clear hz hbo c1 c2 c3 c4 c5 c6 c7 c8
    obtain ⟨c1, c2, c3, c4⟩ := boxes_gen hP9
    obtain ⟨c5, c6⟩ := box_gen hC9
    obtain ⟨c7, c8⟩ := box_gen hD9
    have HVa := Lib.hid (HV.out.below (hX.trans (hP9.mono (by omega))))
    have HVb := Lib.hid (HR.out.below (hX.trans (hP9.mono (by omega))))
    have HVp := Lib.hid (HZ.out.below (hC.trans (hC9.mono (by omega))))
    have HVq := Lib.hid (HZR.out.below hD)
    have hz1 : w2.heap.size + 2 ≤ (w8.alloc (.cells #[.bool g6, .slice A6 n6 d6] 31)).heap.size := Nat.le_trans hsX hP9.size
    have hz2 : w6.heap.size + 1 ≤ (w8.alloc (.cells #[.bool g6, .slice A6 n6 d6] 31)).heap.size := Nat.le_trans hsC hC9.size
    go_wp2_with fail
    generalize (w8.alloc (.cells #[.bool g6, .slice A6 n6 d6] 31)) = w9 at *
    have HT := Lib.hid (fun (w' : World) (hb : Below w9.heap.size w9 w') => eight_hold (b0 := w6.heap.size) (b1 := w8.heap.size) (b2 := w2.heap.size) (b3 := w2.heap.size + 1) (by omega) (by omega) (by omega) (by omega) c5 c6 c7 c8 c1 c2 c3 c4 hb)
    have hR0 := (Below.refl w9.heap.size w9).drew
    obtain ⟨bit, hbit⟩ : ∃ bit, bitOf x nn = bit := ⟨_, rfl⟩
    have HBIT := Lib.hid hbit
    clear hbit HV HR HV2 HR2 HZ HZR HX5 HY5 HR7 HR27 HBO HER hX hY hC hD hP4 hP5 hQ5 hP7 hQ7 hC7 hP9 hC9 hD9 h67 h89 hb1 hb2 hb4 hb6 hb8 hW hW2 hw1 hw2 hw3 hw4 hw5 hw7 HH HD GH GD hsX hsY hsC hsD hz1 hz2 hs0
    refine wp_region_held_drew (S := fun w' => w'.cell? ⟨w6.heap.size, 0, none⟩ = some (.bool g5) ∧ w'.cell? ⟨w6.heap.size, 1, none⟩ = some (.slice A5 n5 d5) ∧ w'.cell? ⟨w8.heap.size, 0, none⟩ = some (.bool g6) ∧ w'.cell? ⟨w8.heap.size, 1, none⟩ = some (.slice A6 n6 d6) ∧ w'.cell? ⟨w2.heap.size, 0, none⟩ = some (.bool g1) ∧ w'.cell? ⟨w2.heap.size, 1, none⟩ = some (.slice A1 n1 d1) ∧ w'.cell? ⟨w2.heap.size + 1, 0, none⟩ = some (.bool g2) ∧ w'.cell? ⟨w2.heap.size + 1, 1, none⟩ = some (.slice A2 n2 d2) ∧ Below w9.heap.size w9 w') (by kernel_rfl) (HT.out _ hR0) (fun hHeld0 => ?_)
    refine wpAnyH_taken (i := 0) (d := some 47) (v := ?_) rfl rfl (by kernel_rfl) (by kernel_rfl) (by kernel_rfl) (fun _ _ _ h => h) (Or.inl ⟨by rfl, ?_⟩) (by assumption) ?_
    rotate_left 1
    · (intro w hSw; (try dsimp only at hSw); go_simp; try with_reducible rfl)
    try simp only [Act.put, List.setIfInBounds_toArray, List.set_cons_zero, List.set_cons_succ]
    refine wpAnyH_taken (i := 1) (d := some 48) (v := ?_) rfl rfl (by kernel_rfl) (by kernel_rfl) (by kernel_rfl) (fun _ _ _ h => h) (Or.inl ⟨by rfl, ?_⟩) (by assumption) ?_
    rotate_left 1
    · (intro w hSw; (try dsimp only at hSw); go_simp; try with_reducible rfl)
    try simp only [Act.put, List.setIfInBounds_toArray, List.set_cons_zero, List.set_cons_succ]
    refine wpAnyH_taken (i := 2) (d := some 49) (v := ?_) rfl rfl (by kernel_rfl) (by kernel_rfl) (by kernel_rfl) (fun _ _ _ h => h) (Or.inl ⟨by rfl, ?_⟩) (by assumption) ?_
    rotate_left 1
    · (intro w hSw; (try dsimp only at hSw); go_simp; try with_reducible rfl)
    try simp only [Act.put, List.setIfInBounds_toArray, List.set_cons_zero, List.set_cons_succ]
    refine wpAnyH_taken (i := 3) (d := some 50) (v := ?_) rfl rfl (by kernel_rfl) (by kernel_rfl) (by kernel_rfl) (fun _ _ _ h => h) (Or.inl ⟨by rfl, ?_⟩) (by assumption) ?_
    rotate_left 1
    · (intro w hSw; (try dsimp only at hSw); go_simp; try with_reducible rfl)
    try simp only [Act.put, List.setIfInBounds_toArray, List.set_cons_zero, List.set_cons_succ]
    refine wpAnyH_taken (i := 4) (d := some 51) (v := ?_) rfl rfl (by kernel_rfl) (by kernel_rfl) (by kernel_rfl) (fun _ _ _ h => h) (Or.inl ⟨by rfl, ?_⟩) (by assumption) ?_
    rotate_left 1
    · (intro w hSw; (try dsimp only at hSw); go_simp; try with_reducible rfl)
    try simp only [Act.put, List.setIfInBounds_toArray, List.set_cons_zero, List.set_cons_succ]
    refine wpAnyH_taken (i := 5) (d := some 52) (v := ?_) rfl rfl (by kernel_rfl) (by kernel_rfl) (by kernel_rfl) (fun _ _ _ h => h) (Or.inl ⟨by rfl, ?_⟩) (by assumption) ?_
    rotate_left 1
    · (intro w hSw; (try dsimp only at hSw); go_simp; try with_reducible rfl)
    try simp only [Act.put, List.setIfInBounds_toArray, List.set_cons_zero, List.set_cons_succ]
    refine wpAnyH_ready (rs := [6]) (by kernel_rfl) (by simp) ?_
    refine AllReadyH.cons rfl (fun K hK => ?_) AllReadyH.nil
    try simp only [List.getElem_toArray, List.getElem_cons_zero, List.getElem_cons_succ]
    go_simp
    (go_at_call 21; refine (is_yes _ _ z' 9 30000 _ (HVp.out.below hR0) (HVq.out.below hR0) (by decide) (by decide)).mono ?_; rintro e wz1 ⟨rfl, hb1⟩)
    have hR1 := Below.trans hR0 (hb1.mono hR0.size)
    refine hK.out _ _ (HT.out _ hR1) (fun hHeld1 => ?_)
    clear hK K hHeld0 
    try simp only [Act.put, List.setIfInBounds_toArray, List.set_cons_zero, List.set_cons_succ]
    refine wpAnyH_taken (i := 7) (d := some 54) (v := ?_) rfl rfl (by kernel_rfl) (by kernel_rfl) (by kernel_rfl) (fun _ _ _ h => h) (Or.inl ⟨by rfl, ?_⟩) (by assumption) ?_
    rotate_left 1
    · (intro w hSw; (try dsimp only at hSw); go_simp; try with_reducible rfl)
    try simp only [Act.put, List.setIfInBounds_toArray, List.set_cons_zero, List.set_cons_succ]
    refine wpAnyH_taken (i := 8) (d := some 55) (v := ?_) rfl rfl (by kernel_rfl) (by kernel_rfl) (by kernel_rfl) (fun _ _ _ h => h) (Or.inl ⟨by rfl, ?_⟩) (by assumption) ?_
    rotate_left 1
    · (intro w hSw; (try dsimp only at hSw); go_simp; try with_reducible rfl)
    try simp only [Act.put, List.setIfInBounds_toArray, List.set_cons_zero, List.set_cons_succ]
    refine wpAnyH_taken (i := 9) (d := some 56) (v := ?_) rfl rfl (by kernel_rfl) (by kernel_rfl) (by kernel_rfl) (fun _ _ _ h => h) (Or.inl ⟨by rfl, ?_⟩) (by assumption) ?_
    rotate_left 1
    · (intro w hSw; (try dsimp only at hSw); go_simp; try with_reducible rfl)
    try simp only [Act.put, List.setIfInBounds_toArray, List.set_cons_zero, List.set_cons_succ]
    refine wpAnyH_taken (i := 10) (d := some 57) (v := ?_) rfl rfl (by kernel_rfl) (by kernel_rfl) (by kernel_rfl) (fun _ _ _ h => h) (Or.inl ⟨by rfl, ?_⟩) (by assumption) ?_
    rotate_left 1
    · (intro w hSw; (try dsimp only at hSw); go_simp; try with_reducible rfl)
    try simp only [Act.put, List.setIfInBounds_toArray, List.set_cons_zero, List.set_cons_succ]
    refine wpAnyH_taken (i := 12) (d := some 59) (v := ?_) rfl rfl (by kernel_rfl) (by kernel_rfl) (by kernel_rfl) (fun _ _ _ h => h) (Or.inl ⟨by rfl, ?_⟩) (by assumption) ?_
    rotate_left 1
    · (intro w hSw; (try dsimp only at hSw); go_simp; try with_reducible rfl)
    try simp only [Act.put, List.setIfInBounds_toArray, List.set_cons_zero, List.set_cons_succ]
    refine wpAnyH_taken (i := 13) (d := some 60) (v := ?_) rfl rfl (by kernel_rfl) (by kernel_rfl) (by kernel_rfl) (fun _ _ _ h => h) (Or.inl ⟨by rfl, ?_⟩) (by assumption) ?_
    rotate_left 1
    · (intro w hSw; (try dsimp only at hSw); go_simp; try with_reducible rfl)
    try simp only [Act.put, List.setIfInBounds_toArray, List.set_cons_zero, List.set_cons_succ]
    refine wpAnyH_ready (rs := [11]) (by kernel_rfl) (by simp) ?_
    refine AllReadyH.cons rfl (fun K hK => ?_) AllReadyH.nil
    try simp only [List.getElem_toArray, List.getElem_cons_zero, List.getElem_cons_succ]
    go_simp
    (go_at_call 53; refine (Bit_any _ x nn 8 _ (HVa.out.below hR1) (by decide) hn0 hn1).mono ?_; rintro e wz2 ⟨rfl, hb2⟩)
    have hR2 := Below.trans hR1 (hb2.mono hR1.size)
    rw [HBIT.out]
    refine hK.out _ _ (HT.out _ hR2) (fun hHeld2 => ?_)
    clear hK K hHeld1 
    try simp only [Act.put, List.setIfInBounds_toArray, List.set_cons_zero, List.set_cons_succ]
    refine wpAnyH_ready (rs := [14]) (by kernel_rfl) (by simp) ?_
    refine AllReadyH.cons rfl (fun K hK => ?_) AllReadyH.nil
    try simp only [List.getElem_toArray, List.getElem_cons_zero, List.getElem_cons_succ]
    go_simp
    (go_at_call 54; refine (rBit_any _ x nn 16 _ (HVb.out.below hR2) (by decide) hn0 hn1).mono ?_; rintro e wz3 ⟨rfl, hb3⟩)
    have hR3 := Below.trans hR2 (hb3.mono hR2.size)
    rw [HBIT.out]
    refine hK.out _ _ (HT.out _ hR3) (fun hHeld3 => ?_)
    clear hK K hHeld2 
    try simp only [Act.put, List.setIfInBounds_toArray, List.set_cons_zero, List.set_cons_succ]
    refine wpAnyH_taken (i := 15) (d := some 62) (v := ?_) rfl rfl (by kernel_rfl) (by kernel_rfl) (by kernel_rfl) (fun _ _ _ h => h) (Or.inl ⟨by rfl, ?_⟩) (by assumption) ?_
    rotate_left 1
    · (intro w hSw; (try dsimp only at hSw); go_simp; try with_reducible rfl)
    try simp only [Act.put, List.setIfInBounds_toArray, List.set_cons_zero, List.set_cons_succ]
    refine wpAnyH_taken (i := 16) (d := some 63) (v := ?_) rfl rfl (by kernel_rfl) (by kernel_rfl) (by kernel_rfl) (fun _ _ _ h => h) (Or.inl ⟨by rfl, ?_⟩) (by assumption) ?_
    rotate_left 1
    · (intro w hSw; (try dsimp only at hSw); go_simp; try with_reducible rfl)
    try simp only [Act.put, List.setIfInBounds_toArray, List.set_cons_zero, List.set_cons_succ]
    refine wpAnyH_taken (i := 17) (d := some 64) (v := ?_) rfl rfl (by kernel_rfl) (by kernel_rfl) (by kernel_rfl) (fun _ _ _ h => h) (Or.inl ⟨by rfl, ?_⟩) (by assumption) ?_
    rotate_left 1
    · (intro w hSw; (try dsimp only at hSw); go_simp; try with_reducible rfl)
    try simp only [Act.put, List.setIfInBounds_toArray, List.set_cons_zero, List.set_cons_succ]
    refine wpAnyH_ready (rs := [18]) (by kernel_rfl) (by simp) ?_
    refine AllReadyH.cons rfl (fun K hK => ?_) AllReadyH.nil
    try simp only [List.getElem_toArray, List.getElem_cons_zero, List.getElem_cons_succ]
    go_simp
    (go_at_call 15; refine (awake_any _).mono ?_; rintro e wz4 ⟨rfl, hb4⟩)
    have hR4 := Below.trans hR3 (hb4.mono hR3.size)
    refine hK.out _ _ (HT.out _ hR4) (fun hHeld4 => ?_)
    clear hK K hHeld3 
    try simp only [Act.put, List.setIfInBounds_toArray, List.set_cons_zero, List.set_cons_succ]
    refine wpAnyH_taken (i := 19) (d := some 66) (v := ?_) rfl rfl (by kernel_rfl) (by kernel_rfl) (by kernel_rfl) (fun _ _ _ h => h) (Or.inl ⟨by rfl, ?_⟩) (by assumption) ?_
    rotate_left 1
    · (intro w hSw; (try dsimp only at hSw); go_simp; try with_reducible rfl)
    try simp only [Act.put, List.setIfInBounds_toArray, List.set_cons_zero, List.set_cons_succ]
    refine wpAnyH_taken (i := 20) (d := some 8) (v := ?_) rfl rfl (by kernel_rfl) (by kernel_rfl) (by kernel_rfl) (fun _ _ _ h => h) (Or.inl ⟨by rfl, ?_⟩) (by assumption) ?_
    rotate_left 1
    · (intro w hSw; (try dsimp only at hSw); go_simp; try with_reducible rfl)
    try simp only [Act.put, List.setIfInBounds_toArray, List.set_cons_zero, List.set_cons_succ]
    refine wpAnyH_done (by kernel_rfl) ?_ _
    go_wp2_with fail
    go_ret
    exact ⟨rfl, hWW.trans (hR4.mono hWW.size)⟩

end Go.Proofs.Ytoanomgdkkbbmaa
