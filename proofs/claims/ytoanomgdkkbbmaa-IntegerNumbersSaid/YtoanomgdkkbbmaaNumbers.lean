/- IntegerNumbers: the walk. -/
import Derived.Test.YtoanomgdkkbbmaaRBitsAll
import Derived.Test.YtoanomgdkkbbmaaLowInt
import Derived.Test.YtoanomgdkkbbmaaOf
import Derived.Test.YtoanomgdkkbbmaaAwake
import Derived.Test.YtoanomgdkkbbmaaShort
namespace Go.Proofs.Ytoanomgdkkbbmaa
open Go.RowKit LM

theorem lens_one (w : World) {g : Nat} (hg : w.heap.size = g) (p : Bool) (A : Option Addr) (n c : Nat) :
    Lens (w.alloc (.cells #[.bool p, .slice A n c] 24)) g 1 [n] := by
  subst hg
  refine ⟨rfl, by simp, fun i hi => ?_⟩
  match i, hi with
  | 0, _ => exact ⟨p, A, c, World.cell?_alloc_at _ _ _ _ rfl, World.cell?_alloc_at _ _ _ _ rfl⟩

theorem cell24 {w w' : World} {p : Bool} {u : Value} (h : Below (w.heap.size + 1) (w.alloc (.cells #[.bool p, u] 24)) w') : w'.cell? ⟨w.heap.size, 0, none⟩ = some (.bool p) ∧ w'.cell? ⟨w.heap.size, 1, none⟩ = some u := by
  refine ⟨?_, ?_⟩
  · rw [h.cell (by simp), World.cell?_alloc_at _ _ _ _ (by simp)]; rfl
  · rw [h.cell (by simp), World.cell?_alloc_at _ _ _ _ (by simp)]; rfl

theorem boxes_two {w w' : World} {p q : Bool} {u v : Value} (h : Below (w.heap.size + 2) ((w.alloc (.cells #[.bool p, u] 28)).alloc (.cells #[.bool q, v] 31)) w') :
    w'.cell? ⟨w.heap.size, 0, none⟩ = some (.bool p) ∧ w'.cell? ⟨w.heap.size, 1, none⟩ = some u ∧ w'.cell? ⟨w.heap.size + 1, 0, none⟩ = some (.bool q) ∧ w'.cell? ⟨w.heap.size + 1, 1, none⟩ = some v := by
  refine ⟨?_, ?_, ?_, ?_⟩
  · rw [h.cell (by simp), World.cell?_alloc_past _ _ _ (by simp), World.cell?_alloc_at _ _ _ _ rfl]; rfl
  · rw [h.cell (by simp), World.cell?_alloc_past _ _ _ (by simp), World.cell?_alloc_at _ _ _ _ rfl]; rfl
  · rw [h.cell (by simp), World.cell?_alloc_at _ _ _ _ (by simp)]; rfl
  · rw [h.cell (by simp), World.cell?_alloc_at _ _ _ _ (by simp)]; rfl

theorem four_hold {w9 w' : World} {ba bu : Nat} {v0 v1 v2 v3 v4 v5 v6 v7 : Value} (hba : ba + 1 < w9.heap.size) (hbu : bu + 1 < w9.heap.size)
    (c0 : w9.cell? ⟨ba, 0, none⟩ = some v0) (c1 : w9.cell? ⟨ba, 1, none⟩ = some v1) (c2 : w9.cell? ⟨ba + 1, 0, none⟩ = some v2) (c3 : w9.cell? ⟨ba + 1, 1, none⟩ = some v3)
    (c4 : w9.cell? ⟨bu, 0, none⟩ = some v4) (c5 : w9.cell? ⟨bu, 1, none⟩ = some v5) (c6 : w9.cell? ⟨bu + 1, 0, none⟩ = some v6) (c7 : w9.cell? ⟨bu + 1, 1, none⟩ = some v7) (hb : Below w9.heap.size w9 w') :
    w'.cell? ⟨ba, 0, none⟩ = some v0 ∧ w'.cell? ⟨ba, 1, none⟩ = some v1 ∧ w'.cell? ⟨ba + 1, 0, none⟩ = some v2 ∧ w'.cell? ⟨ba + 1, 1, none⟩ = some v3 ∧
    w'.cell? ⟨bu, 0, none⟩ = some v4 ∧ w'.cell? ⟨bu, 1, none⟩ = some v5 ∧ w'.cell? ⟨bu + 1, 0, none⟩ = some v6 ∧ w'.cell? ⟨bu + 1, 1, none⟩ = some v7 ∧ Below w9.heap.size w9 w' := by
  have k : ∀ b o, b < w9.heap.size → w'.cell? ⟨b, o, none⟩ = w9.cell? ⟨b, o, none⟩ := fun b o h => hb.cell (p := ⟨b, o, none⟩) h
  refine ⟨?_, ?_, ?_, ?_, ?_, ?_, ?_, ?_, hb⟩
  · rw [k _ _ (by omega), c0]
  · rw [k _ _ (by omega), c1]
  · rw [k _ _ (by omega), c2]
  · rw [k _ _ (by omega), c3]
  · rw [k _ _ (by omega), c4]
  · rw [k _ _ (by omega), c5]
  · rw [k _ _ (by omega), c6]
  · rw [k _ _ (by omega), c7]

set_option maxRecDepth 100000 in
set_option maxHeartbeats 8000000 in
theorem numbers_any (p : Bool) (A : Option Addr) (n c : Nat) (xs : List Int) (nn : Int) (w : World) (h : Row .u32 w A n c xs) (hd : Dig xs) (hn0 : -9223372036854775808 ≤ nn) (hn1 : nn ≤ 9223372036854775807) :
    Calls Try.prog 3 #[.agg #[.bool p, .slice A n c], .int .i64 nn] w fun e w' => e = .returned (.bool true) ∧ Below w.heap.size w w' := by
  have hW := below_alloc w (.cells #[.bool p, .slice A n c] 24)
  have hW2 : Below (w.heap.size + 1) (w.alloc (.cells #[.bool p, .slice A n c] 24)) ((w.alloc (.cells #[.bool p, .slice A n c] 24)).alloc (.cells #[.bool p, .slice A n c] 24)) := (Below.refl _ _).alloc (by simp) _
  have HH := Lib.hid h
  have HD := Lib.hid hd
  clear h hd
  go_enter Try.func3, Try.ntmps3
  go_wp2_with fail
  refine (short_any _ 1 [n] 12 _ (lens_one _ (by simp) p A n c) (by omega)).mono ?_
  rintro e w1 ⟨rfl, hb1⟩
  have hB1 := hW2.trans (hb1.mono (B' := w.heap.size + 1) (by simp))
  have hw1 := hW.trans (hB1.mono (by omega))
  cases ht : tooLong [n] 12 with
  | true =>
    go_wp2_with fail
    refine (awake_any _).mono ?_
    rintro e w2 ⟨rfl, hb2⟩
    go_wp2
    go_ret
    exact ⟨rfl, hw1.trans (hb2.mono hw1.size)⟩
  | false =>
    have hn : n ≤ 12 := by simp [tooLong] at ht; omega
    obtain ⟨c1, c2⟩ := cell24 hB1
    go_wp2_with fail
    refine (of_any p A n c xs _ (HH.out.below hw1) (by omega) HD.out).mono ?_
    rintro e w2 ⟨g1, A1, n1, d1, g2, A2, n2, d2, rfl, hv, hr, hb2⟩
    obtain ⟨x, hx⟩ : ∃ x, withSign p (val xs) = x := ⟨_, rfl⟩
    rw [hx] at hv hr
    have HV := Lib.hid (hv.mono hn)
    have HR := Lib.hid (hr.mono (show 2 * n ≤ 24 by omega))
    have hw2 := hw1.trans (hb2.mono hw1.size)
    clear hv hr c1 c2 hx
    go_wp2_with fail
    have hX := below_two w2 (.cells #[.bool g1, .slice A1 n1 d1] 28) (.cells #[.bool g2, .slice A2 n2 d2] 31)
    refine (new_int nn _ hn0 hn1).mono ?_
    rintro e w4 ⟨r3, rfl, hv3, hb4⟩
    obtain ⟨g3, A3, n3, d3, rfl⟩ := hv3.form
    have HV3 := Lib.hid hv3
    have hB4 := hb4.mono (B' := w2.heap.size + 2) (by simp)
    clear hv3
    go_wp2_with fail
    refine (rnew_any nn _ hn0 hn1).mono ?_
    rintro e w5 ⟨⟨g4, A4, n4, d4, rfl, hv4⟩, hb5⟩
    have HV4 := Lib.hid hv4
    have hB5 := hB4.trans (hb5.mono (B' := w2.heap.size + 2) (by have := hB4.size; simp at this; omega))
    have hs5 : w2.heap.size + 2 ≤ w5.heap.size := by have := hB5.size; simpa using this
    have hB6 := (hB5.alloc hs5 (.cells #[.bool g3, .slice A3 n3 d3] 28)).alloc (by simp; omega) (.cells #[.bool g4, .slice A4 n4 d4] 31)
    have hY := below_two w5 (.cells #[.bool g3, .slice A3 n3 d3] 28) (.cells #[.bool g4, .slice A4 n4 d4] 31)
    obtain ⟨a0, a1, a2, a3⟩ := boxes_two hB6
    clear hv4
    go_wp2_with fail
    refine (Int64_any _ x 12 _ (HV.out.below (hX.trans (hB6.mono (by omega)))) (by decide)).mono ?_
    rintro e w7 ⟨rfl, hb7⟩
    have hB7 := hB6.trans (hb7.mono (B' := w2.heap.size + 2) (by simp; omega))
    have hC7 := hb7.mono (B' := w5.heap.size + 2) (by simp)
    obtain ⟨i6, h6⟩ : ∃ i6, int64Of x = i6 := ⟨_, rfl⟩
    obtain ⟨f6, hf6⟩ : ∃ f6, fits64 x = f6 := ⟨_, rfl⟩
    rw [h6, hf6]
    have H6 := Lib.hid (And.intro h6 hf6)
    clear a0 a1 a2 a3 h6 hf6
    obtain ⟨a0, a1, a2, a3⟩ := boxes_two hB7
    go_wp2_with fail
    refine (rInt64_any _ x 24 _ (HR.out.below (hX.trans (hB7.mono (by omega)))) (by decide)).mono ?_
    rintro e w8 ⟨rfl, hb8⟩
    rw [H6.out.1, H6.out.2]
    have hB8 := hB7.trans (hb8.mono (B' := w2.heap.size + 2) (by have := hB7.size; simp at this; omega))
    have hC8 := hC7.trans (hb8.mono (B' := w5.heap.size + 2) (by have := hC7.size; simp at this; omega))
    clear a0 a1 a2 a3
    obtain ⟨u0, u1, u2, u3⟩ := boxes_two hC8
    go_wp2_with fail
    refine (Int64_any _ nn 2 _ (HV3.out.below (((hb5.mono (Nat.le_refl _)).trans (hY.mono hb5.size)).trans (hC8.mono (by have := hb5.size; omega)))) (by decide)).mono ?_
    rintro e w9 ⟨rfl, hb9⟩
    rw [(int64_fit ⟨hn0, hn1⟩).1, (int64_fit ⟨hn0, hn1⟩).2]
    have hB9 := hB8.trans (hb9.mono (B' := w2.heap.size + 2) (by have := hB8.size; simp at this; omega))
    have hC9 := hC8.trans (hb9.mono (B' := w5.heap.size + 2) (by have := hC8.size; simp at this; omega))
    clear u0 u1 u2 u3
    obtain ⟨a0, a1, a2, a3⟩ := boxes_two hB9
    obtain ⟨u0, u1, u2, u3⟩ := boxes_two hC9
    have hs9 : w5.heap.size + 2 ≤ w9.heap.size := by have := hC9.size; simpa using this
    obtain ⟨ba, hba⟩ : ∃ ba, w2.heap.size = ba := ⟨_, rfl⟩
    obtain ⟨bu, hbu⟩ : ∃ bu, w5.heap.size = bu := ⟨_, rfl⟩
    have HVa := Lib.hid (HV.out.below (hX.trans (hB9.mono (by omega))))
    have HVb := Lib.hid (HR.out.below (hX.trans (hB9.mono (by omega))))
    have HVu := Lib.hid (HV3.out.below (((hb5.mono (Nat.le_refl _)).trans (hY.mono hb5.size)).trans (hC9.mono (by have := hb5.size; omega))))
    have HVv := Lib.hid (HV4.out.below (hY.trans (hC9.mono (by omega))))
    have hWW : Below w.heap.size w w9 := hw2.trans ((hX.trans (hB9.mono (by omega))).mono hw2.size)
    rw [hba] at a0 a1 a2 a3 hs5
    rw [hbu] at u0 u1 u2 u3 hs5 hs9
    have HT := Lib.hid (fun (w' : World) (hb : Below w9.heap.size w9 w') => four_hold (ba := ba) (bu := bu) (by omega) (by omega) a0 a1 a2 a3 u0 u1 u2 u3 hb)
    have hR0 := (Below.refl w9.heap.size w9).drew
    obtain ⟨sg, hsg⟩ : ∃ sg, cmpI x 0 = sg := ⟨_, rfl⟩
    have HSG := Lib.hid hsg
    obtain ⟨od, hod⟩ : ∃ od, decide (x % 2 = 1) = od := ⟨_, rfl⟩
    have HOD := Lib.hid hod
    rw [hba, hbu]
    clear HV HR HV3 HV4 hX hY hB1 hB4 hB5 hB6 hB7 hB8 hB9 hC7 hC8 hC9 hb1 hb2 hb4 hb5 hb7 hb8 hb9 hW hW2 hw1 hw2 HH HD H6 hsg hod hs5 hs9 hba hbu
    go_wp2_with fail
    refine wp_region_held_drew (S := fun w' => w'.cell? ⟨ba, 0, none⟩ = some (.bool g1) ∧ w'.cell? ⟨ba, 1, none⟩ = some (.slice A1 n1 d1) ∧ w'.cell? ⟨ba + 1, 0, none⟩ = some (.bool g2) ∧ w'.cell? ⟨ba + 1, 1, none⟩ = some (.slice A2 n2 d2) ∧ w'.cell? ⟨bu, 0, none⟩ = some (.bool g3) ∧ w'.cell? ⟨bu, 1, none⟩ = some (.slice A3 n3 d3) ∧ w'.cell? ⟨bu + 1, 0, none⟩ = some (.bool g4) ∧ w'.cell? ⟨bu + 1, 1, none⟩ = some (.slice A4 n4 d4) ∧ Below w9.heap.size w9 w') (by kernel_rfl) (HT.out _ hR0) (fun hHeld0 => ?_)
    refine wpAnyH_taken (i := 0) (d := some 44) (v := ?_) rfl rfl (by kernel_rfl) (by kernel_rfl) (by kernel_rfl) (fun _ _ _ h => h) (Or.inl ⟨by rfl, ?_⟩) (by assumption) ?_
    rotate_left 1
    · (intro w hSw; (try dsimp only at hSw); go_simp; try with_reducible rfl)
    try simp only [Act.put, List.setIfInBounds_toArray, List.set_cons_zero, List.set_cons_succ]
    refine wpAnyH_taken (i := 1) (d := some 45) (v := ?_) rfl rfl (by kernel_rfl) (by kernel_rfl) (by kernel_rfl) (fun _ _ _ h => h) (Or.inl ⟨by rfl, ?_⟩) (by assumption) ?_
    rotate_left 1
    · (intro w hSw; (try dsimp only at hSw); go_simp; try with_reducible rfl)
    try simp only [Act.put, List.setIfInBounds_toArray, List.set_cons_zero, List.set_cons_succ]
    refine wpAnyH_ready (rs := [2]) (by kernel_rfl) (by simp) ?_
    refine AllReadyH.cons rfl (fun K hK => ?_) AllReadyH.nil
    try simp only [List.getElem_toArray, List.getElem_cons_zero, List.getElem_cons_succ]
    go_simp
    (go_at_call 21; refine (is_yes _ _ x 12 24 _ (HVa.out.below hR0) (HVb.out.below hR0) (by decide) (by decide)).mono ?_; rintro e wz1 ⟨rfl, hb1⟩; have hR1 := Below.trans hR0 (hb1.mono hR0.size))
    refine hK.out _ _ (HT.out _ hR1) (fun hHeld1 => ?_)
    clear hK K hHeld0
    try simp only [Act.put, List.setIfInBounds_toArray, List.set_cons_zero, List.set_cons_succ]
    refine wpAnyH_taken (i := 3) (d := some 47) (v := ?_) rfl rfl (by kernel_rfl) (by kernel_rfl) (by kernel_rfl) (fun _ _ _ h => h) (Or.inl ⟨by rfl, ?_⟩) (by assumption) ?_
    rotate_left 1
    · (intro w hSw; (try dsimp only at hSw); go_simp; try with_reducible rfl)
    try simp only [Act.put, List.setIfInBounds_toArray, List.set_cons_zero, List.set_cons_succ]
    refine wpAnyH_taken (i := 4) (d := some 48) (v := ?_) rfl rfl (by kernel_rfl) (by kernel_rfl) (by kernel_rfl) (fun _ _ _ h => h) (Or.inl ⟨by rfl, ?_⟩) (by assumption) ?_
    rotate_left 1
    · (intro w hSw; (try dsimp only at hSw); go_simp; try with_reducible rfl)
    try simp only [Act.put, List.setIfInBounds_toArray, List.set_cons_zero, List.set_cons_succ]
    refine wpAnyH_taken (i := 5) (d := some 49) (v := ?_) rfl rfl (by kernel_rfl) (by kernel_rfl) (by kernel_rfl) (fun _ _ _ h => h) (Or.inl ⟨by rfl, ?_⟩) (by assumption) ?_
    rotate_left 1
    · (intro w hSw; (try dsimp only at hSw); go_simp; try with_reducible rfl)
    try simp only [Act.put, List.setIfInBounds_toArray, List.set_cons_zero, List.set_cons_succ]
    refine wpAnyH_ready (rs := [6]) (by kernel_rfl) (by simp) ?_
    refine AllReadyH.cons rfl (fun K hK => ?_) AllReadyH.nil
    try simp only [List.getElem_toArray, List.getElem_cons_zero, List.getElem_cons_succ]
    go_simp
    (go_at_call 21; refine (is_yes _ _ nn 2 64 _ (HVu.out.below hR1) (HVv.out.below hR1) (by decide) (by decide)).mono ?_; rintro e wz2 ⟨rfl, hb2⟩; have hR2 := Below.trans hR1 (hb2.mono hR1.size))
    refine hK.out _ _ (HT.out _ hR2) (fun hHeld2 => ?_)
    clear hK K hHeld1
    try simp only [Act.put, List.setIfInBounds_toArray, List.set_cons_zero, List.set_cons_succ]
    refine wpAnyH_taken (i := 7) (d := some 51) (v := ?_) rfl rfl (by kernel_rfl) (by kernel_rfl) (by kernel_rfl) (fun _ _ _ h => h) (Or.inl ⟨by rfl, ?_⟩) (by assumption) ?_
    rotate_left 1
    · (intro w hSw; (try dsimp only at hSw); go_simp; try with_reducible rfl)
    try simp only [Act.put, List.setIfInBounds_toArray, List.set_cons_zero, List.set_cons_succ]
    refine wpAnyH_taken (i := 8) (d := some 52) (v := ?_) rfl rfl (by kernel_rfl) (by kernel_rfl) (by kernel_rfl) (fun _ _ _ h => h) (Or.inl ⟨by rfl, ?_⟩) (by assumption) ?_
    rotate_left 1
    · (intro w hSw; (try dsimp only at hSw); go_simp; try with_reducible rfl)
    try simp only [Act.put, List.setIfInBounds_toArray, List.set_cons_zero, List.set_cons_succ]
    refine wpAnyH_taken (i := 9) (d := some 53) (v := ?_) rfl rfl (by kernel_rfl) (by kernel_rfl) (by kernel_rfl) (fun _ _ _ h => h) (Or.inl ⟨by rfl, ?_⟩) (by assumption) ?_
    rotate_left 1
    · (intro w hSw; (try dsimp only at hSw); go_simp; try with_reducible rfl)
    try simp only [Act.put, List.setIfInBounds_toArray, List.set_cons_zero, List.set_cons_succ]
    refine wpAnyH_taken (i := 10) (d := some 54) (v := ?_) rfl rfl (by kernel_rfl) (by kernel_rfl) (by kernel_rfl) (fun _ _ _ h => h) (Or.inl ⟨by rfl, ?_⟩) (by assumption) ?_
    rotate_left 1
    · (intro w hSw; (try dsimp only at hSw); go_simp; try with_reducible rfl)
    try simp only [Act.put, List.setIfInBounds_toArray, List.set_cons_zero, List.set_cons_succ]
    refine wpAnyH_taken (i := 11) (d := some 55) (v := ?_) rfl rfl (by kernel_rfl) (by kernel_rfl) (by kernel_rfl) (fun _ _ _ h => h) (Or.inl ⟨by rfl, ?_⟩) (by assumption) ?_
    rotate_left 1
    · (intro w hSw; (try dsimp only at hSw); go_simp; try with_reducible rfl)
    try simp only [Act.put, List.setIfInBounds_toArray, List.set_cons_zero, List.set_cons_succ]
    refine wpAnyH_taken (i := 12) (d := some 56) (v := ?_) rfl rfl (by kernel_rfl) (by kernel_rfl) (by kernel_rfl) (fun _ _ _ h => h) (Or.inl ⟨by rfl, ?_⟩) (by assumption) ?_
    rotate_left 1
    · (intro w hSw; (try dsimp only at hSw); go_simp; try with_reducible rfl)
    try simp only [Act.put, List.setIfInBounds_toArray, List.set_cons_zero, List.set_cons_succ]
    refine wpAnyH_taken (i := 13) (d := some 57) (v := ?_) rfl rfl (by kernel_rfl) (by kernel_rfl) (by kernel_rfl) (fun _ _ _ h => h) (Or.inl ⟨by rfl, ?_⟩) (by assumption) ?_
    rotate_left 1
    · (intro w hSw; (try dsimp only at hSw); go_simp; try with_reducible rfl)
    try simp only [Act.put, List.setIfInBounds_toArray, List.set_cons_zero, List.set_cons_succ]
    refine wpAnyH_taken (i := 14) (d := some 58) (v := ?_) rfl rfl (by kernel_rfl) (by kernel_rfl) (by kernel_rfl) (fun _ _ _ h => h) (Or.inl ⟨by rfl, ?_⟩) (by assumption) ?_
    rotate_left 1
    · (intro w hSw; (try dsimp only at hSw); go_simp; try with_reducible rfl)
    try simp only [Act.put, List.setIfInBounds_toArray, List.set_cons_zero, List.set_cons_succ]
    refine wpAnyH_taken (i := 15) (d := some 59) (v := ?_) rfl rfl (by kernel_rfl) (by kernel_rfl) (by kernel_rfl) (fun _ _ _ h => h) (Or.inl ⟨by rfl, ?_⟩) (by assumption) ?_
    rotate_left 1
    · (intro w hSw; (try dsimp only at hSw); go_simp; try with_reducible rfl)
    try simp only [Act.put, List.setIfInBounds_toArray, List.set_cons_zero, List.set_cons_succ]
    refine wpAnyH_taken (i := 16) (d := some 60) (v := ?_) rfl rfl (by kernel_rfl) (by kernel_rfl) (by kernel_rfl) (fun _ _ _ h => h) (Or.inl ⟨by rfl, ?_⟩) (by assumption) ?_
    rotate_left 1
    · (intro w hSw; (try dsimp only at hSw); go_simp; try with_reducible rfl)
    try simp only [Act.put, List.setIfInBounds_toArray, List.set_cons_zero, List.set_cons_succ]
    refine wpAnyH_taken (i := 17) (d := some 61) (v := ?_) rfl rfl (by kernel_rfl) (by kernel_rfl) (by kernel_rfl) (fun _ _ _ h => h) (Or.inl ⟨by rfl, ?_⟩) (by assumption) ?_
    rotate_left 1
    · (intro w hSw; (try dsimp only at hSw); go_simp; try with_reducible rfl)
    try simp only [Act.put, List.setIfInBounds_toArray, List.set_cons_zero, List.set_cons_succ]
    refine wpAnyH_taken (i := 18) (d := some 62) (v := ?_) rfl rfl (by kernel_rfl) (by kernel_rfl) (by kernel_rfl) (fun _ _ _ h => h) (Or.inl ⟨by rfl, ?_⟩) (by assumption) ?_
    rotate_left 1
    · (intro w hSw; (try dsimp only at hSw); go_simp; try with_reducible rfl)
    try simp only [Act.put, List.setIfInBounds_toArray, List.set_cons_zero, List.set_cons_succ]
    refine wpAnyH_taken (i := 19) (d := some 63) (v := ?_) rfl rfl (by kernel_rfl) (by kernel_rfl) (by kernel_rfl) (fun _ _ _ h => h) (Or.inl ⟨by rfl, ?_⟩) (by assumption) ?_
    rotate_left 1
    · (intro w hSw; (try dsimp only at hSw); go_simp; try with_reducible rfl)
    try simp only [Act.put, List.setIfInBounds_toArray, List.set_cons_zero, List.set_cons_succ]
    refine wpAnyH_taken (i := 20) (d := some 64) (v := ?_) rfl rfl (by kernel_rfl) (by kernel_rfl) (by kernel_rfl) (fun _ _ _ h => h) (Or.inl ⟨by rfl, ?_⟩) (by assumption) ?_
    rotate_left 1
    · (intro w hSw; (try dsimp only at hSw); go_simp; try with_reducible rfl)
    try simp only [Act.put, List.setIfInBounds_toArray, List.set_cons_zero, List.set_cons_succ]
    refine wpAnyH_taken (i := 21) (d := some 65) (v := ?_) rfl rfl (by kernel_rfl) (by kernel_rfl) (by kernel_rfl) (fun _ _ _ h => h) (Or.inl ⟨by rfl, ?_⟩) (by assumption) ?_
    rotate_left 1
    · (intro w hSw; (try dsimp only at hSw); go_simp; try with_reducible rfl)
    try simp only [Act.put, List.setIfInBounds_toArray, List.set_cons_zero, List.set_cons_succ]
    refine wpAnyH_taken (i := 22) (d := some 66) (v := ?_) rfl rfl (by kernel_rfl) (by kernel_rfl) (by kernel_rfl) (fun _ _ _ h => h) (Or.inl ⟨by rfl, ?_⟩) (by assumption) ?_
    rotate_left 1
    · (intro w hSw; (try dsimp only at hSw); go_simp; try with_reducible rfl)
    try simp only [Act.put, List.setIfInBounds_toArray, List.set_cons_zero, List.set_cons_succ]
    refine wpAnyH_taken (i := 23) (d := some 67) (v := ?_) rfl rfl (by kernel_rfl) (by kernel_rfl) (by kernel_rfl) (fun _ _ _ h => h) (Or.inl ⟨by rfl, ?_⟩) (by assumption) ?_
    rotate_left 1
    · (intro w hSw; (try dsimp only at hSw); go_simp; try with_reducible rfl)
    try simp only [Act.put, List.setIfInBounds_toArray, List.set_cons_zero, List.set_cons_succ]
    refine wpAnyH_taken (i := 24) (d := some 68) (v := ?_) rfl rfl (by kernel_rfl) (by kernel_rfl) (by kernel_rfl) (fun _ _ _ h => h) (Or.inl ⟨by rfl, ?_⟩) (by assumption) ?_
    rotate_left 1
    · (intro w hSw; (try dsimp only at hSw); go_simp; try with_reducible rfl)
    try simp only [Act.put, List.setIfInBounds_toArray, List.set_cons_zero, List.set_cons_succ]
    refine wpAnyH_taken (i := 25) (d := some 69) (v := ?_) rfl rfl (by kernel_rfl) (by kernel_rfl) (by kernel_rfl) (fun _ _ _ h => h) (Or.inl ⟨by rfl, ?_⟩) (by assumption) ?_
    rotate_left 1
    · (intro w hSw; (try dsimp only at hSw); go_simp; try with_reducible rfl)
    try simp only [Act.put, List.setIfInBounds_toArray, List.set_cons_zero, List.set_cons_succ]
    refine wpAnyH_taken (i := 26) (d := some 70) (v := ?_) rfl rfl (by kernel_rfl) (by kernel_rfl) (by kernel_rfl) (fun _ _ _ h => h) (Or.inl ⟨by rfl, ?_⟩) (by assumption) ?_
    rotate_left 1
    · (intro w hSw; (try dsimp only at hSw); go_simp; try with_reducible rfl)
    try simp only [Act.put, List.setIfInBounds_toArray, List.set_cons_zero, List.set_cons_succ]
    refine wpAnyH_taken (i := 27) (d := some 71) (v := ?_) rfl rfl (by kernel_rfl) (by kernel_rfl) (by kernel_rfl) (fun _ _ _ h => h) (Or.inl ⟨by rfl, ?_⟩) (by assumption) ?_
    rotate_left 1
    · (intro w hSw; (try dsimp only at hSw); go_simp; try with_reducible rfl)
    try simp only [Act.put, List.setIfInBounds_toArray, List.set_cons_zero, List.set_cons_succ]
    refine wpAnyH_taken (i := 29) (d := some 73) (v := ?_) rfl rfl (by kernel_rfl) (by kernel_rfl) (by kernel_rfl) (fun _ _ _ h => h) (Or.inl ⟨by rfl, ?_⟩) (by assumption) ?_
    rotate_left 1
    · (intro w hSw; (try dsimp only at hSw); go_simp; try with_reducible rfl)
    try simp only [Act.put, List.setIfInBounds_toArray, List.set_cons_zero, List.set_cons_succ]
    refine wpAnyH_ready (rs := [28]) (by kernel_rfl) (by simp) ?_
    refine AllReadyH.cons rfl (fun K hK => ?_) AllReadyH.nil
    try simp only [List.getElem_toArray, List.getElem_cons_zero, List.getElem_cons_succ]
    go_simp
    (go_at_call 22; refine (sign_int _ x 12 _ (HVa.out.below hR2)).mono ?_; rintro e wz3 ⟨rfl, hb3⟩; have hR3 := Below.trans hR2 (hb3.mono hR2.size); rw [HSG.out])
    refine hK.out _ _ (HT.out _ hR3) (fun hHeld3 => ?_)
    clear hK K hHeld2
    try simp only [Act.put, List.setIfInBounds_toArray, List.set_cons_zero, List.set_cons_succ]
    refine wpAnyH_ready (rs := [30]) (by kernel_rfl) (by simp) ?_
    refine AllReadyH.cons rfl (fun K hK => ?_) AllReadyH.nil
    try simp only [List.getElem_toArray, List.getElem_cons_zero, List.getElem_cons_succ]
    go_simp
    (go_at_call 23; refine (rsign_any _ x 24 _ (HVb.out.below hR3) (by decide)).mono ?_; rintro e wz4 ⟨rfl, hb4⟩; have hR4 := Below.trans hR3 (hb4.mono hR3.size); rw [HSG.out])
    refine hK.out _ _ (HT.out _ hR4) (fun hHeld4 => ?_)
    clear hK K hHeld3
    try simp only [Act.put, List.setIfInBounds_toArray, List.set_cons_zero, List.set_cons_succ]
    refine wpAnyH_taken (i := 31) (d := some 75) (v := ?_) rfl rfl (by kernel_rfl) (by kernel_rfl) (by kernel_rfl) (fun _ _ _ h => h) (Or.inl ⟨by rfl, ?_⟩) (by assumption) ?_
    rotate_left 1
    · (intro w hSw; (try dsimp only at hSw); go_simp; try with_reducible rfl)
    try simp only [Act.put, List.setIfInBounds_toArray, List.set_cons_zero, List.set_cons_succ]
    refine wpAnyH_taken (i := 32) (d := some 76) (v := ?_) rfl rfl (by kernel_rfl) (by kernel_rfl) (by kernel_rfl) (fun _ _ _ h => h) (Or.inl ⟨by rfl, ?_⟩) (by assumption) ?_
    rotate_left 1
    · (intro w hSw; (try dsimp only at hSw); go_simp; try with_reducible rfl)
    try simp only [Act.put, List.setIfInBounds_toArray, List.set_cons_zero, List.set_cons_succ]
    refine wpAnyH_taken (i := 33) (d := some 77) (v := ?_) rfl rfl (by kernel_rfl) (by kernel_rfl) (by kernel_rfl) (fun _ _ _ h => h) (Or.inl ⟨by rfl, ?_⟩) (by assumption) ?_
    rotate_left 1
    · (intro w hSw; (try dsimp only at hSw); go_simp; try with_reducible rfl)
    try simp only [Act.put, List.setIfInBounds_toArray, List.set_cons_zero, List.set_cons_succ]
    refine wpAnyH_taken (i := 34) (d := some 78) (v := ?_) rfl rfl (by kernel_rfl) (by kernel_rfl) (by kernel_rfl) (fun _ _ _ h => h) (Or.inl ⟨by rfl, ?_⟩) (by assumption) ?_
    rotate_left 1
    · (intro w hSw; (try dsimp only at hSw); go_simp; try with_reducible rfl)
    try simp only [Act.put, List.setIfInBounds_toArray, List.set_cons_zero, List.set_cons_succ]
    refine wpAnyH_taken (i := 36) (d := some 80) (v := ?_) rfl rfl (by kernel_rfl) (by kernel_rfl) (by kernel_rfl) (fun _ _ _ h => h) (Or.inl ⟨by rfl, ?_⟩) (by assumption) ?_
    rotate_left 1
    · (intro w hSw; (try dsimp only at hSw); go_simp; try with_reducible rfl)
    try simp only [Act.put, List.setIfInBounds_toArray, List.set_cons_zero, List.set_cons_succ]
    refine wpAnyH_ready (rs := [35]) (by kernel_rfl) (by simp) ?_
    refine AllReadyH.cons rfl (fun K hK => ?_) AllReadyH.nil
    try simp only [List.getElem_toArray, List.getElem_cons_zero, List.getElem_cons_succ]
    go_simp
    (go_at_call 24; refine (odd_int _ x 12 _ (HVa.out.below hR4) (by decide)).mono ?_; rintro e wz5 ⟨rfl, hb5⟩; have hR5 := Below.trans hR4 (hb5.mono hR4.size); rw [HOD.out])
    refine hK.out _ _ (HT.out _ hR5) (fun hHeld5 => ?_)
    clear hK K hHeld4
    try simp only [Act.put, List.setIfInBounds_toArray, List.set_cons_zero, List.set_cons_succ]
    refine wpAnyH_ready (rs := [37]) (by kernel_rfl) (by simp) ?_
    refine AllReadyH.cons rfl (fun K hK => ?_) AllReadyH.nil
    try simp only [List.getElem_toArray, List.getElem_cons_zero, List.getElem_cons_succ]
    go_simp
    (go_at_call 25; refine (rodd_any _ x 24 _ (HVb.out.below hR5) (by decide)).mono ?_; rintro e wz6 ⟨rfl, hb6⟩; have hR6 := Below.trans hR5 (hb6.mono hR5.size); rw [HOD.out])
    refine hK.out _ _ (HT.out _ hR6) (fun hHeld6 => ?_)
    clear hK K hHeld5
    try simp only [Act.put, List.setIfInBounds_toArray, List.set_cons_zero, List.set_cons_succ]
    refine wpAnyH_taken (i := 38) (d := some 82) (v := ?_) rfl rfl (by kernel_rfl) (by kernel_rfl) (by kernel_rfl) (fun _ _ _ h => h) (Or.inl ⟨by rfl, ?_⟩) (by assumption) ?_
    rotate_left 1
    · (intro w hSw; (try dsimp only at hSw); go_simp; try with_reducible rfl)
    try simp only [Act.put, List.setIfInBounds_toArray, List.set_cons_zero, List.set_cons_succ]
    refine wpAnyH_taken (i := 39) (d := some 83) (v := ?_) rfl rfl (by kernel_rfl) (by kernel_rfl) (by kernel_rfl) (fun _ _ _ h => h) (Or.inl ⟨by rfl, ?_⟩) (by assumption) ?_
    rotate_left 1
    · (intro w hSw; (try dsimp only at hSw); go_simp; try with_reducible rfl)
    try simp only [Act.put, List.setIfInBounds_toArray, List.set_cons_zero, List.set_cons_succ]
    refine wpAnyH_taken (i := 40) (d := some 84) (v := ?_) rfl rfl (by kernel_rfl) (by kernel_rfl) (by kernel_rfl) (fun _ _ _ h => h) (Or.inl ⟨by rfl, ?_⟩) (by assumption) ?_
    rotate_left 1
    · (intro w hSw; (try dsimp only at hSw); go_simp; try with_reducible rfl)
    try simp only [Act.put, List.setIfInBounds_toArray, List.set_cons_zero, List.set_cons_succ]
    refine wpAnyH_taken (i := 41) (d := some 85) (v := ?_) rfl rfl (by kernel_rfl) (by kernel_rfl) (by kernel_rfl) (fun _ _ _ h => h) (Or.inl ⟨by rfl, ?_⟩) (by assumption) ?_
    rotate_left 1
    · (intro w hSw; (try dsimp only at hSw); go_simp; try with_reducible rfl)
    try simp only [Act.put, List.setIfInBounds_toArray, List.set_cons_zero, List.set_cons_succ]
    refine wpAnyH_taken (i := 43) (d := some 87) (v := ?_) rfl rfl (by kernel_rfl) (by kernel_rfl) (by kernel_rfl) (fun _ _ _ h => h) (Or.inl ⟨by rfl, ?_⟩) (by assumption) ?_
    rotate_left 1
    · (intro w hSw; (try dsimp only at hSw); go_simp; try with_reducible rfl)
    try simp only [Act.put, List.setIfInBounds_toArray, List.set_cons_zero, List.set_cons_succ]
    refine wpAnyH_ready (rs := [42]) (by kernel_rfl) (by simp) ?_
    refine AllReadyH.cons rfl (fun K hK => ?_) AllReadyH.nil
    try simp only [List.getElem_toArray, List.getElem_cons_zero, List.getElem_cons_succ]
    go_simp
    (go_at_call 26; refine (Length_any _ x 12 _ (HVa.out.below hR6) (by decide)).mono ?_; rintro e wz7 ⟨⟨kk, rfl, hk7, _⟩, hb7⟩; have hR7 := Below.trans hR6 (hb7.mono hR6.size); have HK7 := Lib.hid hk7; clear hk7)
    refine hK.out _ _ (HT.out _ hR7) (fun hHeld7 => ?_)
    clear hK K hHeld6
    try simp only [Act.put, List.setIfInBounds_toArray, List.set_cons_zero, List.set_cons_succ]
    refine wpAnyH_ready (rs := [44]) (by kernel_rfl) (by simp) ?_
    refine AllReadyH.cons rfl (fun K hK => ?_) AllReadyH.nil
    try simp only [List.getElem_toArray, List.getElem_cons_zero, List.getElem_cons_succ]
    go_simp
    (go_at_call 27; refine (rLength_any _ x 24 _ (HVb.out.below hR7) (by decide)).mono ?_; rintro e wz8 ⟨⟨kk8, rfl, hk8, _⟩, hb8⟩; have hR8 := Below.trans hR7 (hb8.mono hR7.size); obtain rfl := hk8.det HK7.out; clear hk8)
    refine hK.out _ _ (HT.out _ hR8) (fun hHeld8 => ?_)
    clear hK K hHeld7
    try simp only [Act.put, List.setIfInBounds_toArray, List.set_cons_zero, List.set_cons_succ]
    refine wpAnyH_taken (i := 45) (d := some 89) (v := ?_) rfl rfl (by kernel_rfl) (by kernel_rfl) (by kernel_rfl) (fun _ _ _ h => h) (Or.inl ⟨by rfl, ?_⟩) (by assumption) ?_
    rotate_left 1
    · (intro w hSw; (try dsimp only at hSw); go_simp; try with_reducible rfl)
    try simp only [Act.put, List.setIfInBounds_toArray, List.set_cons_zero, List.set_cons_succ]
    refine wpAnyH_taken (i := 46) (d := some 90) (v := ?_) rfl rfl (by kernel_rfl) (by kernel_rfl) (by kernel_rfl) (fun _ _ _ h => h) (Or.inl ⟨by rfl, ?_⟩) (by assumption) ?_
    rotate_left 1
    · (intro w hSw; (try dsimp only at hSw); go_simp; try with_reducible rfl)
    try simp only [Act.put, List.setIfInBounds_toArray, List.set_cons_zero, List.set_cons_succ]
    refine wpAnyH_taken (i := 47) (d := some 91) (v := ?_) rfl rfl (by kernel_rfl) (by kernel_rfl) (by kernel_rfl) (fun _ _ _ h => h) (Or.inl ⟨by rfl, ?_⟩) (by assumption) ?_
    rotate_left 1
    · (intro w hSw; (try dsimp only at hSw); go_simp; try with_reducible rfl)
    try simp only [Act.put, List.setIfInBounds_toArray, List.set_cons_zero, List.set_cons_succ]
    refine wpAnyH_taken (i := 48) (d := some 92) (v := ?_) rfl rfl (by kernel_rfl) (by kernel_rfl) (by kernel_rfl) (fun _ _ _ h => h) (Or.inl ⟨by rfl, ?_⟩) (by assumption) ?_
    rotate_left 1
    · (intro w hSw; (try dsimp only at hSw); go_simp; try with_reducible rfl)
    try simp only [Act.put, List.setIfInBounds_toArray, List.set_cons_zero, List.set_cons_succ]
    refine wpAnyH_taken (i := 50) (d := some 94) (v := ?_) rfl rfl (by kernel_rfl) (by kernel_rfl) (by kernel_rfl) (fun _ _ _ h => h) (Or.inl ⟨by rfl, ?_⟩) (by assumption) ?_
    rotate_left 1
    · (intro w hSw; (try dsimp only at hSw); go_simp; try with_reducible rfl)
    try simp only [Act.put, List.setIfInBounds_toArray, List.set_cons_zero, List.set_cons_succ]
    refine wpAnyH_ready (rs := [49]) (by kernel_rfl) (by simp) ?_
    refine AllReadyH.cons rfl (fun K hK => ?_) AllReadyH.nil
    try simp only [List.getElem_toArray, List.getElem_cons_zero, List.getElem_cons_succ]
    go_simp
    (go_at_call 28; refine (Count_any _ x 12 _ (HVa.out.below hR8) (by decide)).mono ?_; rintro e wz9 ⟨⟨m9, hm9, rfl⟩, hb9⟩; have hR9 := Below.trans hR8 (hb9.mono hR8.size); have HM9 := Lib.hid hm9; clear hm9; obtain ⟨pp, hpp⟩ : ∃ pp, popN m9 (patOf x) = pp := ⟨_, rfl⟩; have HPP := Lib.hid hpp; rw [hpp]; clear hpp)
    refine hK.out _ _ (HT.out _ hR9) (fun hHeld9 => ?_)
    clear hK K hHeld8
    try simp only [Act.put, List.setIfInBounds_toArray, List.set_cons_zero, List.set_cons_succ]
    refine wpAnyH_ready (rs := [51]) (by kernel_rfl) (by simp) ?_
    refine AllReadyH.cons rfl (fun K hK => ?_) AllReadyH.nil
    try simp only [List.getElem_toArray, List.getElem_cons_zero, List.getElem_cons_succ]
    go_simp
    (go_at_call 29; refine (rCount_any _ x 24 _ (HVb.out.below hR9) (by decide)).mono ?_; rintro e wz10 ⟨⟨m10, hm10, rfl⟩, hb10⟩; have hR10 := Below.trans hR9 (hb10.mono hR9.size); rw [popN_same (patOf_nonneg' x) hm10 HM9.out, HPP.out]; clear hm10)
    refine hK.out _ _ (HT.out _ hR10) (fun hHeld10 => ?_)
    clear hK K hHeld9
    try simp only [Act.put, List.setIfInBounds_toArray, List.set_cons_zero, List.set_cons_succ]
    refine wpAnyH_taken (i := 52) (d := some 96) (v := ?_) rfl rfl (by kernel_rfl) (by kernel_rfl) (by kernel_rfl) (fun _ _ _ h => h) (Or.inl ⟨by rfl, ?_⟩) (by assumption) ?_
    rotate_left 1
    · (intro w hSw; (try dsimp only at hSw); go_simp; try with_reducible rfl)
    try simp only [Act.put, List.setIfInBounds_toArray, List.set_cons_zero, List.set_cons_succ]
    refine wpAnyH_taken (i := 53) (d := some 97) (v := ?_) rfl rfl (by kernel_rfl) (by kernel_rfl) (by kernel_rfl) (fun _ _ _ h => h) (Or.inl ⟨by rfl, ?_⟩) (by assumption) ?_
    rotate_left 1
    · (intro w hSw; (try dsimp only at hSw); go_simp; try with_reducible rfl)
    try simp only [Act.put, List.setIfInBounds_toArray, List.set_cons_zero, List.set_cons_succ]
    refine wpAnyH_taken (i := 54) (d := some 98) (v := ?_) rfl rfl (by kernel_rfl) (by kernel_rfl) (by kernel_rfl) (fun _ _ _ h => h) (Or.inl ⟨by rfl, ?_⟩) (by assumption) ?_
    rotate_left 1
    · (intro w hSw; (try dsimp only at hSw); go_simp; try with_reducible rfl)
    try simp only [Act.put, List.setIfInBounds_toArray, List.set_cons_zero, List.set_cons_succ]
    refine wpAnyH_ready (rs := [55]) (by kernel_rfl) (by simp) ?_
    refine AllReadyH.cons rfl (fun K hK => ?_) AllReadyH.nil
    try simp only [List.getElem_toArray, List.getElem_cons_zero, List.getElem_cons_succ]
    go_simp
    (go_at_call 15; refine (awake_any _).mono ?_; rintro e wz11 ⟨rfl, hb11⟩; have hR11 := Below.trans hR10 (hb11.mono hR10.size))
    refine hK.out _ _ (HT.out _ hR11) (fun hHeld11 => ?_)
    clear hK K hHeld10
    try simp only [Act.put, List.setIfInBounds_toArray, List.set_cons_zero, List.set_cons_succ]
    refine wpAnyH_taken (i := 56) (d := some 100) (v := ?_) rfl rfl (by kernel_rfl) (by kernel_rfl) (by kernel_rfl) (fun _ _ _ h => h) (Or.inl ⟨by rfl, ?_⟩) (by assumption) ?_
    rotate_left 1
    · (intro w hSw; (try dsimp only at hSw); go_simp; try with_reducible rfl)
    try simp only [Act.put, List.setIfInBounds_toArray, List.set_cons_zero, List.set_cons_succ]
    refine wpAnyH_taken (i := 57) (d := some 4) (v := ?_) rfl rfl (by kernel_rfl) (by kernel_rfl) (by kernel_rfl) (fun _ _ _ h => h) (Or.inl ⟨by rfl, ?_⟩) (by assumption) ?_
    rotate_left 1
    · (intro w hSw; (try dsimp only at hSw); go_simp; try with_reducible rfl)
    try simp only [Act.put, List.setIfInBounds_toArray, List.set_cons_zero, List.set_cons_succ]
    refine wpAnyH_done (by kernel_rfl) ?_ _
    go_wp2_with fail
    go_ret
    exact ⟨rfl, hWW.trans (hR11.mono hWW.size)⟩

end Go.Proofs.Ytoanomgdkkbbmaa
