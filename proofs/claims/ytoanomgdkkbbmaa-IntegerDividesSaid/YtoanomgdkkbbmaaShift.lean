/- shifted and Shift, to the left. -/
import Derived.Test.YtoanomgdkkbbmaaUp
namespace Go.Proofs.Ytoanomgdkkbbmaa
open Go.RowKit LM

theorem withSign_pow2 (p : Bool) (a : Int) (m : Nat) : withSign p (a * 2 ^ m) = withSign p a * 2 ^ m := by
  cases p <;> simp [withSign, Int.neg_mul]

theorem shift_boxes {w w' : World} {p : Bool} {u : Value} (h : Below (w.heap.size + 1) ((w.alloc (.cells #[.bool p, u] 28)).alloc (.cells #[.bool false, .slice none 0 0] 28)) w') :
    w'.cell? ⟨w.heap.size, 0, none⟩ = some (.bool p) ∧ w'.cell? ⟨w.heap.size, 1, none⟩ = some u ∧ Below (w.heap.size + 1) ((w.alloc (.cells #[.bool p, u] 28)).alloc (.cells #[.bool false, .slice none 0 0] 28)) w' := by
  refine ⟨?_, ?_, h⟩
  · rw [h.cell (by simp), World.cell?_alloc_past _ _ _ (by simp), World.cell?_alloc_at _ _ _ _ rfl]; rfl
  · rw [h.cell (by simp), World.cell?_alloc_past _ _ _ (by simp), World.cell?_alloc_at _ _ _ _ rfl]; rfl

set_option maxRecDepth 100000 in
set_option maxHeartbeats 2000000 in
theorem shifted_up (u : Value) (x : Int) (L m : Nat) (w : World) (h : Ival w u x L) (hL : L ≤ 1048576) (hm : m ≤ 1048576) :
    Calls Try.prog 96 #[u, .int .i64 m] w fun e w' => (∃ ng A2 n2 c2, e = .returned (.agg #[.bool ng, .slice A2 n2 c2]) ∧ Ival w' (.agg #[.bool ng, .slice A2 n2 c2]) (x * 2 ^ m) (L + m / 32 + 1)) ∧ Below w.heap.size w w' := by
  obtain ⟨p, A, n, c, rfl⟩ := h.form
  obtain ⟨a, ha, ha0, rfl, ha1⟩ := h.parts
  have hW := below_two w (.cells #[.bool p, .slice A n c] 28) (.cells #[.bool false, .slice none 0 0] 28)
  have hB0 := (Below.refl (w.heap.size + 1) ((w.alloc (.cells #[.bool p, .slice A n c] 28)).alloc (.cells #[.bool false, .slice none 0 0] 28))).drew
  have hD0 := (Below.refl (w.heap.size + 2) ((w.alloc (.cells #[.bool p, .slice A n c] 28)).alloc (.cells #[.bool false, .slice none 0 0] 28))).drew
  have HA := Lib.hid ha
  have HE := Lib.hid (withSign_pow2 p a m)
  have h1 : w.heap.size + 1 ≤ w.heap.size + 1 := Nat.le_refl _
  clear h ha ha1
  go_enter Try.func96, Try.ntmps96
  go_wp2_with fail
  go_region_held3 (fun w' => w'.cell? ⟨w.heap.size, 0, none⟩ = some (.bool p) ∧ w'.cell? ⟨w.heap.size, 1, none⟩ = some (.slice A n c) ∧ Below (w.heap.size + 1) ((w.alloc (.cells #[.bool p, .slice A n c] 28)).alloc (.cells #[.bool false, .slice none 0 0] 28)) w')
    (first | (with_reducible exact shift_boxes hB2) | (with_reducible exact shift_boxes (Below.setCell (Below.setCell hB2 h1 _) h1 _)) | (with_reducible exact shift_boxes hB1) | (with_reducible exact shift_boxes hB0))
    (first
      | (go_at_call 70; have hK := hB1; clear hK; refine (signed_out p _ (a * 2 ^ m) (L + m / 32 + 1) _ HV1.out (by omega)).mono ?_; rintro e w2 ⟨ng2, A2, n2, c2, rfl, hv2, hb2⟩; have hB2 := Below.trans hB1 (hb2.mono (B' := w.heap.size + 1) (by have := hB1.size; simp at this; omega)); have hD2 := Below.trans hD1 (hb2.mono (B' := w.heap.size + 2) (by have := hD1.size; simp at this; omega)); have HV2 := Lib.hid hv2; obtain ⟨e1, e2, f1, f2⟩ := room1 hD2; clear hv2)
      | (go_at_call 126; refine (up_num _ a L m _ (HA.out.below (hW.trans (hB0.mono (by omega)))) hL hm).mono ?_; rintro e w1 ⟨r1, rfl, hv1, hb1⟩; have hB1 := Below.trans hB0 (hb1.mono (B' := w.heap.size + 1) (by simp)); have hD1 := Below.trans hD0 (hb1.mono (B' := w.heap.size + 2) (by simp)); have HV1 := Lib.hid hv1; clear hv1))
  go_wp2
  refine bodyPost_ret (v := .agg #[.bool ng2, .slice A2 n2 c2]) (by simp [results, Try.results96, go_sem, e1, e2]) rfl ⟨⟨_, _, _, _, rfl, ?_⟩, ?_⟩
  · rw [← HE.out]; exact HV2.out.stored e1 e2 _ _
  · exact ((hW.trans (hB2.mono (by omega))).setCell (by show _ ≤ _; simp) _).setCell (by show _ ≤ _; simp) _

set_option maxRecDepth 100000 in
set_option maxHeartbeats 2000000 in
theorem Shift_up (u : Value) (x : Int) (L m : Nat) (w : World) (h : Ival w u x L) (hL : L ≤ 1000) (hm0 : 1 ≤ m) (hm : m ≤ 1000) (hx : x ≠ 0) :
    Calls Try.prog 50 #[u, .int .i64 m] w fun e w' => (∃ ng A2 n2 c2, e = .returned (.tuple #[.agg #[.bool ng, .slice A2 n2 c2], .int .i64 0]) ∧ Ival w' (.agg #[.bool ng, .slice A2 n2 c2]) (x * 2 ^ m) (L + m / 32 + 1)) ∧ Below w.heap.size w w' := by
  obtain ⟨p, A, n, c, rfl⟩ := h.form
  have hW := below_two w (.cells #[.bool p, .slice A n c] 28) (.cells #[.bool false, .slice none 0 0] 28)
  have HH := Lib.hid h
  obtain ⟨s, hs⟩ : ∃ s, cmpI x 0 = s := ⟨_, rfl⟩
  have hs0 : (s != 0) = true := by
    rcases Int.lt_or_gt_of_ne hx with h' | h'
    · rw [← hs, cmpI_lt h']; decide
    · rw [← hs, cmpI_gt h']; decide
  have hm1 : (0 : Int) < (m : Int) := by omega
  clear h hx
  go_enter Try.func50, Try.ntmps50
  go_wp2_with fail
  refine (sign_int _ x L _ (HH.out.below hW)).mono ?_
  rintro e w1 ⟨rfl, hb1⟩
  have hB1 := hb1.mono (B' := w.heap.size + 2) (by simp)
  obtain ⟨c1, c2, _⟩ := shift_boxes (hB1.mono (Nat.le_succ _))
  rw [hs]
  go_wp2_with fail
  refine (Length_any _ x L _ (HH.out.below (hW.trans (hB1.mono (by omega)))) (by omega)).mono ?_
  rintro e w2 ⟨⟨k, rfl, hk, hkl⟩, hb2⟩
  have hB2 := hB1.trans (hb2.mono (B' := w.heap.size + 2) (by have := hB1.size; simp at this; omega))
  clear c1 c2 hk
  obtain ⟨c1, c2, _⟩ := shift_boxes (hB2.mono (Nat.le_succ _))
  have hnk : ¬ (65536 - (m : Int)) < (k : Int) := by omega
  go_wp2_with fail
  refine (shifted_up _ x L m _ (HH.out.below (hW.trans (hB2.mono (by omega)))) (by omega) (by omega)).mono ?_
  rintro e w3 ⟨⟨ng, A2, n2, d2, rfl, hv⟩, hb3⟩
  have hB3 := hB2.trans (hb3.mono (B' := w.heap.size + 2) (by have := hB2.size; simp at this; omega))
  obtain ⟨e1, e2, f1, f2⟩ := room1 hB3
  have HV := Lib.hid hv
  clear hv c1 c2
  go_wp2
  refine bodyPost_ret (v := .tuple #[.agg #[.bool ng, .slice A2 n2 d2], .int .i64 0]) (by simp [results, Try.results50, go_sem, e1, e2]) rfl ⟨⟨_, _, _, _, rfl, HV.out.stored e1 e2 _ _⟩, ?_⟩
  exact ((hW.trans (hB3.mono (by omega))).setCell (by show _ ≤ _; simp) _).setCell (by show _ ≤ _; simp) _

end Go.Proofs.Ytoanomgdkkbbmaa
