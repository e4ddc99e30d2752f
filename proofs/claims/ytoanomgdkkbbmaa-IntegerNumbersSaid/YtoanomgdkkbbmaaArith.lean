/- Add, Sub, Mul, Cmp, Sign, Neg, Abs. -/
import Derived.Test.YtoanomgdkkbbmaaInt
import Derived.Deep.RegionHeld3
namespace Go.Proofs.Ytoanomgdkkbbmaa
open Go.RowKit LM

set_option maxHeartbeats 1000000 in
theorem Mul_any (p q : Bool) (A B : Option Addr) (n c m d : Nat) (x y : Int) (L M : Nat) (w : World) (h : Ival w (.agg #[.bool p, .slice A n c]) x L) (g : Ival w (.agg #[.bool q, .slice B m d]) y M) (hL : L ≤ 1048576) (hM : M ≤ 1048576) :
    Calls Try.prog 42 #[.agg #[.bool p, .slice A n c], .agg #[.bool q, .slice B m d]] w fun e w' => ∃ v, e = .returned v ∧ Ival w' v (x * y) (L + M) ∧ Below w.heap.size w w' := by
  obtain ⟨a, ha, ha0, rfl, ha1⟩ := h.parts
  obtain ⟨b, hb, hb0, rfl, hb1⟩ := g.parts
  have HA := Lib.hid ha
  have HB := Lib.hid hb
  clear ha hb ha1 hb1 h g
  have hW := (below_boxed2 w (.cells #[.bool p, .slice A n c] 28) (.cells #[.bool q, .slice B m d] 28) (.cells #[.bool false, .slice none 0 0] 28)).drew
  go_enter Try.func42, Try.ntmps42
  go_wp2_with fail
  go_region_held3 (fun w' => w'.cell? ⟨w.heap.size, 0, none⟩ = some (.bool p) ∧ w'.cell? ⟨w.heap.size, 1, none⟩ = some (.slice A n c) ∧ w'.cell? ⟨w.heap.size + 1, 0, none⟩ = some (.bool q) ∧ w'.cell? ⟨w.heap.size + 1, 1, none⟩ = some (.slice B m d) ∧ Below (w.heap.size + 2) (((w.alloc (.cells #[.bool p, .slice A n c] 28)).alloc (.cells #[.bool q, .slice B m d] 28)).alloc (.cells #[.bool false, .slice none 0 0] 28)) w')
    (first | exact boxes2 (Below.drew (Below.refl _ _)) | exact boxes2 (by assumption) | exact boxes2 (Below.setCell (Below.setCell (by assumption) (by simp) _) (by simp) _))
    (first | (go_at_call 90; refine (multiply_num _ _ a b L M _ (HA.out.below hW) (HB.out.below hW) (by omega) (by omega)).mono ?_; rintro e w1 ⟨r1, rfl, hr1, hb1⟩; have hB1 := Below.trans (Below.drew (Below.refl _ _)) (hb1.mono (B' := w.heap.size + 3) (by simp)); have hC1 := hB1.mono (B' := w.heap.size + 2) (by omega)) | (go_at_call 70; refine (signed_out _ _ _ _ _ hr1 (by omega)).mono ?_; rintro e w2 ⟨ng, A2, n2, c2, rfl, hv2, hb2⟩; have hB2 := Below.trans hB1 (hb2.mono (B' := w.heap.size + 3) (by have := hB1.size; simp at this; omega)); have hC2 := hB2.mono (B' := w.heap.size + 2) (by omega); obtain ⟨e1, e2, f1, f2⟩ := room2 hB2))
  clear hC1 hC2
  go_wp2
  refine bodyPost_ret (v := .agg #[.bool ng, .slice A2 n2 c2]) (by simp [results, Try.results42, go_sem, e1, e2]) rfl ⟨_, rfl, ?_, ?_⟩
  · rw [← withSign_mul]; exact hv2.stored e1 e2 _ _
  · exact (((below_boxed2 _ _ _ _).trans (hB2.mono (by omega))).setCell (by show _ ≤ _; simp; omega) _).setCell (by show _ ≤ _; simp; omega) _

/-- The comparison of two numbers in memory. -/
theorem compare_num (u v : Value) (x y : Int) (L M : Nat) (w : World) (h : Num w u x L) (g : Num w v y M) (hL : L ≤ 1073741824) (hM : M ≤ 1073741824) :
    Calls Try.prog 84 #[u, v] w fun e w' => e = .returned (.int .i64 (cmpI x y)) ∧ ∃ q, w' = w.drewN q := by
  obtain ⟨A, n, c, xs, rfl, hr, hd, ht, rfl, hn⟩ := h
  obtain ⟨B, m, d, ys, rfl, gr, gd, gt, rfl, hm⟩ := g
  exact compare_any A B n m c d xs ys w hr gr (by omega) (by omega) hd gd ht gt

set_option maxHeartbeats 1000000 in
theorem sum_same (p q : Bool) (A B : Option Addr) (n c m d : Nat) (a b : Int) (L M : Nat) (w : World) (ha : Num w (.slice A n c) a L) (hb : Num w (.slice B m d) b M) (hL : L ≤ 1048576) (hM : M ≤ 1048576) :
    Calls Try.prog 86 #[.agg #[.bool p, .slice A n c], .agg #[.bool q, .slice B m d], .bool p] w fun e w' => ∃ ng A2 n2 c2, e = .returned (.agg #[.bool ng, .slice A2 n2 c2]) ∧ Ival w' (.agg #[.bool ng, .slice A2 n2 c2]) (withSign p a + withSign p b) (max L M + 1) ∧ Below w.heap.size w w' := by
  have HA := Lib.hid ha
  have HB := Lib.hid hb
  clear ha hb
  have hW := below_boxed2 w (.cells #[.bool p, .slice A n c] 28) (.cells #[.bool q, .slice B m d] 28) (.cells #[.bool false, .slice none 0 0] 28)
  go_enter Try.func86, Try.ntmps86
  go_wp2_with fail
  refine (add_num _ _ a b L M _ (HA.out.below hW) (HB.out.below hW) (by omega) (by omega)).mono ?_
  rintro e w1 ⟨r1, rfl, hr1, hb1⟩
  have hB1 := hb1.mono (B' := w.heap.size + 3) (by simp)
  go_wp2_with fail
  refine (signed_out _ _ _ _ _ hr1 (by omega)).mono ?_
  rintro e w2 ⟨ng, A2, n2, c2, rfl, hv2, hb2⟩
  have hB2 := Below.trans hB1 (hb2.mono (B' := w.heap.size + 3) (by have := hB1.size; simp at this; omega))
  obtain ⟨e1, e2, f1, f2⟩ := room2 hB2
  go_wp2
  refine bodyPost_ret (v := .agg #[.bool ng, .slice A2 n2 c2]) (by simp [results, Try.results86, go_sem, e1, e2]) rfl ⟨ng, A2, n2, c2, rfl, ?_, ?_⟩
  · rw [← withSign_add]; exact hv2.stored e1 e2 _ _
  · exact (((below_boxed2 _ _ _ _).trans (hB2.mono (by omega))).setCell (by show _ ≤ _; simp; omega) _).setCell (by show _ ≤ _; simp; omega) _

set_option maxHeartbeats 1000000 in
theorem sum_other (p q : Bool) (A B : Option Addr) (n c m d : Nat) (a b : Int) (L M : Nat) (w : World) (ha : Num w (.slice A n c) a L) (hb : Num w (.slice B m d) b M) (hL : L ≤ 1048576) (hM : M ≤ 1048576) :
    Calls Try.prog 86 #[.agg #[.bool p, .slice A n c], .agg #[.bool q, .slice B m d], .bool (!p)] w fun e w' => ∃ ng A2 n2 c2, e = .returned (.agg #[.bool ng, .slice A2 n2 c2]) ∧ Ival w' (.agg #[.bool ng, .slice A2 n2 c2]) (withSign p a + withSign (!p) b) (max L M + 1) ∧ Below w.heap.size w w' := by
  have HA := Lib.hid ha
  have HB := Lib.hid hb
  clear ha hb
  have hpp : (p == !p) = false := by cases p <;> rfl
  have hW := below_boxed2 w (.cells #[.bool p, .slice A n c] 28) (.cells #[.bool q, .slice B m d] 28) (.cells #[.bool false, .slice none 0 0] 28)
  by_cases hab : b ≤ a
  · have hcmp : 0 ≤ cmpI a b := by rcases Int.lt_or_eq_of_le hab with h | h; rw [cmpI_gt h]; decide; rw [cmpI_eq h.symm]; decide
    go_enter Try.func86, Try.ntmps86
    go_wp2_with fail
    refine (compare_num _ _ a b L M _ (HA.out.below hW) (HB.out.below hW) (by omega) (by omega)).mono ?_
    rintro e w1 ⟨rfl, k, rfl⟩
    have hWk := (below_drewN hW k).drew
    go_wp2_with fail
    go_region_held3 (fun w' => w'.cell? ⟨w.heap.size, 0, none⟩ = some (.bool p) ∧ w'.cell? ⟨w.heap.size, 1, none⟩ = some (.slice A n c) ∧ w'.cell? ⟨w.heap.size + 1, 0, none⟩ = some (.bool q) ∧ w'.cell? ⟨w.heap.size + 1, 1, none⟩ = some (.slice B m d) ∧ Below (w.heap.size + 2) (((w.alloc (.cells #[.bool p, .slice A n c] 28)).alloc (.cells #[.bool q, .slice B m d] 28)).alloc (.cells #[.bool false, .slice none 0 0] 28)) w')
      (first | exact boxes2 ((below_drewN (Below.refl _ _) _).drew) | exact boxes2 (by assumption) | exact boxes2 (Below.setCell (Below.setCell (by assumption) (by simp) _) (by simp) _))
      (first | (go_at_call 116; refine (subtract_num _ _ a b L M _ (HA.out.below hWk) (HB.out.below hWk) (by omega) hab).mono ?_; rintro e w1 ⟨r1, rfl, hr1, hb1⟩; have hB1 := Below.trans ((below_drewN (Below.refl _ _) k).drew) (hb1.mono (B' := w.heap.size + 3) (by simp)); have hC1 := hB1.mono (B' := w.heap.size + 2) (by omega)) | (go_at_call 70; refine (signed_out _ _ _ _ _ hr1 (by omega)).mono ?_; rintro e w2 ⟨ng, A2, n2, c2, rfl, hv2, hb2⟩; have hB2 := Below.trans hB1 (hb2.mono (B' := w.heap.size + 3) (by have := hB1.size; simp at this; omega)); have hC2 := hB2.mono (B' := w.heap.size + 2) (by omega); obtain ⟨e1, e2, f1, f2⟩ := room2 hB2))
    clear hC1 hC2
    go_wp2
    refine bodyPost_ret (v := .agg #[.bool ng, .slice A2 n2 c2]) (by simp [results, Try.results86, go_sem, e1, e2]) rfl ⟨ng, A2, n2, c2, rfl, ?_, ?_⟩
    · rw [← withSign_sub]; exact (hv2.stored e1 e2 _ _).mono (by omega)
    · exact (((below_boxed2 _ _ _ _).trans (hB2.mono (by omega))).setCell (by show _ ≤ _; simp; omega) _).setCell (by show _ ≤ _; simp; omega) _
  · have hab' : a < b := by omega
    have hcmp : ¬ 0 ≤ cmpI a b := by rw [cmpI_lt hab']; decide
    go_enter Try.func86, Try.ntmps86
    go_wp2_with fail
    refine (compare_num _ _ a b L M _ (HA.out.below hW) (HB.out.below hW) (by omega) (by omega)).mono ?_
    rintro e w1 ⟨rfl, k, rfl⟩
    have hWk := below_drewN hW k
    go_wp2_with fail
    refine (subtract_num _ _ b a M L _ (HB.out.below hWk) (HA.out.below hWk) (by omega) (by omega)).mono ?_
    rintro e w1 ⟨r1, rfl, hr1, hb1⟩
    have hB1 := Below.trans (below_drewN (Below.refl _ _) k) (hb1.mono (B' := w.heap.size + 3) (by simp))
    go_wp2_with fail
    refine (signed_out _ _ _ _ _ hr1 (by omega)).mono ?_
    rintro e w2 ⟨ng, A2, n2, c2, rfl, hv2, hb2⟩
    have hB2 := Below.trans hB1 (hb2.mono (B' := w.heap.size + 3) (by have := hB1.size; simp at this; omega))
    obtain ⟨e1, e2, f1, f2⟩ := room2 hB2
    go_wp2
    refine bodyPost_ret (v := .agg #[.bool ng, .slice A2 n2 c2]) (by simp [results, Try.results86, go_sem, e1, e2]) rfl ⟨ng, A2, n2, c2, rfl, ?_, ?_⟩
    · rw [← withSign_bus]; exact (hv2.stored e1 e2 _ _).mono (by omega)
    · exact (((below_boxed2 _ _ _ _).trans (hB2.mono (by omega))).setCell (by show _ ≤ _; simp; omega) _).setCell (by show _ ≤ _; simp; omega) _

/-- The sum, with another sign r in the place of that of the second number. -/
theorem sum_any (p q r : Bool) (A B : Option Addr) (n c m d : Nat) (a b : Int) (L M : Nat) (w : World) (ha : Num w (.slice A n c) a L) (hb : Num w (.slice B m d) b M) (hL : L ≤ 1048576) (hM : M ≤ 1048576) :
    Calls Try.prog 86 #[.agg #[.bool p, .slice A n c], .agg #[.bool q, .slice B m d], .bool r] w fun e w' => ∃ ng A2 n2 c2, e = .returned (.agg #[.bool ng, .slice A2 n2 c2]) ∧ Ival w' (.agg #[.bool ng, .slice A2 n2 c2]) (withSign p a + withSign r b) (max L M + 1) ∧ Below w.heap.size w w' := by
  by_cases h : r = p
  · subst h; exact sum_same r q A B n c m d a b L M w ha hb hL hM
  · obtain rfl : r = !p := by cases r <;> cases p <;> simp_all
    exact sum_other p q A B n c m d a b L M w ha hb hL hM

end Go.Proofs.Ytoanomgdkkbbmaa
