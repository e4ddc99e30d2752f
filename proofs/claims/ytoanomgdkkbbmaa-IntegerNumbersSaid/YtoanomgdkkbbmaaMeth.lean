/- The methods of integers. -/
import Derived.Test.YtoanomgdkkbbmaaArith
namespace Go.Proofs.Ytoanomgdkkbbmaa
open Go.RowKit LM

theorem add_int (u v : Value) (x y : Int) (L M : Nat) (w : World) (h : Ival w u x L) (g : Ival w v y M) (hL : L ≤ 1048576) (hM : M ≤ 1048576) :
    Calls Try.prog 38 #[u, v] w fun e w' => ∃ r, e = .returned r ∧ Ival w' r (x + y) (max L M + 1) ∧ Below w.heap.size w w' := by
  obtain ⟨p, A, n, c, rfl⟩ := h.form
  obtain ⟨q, B, m, d, rfl⟩ := g.form
  obtain ⟨a, ha, _, rfl, _⟩ := h.parts
  obtain ⟨b, hb, _, rfl, _⟩ := g.parts
  have HA := Lib.hid ha
  have HB := Lib.hid hb
  clear ha hb h g
  have hW := below_boxed2 w (.cells #[.bool p, .slice A n c] 28) (.cells #[.bool q, .slice B m d] 28) (.cells #[.bool false, .slice none 0 0] 28)
  go_enter Try.func38, Try.ntmps38
  go_wp2_with fail
  refine (sum_any p q q A B n c m d a b L M _ (HA.out.below hW) (HB.out.below hW) hL hM).mono ?_
  rintro e w2 ⟨ng, A2, n2, c2, rfl, hv2, hb2⟩
  have hB2 := hb2.mono (B' := w.heap.size + 3) (by simp)
  obtain ⟨e1, e2, f1, f2⟩ := room2 hB2
  go_wp2
  refine bodyPost_ret (v := .agg #[.bool ng, .slice A2 n2 c2]) (by simp [results, Try.results38, go_sem, e1, e2]) rfl ⟨_, rfl, hv2.stored e1 e2 _ _, ?_⟩
  exact (((below_boxed2 _ _ _ _).trans (hB2.mono (by omega))).setCell (by show _ ≤ _; simp; omega) _).setCell (by show _ ≤ _; simp; omega) _

theorem sub_int (u v : Value) (x y : Int) (L M : Nat) (w : World) (h : Ival w u x L) (g : Ival w v y M) (hL : L ≤ 1048576) (hM : M ≤ 1048576) :
    Calls Try.prog 40 #[u, v] w fun e w' => ∃ r, e = .returned r ∧ Ival w' r (x - y) (max L M + 1) ∧ Below w.heap.size w w' := by
  obtain ⟨p, A, n, c, rfl⟩ := h.form
  obtain ⟨q, B, m, d, rfl⟩ := g.form
  obtain ⟨a, ha, _, rfl, _⟩ := h.parts
  obtain ⟨b, hb, _, rfl, _⟩ := g.parts
  have HA := Lib.hid ha
  have HB := Lib.hid hb
  clear ha hb h g
  have hW := below_boxed2 w (.cells #[.bool p, .slice A n c] 28) (.cells #[.bool q, .slice B m d] 28) (.cells #[.bool false, .slice none 0 0] 28)
  go_enter Try.func40, Try.ntmps40
  go_wp2_with fail
  refine (sum_any p q (!q) A B n c m d a b L M _ (HA.out.below hW) (HB.out.below hW) hL hM).mono ?_
  rintro e w2 ⟨ng, A2, n2, c2, rfl, hv2, hb2⟩
  have hB2 := hb2.mono (B' := w.heap.size + 3) (by simp)
  obtain ⟨e1, e2, f1, f2⟩ := room2 hB2
  go_wp2
  refine bodyPost_ret (v := .agg #[.bool ng, .slice A2 n2 c2]) (by simp [results, Try.results40, go_sem, e1, e2]) rfl ⟨_, rfl, ?_, ?_⟩
  · have e0 : withSign p a - withSign q b = withSign p a + withSign (!q) b := by cases q <;> simp [withSign] <;> omega
    rw [e0]; exact hv2.stored e1 e2 _ _
  · exact (((below_boxed2 _ _ _ _).trans (hB2.mono (by omega))).setCell (by show _ ≤ _; simp; omega) _).setCell (by show _ ≤ _; simp; omega) _

theorem mul_int (u v : Value) (x y : Int) (L M : Nat) (w : World) (h : Ival w u x L) (g : Ival w v y M) (hL : L ≤ 1048576) (hM : M ≤ 1048576) :
    Calls Try.prog 42 #[u, v] w fun e w' => ∃ r, e = .returned r ∧ Ival w' r (x * y) (L + M) ∧ Below w.heap.size w w' := by
  obtain ⟨p, A, n, c, rfl⟩ := h.form
  obtain ⟨q, B, m, d, rfl⟩ := g.form
  exact Mul_any p q A B n c m d x y L M w h g hL hM

theorem sign_int (u : Value) (x : Int) (L : Nat) (w : World) (h : Ival w u x L) :
    Calls Try.prog 22 #[u] w fun e w' => e = .returned (.int .i64 (cmpI x 0)) ∧ Below w.heap.size w w' := by
  obtain ⟨p, A, n, c, rfl⟩ := h.form
  obtain ⟨a, ha, ha0, rfl, ha1⟩ := h.parts
  have hn : 0 < n ↔ a ≠ 0 := by
    obtain ⟨A', n', c', xs, e, hr, hd, ht, hv, _⟩ := ha
    simp only [Value.slice.injEq] at e
    obtain ⟨rfl, rfl, rfl⟩ := e
    have := trimmed_zero hd ht
    rw [hv] at this
    constructor
    · intro h0 h1
      have h2 := this.1 h1
      have := hr.1
      rw [h2] at this
      simp at this; omega
    · intro h0
      rcases Nat.eq_zero_or_pos n with h1 | h1
      · exact absurd (this.2 (List.eq_nil_of_length_eq_zero (by rw [hr.1, h1]))) h0
      · exact h1
  have HN := Lib.hid hn
  clear ha h hn
  cases p with
  | true =>
    have e0 : cmpI (withSign true a) 0 = -1 := cmpI_lt (by simp [withSign]; have := ha1 rfl; omega)
    have E := Lib.hid e0
    clear e0 ha1
    go_enter Try.func22, Try.ntmps22
    go_wp2
    go_ret
    exact ⟨by rw [E.out]; rfl, below_alloc _ _⟩
  | false =>
    clear ha1
    by_cases hz : n = 0
    · have hz0 : ¬ (0 : Int) < (n : Int) := by omega
      have hz1 : ¬ 0 < n := by omega
      have e0 : cmpI (withSign false a) 0 = 0 := cmpI_eq (by simp [withSign]; have := HN.out; omega)
      have E := Lib.hid e0
      clear e0
      go_enter Try.func22, Try.ntmps22
      go_wp2
      go_ret
      exact ⟨by rw [E.out]; rfl, below_alloc _ _⟩
    · have hz0 : (0 : Int) < (n : Int) := by omega
      have hz1 : 0 < n := by omega
      have e0 : cmpI (withSign false a) 0 = 1 := cmpI_gt (by simp [withSign]; have := HN.out; omega)
      have E := Lib.hid e0
      clear e0
      go_enter Try.func22, Try.ntmps22
      go_wp2
      go_ret
      exact ⟨by rw [E.out]; rfl, below_alloc _ _⟩

theorem below_two (w : World) (x y : Obj) : Below w.heap.size w ((w.alloc x).alloc y) := (below_alloc w x).alloc (by simp) y

theorem cmp_int (u v : Value) (x y : Int) (L M : Nat) (w : World) (h : Ival w u x L) (g : Ival w v y M) (hL : L ≤ 1073741824) (hM : M ≤ 1073741824) :
    Calls Try.prog 32 #[u, v] w fun e w' => e = .returned (.int .i64 (cmpI x y)) ∧ Below w.heap.size w w' := by
  obtain ⟨p, A, n, c, rfl⟩ := h.form
  obtain ⟨q, B, m, d, rfl⟩ := g.form
  obtain ⟨a, ha, ha0, rfl, ha1⟩ := h.parts
  obtain ⟨b, hb, hb0, rfl, hb1⟩ := g.parts
  have HA := Lib.hid ha
  have HB := Lib.hid hb
  clear ha hb h g
  have hW := below_two w (.cells #[.bool p, .slice A n c] 28) (.cells #[.bool q, .slice B m d] 28)
  have E0 : p = false → q = true → cmpI (withSign p a) (withSign q b) = 1 := by
    rintro rfl rfl; have := hb1 rfl; exact cmpI_gt (by simp [withSign]; omega)
  have E1 : p = true → q = false → cmpI (withSign p a) (withSign q b) = -1 := by
    rintro rfl rfl; have := ha1 rfl; exact cmpI_lt (by simp [withSign]; omega)
  have E2 : cmpI (withSign true a) (withSign true b) = cmpI b a := by
    simp only [withSign]
    rcases Int.lt_trichotomy a b with h | h | h
    · rw [cmpI_gt h, cmpI_gt (by simp; omega)]
    · subst h; rw [cmpI_eq rfl, cmpI_eq rfl]
    · rw [cmpI_lt h, cmpI_lt (by simp; omega)]
  have F0 := Lib.hid E0
  have F1 := Lib.hid E1
  have F2 := Lib.hid E2
  clear ha1 hb1 E0 E1 E2
  cases p <;> cases q
  · go_enter Try.func32, Try.ntmps32
    go_wp2_with fail
    refine (compare_num _ _ a b L M _ (HA.out.below hW) (HB.out.below hW) hL hM).mono ?_
    rintro e w1 ⟨rfl, k, rfl⟩
    go_wp2
    go_ret
    exact ⟨rfl, below_drewN hW k⟩
  · go_enter Try.func32, Try.ntmps32
    go_wp2
    go_ret
    exact ⟨by rw [F0.out (by simp) (by simp)]; rfl, hW⟩
  · go_enter Try.func32, Try.ntmps32
    go_wp2
    go_ret
    exact ⟨by rw [F1.out (by simp) (by simp)]; rfl, hW⟩
  · go_enter Try.func32, Try.ntmps32
    go_wp2_with fail
    refine (compare_num _ _ b a M L _ (HB.out.below hW) (HA.out.below hW) hM hL).mono ?_
    rintro e w1 ⟨rfl, k, rfl⟩
    go_wp2
    go_ret
    exact ⟨by rw [F2.out]; rfl, below_drewN hW k⟩

end Go.Proofs.Ytoanomgdkkbbmaa
