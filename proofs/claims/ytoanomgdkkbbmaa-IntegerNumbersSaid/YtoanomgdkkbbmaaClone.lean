/- Clone, Make. -/
import Derived.Test.YtoanomgdkkbbmaaMeth
namespace Go.Proofs.Ytoanomgdkkbbmaa
open Go.RowKit LM

theorem Row.of_ownsRow {K : IntKind} {w : World} {base : Nat} {e : TypeId} {v : Value} {n : Nat} {xs : List Int} (h : w.ownsRow base e 1 v n (xs.map (Value.int K))) : ∃ A c, v = .slice A n c ∧ Row K w A n c xs := by
  rcases h.2 with ⟨h', h0⟩ | ⟨g, cap, cur, h', _⟩
  · subst h0
    have hl : xs.length = 0 := by have := h.1; simpa using this
    exact ⟨none, 0, h', by rw [List.eq_nil_of_length_eq_zero hl]; exact Row.nil_⟩
  · subst h'
    exact ⟨_, _, rfl, Row.of_own h⟩

theorem clone_some (a : Addr) (n c : Nat) (xs : List Int) (w : World) (h : Row .u32 w (some a) n c xs) (hn : n ≤ 1073741824) :
    Calls Try.prog 85 #[.slice (some a) n c] w fun e w' => ∃ A' c', e = .returned (.slice A' n c') ∧ Row .u32 w' A' n c' xs ∧ Below w.heap.size w w' := by
  have hnil := fun w => Lib.run_eql_slice_nil (P := Try.prog) (w := w)
  obtain ⟨i0, hi, hz0, hz1, hz2⟩ := info_parts Try.info99
  obtain ⟨hl, hc, hcell⟩ := h
  have hnews : ∀ j u, (xs.map (Value.int .u32))[j]? = some u → (w.alloc (.cells #[] 99)).cell? (a.add j) = some u := by
    intro j u hu
    have hj : j < n := by have := (List.getElem?_eq_some_iff.1 hu).1; simpa [hl] using this
    obtain ⟨b', o', e, hb, hx⟩ := hcell (by omega)
    simp only [Option.some.injEq] at e
    subst e
    rw [Addr.add_lit, World.cell?_alloc_past _ _ _ hb, hx j hj, ← hu]
    simp [List.getD, hl, hj]
  have hll : (xs.map (Value.int .u32)).length = n * 1 := by simp [hl]
  have HL := Lib.hid hl
  have HN := Lib.hid hnews
  have HLL := Lib.hid hll
  clear hl hnews hcell hll
  go_enter Try.func85, Try.ntmps85
  go_wp2_with (at_builtin; refine wpList_append_own _ rfl (.tmp 5) (.tmp 6) _ rfl w.heap.size 99 i0 (.int .u32 0) 1 4 Try.underlying22 hi hz0 hz1 hz2 rfl (by decide) (.slice (some ⟨w.heap.size, 0, none⟩) 0 0) 0 [] rfl (World.ownsRow_made w #[] 0 (Nat.le_refl _) (Nat.zero_le _) rfl) a n c (xs.map (Value.int .u32)) rfl HLL.out HN.out (ints_oneCell _ _) (by unfold maxLen; omega) (by omega) (by simp) ?_; intro v' w1 hown1 hg1 _)
  go_ret
  rw [Nat.zero_add, List.nil_append] at hown1
  obtain ⟨A', c', rfl, hr⟩ := Row.of_ownsRow hown1
  refine ⟨A', c', rfl, hr, (below_alloc _ _).grown hg1 (by simp) (fun k hk => ?_)⟩
  have e : w.heap.size = k := by simpa [Value.ownBlock] using hk
  exact Nat.le_of_eq e

theorem clone_own (a : Addr) (n c : Nat) (xs : List Int) (w : World) (h : Row .u32 w (some a) n c xs) (hn : n ≤ 1073741824) :
    Calls Try.prog 85 #[.slice (some a) n c] w fun e w' => ∃ A' c', e = .returned (.slice A' n c') ∧ (Row .u32 w' A' n c' xs ∧ (n ≠ 0 → ∃ b o cs fr, A' = some ⟨b, o, none⟩ ∧ w'.heap[b]? = some (.cells cs 99 fr))) ∧ Below w.heap.size w w' := by
  have hnil := fun w => Lib.run_eql_slice_nil (P := Try.prog) (w := w)
  obtain ⟨i0, hi, hz0, hz1, hz2⟩ := info_parts Try.info99
  obtain ⟨hl, hc, hcell⟩ := h
  have hnews : ∀ j u, (xs.map (Value.int .u32))[j]? = some u → (w.alloc (.cells #[] 99)).cell? (a.add j) = some u := by
    intro j u hu
    have hj : j < n := by have := (List.getElem?_eq_some_iff.1 hu).1; simpa [hl] using this
    obtain ⟨b', o', e, hb, hx⟩ := hcell (by omega)
    simp only [Option.some.injEq] at e
    subst e
    rw [Addr.add_lit, World.cell?_alloc_past _ _ _ hb, hx j hj, ← hu]
    simp [List.getD, hl, hj]
  have hll : (xs.map (Value.int .u32)).length = n * 1 := by simp [hl]
  have HL := Lib.hid hl
  have HN := Lib.hid hnews
  have HLL := Lib.hid hll
  clear hl hnews hcell hll
  go_enter Try.func85, Try.ntmps85
  go_wp2_with (at_builtin; refine wpList_append_own _ rfl (.tmp 5) (.tmp 6) _ rfl w.heap.size 99 i0 (.int .u32 0) 1 4 Try.underlying22 hi hz0 hz1 hz2 rfl (by decide) (.slice (some ⟨w.heap.size, 0, none⟩) 0 0) 0 [] rfl (World.ownsRow_made w #[] 0 (Nat.le_refl _) (Nat.zero_le _) rfl) a n c (xs.map (Value.int .u32)) rfl HLL.out HN.out (ints_oneCell _ _) (by unfold maxLen; omega) (by omega) (by simp) ?_; intro v' w1 hown1 hg1 _)
  go_ret
  rw [Nat.zero_add, List.nil_append] at hown1
  obtain ⟨A', c', rfl, hr⟩ := Row.of_ownsRow hown1
  refine ⟨A', c', rfl, ⟨hr, fun hn => ?_⟩, (below_alloc _ _).grown hg1 (by simp) (fun k hk => ?_)⟩
  · rcases hown1.2 with ⟨_, h0⟩ | ⟨g, cap, cur, h', _, hh, _⟩
    · exact absurd h0 hn
    · simp only [Value.slice.injEq] at h'
      exact ⟨g, 0, cur, _, h'.1, hh⟩
  have e : w.heap.size = k := by simpa [Value.ownBlock] using hk
  exact Nat.le_of_eq e

theorem clone_none (n c : Nat) (xs : List Int) (w : World) (h : Row .u32 w none n c xs) :
    Calls Try.prog 85 #[.slice none n c] w fun e w' => ∃ A' c', e = .returned (.slice A' n c') ∧ Row .u32 w' A' n c' xs ∧ Below w.heap.size w w' := by
  obtain ⟨hl, hc, hcell⟩ := h
  have hnil := fun w => Lib.run_eql_slice_nil (P := Try.prog) (w := w)
  have hn : n = 0 := by
    rcases Nat.eq_zero_or_pos n with h | h
    · exact h
    · obtain ⟨b, o, e, _⟩ := hcell (by omega); cases e
  subst hn
  have hx := List.eq_nil_of_length_eq_zero hl
  subst hx
  clear hl hcell
  go_enter Try.func85, Try.ntmps85
  go_wp2
  go_ret
  exact ⟨none, 0, rfl, Row.nil_, Below.refl _ _⟩

theorem clone_row (A : Option Addr) (n c : Nat) (xs : List Int) (w : World) (h : Row .u32 w A n c xs) (hn : n ≤ 1073741824) :
    Calls Try.prog 85 #[.slice A n c] w fun e w' => ∃ A' c', e = .returned (.slice A' n c') ∧ Row .u32 w' A' n c' xs ∧ Below w.heap.size w w' := by
  cases A with
  | none => exact clone_none n c xs w h
  | some a => exact clone_some a n c xs w h hn

/-- 'Make': the sign, and the digits of a slice that came in. -/
theorem make_row (p : Bool) (A : Option Addr) (n c : Nat) (xs : List Int) (w : World) (h : Row .u32 w A n c xs) (hn : n ≤ 1073741824) (hd : Dig xs) :
    Calls Try.prog 68 #[.bool p, .slice A n c] w fun e w' => ∃ r, e = .returned r ∧ Ival w' r (withSign p (val xs)) n ∧ Below w.heap.size w w' := by
  have hW := below_alloc w (.cells #[.bool false, .slice none 0 0] 28)
  go_enter Try.func68, Try.ntmps68
  go_wp2_with fail
  refine (clone_row A n c xs _ (h.below hW) hn).mono ?_
  rintro e w1 ⟨A', c', rfl, hr, hb1⟩
  go_wp2_with fail
  refine (signed_row p A' n c' xs w1 hr hn hd).mono ?_
  rintro e w2 ⟨v, rfl, hv, hb2⟩
  obtain ⟨ng, A2, n2, c2, rfl⟩ := hv.form
  have hB := (hb1.mono (B' := w.heap.size + 1) (by simp)).trans (hb2.mono (B' := w.heap.size + 1) (by have := hb1.size; simpa using this))
  obtain ⟨e1, e2, f1, f2⟩ := room0 hB
  go_wp2
  refine bodyPost_ret (v := .agg #[.bool ng, .slice A2 n2 c2]) (by simp [results, Try.results68, go_sem, e1, e2]) rfl ⟨_, rfl, hv.stored e1 e2 _ _, ?_⟩
  exact ((hW.trans (hB.mono (by omega))).setCell (Nat.le_refl _) _).setCell (Nat.le_refl _) _

/-- One integer in a box, room for a result behind it. -/
theorem boxes1 {w w' : World} {u : Value} {p : Bool} (h : Below (w.heap.size + 1) ((w.alloc (.cells #[.bool p, u] 28)).alloc (.cells #[.bool false, .slice none 0 0] 28)) w') :
    w'.cell? ⟨w.heap.size, 0, none⟩ = some (.bool p) ∧ w'.cell? ⟨w.heap.size, 1, none⟩ = some u ∧ Below (w.heap.size + 1) ((w.alloc (.cells #[.bool p, u] 28)).alloc (.cells #[.bool false, .slice none 0 0] 28)) w' := by
  refine ⟨?_, ?_, h⟩
  · rw [h.cell (by simp), World.cell?_alloc_past _ _ _ (by simp), World.cell?_alloc_at _ _ _ _ rfl]; rfl
  · rw [h.cell (by simp), World.cell?_alloc_past _ _ _ (by simp), World.cell?_alloc_at _ _ _ _ rfl]; rfl

theorem clone_num (s : Value) (a : Int) (L : Nat) (w : World) (h : Num w s a L) (hL : L ≤ 1073741824) :
    Calls Try.prog 85 #[s] w fun e w' => ∃ r, e = .returned r ∧ Num w' r a L ∧ Below w.heap.size w w' := by
  obtain ⟨A, n, c, xs, rfl, hr, hd, ht, hv, hn⟩ := h
  refine (clone_row A n c xs w hr (by omega)).mono ?_
  rintro e w' ⟨A', c', rfl, hr', hb⟩
  exact ⟨_, rfl, ⟨_, _, _, _, rfl, hr', hd, ht, hv, hn⟩, hb⟩

theorem neg_int (u : Value) (x : Int) (L : Nat) (w : World) (h : Ival w u x L) (hL : L ≤ 1073741824) :
    Calls Try.prog 34 #[u] w fun e w' => ∃ r, e = .returned r ∧ Ival w' r (-x) L ∧ Below w.heap.size w w' := by
  obtain ⟨p, A, n, c, rfl⟩ := h.form
  obtain ⟨a, ha, ha0, rfl, _⟩ := h.parts
  have HA := Lib.hid ha
  clear ha h
  have hW := (below_two w (.cells #[.bool p, .slice A n c] 28) (.cells #[.bool false, .slice none 0 0] 28)).drew
  go_enter Try.func34, Try.ntmps34
  go_wp2_with fail
  go_region_held3 (fun w' => w'.cell? ⟨w.heap.size, 0, none⟩ = some (.bool p) ∧ w'.cell? ⟨w.heap.size, 1, none⟩ = some (.slice A n c) ∧ Below (w.heap.size + 1) ((w.alloc (.cells #[.bool p, .slice A n c] 28)).alloc (.cells #[.bool false, .slice none 0 0] 28)) w')
    (first | exact boxes1 (Below.drew (Below.refl _ _)) | exact boxes1 (by assumption) | exact boxes1 (Below.setCell (Below.setCell (by assumption) (by simp) _) (by simp) _))
    (first | (go_at_call 85; refine (clone_num _ a L _ (HA.out.below hW) hL).mono ?_; rintro e w1 ⟨r1, rfl, hr1, hb1⟩; have hB1 := Below.trans (Below.drew (Below.refl _ _)) (hb1.mono (B' := w.heap.size + 2) (by simp)); have hC1 := hB1.mono (B' := w.heap.size + 1) (by omega)) | (go_at_call 70; refine (signed_out _ _ _ _ _ hr1 hL).mono ?_; rintro e w2 ⟨ng, A2, n2, c2, rfl, hv2, hb2⟩; have hB2 := Below.trans hB1 (hb2.mono (B' := w.heap.size + 2) (by have := hB1.size; simp at this; omega)); have hC2 := hB2.mono (B' := w.heap.size + 1) (by omega); obtain ⟨e1, e2, f1, f2⟩ := room1 hB2))
  clear hC1 hC2
  go_wp2
  refine bodyPost_ret (v := .agg #[.bool ng, .slice A2 n2 c2]) (by simp [results, Try.results34, go_sem, e1, e2]) rfl ⟨_, rfl, ?_, ?_⟩
  · have e0 : -withSign p a = withSign (!p) a := by cases p <;> simp [withSign]
    rw [e0]; exact hv2.stored e1 e2 _ _
  · exact (((below_two _ _ _).trans (hB2.mono (by omega))).setCell (by show _ ≤ _; simp) _).setCell (by show _ ≤ _; simp) _

theorem same_yes (u v : Value) (x y : Int) (L M : Nat) (w : World) (h : Ival w u x L) (g : Ival w v y M) (hL : L ≤ 1073741824) (hM : M ≤ 1073741824) (hxy : x = y) :
    Calls Try.prog 65 #[u, v] w fun e w' => e = .returned (.bool true) ∧ Below w.heap.size w w' := by
  obtain ⟨p, A, n, c, rfl⟩ := h.form
  obtain ⟨q, B, m, d, rfl⟩ := g.form
  have hW := below_two w (.cells #[.bool p, .slice A n c] 28) (.cells #[.bool q, .slice B m d] 28)
  have HH := Lib.hid h
  have HG := Lib.hid g
  have HE := Lib.hid (cmpI_eq hxy)
  clear h g hxy
  go_enter Try.func65, Try.ntmps65
  go_wp2_with fail
  refine (cmp_int _ _ x y L M _ (HH.out.below hW) (HG.out.below hW) hL hM).mono ?_
  rintro e w1 ⟨rfl, hb1⟩
  rw [HE.out]
  go_wp2
  go_ret
  exact ⟨rfl, hW.trans (hb1.mono (by simp; omega))⟩

end Go.Proofs.Ytoanomgdkkbbmaa
