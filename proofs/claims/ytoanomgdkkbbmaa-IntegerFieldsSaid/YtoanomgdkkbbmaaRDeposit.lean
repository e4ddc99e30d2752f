/- The reference's Deposit. -/
import Derived.Test.YtoanomgdkkbbmaaRField
namespace Go.Proofs.Ytoanomgdkkbbmaa
open Go.RowKit LM

theorem dep_bit_in (x y : Int) (k a j : Nat) (h : j < k) : bitOf (depOf x y k a) ((a + j : Nat) : Int) = bitOf y (j : Int) := by
  rw [bitOf_two, bitOf_two, decide_eq_decide]
  have e : depOf x y k a / 2 ^ (a + j) = depOf x y k a / 2 ^ a / 2 ^ j := by
    rw [Int.ediv_ediv_of_nonneg (Int.le_of_lt (two_pos a)), ← Int.pow_add]
  have e2 : (2 : Int) ^ k = 2 ^ j * (2 * 2 ^ (k - j - 1)) := by
    rw [← Int.mul_assoc, Int.mul_comm (2 ^ j) 2, Int.mul_assoc, ← Int.pow_add, Int.mul_comm, ← Int.pow_succ]; congr 1; omega
  have hp := two_pos j
  have e3 : depOf x y k a / 2 ^ (a + j) % 2 = y % 2 ^ k / 2 ^ j % 2 := by
    rw [e, dep_div2]
    generalize x / 2 ^ a / 2 ^ k = t
    generalize y % 2 ^ k = u
    rw [e2, Int.mul_assoc, Int.add_mul_ediv_left _ _ (by omega), Int.mul_assoc, Int.add_mul_emod_self_left]
  rw [e3, low_bit y h]

/-- The bits of x, i of them replaced from a on. -/
def DepBits (x y : Int) (a i : Nat) (ls : List Bool) : Prop :=
  ∀ j, j < ls.length → ls.getD j false = if a ≤ j ∧ j < a + i then bitOf y ((j - a : Nat) : Int) else bitOf x (j : Int)

theorem DepBits.step {x y : Int} {a i : Nat} {ls : List Bool} (h : DepBits x y a i ls) (hi : a + i < ls.length) : DepBits x y a (i + 1) (ls.set (a + i) (bitOf y (i : Int))) := by
  intro j hj
  have hj' : j < ls.length := by simpa using hj
  by_cases e : a + i = j
  · subst e
    have e1 : (ls.set (a + i) (bitOf y (i : Int))).getD (a + i) false = bitOf y (i : Int) := by simp [List.getD, hi]
    rw [e1, if_pos (by omega), Nat.add_sub_cancel_left]
  · have e1 : (ls.set (a + i) (bitOf y (i : Int))).getD j false = ls.getD j false := by simp [List.getD, List.getElem?_set, e]
    rw [e1, h j hj']
    by_cases hc : a ≤ j ∧ j < a + i
    · rw [if_pos hc, if_pos (by omega)]
    · rw [if_neg hc, if_neg (by omega)]

theorem DepBits.value {x y : Int} {a k N : Nat} {ls : List Bool} (h : DepBits x y a k ls) (hl : ls.length = N) (hx : patOf x < 2 ^ N) (hN : a + k ≤ N) :
    (if decide (x < 0) then -1 - pB ls (decide (x < 0)) else pB ls (decide (x < 0))) = depOf x y k a := by
  refine bitOf_ext fun i => ?_
  have hlt := pB_lt ls (decide (x < 0))
  have e := of_bits ls (decide (x < 0)) (pB_nonneg _ _) hlt (fun j hj => pB_bit ls _ j hj) i
  rw [e, hl]
  by_cases hi : i < N
  · rw [if_pos hi, h i (by omega)]
    by_cases hc : a ≤ i ∧ i < a + k
    · rw [if_pos hc]
      have := dep_bit_in x y k a (i - a) (by omega)
      rw [show a + (i - a) = i from by omega] at this
      exact this.symm
    · rw [if_neg hc]
      by_cases h1 : i < a
      · exact (dep_bit_low x y k a i h1).symm
      · exact (dep_bit_high x y k a i (by omega)).symm
  · rw [if_neg hi, dep_bit_high x y k a i (by omega), bitOf_high hx (by omega)]

theorem BRow.far {w : World} {g o n c : Nat} {bs : List Bool} (h : BRow w (some ⟨g, o, none⟩) n c bs) {p : Addr} (hp : p.block ≠ g) (v : Value) : BRow (w.setCell p v) (some ⟨g, o, none⟩) n c bs := by
  refine ⟨h.1, h.2.1, fun hn => ?_⟩
  obtain ⟨b, o', e, hlt, hc⟩ := h.2.2 hn
  simp only [Option.some.injEq, Addr.mk.injEq] at e
  obtain ⟨rfl, rfl, -⟩ := e
  refine ⟨g, o, rfl, by simpa [World.setCell] using hlt, fun i hi => ?_⟩
  rw [World.cell?_setCell_far _ _ _ _ (by simpa using hp)]; exact hc i hi

theorem owns_cell {w : World} {base g N c : Nat} {bs : List Bool} (h : w.ownsRow base 4 1 (.slice (some ⟨g, 0, none⟩) N c) N (bs.map Value.bool)) {j : Nat} (hj : j < N) :
    w.cell? ⟨g, j, none⟩ = some (.bool (bs.getD j false)) ∧ w.frozen? ⟨g, j, none⟩ = false := by
  have hl : bs.length = N := by have := h.1; simpa using this
  refine ⟨?_, h.frozenAt j⟩
  rw [h.cellAt j (by omega)]; simp [List.getD, hl, hj]

theorem owns_set {w : World} {base g N c : Nat} {bs : List Bool} (h : w.ownsRow base 4 1 (.slice (some ⟨g, 0, none⟩) N c) N (bs.map Value.bool)) (j : Nat) (u : Bool) :
    (w.setCell ⟨g, j, none⟩ (.bool u)).ownsRow base 4 1 (.slice (some ⟨g, 0, none⟩) N c) N ((bs.set j u).map Value.bool) := by
  have := (World.ownsRow.stored h j (.bool u)).1
  rw [← List.map_set] at this
  exact this

theorem owns_some {w : World} {base N c : Nat} {A : Option Addr} {xs : List Value} (h : w.ownsRow base 4 1 (.slice A N c) N xs) (hN : N ≠ 0) : ∃ g, A = some ⟨g, 0, none⟩ ∧ base ≤ g ∧ g < w.heap.size ∧ N ≤ c := by
  rcases h.2 with ⟨_, h0⟩ | ⟨g, cap, cur, h', hb, hg, hnc, _⟩
  · exact absurd h0 hN
  · simp only [Value.slice.injEq] at h'
    obtain ⟨rfl, -, rfl⟩ := h'
    exact ⟨g, rfl, hb, (Array.getElem?_eq_some_iff.1 hg).1, hnc⟩

set_option maxRecDepth 100000 in
set_option maxHeartbeats 8000000 in
theorem rDeposit_val (u v : Value) (x y : Int) (L M k a : Nat) (w : World) (h : Rval w u x L) (g : Rval w v y M) (hL : L ≤ 10000) (hM : M ≤ 10000) (hk : k ≤ 65536) (ha : a ≤ 65536) :
    Calls Try.prog 59 #[u, v, .int .i64 k, .int .i64 a] w fun e w' => (∃ ng A2 n2 c2, e = .returned (.tuple #[.agg #[.bool ng, .slice A2 n2 c2], .int .i64 0]) ∧ Rval w' (.agg #[.bool ng, .slice A2 n2 c2]) (depOf x y k a) 30000) ∧ Below w.heap.size w w' := by
  obtain ⟨p, A, n, c, rfl⟩ := h.form
  obtain ⟨q, B, m, d, rfl⟩ := g.form
  have hW : Below w.heap.size w (((w.alloc (.cells #[.bool p, .slice A n c] 31)).alloc (.cells #[.bool q, .slice B m d] 31)).alloc (.cells #[.bool false, .slice none 0 0] 31)) := (below_two w _ _).alloc (by simp; omega) _
  have hs3 : w.heap.size + 3 ≤ (((w.alloc (.cells #[.bool p, .slice A n c] 31)).alloc (.cells #[.bool q, .slice B m d] 31)).alloc (.cells #[.bool false, .slice none 0 0] 31)).heap.size := by simp <;> omega
  have hs3' : (((w.alloc (.cells #[.bool p, .slice A n c] 31)).alloc (.cells #[.bool q, .slice B m d] 31)).alloc (.cells #[.bool false, .slice none 0 0] 31)).heap.size ≤ w.heap.size + 3 := by simp <;> omega
  have HX := Lib.hid (h.below hW)
  have HY := Lib.hid (g.below hW)
  have HNEG := Lib.hid (rval_neg h)
  have HT := Lib.hid (fun (w' : World) (hb : Below (w.heap.size + 3) (((w.alloc (.cells #[.bool p, .slice A n c] 31)).alloc (.cells #[.bool q, .slice B m d] 31)).alloc (.cells #[.bool false, .slice none 0 0] 31)) w') => add_hold hb)
  have HRM := Lib.hid (fun (w' : World) (hb : Below (w.heap.size + 3) (((w.alloc (.cells #[.bool p, .slice A n c] 31)).alloc (.cells #[.bool q, .slice B m d] 31)).alloc (.cells #[.bool false, .slice none 0 0] 31)) w') => add_room hb)
  have hB00 := Below.refl (w.heap.size + 3) (((w.alloc (.cells #[.bool p, .slice A n c] 31)).alloc (.cells #[.bool q, .slice B m d] 31)).alloc (.cells #[.bool false, .slice none 0 0] 31))
  have yk := Lib.hid (show (decide (0 ≤ (k : Int)) && decide ((k : Int) ≤ 65536)) = true by simp; omega)
  have ya := Lib.hid (show (decide (0 ≤ (a : Int)) && decide ((a : Int) ≤ 65536)) = true by simp; omega)
  have hsum : IntKind.i64.wrap ((a : Int) + (k : Int)) = (a : Int) + (k : Int) := by rw [IntKind.wrap_i64]; omega
  clear h g
  go_enter Try.func59, Try.ntmps59
  go_wp2_with fail
  refine (within_any _ _).mono ?_
  rintro e w1 ⟨rfl, rfl⟩
  rw [yk.out]
  go_wp2_with fail
  refine (within_any _ _).mono ?_
  rintro e w1 ⟨rfl, rfl⟩
  rw [ya.out]
  go_wp2_with fail
  have hB0 := hB00.drew
  generalize (((w.alloc (.cells #[.bool p, .slice A n c] 31)).alloc (.cells #[.bool q, .slice B m d] 31)).alloc (.cells #[.bool false, .slice none 0 0] 31)) = wl at *
  refine wp_region_held_drew (S := fun w' => w'.cell? ⟨w.heap.size, 0, none⟩ = some (.bool p) ∧ w'.cell? ⟨w.heap.size, 1, none⟩ = some (.slice A n c) ∧ w'.cell? ⟨w.heap.size + 1, 0, none⟩ = some (.bool q) ∧ w'.cell? ⟨w.heap.size + 1, 1, none⟩ = some (.slice B m d) ∧ Below (w.heap.size + 3) wl w') (by kernel_rfl) (HT.out _ hB0) (fun hHeld0 => ?_)
  refine wpAnyH_taken (i := 0) (d := some 22) (v := ?_) rfl rfl (by kernel_rfl) (by kernel_rfl) (by kernel_rfl) (fun _ _ _ h => h) (Or.inl ⟨by rfl, ?_⟩) (by assumption) ?_
  rotate_left 1
  · (intro w hSw; (try dsimp only at hSw); go_simp; try with_reducible rfl)
  try simp only [Act.put, List.setIfInBounds_toArray, List.set_cons_zero, List.set_cons_succ]
  refine wpAnyH_taken (i := 1) (d := some 23) (v := ?_) rfl rfl (by kernel_rfl) (by kernel_rfl) (by kernel_rfl) (fun _ _ _ h => h) (Or.inl ⟨by rfl, ?_⟩) (by assumption) ?_
  rotate_left 1
  · (intro w hSw; (try dsimp only at hSw); go_simp; try with_reducible rfl)
  try simp only [Act.put, List.setIfInBounds_toArray, List.set_cons_zero, List.set_cons_succ]
  refine wpAnyH_taken (i := 3) (d := some 25) (v := ?_) rfl rfl (by kernel_rfl) (by kernel_rfl) (by kernel_rfl) (fun _ _ _ h => h) (Or.inl ⟨by rfl, ?_⟩) (by assumption) ?_
  rotate_left 1
  · (intro w hSw; (try dsimp only at hSw); go_simp; try with_reducible rfl)
  try simp only [Act.put, List.setIfInBounds_toArray, List.set_cons_zero, List.set_cons_succ]
  refine wpAnyH_taken (i := 4) (d := some 26) (v := ?_) rfl rfl (by kernel_rfl) (by kernel_rfl) (by kernel_rfl) (fun _ _ _ h => h) (Or.inl ⟨by rfl, ?_⟩) (by assumption) ?_
  rotate_left 1
  · (intro w hSw; (try dsimp only at hSw); go_simp; try with_reducible rfl)
  try simp only [Act.put, List.setIfInBounds_toArray, List.set_cons_zero, List.set_cons_succ]
  refine wpAnyH_taken (i := 5) (d := some 27) (v := ?_) rfl rfl (by kernel_rfl) (by kernel_rfl) (by kernel_rfl) (fun _ _ _ h => h) (Or.inl ⟨by rfl, ?_⟩) (by assumption) ?_
  rotate_left 1
  · (intro w hSw; (try dsimp only at hSw); go_simp; try with_reducible rfl)
  try simp only [Act.put, List.setIfInBounds_toArray, List.set_cons_zero, List.set_cons_succ]
  refine wpAnyH_ready (rs := [2]) (by kernel_rfl) (by simp) ?_
  refine AllReadyH.cons rfl (fun K hK => ?_) AllReadyH.nil
  try simp only [List.getElem_toArray, List.getElem_cons_zero, List.getElem_cons_succ]
  go_simp
  (go_at_call 27; refine (rLength_any _ x L _ (HX.out.below (hB0.mono hs3')) (by omega)).mono ?_; rintro e w2 ⟨⟨kx, rfl, hkx, hlx⟩, hb2⟩)
  have hB2 := hB0.trans (hb2.mono (B' := w.heap.size + 3) (Nat.le_trans hs3 hB0.size))
  have HKX := Lib.hid hkx
  clear hkx
  refine hK.out _ _ (HT.out _ hB2) (fun hHeld1 => ?_)
  clear hK K hHeld0 
  try simp only [Act.put, List.setIfInBounds_toArray, List.set_cons_zero, List.set_cons_succ]
  refine wpAnyH_ready (rs := [6]) (by kernel_rfl) (by simp) ?_
  refine AllReadyH.cons rfl (fun K hK => ?_) AllReadyH.nil
  try simp only [List.getElem_toArray, List.getElem_cons_zero, List.getElem_cons_succ]
  go_simp
  rw [show (max (kx : Int) ((a : Int) + (k : Int))) = ((max kx (a + k) : Nat) : Int) from by omega]
  have hN1 := HKX.out.lt_of_le (Nat.le_max_left kx (a + k))
  have hN2 : a + k ≤ max kx (a + k) := Nat.le_max_right _ _
  have hN3 : max kx (a + k) ≤ 200000 := by omega
  generalize max kx (a + k) = N at *
  have HN1 := Lib.hid hN1
  refine hK.out _ _ (HT.out _ hB2) (fun hHeld2 => ?_)
  clear hK K hHeld1 hN1 hsum
  try simp only [Act.put, List.setIfInBounds_toArray, List.set_cons_zero, List.set_cons_succ]
  refine wpAnyH_ready (rs := [7]) (by kernel_rfl) (by simp) ?_
  refine AllReadyH.cons rfl (fun K hK => ?_) AllReadyH.nil
  try simp only [List.getElem_toArray, List.getElem_cons_zero, List.getElem_cons_succ]
  go_simp
  (go_at_call 81; refine (rBits_own _ x L N _ rfl _ (HX.out.below (hB2.mono hs3')) (by omega) (by omega)).mono ?_; rintro e w3 ⟨⟨A3, c3, base3, rfl, hge3, hown3⟩, hb3⟩)
  have hB3 := hB2.trans (hb3.mono (B' := w.heap.size + 3) (Nat.le_trans hs3 hB2.size))
  have HO3 := Lib.hid hown3
  clear hown3
  refine hK.out _ _ (HT.out _ hB3) (fun hHeld3 => ?_)
  clear hK K hHeld2 
  try simp only [Act.put, List.setIfInBounds_toArray, List.set_cons_zero, List.set_cons_succ]
  refine wpAnyH_taken (i := 8) (d := some 10) (v := ?_) rfl rfl (by kernel_rfl) (by kernel_rfl) (by kernel_rfl) (fun _ _ _ h => h) (Or.inl ⟨by rfl, ?_⟩) (by assumption) ?_
  rotate_left 1
  · (intro w hSw; (try dsimp only at hSw); go_simp; try with_reducible rfl)
  try simp only [Act.put, List.setIfInBounds_toArray, List.set_cons_zero, List.set_cons_succ]
  refine wpAnyH_done (by kernel_rfl) ?_ _
  obtain ⟨z0, z1, z2, z3, _⟩ := HT.out _ hB3
  go_wp2_with fail
  refine (rBits_own _ y M k _ rfl _ (HY.out.below (hB3.mono hs3')) (by omega) (by omega)).mono ?_
  rintro e w4 ⟨⟨A4, c4, base4, rfl, hge4, hown4⟩, hb4⟩
  have hB4 := hB3.trans (hb4.mono (B' := w.heap.size + 3) (Nat.le_trans hs3 hB3.size))
  have hz2 : w.heap.size + 3 ≤ w2.heap.size := Nat.le_trans hs3 hB2.size
  have HO3b := Lib.hid (owns_below HO3.out hb4)
  have HO4 := Lib.hid hown4
  clear hown4 z0 z1 z2 z3
  go_wp2_with fail
  go_loopw [12] (fun iv wr => ∃ (i : Nat) (ls : List Bool), iv = .int .i64 i ∧ i ≤ k ∧ ls.length = N ∧ Hid (DepBits x y a i ls) ∧ Hid (wr.ownsRow base3 4 1 (.slice A3 N c3) N (ls.map Value.bool)) ∧ Hid (wr.ownsRow base4 4 1 (.slice A4 k c4) k ((bitsOf y k).map Value.bool)) ∧ Hid (Below (w.heap.size + 3) wl wr)) (fun iv _ => k - (intOf iv).toNat)
  case atStart =>
    refine ⟨0, bitsOf x N, rfl, Nat.zero_le _, by simp [bitsOf], Lib.hid (fun j hj => ?_), HO3b, HO4, Lib.hid hB4⟩
    rw [if_neg (by omega), bitsOf_getD x N j (by simpa [bitsOf] using hj)]
  case round =>
    obtain ⟨i, ls, rfl, hi, hll, HD, H3, H4, HBR⟩ := hrel
    by_cases hlt : i < k
    · obtain ⟨g3, rfl, hg3, hg3l, hc3⟩ := owns_some H3.out (by omega)
      obtain ⟨g4, rfl, hg4, hg4l, hc4⟩ := owns_some H4.out (by omega)
      obtain ⟨hcp, _⟩ := owns_cell H4.out hlt
      rw [bitsOf_getD y k i hlt] at hcp
      obtain ⟨hcl, hfr⟩ := owns_cell H3.out (show a + i < N by omega)
      obtain ⟨old, hold⟩ : ∃ old, ls.getD (a + i) false = old := ⟨_, rfl⟩
      rw [hold] at hcl
      obtain ⟨yb, hyb⟩ : ∃ yb, bitOf y (i : Int) = yb := ⟨_, rfl⟩
      rw [hyb] at hcp
      have hst := HD.out.step (show a + i < ls.length by omega)
      rw [hyb] at hst
      have HST := Lib.hid hst
      have H3n := Lib.hid (owns_set H3.out (a + i) yb)
      have hne : g3 ≠ g4 := by
        have h1 := (owns_some HO3b.out (by omega))
        have h2 := (owns_some HO3.out (by omega))
        obtain ⟨g3', e3', _, hl3', _⟩ := h2
        simp only [Option.some.injEq, Addr.mk.injEq] at e3'
        have := e3'.1
        omega
      have H4n : Hid ((wr.setCell ⟨g3, a + i, none⟩ (.bool yb)).ownsRow base4 4 1 (.slice (some ⟨g4, 0, none⟩) k c4) k ((bitsOf y k).map Value.bool)) := Lib.hid (ownsRow_setCell_other H4.out (by simp [Value.ownBlock]; omega) _)
      have HBn := Lib.hid (HBR.out.setCell (p := ⟨g3, a + i, none⟩) (show w.heap.size + 3 ≤ g3 by omega) (.bool yb))
      have s1 : IntKind.i64.wrap ((a : Int) + (i : Int)) = (a : Int) + (i : Int) := by rw [IntKind.wrap_i64]; omega
      have s2 : ((a : Int) + (i : Int)).toNat = a + i := by omega
      have s3 : (a : Int) + (i : Int) < (N : Int) := by omega
      have s4 : 0 ≤ (a : Int) + (i : Int) := by omega
      have s5 : (i : Int) < (k : Int) := by omega
      clear hst hold hyb
      go_wp2_with fail
      exact ⟨⟨i + 1, _, by go_num, hlt, by simpa using hll, HST, H3n, H4n, HBn⟩, by simp [intOf]; omega⟩
    · obtain rfl : i = k := by omega
      obtain ⟨A5, c5, e5, hrow⟩ := BRow.of_own H3.out
      simp only [Value.slice.injEq] at e5
      obtain ⟨rfl, -, rfl⟩ := e5
      have HROW := Lib.hid hrow
      have hBR := HBR.out
      obtain ⟨z0, z1, z2, z3, _⟩ := HT.out _ hBR
      have HVAL := Lib.hid (HD.out.value hll HN1.out hN2)
      have hzr := Nat.le_trans hs3 hBR.size
      clear hrow
      go_wp2_with fail
      refine (rOf_any p _ N _ ls _ HROW.out (by omega)).mono ?_
      rintro e w6 ⟨⟨ng, A6, n6, c6, rfl, hv6⟩, hb6⟩
      have hB6 := hBR.trans (hb6.mono (B' := w.heap.size + 3) hzr)
      obtain ⟨e1, e2, f1, f2⟩ := HRM.out _ hB6
      have hval := HVAL.out
      rw [HNEG.out] at hval
      rw [hval] at hv6
      have HV6 := Lib.hid hv6
      clear hv6 hval z0 z1 z2 z3
      go_wp2
      refine bodyPost_ret (v := .tuple #[.agg #[.bool ng, .slice A6 n6 c6], .int .i64 0]) (by simp [results, Try.results59, go_sem, e1, e2]) rfl ⟨⟨_, _, _, _, rfl, (HV6.out.mono (by omega)).stored e1 e2 _ _⟩, ?_⟩
      exact ((hW.trans (hB6.mono (by omega))).setCell (by show _ ≤ _; simp; omega) _).setCell (by show _ ≤ _; simp; omega) _

end Go.Proofs.Ytoanomgdkkbbmaa
