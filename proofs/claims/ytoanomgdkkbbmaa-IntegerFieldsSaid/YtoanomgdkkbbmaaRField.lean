/- The reference's Field. -/
import Derived.Test.YtoanomgdkkbbmaaRBitsOwn
import Derived.Test.YtoanomgdkkbbmaaRShift
namespace Go.Proofs.Ytoanomgdkkbbmaa
open Go.RowKit LM

theorem fieldOf_bits (x : Int) (k p : Nat) (bs : List Bool) (hl : bs.length = k) (hb : ∀ i, i < k → bs.getD i false = bitOf x ((p + i : Nat) : Int)) : pB bs false = fieldOf x k p := by
  have h0 := pB_nonneg bs false
  have h1 := pB_lt bs false
  rw [hl] at h1
  have hf := fieldOf_small x k p
  refine num_ext fun i => ?_
  by_cases hi : i < k
  · have e1 := pB_bit bs false i (by rw [hl]; exact hi)
    rw [hb i hi, bitOf_two, Bool.bne_false, decide_eq_decide] at e1
    have e2 : fieldOf x k p / 2 ^ i % 2 = x / 2 ^ (p + i) % 2 := by
      unfold fieldOf
      rw [low_bit _ hi, Int.ediv_ediv_of_nonneg (Int.le_of_lt (two_pos p)), ← Int.pow_add]
    rw [e2]
    generalize pB bs false / 2 ^ i = s at *
    generalize x / 2 ^ (p + i) = t at *
    omega
  · rw [bit_high h0 h1 (by omega), bit_high hf.1 hf.2 (by omega)]

theorem drop_brow {w : World} {base : Nat} {A : Option Addr} {N c : Nat} {bs : List Bool} (h : w.ownsRow base 4 1 (.slice A N c) N (bs.map Value.bool)) {p : Nat} (hp : p ≤ N) :
    ∃ g, N ≠ 0 → A = some ⟨g, 0, none⟩ ∧ N ≤ c ∧ BRow w (some ⟨g, 0 + p, none⟩) (N - p) (c - p) (bs.drop p) ∧ (p = c → BRow w (some ⟨g, 0, none⟩) (N - p) (c - p) (bs.drop p)) := by
  have hl : bs.length = N := by have := h.1; simpa using this
  have h0 := h
  rcases h.2 with ⟨_, hn0⟩ | ⟨g, cap, cur, h', hb, hg, hnc, hcm, hcs, htake⟩
  · exact ⟨0, fun hn => absurd hn0 hn⟩
  · simp only [Value.slice.injEq] at h'
    obtain ⟨rfl, -, rfl⟩ := h'
    refine ⟨g, fun _ => ⟨rfl, hnc, ⟨by simp [hl], by omega, fun _ => ⟨g, 0 + p, rfl, (Array.getElem?_eq_some_iff.1 hg).1, fun i hi => ?_⟩⟩, fun hpc => ⟨by simp [hl], by omega, fun hn => absurd hn (by omega)⟩⟩⟩
    rw [show 0 + p + i = p + i from by omega, h0.cellAt (p + i) (by omega)]
    simp [List.getD, hl, show p + i < N by omega]

set_option maxRecDepth 100000 in
set_option maxHeartbeats 4000000 in
theorem rField_val (u : Value) (x : Int) (L k p : Nat) (w : World) (h : Rval w u x L) (hL : L ≤ 50000) (hk : k ≤ 65536) (hp : p ≤ 65536) :
    Calls Try.prog 57 #[u, .int .i64 k, .int .i64 p] w fun e w' => (∃ ng A2 n2 c2, e = .returned (.tuple #[.agg #[.bool ng, .slice A2 n2 c2], .int .i64 0]) ∧ Rval w' (.agg #[.bool ng, .slice A2 n2 c2]) (fieldOf x k p) 5000) ∧ Below w.heap.size w w' := by
  obtain ⟨b, A, n, c, rfl⟩ := h.form
  have hW := below_two w (.cells #[.bool b, .slice A n c] 31) (.cells #[.bool false, .slice none 0 0] 31)
  have hs2 : w.heap.size + 2 ≤ ((w.alloc (.cells #[.bool b, .slice A n c] 31)).alloc (.cells #[.bool false, .slice none 0 0] 31)).heap.size := by simp
  have HX := Lib.hid (h.below hW)
  have HS := Lib.hid (fun (w' : World) (hb : Below (w.heap.size + 2) ((w.alloc (.cells #[.bool b, .slice A n c] 31)).alloc (.cells #[.bool false, .slice none 0 0] 31)) w') => sh_hold hb)
  have hB0 := Below.refl (w.heap.size + 2) ((w.alloc (.cells #[.bool b, .slice A n c] 31)).alloc (.cells #[.bool false, .slice none 0 0] 31))
  have yk := Lib.hid (show (decide (0 ≤ (k : Int)) && decide ((k : Int) ≤ 65536)) = true by simp; omega)
  have yp := Lib.hid (show (decide (0 ≤ (p : Int)) && decide ((p : Int) ≤ 65536)) = true by simp; omega)
  clear h
  go_enter Try.func57, Try.ntmps57
  go_wp2_with fail
  refine (within_any _ _).mono ?_
  rintro e w1 ⟨rfl, rfl⟩
  rw [yk.out]
  go_wp2_with fail
  refine (within_any _ _).mono ?_
  rintro e w1 ⟨rfl, rfl⟩
  rw [yp.out]
  go_wp2_with fail
  refine (rBits_own _ x L (p + k) _ (by omega) _ HX.out (by omega) (by omega)).mono ?_
  rintro e w2 ⟨⟨A2, c2, base, rfl, hbase, hown⟩, hb2⟩
  have hB2 := hB0.trans (hb2.mono (B' := w.heap.size + 2) hs2)
  have hz2 := Nat.le_trans hs2 hB2.size
  obtain ⟨g, hg⟩ := drop_brow hown (p := p) (by omega)
  have HBITS := Lib.hid (fieldOf_bits x k p ((bitsOf x (p + k)).drop p) (by simp [bitsOf]) (fun i hi => by
    have e := bitsOf_getD x (p + k) (p + i) (by omega)
    rw [← e]; simp [List.getD, List.getElem?_drop]))
  have hpk : (p : Int) ≤ ((p + k : Nat) : Int) := by omega
  have hpk2 : p ≤ p + k := by omega
  by_cases h0 : p + k = 0
  · have hp0 : p = 0 := by omega
    have hk0 : k = 0 := by omega
    have hrw : ∀ A' c', BRow w2 A' 0 c' ((bitsOf x (p + k)).drop p) := fun A' c' => ⟨by simp [bitsOf, h0], Nat.zero_le _, fun h => absurd rfl h⟩
    subst hp0
    subst hk0
    have HRW := Lib.hid hrw
    clear hrw hg h0
    rcases hown.2 with ⟨hA, _⟩ | ⟨g', cap, cur, hA, _⟩
    · simp only [Value.slice.injEq] at hA
      obtain ⟨rfl, -, rfl⟩ := hA
      clear hown
      go_wp2_with fail
      have HROW := Lib.hid (HRW.out none 0)
      refine (rOf_any false none 0 0 ((bitsOf x (0 + 0)).drop 0) _ HROW.out (by omega)).mono ?_
      rintro e w3 ⟨⟨ng, A3, n3, c3, rfl, hv3⟩, hb3⟩
      have hB3 := hB2.trans (hb3.mono (B' := w.heap.size + 2) hz2)
      obtain ⟨-, ⟨e1, e2, e3, e4⟩⟩ := HS.out _ hB3
      rw [if_neg (by decide), HBITS.out] at hv3
      have HV3 := Lib.hid hv3
      clear hv3
      go_wp2
      refine bodyPost_ret (v := .tuple #[.agg #[.bool ng, .slice A3 n3 c3], .int .i64 0]) (by simp [results, Try.results57, go_sem, e1, e2]) rfl ⟨⟨_, _, _, _, rfl, (HV3.out.mono (by omega)).stored e1 e2 _ _⟩, ?_⟩
      exact ((hW.trans (hB3.mono (by omega))).setCell (by show _ ≤ _; simp) _).setCell (by show _ ≤ _; simp) _
    · simp only [Value.slice.injEq] at hA
      obtain ⟨rfl, -, rfl⟩ := hA
      clear hown
      go_wp2_with fail
      have HROW := Lib.hid (HRW.out (some ⟨g', 0, none⟩) c2)
      refine (rOf_any false (some ⟨g', 0, none⟩) 0 c2 ((bitsOf x (0 + 0)).drop 0) _ HROW.out (by omega)).mono ?_
      rintro e w3 ⟨⟨ng, A3, n3, c3, rfl, hv3⟩, hb3⟩
      have hB3 := hB2.trans (hb3.mono (B' := w.heap.size + 2) hz2)
      obtain ⟨-, ⟨e1, e2, e3, e4⟩⟩ := HS.out _ hB3
      rw [if_neg (by decide), HBITS.out] at hv3
      have HV3 := Lib.hid hv3
      clear hv3
      go_wp2
      refine bodyPost_ret (v := .tuple #[.agg #[.bool ng, .slice A3 n3 c3], .int .i64 0]) (by simp [results, Try.results57, go_sem, e1, e2]) rfl ⟨⟨_, _, _, _, rfl, (HV3.out.mono (by omega)).stored e1 e2 _ _⟩, ?_⟩
      exact ((hW.trans (hB3.mono (by omega))).setCell (by show _ ≤ _; simp) _).setCell (by show _ ≤ _; simp) _
  · obtain ⟨rfl, hnc, hrow, hrow0⟩ := hg h0
    by_cases hpc : c2 = p
    · have hr2 := hrow0 hpc.symm
      rw [Nat.add_sub_cancel_left, hpc, Nat.sub_self] at hr2
      have HROW := Lib.hid hr2
      clear hrow hrow0 hown hg hr2
      go_wp2_with fail
      refine (rOf_any false _ k _ ((bitsOf x (p + k)).drop p) _ HROW.out (by omega)).mono ?_
      rintro e w3 ⟨⟨ng, A3, n3, c3, rfl, hv3⟩, hb3⟩
      have hB3 := hB2.trans (hb3.mono (B' := w.heap.size + 2) hz2)
      obtain ⟨-, ⟨e1, e2, e3, e4⟩⟩ := HS.out _ hB3
      rw [if_neg (by decide), HBITS.out] at hv3
      have HV3 := Lib.hid hv3
      clear hv3
      go_wp2
      refine bodyPost_ret (v := .tuple #[.agg #[.bool ng, .slice A3 n3 c3], .int .i64 0]) (by simp [results, Try.results57, go_sem, e1, e2]) rfl ⟨⟨_, _, _, _, rfl, (HV3.out.mono (by omega)).stored e1 e2 _ _⟩, ?_⟩
      exact ((hW.trans (hB3.mono (by omega))).setCell (by show _ ≤ _; simp) _).setCell (by show _ ≤ _; simp) _
    · have hr2 := hrow
      rw [Nat.add_sub_cancel_left, Nat.zero_add] at hr2
      have HROW := Lib.hid hr2
      clear hrow hrow0 hown hg hr2
      go_wp2_with fail
      refine (rOf_any false _ k _ ((bitsOf x (p + k)).drop p) _ HROW.out (by omega)).mono ?_
      rintro e w3 ⟨⟨ng, A3, n3, c3, rfl, hv3⟩, hb3⟩
      have hB3 := hB2.trans (hb3.mono (B' := w.heap.size + 2) hz2)
      obtain ⟨-, ⟨e1, e2, e3, e4⟩⟩ := HS.out _ hB3
      rw [if_neg (by decide), HBITS.out] at hv3
      have HV3 := Lib.hid hv3
      clear hv3
      go_wp2
      refine bodyPost_ret (v := .tuple #[.agg #[.bool ng, .slice A3 n3 c3], .int .i64 0]) (by simp [results, Try.results57, go_sem, e1, e2]) rfl ⟨⟨_, _, _, _, rfl, (HV3.out.mono (by omega)).stored e1 e2 _ _⟩, ?_⟩
      exact ((hW.trans (hB3.mono (by omega))).setCell (by show _ ≤ _; simp) _).setCell (by show _ ≤ _; simp) _

end Go.Proofs.Ytoanomgdkkbbmaa
