/- The reference's Shift, and what both come to. -/
import Derived.Test.YtoanomgdkkbbmaaRFloor
import Derived.Test.YtoanomgdkkbbmaaDeposit
import Derived.Test.YtoanomgdkkbbmaaPatKit
namespace Go.Proofs.Ytoanomgdkkbbmaa
open Go.RowKit LM

set_option maxHeartbeats 1000000 in
theorem up_zero (u : Value) (L : Nat) (m : Int) (w : World) (h : Num w u 0 L) :
    Calls Try.prog 126 #[u, .int .i64 m] w fun e w' => ∃ v, e = .returned v ∧ Num w' v 0 1 ∧ Below w.heap.size w w' := by
  obtain ⟨A, n, c, xs, rfl, hr, hd, ht, hz, hn⟩ := h
  have hn0 : n = 0 := by
    rcases Nat.eq_zero_or_pos n with h0 | h0
    · exact h0
    · have := val_ge hd ht (by rw [hr.1]; omega)
      have := BB_pos (xs.length - 1)
      omega
  subst hn0
  clear hz hr ht hd
  go_enter Try.func126, Try.ntmps126
  go_wp2_with fail
  go_ret
  exact ⟨_, rfl, ⟨none, 0, 0, [], rfl, Row.nil_, Dig.nil, .inl rfl, by simp [val], Nat.zero_le _⟩, Below.refl _ _⟩

set_option maxRecDepth 100000 in
set_option maxHeartbeats 2000000 in
theorem shifted_zero (u : Value) (L : Nat) (m : Int) (w : World) (h : Ival w u 0 L) (hL : L ≤ 1048576) (hm0 : 0 ≤ m) (hm : m ≤ 9223372036854775807) :
    Calls Try.prog 96 #[u, .int .i64 m] w fun e w' => (∃ ng A2 n2 c2, e = .returned (.agg #[.bool ng, .slice A2 n2 c2]) ∧ Ival w' (.agg #[.bool ng, .slice A2 n2 c2]) 0 1) ∧ Below w.heap.size w w' := by
  obtain ⟨p, A, n, c, rfl⟩ := h.form
  obtain ⟨a, ha, ha0, hxa, ha1⟩ := h.parts
  obtain rfl : a = 0 := by cases p <;> simp [withSign] at hxa <;> omega
  obtain rfl : p = false := by
    cases p with
    | false => rfl
    | true => exact absurd rfl (ha1 rfl)
  have hW := below_two w (.cells #[.bool false, .slice A n c] 28) (.cells #[.bool false, .slice none 0 0] 28)
  have hB0 := (Below.refl (w.heap.size + 1) ((w.alloc (.cells #[.bool false, .slice A n c] 28)).alloc (.cells #[.bool false, .slice none 0 0] 28))).drew
  have hD0 := (Below.refl (w.heap.size + 2) ((w.alloc (.cells #[.bool false, .slice A n c] 28)).alloc (.cells #[.bool false, .slice none 0 0] 28))).drew
  have HA := Lib.hid ha
  have h1 : w.heap.size + 1 ≤ w.heap.size + 1 := Nat.le_refl _
  clear h ha ha1 hxa
  go_enter Try.func96, Try.ntmps96
  go_wp2_with fail
  go_region_held3 (fun w' => w'.cell? ⟨w.heap.size, 0, none⟩ = some (.bool false) ∧ w'.cell? ⟨w.heap.size, 1, none⟩ = some (.slice A n c) ∧ Below (w.heap.size + 1) ((w.alloc (.cells #[.bool false, .slice A n c] 28)).alloc (.cells #[.bool false, .slice none 0 0] 28)) w')
    (first | (with_reducible exact shift_boxes hB2) | (with_reducible exact shift_boxes (Below.setCell (Below.setCell hB2 h1 _) h1 _)) | (with_reducible exact shift_boxes hB1) | (with_reducible exact shift_boxes hB0))
    (first
      | (go_at_call 70; have hK := hB1; clear hK; refine (signed_out false _ 0 1 _ HV1.out (by decide)).mono ?_; rintro e w2 ⟨ng2, A2, n2, c2, rfl, hv2, hb2⟩; have hB2 := Below.trans hB1 (hb2.mono (B' := w.heap.size + 1) (by have := hB1.size; simp at this; omega)); have hD2 := Below.trans hD1 (hb2.mono (B' := w.heap.size + 2) (by have := hD1.size; simp at this; omega)); have HV2 := Lib.hid hv2; obtain ⟨e1, e2, f1, f2⟩ := room1 hD2; clear hv2)
      | (go_at_call 126; refine (up_zero _ L m _ (HA.out.below (hW.trans (hB0.mono (by omega))))).mono ?_; rintro e w1 ⟨r1, rfl, hv1, hb1⟩; have hB1 := Below.trans hB0 (hb1.mono (B' := w.heap.size + 1) (by simp)); have hD1 := Below.trans hD0 (hb1.mono (B' := w.heap.size + 2) (by simp)); have HV1 := Lib.hid hv1; clear hv1))
  go_wp2
  refine bodyPost_ret (v := .agg #[.bool ng2, .slice A2 n2 c2]) (by simp [results, Try.results96, go_sem, e1, e2]) rfl ⟨⟨_, _, _, _, rfl, ?_⟩, ?_⟩
  · exact HV2.out.stored e1 e2 _ _
  · exact ((hW.trans (hB2.mono (by omega))).setCell (by show _ ≤ _; simp) _).setCell (by show _ ≤ _; simp) _

set_option maxRecDepth 100000 in
set_option maxHeartbeats 2000000 in
theorem Shift_zero_any (u : Value) (t : Int) (L : Nat) (w : World) (h : Ival w u 0 L) (hL : L ≤ 100000) (h0 : 0 < t) (h1 : t ≤ 9223372036854775807) :
    Calls Try.prog 50 #[u, .int .i64 t] w fun e w' => (∃ ng A2 n2 c2, e = .returned (.tuple #[.agg #[.bool ng, .slice A2 n2 c2], .int .i64 0]) ∧ Ival w' (.agg #[.bool ng, .slice A2 n2 c2]) 0 1) ∧ Below w.heap.size w w' := by
  obtain ⟨p, A, n, c, rfl⟩ := h.form
  have hW := below_two w (.cells #[.bool p, .slice A n c] 28) (.cells #[.bool false, .slice none 0 0] 28)
  have hD0 := (Below.refl (w.heap.size + 2) ((w.alloc (.cells #[.bool p, .slice A n c] 28)).alloc (.cells #[.bool false, .slice none 0 0] 28)))
  have hs2 : w.heap.size + 2 ≤ ((w.alloc (.cells #[.bool p, .slice A n c] 28)).alloc (.cells #[.bool false, .slice none 0 0] 28)).heap.size := by simp
  have HH := Lib.hid (h.below hW)
  have hc0 : cmpI 0 0 = 0 := by decide
  have HC0 := Lib.hid hc0
  clear h hc0
  go_enter Try.func50, Try.ntmps50
  go_wp2_with fail
  refine (sign_int _ 0 L _ HH.out).mono ?_
  rintro e w1 ⟨rfl, hb1⟩
  rw [HC0.out]
  have hB1 := hD0.trans (hb1.mono (B' := w.heap.size + 2) hs2)
  have hz1 := Nat.le_trans hs2 hB1.size
  obtain ⟨c1, c2, _⟩ := shift_boxes (hB1.mono (Nat.le_succ _))
  go_wp2_with fail
  refine (shifted_zero _ L t _ (HH.out.below hb1) (by omega) (by omega) h1).mono ?_
  rintro e w3 ⟨⟨ng, A2, n2, d2, rfl, hv⟩, hb3⟩
  have hB3 := hB1.trans (hb3.mono (B' := w.heap.size + 2) hz1)
  obtain ⟨e1, e2, f1, f2⟩ := room1 hB3
  have HV := Lib.hid hv
  clear hv c1 c2
  go_wp2
  refine bodyPost_ret (v := .tuple #[.agg #[.bool ng, .slice A2 n2 d2], .int .i64 0]) (by simp [results, Try.results50, go_sem, e1, e2]) rfl ⟨⟨_, _, _, _, rfl, HV.out.stored e1 e2 _ _⟩, ?_⟩
  exact ((hW.trans (hB3.mono (by omega))).setCell (by show _ ≤ _; simp) _).setCell (by show _ ≤ _; simp) _


/-- Is the result too long? -/
def TooFar (x t : Int) : Prop := 0 < t ∧ x ≠ 0 ∧ ∃ k : Nat, IsLen (patOf x) k ∧ 65536 < (k : Int) + t

/-- What a shift comes to. -/
def ShiftV (x t z err : Int) : Prop := TooFar x t ∧ z = 0 ∧ err = 14 ∨ ¬ TooFar x t ∧ z = shiftOf x t ∧ err = 0

theorem ShiftV.same {x t z err z' err' : Int} (h : ShiftV x t z err) (g : ShiftV x t z' err') : z' = z ∧ err' = err := by
  rcases h with ⟨a, rfl, rfl⟩ | ⟨a, rfl, rfl⟩ <;> rcases g with ⟨b, rfl, rfl⟩ | ⟨b, rfl, rfl⟩
  · exact ⟨rfl, rfl⟩
  · exact absurd a b
  · exact absurd b a
  · exact ⟨rfl, rfl⟩

theorem shiftOf_zero (t : Int) : shiftOf 0 t = 0 := by unfold shiftOf; split <;> simp

theorem Shift_int (u : Value) (x t : Int) (L : Nat) (w : World) (h : Ival w u x L) (hL : L ≤ 100) (h0 : -9223372036854775808 ≤ t) (h1 : t ≤ 9223372036854775807) (h2 : t ≤ 300 ∨ 65536 < t) :
    Calls Try.prog 50 #[u, .int .i64 t] w fun e w' => (∃ z err ng A2 n2 c2, e = .returned (.tuple #[.agg #[.bool ng, .slice A2 n2 c2], .int .i64 err]) ∧ Ival w' (.agg #[.bool ng, .slice A2 n2 c2]) z 200 ∧ ShiftV x t z err) ∧ Below w.heap.size w w' := by
  by_cases ht : t ≤ 0
  · refine (Shift_plain u x t L w h (by omega) h0 ht).mono ?_
    rintro e w' ⟨⟨ng, A2, n2, c2, rfl, hv⟩, hb⟩
    exact ⟨⟨_, 0, ng, A2, n2, c2, rfl, hv.mono (by omega), .inr ⟨fun hf => by have := hf.1; omega, rfl, rfl⟩⟩, hb⟩
  · by_cases hx : x = 0
    · subst hx
      refine (Shift_zero_any u t L w h (by omega) (by omega) h1).mono ?_
      rintro e w' ⟨⟨ng, A2, n2, c2, rfl, hv⟩, hb⟩
      exact ⟨⟨0, 0, ng, A2, n2, c2, rfl, hv.mono (by omega), .inr ⟨fun hf => hf.2.1 rfl, (shiftOf_zero t).symm, rfl⟩⟩, hb⟩
    · refine (Shift_left u x t L w h (by omega) (by omega) h1 hx).mono ?_
      rintro e w' ⟨⟨k, ng, A2, n2, c2, hk, hc⟩, hb⟩
      rcases hc with ⟨hkt, rfl, hv⟩ | ⟨hkt, rfl⟩
      · refine ⟨⟨_, 0, ng, A2, n2, c2, rfl, hv.mono (by omega), .inr ⟨fun hf => ?_, rfl, rfl⟩⟩, hb⟩
        obtain ⟨_, _, k2, hk2, hlt⟩ := hf
        obtain rfl := hk.det hk2
        omega
      · exact ⟨⟨0, 14, false, none, 0, 0, rfl, Ival.nought, .inl ⟨⟨by omega, hx, k, hk, by omega⟩, rfl, rfl⟩⟩, hb⟩


end Go.Proofs.Ytoanomgdkkbbmaa
