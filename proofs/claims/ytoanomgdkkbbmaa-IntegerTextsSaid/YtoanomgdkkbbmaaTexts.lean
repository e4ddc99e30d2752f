/- IntegerTexts: the walk. -/
import Derived.Test.YtoanomgdkkbbmaaRText
import Derived.Test.YtoanomgdkkbbmaaRingBox
import Derived.Test.YtoanomgdkkbbmaaOf
import Derived.Deep.DeepCutAuto
namespace Go.Proofs.Ytoanomgdkkbbmaa
open Go.RowKit LM

/-- What Text answers: a text and an error. -/
def TextRel (R x : Int) (T : ByteArray) (err : Int) : Prop :=
  ((R < 2 ∨ 36 < R) ∧ T = ⟨#[]⟩ ∧ err = 1) ∨ (2 ≤ R ∧ R ≤ 36 ∧ x = 0 ∧ T = ⟨#[48]⟩ ∧ err = 0) ∨
  (2 ≤ R ∧ R ≤ 36 ∧ x ≠ 0 ∧ err = 0 ∧ ∃ ds, DigitsOf R (if x < 0 then -x else x) ds ∧ bs T = textBytes (decide (x < 0)) ds)

theorem TextRel.det {R x : Int} {T T' : ByteArray} {r r' : Int} (h : TextRel R x T r) (g : TextRel R x T' r') : T = T' ∧ r = r' := by
  unfold TextRel at h g
  rcases h with h | h | h <;> rcases g with g | g | g
  · exact ⟨h.2.1.trans g.2.1.symm, h.2.2.trans g.2.2.symm⟩
  · exfalso; have := h.1; have := g.1; have := g.2.1; omega
  · exfalso; have := h.1; have := g.1; have := g.2.1; omega
  · exfalso; have := g.1; have := h.1; have := h.2.1; omega
  · exact ⟨h.2.2.2.1.trans g.2.2.2.1.symm, h.2.2.2.2.trans g.2.2.2.2.symm⟩
  · exact absurd h.2.2.1 g.2.2.1
  · exfalso; have := g.1; have := h.1; have := h.2.1; omega
  · exact absurd g.2.2.1 h.2.2.1
  · obtain ⟨hR, _, _, he, ds, hd, hb⟩ := h
    obtain ⟨_, _, _, ge, es, gd, gb⟩ := g
    have := digits_unique hR hd gd
    subst this
    exact ⟨bs_inj (hb.trans gb.symm), he.trans ge.symm⟩

theorem textBytes_ok {R z : Int} {ds : List Int} {neg : Bool} (h : DigitsOf R z ds) (hR : R ≤ 36) : ∀ x ∈ textBytes neg ds, 0 ≤ x ∧ x < 256 := by
  intro x hx
  unfold textBytes at hx
  rcases List.mem_append.1 hx with hx | hx
  · cases neg with
    | false => simp at hx
    | true => simp at hx; subst hx; decide
  · rw [List.mem_reverse] at hx
    obtain ⟨d, hd, rfl⟩ := List.mem_map.1 hx
    have := h.1 d hd
    exact nameOf_byte this.1 (by omega)

theorem Text_all (u : Value) (x R : Int) (L : Nat) (w : World) (h : Ival w u x L) (hL : L ≤ 1048576) :
    Calls Try.prog 60 #[u, .int .i64 R] w fun e w' => (∃ T err, e = .returned (.tuple #[.string T, .int .i64 err]) ∧ TextRel R x T err) ∧ Below w.heap.size w w' := by
  by_cases hR : R < 2 ∨ 36 < R
  · refine (Text_bad u x R L w h hR).mono ?_
    rintro e w' ⟨rfl, hb⟩
    exact ⟨⟨_, _, rfl, .inl ⟨hR, rfl, rfl⟩⟩, hb⟩
  have h0 : 2 ≤ R := by omega
  have h1 : R ≤ 36 := by omega
  by_cases hx : x = 0
  · subst hx
    refine (Text_zero u R L w h h0 h1).mono ?_
    rintro e w' ⟨rfl, hb⟩
    exact ⟨⟨_, _, rfl, .inr (.inl ⟨h0, h1, rfl, rfl, rfl⟩)⟩, hb⟩
  · refine (Text_some u x R L w h hL h0 h1 hx).mono ?_
    rintro e w' ⟨⟨ds, hd, rfl⟩, hb⟩
    exact ⟨⟨_, _, rfl, .inr (.inr ⟨h0, h1, hx, rfl, ds, hd, bs_strOf (textBytes_ok hd h1)⟩)⟩, hb⟩

theorem rText_all (u : Value) (x R : Int) (L : Nat) (w : World) (h : Rval w u x L) (hL : L ≤ 1000) :
    Calls Try.prog 61 #[u, .int .i64 R] w fun e w' => (∃ T err, e = .returned (.tuple #[.string T, .int .i64 err]) ∧ TextRel R x T err) ∧ Below w.heap.size w w' := by
  obtain ⟨p, A, n, c, ds, rfl, hr, hd, ht, hz, hp, hn⟩ := h
  by_cases hR : R < 2 ∨ 36 < R
  · refine (rText_bad p A n c R w hR).mono ?_
    rintro e w' ⟨rfl, hb⟩
    exact ⟨⟨_, _, rfl, .inl ⟨hR, rfl, rfl⟩⟩, hb⟩
  have h0 : 2 ≤ R := by omega
  have h1 : R ≤ 36 := by omega
  have hv := valR_nonneg (by decide : (0 : Int) ≤ 65536) hd
  by_cases hx : valR 65536 ds = 0
  · have hds := (valR_zero_iff hd ht).1 hx
    have hn0 : n = 0 := by rw [← hr.1, hds]; rfl
    have hp0 : p = false := by cases p with
      | false => rfl
      | true => exact absurd hx (hp rfl)
    subst hn0 hp0
    have hx0 : x = 0 := by rw [hz, hx]; simp [withSign]
    refine (rText_zero A c R w h0 h1).mono ?_
    rintro e w' ⟨rfl, hb⟩
    exact ⟨⟨_, _, rfl, .inr (.inl ⟨h0, h1, hx0, rfl, rfl⟩)⟩, hb⟩
  · have hneg : decide (x < 0) = p := by cases p <;> simp [hz, withSign] <;> omega
    have habs : (if x < 0 then -x else x) = valR 65536 ds := by cases p <;> simp [hz, withSign] <;> omega
    have hx0 : x ≠ 0 := by rw [hz]; cases p <;> simp [withSign] <;> omega
    refine (rText_some p A n c ds R w hr hd ht (by omega) h0 h1 hx).mono ?_
    rintro e w' ⟨⟨T, es, hes, hT, rfl⟩, hb⟩
    exact ⟨⟨_, _, rfl, .inr (.inr ⟨h0, h1, hx0, rfl, es, by rw [habs]; exact hes, by rw [hneg]; exact hT⟩)⟩, hb⟩

/-- The boxes of two values. -/
theorem two_boxes {w w' : World} {p q : Bool} {u v : Value} (h : Below (w.heap.size + 2) ((w.alloc (.cells #[.bool p, u] 28)).alloc (.cells #[.bool q, v] 31)) w') :
    w'.cell? ⟨w.heap.size, 0, none⟩ = some (.bool p) ∧ w'.cell? ⟨w.heap.size, 1, none⟩ = some u ∧ w'.cell? ⟨w.heap.size + 1, 0, none⟩ = some (.bool q) ∧ w'.cell? ⟨w.heap.size + 1, 1, none⟩ = some v := by
  refine ⟨?_, ?_, ?_, ?_⟩
  · rw [h.cell (by simp), World.cell?_alloc_past _ _ _ (by simp), World.cell?_alloc_at _ _ _ _ rfl]; rfl
  · rw [h.cell (by simp), World.cell?_alloc_past _ _ _ (by simp), World.cell?_alloc_at _ _ _ _ rfl]; rfl
  · rw [h.cell (by simp), World.cell?_alloc_at _ _ _ _ (by simp)]; rfl
  · rw [h.cell (by simp), World.cell?_alloc_at _ _ _ _ (by simp)]; rfl

theorem box28 {w w' : World} {p : Bool} {u : Value} (h : Below (w.heap.size + 1) (w.alloc (.cells #[.bool p, u] 28)) w') : w'.cell? ⟨w.heap.size, 0, none⟩ = some (.bool p) ∧ w'.cell? ⟨w.heap.size, 1, none⟩ = some u := by
  refine ⟨?_, ?_⟩
  · rw [h.cell (by simp), World.cell?_alloc_at _ _ _ _ (by simp)]; rfl
  · rw [h.cell (by simp), World.cell?_alloc_at _ _ _ _ (by simp)]; rfl

theorem one_lens (w : World) {g : Nat} (hg : w.heap.size = g) (p : Bool) (A : Option Addr) (n c : Nat) :
    Lens (w.alloc (.cells #[.bool p, .slice A n c] 24)) g 1 [n] := by
  subst hg
  refine ⟨rfl, by simp, fun i hi => ?_⟩
  match i, hi with
  | 0, _ => exact ⟨p, A, c, World.cell?_alloc_at _ _ _ _ rfl, World.cell?_alloc_at _ _ _ _ rfl⟩

theorem box24 {w w' : World} {p : Bool} {u : Value} (h : Below (w.heap.size + 1) (w.alloc (.cells #[.bool p, u] 24)) w') : w'.cell? ⟨w.heap.size, 0, none⟩ = some (.bool p) ∧ w'.cell? ⟨w.heap.size, 1, none⟩ = some u := by
  refine ⟨?_, ?_⟩
  · rw [h.cell (by simp), World.cell?_alloc_at _ _ _ _ (by simp)]; rfl
  · rw [h.cell (by simp), World.cell?_alloc_at _ _ _ _ (by simp)]; rfl

set_option maxRecDepth 100000 in
set_option maxHeartbeats 4000000 in
theorem texts_any (p : Bool) (A : Option Addr) (n c : Nat) (xs : List Int) (S : ByteArray) (R : Int) (w : World) (h : Row .u32 w A n c xs) (hd : Dig xs) (hS : S.size ≤ 9223372036854775807) :
    Calls Try.prog 9 #[.agg #[.bool p, .slice A n c], .string S, .int .i64 R] w fun e w' => e = .returned (.bool true) ∧ Below w.heap.size w w' := by
  have hW := below_alloc w (.cells #[.bool p, .slice A n c] 24)
  have hW2 : Below (w.heap.size + 1) (w.alloc (.cells #[.bool p, .slice A n c] 24)) ((w.alloc (.cells #[.bool p, .slice A n c] 24)).alloc (.cells #[.bool p, .slice A n c] 24)) := (Below.refl _ _).alloc (by simp) _
  have HH := Lib.hid h
  have HD := Lib.hid hd
  clear h hd
  by_cases hlong : (200 : Int) < (S.size : Int)
  · go_enter Try.func9, Try.ntmps9
    go_wp2_with fail
    refine (short_any _ 1 [n] 12 _ (one_lens _ (by simp) p A n c) (by omega)).mono ?_
    rintro e w1 ⟨rfl, hb1⟩
    have hB1 := hW2.trans (hb1.mono (B' := w.heap.size + 1) (by simp))
    cases ht : tooLong [n] 12 with
    | true =>
      go_wp2_with fail
      refine (awake_any _).mono ?_
      rintro e w2 ⟨rfl, hb2⟩
      go_wp2
      go_ret
      exact ⟨rfl, hW.trans ((hB1.mono (by omega)).trans (hb2.mono (by have := hB1.size; simp at this; omega)))⟩
    | false =>
      go_wp2_with fail
      refine (awake_any _).mono ?_
      rintro e w2 ⟨rfl, hb2⟩
      go_wp2
      go_ret
      exact ⟨rfl, hW.trans ((hB1.mono (by omega)).trans (hb2.mono (by have := hB1.size; simp at this; omega)))⟩
  · have hS2 : S.size ≤ 20000 := by omega
    go_enter Try.func9, Try.ntmps9
    go_wp2_with fail
    refine (short_any _ 1 [n] 12 _ (one_lens _ (by simp) p A n c) (by omega)).mono ?_
    rintro e w1 ⟨rfl, hb1⟩
    have hB1 := hW2.trans (hb1.mono (B' := w.heap.size + 1) (by simp))
    cases ht : tooLong [n] 12 with
    | true =>
      go_wp2_with fail
      refine (awake_any _).mono ?_
      rintro e w2 ⟨rfl, hb2⟩
      go_wp2
      go_ret
      exact ⟨rfl, hW.trans ((hB1.mono (by omega)).trans (hb2.mono (by have := hB1.size; simp at this; omega)))⟩
    | false =>
      have hn : n ≤ 12 := by simp [tooLong] at ht; omega
      obtain ⟨c1, c2⟩ := box24 hB1
      have hw1 := hW.trans (hB1.mono (by omega))
      go_wp2_with fail
      refine (of_any p A n c xs _ (HH.out.below hw1) (by omega) HD.out).mono ?_
      rintro e w2 ⟨g1, A1, n1, d1, g2, A2, n2, d2, rfl, hv, hr, hb2⟩
      have HV := Lib.hid hv
      have HR := Lib.hid hr
      clear hv hr c1 c2
      go_wp2_with fail
      have hX := below_two w2 (.cells #[.bool g1, .slice A1 n1 d1] 28) (.cells #[.bool g2, .slice A2 n2 d2] 31)
      refine (Text_all _ _ R n _ (HV.out.below hX) (by omega)).mono ?_
      rintro e w4 ⟨⟨T1, r1, rfl, ht1⟩, hb4⟩
      have hB4 := hb4.mono (B' := w2.heap.size + 2) (by simp)
      obtain ⟨b1, b2, b3, b4⟩ := two_boxes hB4
      have HT1 := Lib.hid ht1
      clear ht1
      go_wp2_with fail
      refine (rText_all _ _ R (2 * n) _ (HR.out.below (hX.trans (hB4.mono (by omega)))) (by omega)).mono ?_
      rintro e w5 ⟨⟨T2, r2, rfl, ht2⟩, hb5⟩
      obtain ⟨rfl, rfl⟩ := HT1.out.det ht2
      have hB5 := hB4.trans (hb5.mono (B' := w2.heap.size + 2) (by have := hB4.size; simp at this; omega))
      clear b1 b2 b3 b4 ht2
      go_wp2_with fail
      refine (Parse_any S R _ hS2).mono ?_
      rintro e w6 ⟨g3, A3, n3, d3, z3, r3, rfl, hv3, hp3, hb6⟩
      have HV3 := Lib.hid hv3
      have HP3 := Lib.hid hp3
      have hB6 := hB5.trans (hb6.mono (B' := w2.heap.size + 2) (by have := hB5.size; simp at this; omega))
      clear hv3 hp3
      go_wp2_with fail
      have hY := below_alloc w6 (.cells #[.bool g3, .slice A3 n3 d3] 28)
      refine (rParse_any S R _ hS2).mono ?_
      rintro e w7 ⟨g4, A4, n4, d4, z4, r4, rfl, hv4, hp4, hb7⟩
      obtain ⟨rfl, rfl⟩ := HP3.out.det hp4
      have hB7 := hb7.mono (B' := w6.heap.size + 1) (by simp)
      have hs7 : w6.heap.size + 1 ≤ w7.heap.size := by have := hB7.size; simpa using this
      obtain ⟨b1, b2⟩ := box28 (hB7.alloc hs7 (.cells #[.bool g4, .slice A4 n4 d4] 31))
      have HV4 := Lib.hid hv4
      have hZ := below_alloc w7 (.cells #[.bool g4, .slice A4 n4 d4] 31)
      clear hv4 hp4
      go_wp2_with fail
      refine (is_yes _ _ z3 20000 20000 _ (HV3.out.below (hY.trans ((hB7.mono (by omega)).trans (hZ.mono (by have := hB7.size; simp at this; omega))))) (HV4.out.below hZ) (by decide) (by decide)).mono ?_
      rintro e w8 ⟨rfl, hb8⟩
      go_wp2_with fail
      refine (awake_any _).mono ?_
      rintro e w9 ⟨rfl, hb9⟩
      go_wp2
      go_ret
      have k1 := (hw1.trans (hb2.mono hw1.size)).trans ((hX.trans (hB6.mono (by omega))).mono (Nat.le_trans hw1.size hb2.size))
      have k2 := hY.trans (hB7.mono (by omega))
      have k3 := k1.trans (k2.mono k1.size)
      have k4 := k3.trans (hZ.mono k3.size)
      have k5 := k4.trans (hb8.mono k4.size)
      exact ⟨rfl, k5.trans (hb9.mono k5.size)⟩

end Go.Proofs.Ytoanomgdkkbbmaa
