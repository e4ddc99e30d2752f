/- IntegerRing: the walk. -/
import Derived.Test.YtoanomgdkkbbmaaAwake
import Derived.Test.YtoanomgdkkbbmaaList
import Derived.Test.YtoanomgdkkbbmaaShort
namespace Go.Proofs.Ytoanomgdkkbbmaa
open Go.RowKit LM

/-- The three arguments in boxes. -/
theorem ring_boxes {w w1 : World} {p0 p1 p2 : Bool} {u0 u1 u2 : Value} (h : Below (w.heap.size + 1 + 1 + 1) (((w.alloc (.cells #[.bool p0, u0] 24)).alloc (.cells #[.bool p1, u1] 24)).alloc (.cells #[.bool p2, u2] 24)) w1) :
    w1.cell? ⟨w.heap.size, 0, none⟩ = some (.bool p0) ∧ w1.cell? ⟨w.heap.size, 1, none⟩ = some u0 ∧ w1.cell? ⟨w.heap.size + 1, 0, none⟩ = some (.bool p1) ∧ w1.cell? ⟨w.heap.size + 1, 1, none⟩ = some u1 ∧
    w1.cell? ⟨w.heap.size + 1 + 1, 0, none⟩ = some (.bool p2) ∧ w1.cell? ⟨w.heap.size + 1 + 1, 1, none⟩ = some u2 := by
  refine ⟨?_, ?_, ?_, ?_, ?_, ?_⟩
  · rw [h.cell (by simp; omega), World.cell?_alloc_past _ _ _ (by simp; omega), World.cell?_alloc_past _ _ _ (by simp), World.cell?_alloc_at _ _ _ _ rfl]; rfl
  · rw [h.cell (by simp; omega), World.cell?_alloc_past _ _ _ (by simp; omega), World.cell?_alloc_past _ _ _ (by simp), World.cell?_alloc_at _ _ _ _ rfl]; rfl
  · rw [h.cell (by simp), World.cell?_alloc_past _ _ _ (by simp), World.cell?_alloc_at _ _ _ _ (by simp)]; rfl
  · rw [h.cell (by simp), World.cell?_alloc_past _ _ _ (by simp), World.cell?_alloc_at _ _ _ _ (by simp)]; rfl
  · rw [h.cell (by simp), World.cell?_alloc_at _ _ _ _ (by simp)]; rfl
  · rw [h.cell (by simp), World.cell?_alloc_at _ _ _ _ (by simp)]; rfl

theorem arr_lens (w : World) {g : Nat} (hg : w.heap.size = g) (p0 p1 p2 : Bool) (A0 A1 A2 : Option Addr) (n0 c0 n1 c1 n2 c2 : Nat) :
    Lens (w.alloc (.cells #[.bool p0, .slice A0 n0 c0, .bool p1, .slice A1 n1 c1, .bool p2, .slice A2 n2 c2] 24)) g 3 [n0, n1, n2] := by
  subst hg
  refine ⟨rfl, by simp, fun i hi => ?_⟩
  match i, hi with
  | 0, _ => exact ⟨p0, A0, c0, World.cell?_alloc_at _ _ _ _ rfl, World.cell?_alloc_at _ _ _ _ rfl⟩
  | 1, _ => exact ⟨p1, A1, c1, World.cell?_alloc_at _ _ _ _ rfl, World.cell?_alloc_at _ _ _ _ rfl⟩
  | 2, _ => exact ⟨p2, A2, c2, World.cell?_alloc_at _ _ _ _ rfl, World.cell?_alloc_at _ _ _ _ rfl⟩

theorem arr_given {w w1 : World} {p0 p1 p2 : Bool} {A0 A1 A2 : Option Addr} {n0 c0 n1 c1 n2 c2 : Nat} {xs0 xs1 xs2 : List Int} {L : Nat}
    (h0 : Row .u32 w A0 n0 c0 xs0) (h1 : Row .u32 w A1 n1 c1 xs1) (h2 : Row .u32 w A2 n2 c2 xs2) (d0 : Dig xs0) (d1 : Dig xs1) (d2 : Dig xs2) (b0 : n0 ≤ L) (b1 : n1 ≤ L) (b2 : n2 ≤ L)
    (h : Below w.heap.size w w1) {g : Nat} (hg : w1.heap.size = g) :
    Given (w1.alloc (.cells #[.bool p0, .slice A0 n0 c0, .bool p1, .slice A1 n1 c1, .bool p2, .slice A2 n2 c2] 24)) g 3 L [withSign p0 (val xs0), withSign p1 (val xs1), withSign p2 (val xs2)] := by
  subst hg
  have hb := h.trans ((below_alloc w1 (.cells #[.bool p0, .slice A0 n0 c0, .bool p1, .slice A1 n1 c1, .bool p2, .slice A2 n2 c2] 24)).mono h.size)
  refine ⟨rfl, by simp, fun i hi => ?_⟩
  match i, hi with
  | 0, _ => exact ⟨p0, A0, n0, c0, xs0, World.cell?_alloc_at _ _ _ _ rfl, World.cell?_alloc_at _ _ _ _ rfl, h0.below hb, d0, b0, rfl⟩
  | 1, _ => exact ⟨p1, A1, n1, c1, xs1, World.cell?_alloc_at _ _ _ _ rfl, World.cell?_alloc_at _ _ _ _ rfl, h1.below hb, d1, b1, rfl⟩
  | 2, _ => exact ⟨p2, A2, n2, c2, xs2, World.cell?_alloc_at _ _ _ _ rfl, World.cell?_alloc_at _ _ _ _ rfl, h2.below hb, d2, b2, rfl⟩

/-- Three integers of a list, written out. -/
theorem ints_three {w : World} {base L : Nat} {v : Value} {vs : List Value} {x y z : Int} (h : Ints w base v 3 L vs [x, y, z]) :
    ∃ g c q0 B0 m0 e0 q1 B1 m1 e1 q2 B2 m2 e2, v = .slice (some ⟨g, 0, none⟩) 3 c ∧ base ≤ g ∧ g < w.heap.size ∧
      (w.cell? ⟨g, 0, none⟩ = some (.bool q0) ∧ w.cell? ⟨g, 1, none⟩ = some (.slice B0 m0 e0) ∧ w.cell? ⟨g, 2, none⟩ = some (.bool q1) ∧ w.cell? ⟨g, 3, none⟩ = some (.slice B1 m1 e1) ∧ w.cell? ⟨g, 4, none⟩ = some (.bool q2) ∧ w.cell? ⟨g, 5, none⟩ = some (.slice B2 m2 e2)) ∧
      Ival w (.agg #[.bool q0, .slice B0 m0 e0]) x L ∧ Ival w (.agg #[.bool q1, .slice B1 m1 e1]) y L ∧ Ival w (.agg #[.bool q2, .slice B2 m2 e2]) z L := by
  obtain ⟨hl, ho, hall⟩ := h
  match vs, hl with
  | [v0, v1, v2], _ =>
    have i0 := (hall 0 (by omega)).1
    have i1 := (hall 1 (by omega)).1
    have i2 := (hall 2 (by omega)).1
    simp at i0 i1 i2
    obtain ⟨q0, B0, m0, e0, rfl⟩ := i0.form
    obtain ⟨q1, B1, m1, e1, rfl⟩ := i1.form
    obtain ⟨q2, B2, m2, e2, rfl⟩ := i2.form
    have hf : flat [.agg #[.bool q0, .slice B0 m0 e0], .agg #[.bool q1, .slice B1 m1 e1], .agg #[.bool q2, .slice B2 m2 e2]] = [.bool q0, .slice B0 m0 e0, .bool q1, .slice B1 m1 e1, .bool q2, .slice B2 m2 e2] := by
      simp [flat, Value.cells]
    rw [hf] at ho
    rcases id ho.2 with ⟨_, h0⟩ | ⟨g, cap, cur, rfl, hg, hh, _⟩
    · omega
    · exact ⟨g, cap, q0, B0, m0, e0, q1, B1, m1, e1, q2, B2, m2, e2, rfl, hg, (Array.getElem?_eq_some_iff.1 hh).1, ⟨ho.cellAt 0 (by omega), ho.cellAt 1 (by omega), ho.cellAt 2 (by omega), ho.cellAt 3 (by omega), ho.cellAt 4 (by omega), ho.cellAt 5 (by omega)⟩, i0, i1, i2⟩

/-- Three integers in boxes of the call's own, in some order. -/
def Box3 (w : World) (q0 q1 q2 : Bool) (u0 u1 u2 : Value) (v8 v9 v10 : Value) (wx : World) : Prop :=
  ∃ b8 b9 b10, v8 = .pointer (some ⟨b8, 0, none⟩) ∧ v9 = .pointer (some ⟨b9, 0, none⟩) ∧ v10 = .pointer (some ⟨b10, 0, none⟩) ∧ (b8 < wx.heap.size ∧ b9 < wx.heap.size ∧ b10 < wx.heap.size) ∧
    wx.cell? ⟨b8, 0, none⟩ = some (.bool q0) ∧ wx.cell? ⟨b8, 1, none⟩ = some u0 ∧ wx.cell? ⟨b9, 0, none⟩ = some (.bool q1) ∧ wx.cell? ⟨b9, 1, none⟩ = some u1 ∧ wx.cell? ⟨b10, 0, none⟩ = some (.bool q2) ∧ wx.cell? ⟨b10, 1, none⟩ = some u2 ∧ Below w.heap.size w wx

theorem three_new {w : World} {r0 r1 r2 : Bool} {x0 x1 x2 : Value} : ∃ wx, wx = (((w.alloc (.cells #[.bool r0, x0] 28)).alloc (.cells #[.bool r1, x1] 28)).alloc (.cells #[.bool r2, x2] 28)).drew ∧
    (w.heap.size < wx.heap.size ∧ w.heap.size + 1 < wx.heap.size ∧ w.heap.size + 1 + 1 < wx.heap.size) ∧
    wx.cell? ⟨w.heap.size, 0, none⟩ = some (.bool r0) ∧ wx.cell? ⟨w.heap.size, 1, none⟩ = some x0 ∧ wx.cell? ⟨w.heap.size + 1, 0, none⟩ = some (.bool r1) ∧ wx.cell? ⟨w.heap.size + 1, 1, none⟩ = some x1 ∧
    wx.cell? ⟨w.heap.size + 1 + 1, 0, none⟩ = some (.bool r2) ∧ wx.cell? ⟨w.heap.size + 1 + 1, 1, none⟩ = some x2 ∧ Below w.heap.size w wx := by
  refine ⟨_, rfl, ⟨by show _ < _; simp; omega, by show _ < _; simp, by show _ < _; simp⟩, ?_, ?_, ?_, ?_, ?_, ?_, ?_⟩
  · show World.cell? (((w.alloc _).alloc _).alloc _) _ = _
    rw [World.cell?_alloc_past _ _ _ (by simp; omega), World.cell?_alloc_past _ _ _ (by simp), World.cell?_alloc_at _ _ _ _ rfl]; rfl
  · show World.cell? (((w.alloc _).alloc _).alloc _) _ = _
    rw [World.cell?_alloc_past _ _ _ (by simp; omega), World.cell?_alloc_past _ _ _ (by simp), World.cell?_alloc_at _ _ _ _ rfl]; rfl
  · show World.cell? (((w.alloc _).alloc _).alloc _) _ = _
    rw [World.cell?_alloc_past _ _ _ (by simp), World.cell?_alloc_at _ _ _ _ (by simp)]; rfl
  · show World.cell? (((w.alloc _).alloc _).alloc _) _ = _
    rw [World.cell?_alloc_past _ _ _ (by simp), World.cell?_alloc_at _ _ _ _ (by simp)]; rfl
  · show World.cell? (((w.alloc _).alloc _).alloc _) _ = _
    rw [World.cell?_alloc_at _ _ _ _ (by simp)]; rfl
  · show World.cell? (((w.alloc _).alloc _).alloc _) _ = _
    rw [World.cell?_alloc_at _ _ _ _ (by simp)]; rfl
  · exact ((below_two w _ _).alloc (by simp; omega) _).drew

/-- Whatever the order in which the boxes were made. -/
theorem box3_any {w : World} {q0 q1 q2 : Bool} {u0 u1 u2 : Value} :
    Box3 w q0 q1 q2 u0 u1 u2 (.pointer (some ⟨w.heap.size, 0, none⟩)) (.pointer (some ⟨w.heap.size + 1, 0, none⟩)) (.pointer (some ⟨w.heap.size + 1 + 1, 0, none⟩)) (((w.alloc (.cells #[.bool q0, u0] 28)).alloc (.cells #[.bool q1, u1] 28)).alloc (.cells #[.bool q2, u2] 28)).drew ∧
    Box3 w q0 q1 q2 u0 u1 u2 (.pointer (some ⟨w.heap.size, 0, none⟩)) (.pointer (some ⟨w.heap.size + 1 + 1, 0, none⟩)) (.pointer (some ⟨w.heap.size + 1, 0, none⟩)) (((w.alloc (.cells #[.bool q0, u0] 28)).alloc (.cells #[.bool q2, u2] 28)).alloc (.cells #[.bool q1, u1] 28)).drew ∧
    Box3 w q0 q1 q2 u0 u1 u2 (.pointer (some ⟨w.heap.size + 1, 0, none⟩)) (.pointer (some ⟨w.heap.size, 0, none⟩)) (.pointer (some ⟨w.heap.size + 1 + 1, 0, none⟩)) (((w.alloc (.cells #[.bool q1, u1] 28)).alloc (.cells #[.bool q0, u0] 28)).alloc (.cells #[.bool q2, u2] 28)).drew ∧
    Box3 w q0 q1 q2 u0 u1 u2 (.pointer (some ⟨w.heap.size + 1 + 1, 0, none⟩)) (.pointer (some ⟨w.heap.size, 0, none⟩)) (.pointer (some ⟨w.heap.size + 1, 0, none⟩)) (((w.alloc (.cells #[.bool q1, u1] 28)).alloc (.cells #[.bool q2, u2] 28)).alloc (.cells #[.bool q0, u0] 28)).drew ∧
    Box3 w q0 q1 q2 u0 u1 u2 (.pointer (some ⟨w.heap.size + 1, 0, none⟩)) (.pointer (some ⟨w.heap.size + 1 + 1, 0, none⟩)) (.pointer (some ⟨w.heap.size, 0, none⟩)) (((w.alloc (.cells #[.bool q2, u2] 28)).alloc (.cells #[.bool q0, u0] 28)).alloc (.cells #[.bool q1, u1] 28)).drew ∧
    Box3 w q0 q1 q2 u0 u1 u2 (.pointer (some ⟨w.heap.size + 1 + 1, 0, none⟩)) (.pointer (some ⟨w.heap.size + 1, 0, none⟩)) (.pointer (some ⟨w.heap.size, 0, none⟩)) (((w.alloc (.cells #[.bool q2, u2] 28)).alloc (.cells #[.bool q1, u1] 28)).alloc (.cells #[.bool q0, u0] 28)).drew := by
  refine ⟨?_, ?_, ?_, ?_, ?_, ?_⟩
  · obtain ⟨wx, e, ⟨s0, s1, s2⟩, h0, h1, h2, h3, h4, h5, hb⟩ := three_new (w := w) (r0 := q0) (r1 := q1) (r2 := q2) (x0 := u0) (x1 := u1) (x2 := u2)
    rw [← e]
    exact ⟨_, _, _, rfl, rfl, rfl, ⟨s0, s1, s2⟩, h0, h1, h2, h3, h4, h5, hb⟩
  · obtain ⟨wx, e, ⟨s0, s1, s2⟩, h0, h1, h2, h3, h4, h5, hb⟩ := three_new (w := w) (r0 := q0) (r1 := q2) (r2 := q1) (x0 := u0) (x1 := u2) (x2 := u1)
    rw [← e]
    exact ⟨_, _, _, rfl, rfl, rfl, ⟨s0, s2, s1⟩, h0, h1, h4, h5, h2, h3, hb⟩
  · obtain ⟨wx, e, ⟨s0, s1, s2⟩, h0, h1, h2, h3, h4, h5, hb⟩ := three_new (w := w) (r0 := q1) (r1 := q0) (r2 := q2) (x0 := u1) (x1 := u0) (x2 := u2)
    rw [← e]
    exact ⟨_, _, _, rfl, rfl, rfl, ⟨s1, s0, s2⟩, h2, h3, h0, h1, h4, h5, hb⟩
  · obtain ⟨wx, e, ⟨s0, s1, s2⟩, h0, h1, h2, h3, h4, h5, hb⟩ := three_new (w := w) (r0 := q1) (r1 := q2) (r2 := q0) (x0 := u1) (x1 := u2) (x2 := u0)
    rw [← e]
    exact ⟨_, _, _, rfl, rfl, rfl, ⟨s2, s0, s1⟩, h4, h5, h0, h1, h2, h3, hb⟩
  · obtain ⟨wx, e, ⟨s0, s1, s2⟩, h0, h1, h2, h3, h4, h5, hb⟩ := three_new (w := w) (r0 := q2) (r1 := q0) (r2 := q1) (x0 := u2) (x1 := u0) (x2 := u1)
    rw [← e]
    exact ⟨_, _, _, rfl, rfl, rfl, ⟨s1, s2, s0⟩, h2, h3, h4, h5, h0, h1, hb⟩
  · obtain ⟨wx, e, ⟨s0, s1, s2⟩, h0, h1, h2, h3, h4, h5, hb⟩ := three_new (w := w) (r0 := q2) (r1 := q1) (r2 := q0) (x0 := u2) (x1 := u1) (x2 := u0)
    rw [← e]
    exact ⟨_, _, _, rfl, rfl, rfl, ⟨s2, s1, s0⟩, h4, h5, h2, h3, h0, h1, hb⟩

theorem cmp_is (u v : Value) (x y a : Int) (L M : Nat) (w : World) (h : Ival w u x L) (g : Ival w v y M) (hL : L ≤ 1073741824) (hM : M ≤ 1073741824) (ha : cmpI x y = a) :
    Calls Try.prog 32 #[u, v] w fun e w' => e = .returned (.int .i64 a) ∧ Below w.heap.size w w' := ha ▸ cmp_int u v x y L M w h g hL hM

theorem sign_is (u : Value) (x a : Int) (L : Nat) (w : World) (h : Ival w u x L) (ha : cmpI x 0 = a) :
    Calls Try.prog 22 #[u] w fun e w' => e = .returned (.int .i64 a) ∧ Below w.heap.size w w' := ha ▸ sign_int u x L w h

theorem cmpI_cases (x y : Int) : (cmpI x y = -1 ∧ cmpI y x = 1 ∧ x < y) ∨ (cmpI x y = 0 ∧ cmpI y x = 0 ∧ x = y) ∨ (cmpI x y = 1 ∧ cmpI y x = -1 ∧ y < x) := by
  rcases Int.lt_trichotomy x y with h | h | h
  · exact .inl ⟨cmpI_lt h, cmpI_gt h, h⟩
  · exact .inr (.inl ⟨cmpI_eq h, cmpI_eq h.symm, h⟩)
  · exact .inr (.inr ⟨cmpI_gt h, cmpI_lt h, h⟩)

theorem cmpI_add (x y z : Int) : cmpI (x + z) (y + z) = cmpI x y := by
  rcases cmpI_cases x y with ⟨h, _, g⟩ | ⟨h, _, g⟩ | ⟨h, _, g⟩
  · rw [h, cmpI_lt (by omega)]
  · rw [h, cmpI_eq (by omega)]
  · rw [h, cmpI_gt (by omega)]

theorem cmpI_mul (x y z : Int) (hz : 0 < z) : cmpI (x * z) (y * z) = cmpI x y := by
  rcases cmpI_cases x y with ⟨h, _, g⟩ | ⟨h, _, g⟩ | ⟨h, _, g⟩
  · rw [h, cmpI_lt (Int.mul_lt_mul_of_pos_right g hz)]
  · rw [h, cmpI_eq (by rw [g])]
  · rw [h, cmpI_gt (Int.mul_lt_mul_of_pos_right g hz)]

theorem cmpI_le {x y : Int} : cmpI x y ≤ 0 ↔ x ≤ y := by
  rcases cmpI_cases x y with ⟨h, _, g⟩ | ⟨h, _, g⟩ | ⟨h, _, g⟩ <;> rw [h] <;> omega

theorem cmpI_pos {x y : Int} : 0 < cmpI x y ↔ y < x := by
  rcases cmpI_cases x y with ⟨h, _, g⟩ | ⟨h, _, g⟩ | ⟨h, _, g⟩ <;> rw [h] <;> omega

theorem Ival.zero (w : World) : Ival w (.agg #[.bool false, .slice none 0 0]) 0 0 :=
  ⟨false, _, 0, rfl, ⟨none, 0, 0, [], rfl, Row.nil_, Dig.nil, .inl rfl, rfl, Nat.le_refl _⟩, Int.le_refl _, rfl, by simp⟩

/-- The boxes in a later world. -/
theorem box_held {w w' : World} {b8 b9 b10 : Nat} (s8 : b8 < w.heap.size) (s9 : b9 < w.heap.size) (s10 : b10 < w.heap.size) {u0 u1 u2 u3 u4 u5 : Value} (h0 : w.cell? ⟨b8, 0, none⟩ = some u0) (h1 : w.cell? ⟨b8, 1, none⟩ = some u1) (h2 : w.cell? ⟨b9, 0, none⟩ = some u2) (h3 : w.cell? ⟨b9, 1, none⟩ = some u3) (h4 : w.cell? ⟨b10, 0, none⟩ = some u4) (h5 : w.cell? ⟨b10, 1, none⟩ = some u5) (h : Below w.heap.size w w') :
    w'.cell? ⟨b8, 0, none⟩ = some u0 ∧ w'.cell? ⟨b8, 1, none⟩ = some u1 ∧ w'.cell? ⟨b9, 0, none⟩ = some u2 ∧ w'.cell? ⟨b9, 1, none⟩ = some u3 ∧ w'.cell? ⟨b10, 0, none⟩ = some u4 ∧ w'.cell? ⟨b10, 1, none⟩ = some u5 ∧ Below w.heap.size w w' :=
  ⟨(h.cell (by exact s8)).trans h0, (h.cell (by exact s8)).trans h1, (h.cell (by exact s9)).trans h2, (h.cell (by exact s9)).trans h3, (h.cell (by exact s10)).trans h4, (h.cell (by exact s10)).trans h5, h⟩

theorem below_step {w w' : World} (h : Below w.heap.size w w') (o : Obj) : Below w.heap.size w (w'.alloc o) := h.alloc h.size o

theorem ints_held {w w' : World} {g : Nat} (hg : g < w.heap.size) {u0 u1 u2 u3 u4 u5 : Value} (h0 : w.cell? ⟨g, 0, none⟩ = some u0) (h1 : w.cell? ⟨g, 1, none⟩ = some u1) (h2 : w.cell? ⟨g, 2, none⟩ = some u2) (h3 : w.cell? ⟨g, 3, none⟩ = some u3) (h4 : w.cell? ⟨g, 4, none⟩ = some u4) (h5 : w.cell? ⟨g, 5, none⟩ = some u5) (h : Below w.heap.size w w') :
    w'.cell? ⟨g, 0, none⟩ = some u0 ∧ w'.cell? ⟨g, 1, none⟩ = some u1 ∧ w'.cell? ⟨g, 2, none⟩ = some u2 ∧ w'.cell? ⟨g, 3, none⟩ = some u3 ∧ w'.cell? ⟨g, 4, none⟩ = some u4 ∧ w'.cell? ⟨g, 5, none⟩ = some u5 ∧ Below w.heap.size w w' :=
  ⟨(h.cell (by exact hg)).trans h0, (h.cell (by exact hg)).trans h1, (h.cell (by exact hg)).trans h2, (h.cell (by exact hg)).trans h3, (h.cell (by exact hg)).trans h4, (h.cell (by exact hg)).trans h5, h⟩

end Go.Proofs.Ytoanomgdkkbbmaa
