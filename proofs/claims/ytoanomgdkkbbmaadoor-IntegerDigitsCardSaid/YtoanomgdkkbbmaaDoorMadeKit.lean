/- The lists that 'made' takes and returns, of one integer and of three. -/
import Derived.Test.YtoanomgdkkbbmaaDoorFx
namespace Go.Proofs.YtoanomgdkkbbmaaDoor
open Go.RowKit LM

theorem ints1 {w : World} {base L : Nat} {v : Value} {vs : List Value} {x : Int} (h : Ints w base v 1 L vs [x]) :
    ∃ g c q0 B0 m0 e0, v = .slice (some ⟨g, 0, none⟩) 1 c ∧ g < w.heap.size ∧
      (w.cell? ⟨g, 0, none⟩ = some (.bool q0) ∧ w.cell? ⟨g, 1, none⟩ = some (.slice B0 m0 e0)) ∧ Ival w (.agg #[.bool q0, .slice B0 m0 e0]) x L := by
  obtain ⟨hl, ho, hall⟩ := h
  match vs, hl with
  | [v0], _ =>
    have i0 := (hall 0 (by omega)).1
    simp at i0
    obtain ⟨q0, B0, m0, e0, rfl⟩ := i0.form
    have hf : flat [.agg #[.bool q0, .slice B0 m0 e0]] = [.bool q0, .slice B0 m0 e0] := by
      simp [flat, Value.cells]
    rw [hf] at ho
    rcases id ho.2 with ⟨_, h0⟩ | ⟨g, cap, cur, rfl, hg, hh, _⟩
    · simp at h0
    · exact ⟨g, cap, q0, B0, m0, e0, rfl, (Array.getElem?_eq_some_iff.1 hh).1, ⟨ho.cellAt 0 (by omega), ho.cellAt 1 (by omega)⟩, i0⟩

theorem given1 {w w1 : World} {p0 : Bool} {A0 : Option Addr} {n0 c0 : Nat} {xs0 : List Int} {L : Nat}
    (h0 : Row .u32 w A0 n0 c0 xs0) (d0 : Dig xs0) (b0 : n0 ≤ L) (h : Below w.heap.size w w1) {g : Nat} (hg : w1.heap.size = g) :
    Given (w1.alloc (.cells #[.bool p0, .slice A0 n0 c0] 24)) g 1 L [withSign p0 (val xs0)] := by
  subst hg
  have hb := h.trans ((below_alloc w1 (.cells #[.bool p0, .slice A0 n0 c0] 24)).mono h.size)
  refine ⟨rfl, by simp, fun i hi => ?_⟩
  match i, hi with
  | 0, _ => exact ⟨p0, A0, n0, c0, xs0, World.cell?_alloc_at _ _ _ _ rfl, World.cell?_alloc_at _ _ _ _ rfl, h0.below hb, d0, b0, rfl⟩

theorem ints3 {w : World} {base L : Nat} {v : Value} {vs : List Value} {x y z : Int} (h : Ints w base v 3 L vs [x, y, z]) :
    ∃ g c q0 B0 m0 e0 q1 B1 m1 e1 q2 B2 m2 e2, v = .slice (some ⟨g, 0, none⟩) 3 c ∧ g < w.heap.size ∧
      (w.cell? ⟨g, 0, none⟩ = some (.bool q0) ∧ w.cell? ⟨g, 1, none⟩ = some (.slice B0 m0 e0) ∧ w.cell? ⟨g, 2, none⟩ = some (.bool q1) ∧ w.cell? ⟨g, 3, none⟩ = some (.slice B1 m1 e1) ∧ w.cell? ⟨g, 4, none⟩ = some (.bool q2) ∧ w.cell? ⟨g, 5, none⟩ = some (.slice B2 m2 e2)) ∧
      Ival w (.agg #[.bool q0, .slice B0 m0 e0]) x L ∧ Ival w (.agg #[.bool q1, .slice B1 m1 e1]) y L ∧ Ival w (.agg #[.bool q2, .slice B2 m2 e2]) z L := by
  obtain ⟨hl, ho, hall⟩ := h
  match vs, hl with
  | [v0, v1, v2], _ =>
    have i0 := (hall 0 (by omega)).1
    have i1 := (hall 1 (by omega)).1
    have i2 := (hall 2 (by omega)).1
    simp at i0 i1 i2
    obtain ⟨q0, B0, m0, e0, rfl⟩ := i0.form
    obtain ⟨q1, B1, m1, e1, rfl⟩ := i1.form
    obtain ⟨q2, B2, m2, e2, rfl⟩ := i2.form
    have hf : flat [.agg #[.bool q0, .slice B0 m0 e0], .agg #[.bool q1, .slice B1 m1 e1], .agg #[.bool q2, .slice B2 m2 e2]] = [.bool q0, .slice B0 m0 e0, .bool q1, .slice B1 m1 e1, .bool q2, .slice B2 m2 e2] := by
      simp [flat, Value.cells]
    rw [hf] at ho
    rcases id ho.2 with ⟨_, h0⟩ | ⟨g, cap, cur, rfl, hg, hh, _⟩
    · simp at h0
    · exact ⟨g, cap, q0, B0, m0, e0, q1, B1, m1, e1, q2, B2, m2, e2, rfl, (Array.getElem?_eq_some_iff.1 hh).1, ⟨ho.cellAt 0 (by omega), ho.cellAt 1 (by omega), ho.cellAt 2 (by omega), ho.cellAt 3 (by omega), ho.cellAt 4 (by omega), ho.cellAt 5 (by omega)⟩, i0, i1, i2⟩

theorem given3 {w w1 : World} {p0 p1 p2 : Bool} {A0 A1 A2 : Option Addr} {n0 c0 n1 c1 n2 c2 : Nat} {xs0 xs1 xs2 : List Int} {L : Nat}
    (h0 : Row .u32 w A0 n0 c0 xs0) (h1 : Row .u32 w A1 n1 c1 xs1) (h2 : Row .u32 w A2 n2 c2 xs2) (d0 : Dig xs0) (d1 : Dig xs1) (d2 : Dig xs2) (b0 : n0 ≤ L) (b1 : n1 ≤ L) (b2 : n2 ≤ L)
    (h : Below w.heap.size w w1) {g : Nat} (hg : w1.heap.size = g) :
    Given (w1.alloc (.cells #[.bool p0, .slice A0 n0 c0, .bool p1, .slice A1 n1 c1, .bool p2, .slice A2 n2 c2] 24)) g 3 L [withSign p0 (val xs0), withSign p1 (val xs1), withSign p2 (val xs2)] := by
  subst hg
  have hb := h.trans ((below_alloc w1 (.cells #[.bool p0, .slice A0 n0 c0, .bool p1, .slice A1 n1 c1, .bool p2, .slice A2 n2 c2] 24)).mono h.size)
  refine ⟨rfl, by simp, fun i hi => ?_⟩
  match i, hi with
  | 0, _ => exact ⟨p0, A0, n0, c0, xs0, World.cell?_alloc_at _ _ _ _ rfl, World.cell?_alloc_at _ _ _ _ rfl, h0.below hb, d0, b0, rfl⟩
  | 1, _ => exact ⟨p1, A1, n1, c1, xs1, World.cell?_alloc_at _ _ _ _ rfl, World.cell?_alloc_at _ _ _ _ rfl, h1.below hb, d1, b1, rfl⟩
  | 2, _ => exact ⟨p2, A2, n2, c2, xs2, World.cell?_alloc_at _ _ _ _ rfl, World.cell?_alloc_at _ _ _ _ rfl, h2.below hb, d2, b2, rfl⟩

theorem Fx.new1 (w : World) (p q : Bool) (u v : Value) (t s : TypeId) : Fx ((w.alloc (.cells #[.bool p, u] t)).alloc (.cells #[.bool q, v] s)) w.heap.size (.bool p) u :=
  (Fx.new w (.bool p) u t).below (below_alloc _ _)

theorem Fx.new2 (w : World) (p q : Bool) (u v : Value) (t s : TypeId) : Fx ((w.alloc (.cells #[.bool p, u] t)).alloc (.cells #[.bool q, v] s)) (w.heap.size + 1) (.bool q) v := by
  have h := Fx.new (w.alloc (.cells #[.bool p, u] t)) (.bool q) v s
  have e : (w.alloc (.cells #[.bool p, u] t)).heap.size = w.heap.size + 1 := by simp
  rw [e] at h
  exact h

end Go.Proofs.YtoanomgdkkbbmaaDoor
