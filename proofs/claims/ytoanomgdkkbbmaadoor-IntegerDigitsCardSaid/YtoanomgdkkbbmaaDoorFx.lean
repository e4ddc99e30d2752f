/- Boxes that a region makes and fills, whatever the order of its allocations. -/
import Derived.Test.YtoanomgdkkbbmaaDoorLawKit
import Derived.Deep.DeepCutAuto
namespace Go.Proofs.YtoanomgdkkbbmaaDoor
open Go.RowKit LM

/-- A box of two cells that may be written. -/
def Fx (w : World) (b : Nat) (v0 v1 : Value) : Prop :=
  w.cell? ⟨b, 0, none⟩ = some v0 ∧ w.cell? ⟨b, 1, none⟩ = some v1 ∧ w.frozen? ⟨b, 0, none⟩ = false ∧ w.frozen? ⟨b, 1, none⟩ = false ∧ b < w.heap.size

theorem Fx.below {w w' : World} {b : Nat} {v0 v1 : Value} (h : Fx w b v0 v1) (hb : Below w.heap.size w w') : Fx w' b v0 v1 := by
  obtain ⟨h1, h2, h3, h4, h5⟩ := h
  exact ⟨(hb.cell (p := ⟨b, 0, none⟩) h5).trans h1, (hb.cell (p := ⟨b, 1, none⟩) h5).trans h2, (hb.frozen (p := ⟨b, 0, none⟩) h5).trans h3, (hb.frozen (p := ⟨b, 1, none⟩) h5).trans h4, Nat.lt_of_lt_of_le h5 hb.size⟩

theorem Fx.new (w : World) (v0 v1 : Value) (t : TypeId) : Fx (w.alloc (.cells #[v0, v1] t)) w.heap.size v0 v1 :=
  ⟨World.cell?_alloc_at _ _ _ _ rfl, World.cell?_alloc_at _ _ _ _ rfl, World.frozen?_alloc_at _ _ _ _ rfl, World.frozen?_alloc_at _ _ _ _ rfl, by simp⟩

theorem Fx.store {w : World} {b : Nat} {u0 u1 : Value} (h : Fx w b u0 u1) (v0 v1 : Value) : Fx ((w.setCell ⟨b, 0, none⟩ v0).setCell ⟨b, 1, none⟩ v1) b v0 v1 := by
  obtain ⟨h1, h2, h3, h4, h5⟩ := h
  refine ⟨?_, ?_, by simpa using h3, by simpa using h4, by simpa using h5⟩
  · rw [World.cell?_setCell_other _ _ _ _ (by simp)]; exact World.cell?_setCell_same _ _ _ h1
  · exact World.cell?_setCell_same _ _ _ ((World.cell?_setCell_other _ _ _ _ (by simp)).trans h2)

theorem Fx.other {w : World} {b c : Nat} {u0 u1 : Value} (h : Fx w b u0 u1) (hne : c ≠ b) (v0 v1 : Value) : Fx ((w.setCell ⟨c, 0, none⟩ v0).setCell ⟨c, 1, none⟩ v1) b u0 u1 := by
  obtain ⟨h1, h2, h3, h4, h5⟩ := h
  refine ⟨?_, ?_, by simpa using h3, by simpa using h4, by simpa using h5⟩
  · rw [World.cell?_setCell_other _ _ _ _ (by simp; try omega), World.cell?_setCell_other _ _ _ _ (by simp; try omega)]; exact h1
  · rw [World.cell?_setCell_other _ _ _ _ (by simp; try omega), World.cell?_setCell_other _ _ _ _ (by simp; try omega)]; exact h2

theorem Rval.fx {w : World} {s : Value} {z : Int} {L : Nat} (h : Rval w s z L) {b : Nat} {g : Bool} {A : Option Addr} {n c : Nat} (F : Fx w b (.bool g) (.slice A n c)) (x y : Value) : Rval ((w.setCell ⟨b, 0, none⟩ x).setCell ⟨b, 1, none⟩ y) s z L := by
  obtain ⟨neg, A', n', c', ds, e, hr, t⟩ := h
  refine ⟨neg, A', n', c', ds, e, (hr.setOther (fun u => by rw [F.1]; simp) x).setOther (fun u => ?_) y, t⟩
  rw [World.cell?_setCell_other _ _ _ _ (by simp), F.2.1]; simp

theorem Ival.fx {w : World} {s : Value} {z : Int} {L : Nat} (h : Ival w s z L) {b : Nat} {g : Bool} {A : Option Addr} {n c : Nat} (F : Fx w b (.bool g) (.slice A n c)) (x y : Value) : Ival ((w.setCell ⟨b, 0, none⟩ x).setCell ⟨b, 1, none⟩ y) s z L := by
  refine (h.setOther (fun u => by rw [F.1]; simp) x).setOther (fun u => ?_) y
  rw [World.cell?_setCell_other _ _ _ _ (by simp), F.2.1]; simp

end Go.Proofs.YtoanomgdkkbbmaaDoor
