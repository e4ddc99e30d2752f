/- What the walks of laws share: boxes that hold integers, and the lists that Short is asked with. -/
import Derived.Test.YtoanomgdkkbbmaaDoorLawCore
import Derived.Test.YtoanomgdkkbbmaaDoorLens0
namespace Go.Proofs.YtoanomgdkkbbmaaDoor
open Go.RowKit LM

theorem lens1 (w : World) {g : Nat} (hg : w.heap.size = g) (p : Bool) (A : Option Addr) (n c : Nat) :
    Lens (w.alloc (.cells #[.bool p, .slice A n c] 24)) g 1 [n] := by
  subst hg
  refine ⟨rfl, by simp, fun i hi => ?_⟩
  match i, hi with
  | 0, _ => exact ⟨p, A, c, World.cell?_alloc_at _ _ _ _ rfl, World.cell?_alloc_at _ _ _ _ rfl⟩

theorem lens2 (w : World) {g : Nat} (hg : w.heap.size = g) (p q : Bool) (A B : Option Addr) (n c m d : Nat) :
    Lens (w.alloc (.cells #[.bool p, .slice A n c, .bool q, .slice B m d] 24)) g 2 [n, m] := by
  subst hg
  refine ⟨rfl, by simp, fun i hi => ?_⟩
  match i, hi with
  | 0, _ => exact ⟨p, A, c, World.cell?_alloc_at _ _ _ _ rfl, World.cell?_alloc_at _ _ _ _ rfl⟩
  | 1, _ => exact ⟨q, B, d, World.cell?_alloc_at _ _ _ _ rfl, World.cell?_alloc_at _ _ _ _ rfl⟩

theorem lens3 (w : World) {g : Nat} (hg : w.heap.size = g) (p q r : Bool) (A B C : Option Addr) (n c m d k f : Nat) :
    Lens (w.alloc (.cells #[.bool p, .slice A n c, .bool q, .slice B m d, .bool r, .slice C k f] 24)) g 3 [n, m, k] := by
  subst hg
  refine ⟨rfl, by simp, fun i hi => ?_⟩
  match i, hi with
  | 0, _ => exact ⟨p, A, c, World.cell?_alloc_at _ _ _ _ rfl, World.cell?_alloc_at _ _ _ _ rfl⟩
  | 1, _ => exact ⟨q, B, d, World.cell?_alloc_at _ _ _ _ rfl, World.cell?_alloc_at _ _ _ _ rfl⟩
  | 2, _ => exact ⟨r, C, f, World.cell?_alloc_at _ _ _ _ rfl, World.cell?_alloc_at _ _ _ _ rfl⟩

/-- A box of two cells. -/
def Bx (w : World) (b : Nat) (v0 v1 : Value) : Prop := b < w.heap.size ∧ w.cell? ⟨b, 0, none⟩ = some v0 ∧ w.cell? ⟨b, 1, none⟩ = some v1

theorem Bx.below {w w' : World} {b : Nat} {v0 v1 : Value} (h : Bx w b v0 v1) (hb : Below w.heap.size w w') : Bx w' b v0 v1 :=
  ⟨Nat.lt_of_lt_of_le h.1 hb.size, (hb.cell (p := ⟨b, 0, none⟩) h.1).trans h.2.1, (hb.cell (p := ⟨b, 1, none⟩) h.1).trans h.2.2⟩

theorem Bx.new (w : World) (p : Bool) (u : Value) (t : TypeId) : Bx (w.alloc (.cells #[.bool p, u] t)) w.heap.size (.bool p) u :=
  ⟨by simp, World.cell?_alloc_at _ _ _ _ rfl, World.cell?_alloc_at _ _ _ _ rfl⟩

theorem Bx.new1 (w : World) (p q : Bool) (u v : Value) (t s : TypeId) : Bx ((w.alloc (.cells #[.bool p, u] t)).alloc (.cells #[.bool q, v] s)) w.heap.size (.bool p) u :=
  (Bx.new w p u t).below (below_alloc _ _)

theorem Bx.new2 (w : World) (p q : Bool) (u v : Value) (t s : TypeId) : Bx ((w.alloc (.cells #[.bool p, u] t)).alloc (.cells #[.bool q, v] s)) (w.heap.size + 1) (.bool q) v := by
  have h := Bx.new (w.alloc (.cells #[.bool p, u] t)) q v s
  have e : (w.alloc (.cells #[.bool p, u] t)).heap.size = w.heap.size + 1 := by simp
  rw [e] at h
  exact h

end Go.Proofs.YtoanomgdkkbbmaaDoor
