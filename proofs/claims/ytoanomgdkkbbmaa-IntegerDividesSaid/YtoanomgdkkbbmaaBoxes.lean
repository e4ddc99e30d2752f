/- Boxes: variables of a law that hold integers, all of them at once. -/
import Derived.Test.YtoanomgdkkbbmaaLawCore
namespace Go.Proofs.Ytoanomgdkkbbmaa
open Go.RowKit LM

/-- The cells of block b hold an integer of value z. -/
def BoxV (w : World) (b : Nat) (z : Int) (L : Nat) : Prop :=
  b < w.heap.size ∧ ∃ g A n c, w.cell? ⟨b, 0, none⟩ = some (.bool g) ∧ w.cell? ⟨b, 1, none⟩ = some (.slice A n c) ∧ Ival w (.agg #[.bool g, .slice A n c]) z L

theorem BoxV.below {w w' : World} {b : Nat} {z : Int} {L : Nat} (h : BoxV w b z L) (hb : Below w.heap.size w w') : BoxV w' b z L := by
  obtain ⟨h1, g, A, n, c, c0, c1, hv⟩ := h
  exact ⟨Nat.lt_of_lt_of_le h1 hb.size, g, A, n, c, (hb.cell (p := ⟨b, 0, none⟩) h1).trans c0, (hb.cell (p := ⟨b, 1, none⟩) h1).trans c1, hv.below hb⟩

/-- A list of such boxes. -/
def Boxes (w : World) (l : List (Nat × Int × Nat)) : Prop := ∀ t ∈ l, BoxV w t.1 t.2.1 t.2.2

theorem Boxes.below {w w' : World} {l : List (Nat × Int × Nat)} (h : Boxes w l) (hb : Below w.heap.size w w') : Boxes w' l := fun t ht => (h t ht).below hb

theorem Boxes.nil {w : World} : Boxes w [] := fun t ht => by simp at ht

theorem Boxes.get {w : World} {l : List (Nat × Int × Nat)} (h : Boxes w l) {b : Nat} {z : Int} {L : Nat} (hm : (b, z, L) ∈ l) : BoxV w b z L := h _ hm

/-- A new box. -/
theorem Boxes.add {w : World} {l : List (Nat × Int × Nat)} (h : Boxes w l) {g : Bool} {A : Option Addr} {n c L : Nat} {z : Int} (t : TypeId) (hv : Ival w (.agg #[.bool g, .slice A n c]) z L) :
    Boxes (w.alloc (.cells #[.bool g, .slice A n c] t)) ((w.heap.size, z, L) :: l) := by
  have hb := below_alloc w (.cells #[.bool g, .slice A n c] t)
  intro x hx
  rcases List.mem_cons.1 hx with rfl | hx
  · refine ⟨by simp, g, A, n, c, ?_, ?_, hv.below hb⟩
    · rw [World.cell?_alloc_at _ _ _ _ rfl]; rfl
    · rw [World.cell?_alloc_at _ _ _ _ rfl]; rfl
  · exact (h x hx).below hb

/-- The room for a result, as it was made. -/
theorem room_at {v w' : World} (h : Below (v.heap.size + 1) (v.alloc (.cells #[.bool false, .slice none 0 0] 28)) w') :
    w'.cell? ⟨v.heap.size, 0, none⟩ = some (.bool false) ∧ w'.cell? ⟨v.heap.size, 1, none⟩ = some (.slice none 0 0) ∧ w'.frozen? ⟨v.heap.size, 0, none⟩ = false ∧ w'.frozen? ⟨v.heap.size, 1, none⟩ = false := by
  refine ⟨?_, ?_, ?_, ?_⟩
  · rw [h.cell (by simp), World.cell?_alloc_at _ _ _ _ (by simp)]; rfl
  · rw [h.cell (by simp), World.cell?_alloc_at _ _ _ _ (by simp)]; rfl
  · rw [h.frozen (by simp)]; exact World.frozen?_alloc_at _ _ _ _ (by simp)
  · rw [h.frozen (by simp)]; exact World.frozen?_alloc_at _ _ _ _ (by simp)

end Go.Proofs.Ytoanomgdkkbbmaa
