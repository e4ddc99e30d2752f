/- IntegerTexts: the walk. -/
import Derived.Test.YtoanomgdkkbbmaaDoorRText
import Derived.Test.YtoanomgdkkbbmaaDoorLawCore
import Derived.Test.YtoanomgdkkbbmaaDoorLens0
import Derived.Deep.DeepCutAuto
namespace Go.Proofs.YtoanomgdkkbbmaaDoor
open Go.RowKit LM

/-- What Text answers: a text and an error. -/
def TextRel (R x : Int) (T : ByteArray) (err : Int) : Prop :=
  ((R < 2 ∨ 36 < R) ∧ T = ⟨#[]⟩ ∧ err = 1) ∨ (2 ≤ R ∧ R ≤ 36 ∧ x = 0 ∧ T = ⟨#[48]⟩ ∧ err = 0) ∨
  (2 ≤ R ∧ R ≤ 36 ∧ x ≠ 0 ∧ err = 0 ∧ ∃ ds, DigitsOf R (if x < 0 then -x else x) ds ∧ bs T = textBytes (decide (x < 0)) ds)

theorem TextRel.det {R x : Int} {T T' : ByteArray} {r r' : Int} (h : TextRel R x T r) (g : TextRel R x T' r') : T = T' ∧ r = r' := by
  unfold TextRel at h g
  rcases h with h | h | h <;> rcases g with g | g | g
  · exact ⟨h.2.1.trans g.2.1.symm, h.2.2.trans g.2.2.symm⟩
  · exfalso; have := h.1; have := g.1; have := g.2.1; omega
  · exfalso; have := h.1; have := g.1; have := g.2.1; omega
  · exfalso; have := g.1; have := h.1; have := h.2.1; omega
  · exact ⟨h.2.2.2.1.trans g.2.2.2.1.symm, h.2.2.2.2.trans g.2.2.2.2.symm⟩
  · exact absurd h.2.2.1 g.2.2.1
  · exfalso; have := g.1; have := h.1; have := h.2.1; omega
  · exact absurd g.2.2.1 h.2.2.1
  · obtain ⟨hR, _, _, he, ds, hd, hb⟩ := h
    obtain ⟨_, _, _, ge, es, gd, gb⟩ := g
    have := digits_unique hR hd gd
    subst this
    exact ⟨bs_inj (hb.trans gb.symm), he.trans ge.symm⟩

theorem textBytes_ok {R z : Int} {ds : List Int} {neg : Bool} (h : DigitsOf R z ds) (hR : R ≤ 36) : ∀ x ∈ textBytes neg ds, 0 ≤ x ∧ x < 256 := by
  intro x hx
  unfold textBytes at hx
  rcases List.mem_append.1 hx with hx | hx
  · cases neg with
    | false => simp at hx
    | true => simp at hx; subst hx; decide
  · rw [List.mem_reverse] at hx
    obtain ⟨d, hd, rfl⟩ := List.mem_map.1 hx
    have := h.1 d hd
    exact nameOf_byte this.1 (by omega)

theorem Text_all (u : Value) (x R : Int) (L : Nat) (w : World) (h : Ival w u x L) (hL : L ≤ 1048576) :
    Calls Tryd.prog 7 #[u, .int .i64 R] w fun e w' => (∃ T err, e = .returned (.tuple #[.string T, .int .i64 err]) ∧ TextRel R x T err) ∧ Below w.heap.size w w' := by
  by_cases hR : R < 2 ∨ 36 < R
  · refine (Text_bad u x R L w h hR).mono ?_
    rintro e w' ⟨rfl, hb⟩
    exact ⟨⟨_, _, rfl, .inl ⟨hR, rfl, rfl⟩⟩, hb⟩
  have h0 : 2 ≤ R := by omega
  have h1 : R ≤ 36 := by omega
  by_cases hx : x = 0
  · subst hx
    refine (Text_zero u R L w h h0 h1).mono ?_
    rintro e w' ⟨rfl, hb⟩
    exact ⟨⟨_, _, rfl, .inr (.inl ⟨h0, h1, rfl, rfl, rfl⟩)⟩, hb⟩
  · refine (Text_some u x R L w h hL h0 h1 hx).mono ?_
    rintro e w' ⟨⟨ds, hd, rfl⟩, hb⟩
    exact ⟨⟨_, _, rfl, .inr (.inr ⟨h0, h1, hx, rfl, ds, hd, bs_strOf (textBytes_ok hd h1)⟩)⟩, hb⟩

/-- The boxes of two values. -/
theorem two_boxes {w w' : World} {p q : Bool} {u v : Value} (h : Below (w.heap.size + 2) ((w.alloc (.cells #[.bool p, u] 28)).alloc (.cells #[.bool q, v] 53)) w') :
    w'.cell? ⟨w.heap.size, 0, none⟩ = some (.bool p) ∧ w'.cell? ⟨w.heap.size, 1, none⟩ = some u ∧ w'.cell? ⟨w.heap.size + 1, 0, none⟩ = some (.bool q) ∧ w'.cell? ⟨w.heap.size + 1, 1, none⟩ = some v := by
  refine ⟨?_, ?_, ?_, ?_⟩
  · rw [h.cell (by simp), World.cell?_alloc_past _ _ _ (by simp), World.cell?_alloc_at _ _ _ _ rfl]; rfl
  · rw [h.cell (by simp), World.cell?_alloc_past _ _ _ (by simp), World.cell?_alloc_at _ _ _ _ rfl]; rfl
  · rw [h.cell (by simp), World.cell?_alloc_at _ _ _ _ (by simp)]; rfl
  · rw [h.cell (by simp), World.cell?_alloc_at _ _ _ _ (by simp)]; rfl

theorem box28 {w w' : World} {p : Bool} {u : Value} (h : Below (w.heap.size + 1) (w.alloc (.cells #[.bool p, u] 28)) w') : w'.cell? ⟨w.heap.size, 0, none⟩ = some (.bool p) ∧ w'.cell? ⟨w.heap.size, 1, none⟩ = some u := by
  refine ⟨?_, ?_⟩
  · rw [h.cell (by simp), World.cell?_alloc_at _ _ _ _ (by simp)]; rfl
  · rw [h.cell (by simp), World.cell?_alloc_at _ _ _ _ (by simp)]; rfl

theorem one_lens (w : World) {g : Nat} (hg : w.heap.size = g) (p : Bool) (A : Option Addr) (n c : Nat) :
    Lens (w.alloc (.cells #[.bool p, .slice A n c] 24)) g 1 [n] := by
  subst hg
  refine ⟨rfl, by simp, fun i hi => ?_⟩
  match i, hi with
  | 0, _ => exact ⟨p, A, c, World.cell?_alloc_at _ _ _ _ rfl, World.cell?_alloc_at _ _ _ _ rfl⟩

theorem box24 {w w' : World} {p : Bool} {u : Value} (h : Below (w.heap.size + 1) (w.alloc (.cells #[.bool p, u] 24)) w') : w'.cell? ⟨w.heap.size, 0, none⟩ = some (.bool p) ∧ w'.cell? ⟨w.heap.size, 1, none⟩ = some u := by
  refine ⟨?_, ?_⟩
  · rw [h.cell (by simp), World.cell?_alloc_at _ _ _ _ (by simp)]; rfl
  · rw [h.cell (by simp), World.cell?_alloc_at _ _ _ _ (by simp)]; rfl

end Go.Proofs.YtoanomgdkkbbmaaDoor
