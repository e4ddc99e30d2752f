/- Contracts as the law of patterns meets them. -/
import Derived.Test.YtoanomgdkkbbmaaDeposit
import Derived.Test.YtoanomgdkkbbmaaBoxes
import Derived.Test.YtoanomgdkkbbmaaBitsLaw
import Derived.Test.YtoanomgdkkbbmaaPower
namespace Go.Proofs.Ytoanomgdkkbbmaa
open Go.RowKit LM

/-- Boole, told by its bits. -/
def BitsOf (op x y z : Int) : Prop := ∀ i : Nat, bitOf z (i : Int) = chosenOf op (bitOf x (i : Int)) (bitOf y (i : Int))

theorem Boole_bits (u v : Value) (x y op : Int) (L M : Nat) (w : World) (h : Ival w u x L) (g : Ival w v y M) (hL : L ≤ 10000) (hM : M ≤ 10000) (h0 : 0 ≤ op) (h1 : op ≤ 15) :
    Calls Try.prog 51 #[u, .int .i64 op, v] w fun e w' => (∃ z ng A2 n2 c2, e = .returned (.tuple #[.agg #[.bool ng, .slice A2 n2 c2], .int .i64 0]) ∧ Ival w' (.agg #[.bool ng, .slice A2 n2 c2]) z (max L M + 1) ∧ BitsOf op x y z) ∧ Below w.heap.size w w' := by
  have hop : ¬ (op < 0 ∨ 15 < op) := by omega
  refine (Boole_int u v x y op L M w h g hL hM).mono ?_
  rintro e w' ⟨⟨z, ng, A2, n2, c2, rfl, hi, hbo⟩, hb⟩
  refine ⟨⟨z, ng, A2, n2, c2, by unfold boolE; rw [if_neg hop], hi, fun i => ?_⟩, hb⟩
  rcases hbo with ⟨a, _⟩ | ⟨_, k, h1', h2, h3⟩
  · exact absurd a hop
  · exact booled_bits h1' h0 h2 h3 i

theorem Field_int (u : Value) (x : Int) (L k p : Nat) (K P : Int) (hK : K = (k : Int)) (hP : P = (p : Int)) (w : World) (h : Ival w u x L) (hL : L ≤ 50000) (hk : k ≤ 3000) (hp : p ≤ 65536) :
    Calls Try.prog 56 #[u, .int .i64 K, .int .i64 P] w fun e w' => (∃ ng A2 n2 c2, e = .returned (.tuple #[.agg #[.bool ng, .slice A2 n2 c2], .int .i64 0]) ∧ Ival w' (.agg #[.bool ng, .slice A2 n2 c2]) (fieldOf x k p) 100) ∧ Below w.heap.size w w' := by
  subst hK; subst hP
  refine (Field_val u x L k p w h hL (by omega) hp).mono ?_
  rintro e w' ⟨⟨ng, A2, n2, c2, rfl, hv⟩, hb⟩
  exact ⟨⟨ng, A2, n2, c2, rfl, hv.mono (by omega)⟩, hb⟩

theorem Ival.pat {w : World} {u : Value} {x : Int} {L : Nat} (h : Ival w u x L) : patOf x < 2 ^ (32 * L) := by
  obtain ⟨p, _, a, rfl, ⟨A, n, c, xs, rfl, hr, hd, ht, hv, hn⟩, ha0, rfl, hp⟩ := h
  rw [← hv]
  exact pat_row hd hr.1 hn

theorem IsLen.le_of_lt {z : Int} {k N : Nat} (h : IsLen z k) (hz : z < 2 ^ N) : k ≤ N := by
  rcases h with ⟨_, rfl⟩ | ⟨h1, h2, _⟩
  · omega
  · have := two_lt (show (2 : Int) ^ (k - 1) < 2 ^ N by omega)
    omega

theorem shiftOf_up (x : Int) (k : Nat) : shiftOf x (k : Int) = x * 2 ^ k := by unfold shiftOf; rw [if_pos (by omega), Int.toNat_natCast]

/-- A small number shifted a little to the left. -/
theorem Shift_small (u : Value) (x : Int) (L k : Nat) (w : World) (h : Ival w u x L) (hL : L ≤ 100) (hk : k ≤ 1000) :
    Calls Try.prog 50 #[u, .int .i64 k] w fun e w' => (∃ ng A2 n2 c2, e = .returned (.tuple #[.agg #[.bool ng, .slice A2 n2 c2], .int .i64 0]) ∧ Ival w' (.agg #[.bool ng, .slice A2 n2 c2]) (x * 2 ^ k) 200) ∧ Below w.heap.size w w' := by
  by_cases h0 : k = 0
  · subst h0
    refine (Shift_plain u x 0 L w h (by omega) (by decide) (by decide)).mono ?_
    rintro e w' ⟨⟨ng, A2, n2, c2, rfl, hv⟩, hb⟩
    refine ⟨⟨ng, A2, n2, c2, rfl, ?_⟩, hb⟩
    have := hv.mono (show L + (0 : Int).toNat / 32 + 2 ≤ 200 by simp; omega)
    rw [show x * 2 ^ 0 = shiftOf x 0 from (shiftOf_up x 0).symm]; exact this
  · by_cases hx : x = 0
    · subst hx
      refine (Shift_zero u (k : Int) L w h (by omega) (by omega) (by omega)).mono ?_
      rintro e w' ⟨⟨ng, A2, n2, c2, rfl, hv⟩, hb⟩
      refine ⟨⟨ng, A2, n2, c2, rfl, ?_⟩, hb⟩
      rw [← shiftOf_up 0 k]; exact hv.mono (by omega)
    · have hp := h.pat
      refine (Shift_left u x (k : Int) L w h (by omega) (by omega) (by omega) hx).mono ?_
      rintro e w' ⟨⟨m, ng, A2, n2, c2, hm, hc⟩, hb⟩
      have hml := hm.le_of_lt hp
      rcases hc with ⟨_, rfl, hv⟩ | ⟨hn, _⟩
      · refine ⟨⟨ng, A2, n2, c2, rfl, ?_⟩, hb⟩
        rw [← shiftOf_up x k]; exact hv.mono (by omega)
      · exact absurd (by omega) hn

theorem Shift_back (u : Value) (x t : Int) (L k : Nat) (w : World) (h : Ival w u (x * 2 ^ k) L) (hL : L ≤ 1000) (hk : k ≤ 1000) (ht : t = -(k : Int)) :
    Calls Try.prog 50 #[u, .int .i64 t] w fun e w' => (∃ ng A2 n2 c2, e = .returned (.tuple #[.agg #[.bool ng, .slice A2 n2 c2], .int .i64 0]) ∧ Ival w' (.agg #[.bool ng, .slice A2 n2 c2]) x 2000) ∧ Below w.heap.size w w' := by
  refine (Shift_plain u (x * 2 ^ k) t L w h (by omega) (by omega) (by omega)).mono ?_
  rintro e w' ⟨⟨ng, A2, n2, c2, rfl, hv⟩, hb⟩
  refine ⟨⟨ng, A2, n2, c2, rfl, ?_⟩, hb⟩
  have e1 : shiftOf (x * 2 ^ k) t = x := by
    rw [shiftOf_back _ k t ht, Int.mul_ediv_cancel _ (by have := two_pos k; omega)]
  rw [← e1]; exact hv.mono (by omega)

theorem new_typed (n : Int) (w : World) (h0 : -9223372036854775808 ≤ n) (h1 : n ≤ 9223372036854775807) :
    Calls Try.prog 17 #[.int .i64 n] w fun e w' => (∃ ng A2 n2 c2, e = .returned (.agg #[.bool ng, .slice A2 n2 c2]) ∧ Ival w' (.agg #[.bool ng, .slice A2 n2 c2]) n 2) ∧ Below w.heap.size w w' := by
  refine (new_int n w h0 h1).mono ?_
  rintro e w' ⟨r, rfl, hv, hb⟩
  obtain ⟨ng, A2, n2, c2, rfl⟩ := hv.form
  exact ⟨⟨ng, A2, n2, c2, rfl, hv⟩, hb⟩

def pairOf : Bool → Int
  | true => 2
  | false => 0
def pairTwo : Int → Bool → Int
  | P, true => P + 1
  | P, false => P

theorem pairOf_le (b : Bool) : 0 ≤ pairOf b ∧ pairOf b ≤ 2 := by cases b <;> decide
theorem pairTwo_is (a b : Bool) : pairTwo (pairOf a) b = ((2 * a.toNat + b.toNat : Nat) : Int) := by cases a <;> cases b <;> decide

theorem sel_bit (op N : Nat) (a b : Bool) (hN : N = 2 * a.toNat + b.toNat) : (bits BinOp.and IntKind.i64 (IntKind.i64.wrap ((op : Int).tmod 16) / 2 ^ N) 1 == 1) = chosenOf ((op : Int) % 16) a b := by
  have e1 : (op : Int).tmod 16 = ((op % 16 : Nat) : Int) := by rw [Int.tmod_eq_emod_of_nonneg (by omega)]; omega
  have e2 : IntKind.i64.wrap ((op % 16 : Nat) : Int) = ((op % 16 : Nat) : Int) := by rw [IntKind.wrap_i64]; omega
  have e3 : ((op % 16 : Nat) : Int) / 2 ^ N = ((op % 16 / 2 ^ N : Nat) : Int) := by simp
  have hl : op % 16 / 2 ^ N ≤ op % 16 := Nat.div_le_self _ _
  rw [e1, e2, e3, and_one64 _ (by omega)]
  unfold chosenOf
  rw [← hN, show (op : Int) % 16 = ((op % 16 : Nat) : Int) from by omega, e3]
  generalize op % 16 / 2 ^ N = t
  have e4 : ((t : Int) % 2 = 1) ↔ t % 2 = 1 := by omega
  by_cases h : t % 2 = 1
  · simp [h, e4]
  · have h2 : t % 2 = 0 := by omega
    have h3 : ¬ ((t : Int) % 2 = 1) := by omega
    simp [h2, h3]

/-- One box more, the others as they were. -/
def NewBox (wk : World) (l : List (Nat × Int × Nat)) (z : Int) (L : Nat) (v : Value) (wx : World) : Prop :=
  ∃ b, v = .pointer (some ⟨b, 0, none⟩) ∧ Boxes wx ((b, z, L) :: l) ∧ Below wk.heap.size wk wx

theorem NewBox.mk {wk wx : World} {l : List (Nat × Int × Nat)} {b : Nat} {z : Int} {L : Nat} (h : Boxes wk l) (hb : Below wk.heap.size wk wx) (hn : BoxV wx b z L) : NewBox wk l z L (.pointer (some ⟨b, 0, none⟩)) wx := by
  refine ⟨b, rfl, fun t ht => ?_, hb⟩
  rcases List.mem_cons.1 ht with rfl | ht
  · exact hn
  · exact (h t ht).below hb

/-- Two boxes. -/
def TwoBoxes (wk : World) (x y : Int) (L : Nat) (v1 v2 : Value) (wx : World) : Prop :=
  ∃ b1 b2, v1 = .pointer (some ⟨b1, 0, none⟩) ∧ v2 = .pointer (some ⟨b2, 0, none⟩) ∧ Boxes wx [(b1, x, L), (b2, y, L)] ∧ Below wk.heap.size wk wx

/-- Two integers of a list, written out. -/
theorem ints_two {w : World} {base L : Nat} {v : Value} {vs : List Value} {x y : Int} (h : Ints w base v 2 L vs [x, y]) :
    ∃ g c q0 B0 m0 e0 q1 B1 m1 e1, v = .slice (some ⟨g, 0, none⟩) 2 c ∧ g < w.heap.size ∧
      (w.cell? ⟨g, 0, none⟩ = some (.bool q0) ∧ w.cell? ⟨g, 1, none⟩ = some (.slice B0 m0 e0) ∧ w.cell? ⟨g, 2, none⟩ = some (.bool q1) ∧ w.cell? ⟨g, 3, none⟩ = some (.slice B1 m1 e1)) ∧
      Ival w (.agg #[.bool q0, .slice B0 m0 e0]) x L ∧ Ival w (.agg #[.bool q1, .slice B1 m1 e1]) y L := by
  obtain ⟨hl, ho, hall⟩ := h
  match vs, hl with
  | [v0, v1], _ =>
    have i0 := (hall 0 (by omega)).1
    have i1 := (hall 1 (by omega)).1
    simp at i0 i1
    obtain ⟨q0, B0, m0, e0, rfl⟩ := i0.form
    obtain ⟨q1, B1, m1, e1, rfl⟩ := i1.form
    have hf : flat [.agg #[.bool q0, .slice B0 m0 e0], .agg #[.bool q1, .slice B1 m1 e1]] = [.bool q0, .slice B0 m0 e0, .bool q1, .slice B1 m1 e1] := by
      simp [flat, Value.cells]
    rw [hf] at ho
    rcases id ho.2 with ⟨_, h0⟩ | ⟨g, cap, cur, rfl, hg, hh, _⟩
    · omega
    · exact ⟨g, cap, q0, B0, m0, e0, q1, B1, m1, e1, rfl, (Array.getElem?_eq_some_iff.1 hh).1, ⟨ho.cellAt 0 (by omega), ho.cellAt 1 (by omega), ho.cellAt 2 (by omega), ho.cellAt 3 (by omega)⟩, i0, i1⟩

theorem two_given {w w1 : World} {p0 p1 : Bool} {A0 A1 : Option Addr} {n0 c0 n1 c1 : Nat} {xs0 xs1 : List Int} {L : Nat}
    (h0 : Row .u32 w A0 n0 c0 xs0) (h1 : Row .u32 w A1 n1 c1 xs1) (d0 : Dig xs0) (d1 : Dig xs1) (b0 : n0 ≤ L) (b1 : n1 ≤ L)
    (h : Below w.heap.size w w1) {g : Nat} (hg : w1.heap.size = g) :
    Given (w1.alloc (.cells #[.bool p0, .slice A0 n0 c0, .bool p1, .slice A1 n1 c1] 24)) g 2 L [withSign p0 (val xs0), withSign p1 (val xs1)] := by
  subst hg
  have hb := h.trans ((below_alloc w1 (.cells #[.bool p0, .slice A0 n0 c0, .bool p1, .slice A1 n1 c1] 24)).mono h.size)
  refine ⟨rfl, by simp, fun i hi => ?_⟩
  match i, hi with
  | 0, _ => exact ⟨p0, A0, n0, c0, xs0, World.cell?_alloc_at _ _ _ _ rfl, World.cell?_alloc_at _ _ _ _ rfl, h0.below hb, d0, b0, rfl⟩
  | 1, _ => exact ⟨p1, A1, n1, c1, xs1, World.cell?_alloc_at _ _ _ _ rfl, World.cell?_alloc_at _ _ _ _ rfl, h1.below hb, d1, b1, rfl⟩

theorem two_held {w w' : World} {g : Nat} (hg : g < w.heap.size) {u0 u1 u2 u3 : Value} (h0 : w.cell? ⟨g, 0, none⟩ = some u0) (h1 : w.cell? ⟨g, 1, none⟩ = some u1) (h2 : w.cell? ⟨g, 2, none⟩ = some u2) (h3 : w.cell? ⟨g, 3, none⟩ = some u3) (h : Below w.heap.size w w') :
    w'.cell? ⟨g, 0, none⟩ = some u0 ∧ w'.cell? ⟨g, 1, none⟩ = some u1 ∧ w'.cell? ⟨g, 2, none⟩ = some u2 ∧ w'.cell? ⟨g, 3, none⟩ = some u3 ∧ Below w.heap.size w w' :=
  ⟨(h.cell (by exact hg)).trans h0, (h.cell (by exact hg)).trans h1, (h.cell (by exact hg)).trans h2, (h.cell (by exact hg)).trans h3, h⟩

/-- Two new boxes, made in either order. -/
theorem two_boxes {w : World} {q0 q1 : Bool} {B0 B1 : Option Addr} {m0 e0 m1 e1 L : Nat} {x y : Int} (hx : Ival w (.agg #[.bool q0, .slice B0 m0 e0]) x L) (hy : Ival w (.agg #[.bool q1, .slice B1 m1 e1]) y L) :
    TwoBoxes w x y L (.pointer (some ⟨w.heap.size, 0, none⟩)) (.pointer (some ⟨w.heap.size + 1, 0, none⟩)) ((w.alloc (.cells #[.bool q0, .slice B0 m0 e0] 28)).alloc (.cells #[.bool q1, .slice B1 m1 e1] 28)).drew ∧
    TwoBoxes w x y L (.pointer (some ⟨w.heap.size + 1, 0, none⟩)) (.pointer (some ⟨w.heap.size, 0, none⟩)) ((w.alloc (.cells #[.bool q1, .slice B1 m1 e1] 28)).alloc (.cells #[.bool q0, .slice B0 m0 e0] 28)).drew := by
  refine ⟨⟨_, _, rfl, rfl, ?_, (below_two w _ _).drew⟩, ⟨_, _, rfl, rfl, ?_, (below_two w _ _).drew⟩⟩
  · have k := (((Boxes.nil (w := w)).add 28 hx).add 28 (hy.below (below_alloc w _)))
    intro t ht
    have h2 : t ∈ [((w.alloc (.cells #[.bool q0, .slice B0 m0 e0] 28)).heap.size, y, L), (w.heap.size, x, L)] := by
      simp at ht ⊢; rcases ht with h | h
      · exact .inr h
      · exact .inl h
    exact (k t h2).below ((Below.refl _ _).drew)
  · have k := (((Boxes.nil (w := w)).add 28 hy).add 28 (hx.below (below_alloc w _)))
    intro t ht
    have h2 : t ∈ [((w.alloc (.cells #[.bool q1, .slice B1 m1 e1] 28)).heap.size, x, L), (w.heap.size, y, L)] := by
      simp at ht ⊢; exact ht
    exact (k t h2).below ((Below.refl _ _).drew)

end Go.Proofs.Ytoanomgdkkbbmaa
