/- Words for slices of digits in memory, and for integers as the program keeps them. -/
import Derived.Test.YtoanomgdkkbbmaaRows
import Derived.Test.YtoanomgdkkbbmaaMath
import Derived.WalkKit
import Derived.WalkSpells
import Derived.WalkLawsBesides
import Derived.Lib.Hide
import Derived.Deep.QuietTactic
import Derived.BigQuiet
namespace Go.Proofs.Ytoanomgdkkbbmaa
open Go.RowKit

/-- n cells that hold the numbers xs lie from A on, if n is not 0. -/
def CellsAt (K : IntKind) (w : World) (A : Option Addr) (n : Nat) (xs : List Int) : Prop :=
  n ≠ 0 → ∃ b o, A = some ⟨b, o, none⟩ ∧ b < w.heap.size ∧ ∀ i, i < n → w.cell? ⟨b, o + i, none⟩ = some (.int K (xs.getD i 0))

/-- The slice value 'slice A n c' reads as the list xs of numbers of a kind. -/
def Row (K : IntKind) (w : World) (A : Option Addr) (n c : Nat) (xs : List Int) : Prop :=
  xs.length = n ∧ n ≤ c ∧ CellsAt K w A n xs

/-- The length in a slot. -/
def lenOf : Value → Nat | .slice _ n _ => n | _ => 0

theorem Row.below {K : IntKind} {w w' : World} {A : Option Addr} {n c : Nat} {xs : List Int} (h : Row K w A n c xs) (hb : Below w.heap.size w w') : Row K w' A n c xs := by
  refine ⟨h.1, h.2.1, fun hn => ?_⟩
  obtain ⟨b, o, rfl, hlt, hc⟩ := h.2.2 hn
  exact ⟨b, o, rfl, Nat.lt_of_lt_of_le hlt hb.size, fun i hi => (hb.cell (p := ⟨b, o + i, none⟩) hlt).trans (hc i hi)⟩

theorem Row.nil_ {K : IntKind} {w : World} {A : Option Addr} {c : Nat} : Row K w A 0 c [] := ⟨rfl, Nat.zero_le _, fun h => absurd rfl h⟩

theorem Row.take {K : IntKind} {w : World} {A : Option Addr} {n c : Nat} {xs : List Int} (h : Row K w A n c xs) {k : Nat} (hk : k ≤ n) : Row K w A k c (xs.take k) := by
  refine ⟨by rw [List.length_take, h.1]; omega, Nat.le_trans hk h.2.1, fun hn => ?_⟩
  obtain ⟨b, o, rfl, hlt, hc⟩ := h.2.2 (by omega)
  refine ⟨b, o, rfl, hlt, fun i hi => ?_⟩
  rw [hc i (by omega)]
  simp [List.getD, hi]

section
variable {P : Program} {f : FuncId} {args : Array Value} {v : Value}
/-- A call that leaves the world alone, or only draws, inside a quiet region: behind no draw, and behind some. -/
theorem quiet_same0 {W : World} {n : Nat} (h : ∀ w, Calls P f args w fun e w' => e = .returned v ∧ w = w') : Calls P f args (W.drewN n) fun e w' => e = .returned v ∧ ∃ m, w' = W.drewN m :=
  (h _).mono fun _ _ ⟨he, hw⟩ => ⟨he, n, hw.symm⟩
theorem quiet_same1 {W : World} {a n : Nat} (h : ∀ w, Calls P f args w fun e w' => e = .returned v ∧ w = w') : Calls P f args (W.drewN (a + n)) fun e w' => e = .returned v ∧ ∃ m, w' = W.drewN (a + m) :=
  (h _).mono fun _ _ ⟨he, hw⟩ => ⟨he, n, hw.symm⟩
theorem quiet_draw0 {W : World} {n : Nat} (h : Calls P f args (W.drewN n) fun e w' => e = .returned v ∧ ∃ q, w' = (W.drewN n).drewN q) : Calls P f args (W.drewN n) fun e w' => e = .returned v ∧ ∃ m, w' = W.drewN m :=
  h.mono fun _ _ ⟨he, q, hw⟩ => ⟨he, n + q, by rw [hw, World.drewN_drewN]⟩
theorem quiet_draw1 {W : World} {a n : Nat} (h : Calls P f args (W.drewN (a + n)) fun e w' => e = .returned v ∧ ∃ q, w' = (W.drewN (a + n)).drewN q) : Calls P f args (W.drewN (a + n)) fun e w' => e = .returned v ∧ ∃ m, w' = W.drewN (a + m) :=
  h.mono fun _ _ ⟨he, q, hw⟩ => ⟨he, n + q, by rw [hw, World.drewN_drewN, Nat.add_assoc]⟩
end

theorem drewN_3 (w : World) (a b c : Nat) : ((w.drewN a).drewN b).drewN c = w.drewN (a + b + c) := by rw [World.drewN_drewN, World.drewN_drewN, Nat.add_assoc]

theorem below_drewN {B : Nat} {a w : World} (h : Below B a w) (n : Nat) : Below B a (w.drewN n) := ⟨h.os, h.tape, h.output, h.size, h.block⟩

theorem Row.drewN {K : IntKind} {w : World} {A : Option Addr} {n c : Nat} {xs : List Int} (h : Row K w A n c xs) (q : Nat) : Row K (w.drewN q) A n c xs := h

/-- A slice value that reads as a number: the trimmed digits of z, at most L of them. -/
def Num (w : World) (v : Value) (z : Int) (L : Nat) : Prop :=
  ∃ A n c xs, v = .slice A n c ∧ Row .u32 w A n c xs ∧ LM.Dig xs ∧ LM.Trimmed xs ∧ LM.val xs = z ∧ n ≤ L

theorem Num.below {w w' : World} {v : Value} {z : Int} {L : Nat} (h : Num w v z L) (hb : Below w.heap.size w w') : Num w' v z L := by
  obtain ⟨A, n, c, xs, e, hr, r⟩ := h
  exact ⟨A, n, c, xs, e, hr.below hb, r⟩

/-- What a call of the program made itself reads as a list. -/
theorem Row.of_own {K : IntKind} {w : World} {base : Nat} {e : TypeId} {A : Option Addr} {n c : Nat} {xs : List Int} (h : w.ownsRow base e 1 (.slice A n c) n (xs.map (Value.int K))) : Row K w A n c xs := by
  have hl : xs.length = n := by have := h.1; simpa using this
  rcases h.2 with ⟨h', h0⟩ | ⟨g, cap, cur, h', hb, hg, hnc, hcm, hcs, htake⟩
  · subst h0
    exact ⟨hl, Nat.zero_le _, fun h => absurd rfl h⟩
  · have e' := h'
    simp only [Value.slice.injEq] at e'
    obtain ⟨rfl, -, rfl⟩ := e'
    refine ⟨hl, hnc, fun _ => ⟨g, 0, rfl, (Array.getElem?_eq_some_iff.1 hg).1, fun i hi => ?_⟩⟩
    have := h.cellAt i (by omega)
    rw [Nat.zero_add, this]
    simp [List.getD, hl, hi]

theorem Try.info99 : (Try.prog.info? 99).map (fun i => (i.zero, i.size, i.bytes)) = some (some (.int .u32 0), 1, 4) := by kernel_rfl

/-- An array of the call's own, whole: block g holds the numbers xs, all of them elements. -/
def Own (w : World) (base g n : Nat) (xs : List Int) : Prop := w.ownsRow base 99 1 (.slice (some ⟨g, 0, none⟩) n n) n (xs.map (Value.int .u32))

theorem Own.length {w : World} {base g n : Nat} {xs : List Int} (h : Own w base g n xs) : xs.length = n := by have := h.1; simpa using this

theorem Own.cell {w : World} {base g n : Nat} {xs : List Int} (h : Own w base g n xs) {k : Nat} (hk : k < n) : w.cell? ⟨g, k, none⟩ = some (.int .u32 (xs.getD k 0)) := by
  have hl := h.length
  rw [World.ownsRow.cellAt h k (by omega)]
  simp [List.getD, hl, hk]

theorem Own.frozen {w : World} {base g n : Nat} {xs : List Int} (h : Own w base g n xs) (k : Nat) : w.frozen? ⟨g, k, none⟩ = false := World.ownsRow.frozenAt h k

theorem Own.set {w : World} {base g n : Nat} {xs : List Int} (h : Own w base g n xs) (k : Nat) (u : Int) : Own (w.setCell ⟨g, k, none⟩ (.int .u32 u)) base g n (xs.set k u) := by
  have := (World.ownsRow.stored h k (.int .u32 u)).1
  rw [← List.map_set] at this
  exact this

theorem Own.lt {w : World} {base g n : Nat} {xs : List Int} (h : Own w base g n xs) : base ≤ g ∧ g < w.heap.size := World.ownsRow.lt h g rfl

theorem Own.row {w : World} {base g n : Nat} {xs : List Int} (h : Own w base g n xs) : Row .u32 w (some ⟨g, 0, none⟩) n n xs := Row.of_own h

theorem Own.below {w w' : World} {base g n : Nat} {xs : List Int} (h : Own w base g n xs) (hb : Below w.heap.size w w') : Own w' base g n xs := by
  obtain ⟨h1, h2⟩ := h
  refine ⟨h1, ?_⟩
  rcases h2 with h2 | ⟨g', cap, cur, hv, hg, hh, r⟩
  · exact .inl h2
  · exact .inr ⟨g', cap, cur, hv, hg, (hb.block g' (Array.getElem?_eq_some_iff.1 hh).1).trans hh, r⟩

theorem Own.drewN {w : World} {base g n : Nat} {xs : List Int} (h : Own w base g n xs) (q : Nat) : Own (w.drewN q) base g n xs := h

/-- The digit k of what is made so far, with zeros behind it, is set. -/
theorem set_zeros (ds : List Int) (n k : Nat) (hk : ds.length = k) (hn : k < n) (u : Int) : (ds ++ List.replicate (n - k) 0).set k u = (ds ++ [u]) ++ List.replicate (n - (k + 1)) 0 := by
  rw [show n - k = (n - (k + 1)) + 1 from by omega, List.replicate_succ, List.set_append_right _ _ (by omega), hk, Nat.sub_self, List.set_cons_zero]
  simp

theorem zeros_made (n : Nat) : (madeCells (Value.int .u32 0).cells (n * 1)).toList = (List.replicate n (0 : Int)).map (Value.int .u32) := by
  rw [Nat.mul_one]; simp [Value.cells, toList_madeCells_one]

end Go.Proofs.Ytoanomgdkkbbmaa
