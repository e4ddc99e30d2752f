/- Of the proof of RationalField: ShiftV, RShift, RPower, RPower2, PowInt, RAbs. -/
import Derived.Test.YtbajnceoolkckaaGreatPk16
import Derived.Test.YtbajnceoolkckaaGreatPk09
import Derived.Test.YtbajnceoolkckaaGreatPk05
import Derived.Test.YtbajnceoolkckaaGreatPk15
/- The reference's Shift, and what both come to. -/
namespace Go.Proofs.YtbajnceoolkckaaGreat
open Go.RowKit LM

/-- Is the result too long? -/
def TooFar (x t : Int) : Prop := 0 < t ∧ x ≠ 0 ∧ ∃ k : Nat, IsLen (patOf x) k ∧ 65536 < (k : Int) + t

/-- What a shift comes to. -/
def ShiftV (x t z err : Int) : Prop := TooFar x t ∧ z = 0 ∧ err = 14 ∨ ¬ TooFar x t ∧ z = shiftOf x t ∧ err = 0

theorem ShiftV.same {x t z err z' err' : Int} (h : ShiftV x t z err) (g : ShiftV x t z' err') : z' = z ∧ err' = err := by
 rcases h with ⟨a, rfl, rfl⟩ | ⟨a, rfl, rfl⟩ <;> rcases g with ⟨b, rfl, rfl⟩ | ⟨b, rfl, rfl⟩
 ·exact ⟨rfl, rfl⟩
 ·exact absurd a b
 ·exact absurd b a
 ·exact ⟨rfl, rfl⟩

end Go.Proofs.YtbajnceoolkckaaGreat
/- The reference's Shift. -/
namespace Go.Proofs.YtbajnceoolkckaaGreat
open Go.RowKit LM

theorem IsLen.some {z : Int} (h0 : 0 ≤ z) : ∃ k, IsLen z k := by
 have key : ∀ N : Nat, ∀ z : Int, 0 ≤ z → z < 2 ^ N → ∃ k, IsLen z k := by
  intro N
  induction N with
  | zero => intro z h0 h1; exact ⟨0, .inl ⟨by simp at h1; omega, rfl⟩⟩
  | succ N ih =>
   intro z h0 h1
   by_cases hz : z < 2 ^ N
   ·exact ih z h0 hz
   ·exact ⟨N + 1, .inr ⟨by omega, by rw [Nat.add_sub_cancel]; omega, h1⟩⟩
 have hlt := Nat.lt_two_pow_self (n := z.toNat)
 refine key z.toNat z h0 ?_
 have e : (((2 : Nat) ^ z.toNat : Nat) : Int) = (2 : Int) ^ z.toNat := by simp
 rw [← e]; omega

end Go.Proofs.YtbajnceoolkckaaGreat
/- The reference's Power. -/
namespace Go.Proofs.YtbajnceoolkckaaGreat
open Go.RowKit LM

theorem rbox_new {w w' : World} {p : Bool} {u : Value} {t : TypeId} (h : Below (w.heap.size + 1) (w.alloc (.cells #[.bool p, u] t)) w') : w'.cell? ⟨w.heap.size, 0, none⟩ = some (.bool p) ∧ w'.cell? ⟨w.heap.size, 1, none⟩ = some u := by
 refine ⟨?_, ?_⟩
 ·rw [h.cell (by simp), World.cell?_alloc_at _ _ _ _ (by simp)]; rfl
 ·rw [h.cell (by simp), World.cell?_alloc_at _ _ _ _ (by simp)]; rfl

end Go.Proofs.YtbajnceoolkckaaGreat
/- The reference's Power, its loop. -/
namespace Go.Proofs.YtbajnceoolkckaaGreat
open Go.RowKit LM

theorem Rval.restored {w : World} {s : Value} {z : Int} {L : Nat} (h : Rval w s z L) {r : Nat} {g : Bool} {A : Option Addr} {n c : Nat} (e1 : w.cell? ⟨r, 0, none⟩ = some (.bool g)) (e2 : w.cell? ⟨r, 1, none⟩ = some (.slice A n c)) (x y : Value) :
  Rval ((w.setCell ⟨r, 0, none⟩ x).setCell ⟨r, 1, none⟩ y) s z L := by
 obtain ⟨neg, A', n', c', ds, e, hr, t⟩ := h
 refine ⟨neg, A', n', c', ds, e, (hr.setOther (fun u => by rw [e1]; simp) x).setOther (fun u => ?_) y, t⟩
 rw [World.cell?_setCell_other _ _ _ _ (by simp), e2]; simp

/-- A box that may be written, and what it holds. -/
def RBox (w : World) (b : Nat) (z : Int) (L : Nat) : Prop :=
 ∃ g A n c, w.cell? ⟨b, 0, none⟩ = some (.bool g) ∧ w.cell? ⟨b, 1, none⟩ = some (.slice A n c) ∧ w.frozen? ⟨b, 0, none⟩ = false ∧ w.frozen? ⟨b, 1, none⟩ = false ∧ b < w.heap.size ∧ Rval w (.agg #[.bool g, .slice A n c]) z L

theorem RBox.new (w : World) (g : Bool) (A : Option Addr) (n c L : Nat) (z : Int) (h : Rval w (.agg #[.bool g, .slice A n c]) z L) : RBox (w.alloc (.cells #[.bool g, .slice A n c] 34)) w.heap.size z L :=
 ⟨g, A, n, c, (rbox_new (Below.refl _ _)).1, (rbox_new (Below.refl _ _)).2, World.frozen?_alloc_at _ _ _ _ rfl, World.frozen?_alloc_at _ _ _ _ rfl, by simp, h.below (below_alloc _ _)⟩

theorem RBox.below {w w' : World} {b : Nat} {z : Int} {L : Nat} (h : RBox w b z L) (hb : Below w.heap.size w w') : RBox w' b z L := by
 obtain ⟨g, A, n, c, h1, h2, h3, h4, h5, h6⟩ := h
 exact ⟨g, A, n, c, (hb.cell (p := ⟨b, 0, none⟩) h5).trans h1, (hb.cell (p := ⟨b, 1, none⟩) h5).trans h2, (hb.frozen (p := ⟨b, 0, none⟩) h5).trans h3, (hb.frozen (p := ⟨b, 1, none⟩) h5).trans h4, Nat.lt_of_lt_of_le h5 hb.size, h6.below hb⟩

theorem RBox.set {w : World} {b : Nat} {z y : Int} {L M : Nat} (h : RBox w b z L) {g : Bool} {A : Option Addr} {n c : Nat} (hv : Rval w (.agg #[.bool g, .slice A n c]) y M) :
  ((w.setCell ⟨b, 0, none⟩ (.bool g)).setCell ⟨b, 1, none⟩ (.slice A n c)).cell? ⟨b, 0, none⟩ = some (.bool g) ∧ ((w.setCell ⟨b, 0, none⟩ (.bool g)).setCell ⟨b, 1, none⟩ (.slice A n c)).cell? ⟨b, 1, none⟩ = some (.slice A n c) ∧
  Rval ((w.setCell ⟨b, 0, none⟩ (.bool g)).setCell ⟨b, 1, none⟩ (.slice A n c)) (.agg #[.bool g, .slice A n c]) y M ∧ RBox ((w.setCell ⟨b, 0, none⟩ (.bool g)).setCell ⟨b, 1, none⟩ (.slice A n c)) b y M := by
 obtain ⟨g0, A0, n0, c0, h1, h2, h3, h4, h5, h6⟩ := h
 have e1 : ((w.setCell ⟨b, 0, none⟩ (.bool g)).setCell ⟨b, 1, none⟩ (.slice A n c)).cell? ⟨b, 0, none⟩ = some (.bool g) := by
  rw [World.cell?_setCell_other _ _ _ _ (by simp)]; exact World.cell?_setCell_same _ _ _ h1
 have e2 : ((w.setCell ⟨b, 0, none⟩ (.bool g)).setCell ⟨b, 1, none⟩ (.slice A n c)).cell? ⟨b, 1, none⟩ = some (.slice A n c) :=
  World.cell?_setCell_same _ _ _ ((World.cell?_setCell_other _ _ _ _ (by simp)).trans h2)
 exact ⟨e1, e2, hv.restored h1 h2 _ _, g, A, n, c, e1, e2, by simpa using h3, by simpa using h4, by simpa using h5, hv.restored h1 h2 _ _⟩

end Go.Proofs.YtbajnceoolkckaaGreat
/- Power, both sides, at every exponent that the law of powers lets by. -/
namespace Go.Proofs.YtbajnceoolkckaaGreat
open Go.RowKit LM

theorem IsLen.le {z : Int} {k N : Nat} (h : IsLen z k) (hz : z < 2 ^ N) : k ≤ N := by
 rcases h with ⟨_, rfl⟩ | ⟨h1, h2, _⟩
 ·exact Nat.zero_le _
 ·have := two_lt (show (2 : Int) ^ (k - 1) < 2 ^ N by omega)
  omega

end Go.Proofs.YtbajnceoolkckaaGreat
/- The reference's Abs. -/
namespace Go.Proofs.YtbajnceoolkckaaGreat
open Go.RowKit LM

theorem Rval.abs {w : World} {g : Bool} {A : Option Addr} {n c : Nat} {x : Int} {L : Nat} (h : Rval w (.agg #[.bool g, .slice A n c]) x L) : Rval w (.agg #[.bool false, .slice A n c]) (if x < 0 then -x else x) L := by
 obtain ⟨neg, A', n', c', ds, e, hr, hd, ht, hz, hp, hn⟩ := h
 simp only [Value.agg.injEq] at e
 injection e with e
 simp only [List.cons.injEq, Value.bool.injEq, Value.slice.injEq, and_true] at e
 obtain ⟨rfl, rfl, rfl, rfl⟩ := e
 refine ⟨false, A, n, c, ds, rfl, hr, hd, ht, ?_, (fun h => by cases h), hn⟩
 have h0 := valR_nonneg (by decide) hd
 rw [hz]
 cases g <;> simp [withSign] <;> omega

set_option maxHeartbeats 1000000 in
theorem rabs_any (u : Value) (x : Int) (L : Nat) (w : World) (h : Rval w u x L) :
  Calls Tryz.prog 29 #[u] w fun e w' => (∃ ng A2 n2 c2, e = .returned (.agg #[.bool ng, .slice A2 n2 c2]) ∧ Rval w' (.agg #[.bool ng, .slice A2 n2 c2]) (if x < 0 then -x else x) L) ∧ Below w.heap.size w w' := by
 obtain ⟨p, A, n, c, rfl⟩ := h.form
 have hW := below_two w (.cells #[.bool p, .slice A n c] 34) (.cells #[.bool false, .slice none 0 0] 34)
 have hA := h.abs
 obtain ⟨y, hy⟩ : ∃ y, (if x < 0 then -x else x) = y := ⟨_, rfl⟩
 rw [hy] at hA ⊢
 have HA := Lib.hid hA

 clear h hy hA
 go_enter Tryz.func29, Tryz.ntmps29
 go_wp2
 refine bodyPost_ret (v := .agg #[.bool false, .slice A n c]) (by simp [results, Tryz.results29, go_sem]) rfl ⟨⟨_, _, _, _, rfl, HA.out.below (below_two _ _ _)⟩, below_two _ _ _⟩

end Go.Proofs.YtbajnceoolkckaaGreat
