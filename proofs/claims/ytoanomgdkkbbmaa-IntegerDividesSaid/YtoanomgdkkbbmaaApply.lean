/- apply: several of Euclid's steps at once. -/
import Derived.Test.YtoanomgdkkbbmaaLead
namespace Go.Proofs.Ytoanomgdkkbbmaa
open Go.RowKit LM

theorem steps_hold {w w' : World} {a0 a1 a2 a3 : Int} {ev : Bool} (h : Below (w.heap.size + 1) (w.alloc (.cells #[.int .u64 a0, .int .u64 a1, .int .u64 a2, .int .u64 a3, .bool ev] 141)) w') :
    w'.cell? ⟨w.heap.size, 0, none⟩ = some (.int .u64 a0) ∧ w'.cell? ⟨w.heap.size, 1, none⟩ = some (.int .u64 a1) ∧ w'.cell? ⟨w.heap.size, 2, none⟩ = some (.int .u64 a2) ∧ w'.cell? ⟨w.heap.size, 3, none⟩ = some (.int .u64 a3) ∧ w'.cell? ⟨w.heap.size, 4, none⟩ = some (.bool ev) ∧
      Below (w.heap.size + 1) (w.alloc (.cells #[.int .u64 a0, .int .u64 a1, .int .u64 a2, .int .u64 a3, .bool ev] 141)) w' := by
  have hs : Steps w' w.heap.size a0 a1 a2 a3 ev := (h.block w.heap.size (by omega)).trans (alloc_at w _)
  obtain ⟨c0, c1, c2, c3, c4, _, _⟩ := hs.cells
  exact ⟨c0, c1, c2, c3, c4, h⟩

set_option maxRecDepth 100000 in
set_option maxHeartbeats 2000000 in
theorem apply_true (a b : Value) (x y u0 v0 u1 v1 : Int) (L M : Nat) (w : World) (h : Num w a x L) (g : Num w b y M) (hL : L ≤ 1048576) (hM : M ≤ 1048576)
    (b0 : 0 ≤ u0 ∧ u0 < BB ∧ 0 ≤ v0 ∧ v0 < BB) (b1 : 0 ≤ u1 ∧ u1 < BB ∧ 0 ≤ v1 ∧ v1 < BB) (h0 : 0 ≤ u0 * x - v0 * y ∧ u0 * x - v0 * y ≤ max x y) (h1 : 0 ≤ v1 * y - u1 * x ∧ v1 * y - u1 * x ≤ max y x) :
    Calls Try.prog 124 #[.agg #[.int .u64 u0, .int .u64 u1, .int .u64 v0, .int .u64 v1, .bool true], a, b] w fun e w' => (∃ r s, e = .returned (.tuple #[r, s]) ∧ Num w' r (u0 * x - v0 * y) (max L M) ∧ Num w' s (v1 * y - u1 * x) (max M L)) ∧ Below w.heap.size w w' := by
  have hW := below_alloc w (.cells #[.int .u64 u0, .int .u64 u1, .int .u64 v0, .int .u64 v1, .bool true] 141)
  have HH := Lib.hid (h.below hW)
  have HG := Lib.hid (g.below hW)
  have hB0 := Below.refl (w.heap.size + 1) (w.alloc (.cells #[.int .u64 u0, .int .u64 u1, .int .u64 v0, .int .u64 v1, .bool true] 141))
  have hs0 : w.heap.size + 1 ≤ (w.alloc (.cells #[.int .u64 u0, .int .u64 u1, .int .u64 v0, .int .u64 v1, .bool true] 141)).heap.size := by simp
  have B0 := Lib.hid b0
  have B1 := Lib.hid b1
  have H0 := Lib.hid h0
  have H1 := Lib.hid h1
  clear h g b0 b1 h0 h1
  go_enter Try.func124, Try.ntmps124
  go_wp2_with fail
  go_region_held3 (fun w' => w'.cell? ⟨w.heap.size, 0, none⟩ = some (.int .u64 u0) ∧ w'.cell? ⟨w.heap.size, 1, none⟩ = some (.int .u64 u1) ∧ w'.cell? ⟨w.heap.size, 2, none⟩ = some (.int .u64 v0) ∧ w'.cell? ⟨w.heap.size, 3, none⟩ = some (.int .u64 v1) ∧ w'.cell? ⟨w.heap.size, 4, none⟩ = some (.bool true) ∧ Below (w.heap.size + 1) (w.alloc (.cells #[.int .u64 u0, .int .u64 u1, .int .u64 v0, .int .u64 v1, .bool true] 141)) w')
    (first | (with_reducible exact steps_hold (Below.drew hB0)) | (with_reducible exact steps_hold hB1) | (with_reducible exact steps_hold hB2))
    (first
      | (go_at_call 142; refine (difference_num _ _ y x v1 u1 M L _ ((HG.out.below (Below.refl _ _).drew).below hb1) ((HH.out.below (Below.refl _ _).drew).below hb1) (by omega) (by omega) B1.out.2.2 ⟨B1.out.1, B1.out.2.1⟩ H1.out.1 H1.out.2).mono ?_; rintro e w2 ⟨r2, rfl, hr2, hb2⟩; have hB2 := Below.trans hB1 (hb2.mono (Nat.le_trans hs0 hB1.size)))
      | (go_at_call 142; refine (difference_num _ _ x y u0 v0 L M _ (HH.out.below (Below.refl _ _).drew) (HG.out.below (Below.refl _ _).drew) (by omega) (by omega) ⟨B0.out.1, B0.out.2.1⟩ B0.out.2.2 H0.out.1 H0.out.2).mono ?_; rintro e w1 ⟨r1, rfl, hr1, hb1⟩; have hB1 := Below.trans (Below.drew hB0) (hb1.mono (B' := w.heap.size + 1) hs0)))
  go_wp2
  go_ret2
  exact ⟨⟨_, _, rfl, hr1.below hb2, hr2⟩, hW.trans (hB2.mono (by omega))⟩

set_option maxRecDepth 100000 in
set_option maxHeartbeats 2000000 in
theorem apply_false (a b : Value) (x y u0 v0 u1 v1 : Int) (L M : Nat) (w : World) (h : Num w a x L) (g : Num w b y M) (hL : L ≤ 1048576) (hM : M ≤ 1048576)
    (b0 : 0 ≤ u0 ∧ u0 < BB ∧ 0 ≤ v0 ∧ v0 < BB) (b1 : 0 ≤ u1 ∧ u1 < BB ∧ 0 ≤ v1 ∧ v1 < BB) (h0 : 0 ≤ v0 * y - u0 * x ∧ v0 * y - u0 * x ≤ max y x) (h1 : 0 ≤ u1 * x - v1 * y ∧ u1 * x - v1 * y ≤ max x y) :
    Calls Try.prog 124 #[.agg #[.int .u64 u0, .int .u64 u1, .int .u64 v0, .int .u64 v1, .bool false], a, b] w fun e w' => (∃ r s, e = .returned (.tuple #[r, s]) ∧ Num w' r (v0 * y - u0 * x) (max M L) ∧ Num w' s (u1 * x - v1 * y) (max L M)) ∧ Below w.heap.size w w' := by
  have hW := below_alloc w (.cells #[.int .u64 u0, .int .u64 u1, .int .u64 v0, .int .u64 v1, .bool false] 141)
  have HH := Lib.hid (h.below hW)
  have HG := Lib.hid (g.below hW)
  have hB0 := Below.refl (w.heap.size + 1) (w.alloc (.cells #[.int .u64 u0, .int .u64 u1, .int .u64 v0, .int .u64 v1, .bool false] 141))
  have hs0 : w.heap.size + 1 ≤ (w.alloc (.cells #[.int .u64 u0, .int .u64 u1, .int .u64 v0, .int .u64 v1, .bool false] 141)).heap.size := by simp
  have B0 := Lib.hid b0
  have B1 := Lib.hid b1
  have H0 := Lib.hid h0
  have H1 := Lib.hid h1
  clear h g b0 b1 h0 h1
  go_enter Try.func124, Try.ntmps124
  go_wp2_with fail
  go_region_held3 (fun w' => w'.cell? ⟨w.heap.size, 0, none⟩ = some (.int .u64 u0) ∧ w'.cell? ⟨w.heap.size, 1, none⟩ = some (.int .u64 u1) ∧ w'.cell? ⟨w.heap.size, 2, none⟩ = some (.int .u64 v0) ∧ w'.cell? ⟨w.heap.size, 3, none⟩ = some (.int .u64 v1) ∧ w'.cell? ⟨w.heap.size, 4, none⟩ = some (.bool false) ∧ Below (w.heap.size + 1) (w.alloc (.cells #[.int .u64 u0, .int .u64 u1, .int .u64 v0, .int .u64 v1, .bool false] 141)) w')
    (first | (with_reducible exact steps_hold (Below.drew hB0)) | (with_reducible exact steps_hold hB1) | (with_reducible exact steps_hold hB2))
    (first
      | (go_at_call 142; refine (difference_num _ _ x y u1 v1 L M _ ((HH.out.below (Below.refl _ _).drew).below hb1) ((HG.out.below (Below.refl _ _).drew).below hb1) (by omega) (by omega) ⟨B1.out.1, B1.out.2.1⟩ B1.out.2.2 H1.out.1 H1.out.2).mono ?_; rintro e w2 ⟨r2, rfl, hr2, hb2⟩; have hB2 := Below.trans hB1 (hb2.mono (Nat.le_trans hs0 hB1.size)))
      | (go_at_call 142; refine (difference_num _ _ y x v0 u0 M L _ (HG.out.below (Below.refl _ _).drew) (HH.out.below (Below.refl _ _).drew) (by omega) (by omega) B0.out.2.2 ⟨B0.out.1, B0.out.2.1⟩ H0.out.1 H0.out.2).mono ?_; rintro e w1 ⟨r1, rfl, hr1, hb1⟩; have hB1 := Below.trans (Below.drew hB0) (hb1.mono (B' := w.heap.size + 1) hs0)))
  go_wp2
  go_ret2
  exact ⟨⟨_, _, rfl, hr1.below hb2, hr2⟩, hW.trans (hB2.mono (by omega))⟩

theorem apply_any (a b : Value) (x y u0 v0 u1 v1 : Int) (ev : Bool) (L : Nat) (w : World) (h : Num w a x L) (g : Num w b y L) (hL : L ≤ 1048576) (hyx : y ≤ x) (ho : LehOut x y ev u0 v0 u1 v1) (hv : v0 ≠ 0) :
    Calls Try.prog 124 #[.agg #[.int .u64 u0, .int .u64 u1, .int .u64 v0, .int .u64 v1, .bool ev], a, b] w fun e w' => (∃ r s x' y', e = .returned (.tuple #[r, s]) ∧ Num w' r x' L ∧ Num w' s y' L ∧ 0 ≤ y' ∧ y' ≤ x' ∧ x' ≤ y ∧ y' < y ∧ Int.gcd x' y' = Int.gcd x y) ∧ Below w.heap.size w w' := by
  obtain ⟨b0, b1, hp⟩ := ho
  rcases hp with hp | ⟨k1, k2, k3, k4, k5⟩
  · exact absurd hp hv
  · cases ev with
    | true =>
      have e0 : comb (!true) u0 x v0 y = u0 * x - v0 * y := rfl
      have e1 : comb true u1 x v1 y = v1 * y - u1 * x := rfl
      rw [e0] at k3 k4 k5
      rw [e1] at k1 k2 k3 k5
      refine (apply_true a b x y u0 v0 u1 v1 L L w h g hL hL b0 b1 ⟨by omega, by omega⟩ ⟨by omega, by omega⟩).mono ?_
      rintro e w' ⟨⟨r, s, rfl, hr, hs⟩, hb⟩
      exact ⟨⟨r, s, _, _, rfl, hr.mono (by omega), hs.mono (by omega), k1, k3, k4, k2, k5⟩, hb⟩
    | false =>
      have e0 : comb (!false) u0 x v0 y = v0 * y - u0 * x := rfl
      have e1 : comb false u1 x v1 y = u1 * x - v1 * y := rfl
      rw [e0] at k3 k4 k5
      rw [e1] at k1 k2 k3 k5
      refine (apply_false a b x y u0 v0 u1 v1 L L w h g hL hL b0 b1 ⟨by omega, by omega⟩ ⟨by omega, by omega⟩).mono ?_
      rintro e w' ⟨⟨r, s, rfl, hr, hs⟩, hb⟩
      exact ⟨⟨r, s, _, _, rfl, hr.mono (by omega), hs.mono (by omega), k1, k3, k4, k2, k5⟩, hb⟩

end Go.Proofs.Ytoanomgdkkbbmaa
