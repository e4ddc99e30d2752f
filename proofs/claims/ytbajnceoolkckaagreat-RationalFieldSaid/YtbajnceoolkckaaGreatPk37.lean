/- Of the proof of RationalField: RatField. -/
import Derived.Test.YtbajnceoolkckaaGreatPk35
import Derived.Test.YtbajnceoolkckaaGreatPk36
open List renaming getElem_toArray → gEA, getElem_cons_succ → gES, getElem_cons_zero → gEZ, setIfInBounds_toArray → sTA, set_cons_zero → sCZ, set_cons_succ → sCS
/- RationalField: the walk. -/
namespace Go.Proofs.YtbajnceoolkckaaGreat
open Go.RowKit LM

/-- A pointer to a box of four cells, of number n or more. -/
def PFx (n : Nat) (w : World) (x : Value) (v0 v1 v2 v3 : Value) : Prop := ∃ k, x = .pointer (some ⟨k, 0, none⟩) ∧ n ≤ k ∧ Fx4 w k v0 v1 v2 v3

theorem PFx.below {n : Nat} {w w' : World} {x v0 v1 v2 v3 : Value} (h : PFx n w x v0 v1 v2 v3) (hb : Below w.heap.size w w') : PFx n w' x v0 v1 v2 v3 := by
 obtain ⟨k, e, hk, F⟩ := h; exact ⟨k, e, hk, F.below hb⟩
theorem PFx.other {n : Nat} {w : World} {x v0 v1 v2 v3 u0 u1 u2 u3 : Value} {k : Nat} (h : PFx n w x v0 v1 v2 v3) (_F : Fx4 w k u0 u1 u2 u3) (hne : x ≠ .pointer (some ⟨k, 0, none⟩)) (z0 z1 z2 z3 : Value) : PFx n (put4 w k z0 z1 z2 z3) x v0 v1 v2 v3 := by
 obtain ⟨j, rfl, hj, G⟩ := h
 exact ⟨j, rfl, hj, G.other4 (fun e => hne (by rw [e])) _ _ _ _⟩
theorem PFx.fresh {n : Nat} {w : World} {x v0 v1 v2 v3 : Value} (h : PFx n w x v0 v1 v2 v3) : x ≠ .pointer (some ⟨w.heap.size, 0, none⟩) := by
 obtain ⟨j, rfl, hj, G⟩ := h
 intro e
 have := G.lt
 injection e with e1
 injection e1 with e2
 injection e2 with e3
 omega

theorem three26 (w : World) (a0 a1 a2 a3 b0 b1 b2 b3 c0 c1 c2 c3 : Value) :
  Below w.heap.size w (((w.alloc (.cells #[a0, a1, a2, a3] 26)).alloc (.cells #[b0, b1, b2, b3] 26)).alloc (.cells #[c0, c1, c2, c3] 26)) ∧
  Fx4 (((w.alloc (.cells #[a0, a1, a2, a3] 26)).alloc (.cells #[b0, b1, b2, b3] 26)).alloc (.cells #[c0, c1, c2, c3] 26)) w.heap.size a0 a1 a2 a3 ∧
  Fx4 (((w.alloc (.cells #[a0, a1, a2, a3] 26)).alloc (.cells #[b0, b1, b2, b3] 26)).alloc (.cells #[c0, c1, c2, c3] 26)) (w.heap.size + 1) b0 b1 b2 b3 ∧
  Fx4 (((w.alloc (.cells #[a0, a1, a2, a3] 26)).alloc (.cells #[b0, b1, b2, b3] 26)).alloc (.cells #[c0, c1, c2, c3] 26)) (w.heap.size + 1 + 1) c0 c1 c2 c3 := by
 have F1 := ((Fx4.new w a0 a1 a2 a3 26).below (below_alloc _ (.cells #[b0, b1, b2, b3] 26))).below (below_alloc _ (.cells #[c0, c1, c2, c3] 26))
 have F2 := (Fx4.new (w.alloc (.cells #[a0, a1, a2, a3] 26)) b0 b1 b2 b3 26).below (below_alloc _ (.cells #[c0, c1, c2, c3] 26))
 rw [show (w.alloc (.cells #[a0, a1, a2, a3] 26)).heap.size = w.heap.size + 1 from by simp] at F2
 have F3 := Fx4.new ((w.alloc (.cells #[a0, a1, a2, a3] 26)).alloc (.cells #[b0, b1, b2, b3] 26)) c0 c1 c2 c3 26
 rw [show ((w.alloc (.cells #[a0, a1, a2, a3] 26)).alloc (.cells #[b0, b1, b2, b3] 26)).heap.size = w.heap.size + 1 + 1 from by simp] at F3
 exact ⟨below_boxed2 _ _ _ _, F1, F2, F3⟩

theorem lensQ3 (w : World) {g : Nat} (hg : w.heap.size = g) (p0 p1 p2 p3 p4 p5 : Bool) (A0 A1 A2 A3 A4 A5 : Option Addr) (n0 n1 n2 n3 n4 n5 c0 c1 c2 c3 c4 c5 : Nat) :
  LensQ (w.alloc (.cells #[.bool p0, .slice A0 n0 c0, .bool p1, .slice A1 n1 c1, .bool p2, .slice A2 n2 c2, .bool p3, .slice A3 n3 c3, .bool p4, .slice A4 n4 c4, .bool p5, .slice A5 n5 c5] 26)) g 3 [(n0, n1), (n2, n3), (n4, n5)] := by
 subst hg
 refine ⟨rfl, by simp, fun i hi => ?_⟩
 match i, hi with
 | 0, _ => exact ⟨p0, A0, c0, p1, A1, c1, World.cell?_alloc_at _ _ _ _ rfl, World.cell?_alloc_at _ _ _ _ rfl, World.cell?_alloc_at _ _ _ _ rfl, World.cell?_alloc_at _ _ _ _ rfl⟩
 | 1, _ => exact ⟨p2, A2, c2, p3, A3, c3, World.cell?_alloc_at _ _ _ _ rfl, World.cell?_alloc_at _ _ _ _ rfl, World.cell?_alloc_at _ _ _ _ rfl, World.cell?_alloc_at _ _ _ _ rfl⟩
 | 2, _ => exact ⟨p4, A4, c4, p5, A5, c5, World.cell?_alloc_at _ _ _ _ rfl, World.cell?_alloc_at _ _ _ _ rfl, World.cell?_alloc_at _ _ _ _ rfl, World.cell?_alloc_at _ _ _ _ rfl⟩

theorem givenQ3 (w : World) {g : Nat} (hg : w.heap.size = g) (p0 p1 p2 p3 p4 p5 : Bool) {A0 A1 A2 A3 A4 A5 : Option Addr} {n0 n1 n2 n3 n4 n5 c0 c1 c2 c3 c4 c5 : Nat} {xs0 xs1 xs2 xs3 xs4 xs5 : List Int}
  (h0 : Row .u32 w A0 n0 c0 xs0) (h1 : Row .u32 w A1 n1 c1 xs1) (h2 : Row .u32 w A2 n2 c2 xs2) (h3 : Row .u32 w A3 n3 c3 xs3) (h4 : Row .u32 w A4 n4 c4 xs4) (h5 : Row .u32 w A5 n5 c5 xs5)
  (hd : Dig xs0 ∧ Dig xs1 ∧ Dig xs2 ∧ Dig xs3 ∧ Dig xs4 ∧ Dig xs5) (hn : n0 ≤ 3 ∧ n1 ≤ 3 ∧ n2 ≤ 3 ∧ n3 ≤ 3 ∧ n4 ≤ 3 ∧ n5 ≤ 3) :
  GivenQ (w.alloc (.cells #[.bool p0, .slice A0 n0 c0, .bool p1, .slice A1 n1 c1, .bool p2, .slice A2 n2 c2, .bool p3, .slice A3 n3 c3, .bool p4, .slice A4 n4 c4, .bool p5, .slice A5 n5 c5] 26)) g 3 3 [(ofN (withSign p0 (val xs0)) (withSign p1 (val xs1)), ofD (withSign p0 (val xs0)) (withSign p1 (val xs1))), (ofN (withSign p2 (val xs2)) (withSign p3 (val xs3)), ofD (withSign p2 (val xs2)) (withSign p3 (val xs3))), (ofN (withSign p4 (val xs4)) (withSign p5 (val xs5)), ofD (withSign p4 (val xs4)) (withSign p5 (val xs5)))] := by
 subst hg
 have hb := below_alloc w (.cells #[.bool p0, .slice A0 n0 c0, .bool p1, .slice A1 n1 c1, .bool p2, .slice A2 n2 c2, .bool p3, .slice A3 n3 c3, .bool p4, .slice A4 n4 c4, .bool p5, .slice A5 n5 c5] 26)
 refine ⟨rfl, by simp, fun i hi => ?_⟩
 match i, hi with
 | 0, _ => exact ⟨p0, A0, n0, c0, xs0, p1, A1, n1, c1, xs1, World.cell?_alloc_at _ _ _ _ rfl, World.cell?_alloc_at _ _ _ _ rfl, World.cell?_alloc_at _ _ _ _ rfl, World.cell?_alloc_at _ _ _ _ rfl, h0.below hb, hd.1, hn.1, h1.below hb, hd.2.1, hn.2.1, rfl⟩
 | 1, _ => exact ⟨p2, A2, n2, c2, xs2, p3, A3, n3, c3, xs3, World.cell?_alloc_at _ _ _ _ rfl, World.cell?_alloc_at _ _ _ _ rfl, World.cell?_alloc_at _ _ _ _ rfl, World.cell?_alloc_at _ _ _ _ rfl, h2.below hb, hd.2.2.1, hn.2.2.1, h3.below hb, hd.2.2.2.1, hn.2.2.2.1, rfl⟩
 | 2, _ => exact ⟨p4, A4, n4, c4, xs4, p5, A5, n5, c5, xs5, World.cell?_alloc_at _ _ _ _ rfl, World.cell?_alloc_at _ _ _ _ rfl, World.cell?_alloc_at _ _ _ _ rfl, World.cell?_alloc_at _ _ _ _ rfl, h4.below hb, hd.2.2.2.2.1, hn.2.2.2.2.1, h5.below hb, hd.2.2.2.2.2, hn.2.2.2.2.2, rfl⟩

/-- Three fractions in a slice. -/
theorem own3 {w : World} {base : Nat} {v : Value} {x0 y0 x1 y1 x2 y2 : Int} {L : Nat} (h : OwnRats w base v [(x0, y0), (x1, y1), (x2, y2)] L) :
  ∃ b cap g0 K0 l0 f0 s0 E0 r0 t0 g1 K1 l1 f1 s1 E1 r1 t1 g2 K2 l2 f2 s2 E2 r2 t2, v = .slice (some ⟨b, 0, none⟩) 3 cap ∧ b < w.heap.size ∧
   (w.cell? ⟨b, 0, none⟩ = some (.bool g0) ∧ w.cell? ⟨b, 1, none⟩ = some (.slice K0 l0 f0) ∧ w.cell? ⟨b, 2, none⟩ = some (.bool s0) ∧ w.cell? ⟨b, 3, none⟩ = some (.slice E0 r0 t0) ∧ w.cell? ⟨b, 4, none⟩ = some (.bool g1) ∧ w.cell? ⟨b, 5, none⟩ = some (.slice K1 l1 f1) ∧ w.cell? ⟨b, 6, none⟩ = some (.bool s1) ∧ w.cell? ⟨b, 7, none⟩ = some (.slice E1 r1 t1) ∧ w.cell? ⟨b, 8, none⟩ = some (.bool g2) ∧ w.cell? ⟨b, 9, none⟩ = some (.slice K2 l2 f2) ∧ w.cell? ⟨b, 10, none⟩ = some (.bool s2) ∧ w.cell? ⟨b, 11, none⟩ = some (.slice E2 r2 t2)) ∧
   Rat w (.agg #[.bool g0, .slice K0 l0 f0, .bool s0, .slice E0 r0 t0]) x0 y0 L ∧ Rat w (.agg #[.bool g1, .slice K1 l1 f1, .bool s1, .slice E1 r1 t1]) x1 y1 L ∧ Rat w (.agg #[.bool g2, .slice K2 l2 f2, .bool s2, .slice E2 r2 t2]) x2 y2 L := by
 obtain ⟨b, cap, g0, K0, l0, f0, s0, E0, r0, t0, rfl, hb, hlt, a0, a1, a2, a3, V0⟩ := h.get (i := 0) (by simp)
 obtain ⟨b', cap', g1, K1, l1, f1, s1, E1, r1, t1, e1, -, -, b0, b1, b2, b3, V1⟩ := h.get (i := 1) (by simp)
 obtain ⟨b'', cap'', g2, K2, l2, f2, s2, E2, r2, t2, e2, -, -, c0, c1, c2, c3, V2⟩ := h.get (i := 2) (by simp)
 injection e1 with e3 _ _
 injection e3 with e3
 injection e3 with e3
 injection e2 with e4 _ _
 injection e4 with e4
 injection e4 with e4
 subst e3 e4
 exact ⟨b, cap, g0, K0, l0, f0, s0, E0, r0, t0, g1, K1, l1, f1, s1, E1, r1, t1, g2, K2, l2, f2, s2, E2, r2, t2, rfl, hlt, ⟨a0, a1, a2, a3, b0, b1, b2, b3, c0, c1, c2, c3⟩, V0, V1, V2⟩

/-- Behind the first tests: three fractions in boxes. -/
def FMid (w : World) (x0 y0 x1 y1 x2 y2 k M : Int) (v3 v10 v11 v12 : Value) (wx : World) : Prop :=
 ∃ (j10 j11 j12 : Nat) (g0 : Bool) (K0 : Option Addr) (l0 f0 : Nat) (s0 : Bool) (E0 : Option Addr) (r0 t0 : Nat) (g1 : Bool) (K1 : Option Addr) (l1 f1 : Nat) (s1 : Bool) (E1 : Option Addr) (r1 t1 : Nat) (g2 : Bool) (K2 : Option Addr) (l2 f2 : Nat) (s2 : Bool) (E2 : Option Addr) (r2 t2 : Nat),
  v3 = .int .u8 k ∧ v10 = .pointer (some ⟨j10, 0, none⟩) ∧ v11 = .pointer (some ⟨j11, 0, none⟩) ∧ v12 = .pointer (some ⟨j12, 0, none⟩) ∧
  Fx4 wx j10 (.bool g0) (.slice K0 l0 f0) (.bool s0) (.slice E0 r0 t0) ∧ Fx4 wx j11 (.bool g1) (.slice K1 l1 f1) (.bool s1) (.slice E1 r1 t1) ∧ Fx4 wx j12 (.bool g2) (.slice K2 l2 f2) (.bool s2) (.slice E2 r2 t2) ∧
  Rat wx (.agg #[.bool g0, .slice K0 l0 f0, .bool s0, .slice E0 r0 t0]) x0 y0 7 ∧ Rat wx (.agg #[.bool g1, .slice K1 l1 f1, .bool s1, .slice E1 r1 t1]) x1 y1 7 ∧ Rat wx (.agg #[.bool g2, .slice K2 l2 f2, .bool s2, .slice E2 r2 t2]) x2 y2 7 ∧ wx.cell? ⟨0, 0, none⟩ = some (.int .i64 M) ∧ Below w.heap.size w wx

/-- What Div has answered of (x0/y0 times x1/y1) and x1/y1. -/
def DivV (w : World) (v : Value) (x0 y0 x1 y1 : Int) : Prop := ∃ N D, Rat w v N D 43 ∧ (x1 ≠ 0 → N * ((y0) * (y1) * x1) = (x0) * (x1) * y1 * D)
def DivT (w : World) (v : Value) (x0 y0 x1 y1 : Int) : Prop := ∃ u, v = .tuple #[u, .int .i64 (divE x1)] ∧ DivV w u x0 y0 x1 y1
def DBox (w : World) (v : Value) (x0 y0 x1 y1 : Int) : Prop :=
 ∃ k z1 z2 z3 z4 z5 z6 z7 z8, v = .pointer (some ⟨k, 0, none⟩) ∧ Fx4 w k (.bool z1) (.slice z2 z3 z4) (.bool z5) (.slice z6 z7 z8) ∧ DivV w (.agg #[.bool z1, .slice z2 z3 z4, .bool z5, .slice z6 z7 z8]) x0 y0 x1 y1
theorem DivV.below {w w' : World} {v : Value} {x0 y0 x1 y1 : Int} (h : DivV w v x0 y0 x1 y1) (hb : Below w.heap.size w w') : DivV w' v x0 y0 x1 y1 := by
 obtain ⟨N, D, h1, h2⟩ := h; exact ⟨N, D, h1.below hb, h2⟩
theorem DivV.form {w : World} {v : Value} {x0 y0 x1 y1 : Int} (h : DivV w v x0 y0 x1 y1) : ∃ g1 A1 n1 c1 g2 A2 n2 c2, v = .agg #[.bool g1, .slice A1 n1 c1, .bool g2, .slice A2 n2 c2] := by
 obtain ⟨N, D, h1, h2⟩ := h; exact h1.form
theorem DivV.put4 {w : World} {v : Value} {x0 y0 x1 y1 : Int} (h : DivV w v x0 y0 x1 y1) {b : Nat} (F : Fx4 w b (.bool false) (.slice none 0 0) (.bool false) (.slice none 0 0)) (u0 u1 u2 u3 : Value) : DivV (put4 w b u0 u1 u2 u3) v x0 y0 x1 y1 := by
 obtain ⟨N, D, h1, h2⟩ := h; exact ⟨N, D, h1.put4 F _ _ _ _, h2⟩
theorem DivT.below {w w' : World} {v : Value} {x0 y0 x1 y1 : Int} (h : DivT w v x0 y0 x1 y1) (hb : Below w.heap.size w w') : DivT w' v x0 y0 x1 y1 := by
 obtain ⟨u, e, h1⟩ := h; exact ⟨u, e, h1.below hb⟩
theorem DivT.put4 {w : World} {v : Value} {x0 y0 x1 y1 : Int} (h : DivT w v x0 y0 x1 y1) {b : Nat} (F : Fx4 w b (.bool false) (.slice none 0 0) (.bool false) (.slice none 0 0)) (u0 u1 u2 u3 : Value) : DivT (put4 w b u0 u1 u2 u3) v x0 y0 x1 y1 := by
 obtain ⟨u, e, h1⟩ := h; exact ⟨u, e, h1.put4 F _ _ _ _⟩
theorem VRat.put4 {w : World} {v : Value} {Q P : Int} {L : Nat} (h : VRat w v Q P L) {b : Nat} (F : Fx4 w b (.bool false) (.slice none 0 0) (.bool false) (.slice none 0 0)) (u0 u1 u2 u3 : Value) : VRat (put4 w b u0 u1 u2 u3) v Q P L := by
 obtain ⟨N, D, h1, h2⟩ := h; exact ⟨N, D, h1.put4 F _ _ _ _, h2⟩
theorem DBox.below {w w' : World} {v : Value} {x0 y0 x1 y1 : Int} (h : DBox w v x0 y0 x1 y1) (hb : Below w.heap.size w w') : DBox w' v x0 y0 x1 y1 := by
 obtain ⟨k, z1, z2, z3, z4, z5, z6, z7, z8, e, F, h⟩ := h
 exact ⟨k, z1, z2, z3, z4, z5, z6, z7, z8, e, F.below hb, h.below hb⟩
theorem div_back {x0 y0 x1 y1 N D : Int} (_ : 0 < y0) (h1 : 0 < y1) (hx : x1 ≠ 0) (h : N * ((y0) * (y1) * x1) = (x0) * (x1) * y1 * D) : N * y0 = x0 * D := by
 refine Int.eq_of_mul_eq_mul_right (a := y1 * x1) (Int.mul_ne_zero (by omega) hx) ?_
 grind
theorem radix_bounds {k : Int} (h : 0 ≤ k ∧ k ≤ 255) : 2 ≤ wrap64 (2 + (wrap64 k).tmod 35) ∧ wrap64 (2 + (wrap64 k).tmod 35) ≤ 36 := by
 have e : wrap64 k = k := by unfold wrap64; omega
 rw [e, Int.tmod_eq_emod_of_nonneg h.1]
 unfold wrap64
 omega
theorem list_ne {S T : ByteArray} (h : S ≠ T) : (S.toList == T.toList) = false := by
 have : S.toList ≠ T.toList := fun e => h (ByteArray.ext (Array.toList_inj.mp (by rw [← ByteArray.toList_eq, ← ByteArray.toList_eq]; exact e)))
 simpa using this
theorem same_no_q (u v : Value) (n d m c : Int) (L : Nat) (w : World) (h : Rat w u n d L) (g : Rat w v m c L) (hL : L ≤ 400000) (he : ¬ n * c = m * d) :
  Calls Tryz.prog 61 #[u, v] w fun e w' => e = .returned (.bool false) ∧ Below w.heap.size w w' := by
 refine (same_any u v n d m c L w h g hL).mono ?_
 rintro e w' ⟨rfl, hb⟩
 refine ⟨?_, hb⟩
 rcases Int.lt_or_gt_of_ne he with h | h
 ·rw [cmpI_lt h]; rfl
 ·rw [cmpI_gt h]; rfl
theorem cmp_neg (a b : Int) : IntKind.i64.wrap (-(cmpI a b)) = cmpI b a := by
 rcases Int.lt_trichotomy a b with h | h | h
 ·rw [cmpI_lt h, cmpI_gt h]; decide
 ·rw [h, cmpI_eq rfl]; decide
 ·rw [cmpI_gt h, cmpI_lt h]; decide
theorem cmp_shift {a b t : Int} : cmpI (a + t) (b + t) = cmpI a b := by
 rcases Int.lt_trichotomy a b with h | h | h
 ·rw [cmpI_lt h, cmpI_lt (by omega)]
 ·rw [h, cmpI_eq rfl, cmpI_eq rfl]
 ·rw [cmpI_gt h, cmpI_gt (by omega)]
theorem cmp_add {x0 y0 x1 y1 x2 y2 : Int} (h : 0 < y2) : cmpI (((x0) * (y2) + (x2) * (y0)) * ((y1) * (y2))) (((x1) * (y2) + (x2) * (y1)) * ((y0) * (y2))) = cmpI ((x0) * (y1)) ((x1) * (y0)) := by
 have e1 : ((x0) * (y2) + (x2) * (y0)) * ((y1) * (y2)) = x0 * y1 * (y2 * y2) + x2 * y0 * y1 * y2 := by grind
 have e2 : ((x1) * (y2) + (x2) * (y1)) * ((y0) * (y2)) = x1 * y0 * (y2 * y2) + x2 * y0 * y1 * y2 := by grind
 rw [e1, e2, cmp_shift, cmpI_scale (Int.mul_pos h h)]
theorem cmp_mul {x0 y0 x1 y1 x2 y2 : Int} (h0 : 0 < x2) (h : 0 < y2) : cmpI (((x0) * (x2)) * ((y1) * (y2))) (((x1) * (x2)) * ((y0) * (y2))) = cmpI ((x0) * (y1)) ((x1) * (y0)) := by
 have e1 : ((x0) * (x2)) * ((y1) * (y2)) = x0 * y1 * (x2 * y2) := by grind
 have e2 : ((x1) * (x2)) * ((y0) * (y2)) = x1 * y0 * (x2 * y2) := by grind
 rw [e1, e2, cmpI_scale (Int.mul_pos h0 h)]
theorem same_yes_q (u v : Value) (n d m c : Int) (L : Nat) (w : World) (h : Rat w u n d L) (g : Rat w v m c L) (hL : L ≤ 400000) (he : n * c = m * d) :
  Calls Tryz.prog 61 #[u, v] w fun e w' => e = .returned (.bool true) ∧ Below w.heap.size w w' := by
 refine (same_any u v n d m c L w h g hL).mono ?_
 rintro e w' ⟨rfl, hb⟩
 exact ⟨by rw [cmpI_eq he]; rfl, hb⟩

theorem ident1 (x0 y0 x1 y1 _ _ : Int) : ((x0) * (y1) + (x1) * (y0)) * ((y1) * (y0)) = ((x1) * (y0) + (x0) * (y1)) * ((y0) * (y1)) := by grind
theorem ident2 (x0 y0 x1 y1 _ _ : Int) : ((x0) * (x1)) * ((y1) * (y0)) = ((x1) * (x0)) * ((y0) * (y1)) := by grind
theorem ident3 (x0 y0 x1 y1 x2 y2 : Int) : (((x0) * (y1) + (x1) * (y0)) * (y2) + (x2) * ((y0) * (y1))) * ((y0) * ((y1) * (y2))) = ((x0) * ((y1) * (y2)) + ((x1) * (y2) + (x2) * (y1)) * (y0)) * (((y0) * (y1)) * (y2)) := by grind
theorem ident4 (x0 y0 x1 y1 x2 y2 : Int) : (((x0) * (x1)) * (x2)) * ((y0) * ((y1) * (y2))) = ((x0) * ((x1) * (x2))) * (((y0) * (y1)) * (y2)) := by grind
theorem ident5 (x0 y0 x1 y1 x2 y2 : Int) : ((x0) * ((x1) * (y2) + (x2) * (y1))) * (((y0) * (y1)) * ((y0) * (y2))) = (((x0) * (x1)) * ((y0) * (y2)) + ((x0) * (x2)) * ((y0) * (y1))) * ((y0) * ((y1) * (y2))) := by grind
theorem ident6 (x0 y0 x1 y1 _ _ : Int) : (((x0) * (y1) + (x1) * (y0)) * (y1) - (x1) * ((y0) * (y1))) * (y0) = (x0) * (((y0) * (y1)) * (y1)) := by grind

set_option maxRecDepth 100000 in
set_option maxHeartbeats 80000000 in
theorem field_any (p0 p1 p2 p3 p4 p5 : Bool) (A0 A1 A2 A3 A4 A5 : Option Addr) (n0 c0 n1 c1 n2 c2 n3 c3 n4 c4 n5 c5 : Nat) (xs0 xs1 xs2 xs3 xs4 xs5 : List Int) (k M : Int) (w : World)
  (h0 : Row .u32 w A0 n0 c0 xs0) (d0 : Dig xs0) (h1 : Row .u32 w A1 n1 c1 xs1) (d1 : Dig xs1) (h2 : Row .u32 w A2 n2 c2 xs2) (d2 : Dig xs2) (h3 : Row .u32 w A3 n3 c3 xs3) (d3 : Dig xs3) (h4 : Row .u32 w A4 n4 c4 xs4) (d4 : Dig xs4) (h5 : Row .u32 w A5 n5 c5 xs5) (d5 : Dig xs5)
  (hk : 0 ≤ k ∧ k ≤ 255) (hM : w.cell? ⟨0, 0, none⟩ = some (.int .i64 M)) :
  Calls Tryz.prog 8 #[.agg #[.bool p0, .slice A0 n0 c0, .bool p1, .slice A1 n1 c1], .agg #[.bool p2, .slice A2 n2 c2, .bool p3, .slice A3 n3 c3], .agg #[.bool p4, .slice A4 n4 c4, .bool p5, .slice A5 n5 c5], .int .u8 k] w fun e w' => e = .returned (.bool true) ∧ Below w.heap.size w w' := by
 obtain ⟨hw, B0, B1, B2⟩ := three26 w (.bool p0) (.slice A0 n0 c0) (.bool p1) (.slice A1 n1 c1) (.bool p2) (.slice A2 n2 c2) (.bool p3) (.slice A3 n3 c3) (.bool p4) (.slice A4 n4 c4) (.bool p5) (.slice A5 n5 c5)
 obtain ⟨W0, hW0⟩ : ∃ W0, ((w.alloc (.cells #[.bool p0, .slice A0 n0 c0, .bool p1, .slice A1 n1 c1] 26)).alloc (.cells #[.bool p2, .slice A2 n2 c2, .bool p3, .slice A3 n3 c3] 26)).alloc (.cells #[.bool p4, .slice A4 n4 c4, .bool p5, .slice A5 n5 c5] 26) = W0 := ⟨_, rfl⟩
 rw [hW0] at hw B0 B1 B2
 have hm := Lib.hid ((hw.cell (p := ⟨0, 0, none⟩) (World.block_lt_of_cell? _ _ hM)).trans hM)
 clear hM
 replace h0 := Lib.hid (h0.below hw)
 replace h1 := Lib.hid (h1.below hw)
 replace h2 := Lib.hid (h2.below hw)
 replace h3 := Lib.hid (h3.below hw)
 replace h4 := Lib.hid (h4.below hw)
 replace h5 := Lib.hid (h5.below hw)
 replace B0 := Lib.hid B0
 replace B1 := Lib.hid B1
 replace B2 := Lib.hid B2
 replace hw := Lib.hid hw
 have HD := Lib.hid (And.intro d0 (And.intro d1 (And.intro d2 (And.intro d3 (And.intro d4 d5)))))
 clear d0 d1 d2 d3 d4 d5
 have HK := Lib.hid hk
 clear hk
 go_enter Tryz.func8, Tryz.ntmps8
 go_upto_region 1 with fail
 clear hW0
 obtain ⟨a00, a01, a02, a03, -, -, -, -, -⟩ := B0.out
 obtain ⟨a10, a11, a12, a13, -, -, -, -, -⟩ := B1.out
 obtain ⟨a20, a21, a22, a23, -, -, -, -, -⟩ := B2.out
 go_wp2_with fail
 refine (shortQ_any _ 3 [(n0, n1), (n2, n3), (n4, n5)] 3 _ (lensQ3 W0 rfl p0 p1 p2 p3 p4 p5 A0 A1 A2 A3 A4 A5 n0 n1 n2 n3 n4 n5 c0 c1 c2 c3 c4 c5) (by omega)).mono ?_
 rintro e w1 ⟨rfl, hb1⟩
 have hb2 := (below_alloc W0 (.cells #[.bool p0, .slice A0 n0 c0, .bool p1, .slice A1 n1 c1, .bool p2, .slice A2 n2 c2, .bool p3, .slice A3 n3 c3, .bool p4, .slice A4 n4 c4, .bool p5, .slice A5 n5 c5] 26)).trans (hb1.mono (by simp))
 clear a00 a01 a02 a03
 clear a10 a11 a12 a13
 clear a20 a21 a22 a23
 replace B0 := Lib.hid (B0.out.below hb2)
 replace B1 := Lib.hid (B1.out.below hb2)
 replace B2 := Lib.hid (B2.out.below hb2)
 replace h0 := Lib.hid (h0.out.below hb2)
 replace h1 := Lib.hid (h1.out.below hb2)
 replace h2 := Lib.hid (h2.out.below hb2)
 replace h3 := Lib.hid (h3.out.below hb2)
 replace h4 := Lib.hid (h4.out.below hb2)
 replace h5 := Lib.hid (h5.out.below hb2)
 replace hm := Lib.hid (((hb2).cell (p := ⟨0, 0, none⟩) (World.block_lt_of_cell? _ _ hm.out)).trans hm.out)
 replace hw := Lib.hid (hw.out.trans (hb2.mono hw.out.size))
 clear hb1 hb2
 cases ht : anyLong [(n0, n1), (n2, n3), (n4, n5)] 3 with
 | true =>
  have HT0 := Lib.hid ht
  clear ht
  go_wp2_with fail
  refine (awake_any _ M hm.out).mono ?_
  rintro e wz ⟨rfl, hbz⟩
  replace hw := Lib.hid (hw.out.trans (hbz.mono hw.out.size))
  clear hbz
  go_wp2
  go_ret
  exact ⟨rfl, hw.out⟩
 | false =>
  have HN := Lib.hid (show n0 ≤ 3 ∧ n1 ≤ 3 ∧ n2 ≤ 3 ∧ n3 ≤ 3 ∧ n4 ≤ 3 ∧ n5 ≤ 3 by simp [anyLong, tooLong] at ht; omega)
  clear ht
  obtain ⟨a00, a01, a02, a03, -, -, -, -, -⟩ := B0.out
  obtain ⟨a10, a11, a12, a13, -, -, -, -, -⟩ := B1.out
  obtain ⟨a20, a21, a22, a23, -, -, -, -, -⟩ := B2.out
  go_wp2_with fail
  refine (ofList_any _ 3 3 [(ofN (withSign p0 (val xs0)) (withSign p1 (val xs1)), ofD (withSign p0 (val xs0)) (withSign p1 (val xs1))), (ofN (withSign p2 (val xs2)) (withSign p3 (val xs3)), ofD (withSign p2 (val xs2)) (withSign p3 (val xs3))), (ofN (withSign p4 (val xs4)) (withSign p5 (val xs5)), ofD (withSign p4 (val xs4)) (withSign p5 (val xs5)))] _ (givenQ3 w1 rfl p0 p1 p2 p3 p4 p5 h0.out h1.out h2.out h3.out h4.out h5.out HD.out HN.out) (by omega) (by omega)).mono ?_
  rintro e w3 ⟨⟨v, rfl, hv⟩, hb1⟩
  have hb2 := (below_alloc w1 (.cells #[.bool p0, .slice A0 n0 c0, .bool p1, .slice A1 n1 c1, .bool p2, .slice A2 n2 c2, .bool p3, .slice A3 n3 c3, .bool p4, .slice A4 n4 c4, .bool p5, .slice A5 n5 c5] 26)).trans (hb1.mono (by simp))
  clear a00 a01 a02 a03
  clear a10 a11 a12 a13
  clear a20 a21 a22 a23
  replace hm := Lib.hid (((hb2).cell (p := ⟨0, 0, none⟩) (World.block_lt_of_cell? _ _ hm.out)).trans hm.out)
  replace hw := Lib.hid (hw.out.trans (hb2.mono hw.out.size))
  clear hb1 hb2 B0 B1 B2 h0 h1 h2 h3 h4 h5
  obtain ⟨x0, hx⟩ : ∃ x, ofN (withSign p0 (val xs0)) (withSign p1 (val xs1)) = x := ⟨_, rfl⟩
  obtain ⟨y0, hy⟩ : ∃ y, ofD (withSign p0 (val xs0)) (withSign p1 (val xs1)) = y := ⟨_, rfl⟩
  rw [hx, hy] at hv
  clear hx hy
  obtain ⟨x1, hx⟩ : ∃ x, ofN (withSign p2 (val xs2)) (withSign p3 (val xs3)) = x := ⟨_, rfl⟩
  obtain ⟨y1, hy⟩ : ∃ y, ofD (withSign p2 (val xs2)) (withSign p3 (val xs3)) = y := ⟨_, rfl⟩
  rw [hx, hy] at hv
  clear hx hy
  obtain ⟨x2, hx⟩ : ∃ x, ofN (withSign p4 (val xs4)) (withSign p5 (val xs5)) = x := ⟨_, rfl⟩
  obtain ⟨y2, hy⟩ : ∃ y, ofD (withSign p4 (val xs4)) (withSign p5 (val xs5)) = y := ⟨_, rfl⟩
  rw [hx, hy] at hv
  clear hx hy
  obtain ⟨jb, cap, g0, K0, l0, f0, s0, E0, r0, t0, g1, K1, l1, f1, s1, E1, r1, t1, g2, K2, l2, f2, s2, E2, r2, t2, rfl, hjb, ⟨k0, k1, k2, k3, k4, k5, k6, k7, k8, k9, k10, k11⟩, V0, V1, V2⟩ := own3 hv
  replace V0 := Lib.hid V0
  replace V1 := Lib.hid V1
  replace V2 := Lib.hid V2
  clear hv HD HN
  go_upto_region 4 with fail
  have HT := Lib.hid (fun (w' : World) (hb : Below w3.heap.size w3 w') => (show w'.cell? ⟨jb, 0, none⟩ = some (.bool g0) ∧ w'.cell? ⟨jb, 1, none⟩ = some (.slice K0 l0 f0) ∧ w'.cell? ⟨jb, 2, none⟩ = some (.bool s0) ∧ w'.cell? ⟨jb, 3, none⟩ = some (.slice E0 r0 t0) ∧ w'.cell? ⟨jb, 4, none⟩ = some (.bool g1) ∧ w'.cell? ⟨jb, 5, none⟩ = some (.slice K1 l1 f1) ∧ w'.cell? ⟨jb, 6, none⟩ = some (.bool s1) ∧ w'.cell? ⟨jb, 7, none⟩ = some (.slice E1 r1 t1) ∧ w'.cell? ⟨jb, 8, none⟩ = some (.bool g2) ∧ w'.cell? ⟨jb, 9, none⟩ = some (.slice K2 l2 f2) ∧ w'.cell? ⟨jb, 10, none⟩ = some (.bool s2) ∧ w'.cell? ⟨jb, 11, none⟩ = some (.slice E2 r2 t2) from ⟨(hb.cell (p := ⟨jb, 0, none⟩) hjb).trans k0, (hb.cell (p := ⟨jb, 1, none⟩) hjb).trans k1, (hb.cell (p := ⟨jb, 2, none⟩) hjb).trans k2, (hb.cell (p := ⟨jb, 3, none⟩) hjb).trans k3, (hb.cell (p := ⟨jb, 4, none⟩) hjb).trans k4, (hb.cell (p := ⟨jb, 5, none⟩) hjb).trans k5, (hb.cell (p := ⟨jb, 6, none⟩) hjb).trans k6, (hb.cell (p := ⟨jb, 7, none⟩) hjb).trans k7, (hb.cell (p := ⟨jb, 8, none⟩) hjb).trans k8, (hb.cell (p := ⟨jb, 9, none⟩) hjb).trans k9, (hb.cell (p := ⟨jb, 10, none⟩) hjb).trans k10, (hb.cell (p := ⟨jb, 11, none⟩) hjb).trans k11⟩))
  obtain ⟨Inv, hInv⟩ : ∃ J : (Nat → Bool) → (Value × Value × Value) → World → Prop, J = fun b v w' => (Below w3.heap.size w3 w') ∧ (b 9 = true → b 12 = false → PFx w3.heap.size w' v.1 (.bool false) (.slice none 0 0) (.bool false) (.slice none 0 0)) ∧ (b 12 = true → PFx w3.heap.size w' v.1 (.bool g0) (.slice K0 l0 f0) (.bool s0) (.slice E0 r0 t0)) ∧ (b 10 = true → b 13 = false → PFx w3.heap.size w' v.2.1 (.bool false) (.slice none 0 0) (.bool false) (.slice none 0 0)) ∧ (b 13 = true → PFx w3.heap.size w' v.2.1 (.bool g1) (.slice K1 l1 f1) (.bool s1) (.slice E1 r1 t1)) ∧ (b 11 = true → b 14 = false → PFx w3.heap.size w' v.2.2 (.bool false) (.slice none 0 0) (.bool false) (.slice none 0 0)) ∧ (b 14 = true → PFx w3.heap.size w' v.2.2 (.bool g2) (.slice K2 l2 f2) (.bool s2) (.slice E2 r2 t2)) ∧ (b 9 = true → b 10 = true → v.1 ≠ v.2.1) ∧ (b 9 = true → b 11 = true → v.1 ≠ v.2.2) ∧ (b 10 = true → b 11 = true → v.2.1 ≠ v.2.2) := ⟨_, rfl⟩
  have hB := (Below.refl w3.heap.size w3).drew
  refine wp_region_held_drew (S := fun w' => w'.cell? ⟨jb, 0, none⟩ = some (.bool g0) ∧ w'.cell? ⟨jb, 1, none⟩ = some (.slice K0 l0 f0) ∧ w'.cell? ⟨jb, 2, none⟩ = some (.bool s0) ∧ w'.cell? ⟨jb, 3, none⟩ = some (.slice E0 r0 t0) ∧ w'.cell? ⟨jb, 4, none⟩ = some (.bool g1) ∧ w'.cell? ⟨jb, 5, none⟩ = some (.slice K1 l1 f1) ∧ w'.cell? ⟨jb, 6, none⟩ = some (.bool s1) ∧ w'.cell? ⟨jb, 7, none⟩ = some (.slice E1 r1 t1) ∧ w'.cell? ⟨jb, 8, none⟩ = some (.bool g2) ∧ w'.cell? ⟨jb, 9, none⟩ = some (.slice K2 l2 f2) ∧ w'.cell? ⟨jb, 10, none⟩ = some (.bool s2) ∧ w'.cell? ⟨jb, 11, none⟩ = some (.slice E2 r2 t2)) (by kernel_rfl) (HT.out _ hB) (fun hHeldn => ?_)
  clear hHeldn
  generalize w3.drew = wr0 at *
  refine wpAnyH_taken (i := 0) (d := some 34) (v := ?_) rfl rfl (by kernel_rfl) (by kernel_rfl) (by kernel_rfl) (fun _ _ _ h => h) (Or.inl ⟨by rfl, ?_⟩) (by first | assumption | exact HT.out _ hB | trivial) ?_
  rotate_left 1
  ·(intro w hSw; (try dsimp only at hSw); go_simp; try with_reducible rfl)
  try simp only [Act.put, sTA, sCZ, sCS]
  refine wpAnyH_taken (i := 3) (d := some 37) (v := ?_) rfl rfl (by kernel_rfl) (by kernel_rfl) (by kernel_rfl) (fun _ _ _ h => h) (Or.inl ⟨by rfl, ?_⟩) (by first | assumption | exact HT.out _ hB | trivial) ?_
  rotate_left 1
  ·(intro w hSw; (try dsimp only at hSw); go_simp; try with_reducible rfl)
  try simp only [Act.put, sTA, sCZ, sCS]
  refine wpAnyH_taken (i := 6) (d := some 40) (v := ?_) rfl rfl (by kernel_rfl) (by kernel_rfl) (by kernel_rfl) (fun _ _ _ h => h) (Or.inl ⟨by rfl, ?_⟩) (by first | assumption | exact HT.out _ hB | trivial) ?_
  rotate_left 1
  ·(intro w hSw; (try dsimp only at hSw); go_simp; try with_reducible rfl)
  try simp only [Act.put, sTA, sCZ, sCS]
  refine wpAnyH_taken (i := 1) (d := some 35) (v := ?_) rfl rfl (by kernel_rfl) (by kernel_rfl) (by kernel_rfl) (fun _ _ _ h => h) (Or.inl ⟨by rfl, ?_⟩) (by first | assumption | exact HT.out _ hB | trivial) ?_
  rotate_left 1
  ·(intro w hSw; (try dsimp only at hSw); go_simp; try with_reducible rfl)
  try simp only [Act.put, sTA, sCZ, sCS]
  refine wpAnyH_taken (i := 4) (d := some 38) (v := ?_) rfl rfl (by kernel_rfl) (by kernel_rfl) (by kernel_rfl) (fun _ _ _ h => h) (Or.inl ⟨by rfl, ?_⟩) (by first | assumption | exact HT.out _ hB | trivial) ?_
  rotate_left 1
  ·(intro w hSw; (try dsimp only at hSw); go_simp; try with_reducible rfl)
  try simp only [Act.put, sTA, sCZ, sCS]
  refine wpAnyH_taken (i := 7) (d := some 41) (v := ?_) rfl rfl (by kernel_rfl) (by kernel_rfl) (by kernel_rfl) (fun _ _ _ h => h) (Or.inl ⟨by rfl, ?_⟩) (by first | assumption | exact HT.out _ hB | trivial) ?_
  rotate_left 1
  ·(intro w hSw; (try dsimp only at hSw); go_simp; try with_reducible rfl)
  try simp only [Act.put, sTA, sCZ, sCS]
  refine wpAnyH_taken (i := 2) (d := some 36) (v := ?_) rfl rfl (by kernel_rfl) (by kernel_rfl) (by kernel_rfl) (fun _ _ _ h => h) (Or.inl ⟨by rfl, ?_⟩) (by first | assumption | exact HT.out _ hB | trivial) ?_
  rotate_left 1
  ·(intro w hSw; (try dsimp only at hSw); go_simp; try with_reducible rfl)
  try simp only [Act.put, sTA, sCZ, sCS]
  refine wpAnyH_taken (i := 5) (d := some 39) (v := ?_) rfl rfl (by kernel_rfl) (by kernel_rfl) (by kernel_rfl) (fun _ _ _ h => h) (Or.inl ⟨by rfl, ?_⟩) (by first | assumption | exact HT.out _ hB | trivial) ?_
  rotate_left 1
  ·(intro w hSw; (try dsimp only at hSw); go_simp; try with_reducible rfl)
  try simp only [Act.put, sTA, sCZ, sCS]
  refine wpAnyH_taken (i := 8) (d := some 42) (v := ?_) rfl rfl (by kernel_rfl) (by kernel_rfl) (by kernel_rfl) (fun _ _ _ h => h) (Or.inl ⟨by rfl, ?_⟩) (by first | assumption | exact HT.out _ hB | trivial) ?_
  rotate_left 1
  ·(intro w hSw; (try dsimp only at hSw); go_simp; try with_reducible rfl)
  try simp only [Act.put, sTA, sCZ, sCS]
  refine wpAnyH_begin (V := Value × Value × Value) (I := Inv) (A := ?_) [true, true, true, true, true, true, true, true, true, false, false, false, false, false, false] [10, 11, 12] (fun v => [v.1, v.2.1, v.2.2]) (fun a => (a.tmps.getD 10 undef, a.tmps.getD 11 undef, a.tmps.getD 12 undef)) ?_ ?_ (by kernel_rfl) (by kernel_rfl) (by kernel_rfl) (by kernel_rfl) (by kernel_rfl) ?_ ?_ ?_
  rotate_left 1
  ·intro v; simp only [fillA, Act.put, sTA, sCZ, sCS]; rfl
  ·rfl
  ·rw [hInv]
   exact ⟨(hB), (fun h _ => absurd h (by decide)), (fun h => absurd h (by decide)), (fun h _ => absurd h (by decide)), (fun h => absurd h (by decide)), (fun h _ => absurd h (by decide)), (fun h => absurd h (by decide)), (fun h _ => absurd h (by decide)), (fun h _ => absurd h (by decide)), (fun h _ => absurd h (by decide))⟩
  ·skip
   refine EachFrom.skip (by rfl) ?_
   refine EachFrom.skip (by rfl) ?_
   refine EachFrom.skip (by rfl) ?_
   refine EachFrom.skip (by rfl) ?_
   refine EachFrom.skip (by rfl) ?_
   refine EachFrom.skip (by rfl) ?_
   refine EachFrom.skip (by rfl) ?_
   refine EachFrom.skip (by rfl) ?_
   refine EachFrom.skip (by rfl) ?_
   refine EachFrom.cons (k := 9) rfl rfl (ds := []) (by kernel_rfl) (fun v x => (x, v.2.1, v.2.2)) (fun v x => by rfl) (fun b v wz hb0 hcl hbk hdep hI Kc hK => ?_) ?_
   ·skip
    rw [hInv] at hI
    obtain ⟨x10, x11, x12⟩ := v
    dsimp only at hI hK ⊢
    (try simp only [Act.put] at hK); (try simp only [sTA] at hK); (try simp only [sCS] at hK); (try simp only [sCZ] at hK)
    obtain ⟨famb, fP10, fQ10, fP11, fQ11, fP12, fQ12, fne10_11, fne10_12, fne11_12⟩ := hI
    (try simp only [gEA]); (try simp only [gES]); (try simp only [gEZ])
    have hb := below_alloc wz (.cells #[.bool false, .slice none 0 0, .bool false, .slice none 0 0] 38)
    go_simp
    refine hK.out _ _ (HT.out _ ((famb).trans (hb.mono (famb).size))) ?_
    rw [hInv]
    exact ⟨((famb).trans (hb.mono (famb).size)), (fun h0 h1 => ⟨_, rfl, famb.size, Fx4.new _ _ _ _ _ _⟩), (fun h => absurd ((show AllT b [9, 2, 0, 1, 2, 9, 10, 11] from hcl 12 _ rfl h).1) (by rw [hbk]; decide)), (fun h0 h1 => (fP11 h0 h1).below hb), (fun h => absurd ((show AllT b [10, 5, 12, 0, 1, 2, 3, 4, 5, 9, 10, 11, 12] from hcl 13 _ rfl h).2.2.2.2.2.2.2.2.2.1) (by rw [hbk]; decide)), (fun h0 h1 => (fP12 h0 h1).below hb), (fun h => absurd ((show AllT b [11, 8, 13, 0, 1, 2, 3, 4, 5, 6, 7, 8, 9, 10, 11, 12, 13] from hcl 14 _ rfl h).2.2.2.2.2.2.2.2.2.2.2.2.1) (by rw [hbk]; decide)), (fun h0 h1 => (Ne.symm (by cases h : b 13 with | false => exact (fP11 h1 h).fresh | true => exact (fQ11 h).fresh))), (fun h0 h1 => (Ne.symm (by cases h : b 14 with | false => exact (fP12 h1 h).fresh | true => exact (fQ12 h).fresh))), (fun h0 h1 => fne11_12 h0 h1)⟩
   refine EachFrom.cons (k := 10) rfl rfl (ds := []) (by kernel_rfl) (fun v x => (v.1, x, v.2.2)) (fun v x => by rfl) (fun b v wz hb0 hcl hbk hdep hI Kc hK => ?_) ?_
   ·skip
    rw [hInv] at hI
    obtain ⟨x10, x11, x12⟩ := v
    dsimp only at hI hK ⊢
    (try simp only [Act.put] at hK); (try simp only [sTA] at hK); (try simp only [sCS] at hK); (try simp only [sCZ] at hK)
    obtain ⟨famb, fP10, fQ10, fP11, fQ11, fP12, fQ12, fne10_11, fne10_12, fne11_12⟩ := hI
    (try simp only [gEA]); (try simp only [gES]); (try simp only [gEZ])
    have hb := below_alloc wz (.cells #[.bool false, .slice none 0 0, .bool false, .slice none 0 0] 38)
    go_simp
    refine hK.out _ _ (HT.out _ ((famb).trans (hb.mono (famb).size))) ?_
    rw [hInv]
    exact ⟨((famb).trans (hb.mono (famb).size)), (fun h0 h1 => (fP10 h0 h1).below hb), (fun h => absurd ((show AllT b [9, 2, 0, 1, 2, 9, 10, 11] from hcl 12 _ rfl h).2.2.2.2.2.2.1) (by rw [hbk]; decide)), (fun h0 h1 => ⟨_, rfl, famb.size, Fx4.new _ _ _ _ _ _⟩), (fun h => absurd ((show AllT b [10, 5, 12, 0, 1, 2, 3, 4, 5, 9, 10, 11, 12] from hcl 13 _ rfl h).1) (by rw [hbk]; decide)), (fun h0 h1 => (fP12 h0 h1).below hb), (fun h => absurd ((show AllT b [11, 8, 13, 0, 1, 2, 3, 4, 5, 6, 7, 8, 9, 10, 11, 12, 13] from hcl 14 _ rfl h).2.2.2.2.2.2.2.2.2.2.2.2.2.1) (by rw [hbk]; decide)), (fun h0 h1 => (by cases h : b 12 with | false => exact (fP10 h0 h).fresh | true => exact (fQ10 h).fresh)), (fun h0 h1 => fne10_12 h0 h1), (fun h0 h1 => (Ne.symm (by cases h : b 14 with | false => exact (fP12 h1 h).fresh | true => exact (fQ12 h).fresh)))⟩
   refine EachFrom.cons (k := 11) rfl rfl (ds := []) (by kernel_rfl) (fun v x => (v.1, v.2.1, x)) (fun v x => by rfl) (fun b v wz hb0 hcl hbk hdep hI Kc hK => ?_) ?_
   ·skip
    rw [hInv] at hI
    obtain ⟨x10, x11, x12⟩ := v
    dsimp only at hI hK ⊢
    (try simp only [Act.put] at hK); (try simp only [sTA] at hK); (try simp only [sCS] at hK); (try simp only [sCZ] at hK)
    obtain ⟨famb, fP10, fQ10, fP11, fQ11, fP12, fQ12, fne10_11, fne10_12, fne11_12⟩ := hI
    (try simp only [gEA]); (try simp only [gES]); (try simp only [gEZ])
    have hb := below_alloc wz (.cells #[.bool false, .slice none 0 0, .bool false, .slice none 0 0] 38)
    go_simp
    refine hK.out _ _ (HT.out _ ((famb).trans (hb.mono (famb).size))) ?_
    rw [hInv]
    exact ⟨((famb).trans (hb.mono (famb).size)), (fun h0 h1 => (fP10 h0 h1).below hb), (fun h => absurd ((show AllT b [9, 2, 0, 1, 2, 9, 10, 11] from hcl 12 _ rfl h).2.2.2.2.2.2.2.1) (by rw [hbk]; decide)), (fun h0 h1 => (fP11 h0 h1).below hb), (fun h => absurd ((show AllT b [10, 5, 12, 0, 1, 2, 3, 4, 5, 9, 10, 11, 12] from hcl 13 _ rfl h).2.2.2.2.2.2.2.2.2.2.2.1) (by rw [hbk]; decide)), (fun h0 h1 => ⟨_, rfl, famb.size, Fx4.new _ _ _ _ _ _⟩), (fun h => absurd ((show AllT b [11, 8, 13, 0, 1, 2, 3, 4, 5, 6, 7, 8, 9, 10, 11, 12, 13] from hcl 14 _ rfl h).1) (by rw [hbk]; decide)), (fun h0 h1 => fne10_11 h0 h1), (fun h0 h1 => (by cases h : b 12 with | false => exact (fP10 h0 h).fresh | true => exact (fQ10 h).fresh)), (fun h0 h1 => (by cases h : b 13 with | false => exact (fP11 h0 h).fresh | true => exact (fQ11 h).fresh))⟩
   refine EachFrom.cons (k := 12) rfl rfl (ds := [9, 2, 0, 1, 2, 9, 10, 11]) (by kernel_rfl) (fun v _ => v) (fun v x => by rfl) (fun b v wz hb0 hcl hbk hdep hI Kc hK => ?_) ?_
   ·skip
    rw [hInv] at hI
    obtain ⟨x10, x11, x12⟩ := v
    dsimp only at hI hK ⊢
    (try simp only [Act.put] at hK); (try simp only [sTA] at hK); (try simp only [sCS] at hK); (try simp only [sCZ] at hK)
    obtain ⟨famb, fP10, fQ10, fP11, fQ11, fP12, fQ12, fne10_11, fne10_12, fne11_12⟩ := hI
    obtain ⟨d9, d2, d0, d1, -, -, d10, d11, -⟩ := hdep
    (try simp only [gEA]); (try simp only [gES]); (try simp only [gEZ])
    obtain ⟨k10, rfl, hk10, FB⟩ := fP10 d9 hbk
    obtain ⟨r0, r1, r2, r3, r4, r5, r6, r7, r8⟩ := id FB
    go_simp
    refine hK.out (undef) _ (HT.out _ ((below_put4 (famb) (by omega) _ _ _ _))) ?_
    rw [hInv]
    exact ⟨((below_put4 (famb) (by omega) _ _ _ _)), (fun _ h => absurd (show true = false from h) (by decide)), (fun h0 => ⟨_, rfl, hk10, FB.put _ _ _ _⟩), (fun h0 h1 => (fP11 h0 h1).other FB (Ne.symm (fne10_11 d9 d10)) _ _ _ _), (fun h => absurd ((show AllT b [10, 5, 12, 0, 1, 2, 3, 4, 5, 9, 10, 11, 12] from hcl 13 _ rfl h).2.2.1) (by rw [hbk]; decide)), (fun h0 h1 => (fP12 h0 h1).other FB (Ne.symm (fne10_12 d9 d11)) _ _ _ _), (fun h => absurd ((show AllT b [11, 8, 13, 0, 1, 2, 3, 4, 5, 6, 7, 8, 9, 10, 11, 12, 13] from hcl 14 _ rfl h).2.2.2.2.2.2.2.2.2.2.2.2.2.2.2.1) (by rw [hbk]; decide)), (fun h0 h1 => fne10_11 h0 h1), (fun h0 h1 => fne10_12 h0 h1), (fun h0 h1 => fne11_12 h0 h1)⟩
   refine EachFrom.cons (k := 13) rfl rfl (ds := [10, 5, 12, 0, 1, 2, 3, 4, 5, 9, 10, 11, 12]) (by kernel_rfl) (fun v _ => v) (fun v x => by rfl) (fun b v wz hb0 hcl hbk hdep hI Kc hK => ?_) ?_
   ·skip
    rw [hInv] at hI
    obtain ⟨x10, x11, x12⟩ := v
    dsimp only at hI hK ⊢
    (try simp only [Act.put] at hK); (try simp only [sTA] at hK); (try simp only [sCS] at hK); (try simp only [sCZ] at hK)
    obtain ⟨famb, fP10, fQ10, fP11, fQ11, fP12, fQ12, fne10_11, fne10_12, fne11_12⟩ := hI
    obtain ⟨d10, d5, d12, d0, d1, d2, d3, d4, -, d9, -, d11, -, -⟩ := hdep
    (try simp only [gEA]); (try simp only [gES]); (try simp only [gEZ])
    obtain ⟨k11, rfl, hk11, FB⟩ := fP11 d10 hbk
    obtain ⟨r0, r1, r2, r3, r4, r5, r6, r7, r8⟩ := id FB
    go_simp
    refine hK.out (undef) _ (HT.out _ ((below_put4 (famb) (by omega) _ _ _ _))) ?_
    rw [hInv]
    exact ⟨((below_put4 (famb) (by omega) _ _ _ _)), (fun _ h => absurd (show b 12 = false from h) (by rw [d12]; decide)), (fun h0 => (fQ10 h0).other FB (fne10_11 d9 d10) _ _ _ _), (fun _ h => absurd (show true = false from h) (by decide)), (fun h0 => ⟨_, rfl, hk11, FB.put _ _ _ _⟩), (fun h0 h1 => (fP12 h0 h1).other FB (Ne.symm (fne11_12 d10 d11)) _ _ _ _), (fun h => absurd ((show AllT b [11, 8, 13, 0, 1, 2, 3, 4, 5, 6, 7, 8, 9, 10, 11, 12, 13] from hcl 14 _ rfl h).2.2.1) (by rw [hbk]; decide)), (fun h0 h1 => fne10_11 h0 h1), (fun h0 h1 => fne10_12 h0 h1), (fun h0 h1 => fne11_12 h0 h1)⟩
   refine EachFrom.cons (k := 14) rfl rfl (ds := [11, 8, 13, 0, 1, 2, 3, 4, 5, 6, 7, 8, 9, 10, 11, 12, 13]) (by kernel_rfl) (fun v _ => v) (fun v x => by rfl) (fun b v wz hb0 hcl hbk hdep hI Kc hK => ?_) ?_
   ·skip
    rw [hInv] at hI
    obtain ⟨x10, x11, x12⟩ := v
    dsimp only at hI hK ⊢
    (try simp only [Act.put] at hK); (try simp only [sTA] at hK); (try simp only [sCS] at hK); (try simp only [sCZ] at hK)
    obtain ⟨famb, fP10, fQ10, fP11, fQ11, fP12, fQ12, fne10_11, fne10_12, fne11_12⟩ := hI
    obtain ⟨d11, d8, d13, d0, d1, d2, d3, d4, d5, d6, d7, -, d9, d10, -, d12, -, -⟩ := hdep
    (try simp only [gEA]); (try simp only [gES]); (try simp only [gEZ])
    obtain ⟨k12, rfl, hk12, FB⟩ := fP12 d11 hbk
    obtain ⟨r0, r1, r2, r3, r4, r5, r6, r7, r8⟩ := id FB
    go_simp
    refine hK.out (undef) _ (HT.out _ ((below_put4 (famb) (by omega) _ _ _ _))) ?_
    rw [hInv]
    exact ⟨((below_put4 (famb) (by omega) _ _ _ _)), (fun _ h => absurd (show b 12 = false from h) (by rw [d12]; decide)), (fun h0 => (fQ10 h0).other FB (fne10_12 d9 d11) _ _ _ _), (fun _ h => absurd (show b 13 = false from h) (by rw [d13]; decide)), (fun h0 => (fQ11 h0).other FB (fne11_12 d10 d11) _ _ _ _), (fun _ h => absurd (show true = false from h) (by decide)), (fun h0 => ⟨_, rfl, hk12, FB.put _ _ _ _⟩), (fun h0 h1 => fne10_11 h0 h1), (fun h0 h1 => fne10_12 h0 h1), (fun h0 h1 => fne11_12 h0 h1)⟩
   exact EachFrom.nil (by kernel_rfl)
  ·intro v wE hI
   rw [hInv] at hI
   obtain ⟨x10, x11, x12⟩ := v
   dsimp only at hI ⊢
   obtain ⟨famb, fP10, fQ10, fP11, fQ11, fP12, fQ12, fne10_11, fne10_12, fne11_12⟩ := hI
   clear fP10
   replace fQ10 := fQ10 rfl
   clear fP11
   replace fQ11 := fQ11 rfl
   clear fP12
   replace fQ12 := fQ12 rfl
   replace fne10_11 := fne10_11 rfl rfl
   replace fne10_12 := fne10_12 rfl rfl
   replace fne11_12 := fne11_12 rfl rfl
   clear hInv hB
   obtain ⟨j10, rfl, -, F10⟩ := fQ10
   obtain ⟨j11, rfl, -, F11⟩ := fQ11
   obtain ⟨j12, rfl, -, F12⟩ := fQ12
   clear fne10_11 fne10_12 fne11_12 HT k0 k1 k2 k3 k4 k5 k6 k7 k8 k9 k10 k11
   replace F10 := Lib.hid F10
   replace F11 := Lib.hid F11
   replace F12 := Lib.hid F12
   replace V0 := Lib.hid (V0.out.below famb)
   replace V1 := Lib.hid (V1.out.below famb)
   replace V2 := Lib.hid (V2.out.below famb)
   replace hm := Lib.hid (((famb).cell (p := ⟨0, 0, none⟩) (World.block_lt_of_cell? _ _ hm.out)).trans hm.out)
   replace hw := Lib.hid (hw.out.trans (famb.mono hw.out.size))
   clear famb hjb
   go_upto_region 5 with fail
   go_cut [3, 10, 11, 12, 114] (fun v3 v10 v11 v12 vb wx => vb = .bool false ∧ FMid w x0 y0 x1 y1 x2 y2 k M v3 v10 v11 v12 wx)
   case first =>
    as_aux_lemma =>
     have HT := Lib.hid (fun (w' : World) (hb : Below wE.heap.size wE w') => (show w'.cell? ⟨j10, 0, none⟩ = some (.bool g0) ∧ w'.cell? ⟨j10, 1, none⟩ = some (.slice K0 l0 f0) ∧ w'.cell? ⟨j10, 2, none⟩ = some (.bool s0) ∧ w'.cell? ⟨j10, 3, none⟩ = some (.slice E0 r0 t0) ∧ w'.cell? ⟨j11, 0, none⟩ = some (.bool g1) ∧ w'.cell? ⟨j11, 1, none⟩ = some (.slice K1 l1 f1) ∧ w'.cell? ⟨j11, 2, none⟩ = some (.bool s1) ∧ w'.cell? ⟨j11, 3, none⟩ = some (.slice E1 r1 t1) ∧ w'.cell? ⟨j12, 0, none⟩ = some (.bool g2) ∧ w'.cell? ⟨j12, 1, none⟩ = some (.slice K2 l2 f2) ∧ w'.cell? ⟨j12, 2, none⟩ = some (.bool s2) ∧ w'.cell? ⟨j12, 3, none⟩ = some (.slice E2 r2 t2) from ⟨(F10.out.below hb).c0, (F10.out.below hb).c1, (F10.out.below hb).c2, (F10.out.below hb).c3, (F11.out.below hb).c0, (F11.out.below hb).c1, (F11.out.below hb).c2, (F11.out.below hb).c3, (F12.out.below hb).c0, (F12.out.below hb).c1, (F12.out.below hb).c2, (F12.out.below hb).c3⟩))
     have hB := (Below.refl wE.heap.size wE).drew
     replace V0 := Lib.hid (V0.out.below hB)
     replace V1 := Lib.hid (V1.out.below hB)
     replace V2 := Lib.hid (V2.out.below hB)
     refine wp_region_held_drew (S := fun w' => w'.cell? ⟨j10, 0, none⟩ = some (.bool g0) ∧ w'.cell? ⟨j10, 1, none⟩ = some (.slice K0 l0 f0) ∧ w'.cell? ⟨j10, 2, none⟩ = some (.bool s0) ∧ w'.cell? ⟨j10, 3, none⟩ = some (.slice E0 r0 t0) ∧ w'.cell? ⟨j11, 0, none⟩ = some (.bool g1) ∧ w'.cell? ⟨j11, 1, none⟩ = some (.slice K1 l1 f1) ∧ w'.cell? ⟨j11, 2, none⟩ = some (.bool s1) ∧ w'.cell? ⟨j11, 3, none⟩ = some (.slice E1 r1 t1) ∧ w'.cell? ⟨j12, 0, none⟩ = some (.bool g2) ∧ w'.cell? ⟨j12, 1, none⟩ = some (.slice K2 l2 f2) ∧ w'.cell? ⟨j12, 2, none⟩ = some (.bool s2) ∧ w'.cell? ⟨j12, 3, none⟩ = some (.slice E2 r2 t2)) (by kernel_rfl) (HT.out _ hB) (fun hHeldn => ?_)
     clear hHeldn
     generalize wE.drew = wr0 at *
     refine wpAnyH_taken (i := 0) (d := some 43) (v := ?_) rfl rfl (by kernel_rfl) (by kernel_rfl) (by kernel_rfl) (fun _ _ _ h => h) (Or.inl ⟨by rfl, ?_⟩) (by first | assumption | exact HT.out _ hB) ?_
     rotate_left 1
     ·(intro w hSw; (try dsimp only at hSw); go_simp; try with_reducible rfl)
     try simp only [Act.put, sTA, sCZ, sCS]
     refine wpAnyH_taken (i := 1) (d := some 44) (v := ?_) rfl rfl (by kernel_rfl) (by kernel_rfl) (by kernel_rfl) (fun _ _ _ h => h) (Or.inl ⟨by rfl, ?_⟩) (by first | assumption | exact HT.out _ hB) ?_
     rotate_left 1
     ·(intro w hSw; (try dsimp only at hSw); go_simp; try with_reducible rfl)
     try simp only [Act.put, sTA, sCZ, sCS]
     refine wpAnyH_taken (i := 3) (d := some 46) (v := ?_) rfl rfl (by kernel_rfl) (by kernel_rfl) (by kernel_rfl) (fun _ _ _ h => h) (Or.inl ⟨by rfl, ?_⟩) (by first | assumption | exact HT.out _ hB) ?_
     rotate_left 1
     ·(intro w hSw; (try dsimp only at hSw); go_simp; try with_reducible rfl)
     try simp only [Act.put, sTA, sCZ, sCS]
     refine wpAnyH_taken (i := 4) (d := some 47) (v := ?_) rfl rfl (by kernel_rfl) (by kernel_rfl) (by kernel_rfl) (fun _ _ _ h => h) (Or.inl ⟨by rfl, ?_⟩) (by first | assumption | exact HT.out _ hB) ?_
     rotate_left 1
     ·(intro w hSw; (try dsimp only at hSw); go_simp; try with_reducible rfl)
     try simp only [Act.put, sTA, sCZ, sCS]
     refine wpAnyH_ready (rs := [2]) (by kernel_rfl) (by simp) ?_
     refine AllReadyH.cons rfl (fun K hK => ?_) AllReadyH.nil
     (try simp only [gEA]); (try simp only [gES]); (try simp only [gEZ])
     go_simp
     (go_at_call 40; refine (add_v _ _ (x0) (y0) (x1) (y1) 7 _ (V0.out.v) (V1.out.v) (by decide) (by decide)).mono ?_; rintro e wc2 ⟨⟨ga2, Aa2, na2, ca2, ea2, Ea2, ma2, da2, rfl, hz⟩, hb⟩)
     replace V0 := Lib.hid (V0.out.below hb)
     replace V1 := Lib.hid (V1.out.below hb)
     replace V2 := Lib.hid (V2.out.below hb)
     replace hB := Below.trans hB (hb.mono hB.size)
     have T1 := Lib.hid hz
     refine hK.out _ _ (HT.out _ hB) (fun hHeldn => ?_)
     clear hK K hHeldn
     try simp only [Act.put, sTA, sCZ, sCS]
     clear hb hz
     refine wpAnyH_ready (rs := [5]) (by kernel_rfl) (by simp) ?_
     refine AllReadyH.cons rfl (fun K hK => ?_) AllReadyH.nil
     (try simp only [gEA]); (try simp only [gES]); (try simp only [gEZ])
     go_simp
     (go_at_call 40; refine (add_v _ _ (x1) (y1) (x0) (y0) 7 _ (V1.out.v) (V0.out.v) (by decide) (by decide)).mono ?_; rintro e wc5 ⟨⟨ga5, Aa5, na5, ca5, ea5, Ea5, ma5, da5, rfl, hz⟩, hb⟩)
     replace V0 := Lib.hid (V0.out.below hb)
     replace V1 := Lib.hid (V1.out.below hb)
     replace V2 := Lib.hid (V2.out.below hb)
     replace T1 := Lib.hid (T1.out.below hb)
     replace hB := Below.trans hB (hb.mono hB.size)
     have T2 := Lib.hid hz
     refine hK.out _ _ (HT.out _ hB) (fun hHeldn => ?_)
     clear hK K hHeldn
     try simp only [Act.put, sTA, sCZ, sCS]
     clear hb hz
     refine wpAnyH_ready (rs := [6]) (by kernel_rfl) (by simp) ?_
     refine AllReadyH.cons rfl (fun K hK => ?_) AllReadyH.nil
     (try simp only [gEA]); (try simp only [gES]); (try simp only [gEZ])
     go_simp
     (go_at_call 61; refine (same_v_yes _ _ ((x0) * (y1) + (x1) * (y0)) ((y0) * (y1)) ((x1) * (y0) + (x0) * (y1)) ((y1) * (y0)) 19 _ (T1.out) (T2.out) (by decide) (ident1 x0 y0 x1 y1 x2 y2)).mono ?_; rintro e wc6 ⟨rfl, hb⟩)
     replace V0 := Lib.hid (V0.out.below hb)
     replace V1 := Lib.hid (V1.out.below hb)
     replace V2 := Lib.hid (V2.out.below hb)
     replace T1 := Lib.hid (T1.out.below hb)
     replace T2 := Lib.hid (T2.out.below hb)
     replace hB := Below.trans hB (hb.mono hB.size)
     clear T1
     clear T2
     refine hK.out _ _ (HT.out _ hB) (fun hHeldn => ?_)
     clear hK K hHeldn
     try simp only [Act.put, sTA, sCZ, sCS]
     clear hb
     refine wpAnyH_taken (i := 7) (d := some 50) (v := ?_) rfl rfl (by kernel_rfl) (by kernel_rfl) (by kernel_rfl) (fun _ _ _ h => h) (Or.inl ⟨by rfl, ?_⟩) (by first | assumption | exact HT.out _ hB) ?_
     rotate_left 1
     ·(intro w hSw; (try dsimp only at hSw); go_simp; try with_reducible rfl)
     try simp only [Act.put, sTA, sCZ, sCS]
     refine wpAnyH_taken (i := 8) (d := some 51) (v := ?_) rfl rfl (by kernel_rfl) (by kernel_rfl) (by kernel_rfl) (fun _ _ _ h => h) (Or.inl ⟨by rfl, ?_⟩) (by first | assumption | exact HT.out _ hB) ?_
     rotate_left 1
     ·(intro w hSw; (try dsimp only at hSw); go_simp; try with_reducible rfl)
     try simp only [Act.put, sTA, sCZ, sCS]
     refine wpAnyH_taken (i := 9) (d := some 52) (v := ?_) rfl rfl (by kernel_rfl) (by kernel_rfl) (by kernel_rfl) (fun _ _ _ h => h) (Or.inl ⟨by rfl, ?_⟩) (by first | assumption | exact HT.out _ hB) ?_
     rotate_left 1
     ·(intro w hSw; (try dsimp only at hSw); go_simp; try with_reducible rfl)
     try simp only [Act.put, sTA, sCZ, sCS]
     refine wpAnyH_taken (i := 10) (d := some 53) (v := ?_) rfl rfl (by kernel_rfl) (by kernel_rfl) (by kernel_rfl) (fun _ _ _ h => h) (Or.inl ⟨by rfl, ?_⟩) (by first | assumption | exact HT.out _ hB) ?_
     rotate_left 1
     ·(intro w hSw; (try dsimp only at hSw); go_simp; try with_reducible rfl)
     try simp only [Act.put, sTA, sCZ, sCS]
     refine wpAnyH_taken (i := 12) (d := some 55) (v := ?_) rfl rfl (by kernel_rfl) (by kernel_rfl) (by kernel_rfl) (fun _ _ _ h => h) (Or.inl ⟨by rfl, ?_⟩) (by first | assumption | exact HT.out _ hB) ?_
     rotate_left 1
     ·(intro w hSw; (try dsimp only at hSw); go_simp; try with_reducible rfl)
     try simp only [Act.put, sTA, sCZ, sCS]
     refine wpAnyH_taken (i := 13) (d := some 56) (v := ?_) rfl rfl (by kernel_rfl) (by kernel_rfl) (by kernel_rfl) (fun _ _ _ h => h) (Or.inl ⟨by rfl, ?_⟩) (by first | assumption | exact HT.out _ hB) ?_
     rotate_left 1
     ·(intro w hSw; (try dsimp only at hSw); go_simp; try with_reducible rfl)
     try simp only [Act.put, sTA, sCZ, sCS]
     refine wpAnyH_ready (rs := [11]) (by kernel_rfl) (by simp) ?_
     refine AllReadyH.cons rfl (fun K hK => ?_) AllReadyH.nil
     (try simp only [gEA]); (try simp only [gES]); (try simp only [gEZ])
     go_simp
     (go_at_call 44; refine (mul_v _ _ (x0) (y0) (x1) (y1) 7 _ (V0.out.v) (V1.out.v) (by decide) (by decide)).mono ?_; rintro e wc11 ⟨⟨ga11, Aa11, na11, ca11, ea11, Ea11, ma11, da11, rfl, hz⟩, hb⟩)
     replace V0 := Lib.hid (V0.out.below hb)
     replace V1 := Lib.hid (V1.out.below hb)
     replace V2 := Lib.hid (V2.out.below hb)
     replace hB := Below.trans hB (hb.mono hB.size)
     have T1 := Lib.hid hz
     refine hK.out _ _ (HT.out _ hB) (fun hHeldn => ?_)
     clear hK K hHeldn
     try simp only [Act.put, sTA, sCZ, sCS]
     clear hb hz
     refine wpAnyH_ready (rs := [14]) (by kernel_rfl) (by simp) ?_
     refine AllReadyH.cons rfl (fun K hK => ?_) AllReadyH.nil
     (try simp only [gEA]); (try simp only [gES]); (try simp only [gEZ])
     go_simp
     (go_at_call 44; refine (mul_v _ _ (x1) (y1) (x0) (y0) 7 _ (V1.out.v) (V0.out.v) (by decide) (by decide)).mono ?_; rintro e wc14 ⟨⟨ga14, Aa14, na14, ca14, ea14, Ea14, ma14, da14, rfl, hz⟩, hb⟩)
     replace V0 := Lib.hid (V0.out.below hb)
     replace V1 := Lib.hid (V1.out.below hb)
     replace V2 := Lib.hid (V2.out.below hb)
     replace T1 := Lib.hid (T1.out.below hb)
     replace hB := Below.trans hB (hb.mono hB.size)
     have T2 := Lib.hid hz
     refine hK.out _ _ (HT.out _ hB) (fun hHeldn => ?_)
     clear hK K hHeldn
     try simp only [Act.put, sTA, sCZ, sCS]
     clear hb hz
     refine wpAnyH_ready (rs := [15]) (by kernel_rfl) (by simp) ?_
     refine AllReadyH.cons rfl (fun K hK => ?_) AllReadyH.nil
     (try simp only [gEA]); (try simp only [gES]); (try simp only [gEZ])
     go_simp
     (go_at_call 61; refine (same_v_yes _ _ ((x0) * (x1)) ((y0) * (y1)) ((x1) * (x0)) ((y1) * (y0)) 19 _ (T1.out) (T2.out) (by decide) (ident2 x0 y0 x1 y1 x2 y2)).mono ?_; rintro e wc15 ⟨rfl, hb⟩)
     replace V0 := Lib.hid (V0.out.below hb)
     replace V1 := Lib.hid (V1.out.below hb)
     replace V2 := Lib.hid (V2.out.below hb)
     replace T1 := Lib.hid (T1.out.below hb)
     replace T2 := Lib.hid (T2.out.below hb)
     replace hB := Below.trans hB (hb.mono hB.size)
     clear T1
     clear T2
     refine hK.out _ _ (HT.out _ hB) (fun hHeldn => ?_)
     clear hK K hHeldn
     try simp only [Act.put, sTA, sCZ, sCS]
     clear hb
     refine wpAnyH_taken (i := 16) (d := some 59) (v := ?_) rfl rfl (by kernel_rfl) (by kernel_rfl) (by kernel_rfl) (fun _ _ _ h => h) (Or.inl ⟨by rfl, ?_⟩) (by first | assumption | exact HT.out _ hB) ?_
     rotate_left 1
     ·(intro w hSw; (try dsimp only at hSw); go_simp; try with_reducible rfl)
     try simp only [Act.put, sTA, sCZ, sCS]
     refine wpAnyH_taken (i := 17) (d := some 60) (v := ?_) rfl rfl (by kernel_rfl) (by kernel_rfl) (by kernel_rfl) (fun _ _ _ h => h) (Or.inl ⟨by rfl, ?_⟩) (by first | assumption | exact HT.out _ hB) ?_
     rotate_left 1
     ·(intro w hSw; (try dsimp only at hSw); go_simp; try with_reducible rfl)
     try simp only [Act.put, sTA, sCZ, sCS]
     refine wpAnyH_taken (i := 18) (d := some 61) (v := ?_) rfl rfl (by kernel_rfl) (by kernel_rfl) (by kernel_rfl) (fun _ _ _ h => h) (Or.inl ⟨by rfl, ?_⟩) (by first | assumption | exact HT.out _ hB) ?_
     rotate_left 1
     ·(intro w hSw; (try dsimp only at hSw); go_simp; try with_reducible rfl)
     try simp only [Act.put, sTA, sCZ, sCS]
     refine wpAnyH_taken (i := 19) (d := some 62) (v := ?_) rfl rfl (by kernel_rfl) (by kernel_rfl) (by kernel_rfl) (fun _ _ _ h => h) (Or.inl ⟨by rfl, ?_⟩) (by first | assumption | exact HT.out _ hB) ?_
     rotate_left 1
     ·(intro w hSw; (try dsimp only at hSw); go_simp; try with_reducible rfl)
     try simp only [Act.put, sTA, sCZ, sCS]
     refine wpAnyH_taken (i := 20) (d := some 63) (v := ?_) rfl rfl (by kernel_rfl) (by kernel_rfl) (by kernel_rfl) (fun _ _ _ h => h) (Or.inl ⟨by rfl, ?_⟩) (by first | assumption | exact HT.out _ hB) ?_
     rotate_left 1
     ·(intro w hSw; (try dsimp only at hSw); go_simp; try with_reducible rfl)
     try simp only [Act.put, sTA, sCZ, sCS]
     refine wpAnyH_taken (i := 22) (d := some 65) (v := ?_) rfl rfl (by kernel_rfl) (by kernel_rfl) (by kernel_rfl) (fun _ _ _ h => h) (Or.inl ⟨by rfl, ?_⟩) (by first | assumption | exact HT.out _ hB) ?_
     rotate_left 1
     ·(intro w hSw; (try dsimp only at hSw); go_simp; try with_reducible rfl)
     try simp only [Act.put, sTA, sCZ, sCS]
     refine wpAnyH_taken (i := 24) (d := some 67) (v := ?_) rfl rfl (by kernel_rfl) (by kernel_rfl) (by kernel_rfl) (fun _ _ _ h => h) (Or.inl ⟨by rfl, ?_⟩) (by first | assumption | exact HT.out _ hB) ?_
     rotate_left 1
     ·(intro w hSw; (try dsimp only at hSw); go_simp; try with_reducible rfl)
     try simp only [Act.put, sTA, sCZ, sCS]
     refine wpAnyH_taken (i := 25) (d := some 68) (v := ?_) rfl rfl (by kernel_rfl) (by kernel_rfl) (by kernel_rfl) (fun _ _ _ h => h) (Or.inl ⟨by rfl, ?_⟩) (by first | assumption | exact HT.out _ hB) ?_
     rotate_left 1
     ·(intro w hSw; (try dsimp only at hSw); go_simp; try with_reducible rfl)
     try simp only [Act.put, sTA, sCZ, sCS]
     refine wpAnyH_taken (i := 26) (d := some 69) (v := ?_) rfl rfl (by kernel_rfl) (by kernel_rfl) (by kernel_rfl) (fun _ _ _ h => h) (Or.inl ⟨by rfl, ?_⟩) (by first | assumption | exact HT.out _ hB) ?_
     rotate_left 1
     ·(intro w hSw; (try dsimp only at hSw); go_simp; try with_reducible rfl)
     try simp only [Act.put, sTA, sCZ, sCS]
     refine wpAnyH_ready (rs := [21]) (by kernel_rfl) (by simp) ?_
     refine AllReadyH.cons rfl (fun K hK => ?_) AllReadyH.nil
     (try simp only [gEA]); (try simp only [gES]); (try simp only [gEZ])
     go_simp
     (go_at_call 40; refine (add_v _ _ (x0) (y0) (x1) (y1) 7 _ (V0.out.v) (V1.out.v) (by decide) (by decide)).mono ?_; rintro e wc21 ⟨⟨ga21, Aa21, na21, ca21, ea21, Ea21, ma21, da21, rfl, hz⟩, hb⟩)
     replace V0 := Lib.hid (V0.out.below hb)
     replace V1 := Lib.hid (V1.out.below hb)
     replace V2 := Lib.hid (V2.out.below hb)
     replace hB := Below.trans hB (hb.mono hB.size)
     have T1 := Lib.hid hz
     refine hK.out _ _ (HT.out _ hB) (fun hHeldn => ?_)
     clear hK K hHeldn
     try simp only [Act.put, sTA, sCZ, sCS]
     clear hb hz
     refine wpAnyH_ready (rs := [23]) (by kernel_rfl) (by simp) ?_
     refine AllReadyH.cons rfl (fun K hK => ?_) AllReadyH.nil
     (try simp only [gEA]); (try simp only [gES]); (try simp only [gEZ])
     go_simp
     (go_at_call 40; refine (add_v _ _ ((x0) * (y1) + (x1) * (y0)) ((y0) * (y1)) (x2) (y2) 19 _ (T1.out) ((V2.out.v.mono (by decide))) (by decide) (by decide)).mono ?_; rintro e wc23 ⟨⟨ga23, Aa23, na23, ca23, ea23, Ea23, ma23, da23, rfl, hz⟩, hb⟩)
     replace V0 := Lib.hid (V0.out.below hb)
     replace V1 := Lib.hid (V1.out.below hb)
     replace V2 := Lib.hid (V2.out.below hb)
     replace T1 := Lib.hid (T1.out.below hb)
     replace hB := Below.trans hB (hb.mono hB.size)
     clear T1
     have T2 := Lib.hid hz
     refine hK.out _ _ (HT.out _ hB) (fun hHeldn => ?_)
     clear hK K hHeldn
     try simp only [Act.put, sTA, sCZ, sCS]
     clear hb hz
     refine wpAnyH_ready (rs := [27]) (by kernel_rfl) (by simp) ?_
     refine AllReadyH.cons rfl (fun K hK => ?_) AllReadyH.nil
     (try simp only [gEA]); (try simp only [gES]); (try simp only [gEZ])
     go_simp
     (go_at_call 40; refine (add_v _ _ (x1) (y1) (x2) (y2) 7 _ (V1.out.v) (V2.out.v) (by decide) (by decide)).mono ?_; rintro e wc27 ⟨⟨ga27, Aa27, na27, ca27, ea27, Ea27, ma27, da27, rfl, hz⟩, hb⟩)
     replace V0 := Lib.hid (V0.out.below hb)
     replace V1 := Lib.hid (V1.out.below hb)
     replace V2 := Lib.hid (V2.out.below hb)
     replace T2 := Lib.hid (T2.out.below hb)
     replace hB := Below.trans hB (hb.mono hB.size)
     have T3 := Lib.hid hz
     refine hK.out _ _ (HT.out _ hB) (fun hHeldn => ?_)
     clear hK K hHeldn
     try simp only [Act.put, sTA, sCZ, sCS]
     clear hb hz
     refine wpAnyH_ready (rs := [28]) (by kernel_rfl) (by simp) ?_
     refine AllReadyH.cons rfl (fun K hK => ?_) AllReadyH.nil
     (try simp only [gEA]); (try simp only [gES]); (try simp only [gEZ])
     go_simp
     (go_at_call 40; refine (add_v _ _ (x0) (y0) ((x1) * (y2) + (x2) * (y1)) ((y1) * (y2)) 19 _ ((V0.out.v.mono (by decide))) (T3.out) (by decide) (by decide)).mono ?_; rintro e wc28 ⟨⟨ga28, Aa28, na28, ca28, ea28, Ea28, ma28, da28, rfl, hz⟩, hb⟩)
     replace V0 := Lib.hid (V0.out.below hb)
     replace V1 := Lib.hid (V1.out.below hb)
     replace V2 := Lib.hid (V2.out.below hb)
     replace T2 := Lib.hid (T2.out.below hb)
     replace T3 := Lib.hid (T3.out.below hb)
     replace hB := Below.trans hB (hb.mono hB.size)
     clear T3
     have T4 := Lib.hid hz
     refine hK.out _ _ (HT.out _ hB) (fun hHeldn => ?_)
     clear hK K hHeldn
     try simp only [Act.put, sTA, sCZ, sCS]
     clear hb hz
     refine wpAnyH_ready (rs := [29]) (by kernel_rfl) (by simp) ?_
     refine AllReadyH.cons rfl (fun K hK => ?_) AllReadyH.nil
     (try simp only [gEA]); (try simp only [gES]); (try simp only [gEZ])
     go_simp
     (go_at_call 61; refine (same_v_yes _ _ (((x0) * (y1) + (x1) * (y0)) * (y2) + (x2) * ((y0) * (y1))) (((y0) * (y1)) * (y2)) ((x0) * ((y1) * (y2)) + ((x1) * (y2) + (x2) * (y1)) * (y0)) ((y0) * ((y1) * (y2))) 43 _ (T2.out) (T4.out) (by decide) (ident3 x0 y0 x1 y1 x2 y2)).mono ?_; rintro e wc29 ⟨rfl, hb⟩)
     replace V0 := Lib.hid (V0.out.below hb)
     replace V1 := Lib.hid (V1.out.below hb)
     replace V2 := Lib.hid (V2.out.below hb)
     replace T2 := Lib.hid (T2.out.below hb)
     replace T4 := Lib.hid (T4.out.below hb)
     replace hB := Below.trans hB (hb.mono hB.size)
     clear T2
     clear T4
     refine hK.out _ _ (HT.out _ hB) (fun hHeldn => ?_)
     clear hK K hHeldn
     try simp only [Act.put, sTA, sCZ, sCS]
     clear hb
     refine wpAnyH_taken (i := 30) (d := some 73) (v := ?_) rfl rfl (by kernel_rfl) (by kernel_rfl) (by kernel_rfl) (fun _ _ _ h => h) (Or.inl ⟨by rfl, ?_⟩) (by first | assumption | exact HT.out _ hB) ?_
     rotate_left 1
     ·(intro w hSw; (try dsimp only at hSw); go_simp; try with_reducible rfl)
     try simp only [Act.put, sTA, sCZ, sCS]
     refine wpAnyH_taken (i := 31) (d := some 74) (v := ?_) rfl rfl (by kernel_rfl) (by kernel_rfl) (by kernel_rfl) (fun _ _ _ h => h) (Or.inl ⟨by rfl, ?_⟩) (by first | assumption | exact HT.out _ hB) ?_
     rotate_left 1
     ·(intro w hSw; (try dsimp only at hSw); go_simp; try with_reducible rfl)
     try simp only [Act.put, sTA, sCZ, sCS]
     refine wpAnyH_taken (i := 32) (d := some 75) (v := ?_) rfl rfl (by kernel_rfl) (by kernel_rfl) (by kernel_rfl) (fun _ _ _ h => h) (Or.inl ⟨by rfl, ?_⟩) (by first | assumption | exact HT.out _ hB) ?_
     rotate_left 1
     ·(intro w hSw; (try dsimp only at hSw); go_simp; try with_reducible rfl)
     try simp only [Act.put, sTA, sCZ, sCS]
     refine wpAnyH_taken (i := 33) (d := some 76) (v := ?_) rfl rfl (by kernel_rfl) (by kernel_rfl) (by kernel_rfl) (fun _ _ _ h => h) (Or.inl ⟨by rfl, ?_⟩) (by first | assumption | exact HT.out _ hB) ?_
     rotate_left 1
     ·(intro w hSw; (try dsimp only at hSw); go_simp; try with_reducible rfl)
     try simp only [Act.put, sTA, sCZ, sCS]
     refine wpAnyH_taken (i := 34) (d := some 77) (v := ?_) rfl rfl (by kernel_rfl) (by kernel_rfl) (by kernel_rfl) (fun _ _ _ h => h) (Or.inl ⟨by rfl, ?_⟩) (by first | assumption | exact HT.out _ hB) ?_
     rotate_left 1
     ·(intro w hSw; (try dsimp only at hSw); go_simp; try with_reducible rfl)
     try simp only [Act.put, sTA, sCZ, sCS]
     refine wpAnyH_taken (i := 36) (d := some 79) (v := ?_) rfl rfl (by kernel_rfl) (by kernel_rfl) (by kernel_rfl) (fun _ _ _ h => h) (Or.inl ⟨by rfl, ?_⟩) (by first | assumption | exact HT.out _ hB) ?_
     rotate_left 1
     ·(intro w hSw; (try dsimp only at hSw); go_simp; try with_reducible rfl)
     try simp only [Act.put, sTA, sCZ, sCS]
     refine wpAnyH_taken (i := 38) (d := some 81) (v := ?_) rfl rfl (by kernel_rfl) (by kernel_rfl) (by kernel_rfl) (fun _ _ _ h => h) (Or.inl ⟨by rfl, ?_⟩) (by first | assumption | exact HT.out _ hB) ?_
     rotate_left 1
     ·(intro w hSw; (try dsimp only at hSw); go_simp; try with_reducible rfl)
     try simp only [Act.put, sTA, sCZ, sCS]
     refine wpAnyH_taken (i := 39) (d := some 82) (v := ?_) rfl rfl (by kernel_rfl) (by kernel_rfl) (by kernel_rfl) (fun _ _ _ h => h) (Or.inl ⟨by rfl, ?_⟩) (by first | assumption | exact HT.out _ hB) ?_
     rotate_left 1
     ·(intro w hSw; (try dsimp only at hSw); go_simp; try with_reducible rfl)
     try simp only [Act.put, sTA, sCZ, sCS]
     refine wpAnyH_taken (i := 40) (d := some 83) (v := ?_) rfl rfl (by kernel_rfl) (by kernel_rfl) (by kernel_rfl) (fun _ _ _ h => h) (Or.inl ⟨by rfl, ?_⟩) (by first | assumption | exact HT.out _ hB) ?_
     rotate_left 1
     ·(intro w hSw; (try dsimp only at hSw); go_simp; try with_reducible rfl)
     try simp only [Act.put, sTA, sCZ, sCS]
     refine wpAnyH_ready (rs := [35]) (by kernel_rfl) (by simp) ?_
     refine AllReadyH.cons rfl (fun K hK => ?_) AllReadyH.nil
     (try simp only [gEA]); (try simp only [gES]); (try simp only [gEZ])
     go_simp
     (go_at_call 44; refine (mul_v _ _ (x0) (y0) (x1) (y1) 7 _ (V0.out.v) (V1.out.v) (by decide) (by decide)).mono ?_; rintro e wc35 ⟨⟨ga35, Aa35, na35, ca35, ea35, Ea35, ma35, da35, rfl, hz⟩, hb⟩)
     replace V0 := Lib.hid (V0.out.below hb)
     replace V1 := Lib.hid (V1.out.below hb)
     replace V2 := Lib.hid (V2.out.below hb)
     replace hB := Below.trans hB (hb.mono hB.size)
     have T1 := Lib.hid hz
     refine hK.out _ _ (HT.out _ hB) (fun hHeldn => ?_)
     clear hK K hHeldn
     try simp only [Act.put, sTA, sCZ, sCS]
     clear hb hz
     refine wpAnyH_ready (rs := [37]) (by kernel_rfl) (by simp) ?_
     refine AllReadyH.cons rfl (fun K hK => ?_) AllReadyH.nil
     (try simp only [gEA]); (try simp only [gES]); (try simp only [gEZ])
     go_simp
     (go_at_call 44; refine (mul_v _ _ ((x0) * (x1)) ((y0) * (y1)) (x2) (y2) 19 _ (T1.out) ((V2.out.v.mono (by decide))) (by decide) (by decide)).mono ?_; rintro e wc37 ⟨⟨ga37, Aa37, na37, ca37, ea37, Ea37, ma37, da37, rfl, hz⟩, hb⟩)
     replace V0 := Lib.hid (V0.out.below hb)
     replace V1 := Lib.hid (V1.out.below hb)
     replace V2 := Lib.hid (V2.out.below hb)
     replace T1 := Lib.hid (T1.out.below hb)
     replace hB := Below.trans hB (hb.mono hB.size)
     clear T1
     have T2 := Lib.hid hz
     refine hK.out _ _ (HT.out _ hB) (fun hHeldn => ?_)
     clear hK K hHeldn
     try simp only [Act.put, sTA, sCZ, sCS]
     clear hb hz
     refine wpAnyH_ready (rs := [41]) (by kernel_rfl) (by simp) ?_
     refine AllReadyH.cons rfl (fun K hK => ?_) AllReadyH.nil
     (try simp only [gEA]); (try simp only [gES]); (try simp only [gEZ])
     go_simp
     (go_at_call 44; refine (mul_v _ _ (x1) (y1) (x2) (y2) 7 _ (V1.out.v) (V2.out.v) (by decide) (by decide)).mono ?_; rintro e wc41 ⟨⟨ga41, Aa41, na41, ca41, ea41, Ea41, ma41, da41, rfl, hz⟩, hb⟩)
     replace V0 := Lib.hid (V0.out.below hb)
     replace V1 := Lib.hid (V1.out.below hb)
     replace V2 := Lib.hid (V2.out.below hb)
     replace T2 := Lib.hid (T2.out.below hb)
     replace hB := Below.trans hB (hb.mono hB.size)
     have T3 := Lib.hid hz
     refine hK.out _ _ (HT.out _ hB) (fun hHeldn => ?_)
     clear hK K hHeldn
     try simp only [Act.put, sTA, sCZ, sCS]
     clear hb hz
     refine wpAnyH_ready (rs := [42]) (by kernel_rfl) (by simp) ?_
     refine AllReadyH.cons rfl (fun K hK => ?_) AllReadyH.nil
     (try simp only [gEA]); (try simp only [gES]); (try simp only [gEZ])
     go_simp
     (go_at_call 44; refine (mul_v _ _ (x0) (y0) ((x1) * (x2)) ((y1) * (y2)) 19 _ ((V0.out.v.mono (by decide))) (T3.out) (by decide) (by decide)).mono ?_; rintro e wc42 ⟨⟨ga42, Aa42, na42, ca42, ea42, Ea42, ma42, da42, rfl, hz⟩, hb⟩)
     replace V0 := Lib.hid (V0.out.below hb)
     replace V1 := Lib.hid (V1.out.below hb)
     replace V2 := Lib.hid (V2.out.below hb)
     replace T2 := Lib.hid (T2.out.below hb)
     replace T3 := Lib.hid (T3.out.below hb)
     replace hB := Below.trans hB (hb.mono hB.size)
     clear T3
     have T4 := Lib.hid hz
     refine hK.out _ _ (HT.out _ hB) (fun hHeldn => ?_)
     clear hK K hHeldn
     try simp only [Act.put, sTA, sCZ, sCS]
     clear hb hz
     refine wpAnyH_ready (rs := [43]) (by kernel_rfl) (by simp) ?_
     refine AllReadyH.cons rfl (fun K hK => ?_) AllReadyH.nil
     (try simp only [gEA]); (try simp only [gES]); (try simp only [gEZ])
     go_simp
     (go_at_call 61; refine (same_v_yes _ _ (((x0) * (x1)) * (x2)) (((y0) * (y1)) * (y2)) ((x0) * ((x1) * (x2))) ((y0) * ((y1) * (y2))) 43 _ (T2.out) (T4.out) (by decide) (ident4 x0 y0 x1 y1 x2 y2)).mono ?_; rintro e wc43 ⟨rfl, hb⟩)
     replace V0 := Lib.hid (V0.out.below hb)
     replace V1 := Lib.hid (V1.out.below hb)
     replace V2 := Lib.hid (V2.out.below hb)
     replace T2 := Lib.hid (T2.out.below hb)
     replace T4 := Lib.hid (T4.out.below hb)
     replace hB := Below.trans hB (hb.mono hB.size)
     clear T2
     clear T4
     refine hK.out _ _ (HT.out _ hB) (fun hHeldn => ?_)
     clear hK K hHeldn
     try simp only [Act.put, sTA, sCZ, sCS]
     clear hb
     refine wpAnyH_taken (i := 44) (d := some 87) (v := ?_) rfl rfl (by kernel_rfl) (by kernel_rfl) (by kernel_rfl) (fun _ _ _ h => h) (Or.inl ⟨by rfl, ?_⟩) (by first | assumption | exact HT.out _ hB) ?_
     rotate_left 1
     ·(intro w hSw; (try dsimp only at hSw); go_simp; try with_reducible rfl)
     try simp only [Act.put, sTA, sCZ, sCS]
     refine wpAnyH_taken (i := 45) (d := some 88) (v := ?_) rfl rfl (by kernel_rfl) (by kernel_rfl) (by kernel_rfl) (fun _ _ _ h => h) (Or.inl ⟨by rfl, ?_⟩) (by first | assumption | exact HT.out _ hB) ?_
     rotate_left 1
     ·(intro w hSw; (try dsimp only at hSw); go_simp; try with_reducible rfl)
     try simp only [Act.put, sTA, sCZ, sCS]
     refine wpAnyH_taken (i := 46) (d := some 89) (v := ?_) rfl rfl (by kernel_rfl) (by kernel_rfl) (by kernel_rfl) (fun _ _ _ h => h) (Or.inl ⟨by rfl, ?_⟩) (by first | assumption | exact HT.out _ hB) ?_
     rotate_left 1
     ·(intro w hSw; (try dsimp only at hSw); go_simp; try with_reducible rfl)
     try simp only [Act.put, sTA, sCZ, sCS]
     refine wpAnyH_taken (i := 47) (d := some 90) (v := ?_) rfl rfl (by kernel_rfl) (by kernel_rfl) (by kernel_rfl) (fun _ _ _ h => h) (Or.inl ⟨by rfl, ?_⟩) (by first | assumption | exact HT.out _ hB) ?_
     rotate_left 1
     ·(intro w hSw; (try dsimp only at hSw); go_simp; try with_reducible rfl)
     try simp only [Act.put, sTA, sCZ, sCS]
     refine wpAnyH_taken (i := 48) (d := some 91) (v := ?_) rfl rfl (by kernel_rfl) (by kernel_rfl) (by kernel_rfl) (fun _ _ _ h => h) (Or.inl ⟨by rfl, ?_⟩) (by first | assumption | exact HT.out _ hB) ?_
     rotate_left 1
     ·(intro w hSw; (try dsimp only at hSw); go_simp; try with_reducible rfl)
     try simp only [Act.put, sTA, sCZ, sCS]
     refine wpAnyH_taken (i := 49) (d := some 92) (v := ?_) rfl rfl (by kernel_rfl) (by kernel_rfl) (by kernel_rfl) (fun _ _ _ h => h) (Or.inl ⟨by rfl, ?_⟩) (by first | assumption | exact HT.out _ hB) ?_
     rotate_left 1
     ·(intro w hSw; (try dsimp only at hSw); go_simp; try with_reducible rfl)
     try simp only [Act.put, sTA, sCZ, sCS]
     refine wpAnyH_taken (i := 52) (d := some 95) (v := ?_) rfl rfl (by kernel_rfl) (by kernel_rfl) (by kernel_rfl) (fun _ _ _ h => h) (Or.inl ⟨by rfl, ?_⟩) (by first | assumption | exact HT.out _ hB) ?_
     rotate_left 1
     ·(intro w hSw; (try dsimp only at hSw); go_simp; try with_reducible rfl)
     try simp only [Act.put, sTA, sCZ, sCS]
     refine wpAnyH_taken (i := 53) (d := some 96) (v := ?_) rfl rfl (by kernel_rfl) (by kernel_rfl) (by kernel_rfl) (fun _ _ _ h => h) (Or.inl ⟨by rfl, ?_⟩) (by first | assumption | exact HT.out _ hB) ?_
     rotate_left 1
     ·(intro w hSw; (try dsimp only at hSw); go_simp; try with_reducible rfl)
     try simp only [Act.put, sTA, sCZ, sCS]
     refine wpAnyH_taken (i := 55) (d := some 98) (v := ?_) rfl rfl (by kernel_rfl) (by kernel_rfl) (by kernel_rfl) (fun _ _ _ h => h) (Or.inl ⟨by rfl, ?_⟩) (by first | assumption | exact HT.out _ hB) ?_
     rotate_left 1
     ·(intro w hSw; (try dsimp only at hSw); go_simp; try with_reducible rfl)
     try simp only [Act.put, sTA, sCZ, sCS]
     refine wpAnyH_taken (i := 56) (d := some 99) (v := ?_) rfl rfl (by kernel_rfl) (by kernel_rfl) (by kernel_rfl) (fun _ _ _ h => h) (Or.inl ⟨by rfl, ?_⟩) (by first | assumption | exact HT.out _ hB) ?_
     rotate_left 1
     ·(intro w hSw; (try dsimp only at hSw); go_simp; try with_reducible rfl)
     try simp only [Act.put, sTA, sCZ, sCS]
     refine wpAnyH_ready (rs := [50]) (by kernel_rfl) (by simp) ?_
     refine AllReadyH.cons rfl (fun K hK => ?_) AllReadyH.nil
     (try simp only [gEA]); (try simp only [gES]); (try simp only [gEZ])
     go_simp
     (go_at_call 40; refine (add_v _ _ (x1) (y1) (x2) (y2) 7 _ (V1.out.v) (V2.out.v) (by decide) (by decide)).mono ?_; rintro e wc50 ⟨⟨ga50, Aa50, na50, ca50, ea50, Ea50, ma50, da50, rfl, hz⟩, hb⟩)
     replace V0 := Lib.hid (V0.out.below hb)
     replace V1 := Lib.hid (V1.out.below hb)
     replace V2 := Lib.hid (V2.out.below hb)
     replace hB := Below.trans hB (hb.mono hB.size)
     have T1 := Lib.hid hz
     refine hK.out _ _ (HT.out _ hB) (fun hHeldn => ?_)
     clear hK K hHeldn
     try simp only [Act.put, sTA, sCZ, sCS]
     clear hb hz
     refine wpAnyH_ready (rs := [51]) (by kernel_rfl) (by simp) ?_
     refine AllReadyH.cons rfl (fun K hK => ?_) AllReadyH.nil
     (try simp only [gEA]); (try simp only [gES]); (try simp only [gEZ])
     go_simp
     (go_at_call 44; refine (mul_v _ _ (x0) (y0) ((x1) * (y2) + (x2) * (y1)) ((y1) * (y2)) 19 _ ((V0.out.v.mono (by decide))) (T1.out) (by decide) (by decide)).mono ?_; rintro e wc51 ⟨⟨ga51, Aa51, na51, ca51, ea51, Ea51, ma51, da51, rfl, hz⟩, hb⟩)
     replace V0 := Lib.hid (V0.out.below hb)
     replace V1 := Lib.hid (V1.out.below hb)
     replace V2 := Lib.hid (V2.out.below hb)
     replace T1 := Lib.hid (T1.out.below hb)
     replace hB := Below.trans hB (hb.mono hB.size)
     clear T1
     have T2 := Lib.hid hz
     refine hK.out _ _ (HT.out _ hB) (fun hHeldn => ?_)
     clear hK K hHeldn
     try simp only [Act.put, sTA, sCZ, sCS]
     clear hb hz
     refine wpAnyH_ready (rs := [54]) (by kernel_rfl) (by simp) ?_
     refine AllReadyH.cons rfl (fun K hK => ?_) AllReadyH.nil
     (try simp only [gEA]); (try simp only [gES]); (try simp only [gEZ])
     go_simp
     (go_at_call 44; refine (mul_v _ _ (x0) (y0) (x1) (y1) 7 _ (V0.out.v) (V1.out.v) (by decide) (by decide)).mono ?_; rintro e wc54 ⟨⟨ga54, Aa54, na54, ca54, ea54, Ea54, ma54, da54, rfl, hz⟩, hb⟩)
     replace V0 := Lib.hid (V0.out.below hb)
     replace V1 := Lib.hid (V1.out.below hb)
     replace V2 := Lib.hid (V2.out.below hb)
     replace T2 := Lib.hid (T2.out.below hb)
     replace hB := Below.trans hB (hb.mono hB.size)
     have T3 := Lib.hid hz
     refine hK.out _ _ (HT.out _ hB) (fun hHeldn => ?_)
     clear hK K hHeldn
     try simp only [Act.put, sTA, sCZ, sCS]
     clear hb hz
     refine wpAnyH_ready (rs := [57]) (by kernel_rfl) (by simp) ?_
     refine AllReadyH.cons rfl (fun K hK => ?_) AllReadyH.nil
     (try simp only [gEA]); (try simp only [gES]); (try simp only [gEZ])
     go_simp
     (go_at_call 44; refine (mul_v _ _ (x0) (y0) (x2) (y2) 7 _ (V0.out.v) (V2.out.v) (by decide) (by decide)).mono ?_; rintro e wc57 ⟨⟨ga57, Aa57, na57, ca57, ea57, Ea57, ma57, da57, rfl, hz⟩, hb⟩)
     replace V0 := Lib.hid (V0.out.below hb)
     replace V1 := Lib.hid (V1.out.below hb)
     replace V2 := Lib.hid (V2.out.below hb)
     replace T2 := Lib.hid (T2.out.below hb)
     replace T3 := Lib.hid (T3.out.below hb)
     replace hB := Below.trans hB (hb.mono hB.size)
     have T4 := Lib.hid hz
     refine hK.out _ _ (HT.out _ hB) (fun hHeldn => ?_)
     clear hK K hHeldn
     try simp only [Act.put, sTA, sCZ, sCS]
     clear hb hz
     refine wpAnyH_ready (rs := [58]) (by kernel_rfl) (by simp) ?_
     refine AllReadyH.cons rfl (fun K hK => ?_) AllReadyH.nil
     (try simp only [gEA]); (try simp only [gES]); (try simp only [gEZ])
     go_simp
     (go_at_call 40; refine (add_v _ _ ((x0) * (x1)) ((y0) * (y1)) ((x0) * (x2)) ((y0) * (y2)) 19 _ (T3.out) (T4.out) (by decide) (by decide)).mono ?_; rintro e wc58 ⟨⟨ga58, Aa58, na58, ca58, ea58, Ea58, ma58, da58, rfl, hz⟩, hb⟩)
     replace V0 := Lib.hid (V0.out.below hb)
     replace V1 := Lib.hid (V1.out.below hb)
     replace V2 := Lib.hid (V2.out.below hb)
     replace T2 := Lib.hid (T2.out.below hb)
     replace T3 := Lib.hid (T3.out.below hb)
     replace T4 := Lib.hid (T4.out.below hb)
     replace hB := Below.trans hB (hb.mono hB.size)
     clear T3
     clear T4
     have T5 := Lib.hid hz
     refine hK.out _ _ (HT.out _ hB) (fun hHeldn => ?_)
     clear hK K hHeldn
     try simp only [Act.put, sTA, sCZ, sCS]
     clear hb hz
     refine wpAnyH_ready (rs := [59]) (by kernel_rfl) (by simp) ?_
     refine AllReadyH.cons rfl (fun K hK => ?_) AllReadyH.nil
     (try simp only [gEA]); (try simp only [gES]); (try simp only [gEZ])
     go_simp
     (go_at_call 61; refine (same_v_yes _ _ ((x0) * ((x1) * (y2) + (x2) * (y1))) ((y0) * ((y1) * (y2))) (((x0) * (x1)) * ((y0) * (y2)) + ((x0) * (x2)) * ((y0) * (y1))) (((y0) * (y1)) * ((y0) * (y2))) 43 _ (T2.out) (T5.out) (by decide) (ident5 x0 y0 x1 y1 x2 y2)).mono ?_; rintro e wc59 ⟨rfl, hb⟩)
     replace V0 := Lib.hid (V0.out.below hb)
     replace V1 := Lib.hid (V1.out.below hb)
     replace V2 := Lib.hid (V2.out.below hb)
     replace T2 := Lib.hid (T2.out.below hb)
     replace T5 := Lib.hid (T5.out.below hb)
     replace hB := Below.trans hB (hb.mono hB.size)
     clear T2
     clear T5
     refine hK.out _ _ (HT.out _ hB) (fun hHeldn => ?_)
     clear hK K hHeldn
     try simp only [Act.put, sTA, sCZ, sCS]
     clear hb
     refine wpAnyH_taken (i := 60) (d := some 103) (v := ?_) rfl rfl (by kernel_rfl) (by kernel_rfl) (by kernel_rfl) (fun _ _ _ h => h) (Or.inl ⟨by rfl, ?_⟩) (by first | assumption | exact HT.out _ hB) ?_
     rotate_left 1
     ·(intro w hSw; (try dsimp only at hSw); go_simp; try with_reducible rfl)
     try simp only [Act.put, sTA, sCZ, sCS]
     refine wpAnyH_taken (i := 61) (d := some 104) (v := ?_) rfl rfl (by kernel_rfl) (by kernel_rfl) (by kernel_rfl) (fun _ _ _ h => h) (Or.inl ⟨by rfl, ?_⟩) (by first | assumption | exact HT.out _ hB) ?_
     rotate_left 1
     ·(intro w hSw; (try dsimp only at hSw); go_simp; try with_reducible rfl)
     try simp only [Act.put, sTA, sCZ, sCS]
     refine wpAnyH_taken (i := 62) (d := some 105) (v := ?_) rfl rfl (by kernel_rfl) (by kernel_rfl) (by kernel_rfl) (fun _ _ _ h => h) (Or.inl ⟨by rfl, ?_⟩) (by first | assumption | exact HT.out _ hB) ?_
     rotate_left 1
     ·(intro w hSw; (try dsimp only at hSw); go_simp; try with_reducible rfl)
     try simp only [Act.put, sTA, sCZ, sCS]
     refine wpAnyH_taken (i := 63) (d := some 106) (v := ?_) rfl rfl (by kernel_rfl) (by kernel_rfl) (by kernel_rfl) (fun _ _ _ h => h) (Or.inl ⟨by rfl, ?_⟩) (by first | assumption | exact HT.out _ hB) ?_
     rotate_left 1
     ·(intro w hSw; (try dsimp only at hSw); go_simp; try with_reducible rfl)
     try simp only [Act.put, sTA, sCZ, sCS]
     refine wpAnyH_taken (i := 64) (d := some 107) (v := ?_) rfl rfl (by kernel_rfl) (by kernel_rfl) (by kernel_rfl) (fun _ _ _ h => h) (Or.inl ⟨by rfl, ?_⟩) (by first | assumption | exact HT.out _ hB) ?_
     rotate_left 1
     ·(intro w hSw; (try dsimp only at hSw); go_simp; try with_reducible rfl)
     try simp only [Act.put, sTA, sCZ, sCS]
     refine wpAnyH_taken (i := 66) (d := some 109) (v := ?_) rfl rfl (by kernel_rfl) (by kernel_rfl) (by kernel_rfl) (fun _ _ _ h => h) (Or.inl ⟨by rfl, ?_⟩) (by first | assumption | exact HT.out _ hB) ?_
     rotate_left 1
     ·(intro w hSw; (try dsimp only at hSw); go_simp; try with_reducible rfl)
     try simp only [Act.put, sTA, sCZ, sCS]
     refine wpAnyH_taken (i := 68) (d := some 111) (v := ?_) rfl rfl (by kernel_rfl) (by kernel_rfl) (by kernel_rfl) (fun _ _ _ h => h) (Or.inl ⟨by rfl, ?_⟩) (by first | assumption | exact HT.out _ hB) ?_
     rotate_left 1
     ·(intro w hSw; (try dsimp only at hSw); go_simp; try with_reducible rfl)
     try simp only [Act.put, sTA, sCZ, sCS]
     refine wpAnyH_ready (rs := [65]) (by kernel_rfl) (by simp) ?_
     refine AllReadyH.cons rfl (fun K hK => ?_) AllReadyH.nil
     (try simp only [gEA]); (try simp only [gES]); (try simp only [gEZ])
     go_simp
     (go_at_call 40; refine (add_v _ _ (x0) (y0) (x1) (y1) 7 _ (V0.out.v) (V1.out.v) (by decide) (by decide)).mono ?_; rintro e wc65 ⟨⟨ga65, Aa65, na65, ca65, ea65, Ea65, ma65, da65, rfl, hz⟩, hb⟩)
     replace V0 := Lib.hid (V0.out.below hb)
     replace V1 := Lib.hid (V1.out.below hb)
     replace V2 := Lib.hid (V2.out.below hb)
     replace hB := Below.trans hB (hb.mono hB.size)
     have T1 := Lib.hid hz
     refine hK.out _ _ (HT.out _ hB) (fun hHeldn => ?_)
     clear hK K hHeldn
     try simp only [Act.put, sTA, sCZ, sCS]
     clear hb hz
     refine wpAnyH_ready (rs := [67]) (by kernel_rfl) (by simp) ?_
     refine AllReadyH.cons rfl (fun K hK => ?_) AllReadyH.nil
     (try simp only [gEA]); (try simp only [gES]); (try simp only [gEZ])
     go_simp
     (go_at_call 42; refine (sub_v _ _ ((x0) * (y1) + (x1) * (y0)) ((y0) * (y1)) (x1) (y1) 19 _ (T1.out) ((V1.out.v.mono (by decide))) (by decide) (by decide)).mono ?_; rintro e wc67 ⟨⟨ga67, Aa67, na67, ca67, ea67, Ea67, ma67, da67, rfl, hz⟩, hb⟩)
     replace V0 := Lib.hid (V0.out.below hb)
     replace V1 := Lib.hid (V1.out.below hb)
     replace V2 := Lib.hid (V2.out.below hb)
     replace T1 := Lib.hid (T1.out.below hb)
     replace hB := Below.trans hB (hb.mono hB.size)
     clear T1
     have T2 := Lib.hid hz
     refine hK.out _ _ (HT.out _ hB) (fun hHeldn => ?_)
     clear hK K hHeldn
     try simp only [Act.put, sTA, sCZ, sCS]
     clear hb hz
     refine wpAnyH_ready (rs := [69]) (by kernel_rfl) (by simp) ?_
     refine AllReadyH.cons rfl (fun K hK => ?_) AllReadyH.nil
     (try simp only [gEA]); (try simp only [gES]); (try simp only [gEZ])
     go_simp
     (go_at_call 61; refine (same_v_yes _ _ (((x0) * (y1) + (x1) * (y0)) * (y1) - (x1) * ((y0) * (y1))) (((y0) * (y1)) * (y1)) (x0) (y0) 43 _ (T2.out) ((V0.out.v.mono (by decide))) (by decide) (ident6 x0 y0 x1 y1 x2 y2)).mono ?_; rintro e wc69 ⟨rfl, hb⟩)
     replace V0 := Lib.hid (V0.out.below hb)
     replace V1 := Lib.hid (V1.out.below hb)
     replace V2 := Lib.hid (V2.out.below hb)
     replace T2 := Lib.hid (T2.out.below hb)
     replace hB := Below.trans hB (hb.mono hB.size)
     clear T2
     refine hK.out _ _ (HT.out _ hB) (fun hHeldn => ?_)
     clear hK K hHeldn
     try simp only [Act.put, sTA, sCZ, sCS]
     clear hb
     refine wpAnyH_taken (i := 70) (d := some 113) (v := ?_) rfl rfl (by kernel_rfl) (by kernel_rfl) (by kernel_rfl) (fun _ _ _ h => h) (Or.inl ⟨by rfl, ?_⟩) (by first | assumption | exact HT.out _ hB) ?_
     rotate_left 1
     ·(intro w hSw; (try dsimp only at hSw); go_simp; try with_reducible rfl)
     try simp only [Act.put, sTA, sCZ, sCS]
     refine wpAnyH_taken (i := 71) (d := some 114) (v := ?_) rfl rfl (by kernel_rfl) (by kernel_rfl) (by kernel_rfl) (fun _ _ _ h => h) (Or.inl ⟨by rfl, ?_⟩) (by first | assumption | exact HT.out _ hB) ?_
     rotate_left 1
     ·(intro w hSw; (try dsimp only at hSw); go_simp; try with_reducible rfl)
     try simp only [Act.put, sTA, sCZ, sCS]
     refine wpAnyH_done (by kernel_rfl) ?_ _
     clear HT
     replace F10 := Lib.hid (F10.out.below hB)
     replace F11 := Lib.hid (F11.out.below hB)
     replace F12 := Lib.hid (F12.out.below hB)
     replace hm := Lib.hid ((hB.cell (p := ⟨0, 0, none⟩) (World.block_lt_of_cell? _ _ hm.out)).trans hm.out)
     replace hw := Lib.hid (hw.out.trans (hB.mono hw.out.size))
     clear hB
     go_wp2_with fail
     go_meet
     exact ⟨rfl, _, _, _, _, _, _, _, _, _, _, _, _, _, _, _, _, _, _, _, _, _, _, _, _, _, _, _, rfl, rfl, rfl, rfl, F10.out, F11.out, F12.out, V0.out, V1.out, V2.out, hm.out, hw.out⟩
   case rest =>
    clear F10 F11 F12 V0 V1 V2 hm hw
    obtain ⟨rfl, j10, j11, j12, g0, K0, l0, f0, s0, E0, r0, t0, g1, K1, l1, f1, s1, E1, r1, t1, g2, K2, l2, f2, s2, E2, r2, t2, rfl, rfl, rfl, rfl, F10, F11, F12, V0, V1, V2, hm, hw⟩ := hcut
    replace F10 := Lib.hid F10
    replace F11 := Lib.hid F11
    replace F12 := Lib.hid F12
    replace V0 := Lib.hid V0
    replace V1 := Lib.hid V1
    replace V2 := Lib.hid V2
    replace hm := Lib.hid hm
    replace hw := Lib.hid hw
    obtain ⟨wk, rfl⟩ : ∃ wk, wk = wc := ⟨wc, rfl⟩
    go_upto_region 7 with fail
    go_cut [3, 10, 11, 12, 13, 14] (fun v3 v10 v11 v12 v13 v14 wx => DBox wx v13 x0 y0 x1 y1 ∧ v14 = .int .i64 (divE x1) ∧ FMid w x0 y0 x1 y1 x2 y2 k M v3 v10 v11 v12 wx)
    case first =>
     as_aux_lemma =>
      have HT := Lib.hid (fun (w' : World) (hb : Below wk.heap.size wk w') => (show w'.cell? ⟨j10, 0, none⟩ = some (.bool g0) ∧ w'.cell? ⟨j10, 1, none⟩ = some (.slice K0 l0 f0) ∧ w'.cell? ⟨j10, 2, none⟩ = some (.bool s0) ∧ w'.cell? ⟨j10, 3, none⟩ = some (.slice E0 r0 t0) ∧ w'.cell? ⟨j11, 0, none⟩ = some (.bool g1) ∧ w'.cell? ⟨j11, 1, none⟩ = some (.slice K1 l1 f1) ∧ w'.cell? ⟨j11, 2, none⟩ = some (.bool s1) ∧ w'.cell? ⟨j11, 3, none⟩ = some (.slice E1 r1 t1) from ⟨(F10.out.below hb).c0, (F10.out.below hb).c1, (F10.out.below hb).c2, (F10.out.below hb).c3, (F11.out.below hb).c0, (F11.out.below hb).c1, (F11.out.below hb).c2, (F11.out.below hb).c3⟩))
      obtain ⟨Inv, hInv⟩ : ∃ J : (Nat → Bool) → (Value × Value × Value × Value × Value × Value × Value) → World → Prop, J = fun b v w' => (Below wk.heap.size wk w') ∧ (b 2 = true → VRat w' v.1 ((x0) * (x1)) ((y0) * (y1)) 19) ∧ (b 4 = true → DivT w' v.2.1 x0 y0 x1 y1) ∧ (b 5 = true → DivT w' v.2.2.1 x0 y0 x1 y1) ∧ (b 6 = true → DivV w' v.2.2.2.1 x0 y0 x1 y1) ∧ (b 7 = true → v.2.2.2.2.1 = .int .i64 (divE x1)) ∧ (b 8 = true → b 9 = false → PFx wk.heap.size w' v.2.2.2.2.2.1 (.bool false) (.slice none 0 0) (.bool false) (.slice none 0 0)) ∧ (b 9 = true → DBox w' v.2.2.2.2.2.1 x0 y0 x1 y1) ∧ (b 10 = true → v.2.2.2.2.2.2 = .int .i64 (divE x1)) := ⟨_, rfl⟩
      have hB := (Below.refl wk.heap.size wk).drew
      refine wp_region_held_drew (S := fun w' => w'.cell? ⟨j10, 0, none⟩ = some (.bool g0) ∧ w'.cell? ⟨j10, 1, none⟩ = some (.slice K0 l0 f0) ∧ w'.cell? ⟨j10, 2, none⟩ = some (.bool s0) ∧ w'.cell? ⟨j10, 3, none⟩ = some (.slice E0 r0 t0) ∧ w'.cell? ⟨j11, 0, none⟩ = some (.bool g1) ∧ w'.cell? ⟨j11, 1, none⟩ = some (.slice K1 l1 f1) ∧ w'.cell? ⟨j11, 2, none⟩ = some (.bool s1) ∧ w'.cell? ⟨j11, 3, none⟩ = some (.slice E1 r1 t1)) (by kernel_rfl) (HT.out _ hB) (fun hHeldn => ?_)
      clear hHeldn
      generalize wk.drew = wr0 at *
      refine wpAnyH_taken (i := 0) (d := some 116) (v := ?_) rfl rfl (by kernel_rfl) (by kernel_rfl) (by kernel_rfl) (fun _ _ _ h => h) (Or.inl ⟨by rfl, ?_⟩) (by first | assumption | exact HT.out _ hB | trivial) ?_
      rotate_left 1
      ·(intro w hSw; (try dsimp only at hSw); go_simp; try with_reducible rfl)
      try simp only [Act.put, sTA, sCZ, sCS]
      refine wpAnyH_taken (i := 1) (d := some 117) (v := ?_) rfl rfl (by kernel_rfl) (by kernel_rfl) (by kernel_rfl) (fun _ _ _ h => h) (Or.inl ⟨by rfl, ?_⟩) (by first | assumption | exact HT.out _ hB | trivial) ?_
      rotate_left 1
      ·(intro w hSw; (try dsimp only at hSw); go_simp; try with_reducible rfl)
      try simp only [Act.put, sTA, sCZ, sCS]
      refine wpAnyH_taken (i := 3) (d := some 119) (v := ?_) rfl rfl (by kernel_rfl) (by kernel_rfl) (by kernel_rfl) (fun _ _ _ h => h) (Or.inl ⟨by rfl, ?_⟩) (by first | assumption | exact HT.out _ hB | trivial) ?_
      rotate_left 1
      ·(intro w hSw; (try dsimp only at hSw); go_simp; try with_reducible rfl)
      try simp only [Act.put, sTA, sCZ, sCS]
      refine wpAnyH_begin (V := Value × Value × Value × Value × Value × Value × Value) (I := Inv) (A := ?_) [true, true, false, true, false, false, false, false, false, false, false] [118, 120, 115, 121, 122, 13, 14] (fun v => [v.1, v.2.1, v.2.2.1, v.2.2.2.1, v.2.2.2.2.1, v.2.2.2.2.2.1, v.2.2.2.2.2.2]) (fun a => (a.tmps.getD 118 undef, a.tmps.getD 120 undef, a.tmps.getD 115 undef, a.tmps.getD 121 undef, a.tmps.getD 122 undef, a.tmps.getD 13 undef, a.tmps.getD 14 undef)) ?_ ?_ (by kernel_rfl) (by kernel_rfl) (by kernel_rfl) (by kernel_rfl) (by kernel_rfl) ?_ ?_ ?_
      rotate_left 1
      ·intro v; simp only [fillA, Act.put, sTA, sCZ, sCS]; rfl
      ·rfl
      ·rw [hInv]
       exact ⟨(hB), (fun h => absurd h (by decide)), (fun h => absurd h (by decide)), (fun h => absurd h (by decide)), (fun h => absurd h (by decide)), (fun h => absurd h (by decide)), (fun h _ => absurd h (by decide)), (fun h => absurd h (by decide)), (fun h => absurd h (by decide))⟩
      ·skip
       refine EachFrom.skip (by rfl) ?_
       refine EachFrom.skip (by rfl) ?_
       refine EachFrom.cons (k := 2) rfl rfl (ds := [0, 1]) (by kernel_rfl) (fun v x => (x, v.2.1, v.2.2.1, v.2.2.2.1, v.2.2.2.2.1, v.2.2.2.2.2.1, v.2.2.2.2.2.2)) (fun v x => by rfl) (fun b v wz hb0 hcl hbk hdep hI Kc hK => ?_) ?_
       ·skip
        rw [hInv] at hI
        obtain ⟨x118, x120, x115, x121, x122, x13, x14⟩ := v
        dsimp only at hI hK ⊢
        (try simp only [Act.put] at hK); (try simp only [sTA] at hK); (try simp only [sCS] at hK); (try simp only [sCZ] at hK)
        obtain ⟨famb, f118, f120, f115, f121, f122, fP13, fQ13, f14⟩ := hI
        obtain ⟨d0, d1, -⟩ := hdep
        (try simp only [gEA]); (try simp only [gES]); (try simp only [gEZ])
        go_simp
        (go_at_call 44; refine (mul_v _ _ (x0) (y0) (x1) (y1) 7 _ (V0.out.v.below famb) (V1.out.v.below famb) (by decide) (by decide)).mono ?_; rintro e w1 ⟨⟨z1, z2, z3, z4, z5, z6, z7, z8, rfl, hz⟩, hb⟩)
        refine hK.out _ _ (HT.out _ ((famb).trans (hb.mono (famb).size))) ?_
        rw [hInv]
        exact ⟨((famb).trans (hb.mono (famb).size)), (fun h0 => hz), (fun h => absurd ((show AllT b [2, 3, 2] from hcl 4 _ rfl h).1) (by rw [hbk]; decide)), (fun h => absurd ((show AllT b [2, 3, 2] from hcl 4 _ rfl ((show AllT b [4] from hcl 5 _ rfl h).1)).1) (by rw [hbk]; decide)), (fun h => absurd ((show AllT b [2, 3, 2] from hcl 4 _ rfl ((show AllT b [4] from hcl 5 _ rfl ((show AllT b [5] from hcl 6 _ rfl h).1)).1)).1) (by rw [hbk]; decide)), (fun h => absurd ((show AllT b [2, 3, 2] from hcl 4 _ rfl ((show AllT b [4] from hcl 5 _ rfl ((show AllT b [5] from hcl 7 _ rfl h).1)).1)).1) (by rw [hbk]; decide)), (fun h0 h1 => (fP13 h0 h1).below hb), (fun h => absurd ((show AllT b [8, 6, 4, 0, 1, 2, 3, 4, 5, 6, 8] from hcl 9 _ rfl h).2.2.2.2.2.1) (by rw [hbk]; decide)), (fun h => absurd ((show AllT b [7, 9, 0, 1, 2, 3, 4, 5, 6, 7, 8, 9] from hcl 10 _ rfl h).2.2.2.2.1) (by rw [hbk]; decide))⟩
       refine EachFrom.skip (by rfl) ?_
       refine EachFrom.cons (k := 4) rfl rfl (ds := [2, 3, 2]) (by kernel_rfl) (fun v x => (v.1, x, v.2.2.1, v.2.2.2.1, v.2.2.2.2.1, v.2.2.2.2.2.1, v.2.2.2.2.2.2)) (fun v x => by rfl) (fun b v wz hb0 hcl hbk hdep hI Kc hK => ?_) ?_
       ·skip
        rw [hInv] at hI
        obtain ⟨x118, x120, x115, x121, x122, x13, x14⟩ := v
        dsimp only at hI hK ⊢
        (try simp only [Act.put] at hK); (try simp only [sTA] at hK); (try simp only [sCS] at hK); (try simp only [sCZ] at hK)
        obtain ⟨famb, f118, f120, f115, f121, f122, fP13, fQ13, f14⟩ := hI
        obtain ⟨d2, d3, -, -⟩ := hdep
        (try simp only [gEA]); (try simp only [gES]); (try simp only [gEZ])
        go_simp
        (go_at_call 30; refine (div_v _ _ ((x0) * (x1)) ((y0) * (y1)) x1 y1 19 _ (f118 d2) ((V1.out.below famb).mono (by decide)) (by decide) (by decide)).mono ?_; rintro e w1 ⟨⟨z1, z2, z3, z4, z5, z6, z7, z8, rfl, N, D, hz, hq⟩, hb⟩)
        refine hK.out _ _ (HT.out _ ((famb).trans (hb.mono (famb).size))) ?_
        rw [hInv]
        exact ⟨((famb).trans (hb.mono (famb).size)), (fun h0 => (f118 h0).below hb), (fun h0 => ⟨_, rfl, N, D, hz, hq⟩), (fun h => absurd ((show AllT b [4] from hcl 5 _ rfl h).1) (by rw [hbk]; decide)), (fun h => absurd ((show AllT b [4] from hcl 5 _ rfl ((show AllT b [5] from hcl 6 _ rfl h).1)).1) (by rw [hbk]; decide)), (fun h => absurd ((show AllT b [4] from hcl 5 _ rfl ((show AllT b [5] from hcl 7 _ rfl h).1)).1) (by rw [hbk]; decide)), (fun h0 h1 => (fP13 h0 h1).below hb), (fun h => absurd ((show AllT b [8, 6, 4, 0, 1, 2, 3, 4, 5, 6, 8] from hcl 9 _ rfl h).2.2.1) (by rw [hbk]; decide)), (fun h => absurd ((show AllT b [7, 9, 0, 1, 2, 3, 4, 5, 6, 7, 8, 9] from hcl 10 _ rfl h).2.2.2.2.2.2.1) (by rw [hbk]; decide))⟩
       refine EachFrom.cons (k := 5) rfl rfl (ds := [4]) (by kernel_rfl) (fun v x => (v.1, v.2.1, x, v.2.2.2.1, v.2.2.2.2.1, v.2.2.2.2.2.1, v.2.2.2.2.2.2)) (fun v x => by rfl) (fun b v wz hb0 hcl hbk hdep hI Kc hK => ?_) ?_
       ·skip
        rw [hInv] at hI
        obtain ⟨x118, x120, x115, x121, x122, x13, x14⟩ := v
        dsimp only at hI hK ⊢
        (try simp only [Act.put] at hK); (try simp only [sTA] at hK); (try simp only [sCS] at hK); (try simp only [sCZ] at hK)
        obtain ⟨famb, f118, f120, f115, f121, f122, fP13, fQ13, f14⟩ := hI
        obtain ⟨d4, -⟩ := hdep
        (try simp only [gEA]); (try simp only [gES]); (try simp only [gEZ])
        go_simp
        refine hK.out _ _ (HT.out _ (famb)) ?_
        rw [hInv]
        exact ⟨(famb), (fun h0 => f118 h0), (fun h0 => f120 h0), (fun h0 => f120 d4), (fun h => absurd ((show AllT b [5] from hcl 6 _ rfl h).1) (by rw [hbk]; decide)), (fun h => absurd ((show AllT b [5] from hcl 7 _ rfl h).1) (by rw [hbk]; decide)), (fun h0 h1 => fP13 h0 h1), (fun h => absurd ((show AllT b [8, 6, 4, 0, 1, 2, 3, 4, 5, 6, 8] from hcl 9 _ rfl h).2.2.2.2.2.2.2.2.1) (by rw [hbk]; decide)), (fun h => absurd ((show AllT b [7, 9, 0, 1, 2, 3, 4, 5, 6, 7, 8, 9] from hcl 10 _ rfl h).2.2.2.2.2.2.2.1) (by rw [hbk]; decide))⟩
       refine EachFrom.cons (k := 6) rfl rfl (ds := [5]) (by kernel_rfl) (fun v x => (v.1, v.2.1, v.2.2.1, x, v.2.2.2.2.1, v.2.2.2.2.2.1, v.2.2.2.2.2.2)) (fun v x => by rfl) (fun b v wz hb0 hcl hbk hdep hI Kc hK => ?_) ?_
       ·skip
        rw [hInv] at hI
        obtain ⟨x118, x120, x115, x121, x122, x13, x14⟩ := v
        dsimp only at hI hK ⊢
        (try simp only [Act.put] at hK); (try simp only [sTA] at hK); (try simp only [sCS] at hK); (try simp only [sCZ] at hK)
        obtain ⟨famb, f118, f120, f115, f121, f122, fP13, fQ13, f14⟩ := hI
        obtain ⟨d5, -⟩ := hdep
        (try simp only [gEA]); (try simp only [gES]); (try simp only [gEZ])
        obtain ⟨z, rfl, hz⟩ := f115 d5
        go_simp
        refine hK.out _ _ (HT.out _ (famb)) ?_
        rw [hInv]
        exact ⟨(famb), (fun h0 => f118 h0), (fun h0 => f120 h0), (fun h0 => f115 h0), (fun h0 => hz), (fun h0 => f122 h0), (fun h0 h1 => fP13 h0 h1), (fun h => absurd ((show AllT b [8, 6, 4, 0, 1, 2, 3, 4, 5, 6, 8] from hcl 9 _ rfl h).2.1) (by rw [hbk]; decide)), (fun h => absurd ((show AllT b [7, 9, 0, 1, 2, 3, 4, 5, 6, 7, 8, 9] from hcl 10 _ rfl h).2.2.2.2.2.2.2.2.1) (by rw [hbk]; decide))⟩
       refine EachFrom.cons (k := 7) rfl rfl (ds := [5]) (by kernel_rfl) (fun v x => (v.1, v.2.1, v.2.2.1, v.2.2.2.1, x, v.2.2.2.2.2.1, v.2.2.2.2.2.2)) (fun v x => by rfl) (fun b v wz hb0 hcl hbk hdep hI Kc hK => ?_) ?_
       ·skip
        rw [hInv] at hI
        obtain ⟨x118, x120, x115, x121, x122, x13, x14⟩ := v
        dsimp only at hI hK ⊢
        (try simp only [Act.put] at hK); (try simp only [sTA] at hK); (try simp only [sCS] at hK); (try simp only [sCZ] at hK)
        obtain ⟨famb, f118, f120, f115, f121, f122, fP13, fQ13, f14⟩ := hI
        obtain ⟨d5, -⟩ := hdep
        (try simp only [gEA]); (try simp only [gES]); (try simp only [gEZ])
        obtain ⟨z, rfl, hz⟩ := f115 d5
        go_simp
        refine hK.out _ _ (HT.out _ (famb)) ?_
        rw [hInv]
        exact ⟨(famb), (fun h0 => f118 h0), (fun h0 => f120 h0), (fun h0 => f115 h0), (fun h0 => f121 h0), (fun h0 => rfl), (fun h0 h1 => fP13 h0 h1), (fun h0 => fQ13 h0), (fun h => absurd ((show AllT b [7, 9, 0, 1, 2, 3, 4, 5, 6, 7, 8, 9] from hcl 10 _ rfl h).1) (by rw [hbk]; decide))⟩
       refine EachFrom.cons (k := 8) rfl rfl (ds := []) (by kernel_rfl) (fun v x => (v.1, v.2.1, v.2.2.1, v.2.2.2.1, v.2.2.2.2.1, x, v.2.2.2.2.2.2)) (fun v x => by rfl) (fun b v wz hb0 hcl hbk hdep hI Kc hK => ?_) ?_
       ·skip
        rw [hInv] at hI
        obtain ⟨x118, x120, x115, x121, x122, x13, x14⟩ := v
        dsimp only at hI hK ⊢
        (try simp only [Act.put] at hK); (try simp only [sTA] at hK); (try simp only [sCS] at hK); (try simp only [sCZ] at hK)
        obtain ⟨famb, f118, f120, f115, f121, f122, fP13, fQ13, f14⟩ := hI
        (try simp only [gEA]); (try simp only [gES]); (try simp only [gEZ])
        have hb := below_alloc wz (.cells #[.bool false, .slice none 0 0, .bool false, .slice none 0 0] 38)
        go_simp
        refine hK.out _ _ (HT.out _ ((famb).trans (hb.mono (famb).size))) ?_
        rw [hInv]
        exact ⟨((famb).trans (hb.mono (famb).size)), (fun h0 => (f118 h0).below hb), (fun h0 => (f120 h0).below hb), (fun h0 => (f115 h0).below hb), (fun h0 => (f121 h0).below hb), (fun h0 => f122 h0), (fun h0 h1 => ⟨_, rfl, famb.size, Fx4.new _ _ _ _ _ _⟩), (fun h => absurd ((show AllT b [8, 6, 4, 0, 1, 2, 3, 4, 5, 6, 8] from hcl 9 _ rfl h).1) (by rw [hbk]; decide)), (fun h => absurd ((show AllT b [7, 9, 0, 1, 2, 3, 4, 5, 6, 7, 8, 9] from hcl 10 _ rfl h).2.2.2.2.2.2.2.2.2.2.1) (by rw [hbk]; decide))⟩
       refine EachFrom.cons (k := 9) rfl rfl (ds := [8, 6, 4, 0, 1, 2, 3, 4, 5, 6, 8]) (by kernel_rfl) (fun v _ => v) (fun v x => by rfl) (fun b v wz hb0 hcl hbk hdep hI Kc hK => ?_) ?_
       ·skip
        rw [hInv] at hI
        obtain ⟨x118, x120, x115, x121, x122, x13, x14⟩ := v
        dsimp only at hI hK ⊢
        (try simp only [Act.put] at hK); (try simp only [sTA] at hK); (try simp only [sCS] at hK); (try simp only [sCZ] at hK)
        obtain ⟨famb, f118, f120, f115, f121, f122, fP13, fQ13, f14⟩ := hI
        obtain ⟨d8, d6, d4, d0, d1, d2, d3, -, d5, -, -, -⟩ := hdep
        (try simp only [gEA]); (try simp only [gES]); (try simp only [gEZ])
        obtain ⟨k13, rfl, hk13, FB⟩ := fP13 d8 hbk
        have hd := f121 d6
        obtain ⟨z1, z2, z3, z4, z5, z6, z7, z8, rfl⟩ := hd.form
        obtain ⟨r0, r1, r2, r3, r4, r5, r6, r7, r8⟩ := id FB
        go_simp
        refine hK.out (undef) _ (HT.out _ ((below_put4 (famb) (by omega) _ _ _ _))) ?_
        rw [hInv]
        exact ⟨((below_put4 (famb) (by omega) _ _ _ _)), (fun h0 => (f118 h0).put4 FB _ _ _ _), (fun h0 => (f120 h0).put4 FB _ _ _ _), (fun h0 => (f115 h0).put4 FB _ _ _ _), (fun h0 => (f121 h0).put4 FB _ _ _ _), (fun h0 => f122 h0), (fun _ h => absurd (show true = false from h) (by decide)), (fun h0 => ⟨_, _, _, _, _, _, _, _, _, rfl, FB.put _ _ _ _, hd.put4 FB _ _ _ _⟩), (fun h => absurd ((show AllT b [7, 9, 0, 1, 2, 3, 4, 5, 6, 7, 8, 9] from hcl 10 _ rfl h).2.1) (by rw [hbk]; decide))⟩
       refine EachFrom.cons (k := 10) rfl rfl (ds := [7, 9, 0, 1, 2, 3, 4, 5, 6, 7, 8, 9]) (by kernel_rfl) (fun v x => (v.1, v.2.1, v.2.2.1, v.2.2.2.1, v.2.2.2.2.1, v.2.2.2.2.2.1, x)) (fun v x => by rfl) (fun b v wz hb0 hcl hbk hdep hI Kc hK => ?_) ?_
       ·skip
        rw [hInv] at hI
        obtain ⟨x118, x120, x115, x121, x122, x13, x14⟩ := v
        dsimp only at hI hK ⊢
        (try simp only [Act.put] at hK); (try simp only [sTA] at hK); (try simp only [sCS] at hK); (try simp only [sCZ] at hK)
        obtain ⟨famb, f118, f120, f115, f121, f122, fP13, fQ13, f14⟩ := hI
        obtain ⟨d7, d9, d0, d1, d2, d3, d4, d5, d6, -, d8, -, -⟩ := hdep
        (try simp only [gEA]); (try simp only [gES]); (try simp only [gEZ])
        obtain rfl := f122 d7
        go_simp
        refine hK.out _ _ (HT.out _ (famb)) ?_
        rw [hInv]
        exact ⟨(famb), (fun h0 => f118 h0), (fun h0 => f120 h0), (fun h0 => f115 h0), (fun h0 => f121 h0), (fun h0 => f122 h0), (fun _ h => absurd (show b 9 = false from h) (by rw [d9]; decide)), (fun h0 => fQ13 h0), (fun h0 => f122 d7)⟩
       exact EachFrom.nil (by kernel_rfl)
      ·intro v wF hI
       rw [hInv] at hI
       obtain ⟨x118, x120, x115, x121, x122, x13, x14⟩ := v
       dsimp only at hI ⊢
       obtain ⟨famb, f118, f120, f115, f121, f122, fP13, fQ13, f14⟩ := hI
       replace f118 := f118 rfl
       replace f120 := f120 rfl
       replace f115 := f115 rfl
       replace f121 := f121 rfl
       replace f122 := f122 rfl
       clear fP13
       replace fQ13 := fQ13 rfl
       replace f14 := f14 rfl
       clear hInv hB
       obtain rfl := f14
       clear f118 f120 f115 f121 f122 HT
       replace F10 := Lib.hid (F10.out.below famb)
       replace F11 := Lib.hid (F11.out.below famb)
       replace F12 := Lib.hid (F12.out.below famb)
       replace V0 := Lib.hid (V0.out.below famb)
       replace V1 := Lib.hid (V1.out.below famb)
       replace V2 := Lib.hid (V2.out.below famb)
       replace hm := Lib.hid ((famb.cell (p := ⟨0, 0, none⟩) (World.block_lt_of_cell? _ _ hm.out)).trans hm.out)
       replace hw := Lib.hid (hw.out.trans (famb.mono hw.out.size))
       have HQ := Lib.hid fQ13
       clear famb fQ13
       go_wp2_with fail
       go_meet
       exact ⟨HQ.out, rfl, ⟨_, _, _, _, _, _, _, _, _, _, _, _, _, _, _, _, _, _, _, _, _, _, _, _, _, _, _, rfl, rfl, rfl, rfl, F10.out, F11.out, F12.out, V0.out, V1.out, V2.out, hm.out, hw.out⟩⟩
    case rest =>
     clear F10 F11 F12 V0 V1 V2 hm hw
     obtain ⟨hdb, rfl, j10, j11, j12, g0, K0, l0, f0, s0, E0, r0, t0, g1, K1, l1, f1, s1, E1, r1, t1, g2, K2, l2, f2, s2, E2, r2, t2, rfl, rfl, rfl, rfl, F10, F11, F12, V0, V1, V2, hm, hw⟩ := hcut
     replace F10 := Lib.hid F10
     replace F11 := Lib.hid F11
     replace F12 := Lib.hid F12
     replace V0 := Lib.hid V0
     replace V1 := Lib.hid V1
     replace V2 := Lib.hid V2
     replace hm := Lib.hid hm
     replace hw := Lib.hid hw
     replace hdb := Lib.hid hdb
     obtain ⟨wn, rfl⟩ : ∃ wn, wn = wc := ⟨wc, rfl⟩
     go_upto_region 8 with fail
     go_cut [3, 10, 11, 12, 144] (fun v3 v10 v11 v12 v144 wx => v144 = .bool false ∧ FMid w x0 y0 x1 y1 x2 y2 k M v3 v10 v11 v12 wx)
     case first =>
      as_aux_lemma =>
       obtain ⟨j13, z1, z2, z3, z4, z5, z6, z7, z8, rfl, D13, N, D, Q13, hq⟩ := hdb.out
       replace D13 := Lib.hid D13
       replace Q13 := Lib.hid Q13
       replace hq := Lib.hid hq
       clear hdb
       obtain ⟨b0, b1, b2, b3, -, -, -, -, -⟩ := F11.out
       go_wp2_with fail
       refine (Sign_any _ x1 y1 7 _ V1.out).mono ?_
       rintro e wa ⟨rfl, hb1⟩
       clear b0 b1 b2 b3
       replace F10 := Lib.hid (F10.out.below hb1)
       replace F11 := Lib.hid (F11.out.below hb1)
       replace F12 := Lib.hid (F12.out.below hb1)
       replace V0 := Lib.hid (V0.out.below hb1)
       replace V1 := Lib.hid (V1.out.below hb1)
       replace V2 := Lib.hid (V2.out.below hb1)
       replace D13 := Lib.hid (D13.out.below hb1)
       replace Q13 := Lib.hid (Q13.out.below hb1)
       replace hm := Lib.hid (((hb1).cell (p := ⟨0, 0, none⟩) (World.block_lt_of_cell? _ _ hm.out)).trans hm.out)
       replace hw := Lib.hid (hw.out.trans (hb1.mono hw.out.size))
       clear hb1
       by_cases hx : x1 = 0
       ·skip
        have hcm3 : (cmpI x1 0 != 0) = false := by rw [cmpI_eq hx]; decide
        have hde : (divE x1 != 6) = false := by rw [show divE x1 = 6 from if_pos hx]; decide
        have hcm2 : (cmpI x1 0 == 0) = true := by rw [cmpI_eq hx]; decide
        have HX := Lib.hid hx
        clear hx
        obtain ⟨b0, b1, b2, b3, -, -, -, -, -⟩ := F11.out
        go_wp2_with fail
        refine (Sign_any _ x1 y1 7 _ V1.out).mono ?_
        rintro e wb ⟨rfl, hb1⟩
        clear b0 b1 b2 b3
        replace F10 := Lib.hid (F10.out.below hb1)
        replace F11 := Lib.hid (F11.out.below hb1)
        replace F12 := Lib.hid (F12.out.below hb1)
        replace V0 := Lib.hid (V0.out.below hb1)
        replace V1 := Lib.hid (V1.out.below hb1)
        replace V2 := Lib.hid (V2.out.below hb1)
        replace D13 := Lib.hid (D13.out.below hb1)
        replace Q13 := Lib.hid (Q13.out.below hb1)
        replace hm := Lib.hid (((hb1).cell (p := ⟨0, 0, none⟩) (World.block_lt_of_cell? _ _ hm.out)).trans hm.out)
        replace hw := Lib.hid (hw.out.trans (hb1.mono hw.out.size))
        clear hb1
        go_wp2_with fail
        go_meet
        exact ⟨rfl, ⟨_, _, _, _, _, _, _, _, _, _, _, _, _, _, _, _, _, _, _, _, _, _, _, _, _, _, _, rfl, rfl, rfl, rfl, F10.out, F11.out, F12.out, V0.out, V1.out, V2.out, hm.out, hw.out⟩⟩
       ·skip
        have hcm : (cmpI x1 0 == 0) = false := cmp_ne hx
        have hde : (divE x1 != 0) = false := by rw [show divE x1 = 0 from if_neg hx]; decide
        have hcm2 : (cmpI x1 0 != 0) = true := by simp [bne, cmp_ne hx]
        have HX := Lib.hid hx
        clear hx
        obtain ⟨b0, b1, b2, b3, -, -, -, -, -⟩ := F11.out
        go_wp2_with fail
        refine (Sign_any _ x1 y1 7 _ V1.out).mono ?_
        rintro e wb ⟨rfl, hb1⟩
        clear b0 b1 b2 b3
        replace F10 := Lib.hid (F10.out.below hb1)
        replace F11 := Lib.hid (F11.out.below hb1)
        replace F12 := Lib.hid (F12.out.below hb1)
        replace V0 := Lib.hid (V0.out.below hb1)
        replace V1 := Lib.hid (V1.out.below hb1)
        replace V2 := Lib.hid (V2.out.below hb1)
        replace D13 := Lib.hid (D13.out.below hb1)
        replace Q13 := Lib.hid (Q13.out.below hb1)
        replace hm := Lib.hid (((hb1).cell (p := ⟨0, 0, none⟩) (World.block_lt_of_cell? _ _ hm.out)).trans hm.out)
        replace hw := Lib.hid (hw.out.trans (hb1.mono hw.out.size))
        clear hb1
        obtain ⟨b0, b1, b2, b3, -, -, -, -, -⟩ := F10.out
        obtain ⟨q0, q1, q2, q3, -, -, -, -, -⟩ := D13.out
        go_wp2_with fail
        refine (same_yes_q _ _ N D x0 y0 43 _ Q13.out (V0.out.mono (by decide)) (by decide) (div_back V0.out.d0 V1.out.d0 HX.out (hq.out HX.out))).mono ?_
        rintro e wd ⟨rfl, hb1⟩
        clear b0 b1 b2 b3 q0 q1 q2 q3
        replace F10 := Lib.hid (F10.out.below hb1)
        replace F11 := Lib.hid (F11.out.below hb1)
        replace F12 := Lib.hid (F12.out.below hb1)
        replace V0 := Lib.hid (V0.out.below hb1)
        replace V1 := Lib.hid (V1.out.below hb1)
        replace V2 := Lib.hid (V2.out.below hb1)
        replace D13 := Lib.hid (D13.out.below hb1)
        replace Q13 := Lib.hid (Q13.out.below hb1)
        replace hm := Lib.hid (((hb1).cell (p := ⟨0, 0, none⟩) (World.block_lt_of_cell? _ _ hm.out)).trans hm.out)
        replace hw := Lib.hid (hw.out.trans (hb1.mono hw.out.size))
        clear hb1
        go_wp2_with fail
        go_meet
        exact ⟨rfl, ⟨_, _, _, _, _, _, _, _, _, _, _, _, _, _, _, _, _, _, _, _, _, _, _, _, _, _, _, rfl, rfl, rfl, rfl, F10.out, F11.out, F12.out, V0.out, V1.out, V2.out, hm.out, hw.out⟩⟩
     case rest =>
      clear F10 F11 F12 V0 V1 V2 hm hw
      obtain ⟨rfl, j10, j11, j12, g0, K0, l0, f0, s0, E0, r0, t0, g1, K1, l1, f1, s1, E1, r1, t1, g2, K2, l2, f2, s2, E2, r2, t2, rfl, rfl, rfl, rfl, F10, F11, F12, V0, V1, V2, hm, hw⟩ := hcut
      replace F10 := Lib.hid F10
      replace F11 := Lib.hid F11
      replace F12 := Lib.hid F12
      replace V0 := Lib.hid V0
      replace V1 := Lib.hid V1
      replace V2 := Lib.hid V2
      replace hm := Lib.hid hm
      replace hw := Lib.hid hw
      obtain ⟨wq, rfl⟩ : ∃ wq, wq = wc := ⟨wc, rfl⟩
      go_upto_region 10 with fail
      go_cut [3, 10, 11, 12, 183] (fun v3 v10 v11 v12 v183 wx => v183 = .bool false ∧ FMid w x0 y0 x1 y1 x2 y2 k M v3 v10 v11 v12 wx)
      case first =>
       as_aux_lemma =>
        obtain ⟨cc, hcc⟩ : ∃ c, cmpI ((x0) * (y1)) ((x1) * (y0)) = c := ⟨_, rfl⟩
        obtain ⟨c2, hc2⟩ : ∃ c, cmpI ((x1) * (y0)) ((x0) * (y1)) = c := ⟨_, rfl⟩
        have hneg : IntKind.i64.wrap (-c2) = cc := by rw [← hcc, ← hc2]; exact cmp_neg _ _
        have HCC := Lib.hid (And.intro hcc hc2)
        clear hcc hc2
        by_cases hz : 0 < x2
        ·as_aux_lemma =>
          have hsg : 0 < cmpI x2 0 := by rw [cmpI_gt hz]; decide
          have HZ := Lib.hid hz
          clear hz
          have HT := Lib.hid (fun (w' : World) (hb : Below wq.heap.size wq w') => (show w'.cell? ⟨j10, 0, none⟩ = some (.bool g0) ∧ w'.cell? ⟨j10, 1, none⟩ = some (.slice K0 l0 f0) ∧ w'.cell? ⟨j10, 2, none⟩ = some (.bool s0) ∧ w'.cell? ⟨j10, 3, none⟩ = some (.slice E0 r0 t0) ∧ w'.cell? ⟨j11, 0, none⟩ = some (.bool g1) ∧ w'.cell? ⟨j11, 1, none⟩ = some (.slice K1 l1 f1) ∧ w'.cell? ⟨j11, 2, none⟩ = some (.bool s1) ∧ w'.cell? ⟨j11, 3, none⟩ = some (.slice E1 r1 t1) ∧ w'.cell? ⟨j12, 0, none⟩ = some (.bool g2) ∧ w'.cell? ⟨j12, 1, none⟩ = some (.slice K2 l2 f2) ∧ w'.cell? ⟨j12, 2, none⟩ = some (.bool s2) ∧ w'.cell? ⟨j12, 3, none⟩ = some (.slice E2 r2 t2) from ⟨(F10.out.below hb).c0, (F10.out.below hb).c1, (F10.out.below hb).c2, (F10.out.below hb).c3, (F11.out.below hb).c0, (F11.out.below hb).c1, (F11.out.below hb).c2, (F11.out.below hb).c3, (F12.out.below hb).c0, (F12.out.below hb).c1, (F12.out.below hb).c2, (F12.out.below hb).c3⟩))
          have hB := (Below.refl wq.heap.size wq).drew
          replace V0 := Lib.hid (V0.out.below hB)
          replace V1 := Lib.hid (V1.out.below hB)
          replace V2 := Lib.hid (V2.out.below hB)
          refine wp_region_held_drew (S := fun w' => w'.cell? ⟨j10, 0, none⟩ = some (.bool g0) ∧ w'.cell? ⟨j10, 1, none⟩ = some (.slice K0 l0 f0) ∧ w'.cell? ⟨j10, 2, none⟩ = some (.bool s0) ∧ w'.cell? ⟨j10, 3, none⟩ = some (.slice E0 r0 t0) ∧ w'.cell? ⟨j11, 0, none⟩ = some (.bool g1) ∧ w'.cell? ⟨j11, 1, none⟩ = some (.slice K1 l1 f1) ∧ w'.cell? ⟨j11, 2, none⟩ = some (.bool s1) ∧ w'.cell? ⟨j11, 3, none⟩ = some (.slice E1 r1 t1) ∧ w'.cell? ⟨j12, 0, none⟩ = some (.bool g2) ∧ w'.cell? ⟨j12, 1, none⟩ = some (.slice K2 l2 f2) ∧ w'.cell? ⟨j12, 2, none⟩ = some (.bool s2) ∧ w'.cell? ⟨j12, 3, none⟩ = some (.slice E2 r2 t2)) (by kernel_rfl) (HT.out _ hB) (fun hHeldn => ?_)
          clear hHeldn
          generalize wq.drew = wr0 at *
          refine wpAnyH_taken (i := 0) (d := some 145) (v := ?_) rfl rfl (by kernel_rfl) (by kernel_rfl) (by kernel_rfl) (fun _ _ _ h => h) (Or.inl ⟨by rfl, ?_⟩) (by first | assumption | exact HT.out _ hB) ?_
          rotate_left 1
          ·(intro w hSw; (try dsimp only at hSw); go_simp; try with_reducible rfl)
          try simp only [Act.put, sTA, sCZ, sCS]
          refine wpAnyH_taken (i := 1) (d := some 146) (v := ?_) rfl rfl (by kernel_rfl) (by kernel_rfl) (by kernel_rfl) (fun _ _ _ h => h) (Or.inl ⟨by rfl, ?_⟩) (by first | assumption | exact HT.out _ hB) ?_
          rotate_left 1
          ·(intro w hSw; (try dsimp only at hSw); go_simp; try with_reducible rfl)
          try simp only [Act.put, sTA, sCZ, sCS]
          refine wpAnyH_taken (i := 3) (d := some 148) (v := ?_) rfl rfl (by kernel_rfl) (by kernel_rfl) (by kernel_rfl) (fun _ _ _ h => h) (Or.inl ⟨by rfl, ?_⟩) (by first | assumption | exact HT.out _ hB) ?_
          rotate_left 1
          ·(intro w hSw; (try dsimp only at hSw); go_simp; try with_reducible rfl)
          try simp only [Act.put, sTA, sCZ, sCS]
          refine wpAnyH_taken (i := 4) (d := some 149) (v := ?_) rfl rfl (by kernel_rfl) (by kernel_rfl) (by kernel_rfl) (fun _ _ _ h => h) (Or.inl ⟨by rfl, ?_⟩) (by first | assumption | exact HT.out _ hB) ?_
          rotate_left 1
          ·(intro w hSw; (try dsimp only at hSw); go_simp; try with_reducible rfl)
          try simp only [Act.put, sTA, sCZ, sCS]
          refine wpAnyH_ready (rs := [2]) (by kernel_rfl) (by simp) ?_
          refine AllReadyH.cons rfl (fun K hK => ?_) AllReadyH.nil
          (try simp only [gEA]); (try simp only [gES]); (try simp only [gEZ])
          go_simp
          (go_at_call 26; refine (cmp_v _ _ (x0) (y0) (x1) (y1) 7 _ (V0.out.v) (V1.out.v) (by decide)).mono ?_; rintro e wc2 ⟨rfl, hb⟩; rw [show cmpI ((x0) * (y1)) ((x1) * (y0)) = cc from HCC.out.1])
          replace V0 := Lib.hid (V0.out.below hb)
          replace V1 := Lib.hid (V1.out.below hb)
          replace V2 := Lib.hid (V2.out.below hb)
          replace hB := Below.trans hB (hb.mono hB.size)
          refine hK.out _ _ (HT.out _ hB) (fun hHeldn => ?_)
          clear hK K hHeldn
          try simp only [Act.put, sTA, sCZ, sCS]
          clear hb
          refine wpAnyH_ready (rs := [5]) (by kernel_rfl) (by simp) ?_
          refine AllReadyH.cons rfl (fun K hK => ?_) AllReadyH.nil
          (try simp only [gEA]); (try simp only [gES]); (try simp only [gEZ])
          go_simp
          (go_at_call 26; refine (cmp_v _ _ (x1) (y1) (x0) (y0) 7 _ (V1.out.v) (V0.out.v) (by decide)).mono ?_; rintro e wc5 ⟨rfl, hb⟩; rw [show cmpI ((x1) * (y0)) ((x0) * (y1)) = c2 from HCC.out.2])
          replace V0 := Lib.hid (V0.out.below hb)
          replace V1 := Lib.hid (V1.out.below hb)
          replace V2 := Lib.hid (V2.out.below hb)
          replace hB := Below.trans hB (hb.mono hB.size)
          refine hK.out _ _ (HT.out _ hB) (fun hHeldn => ?_)
          clear hK K hHeldn
          try simp only [Act.put, sTA, sCZ, sCS]
          clear hb
          refine wpAnyH_taken (i := 6) (d := some 151) (v := ?_) rfl rfl (by kernel_rfl) (by kernel_rfl) (by kernel_rfl) (fun _ _ _ h => h) (Or.inl ⟨by rfl, ?_⟩) (by first | assumption | exact HT.out _ hB) ?_
          rotate_left 1
          ·(intro w hSw; (try dsimp only at hSw); go_simp; try with_reducible rfl)
          try simp only [Act.put, sTA, sCZ, sCS]
          refine wpAnyH_taken (i := 7) (d := some 152) (v := ?_) rfl rfl (by kernel_rfl) (by kernel_rfl) (by kernel_rfl) (fun _ _ _ h => h) (Or.inl ⟨by rfl, ?_⟩) (by first | assumption | exact HT.out _ hB) ?_
          rotate_left 1
          ·(intro w hSw; (try dsimp only at hSw); go_simp; try with_reducible rfl)
          try simp only [Act.put, sTA, sCZ, sCS]
          refine wpAnyH_taken (i := 8) (d := some 153) (v := ?_) rfl rfl (by kernel_rfl) (by kernel_rfl) (by kernel_rfl) (fun _ _ _ h => h) (Or.inl ⟨by rfl, ?_⟩) (by first | assumption | exact HT.out _ hB) ?_
          rotate_left 1
          ·(intro w hSw; (try dsimp only at hSw); go_simp; try with_reducible rfl)
          try simp only [Act.put, sTA, sCZ, sCS]
          refine wpAnyH_taken (i := 9) (d := some 154) (v := ?_) rfl rfl (by kernel_rfl) (by kernel_rfl) (by kernel_rfl) (fun _ _ _ h => h) (Or.inl ⟨by rfl, ?_⟩) (by first | assumption | exact HT.out _ hB) ?_
          rotate_left 1
          ·(intro w hSw; (try dsimp only at hSw); go_simp; try with_reducible rfl)
          try simp only [Act.put, sTA, sCZ, sCS]
          refine wpAnyH_taken (i := 10) (d := some 155) (v := ?_) rfl rfl (by kernel_rfl) (by kernel_rfl) (by kernel_rfl) (fun _ _ _ h => h) (Or.inl ⟨by rfl, ?_⟩) (by first | assumption | exact HT.out _ hB) ?_
          rotate_left 1
          ·(intro w hSw; (try dsimp only at hSw); go_simp; try with_reducible rfl)
          try simp only [Act.put, sTA, sCZ, sCS]
          refine wpAnyH_taken (i := 12) (d := some 157) (v := ?_) rfl rfl (by kernel_rfl) (by kernel_rfl) (by kernel_rfl) (fun _ _ _ h => h) (Or.inl ⟨by rfl, ?_⟩) (by first | assumption | exact HT.out _ hB) ?_
          rotate_left 1
          ·(intro w hSw; (try dsimp only at hSw); go_simp; try with_reducible rfl)
          try simp only [Act.put, sTA, sCZ, sCS]
          refine wpAnyH_taken (i := 13) (d := some 158) (v := ?_) rfl rfl (by kernel_rfl) (by kernel_rfl) (by kernel_rfl) (fun _ _ _ h => h) (Or.inl ⟨by rfl, ?_⟩) (by first | assumption | exact HT.out _ hB) ?_
          rotate_left 1
          ·(intro w hSw; (try dsimp only at hSw); go_simp; try with_reducible rfl)
          try simp only [Act.put, sTA, sCZ, sCS]
          refine wpAnyH_taken (i := 16) (d := some 161) (v := ?_) rfl rfl (by kernel_rfl) (by kernel_rfl) (by kernel_rfl) (fun _ _ _ h => h) (Or.inl ⟨by rfl, ?_⟩) (by first | assumption | exact HT.out _ hB) ?_
          rotate_left 1
          ·(intro w hSw; (try dsimp only at hSw); go_simp; try with_reducible rfl)
          try simp only [Act.put, sTA, sCZ, sCS]
          refine wpAnyH_taken (i := 17) (d := some 162) (v := ?_) rfl rfl (by kernel_rfl) (by kernel_rfl) (by kernel_rfl) (fun _ _ _ h => h) (Or.inl ⟨by rfl, ?_⟩) (by first | assumption | exact HT.out _ hB) ?_
          rotate_left 1
          ·(intro w hSw; (try dsimp only at hSw); go_simp; try with_reducible rfl)
          try simp only [Act.put, sTA, sCZ, sCS]
          refine wpAnyH_ready (rs := [11]) (by kernel_rfl) (by simp) ?_
          refine AllReadyH.cons rfl (fun K hK => ?_) AllReadyH.nil
          (try simp only [gEA]); (try simp only [gES]); (try simp only [gEZ])
          go_simp
          (go_at_call 40; refine (add_v _ _ (x0) (y0) (x2) (y2) 7 _ (V0.out.v) (V2.out.v) (by decide) (by decide)).mono ?_; rintro e wc11 ⟨⟨ga11, Aa11, na11, ca11, ea11, Ea11, ma11, da11, rfl, hz⟩, hb⟩)
          replace V0 := Lib.hid (V0.out.below hb)
          replace V1 := Lib.hid (V1.out.below hb)
          replace V2 := Lib.hid (V2.out.below hb)
          replace hB := Below.trans hB (hb.mono hB.size)
          have T1 := Lib.hid hz
          refine hK.out _ _ (HT.out _ hB) (fun hHeldn => ?_)
          clear hK K hHeldn
          try simp only [Act.put, sTA, sCZ, sCS]
          clear hb hz
          refine wpAnyH_ready (rs := [14]) (by kernel_rfl) (by simp) ?_
          refine AllReadyH.cons rfl (fun K hK => ?_) AllReadyH.nil
          (try simp only [gEA]); (try simp only [gES]); (try simp only [gEZ])
          go_simp
          (go_at_call 40; refine (add_v _ _ (x1) (y1) (x2) (y2) 7 _ (V1.out.v) (V2.out.v) (by decide) (by decide)).mono ?_; rintro e wc14 ⟨⟨ga14, Aa14, na14, ca14, ea14, Ea14, ma14, da14, rfl, hz⟩, hb⟩)
          replace V0 := Lib.hid (V0.out.below hb)
          replace V1 := Lib.hid (V1.out.below hb)
          replace V2 := Lib.hid (V2.out.below hb)
          replace T1 := Lib.hid (T1.out.below hb)
          replace hB := Below.trans hB (hb.mono hB.size)
          have T2 := Lib.hid hz
          refine hK.out _ _ (HT.out _ hB) (fun hHeldn => ?_)
          clear hK K hHeldn
          try simp only [Act.put, sTA, sCZ, sCS]
          clear hb hz
          refine wpAnyH_ready (rs := [15]) (by kernel_rfl) (by simp) ?_
          refine AllReadyH.cons rfl (fun K hK => ?_) AllReadyH.nil
          (try simp only [gEA]); (try simp only [gES]); (try simp only [gEZ])
          go_simp
          (go_at_call 26; refine (cmp_v _ _ ((x0) * (y2) + (x2) * (y0)) ((y0) * (y2)) ((x1) * (y2) + (x2) * (y1)) ((y1) * (y2)) 19 _ (T1.out) (T2.out) (by decide)).mono ?_; rintro e wc15 ⟨rfl, hb⟩; rw [show cmpI (((x0) * (y2) + (x2) * (y0)) * ((y1) * (y2))) (((x1) * (y2) + (x2) * (y1)) * ((y0) * (y2))) = cc from ((cmp_add V2.out.d0).trans HCC.out.1)])
          replace V0 := Lib.hid (V0.out.below hb)
          replace V1 := Lib.hid (V1.out.below hb)
          replace V2 := Lib.hid (V2.out.below hb)
          replace T1 := Lib.hid (T1.out.below hb)
          replace T2 := Lib.hid (T2.out.below hb)
          replace hB := Below.trans hB (hb.mono hB.size)
          clear T1
          clear T2
          refine hK.out _ _ (HT.out _ hB) (fun hHeldn => ?_)
          clear hK K hHeldn
          try simp only [Act.put, sTA, sCZ, sCS]
          clear hb
          refine wpAnyH_ready (rs := [18]) (by kernel_rfl) (by simp) ?_
          refine AllReadyH.cons rfl (fun K hK => ?_) AllReadyH.nil
          (try simp only [gEA]); (try simp only [gES]); (try simp only [gEZ])
          go_simp
          (go_at_call 26; refine (cmp_v _ _ (x0) (y0) (x1) (y1) 7 _ (V0.out.v) (V1.out.v) (by decide)).mono ?_; rintro e wc18 ⟨rfl, hb⟩; rw [show cmpI ((x0) * (y1)) ((x1) * (y0)) = cc from HCC.out.1])
          replace V0 := Lib.hid (V0.out.below hb)
          replace V1 := Lib.hid (V1.out.below hb)
          replace V2 := Lib.hid (V2.out.below hb)
          replace hB := Below.trans hB (hb.mono hB.size)
          refine hK.out _ _ (HT.out _ hB) (fun hHeldn => ?_)
          clear hK K hHeldn
          try simp only [Act.put, sTA, sCZ, sCS]
          clear hb
          refine wpAnyH_taken (i := 19) (d := some 164) (v := ?_) rfl rfl (by kernel_rfl) (by kernel_rfl) (by kernel_rfl) (fun _ _ _ h => h) (Or.inl ⟨by rfl, ?_⟩) (by first | assumption | exact HT.out _ hB) ?_
          rotate_left 1
          ·(intro w hSw; (try dsimp only at hSw); go_simp; try with_reducible rfl)
          try simp only [Act.put, sTA, sCZ, sCS]
          refine wpAnyH_taken (i := 20) (d := some 165) (v := ?_) rfl rfl (by kernel_rfl) (by kernel_rfl) (by kernel_rfl) (fun _ _ _ h => h) (Or.inl ⟨by rfl, ?_⟩) (by first | assumption | exact HT.out _ hB) ?_
          rotate_left 1
          ·(intro w hSw; (try dsimp only at hSw); go_simp; try with_reducible rfl)
          try simp only [Act.put, sTA, sCZ, sCS]
          refine wpAnyH_taken (i := 21) (d := some 166) (v := ?_) rfl rfl (by kernel_rfl) (by kernel_rfl) (by kernel_rfl) (fun _ _ _ h => h) (Or.inl ⟨by rfl, ?_⟩) (by first | assumption | exact HT.out _ hB) ?_
          rotate_left 1
          ·(intro w hSw; (try dsimp only at hSw); go_simp; try with_reducible rfl)
          try simp only [Act.put, sTA, sCZ, sCS]
          refine wpAnyH_taken (i := 22) (d := some 167) (v := ?_) rfl rfl (by kernel_rfl) (by kernel_rfl) (by kernel_rfl) (fun _ _ _ h => h) (Or.inl ⟨by rfl, ?_⟩) (by first | assumption | exact HT.out _ hB) ?_
          rotate_left 1
          ·(intro w hSw; (try dsimp only at hSw); go_simp; try with_reducible rfl)
          try simp only [Act.put, sTA, sCZ, sCS]
          refine wpAnyH_ready (rs := [23]) (by kernel_rfl) (by simp) ?_
          refine AllReadyH.cons rfl (fun K hK => ?_) AllReadyH.nil
          (try simp only [gEA]); (try simp only [gES]); (try simp only [gEZ])
          go_simp
          (go_at_call 24; refine (Sign_any _ x2 y2 7 _ V2.out).mono ?_; rintro e wc23 ⟨rfl, hb⟩)
          replace V0 := Lib.hid (V0.out.below hb)
          replace V1 := Lib.hid (V1.out.below hb)
          replace V2 := Lib.hid (V2.out.below hb)
          replace hB := Below.trans hB (hb.mono hB.size)
          refine hK.out _ _ (HT.out _ hB) (fun hHeldn => ?_)
          clear hK K hHeldn
          try simp only [Act.put, sTA, sCZ, sCS]
          clear hb
          refine wpAnyH_taken (i := 24) (d := some 169) (v := ?_) rfl rfl (by kernel_rfl) (by kernel_rfl) (by kernel_rfl) (fun _ _ _ h => h) (Or.inl ⟨by rfl, ?_⟩) (by first | assumption | exact HT.out _ hB) ?_
          rotate_left 1
          ·(intro w hSw; (try dsimp only at hSw); go_simp; try with_reducible rfl)
          try simp only [Act.put, sTA, sCZ, sCS]
          refine wpAnyH_taken (i := 25) (d := some 170) (v := ?_) rfl rfl (by kernel_rfl) (by kernel_rfl) (by kernel_rfl) (fun _ _ _ h => h) (Or.inl ⟨by rfl, ?_⟩) (by first | assumption | exact HT.out _ hB) ?_
          rotate_left 1
          ·(intro w hSw; (try dsimp only at hSw); go_simp; try with_reducible rfl)
          try simp only [Act.put, sTA, sCZ, sCS]
          refine wpAnyH_taken (i := 26) (d := some 171) (v := ?_) rfl rfl (by kernel_rfl) (by kernel_rfl) (by kernel_rfl) (fun _ _ _ h => h) (Or.inl ⟨by rfl, ?_⟩) (by first | assumption | exact HT.out _ hB) ?_
          rotate_left 1
          ·(intro w hSw; (try dsimp only at hSw); go_simp; try with_reducible rfl)
          try simp only [Act.put, sTA, sCZ, sCS]
          refine wpAnyH_taken (i := 27) (d := some 172) (v := ?_) rfl rfl (by kernel_rfl) (by kernel_rfl) (by kernel_rfl) (fun _ _ _ h => h) (Or.inl ⟨by rfl, ?_⟩) (by first | assumption | exact HT.out _ hB) ?_
          rotate_left 1
          ·(intro w hSw; (try dsimp only at hSw); go_simp; try with_reducible rfl)
          try simp only [Act.put, sTA, sCZ, sCS]
          refine wpAnyH_taken (i := 29) (d := some 174) (v := ?_) rfl rfl (by kernel_rfl) (by kernel_rfl) (by kernel_rfl) (fun _ _ _ h => h) (Or.inl ⟨by rfl, ?_⟩) (by first | assumption | exact HT.out _ hB) ?_
          rotate_left 1
          ·(intro w hSw; (try dsimp only at hSw); go_simp; try with_reducible rfl)
          try simp only [Act.put, sTA, sCZ, sCS]
          refine wpAnyH_taken (i := 30) (d := some 175) (v := ?_) rfl rfl (by kernel_rfl) (by kernel_rfl) (by kernel_rfl) (fun _ _ _ h => h) (Or.inl ⟨by rfl, ?_⟩) (by first | assumption | exact HT.out _ hB) ?_
          rotate_left 1
          ·(intro w hSw; (try dsimp only at hSw); go_simp; try with_reducible rfl)
          try simp only [Act.put, sTA, sCZ, sCS]
          refine wpAnyH_taken (i := 33) (d := some 178) (v := ?_) rfl rfl (by kernel_rfl) (by kernel_rfl) (by kernel_rfl) (fun _ _ _ h => h) (Or.inl ⟨by rfl, ?_⟩) (by first | assumption | exact HT.out _ hB) ?_
          rotate_left 1
          ·(intro w hSw; (try dsimp only at hSw); go_simp; try with_reducible rfl)
          try simp only [Act.put, sTA, sCZ, sCS]
          refine wpAnyH_taken (i := 34) (d := some 179) (v := ?_) rfl rfl (by kernel_rfl) (by kernel_rfl) (by kernel_rfl) (fun _ _ _ h => h) (Or.inl ⟨by rfl, ?_⟩) (by first | assumption | exact HT.out _ hB) ?_
          rotate_left 1
          ·(intro w hSw; (try dsimp only at hSw); go_simp; try with_reducible rfl)
          try simp only [Act.put, sTA, sCZ, sCS]
          refine wpAnyH_ready (rs := [28]) (by kernel_rfl) (by simp) ?_
          refine AllReadyH.cons rfl (fun K hK => ?_) AllReadyH.nil
          (try simp only [gEA]); (try simp only [gES]); (try simp only [gEZ])
          go_simp
          (go_at_call 44; refine (mul_v _ _ (x0) (y0) (x2) (y2) 7 _ (V0.out.v) (V2.out.v) (by decide) (by decide)).mono ?_; rintro e wc28 ⟨⟨ga28, Aa28, na28, ca28, ea28, Ea28, ma28, da28, rfl, hz⟩, hb⟩)
          replace V0 := Lib.hid (V0.out.below hb)
          replace V1 := Lib.hid (V1.out.below hb)
          replace V2 := Lib.hid (V2.out.below hb)
          replace hB := Below.trans hB (hb.mono hB.size)
          have T1 := Lib.hid hz
          refine hK.out _ _ (HT.out _ hB) (fun hHeldn => ?_)
          clear hK K hHeldn
          try simp only [Act.put, sTA, sCZ, sCS]
          clear hb hz
          refine wpAnyH_ready (rs := [31]) (by kernel_rfl) (by simp) ?_
          refine AllReadyH.cons rfl (fun K hK => ?_) AllReadyH.nil
          (try simp only [gEA]); (try simp only [gES]); (try simp only [gEZ])
          go_simp
          (go_at_call 44; refine (mul_v _ _ (x1) (y1) (x2) (y2) 7 _ (V1.out.v) (V2.out.v) (by decide) (by decide)).mono ?_; rintro e wc31 ⟨⟨ga31, Aa31, na31, ca31, ea31, Ea31, ma31, da31, rfl, hz⟩, hb⟩)
          replace V0 := Lib.hid (V0.out.below hb)
          replace V1 := Lib.hid (V1.out.below hb)
          replace V2 := Lib.hid (V2.out.below hb)
          replace T1 := Lib.hid (T1.out.below hb)
          replace hB := Below.trans hB (hb.mono hB.size)
          have T2 := Lib.hid hz
          refine hK.out _ _ (HT.out _ hB) (fun hHeldn => ?_)
          clear hK K hHeldn
          try simp only [Act.put, sTA, sCZ, sCS]
          clear hb hz
          refine wpAnyH_ready (rs := [32]) (by kernel_rfl) (by simp) ?_
          refine AllReadyH.cons rfl (fun K hK => ?_) AllReadyH.nil
          (try simp only [gEA]); (try simp only [gES]); (try simp only [gEZ])
          go_simp
          (go_at_call 26; refine (cmp_v _ _ ((x0) * (x2)) ((y0) * (y2)) ((x1) * (x2)) ((y1) * (y2)) 19 _ (T1.out) (T2.out) (by decide)).mono ?_; rintro e wc32 ⟨rfl, hb⟩; rw [show cmpI (((x0) * (x2)) * ((y1) * (y2))) (((x1) * (x2)) * ((y0) * (y2))) = cc from ((cmp_mul HZ.out V2.out.d0).trans HCC.out.1)])
          replace V0 := Lib.hid (V0.out.below hb)
          replace V1 := Lib.hid (V1.out.below hb)
          replace V2 := Lib.hid (V2.out.below hb)
          replace T1 := Lib.hid (T1.out.below hb)
          replace T2 := Lib.hid (T2.out.below hb)
          replace hB := Below.trans hB (hb.mono hB.size)
          clear T1
          clear T2
          refine hK.out _ _ (HT.out _ hB) (fun hHeldn => ?_)
          clear hK K hHeldn
          try simp only [Act.put, sTA, sCZ, sCS]
          clear hb
          refine wpAnyH_ready (rs := [35]) (by kernel_rfl) (by simp) ?_
          refine AllReadyH.cons rfl (fun K hK => ?_) AllReadyH.nil
          (try simp only [gEA]); (try simp only [gES]); (try simp only [gEZ])
          go_simp
          (go_at_call 26; refine (cmp_v _ _ (x0) (y0) (x1) (y1) 7 _ (V0.out.v) (V1.out.v) (by decide)).mono ?_; rintro e wc35 ⟨rfl, hb⟩; rw [show cmpI ((x0) * (y1)) ((x1) * (y0)) = cc from HCC.out.1])
          replace V0 := Lib.hid (V0.out.below hb)
          replace V1 := Lib.hid (V1.out.below hb)
          replace V2 := Lib.hid (V2.out.below hb)
          replace hB := Below.trans hB (hb.mono hB.size)
          refine hK.out _ _ (HT.out _ hB) (fun hHeldn => ?_)
          clear hK K hHeldn
          try simp only [Act.put, sTA, sCZ, sCS]
          clear hb
          refine wpAnyH_taken (i := 36) (d := some 181) (v := ?_) rfl rfl (by kernel_rfl) (by kernel_rfl) (by kernel_rfl) (fun _ _ _ h => h) (Or.inl ⟨by rfl, ?_⟩) (by first | assumption | exact HT.out _ hB) ?_
          rotate_left 1
          ·(intro w hSw; (try dsimp only at hSw); go_simp; try with_reducible rfl)
          try simp only [Act.put, sTA, sCZ, sCS]
          refine wpAnyH_taken (i := 37) (d := some 182) (v := ?_) rfl rfl (by kernel_rfl) (by kernel_rfl) (by kernel_rfl) (fun _ _ _ h => h) (Or.inl ⟨by rfl, ?_⟩) (by first | assumption | exact HT.out _ hB) ?_
          rotate_left 1
          ·(intro w hSw; (try dsimp only at hSw); go_simp; try with_reducible rfl)
          try simp only [Act.put, sTA, sCZ, sCS]
          refine wpAnyH_taken (i := 38) (d := some 183) (v := ?_) rfl rfl (by kernel_rfl) (by kernel_rfl) (by kernel_rfl) (fun _ _ _ h => h) (Or.inl ⟨by rfl, ?_⟩) (by first | assumption | exact HT.out _ hB) ?_
          rotate_left 1
          ·(intro w hSw; (try dsimp only at hSw); go_simp; try with_reducible rfl)
          try simp only [Act.put, sTA, sCZ, sCS]
          refine wpAnyH_done (by kernel_rfl) ?_ _
          clear HT
          replace F10 := Lib.hid (F10.out.below hB)
          replace F11 := Lib.hid (F11.out.below hB)
          replace F12 := Lib.hid (F12.out.below hB)
          replace hm := Lib.hid ((hB.cell (p := ⟨0, 0, none⟩) (World.block_lt_of_cell? _ _ hm.out)).trans hm.out)
          replace hw := Lib.hid (hw.out.trans (hB.mono hw.out.size))
          clear hB
          go_wp2_with fail
          go_meet
          exact ⟨rfl, ⟨_, _, _, _, _, _, _, _, _, _, _, _, _, _, _, _, _, _, _, _, _, _, _, _, _, _, _, rfl, rfl, rfl, rfl, F10.out, F11.out, F12.out, V0.out, V1.out, V2.out, hm.out, hw.out⟩⟩
        ·as_aux_lemma =>
          have hsg : ¬ 0 < cmpI x2 0 := cmp_le (Int.not_lt.1 hz)
          clear hz
          have HT := Lib.hid (fun (w' : World) (hb : Below wq.heap.size wq w') => (show w'.cell? ⟨j10, 0, none⟩ = some (.bool g0) ∧ w'.cell? ⟨j10, 1, none⟩ = some (.slice K0 l0 f0) ∧ w'.cell? ⟨j10, 2, none⟩ = some (.bool s0) ∧ w'.cell? ⟨j10, 3, none⟩ = some (.slice E0 r0 t0) ∧ w'.cell? ⟨j11, 0, none⟩ = some (.bool g1) ∧ w'.cell? ⟨j11, 1, none⟩ = some (.slice K1 l1 f1) ∧ w'.cell? ⟨j11, 2, none⟩ = some (.bool s1) ∧ w'.cell? ⟨j11, 3, none⟩ = some (.slice E1 r1 t1) ∧ w'.cell? ⟨j12, 0, none⟩ = some (.bool g2) ∧ w'.cell? ⟨j12, 1, none⟩ = some (.slice K2 l2 f2) ∧ w'.cell? ⟨j12, 2, none⟩ = some (.bool s2) ∧ w'.cell? ⟨j12, 3, none⟩ = some (.slice E2 r2 t2) from ⟨(F10.out.below hb).c0, (F10.out.below hb).c1, (F10.out.below hb).c2, (F10.out.below hb).c3, (F11.out.below hb).c0, (F11.out.below hb).c1, (F11.out.below hb).c2, (F11.out.below hb).c3, (F12.out.below hb).c0, (F12.out.below hb).c1, (F12.out.below hb).c2, (F12.out.below hb).c3⟩))
          have hB := (Below.refl wq.heap.size wq).drew
          replace V0 := Lib.hid (V0.out.below hB)
          replace V1 := Lib.hid (V1.out.below hB)
          replace V2 := Lib.hid (V2.out.below hB)
          refine wp_region_held_drew (S := fun w' => w'.cell? ⟨j10, 0, none⟩ = some (.bool g0) ∧ w'.cell? ⟨j10, 1, none⟩ = some (.slice K0 l0 f0) ∧ w'.cell? ⟨j10, 2, none⟩ = some (.bool s0) ∧ w'.cell? ⟨j10, 3, none⟩ = some (.slice E0 r0 t0) ∧ w'.cell? ⟨j11, 0, none⟩ = some (.bool g1) ∧ w'.cell? ⟨j11, 1, none⟩ = some (.slice K1 l1 f1) ∧ w'.cell? ⟨j11, 2, none⟩ = some (.bool s1) ∧ w'.cell? ⟨j11, 3, none⟩ = some (.slice E1 r1 t1) ∧ w'.cell? ⟨j12, 0, none⟩ = some (.bool g2) ∧ w'.cell? ⟨j12, 1, none⟩ = some (.slice K2 l2 f2) ∧ w'.cell? ⟨j12, 2, none⟩ = some (.bool s2) ∧ w'.cell? ⟨j12, 3, none⟩ = some (.slice E2 r2 t2)) (by kernel_rfl) (HT.out _ hB) (fun hHeldn => ?_)
          clear hHeldn
          generalize wq.drew = wr0 at *
          refine wpAnyH_taken (i := 0) (d := some 145) (v := ?_) rfl rfl (by kernel_rfl) (by kernel_rfl) (by kernel_rfl) (fun _ _ _ h => h) (Or.inl ⟨by rfl, ?_⟩) (by first | assumption | exact HT.out _ hB) ?_
          rotate_left 1
          ·(intro w hSw; (try dsimp only at hSw); go_simp; try with_reducible rfl)
          try simp only [Act.put, sTA, sCZ, sCS]
          refine wpAnyH_taken (i := 1) (d := some 146) (v := ?_) rfl rfl (by kernel_rfl) (by kernel_rfl) (by kernel_rfl) (fun _ _ _ h => h) (Or.inl ⟨by rfl, ?_⟩) (by first | assumption | exact HT.out _ hB) ?_
          rotate_left 1
          ·(intro w hSw; (try dsimp only at hSw); go_simp; try with_reducible rfl)
          try simp only [Act.put, sTA, sCZ, sCS]
          refine wpAnyH_taken (i := 3) (d := some 148) (v := ?_) rfl rfl (by kernel_rfl) (by kernel_rfl) (by kernel_rfl) (fun _ _ _ h => h) (Or.inl ⟨by rfl, ?_⟩) (by first | assumption | exact HT.out _ hB) ?_
          rotate_left 1
          ·(intro w hSw; (try dsimp only at hSw); go_simp; try with_reducible rfl)
          try simp only [Act.put, sTA, sCZ, sCS]
          refine wpAnyH_taken (i := 4) (d := some 149) (v := ?_) rfl rfl (by kernel_rfl) (by kernel_rfl) (by kernel_rfl) (fun _ _ _ h => h) (Or.inl ⟨by rfl, ?_⟩) (by first | assumption | exact HT.out _ hB) ?_
          rotate_left 1
          ·(intro w hSw; (try dsimp only at hSw); go_simp; try with_reducible rfl)
          try simp only [Act.put, sTA, sCZ, sCS]
          refine wpAnyH_ready (rs := [2]) (by kernel_rfl) (by simp) ?_
          refine AllReadyH.cons rfl (fun K hK => ?_) AllReadyH.nil
          (try simp only [gEA]); (try simp only [gES]); (try simp only [gEZ])
          go_simp
          (go_at_call 26; refine (cmp_v _ _ (x0) (y0) (x1) (y1) 7 _ (V0.out.v) (V1.out.v) (by decide)).mono ?_; rintro e wc2 ⟨rfl, hb⟩; rw [show cmpI ((x0) * (y1)) ((x1) * (y0)) = cc from HCC.out.1])
          replace V0 := Lib.hid (V0.out.below hb)
          replace V1 := Lib.hid (V1.out.below hb)
          replace V2 := Lib.hid (V2.out.below hb)
          replace hB := Below.trans hB (hb.mono hB.size)
          refine hK.out _ _ (HT.out _ hB) (fun hHeldn => ?_)
          clear hK K hHeldn
          try simp only [Act.put, sTA, sCZ, sCS]
          clear hb
          refine wpAnyH_ready (rs := [5]) (by kernel_rfl) (by simp) ?_
          refine AllReadyH.cons rfl (fun K hK => ?_) AllReadyH.nil
          (try simp only [gEA]); (try simp only [gES]); (try simp only [gEZ])
          go_simp
          (go_at_call 26; refine (cmp_v _ _ (x1) (y1) (x0) (y0) 7 _ (V1.out.v) (V0.out.v) (by decide)).mono ?_; rintro e wc5 ⟨rfl, hb⟩; rw [show cmpI ((x1) * (y0)) ((x0) * (y1)) = c2 from HCC.out.2])
          replace V0 := Lib.hid (V0.out.below hb)
          replace V1 := Lib.hid (V1.out.below hb)
          replace V2 := Lib.hid (V2.out.below hb)
          replace hB := Below.trans hB (hb.mono hB.size)
          refine hK.out _ _ (HT.out _ hB) (fun hHeldn => ?_)
          clear hK K hHeldn
          try simp only [Act.put, sTA, sCZ, sCS]
          clear hb
          refine wpAnyH_taken (i := 6) (d := some 151) (v := ?_) rfl rfl (by kernel_rfl) (by kernel_rfl) (by kernel_rfl) (fun _ _ _ h => h) (Or.inl ⟨by rfl, ?_⟩) (by first | assumption | exact HT.out _ hB) ?_
          rotate_left 1
          ·(intro w hSw; (try dsimp only at hSw); go_simp; try with_reducible rfl)
          try simp only [Act.put, sTA, sCZ, sCS]
          refine wpAnyH_taken (i := 7) (d := some 152) (v := ?_) rfl rfl (by kernel_rfl) (by kernel_rfl) (by kernel_rfl) (fun _ _ _ h => h) (Or.inl ⟨by rfl, ?_⟩) (by first | assumption | exact HT.out _ hB) ?_
          rotate_left 1
          ·(intro w hSw; (try dsimp only at hSw); go_simp; try with_reducible rfl)
          try simp only [Act.put, sTA, sCZ, sCS]
          refine wpAnyH_taken (i := 8) (d := some 153) (v := ?_) rfl rfl (by kernel_rfl) (by kernel_rfl) (by kernel_rfl) (fun _ _ _ h => h) (Or.inl ⟨by rfl, ?_⟩) (by first | assumption | exact HT.out _ hB) ?_
          rotate_left 1
          ·(intro w hSw; (try dsimp only at hSw); go_simp; try with_reducible rfl)
          try simp only [Act.put, sTA, sCZ, sCS]
          refine wpAnyH_taken (i := 9) (d := some 154) (v := ?_) rfl rfl (by kernel_rfl) (by kernel_rfl) (by kernel_rfl) (fun _ _ _ h => h) (Or.inl ⟨by rfl, ?_⟩) (by first | assumption | exact HT.out _ hB) ?_
          rotate_left 1
          ·(intro w hSw; (try dsimp only at hSw); go_simp; try with_reducible rfl)
          try simp only [Act.put, sTA, sCZ, sCS]
          refine wpAnyH_taken (i := 10) (d := some 155) (v := ?_) rfl rfl (by kernel_rfl) (by kernel_rfl) (by kernel_rfl) (fun _ _ _ h => h) (Or.inl ⟨by rfl, ?_⟩) (by first | assumption | exact HT.out _ hB) ?_
          rotate_left 1
          ·(intro w hSw; (try dsimp only at hSw); go_simp; try with_reducible rfl)
          try simp only [Act.put, sTA, sCZ, sCS]
          refine wpAnyH_taken (i := 12) (d := some 157) (v := ?_) rfl rfl (by kernel_rfl) (by kernel_rfl) (by kernel_rfl) (fun _ _ _ h => h) (Or.inl ⟨by rfl, ?_⟩) (by first | assumption | exact HT.out _ hB) ?_
          rotate_left 1
          ·(intro w hSw; (try dsimp only at hSw); go_simp; try with_reducible rfl)
          try simp only [Act.put, sTA, sCZ, sCS]
          refine wpAnyH_taken (i := 13) (d := some 158) (v := ?_) rfl rfl (by kernel_rfl) (by kernel_rfl) (by kernel_rfl) (fun _ _ _ h => h) (Or.inl ⟨by rfl, ?_⟩) (by first | assumption | exact HT.out _ hB) ?_
          rotate_left 1
          ·(intro w hSw; (try dsimp only at hSw); go_simp; try with_reducible rfl)
          try simp only [Act.put, sTA, sCZ, sCS]
          refine wpAnyH_taken (i := 16) (d := some 161) (v := ?_) rfl rfl (by kernel_rfl) (by kernel_rfl) (by kernel_rfl) (fun _ _ _ h => h) (Or.inl ⟨by rfl, ?_⟩) (by first | assumption | exact HT.out _ hB) ?_
          rotate_left 1
          ·(intro w hSw; (try dsimp only at hSw); go_simp; try with_reducible rfl)
          try simp only [Act.put, sTA, sCZ, sCS]
          refine wpAnyH_taken (i := 17) (d := some 162) (v := ?_) rfl rfl (by kernel_rfl) (by kernel_rfl) (by kernel_rfl) (fun _ _ _ h => h) (Or.inl ⟨by rfl, ?_⟩) (by first | assumption | exact HT.out _ hB) ?_
          rotate_left 1
          ·(intro w hSw; (try dsimp only at hSw); go_simp; try with_reducible rfl)
          try simp only [Act.put, sTA, sCZ, sCS]
          refine wpAnyH_ready (rs := [11]) (by kernel_rfl) (by simp) ?_
          refine AllReadyH.cons rfl (fun K hK => ?_) AllReadyH.nil
          (try simp only [gEA]); (try simp only [gES]); (try simp only [gEZ])
          go_simp
          (go_at_call 40; refine (add_v _ _ (x0) (y0) (x2) (y2) 7 _ (V0.out.v) (V2.out.v) (by decide) (by decide)).mono ?_; rintro e wc11 ⟨⟨ga11, Aa11, na11, ca11, ea11, Ea11, ma11, da11, rfl, hz⟩, hb⟩)
          replace V0 := Lib.hid (V0.out.below hb)
          replace V1 := Lib.hid (V1.out.below hb)
          replace V2 := Lib.hid (V2.out.below hb)
          replace hB := Below.trans hB (hb.mono hB.size)
          have T1 := Lib.hid hz
          refine hK.out _ _ (HT.out _ hB) (fun hHeldn => ?_)
          clear hK K hHeldn
          try simp only [Act.put, sTA, sCZ, sCS]
          clear hb hz
          refine wpAnyH_ready (rs := [14]) (by kernel_rfl) (by simp) ?_
          refine AllReadyH.cons rfl (fun K hK => ?_) AllReadyH.nil
          (try simp only [gEA]); (try simp only [gES]); (try simp only [gEZ])
          go_simp
          (go_at_call 40; refine (add_v _ _ (x1) (y1) (x2) (y2) 7 _ (V1.out.v) (V2.out.v) (by decide) (by decide)).mono ?_; rintro e wc14 ⟨⟨ga14, Aa14, na14, ca14, ea14, Ea14, ma14, da14, rfl, hz⟩, hb⟩)
          replace V0 := Lib.hid (V0.out.below hb)
          replace V1 := Lib.hid (V1.out.below hb)
          replace V2 := Lib.hid (V2.out.below hb)
          replace T1 := Lib.hid (T1.out.below hb)
          replace hB := Below.trans hB (hb.mono hB.size)
          have T2 := Lib.hid hz
          refine hK.out _ _ (HT.out _ hB) (fun hHeldn => ?_)
          clear hK K hHeldn
          try simp only [Act.put, sTA, sCZ, sCS]
          clear hb hz
          refine wpAnyH_ready (rs := [15]) (by kernel_rfl) (by simp) ?_
          refine AllReadyH.cons rfl (fun K hK => ?_) AllReadyH.nil
          (try simp only [gEA]); (try simp only [gES]); (try simp only [gEZ])
          go_simp
          (go_at_call 26; refine (cmp_v _ _ ((x0) * (y2) + (x2) * (y0)) ((y0) * (y2)) ((x1) * (y2) + (x2) * (y1)) ((y1) * (y2)) 19 _ (T1.out) (T2.out) (by decide)).mono ?_; rintro e wc15 ⟨rfl, hb⟩; rw [show cmpI (((x0) * (y2) + (x2) * (y0)) * ((y1) * (y2))) (((x1) * (y2) + (x2) * (y1)) * ((y0) * (y2))) = cc from ((cmp_add V2.out.d0).trans HCC.out.1)])
          replace V0 := Lib.hid (V0.out.below hb)
          replace V1 := Lib.hid (V1.out.below hb)
          replace V2 := Lib.hid (V2.out.below hb)
          replace T1 := Lib.hid (T1.out.below hb)
          replace T2 := Lib.hid (T2.out.below hb)
          replace hB := Below.trans hB (hb.mono hB.size)
          clear T1
          clear T2
          refine hK.out _ _ (HT.out _ hB) (fun hHeldn => ?_)
          clear hK K hHeldn
          try simp only [Act.put, sTA, sCZ, sCS]
          clear hb
          refine wpAnyH_ready (rs := [18]) (by kernel_rfl) (by simp) ?_
          refine AllReadyH.cons rfl (fun K hK => ?_) AllReadyH.nil
          (try simp only [gEA]); (try simp only [gES]); (try simp only [gEZ])
          go_simp
          (go_at_call 26; refine (cmp_v _ _ (x0) (y0) (x1) (y1) 7 _ (V0.out.v) (V1.out.v) (by decide)).mono ?_; rintro e wc18 ⟨rfl, hb⟩; rw [show cmpI ((x0) * (y1)) ((x1) * (y0)) = cc from HCC.out.1])
          replace V0 := Lib.hid (V0.out.below hb)
          replace V1 := Lib.hid (V1.out.below hb)
          replace V2 := Lib.hid (V2.out.below hb)
          replace hB := Below.trans hB (hb.mono hB.size)
          refine hK.out _ _ (HT.out _ hB) (fun hHeldn => ?_)
          clear hK K hHeldn
          try simp only [Act.put, sTA, sCZ, sCS]
          clear hb
          refine wpAnyH_taken (i := 19) (d := some 164) (v := ?_) rfl rfl (by kernel_rfl) (by kernel_rfl) (by kernel_rfl) (fun _ _ _ h => h) (Or.inl ⟨by rfl, ?_⟩) (by first | assumption | exact HT.out _ hB) ?_
          rotate_left 1
          ·(intro w hSw; (try dsimp only at hSw); go_simp; try with_reducible rfl)
          try simp only [Act.put, sTA, sCZ, sCS]
          refine wpAnyH_taken (i := 20) (d := some 165) (v := ?_) rfl rfl (by kernel_rfl) (by kernel_rfl) (by kernel_rfl) (fun _ _ _ h => h) (Or.inl ⟨by rfl, ?_⟩) (by first | assumption | exact HT.out _ hB) ?_
          rotate_left 1
          ·(intro w hSw; (try dsimp only at hSw); go_simp; try with_reducible rfl)
          try simp only [Act.put, sTA, sCZ, sCS]
          refine wpAnyH_taken (i := 21) (d := some 166) (v := ?_) rfl rfl (by kernel_rfl) (by kernel_rfl) (by kernel_rfl) (fun _ _ _ h => h) (Or.inl ⟨by rfl, ?_⟩) (by first | assumption | exact HT.out _ hB) ?_
          rotate_left 1
          ·(intro w hSw; (try dsimp only at hSw); go_simp; try with_reducible rfl)
          try simp only [Act.put, sTA, sCZ, sCS]
          refine wpAnyH_taken (i := 22) (d := some 167) (v := ?_) rfl rfl (by kernel_rfl) (by kernel_rfl) (by kernel_rfl) (fun _ _ _ h => h) (Or.inl ⟨by rfl, ?_⟩) (by first | assumption | exact HT.out _ hB) ?_
          rotate_left 1
          ·(intro w hSw; (try dsimp only at hSw); go_simp; try with_reducible rfl)
          try simp only [Act.put, sTA, sCZ, sCS]
          refine wpAnyH_ready (rs := [23]) (by kernel_rfl) (by simp) ?_
          refine AllReadyH.cons rfl (fun K hK => ?_) AllReadyH.nil
          (try simp only [gEA]); (try simp only [gES]); (try simp only [gEZ])
          go_simp
          (go_at_call 24; refine (Sign_any _ x2 y2 7 _ V2.out).mono ?_; rintro e wc23 ⟨rfl, hb⟩)
          replace V0 := Lib.hid (V0.out.below hb)
          replace V1 := Lib.hid (V1.out.below hb)
          replace V2 := Lib.hid (V2.out.below hb)
          replace hB := Below.trans hB (hb.mono hB.size)
          refine hK.out _ _ (HT.out _ hB) (fun hHeldn => ?_)
          clear hK K hHeldn
          try simp only [Act.put, sTA, sCZ, sCS]
          clear hb
          refine wpAnyH_taken (i := 24) (d := some 169) (v := ?_) rfl rfl (by kernel_rfl) (by kernel_rfl) (by kernel_rfl) (fun _ _ _ h => h) (Or.inl ⟨by rfl, ?_⟩) (by first | assumption | exact HT.out _ hB) ?_
          rotate_left 1
          ·(intro w hSw; (try dsimp only at hSw); go_simp; try with_reducible rfl)
          try simp only [Act.put, sTA, sCZ, sCS]
          refine wpAnyH_taken (i := 25) (d := some 170) (v := ?_) rfl rfl (by kernel_rfl) (by kernel_rfl) (by kernel_rfl) (fun _ _ _ h => h) (Or.inl ⟨by rfl, ?_⟩) (by first | assumption | exact HT.out _ hB) ?_
          rotate_left 1
          ·(intro w hSw; (try dsimp only at hSw); go_simp; try with_reducible rfl)
          try simp only [Act.put, sTA, sCZ, sCS]
          refine wpAnyH_taken (i := 26) (d := some 171) (v := undef) rfl rfl (by kernel_rfl) (by kernel_rfl) (by kernel_rfl) (fun _ _ _ h => h) (Or.inr ⟨by rfl, rfl⟩) (by first | assumption | exact HT.out _ hB) ?_
          try simp only [Act.put, sTA, sCZ, sCS]
          refine wpAnyH_taken (i := 27) (d := some 172) (v := undef) rfl rfl (by kernel_rfl) (by kernel_rfl) (by kernel_rfl) (fun _ _ _ h => h) (Or.inr ⟨by rfl, rfl⟩) (by first | assumption | exact HT.out _ hB) ?_
          try simp only [Act.put, sTA, sCZ, sCS]
          refine wpAnyH_taken (i := 29) (d := some 174) (v := undef) rfl rfl (by kernel_rfl) (by kernel_rfl) (by kernel_rfl) (fun _ _ _ h => h) (Or.inr ⟨by rfl, rfl⟩) (by first | assumption | exact HT.out _ hB) ?_
          try simp only [Act.put, sTA, sCZ, sCS]
          refine wpAnyH_taken (i := 30) (d := some 175) (v := undef) rfl rfl (by kernel_rfl) (by kernel_rfl) (by kernel_rfl) (fun _ _ _ h => h) (Or.inr ⟨by rfl, rfl⟩) (by first | assumption | exact HT.out _ hB) ?_
          try simp only [Act.put, sTA, sCZ, sCS]
          refine wpAnyH_taken (i := 33) (d := some 178) (v := undef) rfl rfl (by kernel_rfl) (by kernel_rfl) (by kernel_rfl) (fun _ _ _ h => h) (Or.inr ⟨by rfl, rfl⟩) (by first | assumption | exact HT.out _ hB) ?_
          try simp only [Act.put, sTA, sCZ, sCS]
          refine wpAnyH_taken (i := 34) (d := some 179) (v := undef) rfl rfl (by kernel_rfl) (by kernel_rfl) (by kernel_rfl) (fun _ _ _ h => h) (Or.inr ⟨by rfl, rfl⟩) (by first | assumption | exact HT.out _ hB) ?_
          try simp only [Act.put, sTA, sCZ, sCS]
          refine wpAnyH_taken (i := 28) (d := some 173) (v := undef) rfl rfl (by kernel_rfl) (by kernel_rfl) (by kernel_rfl) (fun _ _ _ h => h) (Or.inr ⟨by rfl, rfl⟩) (by first | assumption | exact HT.out _ hB) ?_
          try simp only [Act.put, sTA, sCZ, sCS]
          refine wpAnyH_taken (i := 31) (d := some 176) (v := undef) rfl rfl (by kernel_rfl) (by kernel_rfl) (by kernel_rfl) (fun _ _ _ h => h) (Or.inr ⟨by rfl, rfl⟩) (by first | assumption | exact HT.out _ hB) ?_
          try simp only [Act.put, sTA, sCZ, sCS]
          refine wpAnyH_taken (i := 32) (d := some 177) (v := undef) rfl rfl (by kernel_rfl) (by kernel_rfl) (by kernel_rfl) (fun _ _ _ h => h) (Or.inr ⟨by rfl, rfl⟩) (by first | assumption | exact HT.out _ hB) ?_
          try simp only [Act.put, sTA, sCZ, sCS]
          refine wpAnyH_taken (i := 35) (d := some 180) (v := undef) rfl rfl (by kernel_rfl) (by kernel_rfl) (by kernel_rfl) (fun _ _ _ h => h) (Or.inr ⟨by rfl, rfl⟩) (by first | assumption | exact HT.out _ hB) ?_
          try simp only [Act.put, sTA, sCZ, sCS]
          refine wpAnyH_taken (i := 36) (d := some 181) (v := undef) rfl rfl (by kernel_rfl) (by kernel_rfl) (by kernel_rfl) (fun _ _ _ h => h) (Or.inr ⟨by rfl, rfl⟩) (by first | assumption | exact HT.out _ hB) ?_
          try simp only [Act.put, sTA, sCZ, sCS]
          refine wpAnyH_taken (i := 37) (d := some 182) (v := ?_) rfl rfl (by kernel_rfl) (by kernel_rfl) (by kernel_rfl) (fun _ _ _ h => h) (Or.inl ⟨by rfl, ?_⟩) (by first | assumption | exact HT.out _ hB) ?_
          rotate_left 1
          ·(intro w hSw; (try dsimp only at hSw); go_simp; try with_reducible rfl)
          try simp only [Act.put, sTA, sCZ, sCS]
          refine wpAnyH_taken (i := 38) (d := some 183) (v := ?_) rfl rfl (by kernel_rfl) (by kernel_rfl) (by kernel_rfl) (fun _ _ _ h => h) (Or.inl ⟨by rfl, ?_⟩) (by first | assumption | exact HT.out _ hB) ?_
          rotate_left 1
          ·(intro w hSw; (try dsimp only at hSw); go_simp; try with_reducible rfl)
          try simp only [Act.put, sTA, sCZ, sCS]
          refine wpAnyH_done (by kernel_rfl) ?_ _
          clear HT
          replace F10 := Lib.hid (F10.out.below hB)
          replace F11 := Lib.hid (F11.out.below hB)
          replace F12 := Lib.hid (F12.out.below hB)
          replace hm := Lib.hid ((hB.cell (p := ⟨0, 0, none⟩) (World.block_lt_of_cell? _ _ hm.out)).trans hm.out)
          replace hw := Lib.hid (hw.out.trans (hB.mono hw.out.size))
          clear hB
          go_wp2_with fail
          go_meet
          exact ⟨rfl, ⟨_, _, _, _, _, _, _, _, _, _, _, _, _, _, _, _, _, _, _, _, _, _, _, _, _, _, _, rfl, rfl, rfl, rfl, F10.out, F11.out, F12.out, V0.out, V1.out, V2.out, hm.out, hw.out⟩⟩
      case rest =>
       clear F10 F11 F12 V0 V1 V2 hm hw
       obtain ⟨rfl, j10, j11, j12, g0, K0, l0, f0, s0, E0, r0, t0, g1, K1, l1, f1, s1, E1, r1, t1, g2, K2, l2, f2, s2, E2, r2, t2, rfl, rfl, rfl, rfl, F10, F11, F12, V0, V1, V2, hm, hw⟩ := hcut
       replace F10 := Lib.hid F10
       replace F11 := Lib.hid F11
       replace F12 := Lib.hid F12
       replace V0 := Lib.hid V0
       replace V1 := Lib.hid V1
       replace V2 := Lib.hid V2
       replace hm := Lib.hid hm
       replace hw := Lib.hid hw
       obtain ⟨wt, rfl⟩ : ∃ wt, wt = wc := ⟨wc, rfl⟩
       go_upto_region 13 with fail
       obtain ⟨R, hR⟩ : ∃ R, wrap64 (2 + (wrap64 k).tmod 35) = R := ⟨_, rfl⟩
       have HR := Lib.hid (show 2 ≤ R ∧ R ≤ 36 by rw [← hR]; exact radix_bounds HK.out)
       rw [hR]
       clear hR
       obtain ⟨b0, b1, b2, b3, -, -, -, -, -⟩ := F10.out
       go_wp2_with fail
       refine (Text_q _ x0 y0 R 7 _ V0.out (by decide) (by decide)).mono ?_
       rintro e wu ⟨⟨S, rS, rfl, hS⟩, hb1⟩
       clear b0 b1 b2 b3
       obtain rfl := hS.err HR.out.1 HR.out.2
       have HS := Lib.hid hS
       clear hS
       replace F10 := Lib.hid (F10.out.below hb1)
       replace F11 := Lib.hid (F11.out.below hb1)
       replace F12 := Lib.hid (F12.out.below hb1)
       replace V0 := Lib.hid (V0.out.below hb1)
       replace V1 := Lib.hid (V1.out.below hb1)
       replace V2 := Lib.hid (V2.out.below hb1)
       replace hm := Lib.hid (((hb1).cell (p := ⟨0, 0, none⟩) (World.block_lt_of_cell? _ _ hm.out)).trans hm.out)
       replace hw := Lib.hid (hw.out.trans (hb1.mono hw.out.size))
       clear hb1
       obtain ⟨b0, b1, b2, b3, -, -, -, -, -⟩ := F11.out
       go_wp2_with fail
       refine (Text_q _ x1 y1 R 7 _ V1.out (by decide) (by decide)).mono ?_
       rintro e wv ⟨⟨T, rT, rfl, hT⟩, hb1⟩
       clear b0 b1 b2 b3
       obtain rfl := hT.err HR.out.1 HR.out.2
       have HT := Lib.hid hT
       clear hT
       replace F10 := Lib.hid (F10.out.below hb1)
       replace F11 := Lib.hid (F11.out.below hb1)
       replace F12 := Lib.hid (F12.out.below hb1)
       replace V0 := Lib.hid (V0.out.below hb1)
       replace V1 := Lib.hid (V1.out.below hb1)
       replace V2 := Lib.hid (V2.out.below hb1)
       replace hm := Lib.hid (((hb1).cell (p := ⟨0, 0, none⟩) (World.block_lt_of_cell? _ _ hm.out)).trans hm.out)
       replace hw := Lib.hid (hw.out.trans (hb1.mono hw.out.size))
       clear hb1
       have hsz := qtext_size HS.out (V0.out.bound (by decide)).1 (V0.out.bound (by decide)).2 (by decide)
       have HSZ := Lib.hid (show S.size ≤ 20000 by omega)
       clear hsz
       go_wp2_with fail
       refine (Parse_q S R M _ hm.out (by have := HSZ.out; omega)).mono ?_
       rintro e wx ⟨n9, d9, e9, hP, ⟨u1, U1, u2, u3, u4, U2, u5, u6, rfl, hr⟩, hb1⟩
       have HX := Lib.hid (texts_same HR.out.1 HR.out.2 V0.out.d0 V1.out.d0 V0.out.cop V1.out.cop HS.out HT.out hP HSZ.out)
       obtain ⟨-, kk1, kk2, kk3⟩ := qtext_back HR.out.1 HR.out.2 V0.out.d0 V0.out.cop HS.out HSZ.out hP
       rw [kk1, kk2] at hr
       rw [kk3]
       clear kk1 kk2 kk3
       replace F10 := Lib.hid (F10.out.below hb1)
       replace F11 := Lib.hid (F11.out.below hb1)
       replace F12 := Lib.hid (F12.out.below hb1)
       replace V0 := Lib.hid (V0.out.below hb1)
       replace V1 := Lib.hid (V1.out.below hb1)
       replace V2 := Lib.hid (V2.out.below hb1)
       replace hm := Lib.hid (((hb1).cell (p := ⟨0, 0, none⟩) (World.block_lt_of_cell? _ _ hm.out)).trans hm.out)
       replace hw := Lib.hid (hw.out.trans (hb1.mono hw.out.size))
       clear hb1 hP
       have hb2 := below_alloc wx (.cells #[.bool u1, .slice U1 u2 u3, .bool u4, .slice U2 u5 u6] 38)
       replace F10 := Lib.hid (F10.out.below hb2)
       replace F11 := Lib.hid (F11.out.below hb2)
       replace F12 := Lib.hid (F12.out.below hb2)
       replace V0 := Lib.hid (V0.out.below hb2)
       replace V1 := Lib.hid (V1.out.below hb2)
       replace V2 := Lib.hid (V2.out.below hb2)
       replace hm := Lib.hid (((hb2).cell (p := ⟨0, 0, none⟩) (World.block_lt_of_cell? _ _ hm.out)).trans hm.out)
       replace hw := Lib.hid (hw.out.trans (hb2.mono hw.out.size))
       have F20 := Lib.hid (Fx4.new wx (.bool u1) (.slice U1 u2 u3) (.bool u4) (.slice U2 u5 u6) 38)
       have V20 := Lib.hid (hr.below hb2)
       clear hb2 hr
       go_upto_region 16 with fail
       generalize wx.alloc (.cells #[.bool u1, .slice U1 u2 u3, .bool u4, .slice U2 u5 u6] 38) = wy at *
       generalize wx.heap.size = j20 at *
       have hmx : ∀ w0 : World, Sem.run Tryz.prog (Builtin.max_ #[39, 39, 39] 39 #[Value.int IntKind.i64 0, Value.int IntKind.i64 0, Value.int IntKind.i64 0]) w0 = Result.ok (Value.int IntKind.i64 0) w0 := fun _ => by kernel_rfl
       by_cases hst : S = T
       ·as_aux_lemma =>
         have hcr := HX.out.1 hst
         subst hst
         have HC := Lib.hid hcr
         clear hcr
         obtain ⟨b0, b1, b2, b3, -, -, -, -, -⟩ := F10.out
         obtain ⟨q0, q1, q2, q3, -, -, -, -, -⟩ := F11.out
         go_wp2_with fail
         refine (same_yes_q _ _ x0 y0 x1 y1 7 _ V0.out V1.out (by decide) HC.out).mono ?_
         rintro e wz1 ⟨rfl, hb1⟩
         clear b0 b1 b2 b3 q0 q1 q2 q3
         replace F10 := Lib.hid (F10.out.below hb1)
         replace F11 := Lib.hid (F11.out.below hb1)
         replace F12 := Lib.hid (F12.out.below hb1)
         replace V0 := Lib.hid (V0.out.below hb1)
         replace V1 := Lib.hid (V1.out.below hb1)
         replace V2 := Lib.hid (V2.out.below hb1)
         replace F20 := Lib.hid (F20.out.below hb1)
         replace V20 := Lib.hid (V20.out.below hb1)
         replace hm := Lib.hid (((hb1).cell (p := ⟨0, 0, none⟩) (World.block_lt_of_cell? _ _ hm.out)).trans hm.out)
         replace hw := Lib.hid (hw.out.trans (hb1.mono hw.out.size))
         clear hb1
         obtain ⟨b0, b1, b2, b3, -, -, -, -, -⟩ := F10.out
         obtain ⟨q0, q1, q2, q3, -, -, -, -, -⟩ := F20.out
         go_wp2_with fail
         refine (same_yes_q _ _ x0 y0 x0 y0 20002 _ V20.out (V0.out.mono (by decide)) (by decide) rfl).mono ?_
         rintro e wz2 ⟨rfl, hb1⟩
         clear b0 b1 b2 b3 q0 q1 q2 q3
         replace F10 := Lib.hid (F10.out.below hb1)
         replace F11 := Lib.hid (F11.out.below hb1)
         replace F12 := Lib.hid (F12.out.below hb1)
         replace V0 := Lib.hid (V0.out.below hb1)
         replace V1 := Lib.hid (V1.out.below hb1)
         replace V2 := Lib.hid (V2.out.below hb1)
         replace F20 := Lib.hid (F20.out.below hb1)
         replace V20 := Lib.hid (V20.out.below hb1)
         replace hm := Lib.hid (((hb1).cell (p := ⟨0, 0, none⟩) (World.block_lt_of_cell? _ _ hm.out)).trans hm.out)
         replace hw := Lib.hid (hw.out.trans (hb1.mono hw.out.size))
         clear hb1
         go_wp2_with fail
         refine (awake_any _ M hm.out).mono ?_
         rintro e wz3 ⟨rfl, hb1⟩
         replace hw := Lib.hid (hw.out.trans (hb1.mono hw.out.size))
         clear hb1
         go_wp2
         go_ret
         exact ⟨rfl, hw.out⟩
       ·as_aux_lemma =>
         have hcr : ¬ (x0 * y1 = x1 * y0) := fun h => hst (HX.out.2 h)
         have HC := Lib.hid hcr
         have hsl : (S.toList == T.toList) = false := list_ne hst
         have hsl2 : ¬ S.toList = T.toList := fun h => by simp [h] at hsl
         clear hcr hst
         obtain ⟨b0, b1, b2, b3, -, -, -, -, -⟩ := F10.out
         obtain ⟨q0, q1, q2, q3, -, -, -, -, -⟩ := F11.out
         go_wp2_with fail
         refine (same_no_q _ _ x0 y0 x1 y1 7 _ V0.out V1.out (by decide) HC.out).mono ?_
         rintro e wz1 ⟨rfl, hb1⟩
         clear b0 b1 b2 b3 q0 q1 q2 q3
         replace F10 := Lib.hid (F10.out.below hb1)
         replace F11 := Lib.hid (F11.out.below hb1)
         replace F12 := Lib.hid (F12.out.below hb1)
         replace V0 := Lib.hid (V0.out.below hb1)
         replace V1 := Lib.hid (V1.out.below hb1)
         replace V2 := Lib.hid (V2.out.below hb1)
         replace F20 := Lib.hid (F20.out.below hb1)
         replace V20 := Lib.hid (V20.out.below hb1)
         replace hm := Lib.hid (((hb1).cell (p := ⟨0, 0, none⟩) (World.block_lt_of_cell? _ _ hm.out)).trans hm.out)
         replace hw := Lib.hid (hw.out.trans (hb1.mono hw.out.size))
         clear hb1
         obtain ⟨b0, b1, b2, b3, -, -, -, -, -⟩ := F10.out
         obtain ⟨q0, q1, q2, q3, -, -, -, -, -⟩ := F20.out
         go_wp2_with fail
         refine (same_yes_q _ _ x0 y0 x0 y0 20002 _ V20.out (V0.out.mono (by decide)) (by decide) rfl).mono ?_
         rintro e wz2 ⟨rfl, hb1⟩
         clear b0 b1 b2 b3 q0 q1 q2 q3
         replace F10 := Lib.hid (F10.out.below hb1)
         replace F11 := Lib.hid (F11.out.below hb1)
         replace F12 := Lib.hid (F12.out.below hb1)
         replace V0 := Lib.hid (V0.out.below hb1)
         replace V1 := Lib.hid (V1.out.below hb1)
         replace V2 := Lib.hid (V2.out.below hb1)
         replace F20 := Lib.hid (F20.out.below hb1)
         replace V20 := Lib.hid (V20.out.below hb1)
         replace hm := Lib.hid (((hb1).cell (p := ⟨0, 0, none⟩) (World.block_lt_of_cell? _ _ hm.out)).trans hm.out)
         replace hw := Lib.hid (hw.out.trans (hb1.mono hw.out.size))
         clear hb1
         go_wp2_with fail
         refine (awake_any _ M hm.out).mono ?_
         rintro e wz3 ⟨rfl, hb1⟩
         replace hw := Lib.hid (hw.out.trans (hb1.mono hw.out.size))
         clear hb1
         go_wp2
         go_ret
         exact ⟨rfl, hw.out⟩

end Go.Proofs.YtbajnceoolkckaaGreat
