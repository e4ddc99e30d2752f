/- Abs; Divide by 0, and by any number, on both sides. -/
import Derived.Test.YtoanomgdkkbbmaaGcd
import Derived.Test.YtoanomgdkkbbmaaRGcd
namespace Go.Proofs.Ytoanomgdkkbbmaa
open Go.RowKit LM

theorem fx_at {w : World} {v0 v1 : Value} {t : TypeId} {n : Nat} (h : w.heap.size = n) : Fx (w.alloc (.cells #[v0, v1] t)) n v0 v1 := h ▸ Fx.new w v0 v1 t

theorem rooms4 {w W0 : World} {x : Obj} {y0 y1 u0 u1 v0 v1 : Value} {t : TypeId} (h : ((((w.alloc x).alloc (.cells #[y0, y1] t)).alloc (.cells #[u0, u1] t)).alloc (.cells #[v0, v1] t)) = W0) :
    Fx W0 (w.heap.size + 1) y0 y1 ∧ Fx W0 (w.heap.size + 1 + 1) u0 u1 ∧ Fx W0 (w.heap.size + 1 + 1 + 1) v0 v1 ∧ W0.heap.size = w.heap.size + 4 := by
  subst h
  exact ⟨((fx_at (by simp)).below (below_alloc _ _)).below (below_alloc _ _), (fx_at (by simp)).below (below_alloc _ _), fx_at (by simp), by simp⟩

set_option maxHeartbeats 1000000 in
theorem abs_int (u : Value) (x : Int) (L : Nat) (w : World) (h : Ival w u x L) (hL : L ≤ 1073741824) :
    Calls Try.prog 36 #[u] w fun e w' => (∃ ng A2 n2 c2, e = .returned (.agg #[.bool ng, .slice A2 n2 c2]) ∧ Ival w' (.agg #[.bool ng, .slice A2 n2 c2]) (if x < 0 then -x else x) L) ∧ Below w.heap.size w w' := by
  obtain ⟨p, A, n, c, rfl⟩ := h.form
  obtain ⟨a, ha, ha0, rfl, ha1⟩ := h.parts
  have hW := below_two w (.cells #[.bool p, .slice A n c] 28) (.cells #[.bool false, .slice none 0 0] 28)
  have HA := Lib.hid (ha.below hW)
  have hB0 := Below.refl (w.heap.size + 2) ((w.alloc (.cells #[.bool p, .slice A n c] 28)).alloc (.cells #[.bool false, .slice none 0 0] 28))
  have e0 : (if withSign p a < 0 then -withSign p a else withSign p a) = a := by
    cases p with
    | true => have := ha1 rfl; simp [withSign]; omega
    | false => simp [withSign]; omega
  rw [e0]
  clear h ha ha1 e0
  go_enter Try.func36, Try.ntmps36
  go_wp2_with fail
  refine (clone_num _ a L _ HA.out hL).mono ?_
  rintro e w1 ⟨r, rfl, hr, hb1⟩
  have HR := Lib.hid hr
  have hB1 := hB0.trans (hb1.mono (B' := w.heap.size + 2) (by simp))
  clear hr
  go_wp2_with fail
  refine (signed_out false _ a L _ HR.out hL).mono ?_
  rintro e w2 ⟨ng, A2, n2, c2, rfl, hv, hb2⟩
  have hB2 := hB1.trans (hb2.mono (B' := w.heap.size + 2) (by have := hB1.size; simp at this; omega))
  obtain ⟨e1, e2, f1, f2⟩ := room1 hB2
  have HV := Lib.hid (show Ival w2 (.agg #[.bool ng, .slice A2 n2 c2]) a L from hv)
  clear hv
  go_wp2
  refine bodyPost_ret (v := .agg #[.bool ng, .slice A2 n2 c2]) (by simp [results, Try.results36, go_sem, e1, e2]) rfl ⟨⟨_, _, _, _, rfl, HV.out.stored e1 e2 _ _⟩, ?_⟩
  exact ((hW.trans (hB2.mono (by omega))).setCell (by show _ ≤ _; simp) _).setCell (by show _ ≤ _; simp) _

set_option maxRecDepth 100000 in
set_option maxHeartbeats 1000000 in
theorem Divide_by0 (u v : Value) (x : Int) (L M : Nat) (w : World) (h : Ival w u x L) (g : Ival w v 0 M) (hM : M ≤ 1000000) :
    Calls Try.prog 30 #[u, v] w fun e w' => e = .returned (.tuple #[.agg #[.bool false, .slice none 0 0], .agg #[.bool false, .slice none 0 0], .int .i64 6]) ∧ Below w.heap.size w w' := by
  obtain ⟨p, A, n, c, rfl⟩ := h.form
  obtain ⟨q, B, m, d, rfl⟩ := g.form
  obtain ⟨W0, hW0⟩ : ∃ W0, ((((w.alloc (.cells #[.bool p, .slice A n c] 28)).alloc (.cells #[.bool q, .slice B m d] 28)).alloc (.cells #[.bool false, .slice none 0 0] 28)).alloc (.cells #[.bool false, .slice none 0 0] 28)) = W0 := ⟨_, rfl⟩
  have hW : Below w.heap.size w W0 := by rw [← hW0]; exact below_four _ _ _ _ _
  have HF := Lib.hid (rooms4 hW0)
  have HG := Lib.hid (g.below hW)
  obtain ⟨⟨q0, q1, q2, q3, q4⟩, -⟩ := HF.out
  clear h g
  go_enter Try.func30, Try.ntmps30
  go_wp2_with fail
  refine (sign_int _ 0 M _ HG.out).mono ?_
  rintro e w1 ⟨rfl, hb1⟩
  have h0 : (cmpI 0 0 == 0) = true := by decide
  obtain ⟨-, F2, F3, hz⟩ := HF.out
  clear q0 q1 q2 q3
  have G2 := F2.below hb1
  have G3 := F3.below hb1
  obtain ⟨r0, r1, r2, r3, r4⟩ := G2
  obtain ⟨s0, s1, s2, s3, s4⟩ := G3
  clear F2 F3 hW0
  go_wp2_with fail
  have hbw := hW.trans (hb1.mono hW.size)
  refine bodyPost_ret (v := .tuple #[.agg #[.bool false, .slice none 0 0], .agg #[.bool false, .slice none 0 0], .int .i64 6]) (by simp [results, Try.results30, go_sem, r0, r1, s0, s1]) rfl ⟨rfl, ?_⟩
  exact (((hbw.setCell (p := ⟨w.heap.size + 1 + 1, 0, none⟩) (by show w.heap.size ≤ w.heap.size + 1 + 1; omega) _).setCell (p := ⟨w.heap.size + 1 + 1, 1, none⟩) (by show w.heap.size ≤ w.heap.size + 1 + 1; omega) _).setCell (p := ⟨w.heap.size + 1 + 1 + 1, 0, none⟩) (by show w.heap.size ≤ w.heap.size + 1 + 1 + 1; omega) _).setCell (p := ⟨w.heap.size + 1 + 1 + 1, 1, none⟩) (by show w.heap.size ≤ w.heap.size + 1 + 1 + 1; omega) _

set_option maxRecDepth 100000 in
set_option maxHeartbeats 1000000 in
theorem rDivide_by0 (u v : Value) (x : Int) (L M : Nat) (w : World) (h : Rval w u x L) (g : Rval w v 0 M) (hM : M ≤ 1000000) :
    Calls Try.prog 31 #[u, v] w fun e w' => e = .returned (.tuple #[.agg #[.bool false, .slice none 0 0], .agg #[.bool false, .slice none 0 0], .int .i64 6]) ∧ Below w.heap.size w w' := by
  obtain ⟨p, A, n, c, rfl⟩ := h.form
  obtain ⟨q, B, m, d, rfl⟩ := g.form
  obtain ⟨W0, hW0⟩ : ∃ W0, ((((w.alloc (.cells #[.bool p, .slice A n c] 31)).alloc (.cells #[.bool q, .slice B m d] 31)).alloc (.cells #[.bool false, .slice none 0 0] 31)).alloc (.cells #[.bool false, .slice none 0 0] 31)) = W0 := ⟨_, rfl⟩
  have hW : Below w.heap.size w W0 := by rw [← hW0]; exact below_four _ _ _ _ _
  have HF := Lib.hid (rooms4 hW0)
  have HG := Lib.hid (g.below hW)
  obtain ⟨⟨q0, q1, q2, q3, q4⟩, -⟩ := HF.out
  clear h g
  go_enter Try.func31, Try.ntmps31
  go_wp2_with fail
  refine (rsign_any _ 0 M _ HG.out (by omega)).mono ?_
  rintro e w1 ⟨rfl, hb1⟩
  have h0 : (cmpI 0 0 == 0) = true := by decide
  obtain ⟨-, F2, F3, hz⟩ := HF.out
  clear q0 q1 q2 q3
  have G2 := F2.below hb1
  have G3 := F3.below hb1
  obtain ⟨r0, r1, r2, r3, r4⟩ := G2
  obtain ⟨s0, s1, s2, s3, s4⟩ := G3
  clear F2 F3 hW0
  go_wp2_with fail
  have hbw := hW.trans (hb1.mono hW.size)
  refine bodyPost_ret (v := .tuple #[.agg #[.bool false, .slice none 0 0], .agg #[.bool false, .slice none 0 0], .int .i64 6]) (by simp [results, Try.results31, go_sem, r0, r1, s0, s1]) rfl ⟨rfl, ?_⟩
  exact (((hbw.setCell (p := ⟨w.heap.size + 1 + 1, 0, none⟩) (by show w.heap.size ≤ w.heap.size + 1 + 1; omega) _).setCell (p := ⟨w.heap.size + 1 + 1, 1, none⟩) (by show w.heap.size ≤ w.heap.size + 1 + 1; omega) _).setCell (p := ⟨w.heap.size + 1 + 1 + 1, 0, none⟩) (by show w.heap.size ≤ w.heap.size + 1 + 1 + 1; omega) _).setCell (p := ⟨w.heap.size + 1 + 1 + 1, 1, none⟩) (by show w.heap.size ≤ w.heap.size + 1 + 1 + 1; omega) _

/-- What Divide comes to. -/
def divE (y : Int) : Int := if y = 0 then 6 else 0
def divQ (x y : Int) : Int := if y = 0 then 0 else x.tdiv y
def divR (x y : Int) : Int := if y = 0 then 0 else x.tmod y

theorem DivideE_int (u v : Value) (x y : Int) (L M : Nat) (w : World) (h : Ival w u x L) (g : Ival w v y M) (hL : L ≤ 1000000) (hM : M ≤ 1000000) :
    Calls Try.prog 30 #[u, v] w fun e w' => (∃ n1 A1 l1 c1 n2 A2 l2 c2, e = .returned (.tuple #[.agg #[.bool n1, .slice A1 l1 c1], .agg #[.bool n2, .slice A2 l2 c2], .int .i64 (divE y)]) ∧
      Ival w' (.agg #[.bool n1, .slice A1 l1 c1]) (divQ x y) (L + 2) ∧ Ival w' (.agg #[.bool n2, .slice A2 l2 c2]) (divR x y) (L + 2)) ∧ Below w.heap.size w w' := by
  by_cases hy : y = 0
  · have e1 : divE y = 6 := if_pos hy
    have e2 : divQ x y = 0 := if_pos hy
    have e3 : divR x y = 0 := if_pos hy
    rw [e1, e2, e3]
    subst hy
    refine (Divide_by0 u v x L M w h g hM).mono ?_
    rintro e w' ⟨rfl, hb⟩
    exact ⟨⟨_, _, _, _, _, _, _, _, rfl, Ival.nought, Ival.nought⟩, hb⟩
  · have e1 : divE y = 0 := if_neg hy
    have e2 : divQ x y = x.tdiv y := if_neg hy
    have e3 : divR x y = x.tmod y := if_neg hy
    rw [e1, e2, e3]
    refine (Divide_int u v x y L M w h g (by omega) (by omega) hy).mono ?_
    rintro e w' ⟨n1, A1, l1, c1, n2, A2, l2, c2, rfl, h1, h2, hb⟩
    exact ⟨⟨_, _, _, _, _, _, _, _, rfl, h1, h2⟩, hb⟩

theorem rDivideE_int (u v : Value) (x y : Int) (L M : Nat) (w : World) (h : Rval w u x L) (g : Rval w v y M) (hL : L ≤ 100000) (hM : M ≤ 100000) :
    Calls Try.prog 31 #[u, v] w fun e w' => (∃ n1 A1 l1 c1 n2 A2 l2 c2, e = .returned (.tuple #[.agg #[.bool n1, .slice A1 l1 c1], .agg #[.bool n2, .slice A2 l2 c2], .int .i64 (divE y)]) ∧
      Rval w' (.agg #[.bool n1, .slice A1 l1 c1]) (divQ x y) L ∧ Rval w' (.agg #[.bool n2, .slice A2 l2 c2]) (divR x y) L) ∧ Below w.heap.size w w' := by
  by_cases hy : y = 0
  · have e1 : divE y = 6 := if_pos hy
    have e2 : divQ x y = 0 := if_pos hy
    have e3 : divR x y = 0 := if_pos hy
    rw [e1, e2, e3]
    subst hy
    refine (rDivide_by0 u v x L M w h g (by omega)).mono ?_
    rintro e w' ⟨rfl, hb⟩
    exact ⟨⟨_, _, _, _, _, _, _, _, rfl, Rval.nought, Rval.nought⟩, hb⟩
  · have e1 : divE y = 0 := if_neg hy
    have e2 : divQ x y = x.tdiv y := if_neg hy
    have e3 : divR x y = x.tmod y := if_neg hy
    rw [e1, e2, e3]
    exact rDivide_int u v x y L M w h g hL hM hy

theorem neg_t (u : Value) (x : Int) (L : Nat) (w : World) (h : Ival w u x L) (hL : L ≤ 1000000) :
    Calls Try.prog 34 #[u] w fun e w' => (∃ ng A2 n2 c2, e = .returned (.agg #[.bool ng, .slice A2 n2 c2]) ∧ Ival w' (.agg #[.bool ng, .slice A2 n2 c2]) (-x) L) ∧ Below w.heap.size w w' :=
  (neg_int u x L w h (by omega)).mono fun _ _ ⟨_, he, hv, hb⟩ => by obtain ⟨ng, A, n, c, rfl⟩ := hv.form; exact ⟨⟨ng, A, n, c, he, hv⟩, hb⟩

theorem add_t (u v : Value) (x y : Int) (L M : Nat) (w : World) (h : Ival w u x L) (g : Ival w v y M) (hL : L ≤ 1000000) (hM : M ≤ 1000000) :
    Calls Try.prog 38 #[u, v] w fun e w' => (∃ ng A2 n2 c2, e = .returned (.agg #[.bool ng, .slice A2 n2 c2]) ∧ Ival w' (.agg #[.bool ng, .slice A2 n2 c2]) (x + y) (max L M + 1)) ∧ Below w.heap.size w w' :=
  (add_int u v x y L M w h g (by omega) (by omega)).mono fun _ _ ⟨_, he, hv, hb⟩ => by obtain ⟨ng, A, n, c, rfl⟩ := hv.form; exact ⟨⟨ng, A, n, c, he, hv⟩, hb⟩

theorem sub_t (u v : Value) (x y : Int) (L M : Nat) (w : World) (h : Ival w u x L) (g : Ival w v y M) (hL : L ≤ 1000000) (hM : M ≤ 1000000) :
    Calls Try.prog 40 #[u, v] w fun e w' => (∃ ng A2 n2 c2, e = .returned (.agg #[.bool ng, .slice A2 n2 c2]) ∧ Ival w' (.agg #[.bool ng, .slice A2 n2 c2]) (x - y) (max L M + 1)) ∧ Below w.heap.size w w' :=
  (sub_int u v x y L M w h g (by omega) (by omega)).mono fun _ _ ⟨_, he, hv, hb⟩ => by obtain ⟨ng, A, n, c, rfl⟩ := hv.form; exact ⟨⟨ng, A, n, c, he, hv⟩, hb⟩

theorem mul_t (u v : Value) (x y : Int) (L M : Nat) (w : World) (h : Ival w u x L) (g : Ival w v y M) (hL : L ≤ 1000000) (hM : M ≤ 1000000) :
    Calls Try.prog 42 #[u, v] w fun e w' => (∃ ng A2 n2 c2, e = .returned (.agg #[.bool ng, .slice A2 n2 c2]) ∧ Ival w' (.agg #[.bool ng, .slice A2 n2 c2]) (x * y) (L + M)) ∧ Below w.heap.size w w' :=
  (mul_int u v x y L M w h g (by omega) (by omega)).mono fun _ _ ⟨_, he, hv, hb⟩ => by obtain ⟨ng, A, n, c, rfl⟩ := hv.form; exact ⟨⟨ng, A, n, c, he, hv⟩, hb⟩

end Go.Proofs.Ytoanomgdkkbbmaa
