/- The reference's Power, its loop. -/
import Derived.Test.YtoanomgdkkbbmaaRPower
namespace Go.Proofs.Ytoanomgdkkbbmaa
open Go.RowKit LM

theorem Rval.restored {w : World} {s : Value} {z : Int} {L : Nat} (h : Rval w s z L) {r : Nat} {g : Bool} {A : Option Addr} {n c : Nat} (e1 : w.cell? ⟨r, 0, none⟩ = some (.bool g)) (e2 : w.cell? ⟨r, 1, none⟩ = some (.slice A n c)) (x y : Value) :
    Rval ((w.setCell ⟨r, 0, none⟩ x).setCell ⟨r, 1, none⟩ y) s z L := by
  obtain ⟨neg, A', n', c', ds, e, hr, t⟩ := h
  refine ⟨neg, A', n', c', ds, e, (hr.setOther (fun u => by rw [e1]; simp) x).setOther (fun u => ?_) y, t⟩
  rw [World.cell?_setCell_other _ _ _ _ (by simp), e2]; simp

/-- A box that may be written, and what it holds. -/
def RBox (w : World) (b : Nat) (z : Int) (L : Nat) : Prop :=
  ∃ g A n c, w.cell? ⟨b, 0, none⟩ = some (.bool g) ∧ w.cell? ⟨b, 1, none⟩ = some (.slice A n c) ∧ w.frozen? ⟨b, 0, none⟩ = false ∧ w.frozen? ⟨b, 1, none⟩ = false ∧ b < w.heap.size ∧ Rval w (.agg #[.bool g, .slice A n c]) z L

theorem RBox.new (w : World) (g : Bool) (A : Option Addr) (n c L : Nat) (z : Int) (h : Rval w (.agg #[.bool g, .slice A n c]) z L) : RBox (w.alloc (.cells #[.bool g, .slice A n c] 31)) w.heap.size z L :=
  ⟨g, A, n, c, (rbox_new (Below.refl _ _)).1, (rbox_new (Below.refl _ _)).2, World.frozen?_alloc_at _ _ _ _ rfl, World.frozen?_alloc_at _ _ _ _ rfl, by simp, h.below (below_alloc _ _)⟩

theorem RBox.below {w w' : World} {b : Nat} {z : Int} {L : Nat} (h : RBox w b z L) (hb : Below w.heap.size w w') : RBox w' b z L := by
  obtain ⟨g, A, n, c, h1, h2, h3, h4, h5, h6⟩ := h
  exact ⟨g, A, n, c, (hb.cell (p := ⟨b, 0, none⟩) h5).trans h1, (hb.cell (p := ⟨b, 1, none⟩) h5).trans h2, (hb.frozen (p := ⟨b, 0, none⟩) h5).trans h3, (hb.frozen (p := ⟨b, 1, none⟩) h5).trans h4, Nat.lt_of_lt_of_le h5 hb.size, h6.below hb⟩

theorem RBox.set {w : World} {b : Nat} {z y : Int} {L M : Nat} (h : RBox w b z L) {g : Bool} {A : Option Addr} {n c : Nat} (hv : Rval w (.agg #[.bool g, .slice A n c]) y M) :
    ((w.setCell ⟨b, 0, none⟩ (.bool g)).setCell ⟨b, 1, none⟩ (.slice A n c)).cell? ⟨b, 0, none⟩ = some (.bool g) ∧ ((w.setCell ⟨b, 0, none⟩ (.bool g)).setCell ⟨b, 1, none⟩ (.slice A n c)).cell? ⟨b, 1, none⟩ = some (.slice A n c) ∧
    Rval ((w.setCell ⟨b, 0, none⟩ (.bool g)).setCell ⟨b, 1, none⟩ (.slice A n c)) (.agg #[.bool g, .slice A n c]) y M ∧ RBox ((w.setCell ⟨b, 0, none⟩ (.bool g)).setCell ⟨b, 1, none⟩ (.slice A n c)) b y M := by
  obtain ⟨g0, A0, n0, c0, h1, h2, h3, h4, h5, h6⟩ := h
  have e1 : ((w.setCell ⟨b, 0, none⟩ (.bool g)).setCell ⟨b, 1, none⟩ (.slice A n c)).cell? ⟨b, 0, none⟩ = some (.bool g) := by
    rw [World.cell?_setCell_other _ _ _ _ (by simp)]; exact World.cell?_setCell_same _ _ _ h1
  have e2 : ((w.setCell ⟨b, 0, none⟩ (.bool g)).setCell ⟨b, 1, none⟩ (.slice A n c)).cell? ⟨b, 1, none⟩ = some (.slice A n c) :=
    World.cell?_setCell_same _ _ _ ((World.cell?_setCell_other _ _ _ _ (by simp)).trans h2)
  exact ⟨e1, e2, hv.restored h1 h2 _ _, g, A, n, c, e1, e2, by simpa using h3, by simpa using h4, by simpa using h5, hv.restored h1 h2 _ _⟩

theorem abs_big {x : Int} (hx : x ≤ -2 ∨ 2 ≤ x) {d : Nat} (hd : IsLen (if x < 0 then -x else x) d) : ¬ (d : Int) ≤ 1 := by
  rcases hd with ⟨h', _⟩ | ⟨h1, _, h3⟩
  · split at h' <;> omega
  · have h2 : (2 : Int) ^ 1 = 2 := by decide
    have : (2 : Int) ^ 1 < 2 ^ d := by split at h3 <;> omega
    have := two_lt this
    omega

set_option maxRecDepth 100000 in
set_option maxHeartbeats 4000000 in
theorem rPower_in (u : Value) (x : Int) (L n : Nat) (w : World) (h : Rval w u x L) (hL : L ≤ 16) (hn : n ≤ 40) (hx : x ≤ -2 ∨ 2 ≤ x) :
    Calls Try.prog 47 #[u, .int .i64 n] w fun e w' => (∃ ng A2 n2 c2 k, e = .returned (.tuple #[.agg #[.bool ng, .slice A2 n2 c2], .int .i64 0]) ∧ Rval w' (.agg #[.bool ng, .slice A2 n2 c2]) (x ^ n) 1000 ∧ IsLen (patOf (x ^ n)) k ∧ k ≤ 65536) ∧ Below w.heap.size w w' := by
  obtain ⟨p, A, m, c, rfl⟩ := h.form
  have hW := below_two w (.cells #[.bool p, .slice A m c] 31) (.cells #[.bool false, .slice none 0 0] 31)
  have hs2 : w.heap.size + 2 ≤ ((w.alloc (.cells #[.bool p, .slice A m c] 31)).alloc (.cells #[.bool false, .slice none 0 0] 31)).heap.size := by simp
  have HX := Lib.hid (h.below hW)
  have HS := Lib.hid (fun (w' : World) (hb : Below (w.heap.size + 2) ((w.alloc (.cells #[.bool p, .slice A m c] 31)).alloc (.cells #[.bool false, .slice none 0 0] 31)) w') => sh_hold hb)
  have hB0 := Below.refl (w.heap.size + 2) ((w.alloc (.cells #[.bool p, .slice A m c] 31)).alloc (.cells #[.bool false, .slice none 0 0] 31))
  have z1 : ¬ (n : Int) < 0 := by omega
  have HBIG := Lib.hid hx
  clear h hx
  go_enter Try.func47, Try.ntmps47
  go_wp2_with fail
  refine (rnew_any 1 _ (by decide) (by decide)).mono ?_
  rintro e w1 ⟨⟨g1, A1, n1, d1, rfl, hone⟩, hb1⟩
  have hB1 := hB0.trans (hb1.mono (B' := w.heap.size + 2) hs2)
  have hN := below_alloc w1 (.cells #[.bool g1, .slice A1 n1 d1] 31)
  have hz1 : w.heap.size + 2 ≤ w1.heap.size := Nat.le_trans hs2 hB1.size
  have hB2 := hB1.trans (hN.mono hz1)
  have HBX := Lib.hid (RBox.new w1 g1 A1 n1 d1 64 1 hone)
  have HX1 := Lib.hid (HX.out.below hb1)
  have HX2 := Lib.hid (HX1.out.below hN)
  clear hone
  obtain ⟨⟨k0, k1⟩, -⟩ := HS.out _ hB2
  go_wp2_with fail
  refine (width_abs _ x L _ HX2.out (by omega)).mono ?_
  rintro e w2 ⟨⟨d, rfl, hd, hdl⟩, hb2⟩
  have hd2 := abs_big HBIG.out hd
  have hN2 := hN.trans (hb2.mono hN.size)
  have HBX2 := Lib.hid (HBX.out.below hb2)
  clear hd k0 k1 hB2 hN HX2 HX HBX
  go_wp2_with fail
  go_loopw [7] (fun iv wr => ∃ i : Nat, iv = .int .i64 i ∧ i ≤ n ∧ Hid (RBox wr w1.heap.size (x ^ i) (64 + 17 * i)) ∧ Below w1.heap.size w1 wr) (fun iv _ => n - (intOf iv).toNat)
  case atStart => exact ⟨0, rfl, Nat.zero_le _, Lib.hid (by rw [Int.pow_zero]; exact HBX2.out), hN2⟩
  case round =>
    obtain ⟨i, rfl, hi, HB, hBR⟩ := hrel
    obtain ⟨g, A', n', c', c1, c2, f1, f2, hlt0, hv⟩ := HB.out
    have HV := Lib.hid hv
    have hBW := hB1.trans (hBR.mono hz1)
    have HXr := Lib.hid (HX1.out.below hBR)
    obtain ⟨⟨k0, k1⟩, -⟩ := HS.out _ hBW
    clear hv f1 f2
    by_cases hlt : i < n
    · have s5 : (i : Int) < (n : Int) := by omega
      go_wp2_with fail
      refine (rMul_any _ _ (x ^ i) x (64 + 17 * i) L _ HV.out HXr.out (by omega) (by omega)).mono ?_
      rintro e w3 ⟨⟨g3, A3, n3, d3, rfl, hv3⟩, hb3⟩
      have HB3 := HB.out.below hb3
      obtain ⟨q1, q2, hv4, hb4⟩ := HB3.set hv3
      obtain ⟨g5, A5, n5, c5, c15, c25, f15, f25, hlt5, _⟩ := HB3
      have hv4' := hv4.mono (show 64 + 17 * i + L + 1 ≤ 64 + 17 * (i + 1) by omega)
      rw [← Int.pow_succ] at hv4'
      have HV4 := Lib.hid hv4'
      rw [← Int.pow_succ] at hb4
      have HB4 := Lib.hid hb4
      have hBR3 := (hBR.trans (hb3.mono hBR.size))
      have hBR4 := (hBR3.setCell (p := ⟨w1.heap.size, 0, none⟩) (Nat.le_refl _) (.bool g3)).setCell (p := ⟨w1.heap.size, 1, none⟩) (Nat.le_refl _) (.slice A3 n3 d3)
      clear hv3 hv4 hv4' hb4 k0 k1 c1 c2
      go_wp2_with fail
      refine (width_abs _ (x ^ (i + 1)) (64 + 17 * (i + 1)) _ HV4.out (by omega)).mono ?_
      rintro e w5 ⟨⟨dd, rfl, _, hdl5⟩, hb5⟩
      have HB5 := Lib.hid (HB4.out.below hb5)
      have hBR5 := hBR4.trans (hb5.mono hBR4.size)
      have s6 : ¬ (65537 : Int) < (dd : Int) := by omega
      clear q1 q2 c15 c25 f15 f25
      go_wp2_with fail
      refine ⟨⟨i + 1, by go_num, by omega, Lib.hid ?_, hBR5⟩, by simp [intOf]; omega⟩
      obtain ⟨g6, A6, n6, c6, h1, h2, h3, h4, h5, h6⟩ := HB5.out
      exact ⟨g6, A6, n6, c6, h1, h2, h3, h4, h5, h6.mono (by omega)⟩
    · obtain rfl : i = n := by omega
      go_wp2_with fail
      refine (rLength_any _ (x ^ i) (64 + 17 * i) _ HV.out (by omega)).mono ?_
      rintro e w3 ⟨⟨k, rfl, hk, hkl⟩, hb3⟩
      obtain ⟨g5, A5, n5, c5, c15, c25, f15, f25, hlt5, hv5⟩ := HB.out.below hb3
      have s7 : ¬ (65536 : Int) < (k : Int) := by omega
      have HV5 := Lib.hid hv5
      have HK := Lib.hid hk
      have hBW3 := hBW.trans (hb3.mono (B' := w.heap.size + 2) (Nat.le_trans hz1 hBR.size))
      obtain ⟨e1, e2, f1, f2⟩ := (HS.out _ hBW3).2
      clear hk hv5 k0 k1 f15 f25
      go_wp2
      refine bodyPost_ret (v := .tuple #[.agg #[.bool g5, .slice A5 n5 c5], .int .i64 0]) (by simp [results, Try.results47, go_sem, e1, e2]) rfl ⟨⟨_, _, _, _, k, rfl, (HV5.out.mono (by omega)).stored e1 e2 _ _, HK.out, by omega⟩, ?_⟩
      exact ((hW.trans (hBW3.mono (by omega))).setCell (by show _ ≤ _; simp) _).setCell (by show _ ≤ _; simp) _

end Go.Proofs.Ytoanomgdkkbbmaa
