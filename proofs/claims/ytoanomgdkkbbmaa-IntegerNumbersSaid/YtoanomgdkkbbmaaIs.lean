/- Limbs of an integer, and Is: the program's integer against the reference's. -/
import Derived.Test.YtoanomgdkkbbmaaRefLimbs
import Derived.Test.YtoanomgdkkbbmaaEqual
import Derived.Test.YtoanomgdkkbbmaaClone
namespace Go.Proofs.Ytoanomgdkkbbmaa
open Go.RowKit LM

theorem box1 {w w' : World} {u : Value} {p : Bool} {t : TypeId} (h : Below (w.heap.size + 1) (w.alloc (.cells #[.bool p, u] t)) w') :
    w'.cell? ⟨w.heap.size, 0, none⟩ = some (.bool p) ∧ w'.cell? ⟨w.heap.size, 1, none⟩ = some u ∧ Below (w.heap.size + 1) (w.alloc (.cells #[.bool p, u] t)) w' := by
  refine ⟨?_, ?_, h⟩
  · rw [h.cell (by simp), World.cell?_alloc_at _ _ _ _ rfl]; rfl
  · rw [h.cell (by simp), World.cell?_alloc_at _ _ _ _ rfl]; rfl

theorem limbs_int (p : Bool) (A : Option Addr) (n c : Nat) (xs : List Int) (w : World) (h : Row .u32 w A n c xs) (hn : n ≤ 1073741824) :
    Calls Try.prog 74 #[.agg #[.bool p, .slice A n c]] w fun e w' => ∃ A' c', e = .returned (.tuple #[.bool p, .slice A' n c']) ∧ Row .u32 w' A' n c' xs ∧ Below w.heap.size w w' := by
  have HH := Lib.hid h
  clear h
  have hW := (below_alloc w (.cells #[.bool p, .slice A n c] 28)).drew
  go_enter Try.func74, Try.ntmps74
  go_wp2_with fail
  go_region_held3 (fun w' => w'.cell? ⟨w.heap.size, 0, none⟩ = some (.bool p) ∧ w'.cell? ⟨w.heap.size, 1, none⟩ = some (.slice A n c) ∧ Below (w.heap.size + 1) (w.alloc (.cells #[.bool p, .slice A n c] 28)) w')
    (first | (with_reducible exact box1 hC1) | (with_reducible exact box1 (Below.drew (Below.refl _ _))))
    (first | (go_at_call 85; refine (clone_row A n c xs _ (HH.out.below hW) hn).mono ?_; rintro e w1 ⟨A1, c1, rfl, hr1, hb1⟩; have hC1 := Below.trans (Below.drew (Below.refl _ _)) (hb1.mono (B' := w.heap.size + 1) (by simp))))
  go_wp2
  exact bodyPost_ret (v := .tuple #[.bool p, .slice A1 n c1]) (by simp [results, Try.results74, go_sem]) rfl ⟨A1, c1, rfl, hr1, (below_alloc w _).trans (hC1.mono (by omega))⟩

theorem withSign_inj {p q : Bool} {a b : Int} (ha : 0 ≤ a) (hb : 0 ≤ b) (hp : p = true → a ≠ 0) (hq : q = true → b ≠ 0) (h : withSign p a = withSign q b) : p = q ∧ a = b := by
  cases p <;> cases q <;> simp [withSign] at * <;> omega

theorem is_yes (u v : Value) (z : Int) (L M : Nat) (w : World) (h : Ival w u z L) (g : Rval w v z M) (hL : L ≤ 1048576) (hM : M ≤ 1048576) :
    Calls Try.prog 21 #[u, v] w fun e w' => e = .returned (.bool true) ∧ Below w.heap.size w w' := by
  obtain ⟨p, s, a, rfl, ⟨A, n, c, xs, rfl, hr, hd, ht, hv, hn⟩, ha0, hz, hp⟩ := h
  obtain ⟨q, B, m, d, ds, rfl, gr, gd, gt, gz, gq, gm⟩ := g
  obtain ⟨rfl, rfl⟩ := withSign_inj ha0 (valR_nonneg (by decide : (0 : Int) ≤ 65536) gd) hp gq (hz.symm.trans gz)
  have hW := below_two w (.cells #[.bool p, .slice A n c] 28) (.cells #[.bool p, .slice B m d] 31)
  have HV := Lib.hid hv
  have HR := Lib.hid hr
  have GR := Lib.hid gr
  clear hv hr gr hz gz hp gq
  go_enter Try.func21, Try.ntmps21
  go_wp2_with fail
  refine (limbs_int p A n c xs _ (HR.out.below hW) (by omega)).mono ?_
  rintro e w1 ⟨A1, k1, rfl, hr1, hb1⟩
  have HR1 := Lib.hid hr1
  have hb1' := hb1.mono (B' := w.heap.size + 2) (by simp)
  have d0 : w1.cell? ⟨w.heap.size + 1, 0, none⟩ = some (.bool p) := by
    rw [hb1'.cell (by simp), World.cell?_alloc_at _ _ _ _ (by simp)]; rfl
  have d1 : w1.cell? ⟨w.heap.size + 1, 1, none⟩ = some (.slice B m d) := by
    rw [hb1'.cell (by simp), World.cell?_alloc_at _ _ _ _ (by simp)]; rfl
  have hs1 : w.heap.size + 1 < w1.heap.size := by have := hb1'.size; simp at this; omega
  have hpp : (p == p) = true := by simp
  clear hr1
  go_wp2_with fail
  refine (rlimbs_any p B m d ds _ (GR.out.below (hW.trans (hb1'.mono (by omega)))) (by omega) gd gt).mono ?_
  rintro e w2 ⟨⟨A2, k2, c2, ls, rfl, hr2, hd2, ht2, hv2⟩, hb2⟩
  obtain rfl : ls = xs := val_inj_trimmed hd2 hd ht2 ht (hv2.trans HV.out.symm)
  obtain rfl : k2 = n := hr2.1.symm.trans HR.out.1
  have hbb := hW.trans ((hb1'.trans (hb2.mono (B' := w.heap.size + 2) (by omega))).mono (by omega))
  have HR2 := Lib.hid hr2
  have HR1' := Lib.hid (HR1.out.below hb2)
  clear hr2
  go_wp2_with fail
  refine (equal_same A1 A2 _ _ _ _ w2 HR1'.out HR2.out (by omega)).mono ?_
  rintro e w3 ⟨rfl, q3, rfl⟩
  go_wp2
  go_ret
  exact ⟨rfl, below_drewN hbb _⟩

end Go.Proofs.Ytoanomgdkkbbmaa
