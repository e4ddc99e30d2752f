/- words of a number with more digits than that. -/
import Derived.Test.YtoanomgdkkbbmaaWords0
namespace Go.Proofs.Ytoanomgdkkbbmaa
open Go.RowKit LM

set_option maxHeartbeats 400000 in
theorem words_cut (p : Bool) (A : Option Addr) (n c m : Nat) (a : Int) (w : World) (ha : ∃ xs, Row .u32 w A n c xs ∧ Dig xs ∧ val xs = a) (hnm : m < n) (hm : m ≤ 1048577) (_hm0 : m ≠ 0) :
    Calls Try.prog 98 #[.agg #[.bool p, .slice A n c], .int .i64 m] w fun e w' => (∃ g ys, e = .returned (.slice (some ⟨g, 0, none⟩) m m) ∧ Own w' w.heap.size g m ys ∧ Dig ys ∧ val ys = withSign p a % BB ^ m) ∧ Below w.heap.size w w' := by
  obtain ⟨i0, hi, hz0, hz1, hz2⟩ := info_parts Try.info99
  obtain ⟨xs, hrow, hd, rfl⟩ := ha
  have hW := below_alloc w (.cells #[.bool p, .slice A n c] 28)
  have HR := Lib.hid (hrow.below hW)
  have hb0 := val_bounds hd
  have hl0 := hrow.1
  have HL := Lib.hid hl0
  have c0 : (w.alloc (.cells #[.bool p, .slice A n c] 28)).cell? ⟨w.heap.size, 0, none⟩ = some (.bool p) := by rw [World.cell?_alloc_at _ _ _ _ rfl]; rfl
  have c1 : (w.alloc (.cells #[.bool p, .slice A n c] 28)).cell? ⟨w.heap.size, 1, none⟩ = some (.slice A n c) := by rw [World.cell?_alloc_at _ _ _ _ rfl]; rfl
  have C0 := Lib.hid c0
  have C1 := Lib.hid c1
  obtain ⟨X1, hX1⟩ : ∃ X1, X1 = (xs.take m).map (Value.int .u32) := ⟨_, rfl⟩
  have hX1l : X1.length = m := by rw [hX1]; simp [hl0]; try omega
  have HX1 := Lib.hid hX1
  have HX1l := Lib.hid hX1l
  have hsrc : 0 < X1.length → ∃ ad, A = some ad ∧ ∀ j v, X1[j]? = some v → (w.alloc (.cells #[.bool p, .slice A n c] 28)).cell? (ad.add j) = some v := by
    intro h0
    obtain ⟨b, o, rfl, hlt, hc⟩ := HR.out.2.2 (by omega)
    refine ⟨⟨b, o, none⟩, rfl, fun j v hj => ?_⟩
    have hjm : j < m := by have := (List.getElem?_eq_some_iff.1 hj).1; omega
    rw [Addr.add_lit, hc j (by omega), ← hj, hX1]
    simp [List.getD, hl0, hjm, show j < n by omega]
  have hone : ∀ v ∈ X1, v.oneCell' = true := by rw [hX1]; exact ints_oneCell _ _
  have HS := Lib.hid hsrc
  have HO := Lib.hid hone
  clear hX1 hX1l hsrc hone hrow hl0 c0 c1
  go_enter Try.func98, Try.ntmps98
  go_wp2_with (first | (at_make; refine wpList_make_full _ rfl _ _ 22 rfl w.heap.size 99 i0 (.int .u32 0) 1 Try.underlying22 hi hz0 hz1 _ _ _ _ m rfl rfl (by omega) (by omega) (by rw [hz2]; omega) (by unfold maxLen; omega) (by simp) ?_; intro w1 hown hgrow; rw [zeros_made] at hown; have hbm : Below (w.heap.size + 1) (w.alloc (.cells #[.bool p, .slice A n c] 28)) w1 := (Below.refl _ _).grown hgrow (by simp) (fun _ h => by cases h); have HWH := whole_at hown; clear hown hgrow; have d0 := (hbm.cell (p := ⟨w.heap.size, 0, none⟩) (by simp)).trans C0.out; have d1 := (hbm.cell (p := ⟨w.heap.size, 1, none⟩) (by simp)).trans C1.out) | ((with_reducible refine wpList_copy_splice rfl (.tmp 8) (.tmp 10) 22 22 rfl 99 Try.underlying22 (by kernel_rfl) _ _ _ _ _ _ rfl rfl (w.heap.size + 1) 0 ((List.replicate m (0 : Int)).map (Value.int .u32)) 99 HWH.out X1 ?c1 ?c2 ?c3 HO.out (w.heap.size + 1) (w.alloc (.cells #[.bool p, .slice A n c] 28)) hbm (Nat.le_refl _) ?_)))
  case c1 => rw [HX1l.out]; exact (Nat.min_eq_right (Nat.le_of_lt hnm)).symm
  case c2 =>
    intro h0
    obtain ⟨ad, e, hc⟩ := HS.out h0
    refine ⟨ad, e, fun j v hj => ?_⟩
    obtain ⟨b, o, e2, hlt, _⟩ := HR.out.2.2 (by have := HX1l.out; omega)
    rw [e2] at e
    simp only [Option.some.injEq] at e
    subst e
    exact (hbm.cell (p := (⟨b, o, none⟩ : Addr).add j) (by rw [Addr.add_lit]; simpa using hlt)).trans (hc j v hj)
  case c3 => rw [HX1l.out]; simp
  intro w2 HG2 hb2
  have hsp : splice (List.replicate m (Value.int .u32 0)) 0 X1 = ((xs.take m).map (Value.int .u32)) := by
    rw [HX1.out]; simp [splice, HL.out]; try omega
  have hown : Own w2 w.heap.size (w.heap.size + 1) m (xs.take m) := by
    refine Own.of_whole ?_ (by simp [HL.out]; omega) (by omega) (by unfold maxLen; omega)
    rw [← hsp]; exact HG2.out
  have hdz : Dig (xs.take m) := hd.take m
  have hvz : val (xs.take m) = val xs % BB ^ m := by
    have hl1 := HL.out
    have h1 := val_split xs m (by omega)
    have hb := val_bounds hdz
    rw [List.length_take, Nat.min_eq_left (by omega)] at hb
    rw [h1, Int.add_mul_emod_self_left, Int.emod_eq_of_lt hb.1 hb.2]
  have e0 := (hb2.cell (p := ⟨w.heap.size, 0, none⟩) (by simp)).trans C0.out
  have HOW := Lib.hid hown
  have HDZ := Lib.hid hdz
  have HVZ := Lib.hid hvz
  have hbw : Below w.heap.size w w2 := hW.trans (hb2.mono (by omega))
  clear hown hdz hvz hsp d0 d1
  cases p with
  | false =>
    go_wp2
    go_ret
    refine ⟨⟨_, _, rfl, HOW.out, HDZ.out, ?_⟩, hbw⟩
    rw [HVZ.out]; simp [withSign]
  | true =>
    go_wp2_with fail
    refine (complement_any w.heap.size (w.heap.size + 1) m _ w2 HOW.out HDZ.out (by omega)).mono ?_
    rintro e w3 ⟨rfl, ⟨ys, hyd, hyv, hyo⟩, hg3⟩
    have HYV := Lib.hid hyv
    clear hyv
    go_wp2
    go_ret
    refine ⟨⟨_, ys, rfl, hyo, hyd, ?_⟩, hbw.grown hg3 hbw.size (fun k hk => ?_)⟩
    · rw [HYV.out, HVZ.out]
      simp only [withSign, if_true]
      have h1 := Int.emod_add_mul_ediv (val xs) (BB ^ m)
      generalize val xs / BB ^ m = q at *
      generalize val xs % BB ^ m = r at *
      rw [show -val xs = (BB ^ m - r) + BB ^ m * (-q - 1) from by rw [← h1, Int.mul_sub, Int.mul_neg, Int.mul_one]; omega, Int.add_mul_emod_self_left]
    · have e : w.heap.size + 1 = k := by simpa using hk
      omega


end Go.Proofs.Ytoanomgdkkbbmaa
