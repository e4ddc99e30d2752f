/- words, fromWords. -/
import Derived.Test.YtoanomgdkkbbmaaWords
namespace Go.Proofs.Ytoanomgdkkbbmaa
open Go.RowKit LM

theorem zeros_cells (m : Nat) : (List.replicate m (0 : Int)).map (Value.int .u32) = List.replicate m (Value.int .u32 0) := by simp

theorem whole_at {w w1 : World} {o : Obj} {base m : Nat} (h : Own w1 base (w.alloc o).heap.size m (List.replicate m 0)) :
    Hid (w1.heap[w.heap.size + 1]? = some (.cells ((List.replicate m (0 : Int)).map (Value.int .u32)).toArray 99 (0, 0))) := by
  have h1 := Own.whole h
  have e : (w.alloc o).heap.size = w.heap.size + 1 := by simp
  rw [e] at h1
  exact h1

set_option maxHeartbeats 400000 in
theorem words_any (p : Bool) (A : Option Addr) (n c m : Nat) (a : Int) (w : World) (ha : ∃ xs, Row .u32 w A n c xs ∧ Dig xs ∧ val xs = a) (hnm : n ≤ m) (hm : m ≤ 1048577) (hm0 : m ≠ 0) :
    Calls Try.prog 98 #[.agg #[.bool p, .slice A n c], .int .i64 m] w fun e w' => (∃ g ys, e = .returned (.slice (some ⟨g, 0, none⟩) m m) ∧ Own w' w.heap.size g m ys ∧ Dig ys ∧ val ys = withSign p a % BB ^ m) ∧ Below w.heap.size w w' := by
  obtain ⟨i0, hi, hz0, hz1, hz2⟩ := info_parts Try.info99
  obtain ⟨xs, hrow, hd, rfl⟩ := ha
  have hW := below_alloc w (.cells #[.bool p, .slice A n c] 28)
  have HR := Lib.hid (hrow.below hW)
  have hb0 := val_bounds hd
  have hl0 := hrow.1
  have HL := Lib.hid hl0
  have c0 : (w.alloc (.cells #[.bool p, .slice A n c] 28)).cell? ⟨w.heap.size, 0, none⟩ = some (.bool p) := by rw [World.cell?_alloc_at _ _ _ _ rfl]; rfl
  have c1 : (w.alloc (.cells #[.bool p, .slice A n c] 28)).cell? ⟨w.heap.size, 1, none⟩ = some (.slice A n c) := by rw [World.cell?_alloc_at _ _ _ _ rfl]; rfl
  have C0 := Lib.hid c0
  have C1 := Lib.hid c1
  obtain ⟨X1, hX1⟩ : ∃ X1, X1 = xs.map (Value.int .u32) := ⟨_, rfl⟩
  have hX1l : X1.length = n := by rw [hX1]; simp [hl0]
  have HX1 := Lib.hid hX1
  have HX1l := Lib.hid hX1l
  have hsrc : 0 < X1.length → ∃ ad, A = some ad ∧ ∀ j v, X1[j]? = some v → (w.alloc (.cells #[.bool p, .slice A n c] 28)).cell? (ad.add j) = some v := by
    intro h0
    obtain ⟨b, o, rfl, hlt, hc⟩ := HR.out.2.2 (by omega)
    refine ⟨⟨b, o, none⟩, rfl, fun j v hj => ?_⟩
    have hjl : j < n := by have := (List.getElem?_eq_some_iff.1 hj).1; omega
    rw [Addr.add_lit, hc j hjl, ← hj, hX1]
    simp [List.getD, hl0, hjl]
  have hone : ∀ v ∈ X1, v.oneCell' = true := by rw [hX1]; exact ints_oneCell _ _
  have HS := Lib.hid hsrc
  have HO := Lib.hid hone
  clear hX1 hX1l hsrc hone hrow hl0 c0 c1
  go_enter Try.func98, Try.ntmps98
  go_wp2_with (first | (at_make; refine wpList_make_full _ rfl _ _ 22 rfl w.heap.size 99 i0 (.int .u32 0) 1 Try.underlying22 hi hz0 hz1 _ _ _ _ m rfl rfl (by omega) (by omega) (by rw [hz2]; omega) (by unfold maxLen; omega) (by simp) ?_; intro w1 hown hgrow; rw [zeros_made] at hown; have hbm : Below (w.heap.size + 1) (w.alloc (.cells #[.bool p, .slice A n c] 28)) w1 := (Below.refl _ _).grown hgrow (by simp) (fun _ h => by cases h); have HWH := whole_at hown; clear hown hgrow; have d0 := (hbm.cell (p := ⟨w.heap.size, 0, none⟩) (by simp)).trans C0.out; have d1 := (hbm.cell (p := ⟨w.heap.size, 1, none⟩) (by simp)).trans C1.out) | ((with_reducible refine wpList_copy_splice rfl (.tmp 8) (.tmp 10) 22 22 rfl 99 Try.underlying22 (by kernel_rfl) _ _ _ _ _ _ rfl rfl (w.heap.size + 1) 0 ((List.replicate m (0 : Int)).map (Value.int .u32)) 99 HWH.out X1 ?c1 ?c2 ?c3 HO.out (w.heap.size + 1) (w.alloc (.cells #[.bool p, .slice A n c] 28)) hbm (Nat.le_refl _) ?_)))
  case c1 => rw [HX1l.out]; exact (Nat.min_eq_left hnm).symm
  case c2 =>
    intro h0
    obtain ⟨ad, e, hc⟩ := HS.out h0
    refine ⟨ad, e, fun j v hj => ?_⟩
    obtain ⟨b, o, e2, hlt, _⟩ := HR.out.2.2 (by have := HX1l.out; omega)
    rw [e2] at e
    simp only [Option.some.injEq] at e
    subst e
    exact (hbm.cell (p := (⟨b, o, none⟩ : Addr).add j) (by rw [Addr.add_lit]; simpa using hlt)).trans (hc j v hj)
  case c3 => rw [HX1l.out]; simp; omega
  intro w2 HG2 hb2
  have hsp : splice (List.replicate m (Value.int .u32 0)) 0 X1 = ((xs ++ List.replicate (m - n) 0).map (Value.int .u32)) := by
    rw [HX1.out]; simp [splice, HL.out]
  have hown : Own w2 w.heap.size (w.heap.size + 1) m (xs ++ List.replicate (m - n) 0) := by
    refine Own.of_whole ?_ (by simp [HL.out]; omega) (by omega) (by unfold maxLen; omega)
    rw [← hsp]; exact HG2.out
  have hdz : Dig (xs ++ List.replicate (m - n) 0) := hd.append (by intro i hi; simp at hi; simp [List.getD, hi]; decide)
  have hvz : val (xs ++ List.replicate (m - n) 0) = val xs := by rw [val_append, val_zeros]; simp
  have hlt : val xs < BB ^ m := by
    rw [HL.out] at hb0
    exact Int.lt_of_lt_of_le hb0.2 (pow_le hnm)
  have e0 := (hb2.cell (p := ⟨w.heap.size, 0, none⟩) (by simp)).trans C0.out
  have HOW := Lib.hid hown
  have HDZ := Lib.hid hdz
  have HVZ := Lib.hid hvz
  have hbw : Below w.heap.size w w2 := hW.trans (hb2.mono (by omega))
  clear hown hdz hvz hsp d0 d1
  cases p with
  | false =>
    go_wp2
    go_ret
    refine ⟨⟨_, _, rfl, HOW.out, HDZ.out, ?_⟩, hbw⟩
    rw [HVZ.out, withSign]
    exact (Int.emod_eq_of_lt hb0.1 hlt).symm
  | true =>
    go_wp2_with fail
    refine (complement_any w.heap.size (w.heap.size + 1) m _ w2 HOW.out HDZ.out (by omega)).mono ?_
    rintro e w3 ⟨rfl, ⟨ys, hyd, hyv, hyo⟩, hg3⟩
    have HYV := Lib.hid hyv
    clear hyv
    go_wp2
    go_ret
    refine ⟨⟨_, ys, rfl, hyo, hyd, ?_⟩, hbw.grown hg3 hbw.size (fun k hk => ?_)⟩
    · rw [HYV.out, HVZ.out, withSign]
      simp only [if_true]
      have := Int.add_mul_emod_self_right (-val xs) 1 (BB ^ m)
      rw [Int.one_mul] at this
      have e : BB ^ m - val xs = -val xs + BB ^ m := by omega
      rw [e]; exact this
    · have e : w.heap.size + 1 = k := by simpa using hk
      omega

theorem signed_out_row (neg : Bool) (A : Option Addr) (n c : Nat) (zs : List Int) (w : World) (h : Row .u32 w A n c zs) (hn : n ≤ 1073741824) (hd : Dig zs) :
    Calls Try.prog 70 #[.bool neg, .slice A n c] w fun e w' => ∃ ng A2 n2 c2, e = .returned (.agg #[.bool ng, .slice A2 n2 c2]) ∧ Ival w' (.agg #[.bool ng, .slice A2 n2 c2]) (withSign neg (val zs)) n ∧ Below w.heap.size w w' := by
  refine (signed_row neg A n c zs w h hn hd).mono ?_
  rintro e w' ⟨v, rfl, hv, hb⟩
  obtain ⟨ng, A2, n2, c2, rfl⟩ := hv.form
  exact ⟨ng, A2, n2, c2, rfl, hv, hb⟩

/-- The room, behind a write to another block. -/
theorem room_grown {w w3 w4 : World} {g : Nat} (hg : (w.alloc (.cells #[.bool false, .slice none 0 0] 28)).grownBy w3 (some g)) (hgw : g < w.heap.size) (hb : Below w3.heap.size w3 w4) :
    w4.cell? ⟨w.heap.size, 0, none⟩ = some (.bool false) ∧ w4.cell? ⟨w.heap.size, 1, none⟩ = some (.slice none 0 0) ∧ w4.frozen? ⟨w.heap.size, 0, none⟩ = false ∧ w4.frozen? ⟨w.heap.size, 1, none⟩ = false := by
  have hs := hg.size
  simp at hs
  have h1 : w4.heap[w.heap.size]? = (w.alloc (.cells #[.bool false, .slice none 0 0] 28)).heap[w.heap.size]? :=
    (hb.block _ (by omega)).trans (hg.block _ (by simp) (by simp; omega))
  refine ⟨?_, ?_, ?_, ?_⟩
  · rw [World.cell?_of_block (w := w.alloc (.cells #[.bool false, .slice none 0 0] 28)) h1, World.cell?_alloc_at _ _ _ _ rfl]; rfl
  · rw [World.cell?_of_block (w := w.alloc (.cells #[.bool false, .slice none 0 0] 28)) h1, World.cell?_alloc_at _ _ _ _ rfl]; rfl
  · rw [World.frozen?_of_block (w := w.alloc (.cells #[.bool false, .slice none 0 0] 28)) h1]; exact World.frozen?_alloc_at _ _ _ _ rfl
  · rw [World.frozen?_of_block (w := w.alloc (.cells #[.bool false, .slice none 0 0] 28)) h1]; exact World.frozen?_alloc_at _ _ _ _ rfl

set_option maxHeartbeats 400000 in
theorem fromWords_any (base g m : Nat) (ys : List Int) (w : World) (h : Own w base g m ys) (hd : Dig ys) (hm : m ≤ 1048577) (hm0 : m ≠ 0) (hb : base ≤ w.heap.size) :
    Calls Try.prog 99 #[.slice (some ⟨g, 0, none⟩) m m] w fun e w' => ∃ ng A n2 c2, e = .returned (.agg #[.bool ng, .slice A n2 c2]) ∧ Ival w' (.agg #[.bool ng, .slice A n2 c2]) (if 2147483648 ≤ ys.getD (m - 1) 0 then val ys - BB ^ m else val ys) m ∧ Below base w w' := by
  have hW := below_alloc w (.cells #[.bool false, .slice none 0 0] 28)
  have hgb := h.lt
  have hA : Own (w.alloc (.cells #[.bool false, .slice none 0 0] 28)) base g m ys := h.below hW
  have HO := Lib.hid hA
  obtain ⟨t, ht⟩ : ∃ t, ys.getD (m - 1) 0 = t := ⟨_, rfl⟩
  have bt := hd.getD (m - 1)
  rw [ht, BB_def] at bt
  obtain ⟨bt0, bt1⟩ := bt
  have hc : (w.alloc (.cells #[.bool false, .slice none 0 0] 28)).cell? ⟨g, m - 1, none⟩ = some (.int .u32 t) := by rw [← ht]; exact hA.cell (by omega)
  rw [ht]
  have q1 : (0 : Int) ≤ (m : Int) - 1 := by omega
  have q2 : (m : Int) - 1 < (m : Int) := by omega
  have q3 : ((m : Int) - 1).toNat = m - 1 := by omega
  have HT := Lib.hid ht
  clear h hA ht
  by_cases htop : 2147483648 ≤ t
  · have h31 : (t / 2147483648 == 1) = true := by simp; omega
    rw [if_pos htop]
    go_enter Try.func99, Try.ntmps99
    go_wp2_with fail
    refine (complement_any base g m ys _ HO.out hd (by omega)).mono ?_
    rintro e w3 ⟨rfl, ⟨zs, hyd, hyv, hyo⟩, hg3⟩
    have HYV := Lib.hid hyv
    have HYO := Lib.hid hyo
    clear hyv hyo
    go_wp2_with fail
    refine (signed_out_row true _ m m zs w3 HYO.out.row (by omega) hyd).mono ?_
    rintro e w4 ⟨ng, A2, n2, c2, rfl, hv2, hb2⟩
    have hB := room_grown hg3 (by omega) hb2
    obtain ⟨e1, e2, f1, f2⟩ := hB
    have hfin : withSign true (val zs) = val ys - BB ^ m := by
      have h1 := val_take_succ ys (m - 1)
      have hl := HO.out.length
      rw [show m - 1 + 1 = m from by omega, List.take_of_length_le (by omega), HT.out] at h1
      have h2 := (val_bounds (hd.take (m - 1))).1
      have h3 : BB ^ (m - 1) * 1 ≤ BB ^ (m - 1) * t := Int.mul_le_mul_of_nonneg_left (by omega) (Int.le_of_lt (BB_pos _))
      have h4 := BB_pos (m - 1)
      have h5 := (val_bounds hd).2
      rw [hl] at h5
      rw [HYV.out, Int.emod_eq_of_lt (by omega) (by omega)]
      unfold withSign
      rw [if_pos rfl]
      omega
    have HF := Lib.hid hfin
    clear hfin
    go_wp2
    refine bodyPost_ret (v := .agg #[.bool ng, .slice A2 n2 c2]) (by simp [results, Try.results99, go_sem, e1, e2]) rfl ⟨_, _, _, _, rfl, ?_, ?_⟩
    · rw [← HF.out]; exact hv2.stored e1 e2 _ _
    · exact ((((((hW.mono hb).grown hg3 (by simp; omega) (fun k hk => by have e : g = k := (by simpa using hk); omega))).trans (hb2.mono (by have := hg3.size; simp at this; omega))).setCell (by show _ ≤ _; omega) _).setCell (by show _ ≤ _; omega) _)
  · have h31 : (t / 2147483648 == 1) = false := by simp; omega
    rw [if_neg htop]
    go_enter Try.func99, Try.ntmps99
    go_wp2_with fail
    refine (signed_out_row false _ m m ys _ HO.out.row (by omega) hd).mono ?_
    rintro e w4 ⟨ng, A2, n2, c2, rfl, hv2, hb2⟩
    have hB := hb2.mono (B' := w.heap.size + 1) (by simp)
    obtain ⟨e1, e2, f1, f2⟩ := room0 hB
    go_wp2
    refine bodyPost_ret (v := .agg #[.bool ng, .slice A2 n2 c2]) (by simp [results, Try.results99, go_sem, e1, e2]) rfl ⟨_, _, _, _, rfl, ?_, ?_⟩
    · have e0 : withSign false (val ys) = val ys := rfl
      rw [← e0]; exact hv2.stored e1 e2 _ _
    · exact (((hW.mono hb).trans (hB.mono (by omega))).setCell (by show _ ≤ _; omega) _).setCell (by show _ ≤ _; omega) _

end Go.Proofs.Ytoanomgdkkbbmaa
