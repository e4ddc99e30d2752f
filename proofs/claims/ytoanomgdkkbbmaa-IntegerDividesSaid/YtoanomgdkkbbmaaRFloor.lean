/- The reference's Floor, by a number above 0, and Two. -/
import Derived.Test.YtoanomgdkkbbmaaRDivide
import Derived.Test.YtoanomgdkkbbmaaBitsLaw
namespace Go.Proofs.Ytoanomgdkkbbmaa
open Go.RowKit LM

theorem floor_parts {a b : Int} (p : Bool) (hb : 0 < b) : withSign p a / b = withSign p (a / b) - if p && decide (a % b ≠ 0) then 1 else 0 := by
  cases p with
  | false => simp [withSign]
  | true =>
    have h1 := Int.emod_add_mul_ediv a b
    have h2 := Int.emod_nonneg a (show b ≠ 0 by omega)
    have h3 := Int.emod_lt_of_pos a hb
    simp only [withSign, if_true, Bool.true_and]
    by_cases h0 : a % b = 0
    · rw [decide_eq_false (by simpa using h0)]
      generalize a / b = q at *
      have e : -a = b * (-q) := by rw [← h1, h0, Int.mul_neg]; omega
      rw [e, Int.mul_ediv_cancel_left _ (by omega)]; simp
    · rw [decide_eq_true (by simpa using h0)]
      generalize a / b = q at *
      generalize a % b = r at *
      have e : -a = (b - r) + b * (-q - 1) := by rw [← h1, Int.mul_sub, Int.mul_neg, Int.mul_one]; omega
      rw [e, Int.add_mul_ediv_left _ _ (by omega), Int.ediv_eq_zero_of_lt (by omega) (by omega)]
      simp only [if_true]; omega

set_option maxRecDepth 100000 in
set_option maxHeartbeats 4000000 in
theorem rFloor_any (u v : Value) (x y : Int) (L M : Nat) (w : World) (h : Rval w u x L) (g : Rval w v y M) (hy : 0 < y) (hL : L ≤ 100000) (hM : M ≤ 100000) :
    Calls Try.prog 104 #[u, v] w fun e w' => (∃ ng A2 n2 c2, e = .returned (.agg #[.bool ng, .slice A2 n2 c2]) ∧ Rval w' (.agg #[.bool ng, .slice A2 n2 c2]) (x / y) (L + 100)) ∧ Below w.heap.size w w' := by
  obtain ⟨p, A, n, c, xs, rfl, hr, hd, ht, hz, hp, hn⟩ := h
  obtain ⟨q, B, m, d, ys, rfl, gr, gd, gt, gz, gq, gm⟩ := g
  have hy0 := valR_nonneg (by decide : (0 : Int) ≤ 65536) gd
  obtain rfl : q = false := by
    cases q with
    | false => rfl
    | true => simp [withSign] at gz; omega
  have hby : valR 65536 ys = y := by rw [gz]; simp [withSign]
  have hpos : 0 < valR 65536 ys := by omega
  have hW : Below w.heap.size w (((w.alloc (.cells #[.bool p, .slice A n c] 31)).alloc (.cells #[.bool false, .slice B m d] 31)).alloc (.cells #[.bool false, .slice none 0 0] 31)) := (below_two w _ _).alloc (by simp; omega) _
  have hs3 : w.heap.size + 3 ≤ (((w.alloc (.cells #[.bool p, .slice A n c] 31)).alloc (.cells #[.bool false, .slice B m d] 31)).alloc (.cells #[.bool false, .slice none 0 0] 31)).heap.size := by simp <;> omega
  have HX := Lib.hid (hr.below hW)
  have HY := Lib.hid (gr.below hW)
  have HB := Lib.hid (fun (w' : World) (hb : Below (w.heap.size + 3) (((w.alloc (.cells #[.bool p, .slice A n c] 31)).alloc (.cells #[.bool false, .slice B m d] 31)).alloc (.cells #[.bool false, .slice none 0 0] 31)) w') => add_boxes (hb.mono (by omega)))
  have HRM := Lib.hid (fun (w' : World) (hb : Below (w.heap.size + 3) (((w.alloc (.cells #[.bool p, .slice A n c] 31)).alloc (.cells #[.bool false, .slice B m d] 31)).alloc (.cells #[.bool false, .slice none 0 0] 31)) w') => add_room hb)
  have hB0 := Below.refl (w.heap.size + 3) (((w.alloc (.cells #[.bool p, .slice A n c] 31)).alloc (.cells #[.bool false, .slice B m d] 31)).alloc (.cells #[.bool false, .slice none 0 0] 31))
  have HE := Lib.hid (show x / y = withSign p (valR 65536 xs / valR 65536 ys) - (if p && decide (valR 65536 xs % valR 65536 ys ≠ 0) then 1 else 0) by rw [hz, ← hby]; exact floor_parts p hpos)
  have hmod0 : 0 ≤ valR 65536 xs % valR 65536 ys := Int.emod_nonneg _ (by omega)
  clear hr gr gz hby hz hy
  go_enter Try.func104, Try.ntmps104
  go_wp2_with fail
  refine (rDivide_any p false A B n c m d xs ys _ HX.out HY.out hd gd gt hpos (by omega) (by omega)).mono ?_
  rintro e w2 ⟨⟨g1, A1, n1, c1, g2, A2, n2, c2, rfl, hq, hrm⟩, hb2⟩
  have hB2 := hB0.trans (hb2.mono (B' := w.heap.size + 3) hs3)
  have hz2 := Nat.le_trans hs3 hB2.size
  have h2 := below_two w2 (.cells #[.bool g1, .slice A1 n1 c1] 31) (.cells #[.bool g2, .slice A2 n2 c2] 31)
  have hB3 := hB2.trans (h2.mono (B' := w.heap.size + 3) hz2)
  have hz3 := Nat.le_trans hs3 hB3.size
  have hQ3 := Below.refl (w2.heap.size + 2) ((w2.alloc (.cells #[.bool g1, .slice A1 n1 c1] 31)).alloc (.cells #[.bool g2, .slice A2 n2 c2] 31))
  have hsz : w2.heap.size + 2 ≤ ((w2.alloc (.cells #[.bool g1, .slice A1 n1 c1] 31)).alloc (.cells #[.bool g2, .slice A2 n2 c2] 31)).heap.size := by simp
  rw [Bool.bne_false] at hq
  have HQ := Lib.hid (hq.below h2)
  have HR := Lib.hid (hrm.below h2)
  obtain ⟨k0, k1, k2, k3⟩ := boxes_gen hQ3
  clear hq hrm
  go_wp2_with fail
  refine (rsign_any _ _ n _ HR.out (by omega)).mono ?_
  rintro e w4 ⟨rfl, hb4⟩
  have hB4 := hB3.trans (hb4.mono (B' := w.heap.size + 3) hz3)
  have hz4 := Nat.le_trans hs3 hB4.size
  have hQ4 := hQ3.trans (hb4.mono (B' := w2.heap.size + 2) hsz)
  have hsz4 := Nat.le_trans hsz hQ4.size
  have HQ4 := Lib.hid (HQ.out.below hb4)
  obtain ⟨sg, hsg⟩ : ∃ sg, cmpI (withSign p (valR 65536 xs % valR 65536 ys)) 0 = sg := ⟨_, rfl⟩
  rw [hsg]
  have HSG := Lib.hid hsg
  clear k0 k1 k2 k3 hsg
  obtain ⟨k0, k1, k2, k3⟩ := boxes_gen hQ4
  obtain ⟨j0, j1, j2, j3, _⟩ := HB.out _ hB4
  by_cases hc : (p && decide (valR 65536 xs % valR 65536 ys ≠ 0)) = true
  · have hif : (if p && decide (valR 65536 xs % valR 65536 ys ≠ 0) then (1 : Int) else 0) = 1 := by rw [hc]; rfl
    have HIF := Lib.hid hif
    obtain ⟨hp1, hm1⟩ := Bool.and_eq_true_iff.1 hc
    subst hp1
    have hm2 : valR 65536 xs % valR 65536 ys ≠ 0 := of_decide_eq_true hm1
    have hs0 : (sg != 0) = true := by
      rw [← HSG.out, cmpI_lt (by simp [withSign]; omega)]; rfl
    clear hc hm1 hm2 hif
    go_wp2_with fail
    have hBd := hB4.drew
    have hQd := hQ4.drew
    have HQd := Lib.hid (HQ4.out.below ((Below.refl w4.heap.size w4).drew))
    refine wp_region_held_drew (S := fun w' => w'.cell? ⟨w2.heap.size, 0, none⟩ = some (.bool g1) ∧ w'.cell? ⟨w2.heap.size, 1, none⟩ = some (.slice A1 n1 c1)) (by kernel_rfl) ⟨k0, k1⟩ (fun hHeld0 => ?_)
    refine wpAnyH_taken (i := 0) (d := some 25) (v := ?_) rfl rfl (by kernel_rfl) (by kernel_rfl) (by kernel_rfl) (fun _ _ _ h => h) (Or.inl ⟨by rfl, ?_⟩) (by assumption) ?_
    rotate_left 1
    · (intro w hSw; (try dsimp only at hSw); go_simp; try with_reducible rfl)
    try simp only [Act.put, List.setIfInBounds_toArray, List.set_cons_zero, List.set_cons_succ]
    refine wpAnyH_ready (rs := [1]) (by kernel_rfl) (by simp) ?_
    refine AllReadyH.cons rfl (fun K hK => ?_) AllReadyH.nil
    try simp only [List.getElem_toArray, List.getElem_cons_zero, List.getElem_cons_succ]
    go_simp
    (go_at_call 18; refine (rnew_any 1 _ (by decide) (by decide)).mono ?_; rintro e w5 ⟨⟨ng5, A5, n5, c5, rfl, hv5⟩, hb5⟩)
    have hB5 := hBd.trans (hb5.mono (B' := w.heap.size + 3) (Nat.le_trans hs3 hBd.size))
    have hQ5 := hQd.trans (hb5.mono (B' := w2.heap.size + 2) (Nat.le_trans hsz hQd.size))
    have HV5 := Lib.hid hv5
    have HQ5 := Lib.hid (HQd.out.below hb5)
    clear hv5 k0 k1 k2 k3
    obtain ⟨k0, k1, k2, k3⟩ := boxes_gen hQ5
    refine hK.out _ _ ⟨k0, k1⟩ (fun hHeld1 => ?_)
    clear hK K
    try simp only [Act.put, List.setIfInBounds_toArray, List.set_cons_zero, List.set_cons_succ]
    refine wpAnyH_ready (rs := [2]) (by kernel_rfl) (by simp) ?_
    refine AllReadyH.cons rfl (fun K hK => ?_) AllReadyH.nil
    try simp only [List.getElem_toArray, List.getElem_cons_zero, List.getElem_cons_succ]
    go_simp
    (go_at_call 41; refine (rsub_any _ _ _ 1 n 64 _ HQ5.out HV5.out (by omega) (by decide)).mono ?_; rintro e w6 ⟨⟨ng6, A6, n6, c6, rfl, hv6⟩, hb6⟩)
    have hB6 := hB5.trans (hb6.mono (B' := w.heap.size + 3) (Nat.le_trans hs3 hB5.size))
    have hQ6 := hQ5.trans (hb6.mono (B' := w2.heap.size + 2) (Nat.le_trans hsz hQ5.size))
    have HV6 := Lib.hid hv6
    clear hv6 k0 k1 k2 k3
    obtain ⟨k0, k1, k2, k3⟩ := boxes_gen hQ6
    obtain ⟨e1, e2, f1, f2⟩ := HRM.out _ hB6
    refine hK.out _ _ ⟨k0, k1⟩ (fun hHeld2 => ?_)
    clear hK K
    try simp only [Act.put, List.setIfInBounds_toArray, List.set_cons_zero, List.set_cons_succ]
    refine wpAnyH_ready (rs := [3]) (by kernel_rfl) (by simp) ?_
    refine AllReadyH.cons rfl (fun K hK => ?_) AllReadyH.nil
    try simp only [List.getElem_toArray, List.getElem_cons_zero, List.getElem_cons_succ]
    go_simp
    refine hK.out _ _ ⟨?_, ?_⟩ (fun hHeld3 => ?_)
    · rw [World.cell?_setCell_other _ _ _ _ (by simp <;> omega), World.cell?_setCell_other _ _ _ _ (by simp <;> omega)]; exact k0
    · rw [World.cell?_setCell_other _ _ _ _ (by simp <;> omega), World.cell?_setCell_other _ _ _ _ (by simp <;> omega)]; exact k1
    clear hK K
    try simp only [Act.put, List.setIfInBounds_toArray, List.set_cons_zero, List.set_cons_succ]
    refine wpAnyH_done (by kernel_rfl) ?_ _
    go_wp2
    refine bodyPost_ret (v := .agg #[.bool ng6, .slice A6 n6 c6]) (by simp [results, Try.results104, go_sem, e1, e2]) rfl ⟨⟨_, _, _, _, rfl, ?_⟩, ?_⟩
    · rw [HE.out, HIF.out]; exact (HV6.out.mono (by omega)).stored e1 e2 _ _
    · exact ((hW.trans (hB6.mono (by omega))).setCell (by show _ ≤ _; simp; omega) _).setCell (by show _ ≤ _; simp; omega) _
  · have hif : (if p && decide (valR 65536 xs % valR 65536 ys ≠ 0) then (1 : Int) else 0) = 0 := by rw [if_neg hc]
    have HIF := Lib.hid hif
    obtain ⟨e1, e2, f1, f2⟩ := HRM.out _ hB4
    cases p with
    | false =>
      clear hc hif
      by_cases hs0 : sg = 0
      · have hs1 : (sg != 0) = false := by simpa using hs0
        clear hs0
        go_wp2
        refine bodyPost_ret (v := .agg #[.bool g1, .slice A1 n1 c1]) (by simp [results, Try.results104, go_sem, e1, e2]) rfl ⟨⟨_, _, _, _, rfl, ?_⟩, ?_⟩
        · rw [HE.out, HIF.out, Int.sub_zero]; exact (HQ4.out.mono (by omega)).stored e1 e2 _ _
        · exact ((hW.trans (hB4.mono (by omega))).setCell (by show _ ≤ _; simp; omega) _).setCell (by show _ ≤ _; simp; omega) _
      · have hs1 : (sg != 0) = true := by simpa using hs0
        clear hs0
        go_wp2
        refine bodyPost_ret (v := .agg #[.bool g1, .slice A1 n1 c1]) (by simp [results, Try.results104, go_sem, e1, e2]) rfl ⟨⟨_, _, _, _, rfl, ?_⟩, ?_⟩
        · rw [HE.out, HIF.out, Int.sub_zero]; exact (HQ4.out.mono (by omega)).stored e1 e2 _ _
        · exact ((hW.trans (hB4.mono (by omega))).setCell (by show _ ≤ _; simp; omega) _).setCell (by show _ ≤ _; simp; omega) _
    | true =>
      have hm0 : valR 65536 xs % valR 65536 ys = 0 := by simpa using hc
      have hs0 : (sg != 0) = false := by rw [← HSG.out, hm0]; decide
      clear hc hif hm0
      go_wp2
      refine bodyPost_ret (v := .agg #[.bool g1, .slice A1 n1 c1]) (by simp [results, Try.results104, go_sem, e1, e2]) rfl ⟨⟨_, _, _, _, rfl, ?_⟩, ?_⟩
      · rw [HE.out, HIF.out, Int.sub_zero]; exact (HQ4.out.mono (by omega)).stored e1 e2 _ _
      · exact ((hW.trans (hB4.mono (by omega))).setCell (by show _ ≤ _; simp; omega) _).setCell (by show _ ≤ _; simp; omega) _

theorem two_digs (q : Nat) (z : Int) : valR 65536 (List.replicate q 0 ++ [z]) = 65536 ^ q * z := by
  rw [valR_append, valR_zeros, List.length_replicate]; simp [valR]

set_option maxRecDepth 100000 in
set_option maxHeartbeats 2000000 in
theorem rTwo_any (N : Int) (n : Nat) (hN : N = (n : Int)) (w : World) (hn : n ≤ 100000) :
    Calls Try.prog 95 #[.int .i64 N] w fun e w' => (∃ ng A2 n2 c2, e = .returned (.agg #[.bool ng, .slice A2 n2 c2]) ∧ Rval w' (.agg #[.bool ng, .slice A2 n2 c2]) (2 ^ n) (n / 16 + 1)) ∧ Below w.heap.size w w' := by
  subst hN
  obtain ⟨i0, hi, hz0, hz1, hz2⟩ := info_parts Try.info3
  obtain ⟨q, hq⟩ : ∃ q, n / 16 = q := ⟨_, rfl⟩
  obtain ⟨r, hr⟩ : ∃ r, n % 16 = r := ⟨_, rfl⟩
  have hr16 : r < 16 := by omega
  have HN := Lib.hid (show n = 16 * q + r by omega)
  have hqb : q ≤ 6250 := by omega
  have t1 : (n : Int).tdiv 16 = (q : Int) := by rw [Int.tdiv_eq_ediv_of_nonneg (by omega)]; omega
  have t2 : (n : Int).tmod 16 = (r : Int) := by rw [Int.tmod_eq_emod_of_nonneg (by omega)]; omega
  have hW := below_alloc w (.cells #[.bool false, .slice none 0 0] 31)
  have hD0 := Below.refl (w.heap.size + 1) (w.alloc (.cells #[.bool false, .slice none 0 0] 31))
  rw [hq]
  clear hq hr
  go_enter Try.func95, Try.ntmps95
  go_wp2_with (at_make; refine wpList_make_full _ rfl _ _ 29 rfl (w.heap.size + 1) 3 i0 (.int .i64 0) 1 Try.underlying29 hi hz0 hz1 _ _ _ _ (q + 1) rfl rfl (by omega) (by omega) (by rw [hz2]; omega) (by unfold maxLen; omega) (by simp) ?_; intro w1 hown hgrow; rw [zeros_made64] at hown; have ho1 : Own64 w1 (w.heap.size + 1) (w.alloc (.cells #[.bool false, .slice none 0 0] 31)).heap.size (q + 1) (List.replicate (q + 1) 0) := hown; rw [show (w.alloc (.cells #[.bool false, .slice none 0 0] 31)).heap.size = w.heap.size + 1 from by simp] at ho1; have hcu := ho1.cell (show q < q + 1 by omega); have hfr := ho1.frozen q; have hB1 := hD0.grown hgrow (by simp) (fun _ h => by cases h))
  go_loopw [4] (fun iv wr => ∃ j : Nat, iv = .int .i64 j ∧ j ≤ r ∧ Own64 wr (w.heap.size + 1) (w.heap.size + 1) (q + 1) (List.replicate q 0 ++ [2 ^ j]) ∧ Below (w.heap.size + 1) (w.alloc (.cells #[.bool false, .slice none 0 0] 31)) wr) (fun iv _ => r - (intOf iv).toNat)
  case atStart =>
    refine ⟨0, rfl, Nat.zero_le _, ?_, hB1.setCell (p := ⟨w.heap.size + 1, q, none⟩) (Nat.le_refl _) _⟩
    have h1 := ho1.set q 1
    have e : (List.replicate (q + 1) (0 : Int)).set q 1 = List.replicate q 0 ++ [2 ^ 0] := by
      rw [List.replicate_succ', List.set_append_right _ _ (by simp), List.length_replicate, Nat.sub_self]; rfl
    rw [e] at h1
    exact h1
  case round =>
    obtain ⟨j, rfl, hj, ho, hb⟩ := hrel
    obtain ⟨z, hz⟩ : ∃ z, (2 : Int) ^ j = z := ⟨_, rfl⟩
    have hz0 : 0 < z := by rw [← hz]; exact two_pos j
    have hz1 : z ≤ 65536 := by
      have := two_mono (show j ≤ 16 by omega)
      have e : (2 : Int) ^ 16 = 65536 := by decide
      omega
    have hzs : (2 : Int) ^ (j + 1) = z * 2 := by rw [Int.pow_succ, hz]
    have hget : (List.replicate q (0 : Int) ++ [2 ^ j]).getD q 0 = z := by
      simp only [List.getD]; rw [List.getElem?_append_right (by simp), List.length_replicate, Nat.sub_self, ← hz]; rfl
    have hcl := ho.cell (show q < q + 1 by omega)
    rw [hget] at hcl
    have hfr2 := ho.frozen q
    have hset := ho.set q (z * 2)
    have e : (List.replicate q (0 : Int) ++ [2 ^ j]).set q (z * 2) = List.replicate q 0 ++ [2 ^ (j + 1)] := by
      rw [List.set_append_right _ _ (by simp), List.length_replicate, Nat.sub_self, hzs]; rfl
    rw [e] at hset
    have HSET := Lib.hid hset
    have HO := Lib.hid ho
    have HZ := Lib.hid hz
    clear hset ho hz hzs hget e
    by_cases hjr : j < r
    · have hji : (j : Int) < (r : Int) := by omega
      go_wp2_with fail
      exact ⟨⟨j + 1, by go_num, hjr, HSET.out, hb.setCell (p := ⟨w.heap.size + 1, q, none⟩) (Nat.le_refl _) _⟩, by simp [intOf]; omega⟩
    · obtain rfl : j = r := by omega
      have hrow : Row .i64 wr (some ⟨w.heap.size + 1, 0, none⟩) (q + 1) (q + 1) (List.replicate q 0 ++ [2 ^ j]) := Row.of_own HO.out
      have hdg : DigR 65536 (List.replicate q (0 : Int) ++ [2 ^ j]) := by
        intro d hd
        rcases List.mem_append.1 hd with h' | h'
        · simp at h'; rw [h'.2]; decide
        · simp at h'; rw [h', HZ.out]
          have := two_mono (show j ≤ 15 by omega)
          have e : (2 : Int) ^ 15 = 32768 := by decide
          have := HZ.out
          omega
      have HROW := Lib.hid hrow
      have HDG := Lib.hid hdg
      have hbs : w.heap.size + 1 ≤ wr.heap.size := by have := hb.size; simpa using this
      clear hrow hdg hcl hfr2
      go_wp2_with fail
      refine (rmade_any false _ _ _ _ _ HROW.out (by omega) HDG.out).mono ?_
      rintro e w2 ⟨ng, A2, n2, c2, rfl, hv2, hb2⟩
      have hB2 := hb.trans (hb2.mono (B' := w.heap.size + 1) hbs)
      obtain ⟨e1, e2, f1, f2⟩ := room31 hB2
      have HV2 := Lib.hid hv2
      clear hv2
      go_wp2
      refine bodyPost_ret (v := .agg #[.bool ng, .slice A2 n2 c2]) (by simp [results, Try.results95, go_sem, e1, e2]) rfl ⟨⟨_, _, _, _, rfl, ?_⟩, ?_⟩
      · have hv : withSign false (valR 65536 (List.replicate q 0 ++ [2 ^ j])) = 2 ^ n := by
          rw [two_digs, HN.out, Int.pow_add, Int.pow_mul]; rfl
        rw [← hv]; exact HV2.out.stored e1 e2 _ _
      · exact ((hW.trans (hB2.mono (by omega))).setCell (Nat.le_refl _) _).setCell (Nat.le_refl _) _

end Go.Proofs.Ytoanomgdkkbbmaa
