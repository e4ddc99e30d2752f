/- IntegerActs: the walk. -/
import Derived.Test.YtoanomgdkkbbmaaActs0
namespace Go.Proofs.Ytoanomgdkkbbmaa
open Go.RowKit LM

set_option maxRecDepth 100000 in
set_option maxHeartbeats 80000000 in
theorem acts_any (p q : Bool) (A B : Option Addr) (n c m d : Nat) (xs ys : List Int) (w : World) (h : Row .u32 w A n c xs) (hd : Dig xs) (g : Row .u32 w B m d ys) (gd : Dig ys) :
    Calls Try.prog 4 #[.agg #[.bool p, .slice A n c], .agg #[.bool q, .slice B m d]] w fun e w' => e = .returned (.bool true) ∧ Below w.heap.size w w' := by
  have hW := below_two w (.cells #[.bool p, .slice A n c] 24) (.cells #[.bool q, .slice B m d] 24)
  have HH := Lib.hid h
  have HD := Lib.hid hd
  have GH := Lib.hid g
  have GD := Lib.hid gd
  clear h hd g gd
  have bx := Lib.hid (Bx.new1 w p q (.slice A n c) (.slice B m d) 24 24)
  have by0 := Lib.hid (Bx.new2 w p q (.slice A n c) (.slice B m d) 24 24)
  go_enter Try.func4, Try.ntmps4
  go_wp2_with fail
  refine (short_any _ 2 [n, m] 8 _ (lens2 _ (by simp) p q A B n c m d) (by omega)).mono ?_
  rintro e w1 ⟨rfl, hb⟩
  have hk := (below_alloc ((w.alloc (.cells #[.bool p, .slice A n c] 24)).alloc (.cells #[.bool q, .slice B m d] 24)) (.cells #[.bool p, .slice A n c, .bool q, .slice B m d] 24)).trans (hb.mono (by simp))
  have hw := hW.trans (hk.mono hW.size)
  replace bx := Lib.hid (bx.out.below hk)
  replace by0 := Lib.hid (by0.out.below hk)
  clear hk hb hW
  cases ht : tooLong [n, m] 8 with
  | true =>
    go_wp2_with fail
    refine (awake_any _).mono ?_
    rintro e wz ⟨rfl, hb⟩
    go_wp2
    go_ret
    exact ⟨rfl, hw.trans (hb.mono hw.size)⟩
  | false =>
    have hn : n ≤ 8 ∧ m ≤ 8 := by simp [tooLong] at ht; omega
    obtain ⟨hn, hm⟩ := hn
    clear ht
    obtain ⟨-, cxa, cxb⟩ := bx.out
    go_wp2_with fail
    refine (of_any p A n c xs _ (HH.out.below hw) (by omega) HD.out).mono ?_
    rintro e w3 ⟨g1, A1, n1, d1, g2, A2, n2, d2, rfl, hv, hr, hb⟩
    obtain ⟨x, hx⟩ : ∃ x, withSign p (val xs) = x := ⟨_, rfl⟩
    rw [hx] at hv hr
    clear cxa cxb bx HH HD
    have hX := below_two w3 (.cells #[.bool g1, .slice A1 n1 d1] 28) (.cells #[.bool g2, .slice A2 n2 d2] 31)
    have hk := hb.trans (hX.mono hb.size)
    replace by0 := Lib.hid (by0.out.below hk)
    replace hw := hw.trans (hk.mono hw.size)
    have b1 := Lib.hid (Bx.new1 w3 g1 g2 (.slice A1 n1 d1) (.slice A2 n2 d2) 28 31)
    have b2 := Lib.hid (Bx.new2 w3 g1 g2 (.slice A1 n1 d1) (.slice A2 n2 d2) 28 31)
    have V1 := Lib.hid ((hv.mono hn).below hX)
    have V2 := Lib.hid ((hr.mono (show 2 * n ≤ 16 by omega)).below hX)
    clear hX hk hb hv hr hx
    obtain ⟨-, cy0a, cy0b⟩ := by0.out
    go_wp2_with fail
    refine (of_any q B m d ys _ (GH.out.below hw) (by omega) GD.out).mono ?_
    rintro e w4 ⟨g3, A3, n3, d3, g4, A4, n4, d4, rfl, hv, hr, hb⟩
    obtain ⟨y, hy⟩ : ∃ y, withSign q (val ys) = y := ⟨_, rfl⟩
    rw [hy] at hv hr
    clear cy0a cy0b
    have hX := below_two w4 (.cells #[.bool g3, .slice A3 n3 d3] 28) (.cells #[.bool g4, .slice A4 n4 d4] 31)
    have hk := hb.trans (hX.mono hb.size)
    clear by0
    replace b1 := Lib.hid (b1.out.below hk)
    replace V1 := Lib.hid (V1.out.below hk)
    replace b2 := Lib.hid (b2.out.below hk)
    replace V2 := Lib.hid (V2.out.below hk)
    replace hw := hw.trans (hk.mono hw.size)
    have b3 := Lib.hid (Bx.new1 w4 g3 g4 (.slice A3 n3 d3) (.slice A4 n4 d4) 28 31)
    have b4 := Lib.hid (Bx.new2 w4 g3 g4 (.slice A3 n3 d3) (.slice A4 n4 d4) 28 31)
    have V3 := Lib.hid ((hv.mono hm).below hX)
    have V4 := Lib.hid ((hr.mono (show 2 * m ≤ 16 by omega)).below hX)
    clear hX hk hb hv hr hy GH GD
    obtain ⟨-, c1a, c1b⟩ := b1.out
    obtain ⟨-, c3a, c3b⟩ := b3.out
    go_wp2_with fail
    refine (DivideE_int _ _ x y 8 8 _ V1.out V3.out (by decide) (by decide)).mono ?_
    rintro e w5 ⟨⟨g5, A5, n5, d5, g6, A6, n6, d6, rfl, hv, hr⟩, hb⟩
    obtain ⟨de, hde⟩ : ∃ de, divE y = de := ⟨_, rfl⟩
    rw [hde]
    have HDE := Lib.hid hde
    clear hde
    clear c1a c1b c3a c3b
    have hX := below_two w5 (.cells #[.bool g5, .slice A5 n5 d5] 28) (.cells #[.bool g6, .slice A6 n6 d6] 28)
    have hk := hb.trans (hX.mono hb.size)
    replace b1 := Lib.hid (b1.out.below hk)
    replace V1 := Lib.hid (V1.out.below hk)
    replace b2 := Lib.hid (b2.out.below hk)
    replace V2 := Lib.hid (V2.out.below hk)
    replace b3 := Lib.hid (b3.out.below hk)
    replace V3 := Lib.hid (V3.out.below hk)
    replace b4 := Lib.hid (b4.out.below hk)
    replace V4 := Lib.hid (V4.out.below hk)
    replace hw := hw.trans (hk.mono hw.size)
    have b5 := Lib.hid (Bx.new1 w5 g5 g6 (.slice A5 n5 d5) (.slice A6 n6 d6) 28 28)
    have b6 := Lib.hid (Bx.new2 w5 g5 g6 (.slice A5 n5 d5) (.slice A6 n6 d6) 28 28)
    have V5 := Lib.hid (hv.below hX)
    have V6 := Lib.hid (hr.below hX)
    clear hX hk hb hv hr
    obtain ⟨-, c2a, c2b⟩ := b2.out
    obtain ⟨-, c4a, c4b⟩ := b4.out
    go_wp2_with fail
    refine (rDivideE_int _ _ x y 16 16 _ V2.out V4.out (by decide) (by decide)).mono ?_
    rintro e w6 ⟨⟨g7, A7, n7, d7, g8, A8, n8, d8, rfl, hv, hr⟩, hb⟩
    rw [HDE.out]
    clear c2a c2b c4a c4b
    have hX := below_two w6 (.cells #[.bool g7, .slice A7 n7 d7] 31) (.cells #[.bool g8, .slice A8 n8 d8] 31)
    have hk := hb.trans (hX.mono hb.size)
    replace b1 := Lib.hid (b1.out.below hk)
    replace V1 := Lib.hid (V1.out.below hk)
    replace b2 := Lib.hid (b2.out.below hk)
    replace V2 := Lib.hid (V2.out.below hk)
    replace b3 := Lib.hid (b3.out.below hk)
    replace V3 := Lib.hid (V3.out.below hk)
    replace b4 := Lib.hid (b4.out.below hk)
    replace V4 := Lib.hid (V4.out.below hk)
    replace b5 := Lib.hid (b5.out.below hk)
    replace V5 := Lib.hid (V5.out.below hk)
    replace b6 := Lib.hid (b6.out.below hk)
    replace V6 := Lib.hid (V6.out.below hk)
    replace hw := hw.trans (hk.mono hw.size)
    have b7 := Lib.hid (Bx.new1 w6 g7 g8 (.slice A7 n7 d7) (.slice A8 n8 d8) 31 31)
    have b8 := Lib.hid (Bx.new2 w6 g7 g8 (.slice A7 n7 d7) (.slice A8 n8 d8) 31 31)
    have V7 := Lib.hid (hv.below hX)
    have V8 := Lib.hid (hr.below hX)
    clear hX hk hb hv hr HDE
    go_upto_region 7 with fail
    generalize (w6.alloc (.cells #[.bool g7, .slice A7 n7 d7] 31)).alloc (.cells #[.bool g8, .slice A8 n8 d8] 31) = WB at *
    have HT := Lib.hid (fun (w' : World) (hb : Below WB.heap.size WB w') => (show w'.cell? ⟨w3.heap.size, 0, none⟩ = some (.bool g1) ∧ w'.cell? ⟨w3.heap.size, 1, none⟩ = some (.slice A1 n1 d1) ∧ w'.cell? ⟨w3.heap.size + 1, 0, none⟩ = some (.bool g2) ∧ w'.cell? ⟨w3.heap.size + 1, 1, none⟩ = some (.slice A2 n2 d2) ∧ w'.cell? ⟨w4.heap.size, 0, none⟩ = some (.bool g3) ∧ w'.cell? ⟨w4.heap.size, 1, none⟩ = some (.slice A3 n3 d3) ∧ w'.cell? ⟨w4.heap.size + 1, 0, none⟩ = some (.bool g4) ∧ w'.cell? ⟨w4.heap.size + 1, 1, none⟩ = some (.slice A4 n4 d4) ∧ w'.cell? ⟨w5.heap.size, 0, none⟩ = some (.bool g5) ∧ w'.cell? ⟨w5.heap.size, 1, none⟩ = some (.slice A5 n5 d5) ∧ w'.cell? ⟨w5.heap.size + 1, 0, none⟩ = some (.bool g6) ∧ w'.cell? ⟨w5.heap.size + 1, 1, none⟩ = some (.slice A6 n6 d6) ∧ w'.cell? ⟨w6.heap.size, 0, none⟩ = some (.bool g7) ∧ w'.cell? ⟨w6.heap.size, 1, none⟩ = some (.slice A7 n7 d7) ∧ w'.cell? ⟨w6.heap.size + 1, 0, none⟩ = some (.bool g8) ∧ w'.cell? ⟨w6.heap.size + 1, 1, none⟩ = some (.slice A8 n8 d8) ∧ Below WB.heap.size WB w' from ⟨(b1.out.below hb).2.1, (b1.out.below hb).2.2, (b2.out.below hb).2.1, (b2.out.below hb).2.2, (b3.out.below hb).2.1, (b3.out.below hb).2.2, (b4.out.below hb).2.1, (b4.out.below hb).2.2, (b5.out.below hb).2.1, (b5.out.below hb).2.2, (b6.out.below hb).2.1, (b6.out.below hb).2.2, (b7.out.below hb).2.1, (b7.out.below hb).2.2, (b8.out.below hb).2.1, (b8.out.below hb).2.2, hb⟩))
    clear b1 b2 b3 b4 b5 b6 b7 b8
    have HWB := Lib.hid hw
    clear hw
    have hB := (Below.refl WB.heap.size WB).drew
    replace V1 := Lib.hid (V1.out.below hB)
    replace V2 := Lib.hid (V2.out.below hB)
    replace V3 := Lib.hid (V3.out.below hB)
    replace V4 := Lib.hid (V4.out.below hB)
    replace V5 := Lib.hid (V5.out.below hB)
    replace V6 := Lib.hid (V6.out.below hB)
    replace V7 := Lib.hid (V7.out.below hB)
    replace V8 := Lib.hid (V8.out.below hB)
    refine wp_region_held_drew (S := fun w' => w'.cell? ⟨w3.heap.size, 0, none⟩ = some (.bool g1) ∧ w'.cell? ⟨w3.heap.size, 1, none⟩ = some (.slice A1 n1 d1) ∧ w'.cell? ⟨w3.heap.size + 1, 0, none⟩ = some (.bool g2) ∧ w'.cell? ⟨w3.heap.size + 1, 1, none⟩ = some (.slice A2 n2 d2) ∧ w'.cell? ⟨w4.heap.size, 0, none⟩ = some (.bool g3) ∧ w'.cell? ⟨w4.heap.size, 1, none⟩ = some (.slice A3 n3 d3) ∧ w'.cell? ⟨w4.heap.size + 1, 0, none⟩ = some (.bool g4) ∧ w'.cell? ⟨w4.heap.size + 1, 1, none⟩ = some (.slice A4 n4 d4) ∧ w'.cell? ⟨w5.heap.size, 0, none⟩ = some (.bool g5) ∧ w'.cell? ⟨w5.heap.size, 1, none⟩ = some (.slice A5 n5 d5) ∧ w'.cell? ⟨w5.heap.size + 1, 0, none⟩ = some (.bool g6) ∧ w'.cell? ⟨w5.heap.size + 1, 1, none⟩ = some (.slice A6 n6 d6) ∧ w'.cell? ⟨w6.heap.size, 0, none⟩ = some (.bool g7) ∧ w'.cell? ⟨w6.heap.size, 1, none⟩ = some (.slice A7 n7 d7) ∧ w'.cell? ⟨w6.heap.size + 1, 0, none⟩ = some (.bool g8) ∧ w'.cell? ⟨w6.heap.size + 1, 1, none⟩ = some (.slice A8 n8 d8) ∧ Below WB.heap.size WB w') (by kernel_rfl) (HT.out _ hB) (fun hHeldn => ?_)
    clear hHeldn
    generalize WB.drew = wr0 at *
    refine wpAnyH_taken (i := 0) (d := some 45) (v := ?_) rfl rfl (by kernel_rfl) (by kernel_rfl) (by kernel_rfl) (fun _ _ _ h => h) (Or.inl ⟨by rfl, ?_⟩) (by first | assumption | exact HT.out _ hB) ?_
    rotate_left 1
    · (intro w hSw; (try dsimp only at hSw); go_simp; try with_reducible rfl)
    try simp only [Act.put, List.setIfInBounds_toArray, List.set_cons_zero, List.set_cons_succ]
    refine wpAnyH_taken (i := 1) (d := some 46) (v := ?_) rfl rfl (by kernel_rfl) (by kernel_rfl) (by kernel_rfl) (fun _ _ _ h => h) (Or.inl ⟨by rfl, ?_⟩) (by first | assumption | exact HT.out _ hB) ?_
    rotate_left 1
    · (intro w hSw; (try dsimp only at hSw); go_simp; try with_reducible rfl)
    try simp only [Act.put, List.setIfInBounds_toArray, List.set_cons_zero, List.set_cons_succ]
    refine wpAnyH_taken (i := 3) (d := some 48) (v := ?_) rfl rfl (by kernel_rfl) (by kernel_rfl) (by kernel_rfl) (fun _ _ _ h => h) (Or.inl ⟨by rfl, ?_⟩) (by first | assumption | exact HT.out _ hB) ?_
    rotate_left 1
    · (intro w hSw; (try dsimp only at hSw); go_simp; try with_reducible rfl)
    try simp only [Act.put, List.setIfInBounds_toArray, List.set_cons_zero, List.set_cons_succ]
    refine wpAnyH_taken (i := 4) (d := some 49) (v := ?_) rfl rfl (by kernel_rfl) (by kernel_rfl) (by kernel_rfl) (fun _ _ _ h => h) (Or.inl ⟨by rfl, ?_⟩) (by first | assumption | exact HT.out _ hB) ?_
    rotate_left 1
    · (intro w hSw; (try dsimp only at hSw); go_simp; try with_reducible rfl)
    try simp only [Act.put, List.setIfInBounds_toArray, List.set_cons_zero, List.set_cons_succ]
    refine wpAnyH_ready (rs := [2]) (by kernel_rfl) (by simp) ?_
    refine AllReadyH.cons rfl (fun K hK => ?_) AllReadyH.nil
    (try simp only [List.getElem_toArray]); (try simp only [List.getElem_cons_succ]); (try simp only [List.getElem_cons_zero])
    go_simp
    (go_at_call 32; refine (cmp_int _ _ x y 8 8 _ V1.out V3.out (by decide) (by decide)).mono ?_; rintro e wc1 ⟨rfl, hb⟩)
    obtain ⟨cc, hcc⟩ : ∃ cc, cmpI x y = cc := ⟨_, rfl⟩
    rw [hcc]
    have HCC := Lib.hid hcc
    clear hcc
    replace V1 := Lib.hid (V1.out.below hb)
    replace V2 := Lib.hid (V2.out.below hb)
    replace V3 := Lib.hid (V3.out.below hb)
    replace V4 := Lib.hid (V4.out.below hb)
    replace V5 := Lib.hid (V5.out.below hb)
    replace V6 := Lib.hid (V6.out.below hb)
    replace V7 := Lib.hid (V7.out.below hb)
    replace V8 := Lib.hid (V8.out.below hb)
    replace hB := Below.trans hB (hb.mono hB.size)
    refine hK.out _ _ (HT.out _ hB) (fun hHeldn => ?_)
    clear hK K hHeldn
    try simp only [Act.put, List.setIfInBounds_toArray, List.set_cons_zero, List.set_cons_succ]
    clear hb
    refine wpAnyH_ready (rs := [5]) (by kernel_rfl) (by simp) ?_
    refine AllReadyH.cons rfl (fun K hK => ?_) AllReadyH.nil
    (try simp only [List.getElem_toArray]); (try simp only [List.getElem_cons_succ]); (try simp only [List.getElem_cons_zero])
    go_simp
    (go_at_call 33; refine (rcmp_any _ _ x y 16 16 _ V2.out V4.out (by decide) (by decide)).mono ?_; rintro e wc2 ⟨rfl, hb⟩)
    rw [HCC.out]
    clear HCC
    replace V1 := Lib.hid (V1.out.below hb)
    replace V2 := Lib.hid (V2.out.below hb)
    replace V3 := Lib.hid (V3.out.below hb)
    replace V4 := Lib.hid (V4.out.below hb)
    replace V5 := Lib.hid (V5.out.below hb)
    replace V6 := Lib.hid (V6.out.below hb)
    replace V7 := Lib.hid (V7.out.below hb)
    replace V8 := Lib.hid (V8.out.below hb)
    replace hB := Below.trans hB (hb.mono hB.size)
    refine hK.out _ _ (HT.out _ hB) (fun hHeldn => ?_)
    clear hK K hHeldn
    try simp only [Act.put, List.setIfInBounds_toArray, List.set_cons_zero, List.set_cons_succ]
    clear hb
    refine wpAnyH_taken (i := 6) (d := some 51) (v := ?_) rfl rfl (by kernel_rfl) (by kernel_rfl) (by kernel_rfl) (fun _ _ _ h => h) (Or.inl ⟨by rfl, ?_⟩) (by first | assumption | exact HT.out _ hB) ?_
    rotate_left 1
    · (intro w hSw; (try dsimp only at hSw); go_simp; try with_reducible rfl)
    try simp only [Act.put, List.setIfInBounds_toArray, List.set_cons_zero, List.set_cons_succ]
    refine wpAnyH_taken (i := 7) (d := some 52) (v := ?_) rfl rfl (by kernel_rfl) (by kernel_rfl) (by kernel_rfl) (fun _ _ _ h => h) (Or.inl ⟨by rfl, ?_⟩) (by first | assumption | exact HT.out _ hB) ?_
    rotate_left 1
    · (intro w hSw; (try dsimp only at hSw); go_simp; try with_reducible rfl)
    try simp only [Act.put, List.setIfInBounds_toArray, List.set_cons_zero, List.set_cons_succ]
    refine wpAnyH_taken (i := 8) (d := some 53) (v := ?_) rfl rfl (by kernel_rfl) (by kernel_rfl) (by kernel_rfl) (fun _ _ _ h => h) (Or.inl ⟨by rfl, ?_⟩) (by first | assumption | exact HT.out _ hB) ?_
    rotate_left 1
    · (intro w hSw; (try dsimp only at hSw); go_simp; try with_reducible rfl)
    try simp only [Act.put, List.setIfInBounds_toArray, List.set_cons_zero, List.set_cons_succ]
    refine wpAnyH_taken (i := 10) (d := some 55) (v := ?_) rfl rfl (by kernel_rfl) (by kernel_rfl) (by kernel_rfl) (fun _ _ _ h => h) (Or.inl ⟨by rfl, ?_⟩) (by first | assumption | exact HT.out _ hB) ?_
    rotate_left 1
    · (intro w hSw; (try dsimp only at hSw); go_simp; try with_reducible rfl)
    try simp only [Act.put, List.setIfInBounds_toArray, List.set_cons_zero, List.set_cons_succ]
    refine wpAnyH_ready (rs := [9]) (by kernel_rfl) (by simp) ?_
    refine AllReadyH.cons rfl (fun K hK => ?_) AllReadyH.nil
    (try simp only [List.getElem_toArray]); (try simp only [List.getElem_cons_succ]); (try simp only [List.getElem_cons_zero])
    go_simp
    (go_at_call 34; refine (neg_t _ x 8 _ V1.out (by decide)).mono ?_; rintro e wc3 ⟨⟨gt1, At1, nt1, ct1, rfl, hz⟩, hb⟩)
    replace V1 := Lib.hid (V1.out.below hb)
    replace V2 := Lib.hid (V2.out.below hb)
    replace V3 := Lib.hid (V3.out.below hb)
    replace V4 := Lib.hid (V4.out.below hb)
    replace V5 := Lib.hid (V5.out.below hb)
    replace V6 := Lib.hid (V6.out.below hb)
    replace V7 := Lib.hid (V7.out.below hb)
    replace V8 := Lib.hid (V8.out.below hb)
    replace hB := Below.trans hB (hb.mono hB.size)
    have T1 := Lib.hid hz
    refine hK.out _ _ (HT.out _ hB) (fun hHeldn => ?_)
    clear hK K hHeldn
    try simp only [Act.put, List.setIfInBounds_toArray, List.set_cons_zero, List.set_cons_succ]
    clear hb hz
    refine wpAnyH_ready (rs := [11]) (by kernel_rfl) (by simp) ?_
    refine AllReadyH.cons rfl (fun K hK => ?_) AllReadyH.nil
    (try simp only [List.getElem_toArray]); (try simp only [List.getElem_cons_succ]); (try simp only [List.getElem_cons_zero])
    go_simp
    (go_at_call 35; refine (rneg_any _ x 16 _ V2.out (by decide)).mono ?_; rintro e wc4 ⟨⟨gt2, At2, nt2, ct2, rfl, hz⟩, hb⟩)
    replace V1 := Lib.hid (V1.out.below hb)
    replace V2 := Lib.hid (V2.out.below hb)
    replace V3 := Lib.hid (V3.out.below hb)
    replace V4 := Lib.hid (V4.out.below hb)
    replace V5 := Lib.hid (V5.out.below hb)
    replace V6 := Lib.hid (V6.out.below hb)
    replace V7 := Lib.hid (V7.out.below hb)
    replace V8 := Lib.hid (V8.out.below hb)
    replace T1 := Lib.hid (T1.out.below hb)
    replace hB := Below.trans hB (hb.mono hB.size)
    have T2 := Lib.hid hz
    refine hK.out _ _ (HT.out _ hB) (fun hHeldn => ?_)
    clear hK K hHeldn
    try simp only [Act.put, List.setIfInBounds_toArray, List.set_cons_zero, List.set_cons_succ]
    clear hb hz
    refine wpAnyH_ready (rs := [12]) (by kernel_rfl) (by simp) ?_
    refine AllReadyH.cons rfl (fun K hK => ?_) AllReadyH.nil
    (try simp only [List.getElem_toArray]); (try simp only [List.getElem_cons_succ]); (try simp only [List.getElem_cons_zero])
    go_simp
    (go_at_call 21; refine (is_yes _ _ (-x) 8 16 _ T1.out T2.out (by decide) (by decide)).mono ?_; rintro e wc5 ⟨rfl, hb⟩)
    replace V1 := Lib.hid (V1.out.below hb)
    replace V2 := Lib.hid (V2.out.below hb)
    replace V3 := Lib.hid (V3.out.below hb)
    replace V4 := Lib.hid (V4.out.below hb)
    replace V5 := Lib.hid (V5.out.below hb)
    replace V6 := Lib.hid (V6.out.below hb)
    replace V7 := Lib.hid (V7.out.below hb)
    replace V8 := Lib.hid (V8.out.below hb)
    replace T1 := Lib.hid (T1.out.below hb)
    replace T2 := Lib.hid (T2.out.below hb)
    replace hB := Below.trans hB (hb.mono hB.size)
    clear T1
    clear T2
    refine hK.out _ _ (HT.out _ hB) (fun hHeldn => ?_)
    clear hK K hHeldn
    try simp only [Act.put, List.setIfInBounds_toArray, List.set_cons_zero, List.set_cons_succ]
    clear hb
    refine wpAnyH_taken (i := 13) (d := some 58) (v := ?_) rfl rfl (by kernel_rfl) (by kernel_rfl) (by kernel_rfl) (fun _ _ _ h => h) (Or.inl ⟨by rfl, ?_⟩) (by first | assumption | exact HT.out _ hB) ?_
    rotate_left 1
    · (intro w hSw; (try dsimp only at hSw); go_simp; try with_reducible rfl)
    try simp only [Act.put, List.setIfInBounds_toArray, List.set_cons_zero, List.set_cons_succ]
    refine wpAnyH_taken (i := 14) (d := some 59) (v := ?_) rfl rfl (by kernel_rfl) (by kernel_rfl) (by kernel_rfl) (fun _ _ _ h => h) (Or.inl ⟨by rfl, ?_⟩) (by first | assumption | exact HT.out _ hB) ?_
    rotate_left 1
    · (intro w hSw; (try dsimp only at hSw); go_simp; try with_reducible rfl)
    try simp only [Act.put, List.setIfInBounds_toArray, List.set_cons_zero, List.set_cons_succ]
    refine wpAnyH_taken (i := 15) (d := some 60) (v := ?_) rfl rfl (by kernel_rfl) (by kernel_rfl) (by kernel_rfl) (fun _ _ _ h => h) (Or.inl ⟨by rfl, ?_⟩) (by first | assumption | exact HT.out _ hB) ?_
    rotate_left 1
    · (intro w hSw; (try dsimp only at hSw); go_simp; try with_reducible rfl)
    try simp only [Act.put, List.setIfInBounds_toArray, List.set_cons_zero, List.set_cons_succ]
    refine wpAnyH_taken (i := 17) (d := some 62) (v := ?_) rfl rfl (by kernel_rfl) (by kernel_rfl) (by kernel_rfl) (fun _ _ _ h => h) (Or.inl ⟨by rfl, ?_⟩) (by first | assumption | exact HT.out _ hB) ?_
    rotate_left 1
    · (intro w hSw; (try dsimp only at hSw); go_simp; try with_reducible rfl)
    try simp only [Act.put, List.setIfInBounds_toArray, List.set_cons_zero, List.set_cons_succ]
    refine wpAnyH_ready (rs := [16]) (by kernel_rfl) (by simp) ?_
    refine AllReadyH.cons rfl (fun K hK => ?_) AllReadyH.nil
    (try simp only [List.getElem_toArray]); (try simp only [List.getElem_cons_succ]); (try simp only [List.getElem_cons_zero])
    go_simp
    (go_at_call 36; refine (abs_int _ x 8 _ V1.out (by decide)).mono ?_; rintro e wc6 ⟨⟨gt1, At1, nt1, ct1, rfl, hz⟩, hb⟩)
    replace V1 := Lib.hid (V1.out.below hb)
    replace V2 := Lib.hid (V2.out.below hb)
    replace V3 := Lib.hid (V3.out.below hb)
    replace V4 := Lib.hid (V4.out.below hb)
    replace V5 := Lib.hid (V5.out.below hb)
    replace V6 := Lib.hid (V6.out.below hb)
    replace V7 := Lib.hid (V7.out.below hb)
    replace V8 := Lib.hid (V8.out.below hb)
    replace hB := Below.trans hB (hb.mono hB.size)
    have T1 := Lib.hid hz
    refine hK.out _ _ (HT.out _ hB) (fun hHeldn => ?_)
    clear hK K hHeldn
    try simp only [Act.put, List.setIfInBounds_toArray, List.set_cons_zero, List.set_cons_succ]
    clear hb hz
    refine wpAnyH_ready (rs := [18]) (by kernel_rfl) (by simp) ?_
    refine AllReadyH.cons rfl (fun K hK => ?_) AllReadyH.nil
    (try simp only [List.getElem_toArray]); (try simp only [List.getElem_cons_succ]); (try simp only [List.getElem_cons_zero])
    go_simp
    (go_at_call 37; refine (rabs_any _ x 16 _ V2.out).mono ?_; rintro e wc7 ⟨⟨gt2, At2, nt2, ct2, rfl, hz⟩, hb⟩)
    replace V1 := Lib.hid (V1.out.below hb)
    replace V2 := Lib.hid (V2.out.below hb)
    replace V3 := Lib.hid (V3.out.below hb)
    replace V4 := Lib.hid (V4.out.below hb)
    replace V5 := Lib.hid (V5.out.below hb)
    replace V6 := Lib.hid (V6.out.below hb)
    replace V7 := Lib.hid (V7.out.below hb)
    replace V8 := Lib.hid (V8.out.below hb)
    replace T1 := Lib.hid (T1.out.below hb)
    replace hB := Below.trans hB (hb.mono hB.size)
    have T2 := Lib.hid hz
    refine hK.out _ _ (HT.out _ hB) (fun hHeldn => ?_)
    clear hK K hHeldn
    try simp only [Act.put, List.setIfInBounds_toArray, List.set_cons_zero, List.set_cons_succ]
    clear hb hz
    refine wpAnyH_ready (rs := [19]) (by kernel_rfl) (by simp) ?_
    refine AllReadyH.cons rfl (fun K hK => ?_) AllReadyH.nil
    (try simp only [List.getElem_toArray]); (try simp only [List.getElem_cons_succ]); (try simp only [List.getElem_cons_zero])
    go_simp
    (go_at_call 21; refine (is_yes _ _ (if x < 0 then -x else x) 8 16 _ T1.out T2.out (by decide) (by decide)).mono ?_; rintro e wc8 ⟨rfl, hb⟩)
    replace V1 := Lib.hid (V1.out.below hb)
    replace V2 := Lib.hid (V2.out.below hb)
    replace V3 := Lib.hid (V3.out.below hb)
    replace V4 := Lib.hid (V4.out.below hb)
    replace V5 := Lib.hid (V5.out.below hb)
    replace V6 := Lib.hid (V6.out.below hb)
    replace V7 := Lib.hid (V7.out.below hb)
    replace V8 := Lib.hid (V8.out.below hb)
    replace T1 := Lib.hid (T1.out.below hb)
    replace T2 := Lib.hid (T2.out.below hb)
    replace hB := Below.trans hB (hb.mono hB.size)
    clear T1
    clear T2
    refine hK.out _ _ (HT.out _ hB) (fun hHeldn => ?_)
    clear hK K hHeldn
    try simp only [Act.put, List.setIfInBounds_toArray, List.set_cons_zero, List.set_cons_succ]
    clear hb
    refine wpAnyH_taken (i := 20) (d := some 65) (v := ?_) rfl rfl (by kernel_rfl) (by kernel_rfl) (by kernel_rfl) (fun _ _ _ h => h) (Or.inl ⟨by rfl, ?_⟩) (by first | assumption | exact HT.out _ hB) ?_
    rotate_left 1
    · (intro w hSw; (try dsimp only at hSw); go_simp; try with_reducible rfl)
    try simp only [Act.put, List.setIfInBounds_toArray, List.set_cons_zero, List.set_cons_succ]
    refine wpAnyH_taken (i := 21) (d := some 66) (v := ?_) rfl rfl (by kernel_rfl) (by kernel_rfl) (by kernel_rfl) (fun _ _ _ h => h) (Or.inl ⟨by rfl, ?_⟩) (by first | assumption | exact HT.out _ hB) ?_
    rotate_left 1
    · (intro w hSw; (try dsimp only at hSw); go_simp; try with_reducible rfl)
    try simp only [Act.put, List.setIfInBounds_toArray, List.set_cons_zero, List.set_cons_succ]
    refine wpAnyH_taken (i := 22) (d := some 67) (v := ?_) rfl rfl (by kernel_rfl) (by kernel_rfl) (by kernel_rfl) (fun _ _ _ h => h) (Or.inl ⟨by rfl, ?_⟩) (by first | assumption | exact HT.out _ hB) ?_
    rotate_left 1
    · (intro w hSw; (try dsimp only at hSw); go_simp; try with_reducible rfl)
    try simp only [Act.put, List.setIfInBounds_toArray, List.set_cons_zero, List.set_cons_succ]
    refine wpAnyH_taken (i := 23) (d := some 68) (v := ?_) rfl rfl (by kernel_rfl) (by kernel_rfl) (by kernel_rfl) (fun _ _ _ h => h) (Or.inl ⟨by rfl, ?_⟩) (by first | assumption | exact HT.out _ hB) ?_
    rotate_left 1
    · (intro w hSw; (try dsimp only at hSw); go_simp; try with_reducible rfl)
    try simp only [Act.put, List.setIfInBounds_toArray, List.set_cons_zero, List.set_cons_succ]
    refine wpAnyH_taken (i := 25) (d := some 70) (v := ?_) rfl rfl (by kernel_rfl) (by kernel_rfl) (by kernel_rfl) (fun _ _ _ h => h) (Or.inl ⟨by rfl, ?_⟩) (by first | assumption | exact HT.out _ hB) ?_
    rotate_left 1
    · (intro w hSw; (try dsimp only at hSw); go_simp; try with_reducible rfl)
    try simp only [Act.put, List.setIfInBounds_toArray, List.set_cons_zero, List.set_cons_succ]
    refine wpAnyH_taken (i := 26) (d := some 71) (v := ?_) rfl rfl (by kernel_rfl) (by kernel_rfl) (by kernel_rfl) (fun _ _ _ h => h) (Or.inl ⟨by rfl, ?_⟩) (by first | assumption | exact HT.out _ hB) ?_
    rotate_left 1
    · (intro w hSw; (try dsimp only at hSw); go_simp; try with_reducible rfl)
    try simp only [Act.put, List.setIfInBounds_toArray, List.set_cons_zero, List.set_cons_succ]
    refine wpAnyH_ready (rs := [24]) (by kernel_rfl) (by simp) ?_
    refine AllReadyH.cons rfl (fun K hK => ?_) AllReadyH.nil
    (try simp only [List.getElem_toArray]); (try simp only [List.getElem_cons_succ]); (try simp only [List.getElem_cons_zero])
    go_simp
    (go_at_call 38; refine (add_t _ _ x y 8 8 _ V1.out V3.out (by decide) (by decide)).mono ?_; rintro e wc9 ⟨⟨gt1, At1, nt1, ct1, rfl, hz⟩, hb⟩)
    replace V1 := Lib.hid (V1.out.below hb)
    replace V2 := Lib.hid (V2.out.below hb)
    replace V3 := Lib.hid (V3.out.below hb)
    replace V4 := Lib.hid (V4.out.below hb)
    replace V5 := Lib.hid (V5.out.below hb)
    replace V6 := Lib.hid (V6.out.below hb)
    replace V7 := Lib.hid (V7.out.below hb)
    replace V8 := Lib.hid (V8.out.below hb)
    replace hB := Below.trans hB (hb.mono hB.size)
    have T1 := Lib.hid hz
    refine hK.out _ _ (HT.out _ hB) (fun hHeldn => ?_)
    clear hK K hHeldn
    try simp only [Act.put, List.setIfInBounds_toArray, List.set_cons_zero, List.set_cons_succ]
    clear hb hz
    refine wpAnyH_ready (rs := [27]) (by kernel_rfl) (by simp) ?_
    refine AllReadyH.cons rfl (fun K hK => ?_) AllReadyH.nil
    (try simp only [List.getElem_toArray]); (try simp only [List.getElem_cons_succ]); (try simp only [List.getElem_cons_zero])
    go_simp
    (go_at_call 39; refine (radd_any _ _ x y 16 16 _ V2.out V4.out (by decide) (by decide)).mono ?_; rintro e wc10 ⟨⟨gt2, At2, nt2, ct2, rfl, hz⟩, hb⟩)
    replace V1 := Lib.hid (V1.out.below hb)
    replace V2 := Lib.hid (V2.out.below hb)
    replace V3 := Lib.hid (V3.out.below hb)
    replace V4 := Lib.hid (V4.out.below hb)
    replace V5 := Lib.hid (V5.out.below hb)
    replace V6 := Lib.hid (V6.out.below hb)
    replace V7 := Lib.hid (V7.out.below hb)
    replace V8 := Lib.hid (V8.out.below hb)
    replace T1 := Lib.hid (T1.out.below hb)
    replace hB := Below.trans hB (hb.mono hB.size)
    have T2 := Lib.hid hz
    refine hK.out _ _ (HT.out _ hB) (fun hHeldn => ?_)
    clear hK K hHeldn
    try simp only [Act.put, List.setIfInBounds_toArray, List.set_cons_zero, List.set_cons_succ]
    clear hb hz
    refine wpAnyH_ready (rs := [28]) (by kernel_rfl) (by simp) ?_
    refine AllReadyH.cons rfl (fun K hK => ?_) AllReadyH.nil
    (try simp only [List.getElem_toArray]); (try simp only [List.getElem_cons_succ]); (try simp only [List.getElem_cons_zero])
    go_simp
    (go_at_call 21; refine (is_yes _ _ (x + y) (max 8 8 + 1) (max 16 16 + 1) _ T1.out T2.out (by decide) (by decide)).mono ?_; rintro e wc11 ⟨rfl, hb⟩)
    replace V1 := Lib.hid (V1.out.below hb)
    replace V2 := Lib.hid (V2.out.below hb)
    replace V3 := Lib.hid (V3.out.below hb)
    replace V4 := Lib.hid (V4.out.below hb)
    replace V5 := Lib.hid (V5.out.below hb)
    replace V6 := Lib.hid (V6.out.below hb)
    replace V7 := Lib.hid (V7.out.below hb)
    replace V8 := Lib.hid (V8.out.below hb)
    replace T1 := Lib.hid (T1.out.below hb)
    replace T2 := Lib.hid (T2.out.below hb)
    replace hB := Below.trans hB (hb.mono hB.size)
    clear T1
    clear T2
    refine hK.out _ _ (HT.out _ hB) (fun hHeldn => ?_)
    clear hK K hHeldn
    try simp only [Act.put, List.setIfInBounds_toArray, List.set_cons_zero, List.set_cons_succ]
    clear hb
    refine wpAnyH_taken (i := 29) (d := some 74) (v := ?_) rfl rfl (by kernel_rfl) (by kernel_rfl) (by kernel_rfl) (fun _ _ _ h => h) (Or.inl ⟨by rfl, ?_⟩) (by first | assumption | exact HT.out _ hB) ?_
    rotate_left 1
    · (intro w hSw; (try dsimp only at hSw); go_simp; try with_reducible rfl)
    try simp only [Act.put, List.setIfInBounds_toArray, List.set_cons_zero, List.set_cons_succ]
    refine wpAnyH_taken (i := 30) (d := some 75) (v := ?_) rfl rfl (by kernel_rfl) (by kernel_rfl) (by kernel_rfl) (fun _ _ _ h => h) (Or.inl ⟨by rfl, ?_⟩) (by first | assumption | exact HT.out _ hB) ?_
    rotate_left 1
    · (intro w hSw; (try dsimp only at hSw); go_simp; try with_reducible rfl)
    try simp only [Act.put, List.setIfInBounds_toArray, List.set_cons_zero, List.set_cons_succ]
    refine wpAnyH_taken (i := 31) (d := some 76) (v := ?_) rfl rfl (by kernel_rfl) (by kernel_rfl) (by kernel_rfl) (fun _ _ _ h => h) (Or.inl ⟨by rfl, ?_⟩) (by first | assumption | exact HT.out _ hB) ?_
    rotate_left 1
    · (intro w hSw; (try dsimp only at hSw); go_simp; try with_reducible rfl)
    try simp only [Act.put, List.setIfInBounds_toArray, List.set_cons_zero, List.set_cons_succ]
    refine wpAnyH_taken (i := 32) (d := some 77) (v := ?_) rfl rfl (by kernel_rfl) (by kernel_rfl) (by kernel_rfl) (fun _ _ _ h => h) (Or.inl ⟨by rfl, ?_⟩) (by first | assumption | exact HT.out _ hB) ?_
    rotate_left 1
    · (intro w hSw; (try dsimp only at hSw); go_simp; try with_reducible rfl)
    try simp only [Act.put, List.setIfInBounds_toArray, List.set_cons_zero, List.set_cons_succ]
    refine wpAnyH_taken (i := 34) (d := some 79) (v := ?_) rfl rfl (by kernel_rfl) (by kernel_rfl) (by kernel_rfl) (fun _ _ _ h => h) (Or.inl ⟨by rfl, ?_⟩) (by first | assumption | exact HT.out _ hB) ?_
    rotate_left 1
    · (intro w hSw; (try dsimp only at hSw); go_simp; try with_reducible rfl)
    try simp only [Act.put, List.setIfInBounds_toArray, List.set_cons_zero, List.set_cons_succ]
    refine wpAnyH_taken (i := 35) (d := some 80) (v := ?_) rfl rfl (by kernel_rfl) (by kernel_rfl) (by kernel_rfl) (fun _ _ _ h => h) (Or.inl ⟨by rfl, ?_⟩) (by first | assumption | exact HT.out _ hB) ?_
    rotate_left 1
    · (intro w hSw; (try dsimp only at hSw); go_simp; try with_reducible rfl)
    try simp only [Act.put, List.setIfInBounds_toArray, List.set_cons_zero, List.set_cons_succ]
    refine wpAnyH_ready (rs := [33]) (by kernel_rfl) (by simp) ?_
    refine AllReadyH.cons rfl (fun K hK => ?_) AllReadyH.nil
    (try simp only [List.getElem_toArray]); (try simp only [List.getElem_cons_succ]); (try simp only [List.getElem_cons_zero])
    go_simp
    (go_at_call 40; refine (sub_t _ _ x y 8 8 _ V1.out V3.out (by decide) (by decide)).mono ?_; rintro e wc12 ⟨⟨gt1, At1, nt1, ct1, rfl, hz⟩, hb⟩)
    replace V1 := Lib.hid (V1.out.below hb)
    replace V2 := Lib.hid (V2.out.below hb)
    replace V3 := Lib.hid (V3.out.below hb)
    replace V4 := Lib.hid (V4.out.below hb)
    replace V5 := Lib.hid (V5.out.below hb)
    replace V6 := Lib.hid (V6.out.below hb)
    replace V7 := Lib.hid (V7.out.below hb)
    replace V8 := Lib.hid (V8.out.below hb)
    replace hB := Below.trans hB (hb.mono hB.size)
    have T1 := Lib.hid hz
    refine hK.out _ _ (HT.out _ hB) (fun hHeldn => ?_)
    clear hK K hHeldn
    try simp only [Act.put, List.setIfInBounds_toArray, List.set_cons_zero, List.set_cons_succ]
    clear hb hz
    refine wpAnyH_ready (rs := [36]) (by kernel_rfl) (by simp) ?_
    refine AllReadyH.cons rfl (fun K hK => ?_) AllReadyH.nil
    (try simp only [List.getElem_toArray]); (try simp only [List.getElem_cons_succ]); (try simp only [List.getElem_cons_zero])
    go_simp
    (go_at_call 41; refine (rsub_any _ _ x y 16 16 _ V2.out V4.out (by decide) (by decide)).mono ?_; rintro e wc13 ⟨⟨gt2, At2, nt2, ct2, rfl, hz⟩, hb⟩)
    replace V1 := Lib.hid (V1.out.below hb)
    replace V2 := Lib.hid (V2.out.below hb)
    replace V3 := Lib.hid (V3.out.below hb)
    replace V4 := Lib.hid (V4.out.below hb)
    replace V5 := Lib.hid (V5.out.below hb)
    replace V6 := Lib.hid (V6.out.below hb)
    replace V7 := Lib.hid (V7.out.below hb)
    replace V8 := Lib.hid (V8.out.below hb)
    replace T1 := Lib.hid (T1.out.below hb)
    replace hB := Below.trans hB (hb.mono hB.size)
    have T2 := Lib.hid hz
    refine hK.out _ _ (HT.out _ hB) (fun hHeldn => ?_)
    clear hK K hHeldn
    try simp only [Act.put, List.setIfInBounds_toArray, List.set_cons_zero, List.set_cons_succ]
    clear hb hz
    refine wpAnyH_ready (rs := [37]) (by kernel_rfl) (by simp) ?_
    refine AllReadyH.cons rfl (fun K hK => ?_) AllReadyH.nil
    (try simp only [List.getElem_toArray]); (try simp only [List.getElem_cons_succ]); (try simp only [List.getElem_cons_zero])
    go_simp
    (go_at_call 21; refine (is_yes _ _ (x - y) (max 8 8 + 1) (max 16 16 + 1) _ T1.out T2.out (by decide) (by decide)).mono ?_; rintro e wc14 ⟨rfl, hb⟩)
    replace V1 := Lib.hid (V1.out.below hb)
    replace V2 := Lib.hid (V2.out.below hb)
    replace V3 := Lib.hid (V3.out.below hb)
    replace V4 := Lib.hid (V4.out.below hb)
    replace V5 := Lib.hid (V5.out.below hb)
    replace V6 := Lib.hid (V6.out.below hb)
    replace V7 := Lib.hid (V7.out.below hb)
    replace V8 := Lib.hid (V8.out.below hb)
    replace T1 := Lib.hid (T1.out.below hb)
    replace T2 := Lib.hid (T2.out.below hb)
    replace hB := Below.trans hB (hb.mono hB.size)
    clear T1
    clear T2
    refine hK.out _ _ (HT.out _ hB) (fun hHeldn => ?_)
    clear hK K hHeldn
    try simp only [Act.put, List.setIfInBounds_toArray, List.set_cons_zero, List.set_cons_succ]
    clear hb
    refine wpAnyH_taken (i := 38) (d := some 83) (v := ?_) rfl rfl (by kernel_rfl) (by kernel_rfl) (by kernel_rfl) (fun _ _ _ h => h) (Or.inl ⟨by rfl, ?_⟩) (by first | assumption | exact HT.out _ hB) ?_
    rotate_left 1
    · (intro w hSw; (try dsimp only at hSw); go_simp; try with_reducible rfl)
    try simp only [Act.put, List.setIfInBounds_toArray, List.set_cons_zero, List.set_cons_succ]
    refine wpAnyH_taken (i := 39) (d := some 84) (v := ?_) rfl rfl (by kernel_rfl) (by kernel_rfl) (by kernel_rfl) (fun _ _ _ h => h) (Or.inl ⟨by rfl, ?_⟩) (by first | assumption | exact HT.out _ hB) ?_
    rotate_left 1
    · (intro w hSw; (try dsimp only at hSw); go_simp; try with_reducible rfl)
    try simp only [Act.put, List.setIfInBounds_toArray, List.set_cons_zero, List.set_cons_succ]
    refine wpAnyH_taken (i := 40) (d := some 85) (v := ?_) rfl rfl (by kernel_rfl) (by kernel_rfl) (by kernel_rfl) (fun _ _ _ h => h) (Or.inl ⟨by rfl, ?_⟩) (by first | assumption | exact HT.out _ hB) ?_
    rotate_left 1
    · (intro w hSw; (try dsimp only at hSw); go_simp; try with_reducible rfl)
    try simp only [Act.put, List.setIfInBounds_toArray, List.set_cons_zero, List.set_cons_succ]
    refine wpAnyH_taken (i := 41) (d := some 86) (v := ?_) rfl rfl (by kernel_rfl) (by kernel_rfl) (by kernel_rfl) (fun _ _ _ h => h) (Or.inl ⟨by rfl, ?_⟩) (by first | assumption | exact HT.out _ hB) ?_
    rotate_left 1
    · (intro w hSw; (try dsimp only at hSw); go_simp; try with_reducible rfl)
    try simp only [Act.put, List.setIfInBounds_toArray, List.set_cons_zero, List.set_cons_succ]
    refine wpAnyH_taken (i := 43) (d := some 88) (v := ?_) rfl rfl (by kernel_rfl) (by kernel_rfl) (by kernel_rfl) (fun _ _ _ h => h) (Or.inl ⟨by rfl, ?_⟩) (by first | assumption | exact HT.out _ hB) ?_
    rotate_left 1
    · (intro w hSw; (try dsimp only at hSw); go_simp; try with_reducible rfl)
    try simp only [Act.put, List.setIfInBounds_toArray, List.set_cons_zero, List.set_cons_succ]
    refine wpAnyH_taken (i := 44) (d := some 89) (v := ?_) rfl rfl (by kernel_rfl) (by kernel_rfl) (by kernel_rfl) (fun _ _ _ h => h) (Or.inl ⟨by rfl, ?_⟩) (by first | assumption | exact HT.out _ hB) ?_
    rotate_left 1
    · (intro w hSw; (try dsimp only at hSw); go_simp; try with_reducible rfl)
    try simp only [Act.put, List.setIfInBounds_toArray, List.set_cons_zero, List.set_cons_succ]
    refine wpAnyH_ready (rs := [42]) (by kernel_rfl) (by simp) ?_
    refine AllReadyH.cons rfl (fun K hK => ?_) AllReadyH.nil
    (try simp only [List.getElem_toArray]); (try simp only [List.getElem_cons_succ]); (try simp only [List.getElem_cons_zero])
    go_simp
    (go_at_call 42; refine (mul_t _ _ x y 8 8 _ V1.out V3.out (by decide) (by decide)).mono ?_; rintro e wc15 ⟨⟨gt1, At1, nt1, ct1, rfl, hz⟩, hb⟩)
    replace V1 := Lib.hid (V1.out.below hb)
    replace V2 := Lib.hid (V2.out.below hb)
    replace V3 := Lib.hid (V3.out.below hb)
    replace V4 := Lib.hid (V4.out.below hb)
    replace V5 := Lib.hid (V5.out.below hb)
    replace V6 := Lib.hid (V6.out.below hb)
    replace V7 := Lib.hid (V7.out.below hb)
    replace V8 := Lib.hid (V8.out.below hb)
    replace hB := Below.trans hB (hb.mono hB.size)
    have T1 := Lib.hid hz
    refine hK.out _ _ (HT.out _ hB) (fun hHeldn => ?_)
    clear hK K hHeldn
    try simp only [Act.put, List.setIfInBounds_toArray, List.set_cons_zero, List.set_cons_succ]
    clear hb hz
    refine wpAnyH_ready (rs := [45]) (by kernel_rfl) (by simp) ?_
    refine AllReadyH.cons rfl (fun K hK => ?_) AllReadyH.nil
    (try simp only [List.getElem_toArray]); (try simp only [List.getElem_cons_succ]); (try simp only [List.getElem_cons_zero])
    go_simp
    (go_at_call 43; refine (rMul_any _ _ x y 16 16 _ V2.out V4.out (by decide) (by decide)).mono ?_; rintro e wc16 ⟨⟨gt2, At2, nt2, ct2, rfl, hz⟩, hb⟩)
    replace V1 := Lib.hid (V1.out.below hb)
    replace V2 := Lib.hid (V2.out.below hb)
    replace V3 := Lib.hid (V3.out.below hb)
    replace V4 := Lib.hid (V4.out.below hb)
    replace V5 := Lib.hid (V5.out.below hb)
    replace V6 := Lib.hid (V6.out.below hb)
    replace V7 := Lib.hid (V7.out.below hb)
    replace V8 := Lib.hid (V8.out.below hb)
    replace T1 := Lib.hid (T1.out.below hb)
    replace hB := Below.trans hB (hb.mono hB.size)
    have T2 := Lib.hid hz
    refine hK.out _ _ (HT.out _ hB) (fun hHeldn => ?_)
    clear hK K hHeldn
    try simp only [Act.put, List.setIfInBounds_toArray, List.set_cons_zero, List.set_cons_succ]
    clear hb hz
    refine wpAnyH_ready (rs := [46]) (by kernel_rfl) (by simp) ?_
    refine AllReadyH.cons rfl (fun K hK => ?_) AllReadyH.nil
    (try simp only [List.getElem_toArray]); (try simp only [List.getElem_cons_succ]); (try simp only [List.getElem_cons_zero])
    go_simp
    (go_at_call 21; refine (is_yes _ _ (x * y) (8 + 8) (16 + 16 + 1) _ T1.out T2.out (by decide) (by decide)).mono ?_; rintro e wc17 ⟨rfl, hb⟩)
    replace V1 := Lib.hid (V1.out.below hb)
    replace V2 := Lib.hid (V2.out.below hb)
    replace V3 := Lib.hid (V3.out.below hb)
    replace V4 := Lib.hid (V4.out.below hb)
    replace V5 := Lib.hid (V5.out.below hb)
    replace V6 := Lib.hid (V6.out.below hb)
    replace V7 := Lib.hid (V7.out.below hb)
    replace V8 := Lib.hid (V8.out.below hb)
    replace T1 := Lib.hid (T1.out.below hb)
    replace T2 := Lib.hid (T2.out.below hb)
    replace hB := Below.trans hB (hb.mono hB.size)
    clear T1
    clear T2
    refine hK.out _ _ (HT.out _ hB) (fun hHeldn => ?_)
    clear hK K hHeldn
    try simp only [Act.put, List.setIfInBounds_toArray, List.set_cons_zero, List.set_cons_succ]
    clear hb
    refine wpAnyH_taken (i := 47) (d := some 92) (v := ?_) rfl rfl (by kernel_rfl) (by kernel_rfl) (by kernel_rfl) (fun _ _ _ h => h) (Or.inl ⟨by rfl, ?_⟩) (by first | assumption | exact HT.out _ hB) ?_
    rotate_left 1
    · (intro w hSw; (try dsimp only at hSw); go_simp; try with_reducible rfl)
    try simp only [Act.put, List.setIfInBounds_toArray, List.set_cons_zero, List.set_cons_succ]
    refine wpAnyH_taken (i := 48) (d := some 93) (v := ?_) rfl rfl (by kernel_rfl) (by kernel_rfl) (by kernel_rfl) (fun _ _ _ h => h) (Or.inl ⟨by rfl, ?_⟩) (by first | assumption | exact HT.out _ hB) ?_
    rotate_left 1
    · (intro w hSw; (try dsimp only at hSw); go_simp; try with_reducible rfl)
    try simp only [Act.put, List.setIfInBounds_toArray, List.set_cons_zero, List.set_cons_succ]
    refine wpAnyH_taken (i := 49) (d := some 94) (v := ?_) rfl rfl (by kernel_rfl) (by kernel_rfl) (by kernel_rfl) (fun _ _ _ h => h) (Or.inl ⟨by rfl, ?_⟩) (by first | assumption | exact HT.out _ hB) ?_
    rotate_left 1
    · (intro w hSw; (try dsimp only at hSw); go_simp; try with_reducible rfl)
    try simp only [Act.put, List.setIfInBounds_toArray, List.set_cons_zero, List.set_cons_succ]
    refine wpAnyH_taken (i := 50) (d := some 95) (v := ?_) rfl rfl (by kernel_rfl) (by kernel_rfl) (by kernel_rfl) (fun _ _ _ h => h) (Or.inl ⟨by rfl, ?_⟩) (by first | assumption | exact HT.out _ hB) ?_
    rotate_left 1
    · (intro w hSw; (try dsimp only at hSw); go_simp; try with_reducible rfl)
    try simp only [Act.put, List.setIfInBounds_toArray, List.set_cons_zero, List.set_cons_succ]
    refine wpAnyH_taken (i := 51) (d := some 96) (v := ?_) rfl rfl (by kernel_rfl) (by kernel_rfl) (by kernel_rfl) (fun _ _ _ h => h) (Or.inl ⟨by rfl, ?_⟩) (by first | assumption | exact HT.out _ hB) ?_
    rotate_left 1
    · (intro w hSw; (try dsimp only at hSw); go_simp; try with_reducible rfl)
    try simp only [Act.put, List.setIfInBounds_toArray, List.set_cons_zero, List.set_cons_succ]
    refine wpAnyH_taken (i := 52) (d := some 97) (v := ?_) rfl rfl (by kernel_rfl) (by kernel_rfl) (by kernel_rfl) (fun _ _ _ h => h) (Or.inl ⟨by rfl, ?_⟩) (by first | assumption | exact HT.out _ hB) ?_
    rotate_left 1
    · (intro w hSw; (try dsimp only at hSw); go_simp; try with_reducible rfl)
    try simp only [Act.put, List.setIfInBounds_toArray, List.set_cons_zero, List.set_cons_succ]
    refine wpAnyH_taken (i := 53) (d := some 98) (v := ?_) rfl rfl (by kernel_rfl) (by kernel_rfl) (by kernel_rfl) (fun _ _ _ h => h) (Or.inl ⟨by rfl, ?_⟩) (by first | assumption | exact HT.out _ hB) ?_
    rotate_left 1
    · (intro w hSw; (try dsimp only at hSw); go_simp; try with_reducible rfl)
    try simp only [Act.put, List.setIfInBounds_toArray, List.set_cons_zero, List.set_cons_succ]
    refine wpAnyH_taken (i := 54) (d := some 99) (v := ?_) rfl rfl (by kernel_rfl) (by kernel_rfl) (by kernel_rfl) (fun _ _ _ h => h) (Or.inl ⟨by rfl, ?_⟩) (by first | assumption | exact HT.out _ hB) ?_
    rotate_left 1
    · (intro w hSw; (try dsimp only at hSw); go_simp; try with_reducible rfl)
    try simp only [Act.put, List.setIfInBounds_toArray, List.set_cons_zero, List.set_cons_succ]
    refine wpAnyH_taken (i := 55) (d := some 100) (v := ?_) rfl rfl (by kernel_rfl) (by kernel_rfl) (by kernel_rfl) (fun _ _ _ h => h) (Or.inl ⟨by rfl, ?_⟩) (by first | assumption | exact HT.out _ hB) ?_
    rotate_left 1
    · (intro w hSw; (try dsimp only at hSw); go_simp; try with_reducible rfl)
    try simp only [Act.put, List.setIfInBounds_toArray, List.set_cons_zero, List.set_cons_succ]
    refine wpAnyH_ready (rs := [56]) (by kernel_rfl) (by simp) ?_
    refine AllReadyH.cons rfl (fun K hK => ?_) AllReadyH.nil
    (try simp only [List.getElem_toArray]); (try simp only [List.getElem_cons_succ]); (try simp only [List.getElem_cons_zero])
    go_simp
    (go_at_call 21; refine (is_yes _ _ (divQ x y) (8 + 2) 16 _ V5.out V7.out (by decide) (by decide)).mono ?_; rintro e wc18 ⟨rfl, hb⟩)
    replace V1 := Lib.hid (V1.out.below hb)
    replace V2 := Lib.hid (V2.out.below hb)
    replace V3 := Lib.hid (V3.out.below hb)
    replace V4 := Lib.hid (V4.out.below hb)
    replace V5 := Lib.hid (V5.out.below hb)
    replace V6 := Lib.hid (V6.out.below hb)
    replace V7 := Lib.hid (V7.out.below hb)
    replace V8 := Lib.hid (V8.out.below hb)
    replace hB := Below.trans hB (hb.mono hB.size)
    clear V5
    clear V7
    refine hK.out _ _ (HT.out _ hB) (fun hHeldn => ?_)
    clear hK K hHeldn
    try simp only [Act.put, List.setIfInBounds_toArray, List.set_cons_zero, List.set_cons_succ]
    clear hb
    refine wpAnyH_taken (i := 57) (d := some 102) (v := ?_) rfl rfl (by kernel_rfl) (by kernel_rfl) (by kernel_rfl) (fun _ _ _ h => h) (Or.inl ⟨by rfl, ?_⟩) (by first | assumption | exact HT.out _ hB) ?_
    rotate_left 1
    · (intro w hSw; (try dsimp only at hSw); go_simp; try with_reducible rfl)
    try simp only [Act.put, List.setIfInBounds_toArray, List.set_cons_zero, List.set_cons_succ]
    refine wpAnyH_taken (i := 58) (d := some 103) (v := ?_) rfl rfl (by kernel_rfl) (by kernel_rfl) (by kernel_rfl) (fun _ _ _ h => h) (Or.inl ⟨by rfl, ?_⟩) (by first | assumption | exact HT.out _ hB) ?_
    rotate_left 1
    · (intro w hSw; (try dsimp only at hSw); go_simp; try with_reducible rfl)
    try simp only [Act.put, List.setIfInBounds_toArray, List.set_cons_zero, List.set_cons_succ]
    refine wpAnyH_taken (i := 59) (d := some 104) (v := ?_) rfl rfl (by kernel_rfl) (by kernel_rfl) (by kernel_rfl) (fun _ _ _ h => h) (Or.inl ⟨by rfl, ?_⟩) (by first | assumption | exact HT.out _ hB) ?_
    rotate_left 1
    · (intro w hSw; (try dsimp only at hSw); go_simp; try with_reducible rfl)
    try simp only [Act.put, List.setIfInBounds_toArray, List.set_cons_zero, List.set_cons_succ]
    refine wpAnyH_taken (i := 60) (d := some 105) (v := ?_) rfl rfl (by kernel_rfl) (by kernel_rfl) (by kernel_rfl) (fun _ _ _ h => h) (Or.inl ⟨by rfl, ?_⟩) (by first | assumption | exact HT.out _ hB) ?_
    rotate_left 1
    · (intro w hSw; (try dsimp only at hSw); go_simp; try with_reducible rfl)
    try simp only [Act.put, List.setIfInBounds_toArray, List.set_cons_zero, List.set_cons_succ]
    refine wpAnyH_ready (rs := [61]) (by kernel_rfl) (by simp) ?_
    refine AllReadyH.cons rfl (fun K hK => ?_) AllReadyH.nil
    (try simp only [List.getElem_toArray]); (try simp only [List.getElem_cons_succ]); (try simp only [List.getElem_cons_zero])
    go_simp
    (go_at_call 21; refine (is_yes _ _ (divR x y) (8 + 2) 16 _ V6.out V8.out (by decide) (by decide)).mono ?_; rintro e wc19 ⟨rfl, hb⟩)
    replace V1 := Lib.hid (V1.out.below hb)
    replace V2 := Lib.hid (V2.out.below hb)
    replace V3 := Lib.hid (V3.out.below hb)
    replace V4 := Lib.hid (V4.out.below hb)
    replace V6 := Lib.hid (V6.out.below hb)
    replace V8 := Lib.hid (V8.out.below hb)
    replace hB := Below.trans hB (hb.mono hB.size)
    clear V6
    clear V8
    refine hK.out _ _ (HT.out _ hB) (fun hHeldn => ?_)
    clear hK K hHeldn
    try simp only [Act.put, List.setIfInBounds_toArray, List.set_cons_zero, List.set_cons_succ]
    clear hb
    refine wpAnyH_taken (i := 62) (d := some 107) (v := ?_) rfl rfl (by kernel_rfl) (by kernel_rfl) (by kernel_rfl) (fun _ _ _ h => h) (Or.inl ⟨by rfl, ?_⟩) (by first | assumption | exact HT.out _ hB) ?_
    rotate_left 1
    · (intro w hSw; (try dsimp only at hSw); go_simp; try with_reducible rfl)
    try simp only [Act.put, List.setIfInBounds_toArray, List.set_cons_zero, List.set_cons_succ]
    refine wpAnyH_taken (i := 63) (d := some 108) (v := ?_) rfl rfl (by kernel_rfl) (by kernel_rfl) (by kernel_rfl) (fun _ _ _ h => h) (Or.inl ⟨by rfl, ?_⟩) (by first | assumption | exact HT.out _ hB) ?_
    rotate_left 1
    · (intro w hSw; (try dsimp only at hSw); go_simp; try with_reducible rfl)
    try simp only [Act.put, List.setIfInBounds_toArray, List.set_cons_zero, List.set_cons_succ]
    refine wpAnyH_taken (i := 64) (d := some 109) (v := ?_) rfl rfl (by kernel_rfl) (by kernel_rfl) (by kernel_rfl) (fun _ _ _ h => h) (Or.inl ⟨by rfl, ?_⟩) (by first | assumption | exact HT.out _ hB) ?_
    rotate_left 1
    · (intro w hSw; (try dsimp only at hSw); go_simp; try with_reducible rfl)
    try simp only [Act.put, List.setIfInBounds_toArray, List.set_cons_zero, List.set_cons_succ]
    refine wpAnyH_taken (i := 65) (d := some 110) (v := ?_) rfl rfl (by kernel_rfl) (by kernel_rfl) (by kernel_rfl) (fun _ _ _ h => h) (Or.inl ⟨by rfl, ?_⟩) (by first | assumption | exact HT.out _ hB) ?_
    rotate_left 1
    · (intro w hSw; (try dsimp only at hSw); go_simp; try with_reducible rfl)
    try simp only [Act.put, List.setIfInBounds_toArray, List.set_cons_zero, List.set_cons_succ]
    refine wpAnyH_taken (i := 67) (d := some 112) (v := ?_) rfl rfl (by kernel_rfl) (by kernel_rfl) (by kernel_rfl) (fun _ _ _ h => h) (Or.inl ⟨by rfl, ?_⟩) (by first | assumption | exact HT.out _ hB) ?_
    rotate_left 1
    · (intro w hSw; (try dsimp only at hSw); go_simp; try with_reducible rfl)
    try simp only [Act.put, List.setIfInBounds_toArray, List.set_cons_zero, List.set_cons_succ]
    refine wpAnyH_taken (i := 68) (d := some 113) (v := ?_) rfl rfl (by kernel_rfl) (by kernel_rfl) (by kernel_rfl) (fun _ _ _ h => h) (Or.inl ⟨by rfl, ?_⟩) (by first | assumption | exact HT.out _ hB) ?_
    rotate_left 1
    · (intro w hSw; (try dsimp only at hSw); go_simp; try with_reducible rfl)
    try simp only [Act.put, List.setIfInBounds_toArray, List.set_cons_zero, List.set_cons_succ]
    refine wpAnyH_ready (rs := [66]) (by kernel_rfl) (by simp) ?_
    refine AllReadyH.cons rfl (fun K hK => ?_) AllReadyH.nil
    (try simp only [List.getElem_toArray]); (try simp only [List.getElem_cons_succ]); (try simp only [List.getElem_cons_zero])
    go_simp
    (go_at_call 44; refine (Gcd_int _ _ x y 8 _ V1.out V3.out (by decide) (by decide)).mono ?_; rintro e wc20 ⟨⟨gt1, At1, nt1, ct1, rfl, hz⟩, hb⟩)
    replace V1 := Lib.hid (V1.out.below hb)
    replace V2 := Lib.hid (V2.out.below hb)
    replace V3 := Lib.hid (V3.out.below hb)
    replace V4 := Lib.hid (V4.out.below hb)
    replace hB := Below.trans hB (hb.mono hB.size)
    have T1 := Lib.hid hz
    refine hK.out _ _ (HT.out _ hB) (fun hHeldn => ?_)
    clear hK K hHeldn
    try simp only [Act.put, List.setIfInBounds_toArray, List.set_cons_zero, List.set_cons_succ]
    clear hb hz
    refine wpAnyH_ready (rs := [69]) (by kernel_rfl) (by simp) ?_
    refine AllReadyH.cons rfl (fun K hK => ?_) AllReadyH.nil
    (try simp only [List.getElem_toArray]); (try simp only [List.getElem_cons_succ]); (try simp only [List.getElem_cons_zero])
    go_simp
    (go_at_call 45; refine (rGcd_any _ _ x y 16 _ V2.out V4.out (by decide)).mono ?_; rintro e wc21 ⟨⟨gt2, At2, nt2, ct2, rfl, hz⟩, hb⟩)
    replace V1 := Lib.hid (V1.out.below hb)
    replace V2 := Lib.hid (V2.out.below hb)
    replace V3 := Lib.hid (V3.out.below hb)
    replace V4 := Lib.hid (V4.out.below hb)
    replace T1 := Lib.hid (T1.out.below hb)
    replace hB := Below.trans hB (hb.mono hB.size)
    have T2 := Lib.hid hz
    refine hK.out _ _ (HT.out _ hB) (fun hHeldn => ?_)
    clear hK K hHeldn
    try simp only [Act.put, List.setIfInBounds_toArray, List.set_cons_zero, List.set_cons_succ]
    clear hb hz
    refine wpAnyH_ready (rs := [70]) (by kernel_rfl) (by simp) ?_
    refine AllReadyH.cons rfl (fun K hK => ?_) AllReadyH.nil
    (try simp only [List.getElem_toArray]); (try simp only [List.getElem_cons_succ]); (try simp only [List.getElem_cons_zero])
    go_simp
    (go_at_call 21; refine (is_yes _ _ ((Int.gcd x y : Int)) 8 16 _ T1.out T2.out (by decide) (by decide)).mono ?_; rintro e wc22 ⟨rfl, hb⟩)
    replace V1 := Lib.hid (V1.out.below hb)
    replace V2 := Lib.hid (V2.out.below hb)
    replace V3 := Lib.hid (V3.out.below hb)
    replace V4 := Lib.hid (V4.out.below hb)
    replace T1 := Lib.hid (T1.out.below hb)
    replace T2 := Lib.hid (T2.out.below hb)
    replace hB := Below.trans hB (hb.mono hB.size)
    clear T1
    clear T2
    refine hK.out _ _ (HT.out _ hB) (fun hHeldn => ?_)
    clear hK K hHeldn
    try simp only [Act.put, List.setIfInBounds_toArray, List.set_cons_zero, List.set_cons_succ]
    clear hb
    refine wpAnyH_taken (i := 71) (d := some 116) (v := ?_) rfl rfl (by kernel_rfl) (by kernel_rfl) (by kernel_rfl) (fun _ _ _ h => h) (Or.inl ⟨by rfl, ?_⟩) (by first | assumption | exact HT.out _ hB) ?_
    rotate_left 1
    · (intro w hSw; (try dsimp only at hSw); go_simp; try with_reducible rfl)
    try simp only [Act.put, List.setIfInBounds_toArray, List.set_cons_zero, List.set_cons_succ]
    refine wpAnyH_taken (i := 72) (d := some 117) (v := ?_) rfl rfl (by kernel_rfl) (by kernel_rfl) (by kernel_rfl) (fun _ _ _ h => h) (Or.inl ⟨by rfl, ?_⟩) (by first | assumption | exact HT.out _ hB) ?_
    rotate_left 1
    · (intro w hSw; (try dsimp only at hSw); go_simp; try with_reducible rfl)
    try simp only [Act.put, List.setIfInBounds_toArray, List.set_cons_zero, List.set_cons_succ]
    refine wpAnyH_ready (rs := [73]) (by kernel_rfl) (by simp) ?_
    refine AllReadyH.cons rfl (fun K hK => ?_) AllReadyH.nil
    (try simp only [List.getElem_toArray]); (try simp only [List.getElem_cons_succ]); (try simp only [List.getElem_cons_zero])
    go_simp
    (go_at_call 15; refine (awake_any _).mono ?_; rintro e wc23 ⟨rfl, hb⟩)
    replace V1 := Lib.hid (V1.out.below hb)
    replace V2 := Lib.hid (V2.out.below hb)
    replace V3 := Lib.hid (V3.out.below hb)
    replace V4 := Lib.hid (V4.out.below hb)
    replace hB := Below.trans hB (hb.mono hB.size)
    refine hK.out _ _ (HT.out _ hB) (fun hHeldn => ?_)
    clear hK K hHeldn
    try simp only [Act.put, List.setIfInBounds_toArray, List.set_cons_zero, List.set_cons_succ]
    clear hb
    refine wpAnyH_taken (i := 74) (d := some 119) (v := ?_) rfl rfl (by kernel_rfl) (by kernel_rfl) (by kernel_rfl) (fun _ _ _ h => h) (Or.inl ⟨by rfl, ?_⟩) (by first | assumption | exact HT.out _ hB) ?_
    rotate_left 1
    · (intro w hSw; (try dsimp only at hSw); go_simp; try with_reducible rfl)
    try simp only [Act.put, List.setIfInBounds_toArray, List.set_cons_zero, List.set_cons_succ]
    refine wpAnyH_taken (i := 75) (d := some 4) (v := ?_) rfl rfl (by kernel_rfl) (by kernel_rfl) (by kernel_rfl) (fun _ _ _ h => h) (Or.inl ⟨by rfl, ?_⟩) (by first | assumption | exact HT.out _ hB) ?_
    rotate_left 1
    · (intro w hSw; (try dsimp only at hSw); go_simp; try with_reducible rfl)
    try simp only [Act.put, List.setIfInBounds_toArray, List.set_cons_zero, List.set_cons_succ]
    refine wpAnyH_done (by kernel_rfl) ?_ _
    go_wp2_with fail
    go_ret
    exact ⟨rfl, HWB.out.trans (hB.mono HWB.out.size)⟩

end Go.Proofs.Ytoanomgdkkbbmaa
