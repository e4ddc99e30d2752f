/- awake: small sums with known answers. -/
import Derived.Test.YtoanomgdkkbbmaaAwakeMath
namespace Go.Proofs.Ytoanomgdkkbbmaa
open Go.RowKit LM

/-- Three integers in boxes. -/
theorem awake_boxes {w3 w8 w' : World} {p q r : Bool} {u v x : Value} (h1 : Below (w3.heap.size + 2) ((w3.alloc (.cells #[.bool p, u] 28)).alloc (.cells #[.bool q, v] 28)) w8) (h2 : Below (w8.heap.size + 1) (w8.alloc (.cells #[.bool r, x] 28)) w') :
    w'.cell? ⟨w3.heap.size, 0, none⟩ = some (.bool p) ∧ w'.cell? ⟨w3.heap.size, 1, none⟩ = some u ∧ w'.cell? ⟨w3.heap.size + 1, 0, none⟩ = some (.bool q) ∧ w'.cell? ⟨w3.heap.size + 1, 1, none⟩ = some v ∧
    w'.cell? ⟨w8.heap.size, 0, none⟩ = some (.bool r) ∧ w'.cell? ⟨w8.heap.size, 1, none⟩ = some x ∧ Below (w8.heap.size + 1) (w8.alloc (.cells #[.bool r, x] 28)) w' := by
  have hs := h1.size
  simp at hs
  refine ⟨?_, ?_, ?_, ?_, ?_, ?_, h2⟩
  · rw [h2.cell (by simp; omega), World.cell?_alloc_past _ _ _ (by show _ < _; omega), h1.cell (by simp), World.cell?_alloc_past _ _ _ (by simp), World.cell?_alloc_at _ _ _ _ rfl]; rfl
  · rw [h2.cell (by simp; omega), World.cell?_alloc_past _ _ _ (by show _ < _; omega), h1.cell (by simp), World.cell?_alloc_past _ _ _ (by simp), World.cell?_alloc_at _ _ _ _ rfl]; rfl
  · rw [h2.cell (by simp; omega), World.cell?_alloc_past _ _ _ (by show _ < _; omega), h1.cell (by simp), World.cell?_alloc_at _ _ _ _ (by simp)]; rfl
  · rw [h2.cell (by simp; omega), World.cell?_alloc_past _ _ _ (by show _ < _; omega), h1.cell (by simp), World.cell?_alloc_at _ _ _ _ (by simp)]; rfl
  · rw [h2.cell (by simp), World.cell?_alloc_at _ _ _ _ rfl]; rfl
  · rw [h2.cell (by simp), World.cell?_alloc_at _ _ _ _ rfl]; rfl

set_option maxRecDepth 100000 in
set_option maxHeartbeats 400000 in
theorem awake_any (w : World) : Calls Try.prog 15 #[] w fun e w' => e = .returned (.bool true) ∧ Below w.heap.size w w' := by
  go_enter Try.func15, Try.ntmps15
  go_wp2_with fail
  refine (new_int (-7) _ (by omega) (by omega)).mono ?_
  rintro e w1 ⟨r1, rfl, hv1, hb1⟩
  have H1 := Lib.hid hv1
  clear hv1
  go_wp2_with fail
  refine (new_int 2 _ (by omega) (by omega)).mono ?_
  rintro e w2 ⟨r2, rfl, hv2, hb2⟩
  have H2 := Lib.hid hv2
  clear hv2
  go_wp2_with fail
  refine (div_seven _ _ _ (H1.out.below hb2) H2.out).mono ?_
  rintro e w3 ⟨n1, A1, l1, c1, n2, A2, l2, c2, rfl, hq, hr, hb3⟩
  have HQ := Lib.hid hq
  have HR := Lib.hid hr
  clear hq hr
  go_wp2_with fail
  have hW := below_two w3 (.cells #[.bool n1, .slice A1 l1 c1] 28) (.cells #[.bool n2, .slice A2 l2 c2] 28)
  refine (new_int 255 _ (by omega) (by omega)).mono ?_
  rintro e w4 ⟨r4, rfl, hv4, hb4⟩
  have hB4 := hb4.mono (B' := w3.heap.size + 2) (by simp)
  have H4 := Lib.hid hv4
  clear hv4
  go_wp2_with fail
  refine (text_int _ _ H4.out).mono ?_
  rintro e w5 ⟨rfl, hb5⟩
  have hB5 := hB4.trans (hb5.mono (by have := hB4.size; simpa using this))
  go_wp2_with fail
  refine (new_int (-4) _ (by omega) (by omega)).mono ?_
  rintro e w6 ⟨r6, rfl, hv6, hb6⟩
  have hB6 := hB5.trans (hb6.mono (by have := hB5.size; simpa using this))
  have H6 := Lib.hid hv6
  clear hv6
  go_wp2_with fail
  refine (new_int 7 _ (by omega) (by omega)).mono ?_
  rintro e w7 ⟨r7, rfl, hv7, hb7⟩
  have hB7 := hB6.trans (hb7.mono (by have := hB6.size; simpa using this))
  have H7 := Lib.hid hv7
  clear hv7
  go_wp2_with fail
  refine (boole_int _ _ _ (H6.out.below hb7) H7.out).mono ?_
  rintro e w8 ⟨ng8, A8, n8, c8, rfl, hv8, hb8⟩
  have hB8 := hB7.trans (hb8.mono (by have := hB7.size; simpa using this))
  have hA8 := below_alloc w8 (.cells #[.bool ng8, .slice A8 n8 c8] 28)
  have H8 := Lib.hid (hv8.below hA8)
  have h38 := hW.trans (hB8.mono (by omega))
  have HQ8 := Lib.hid ((HQ.out.below h38).below hA8)
  have HR8 := Lib.hid ((HR.out.below h38).below hA8)
  have HS := Lib.hid (fun w' => awake_boxes (w' := w') (r := ng8) (x := .slice A8 n8 c8) hB8)
  have hs8 := hB8.size
  have hall := ((hb1.trans (hb2.mono hb1.size)).trans (hb3.mono (Nat.le_trans hb1.size hb2.size))).trans (h38.mono (Nat.le_trans hb1.size (Nat.le_trans hb2.size hb3.size)))
  have HALL := Lib.hid hall
  have hC8 := Below.drew (Below.refl (w8.heap.size + 1) (w8.alloc (.cells #[.bool ng8, .slice A8 n8 c8] 28)))
  clear hv8 hb4 hb5 hb6 hb7 hb8 hB4 hB5 hB6 hB7 hB8 hW hall h38 hA8 hb1 hb2 hb3
  simp only [World.size_alloc] at hs8
  go_wp2_with fail
  go_region_held3 (fun w' => w'.cell? ⟨w3.heap.size, 0, none⟩ = some (.bool n1) ∧ w'.cell? ⟨w3.heap.size, 1, none⟩ = some (.slice A1 l1 c1) ∧ w'.cell? ⟨w3.heap.size + 1, 0, none⟩ = some (.bool n2) ∧ w'.cell? ⟨w3.heap.size + 1, 1, none⟩ = some (.slice A2 l2 c2) ∧
      w'.cell? ⟨w8.heap.size, 0, none⟩ = some (.bool ng8) ∧ w'.cell? ⟨w8.heap.size, 1, none⟩ = some (.slice A8 n8 c8) ∧ Below (w8.heap.size + 1) (w8.alloc (.cells #[.bool ng8, .slice A8 n8 c8] 28)) w')
    (first | (with_reducible exact HS.out _ hC14) | (with_reducible exact HS.out _ hC13) | (with_reducible exact HS.out _ hC12) | (with_reducible exact HS.out _ hC11) | (with_reducible exact HS.out _ hC10) | (with_reducible exact HS.out _ hC9) | (with_reducible exact HS.out _ hC8))
    (first
      | (go_at_call 21; refine (is_yes _ _ 4 2 64 _ (H8.out.below (hC13.mono (by simp))) HR13.out (by omega) (by omega)).mono ?_; rintro e w14 ⟨rfl, hb14⟩; have hC14 := Below.trans hC13 (hb14.mono (by have := hC13.size; simpa using this)))
      | (go_at_call 18; have hK := hC12; clear hK; refine (rnew_any 4 _ (by omega) (by omega)).mono ?_; rintro e w13 ⟨⟨ng13, A13, n13, c13, rfl, hr13⟩, hb13⟩; have HR13 := Lib.hid hr13; clear hr13; have hC13 := Below.trans hC12 (hb13.mono (by have := hC12.size; simpa using this)))
      | (go_at_call 21; refine (is_yes _ _ (-1) 2 64 _ (HR8.out.below (hC11.mono (by simp))) HR11.out (by omega) (by omega)).mono ?_; rintro e w12 ⟨rfl, hb12⟩; have hC12 := Below.trans hC11 (hb12.mono (by have := hC11.size; simpa using this)))
      | (go_at_call 18; have hK := hC10; clear hK; refine (rnew_any (-1) _ (by omega) (by omega)).mono ?_; rintro e w11 ⟨⟨ng11, A11, n11, c11, rfl, hr11⟩, hb11⟩; have HR11 := Lib.hid hr11; clear hr11; have hC11 := Below.trans hC10 (hb11.mono (by have := hC10.size; simpa using this)))
      | (go_at_call 21; refine (is_yes _ _ (-3) 2 64 _ (HQ8.out.below (hC9.mono (by simp))) HR9.out (by omega) (by omega)).mono ?_; rintro e w10 ⟨rfl, hb10⟩; have hC10 := Below.trans hC9 (hb10.mono (by have := hC9.size; simpa using this)))
      | (go_at_call 18; refine (rnew_any (-3) _ (by omega) (by omega)).mono ?_; rintro e w9 ⟨⟨ng9, A9, n9, c9, rfl, hr9⟩, hb9⟩; have HR9 := Lib.hid hr9; clear hr9; have hC9 := Below.trans hC8 (hb9.mono (by simp))))
  go_wp2
  go_ret
  exact ⟨rfl, (HALL.out.trans ((below_alloc w8 _).mono HALL.out.size)).trans (hC14.mono (Nat.le_succ_of_le HALL.out.size))⟩

end Go.Proofs.Ytoanomgdkkbbmaa
