/- divide, Divide. -/
import Derived.Test.YtoanomgdkkbbmaaShortDiv
namespace Go.Proofs.Ytoanomgdkkbbmaa
open Go.RowKit LM

/-- What a division of two numbers comes to. -/
def Divided (w : World) (x y : Int) (L : Nat) (e : Ending) (w' : World) : Prop :=
  ∃ A n c B m d, e = .returned (.tuple #[.slice A n c, .slice B m d]) ∧ Num w' (.slice A n c) (x / y) L ∧ Num w' (.slice B m d) (x % y) L ∧ Below w.heap.size w w'

theorem Num.form {w : World} {s : Value} {z : Int} {L : Nat} (h : Num w s z L) : ∃ A n c, s = .slice A n c := by
  obtain ⟨A, n, c, _, rfl, _⟩ := h; exact ⟨A, n, c, rfl⟩

theorem Num.nonneg {w : World} {s : Value} {z : Int} {L : Nat} (h : Num w s z L) : 0 ≤ z := by
  obtain ⟨_, _, _, _, _, _, hd, _, rfl, _⟩ := h; exact (val_bounds hd).1

theorem divide_less (u v : Value) (x y : Int) (L M : Nat) (w : World) (h : Num w u x L) (g : Num w v y M) (hL : L ≤ 1048576) (hM : M ≤ 1048576) (hlt : x < y) :
    Calls Try.prog 82 #[u, v] w (Divided w x y (max L 2)) := by
  have hx0 := h.nonneg
  have HH := Lib.hid h
  have HG := Lib.hid g
  have hq := Lib.hid (Int.ediv_eq_zero_of_lt hx0 hlt)
  have hr := Lib.hid (Int.emod_eq_of_lt hx0 hlt)
  have hc : cmpI x y < 0 := by rw [cmpI_lt hlt]; decide
  clear h g
  go_enter Try.func82, Try.ntmps82
  go_wp2_with fail
  refine (compare_num u v x y L M _ HH.out HG.out (by omega) (by omega)).mono ?_
  rintro e w1 ⟨rfl, k, rfl⟩
  go_wp2_with fail
  refine (clone_num u x L _ (HH.out.below (below_drewN (Below.refl _ _) k)) (by omega)).mono ?_
  rintro e w2 ⟨r, rfl, hn, hb⟩
  obtain ⟨A, n, c, rfl⟩ := hn.form
  have HN := Lib.hid hn
  go_wp2
  go_ret2
  refine ⟨none, 0, 0, A, n, c, rfl, by rw [hq.out]; exact Num.zero _ _, by rw [hr.out]; exact HN.out.mono (by omega), (below_drewN (Below.refl _ _) k).trans hb⟩

theorem divide_one (u : Value) (B : Option Addr) (d : Nat) (x y : Int) (L : Nat) (ys : List Int) (w : World) (h : Num w u x L) (hr : Row .u32 w B 1 d ys) (hd : Dig ys) (ht : Trimmed ys) (hy : val ys = y) (hL : L ≤ 1048576) (hge : y ≤ x) :
    Calls Try.prog 82 #[u, .slice B 1 d] w (Divided w x y (max L 2)) := by
  obtain ⟨A, n, c, xs, rfl, xr, xd, xt, rfl, hn⟩ := h
  obtain ⟨hyl, _, hcell⟩ := id hr
  obtain ⟨b, o, rfl, hb, hx⟩ := hcell (by omega)
  obtain ⟨y0, rfl⟩ : ∃ y0, ys = [y0] := by match ys, hyl with | [y0], _ => exact ⟨y0, rfl⟩
  have hy0 : y0 = y := by rw [← hy]; simp [val]
  subst hy0
  have hc0 : w.cell? ⟨b, o, none⟩ = some (.int .u32 y0) := by simpa using hx 0 (by omega)
  have bd := hd 0 (by simp)
  have bp : y0 ≠ 0 := by
    rcases ht with h | h
    · simp at h
    · simpa using h
  simp only [List.getD_cons_zero] at bd
  rw [BB_def] at bd
  have g : Num w (.slice (some ⟨b, o, none⟩) 1 d) y0 1 := ⟨_, _, _, [y0], rfl, hr, hd, ht, hy, Nat.le_refl _⟩
  have h : Num w (.slice A n c) (val xs) L := ⟨_, _, _, xs, rfl, xr, xd, xt, rfl, hn⟩
  have HH := Lib.hid h
  have HG := Lib.hid g
  have HX := Lib.hid xr
  have hc : ¬ cmpI (val xs) y0 < 0 := by rcases Int.lt_or_eq_of_le hge with h | h; rw [cmpI_gt h]; decide; rw [cmpI_eq h.symm]; decide
  have r0 : 0 ≤ val xs % y0 := Int.emod_nonneg _ (by omega)
  have r1 : val xs % y0 < y0 := Int.emod_lt_of_pos _ (by omega)
  obtain ⟨bd0, bd1⟩ := bd
  have HD := Lib.hid hd
  have HT := Lib.hid ht
  clear h g hr hy hd ht hcell hx hyl xr
  go_enter Try.func82, Try.ntmps82
  go_wp2_with fail
  refine (compare_num _ _ (val xs) y0 L 1 _ HH.out HG.out (by omega) (by omega)).mono ?_
  rintro e w1 ⟨rfl, k, rfl⟩
  go_wp2_with fail
  refine (sdiv_any A n c xs y0 _ (HX.out.drewN k) (by omega) xd (by omega) bd1).mono ?_
  rintro e w2 ⟨q, rfl, hq, hb2⟩
  obtain ⟨A2, n2, c2, rfl⟩ := hq.form
  have HQ := Lib.hid hq
  go_wp2_with fail
  refine (words64_any _ _ (by omega) (by omega)).mono ?_
  rintro e w3 ⟨r, rfl, hr, hb3⟩
  obtain ⟨A3, n3, c3, rfl⟩ := hr.form
  have HR := Lib.hid hr
  go_wp2
  go_ret2
  have hb4 : Below w.heap.size w w2 := (below_drewN (Below.refl _ _) k).trans hb2
  exact ⟨_, _, _, _, _, _, rfl, (HQ.out.mono (by omega)).below hb3, HR.out.mono (by omega), hb4.trans (hb3.mono hb4.size)⟩

theorem withSign_div (p q : Bool) (a b : Int) (ha : 0 ≤ a) : withSign (p != q) (a / b) = (withSign p a).tdiv (withSign q b) := by
  have e := Int.tdiv_eq_ediv_of_nonneg (b := b) ha
  cases p <;> cases q <;> simp [withSign, Int.neg_tdiv, Int.tdiv_neg, e]

theorem withSign_mod (p q : Bool) (a b : Int) (ha : 0 ≤ a) : withSign p (a % b) = (withSign p a).tmod (withSign q b) := by
  have e := Int.tmod_eq_emod_of_nonneg (b := b) ha
  cases p <;> cases q <;> simp [withSign, Int.neg_tmod, Int.tmod_neg, e]

theorem below_four (w : World) (x y z t : Obj) : Below w.heap.size w ((((w.alloc x).alloc y).alloc z).alloc t) :=
  (below_boxed2 w x y z).alloc (by simp; omega) t

theorem boxes4 {w w' : World} {u v : Value} {p q : Bool} (h : Below (w.heap.size + 2) ((((w.alloc (.cells #[.bool p, u] 28)).alloc (.cells #[.bool q, v] 28)).alloc (.cells #[.bool false, .slice none 0 0] 28)).alloc (.cells #[.bool false, .slice none 0 0] 28)) w') :
    w'.cell? ⟨w.heap.size, 0, none⟩ = some (.bool p) ∧ w'.cell? ⟨w.heap.size, 1, none⟩ = some u ∧ w'.cell? ⟨w.heap.size + 1, 0, none⟩ = some (.bool q) ∧ w'.cell? ⟨w.heap.size + 1, 1, none⟩ = some v ∧
      Below (w.heap.size + 2) ((((w.alloc (.cells #[.bool p, u] 28)).alloc (.cells #[.bool q, v] 28)).alloc (.cells #[.bool false, .slice none 0 0] 28)).alloc (.cells #[.bool false, .slice none 0 0] 28)) w' := by
  have h3 : Below (w.heap.size + 2) (((w.alloc (.cells #[.bool p, u] 28)).alloc (.cells #[.bool q, v] 28)).alloc (.cells #[.bool false, .slice none 0 0] 28)) w' :=
    ((Below.refl _ _).alloc (by simp) _).trans h
  obtain ⟨c1, c2, c3, c4, _⟩ := boxes2 h3
  exact ⟨c1, c2, c3, c4, h⟩

theorem room4 {w w' : World} {x y : Obj} (h : Below (w.heap.size + 4) ((((w.alloc x).alloc y).alloc (.cells #[.bool false, .slice none 0 0] 28)).alloc (.cells #[.bool false, .slice none 0 0] 28)) w') :
    (w'.cell? ⟨w.heap.size + 1 + 1, 0, none⟩ = some (.bool false) ∧ w'.cell? ⟨w.heap.size + 1 + 1, 1, none⟩ = some (.slice none 0 0) ∧ w'.frozen? ⟨w.heap.size + 1 + 1, 0, none⟩ = false ∧ w'.frozen? ⟨w.heap.size + 1 + 1, 1, none⟩ = false) ∧
    w'.cell? ⟨w.heap.size + 1 + 1 + 1, 0, none⟩ = some (.bool false) ∧ w'.cell? ⟨w.heap.size + 1 + 1 + 1, 1, none⟩ = some (.slice none 0 0) ∧ w'.frozen? ⟨w.heap.size + 1 + 1 + 1, 0, none⟩ = false ∧ w'.frozen? ⟨w.heap.size + 1 + 1 + 1, 1, none⟩ = false := by
  have h3 : Below (w.heap.size + 3) (((w.alloc x).alloc y).alloc (.cells #[.bool false, .slice none 0 0] 28)) w' :=
    ((Below.refl _ _).alloc (by simp) _).trans (h.mono (by omega))
  refine ⟨room2 h3, ?_, ?_, ?_, ?_⟩
  · rw [h.cell (by simp), World.cell?_alloc_at _ _ _ _ (by simp)]; rfl
  · rw [h.cell (by simp), World.cell?_alloc_at _ _ _ _ (by simp)]; rfl
  · rw [h.frozen (by simp)]; exact World.frozen?_alloc_at _ _ _ _ (by simp)
  · rw [h.frozen (by simp)]; exact World.frozen?_alloc_at _ _ _ _ (by simp)

/-- Two results are put into their rooms. -/
theorem Ival.stored2 {w : World} {s : Value} {z : Int} {L : Nat} (h : Ival w s z L) {r t : Nat} (hrt : r ≠ t) (e1 : w.cell? ⟨r, 0, none⟩ = some (.bool false)) (e2 : w.cell? ⟨r, 1, none⟩ = some (.slice none 0 0))
    (g1 : w.cell? ⟨t, 0, none⟩ = some (.bool false)) (g2 : w.cell? ⟨t, 1, none⟩ = some (.slice none 0 0)) (x y x' y' : Value) :
    Ival ((((w.setCell ⟨r, 0, none⟩ x).setCell ⟨r, 1, none⟩ y).setCell ⟨t, 0, none⟩ x').setCell ⟨t, 1, none⟩ y') s z L := by
  refine (h.stored e1 e2 x y).stored ?_ ?_ x' y'
  · rw [World.cell?_setCell_other _ _ _ _ (by simp <;> omega), World.cell?_setCell_other _ _ _ _ (by simp <;> omega), g1]
  · rw [World.cell?_setCell_other _ _ _ _ (by simp <;> omega), World.cell?_setCell_other _ _ _ _ (by simp <;> omega), g2]

set_option maxRecDepth 100000 in
set_option maxHeartbeats 1000000 in
theorem Divide_of (p q : Bool) (A B : Option Addr) (n c m d : Nat) (a b : Int) (L M K : Nat) (w : World) (ha : Num w (.slice A n c) a L) (hb : Num w (.slice B m d) b M) (hK : K ≤ 1073741824) (hb0 : b ≠ 0)
    (hg : Ival w (.agg #[.bool q, .slice B m d]) (withSign q b) M)
    (hD : ∀ w1, Below w.heap.size w w1 → Calls Try.prog 82 #[.slice A n c, .slice B m d] w1 (Divided w1 a b K)) :
    Calls Try.prog 30 #[.agg #[.bool p, .slice A n c], .agg #[.bool q, .slice B m d]] w fun e w' => ∃ n1 A1 l1 c1 n2 A2 l2 c2, e = .returned (.tuple #[.agg #[.bool n1, .slice A1 l1 c1], .agg #[.bool n2, .slice A2 l2 c2], .int .i64 0]) ∧
      Ival w' (.agg #[.bool n1, .slice A1 l1 c1]) ((withSign p a).tdiv (withSign q b)) K ∧ Ival w' (.agg #[.bool n2, .slice A2 l2 c2]) ((withSign p a).tmod (withSign q b)) K ∧ Below w.heap.size w w' := by
  have hdiv := Lib.hid (withSign_div p q a b ha.nonneg)
  have hmod := Lib.hid (withSign_mod p q a b ha.nonneg)
  have hs : (cmpI (withSign q b) 0 == 0) = false := by
    have hbn := hb.nonneg
    have : withSign q b ≠ 0 := by cases q <;> simp [withSign] <;> omega
    simp only [beq_eq_false_iff_ne]
    rcases Int.lt_or_gt_of_ne this with h | h
    · rw [cmpI_lt h]; decide
    · rw [cmpI_gt h]; decide
  have HD := Lib.hid hD
  have HG := Lib.hid hg
  clear hD hg ha hb
  have hW := below_four w (.cells #[.bool p, .slice A n c] 28) (.cells #[.bool q, .slice B m d] 28) (.cells #[.bool false, .slice none 0 0] 28) (.cells #[.bool false, .slice none 0 0] 28)
  go_enter Try.func30, Try.ntmps30
  go_wp2_with fail
  refine (sign_int _ _ M _ (HG.out.below hW)).mono ?_
  rintro e w1 ⟨rfl, hb1⟩
  have hb1' := hb1.mono (B' := w.heap.size + 4) (by simp)
  obtain ⟨c1, c2, c3, c4, _⟩ := boxes4 (hb1'.mono (by omega))
  go_wp2_with fail
  refine (HD.out _ (hW.trans (hb1'.mono (by omega)))).mono ?_
  rintro e w2 ⟨A1, n1, d1, B1, m1, e1, rfl, hq, hr, hb2⟩
  have hb2' := hb1'.trans (hb2.mono (B' := w.heap.size + 4) (by have := hb1'.size; simp at this; omega))
  have HQ := Lib.hid hq
  have HR := Lib.hid hr
  have hC2 := hb2'.mono (B' := w.heap.size + 2) (by omega)
  have h22 : w.heap.size + 2 ≤ w.heap.size + 1 + 1 := Nat.le_refl _
  have h23 : w.heap.size + 2 ≤ w.heap.size + 1 + 1 + 1 := Nat.le_succ _
  clear c1 c2 c3 c4 hq hr
  go_wp2_with fail
  go_region_held3 (fun w' => w'.cell? ⟨w.heap.size, 0, none⟩ = some (.bool p) ∧ w'.cell? ⟨w.heap.size, 1, none⟩ = some (.slice A n c) ∧ w'.cell? ⟨w.heap.size + 1, 0, none⟩ = some (.bool q) ∧ w'.cell? ⟨w.heap.size + 1, 1, none⟩ = some (.slice B m d) ∧ Below (w.heap.size + 2) ((((w.alloc (.cells #[.bool p, .slice A n c] 28)).alloc (.cells #[.bool q, .slice B m d] 28)).alloc (.cells #[.bool false, .slice none 0 0] 28)).alloc (.cells #[.bool false, .slice none 0 0] 28)) w')
    (first | (with_reducible exact boxes4 (Below.drew hC2)) | (with_reducible exact boxes4 hC3) | (with_reducible exact boxes4 hC4) | (with_reducible exact boxes4 (Below.setCell (Below.setCell hC4 h22 _) h22 _)) | (with_reducible exact boxes4 (Below.setCell (Below.setCell (Below.setCell (Below.setCell hC4 h22 _) h22 _) h23 _) h23 _)))
    (first | (go_at_call 70; refine (signed_out _ _ _ _ _ (HR.out.below ((Below.drew (Below.refl _ _)).trans hb3)) hK).mono ?_; rintro e w4 ⟨ng4, A4, n4, c4, rfl, hv4, hb4⟩; have hB4 := Below.trans hB3 (hb4.mono (B' := w.heap.size + 4) (by have := hB3.size; simp at this; omega)); have hC4 := hB4.mono (B' := w.heap.size + 2) (by omega); obtain ⟨⟨e1, e2, f1, f2⟩, g1, g2, k1, k2⟩ := room4 hB4) | (go_at_call 70; refine (signed_out _ _ _ _ _ (HQ.out.below (Below.drew (Below.refl _ _))) hK).mono ?_; rintro e w3 ⟨ng3, A3, n3, c3, rfl, hv3, hb3⟩; have hB3 := Below.trans (Below.drew hb2') (hb3.mono (B' := w.heap.size + 4) (by have := hb2'.size; simp at this; simp; omega)); have hC3 := hB3.mono (B' := w.heap.size + 2) (by omega)))
  clear hC2 hC3 hC4
  go_wp2
  have hrt : w.heap.size + 1 + 1 ≠ w.heap.size + 1 + 1 + 1 := by omega
  refine bodyPost_ret (v := .tuple #[.agg #[.bool ng3, .slice A3 n3 c3], .agg #[.bool ng4, .slice A4 n4 c4], .int .i64 0]) (by simp [results, Try.results30, go_sem, e1, e2, g1, g2]) rfl ⟨_, _, _, _, _, _, _, _, rfl, ?_, ?_, ?_⟩
  · rw [← hdiv.out]; exact (hv3.below hb4).stored2 hrt e1 e2 g1 g2 _ _ _ _
  · rw [← hmod.out]; exact hv4.stored2 hrt e1 e2 g1 g2 _ _ _ _
  · exact ((((hW.trans (hB4.mono (by omega))).setCell (by show _ ≤ _; simp; omega) _).setCell (by show _ ≤ _; simp; omega) _).setCell (by show _ ≤ _; simp; omega) _).setCell (by show _ ≤ _; simp; omega) _

end Go.Proofs.Ytoanomgdkkbbmaa
