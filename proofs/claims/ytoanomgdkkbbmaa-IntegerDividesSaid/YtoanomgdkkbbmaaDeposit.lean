/- Deposit. -/
import Derived.Test.YtoanomgdkkbbmaaField
namespace Go.Proofs.Ytoanomgdkkbbmaa
open Go.RowKit LM

theorem dep_hold {w w' : World} {p q : Bool} {A B : Option Addr} {n c m d : Nat} (h : Below (w.heap.size + 3) (((w.alloc (.cells #[.bool p, .slice A n c] 28)).alloc (.cells #[.bool q, .slice B m d] 28)).alloc (.cells #[.bool false, .slice none 0 0] 28)) w') :
    w'.cell? ⟨w.heap.size, 0, none⟩ = some (.bool p) ∧ w'.cell? ⟨w.heap.size, 1, none⟩ = some (.slice A n c) ∧ w'.cell? ⟨w.heap.size + 1, 0, none⟩ = some (.bool q) ∧ w'.cell? ⟨w.heap.size + 1, 1, none⟩ = some (.slice B m d) ∧ Below (w.heap.size + 3) (((w.alloc (.cells #[.bool p, .slice A n c] 28)).alloc (.cells #[.bool q, .slice B m d] 28)).alloc (.cells #[.bool false, .slice none 0 0] 28)) w' := by
  refine ⟨?_, ?_, ?_, ?_, h⟩
  · rw [h.cell (by simp), World.cell?_alloc_past _ _ _ (by simp; omega), World.cell?_alloc_past _ _ _ (by simp), World.cell?_alloc_at _ _ _ _ rfl]; rfl
  · rw [h.cell (by simp), World.cell?_alloc_past _ _ _ (by simp; omega), World.cell?_alloc_past _ _ _ (by simp), World.cell?_alloc_at _ _ _ _ rfl]; rfl
  · rw [h.cell (by simp), World.cell?_alloc_past _ _ _ (by simp), World.cell?_alloc_at _ _ _ _ (by simp)]; rfl
  · rw [h.cell (by simp), World.cell?_alloc_past _ _ _ (by simp), World.cell?_alloc_at _ _ _ _ (by simp)]; rfl

theorem alloc_room (v : World) : ((v.alloc (.cells #[.bool false, .slice none 0 0] 28)).cell? ⟨v.heap.size, 0, none⟩ = some (.bool false) ∧ (v.alloc (.cells #[.bool false, .slice none 0 0] 28)).cell? ⟨v.heap.size, 1, none⟩ = some (.slice none 0 0) ∧
    (v.alloc (.cells #[.bool false, .slice none 0 0] 28)).frozen? ⟨v.heap.size, 0, none⟩ = false ∧ (v.alloc (.cells #[.bool false, .slice none 0 0] 28)).frozen? ⟨v.heap.size, 1, none⟩ = false) ∧ v.heap.size < (v.alloc (.cells #[.bool false, .slice none 0 0] 28)).heap.size := by
  refine ⟨⟨?_, ?_, ?_, ?_⟩, by simp⟩
  · rw [World.cell?_alloc_at _ _ _ _ rfl]; rfl
  · rw [World.cell?_alloc_at _ _ _ _ rfl]; rfl
  · exact World.frozen?_alloc_at _ _ _ _ rfl
  · exact World.frozen?_alloc_at _ _ _ _ rfl

/-- The room of a box in a later world. -/
def RoomAt (v : World) (b : Nat) : Prop := (v.cell? ⟨b, 0, none⟩ = some (.bool false) ∧ v.cell? ⟨b, 1, none⟩ = some (.slice none 0 0) ∧ v.frozen? ⟨b, 0, none⟩ = false ∧ v.frozen? ⟨b, 1, none⟩ = false) ∧ b < v.heap.size
theorem RoomAt.below {v w' : World} {b : Nat} (h : RoomAt v b) (hb : Below v.heap.size v w') : RoomAt w' b :=
  ⟨⟨(hb.cell (p := ⟨b, 0, none⟩) h.2).trans h.1.1, (hb.cell (p := ⟨b, 1, none⟩) h.2).trans h.1.2.1, (hb.frozen (p := ⟨b, 0, none⟩) h.2).trans h.1.2.2.1, (hb.frozen (p := ⟨b, 1, none⟩) h.2).trans h.1.2.2.2⟩, Nat.lt_of_lt_of_le h.2 hb.size⟩

theorem box_filled {v : World} {b : Nat} (h : RoomAt v b) (x y : Value) : ((v.setCell ⟨b, 0, none⟩ x).setCell ⟨b, 1, none⟩ y).cell? ⟨b, 0, none⟩ = some x ∧ ((v.setCell ⟨b, 0, none⟩ x).setCell ⟨b, 1, none⟩ y).cell? ⟨b, 1, none⟩ = some y := by
  have h1 : (v.setCell ⟨b, 0, none⟩ x).cell? ⟨b, 1, none⟩ = some (.slice none 0 0) := by rw [World.cell?_setCell_other _ _ _ _ (by simp)]; exact h.1.2.1
  refine ⟨?_, ?_⟩
  · rw [World.cell?_setCell_other _ _ _ _ (by simp)]
    exact World.cell?_setCell_same _ _ _ (by rw [h.1.1])
  · exact World.cell?_setCell_same _ _ _ (by rw [h1])

theorem sub_typed (u v : Value) (x y : Int) (L M : Nat) (w : World) (h : Ival w u x L) (g : Ival w v y M) (hL : L ≤ 1048576) (hM : M ≤ 1048576) :
    Calls Try.prog 40 #[u, v] w fun e w' => (∃ ng A2 n2 c2, e = .returned (.agg #[.bool ng, .slice A2 n2 c2]) ∧ Ival w' (.agg #[.bool ng, .slice A2 n2 c2]) (x - y) (max L M + 1)) ∧ Below w.heap.size w w' := by
  refine (sub_int u v x y L M w h g hL hM).mono ?_
  rintro e w' ⟨r, rfl, hv, hb⟩
  obtain ⟨ng, A2, n2, c2, rfl⟩ := hv.form
  exact ⟨⟨ng, A2, n2, c2, rfl, hv⟩, hb⟩

theorem add_typed (u v : Value) (x y : Int) (L M : Nat) (w : World) (h : Ival w u x L) (g : Ival w v y M) (hL : L ≤ 1048576) (hM : M ≤ 1048576) :
    Calls Try.prog 38 #[u, v] w fun e w' => (∃ ng A2 n2 c2, e = .returned (.agg #[.bool ng, .slice A2 n2 c2]) ∧ Ival w' (.agg #[.bool ng, .slice A2 n2 c2]) (x + y) (max L M + 1)) ∧ Below w.heap.size w w' := by
  refine (add_int u v x y L M w h g hL hM).mono ?_
  rintro e w' ⟨r, rfl, hv, hb⟩
  obtain ⟨ng, A2, n2, c2, rfl⟩ := hv.form
  exact ⟨⟨ng, A2, n2, c2, rfl, hv⟩, hb⟩

theorem field_int (u : Value) (x : Int) (L k p : Nat) (K P : Int) (hK : K = (k : Int)) (hP : P = (p : Int)) (w : World) (h : Ival w u x L) (hL : L ≤ 50000) (hk : k ≤ 65536) (hp : p ≤ 65536) :
    Calls Try.prog 106 #[u, .int .i64 K, .int .i64 P] w fun e w' => (∃ ng A2 n2 c2, e = .returned (.agg #[.bool ng, .slice A2 n2 c2]) ∧ Ival w' (.agg #[.bool ng, .slice A2 n2 c2]) (fieldOf x k p) (k / 32 + 1)) ∧ Below w.heap.size w w' := by
  subst hK; subst hP
  exact field_val u x L k p w h hL hk hp

set_option maxRecDepth 100000 in
set_option maxHeartbeats 16000000 in
theorem Deposit_val (u v : Value) (x y : Int) (L M k a : Nat) (w : World) (h : Ival w u x L) (g : Ival w v y M) (hL : L ≤ 10000) (hM : M ≤ 10000) (hk : k ≤ 65536) (ha : a ≤ 65536) :
    Calls Try.prog 58 #[u, v, .int .i64 k, .int .i64 a] w fun e w' => (∃ ng A2 n2 c2, e = .returned (.tuple #[.agg #[.bool ng, .slice A2 n2 c2], .int .i64 0]) ∧ Ival w' (.agg #[.bool ng, .slice A2 n2 c2]) (depOf x y k a) (L + 10000)) ∧ Below w.heap.size w w' := by
  obtain ⟨p, A, n, c, rfl⟩ := h.form
  obtain ⟨q, B, m, d, rfl⟩ := g.form
  have hW : Below w.heap.size w (((w.alloc (.cells #[.bool p, .slice A n c] 28)).alloc (.cells #[.bool q, .slice B m d] 28)).alloc (.cells #[.bool false, .slice none 0 0] 28)) := below_boxed2 _ _ _ _
  have hs3 : w.heap.size + 3 ≤ (((w.alloc (.cells #[.bool p, .slice A n c] 28)).alloc (.cells #[.bool q, .slice B m d] 28)).alloc (.cells #[.bool false, .slice none 0 0] 28)).heap.size := by simp <;> omega
  have hs3' : (((w.alloc (.cells #[.bool p, .slice A n c] 28)).alloc (.cells #[.bool q, .slice B m d] 28)).alloc (.cells #[.bool false, .slice none 0 0] 28)).heap.size ≤ w.heap.size + 3 := by simp <;> omega
  have HX := Lib.hid (h.below hW)
  have HY := Lib.hid (g.below hW)
  have HT := Lib.hid (fun (w' : World) (hb : Below (w.heap.size + 3) (((w.alloc (.cells #[.bool p, .slice A n c] 28)).alloc (.cells #[.bool q, .slice B m d] 28)).alloc (.cells #[.bool false, .slice none 0 0] 28)) w') => dep_hold hb)
  have HRM := Lib.hid (fun (w' : World) (hb : Below (w.heap.size + 3) (((w.alloc (.cells #[.bool p, .slice A n c] 28)).alloc (.cells #[.bool q, .slice B m d] 28)).alloc (.cells #[.bool false, .slice none 0 0] 28)) w') => room2 hb)
  have hB00 := Below.refl (w.heap.size + 3) (((w.alloc (.cells #[.bool p, .slice A n c] 28)).alloc (.cells #[.bool q, .slice B m d] 28)).alloc (.cells #[.bool false, .slice none 0 0] 28))
  have yk := Lib.hid (show (decide (0 ≤ (k : Int)) && decide ((k : Int) ≤ 65536)) = true by simp; omega)
  have ya := Lib.hid (show (decide (0 ≤ (a : Int)) && decide ((a : Int) ≤ 65536)) = true by simp; omega)
  clear h g
  go_enter Try.func58, Try.ntmps58
  go_wp2_with fail
  refine (inField_any _ _).mono ?_
  rintro e w1 ⟨rfl, rfl⟩
  rw [yk.out]
  go_wp2_with fail
  refine (inField_any _ _).mono ?_
  rintro e w1 ⟨rfl, rfl⟩
  rw [ya.out]
  go_wp2_with fail
  have hB0 := hB00.drew
  generalize (((w.alloc (.cells #[.bool p, .slice A n c] 28)).alloc (.cells #[.bool q, .slice B m d] 28)).alloc (.cells #[.bool false, .slice none 0 0] 28)) = wl at *
  refine wp_region_held_drew (S := fun w' => w'.cell? ⟨w.heap.size, 0, none⟩ = some (.bool p) ∧ w'.cell? ⟨w.heap.size, 1, none⟩ = some (.slice A n c) ∧ w'.cell? ⟨w.heap.size + 1, 0, none⟩ = some (.bool q) ∧ w'.cell? ⟨w.heap.size + 1, 1, none⟩ = some (.slice B m d) ∧ Below (w.heap.size + 3) wl w') (by kernel_rfl) (HT.out _ hB0) (fun hHeld0 => ?_)
  refine wpAnyH_taken (i := 0) (d := some 20) (v := ?_) rfl rfl (by kernel_rfl) (by kernel_rfl) (by kernel_rfl) (fun _ _ _ h => h) (Or.inl ⟨by rfl, ?_⟩) (by assumption) ?_
  rotate_left 1
  · (intro w hSw; (try dsimp only at hSw); go_simp; try with_reducible rfl)
  try simp only [Act.put, List.setIfInBounds_toArray, List.set_cons_zero, List.set_cons_succ]
  refine wpAnyH_taken (i := 1) (d := some 21) (v := ?_) rfl rfl (by kernel_rfl) (by kernel_rfl) (by kernel_rfl) (fun _ _ _ h => h) (Or.inl ⟨by rfl, ?_⟩) (by assumption) ?_
  rotate_left 1
  · (intro w hSw; (try dsimp only at hSw); go_simp; try with_reducible rfl)
  try simp only [Act.put, List.setIfInBounds_toArray, List.set_cons_zero, List.set_cons_succ]
  refine wpAnyH_taken (i := 3) (d := some 23) (v := ?_) rfl rfl (by kernel_rfl) (by kernel_rfl) (by kernel_rfl) (fun _ _ _ h => h) (Or.inl ⟨by rfl, ?_⟩) (by assumption) ?_
  rotate_left 1
  · (intro w hSw; (try dsimp only at hSw); go_simp; try with_reducible rfl)
  try simp only [Act.put, List.setIfInBounds_toArray, List.set_cons_zero, List.set_cons_succ]
  refine wpAnyH_taken (i := 4) (d := some 24) (v := ?_) rfl rfl (by kernel_rfl) (by kernel_rfl) (by kernel_rfl) (fun _ _ _ h => h) (Or.inl ⟨by rfl, ?_⟩) (by assumption) ?_
  rotate_left 1
  · (intro w hSw; (try dsimp only at hSw); go_simp; try with_reducible rfl)
  try simp only [Act.put, List.setIfInBounds_toArray, List.set_cons_zero, List.set_cons_succ]
  refine wpAnyH_taken (i := 5) (d := some 25) (v := ?_) rfl rfl (by kernel_rfl) (by kernel_rfl) (by kernel_rfl) (fun _ _ _ h => h) (Or.inl ⟨by rfl, ?_⟩) (by assumption) ?_
  rotate_left 1
  · (intro w hSw; (try dsimp only at hSw); go_simp; try with_reducible rfl)
  try simp only [Act.put, List.setIfInBounds_toArray, List.set_cons_zero, List.set_cons_succ]
  refine wpAnyH_ready (rs := [2, 8]) (by kernel_rfl) (by simp) ?_
  refine AllReadyH.cons rfl (fun K hK => ?_) (AllReadyH.cons rfl (fun K hK => ?_) AllReadyH.nil)
  · try simp only [List.getElem_toArray, List.getElem_cons_zero, List.getElem_cons_succ]
    go_simp
    (go_at_call 106; refine (field_int _ y M k 0 _ _ rfl rfl _ (HY.out.below (hB0.mono hs3')) (by omega) hk (by decide)).mono ?_; rintro e wa ⟨⟨ng1, A1, n1, d1, rfl, hv1⟩, hba⟩)
    have HV1 := Lib.hid hv1
    clear hv1
    have hBa := Below.trans hB0 (hba.mono (B' := w.heap.size + 3) (Nat.le_trans hs3 hB0.size))
    refine hK.out _ _ (HT.out _ hBa) (fun hHeld1 => ?_)
    clear hK K
    try simp only [Act.put, List.setIfInBounds_toArray, List.set_cons_zero, List.set_cons_succ]
    refine wpAnyH_ready (rs := [6, 8]) (by kernel_rfl) (by simp) ?_
    refine AllReadyH.cons rfl (fun K hK => ?_) (AllReadyH.cons rfl (fun K hK => ?_) AllReadyH.nil)
    · try simp only [List.getElem_toArray, List.getElem_cons_zero, List.getElem_cons_succ]
      go_simp
      (go_at_call 106; refine (field_int _ x L k a _ _ rfl rfl _ (HX.out.below (hBa.mono hs3')) (by omega) hk ha).mono ?_; rintro e wb ⟨⟨ng2, A2, n2, d2, rfl, hv2⟩, hbb⟩)
      have HV2 := Lib.hid hv2
      clear hv2
      have hBb := Below.trans hBa (hbb.mono (B' := w.heap.size + 3) (Nat.le_trans hs3 hBa.size))
      have HV1b := Lib.hid (HV1.out.below hbb)
      refine hK.out _ _ (HT.out _ hBb) (fun hHeld2 => ?_)
      clear hK K
      try simp only [Act.put, List.setIfInBounds_toArray, List.set_cons_zero, List.set_cons_succ]
      refine wpAnyH_ready (rs := [7, 8]) (by kernel_rfl) (by simp) ?_
      refine AllReadyH.cons rfl (fun K hK => ?_) (AllReadyH.cons rfl (fun K hK => ?_) AllReadyH.nil)
      · try simp only [List.getElem_toArray, List.getElem_cons_zero, List.getElem_cons_succ]
        go_simp
        (go_at_call 40; refine (sub_typed _ _ (fieldOf y k 0) (fieldOf x k a) (k / 32 + 1) (k / 32 + 1) _ HV1b.out HV2.out (by omega) (by omega)).mono ?_; rintro e wc ⟨⟨ng3, A3, n3, d3, rfl, hv3⟩, hbc⟩)
        have HV3 := Lib.hid hv3
        clear hv3
        have hBc := Below.trans hBb (hbc.mono (B' := w.heap.size + 3) (Nat.le_trans hs3 hBb.size))
        refine hK.out _ _ (HT.out _ hBc) (fun hHeld3 => ?_)
        clear hK K
        try simp only [Act.put, List.setIfInBounds_toArray, List.set_cons_zero, List.set_cons_succ]
        refine wpAnyH_ready (rs := [8]) (by kernel_rfl) (by simp) ?_
        refine AllReadyH.cons rfl (fun K hK => ?_) AllReadyH.nil
        try simp only [List.getElem_toArray, List.getElem_cons_zero, List.getElem_cons_succ]
        go_simp
        have hBl := hBc.alloc (Nat.le_trans hs3 hBc.size) (.cells #[.bool false, .slice none 0 0] 28)
        have hbl := below_alloc wc (.cells #[.bool false, .slice none 0 0] 28)
        have HRMl := Lib.hid (show RoomAt (wc.alloc (.cells #[.bool false, .slice none 0 0] 28)) wc.heap.size from alloc_room wc)
        have hge : w.heap.size + 3 ≤ wc.heap.size := Nat.le_trans hs3 hBc.size
        have HV3l := Lib.hid (HV3.out.below hbl)
        refine hK.out _ _ (HT.out _ hBl) (fun hHeldl => ?_)
        clear hK K
        try simp only [Act.put, List.setIfInBounds_toArray, List.set_cons_zero, List.set_cons_succ]
        refine wpAnyH_ready (rs := [9]) (by kernel_rfl) (by simp) ?_
        refine AllReadyH.cons rfl (fun K hK => ?_) AllReadyH.nil
        try simp only [List.getElem_toArray, List.getElem_cons_zero, List.getElem_cons_succ]
        obtain ⟨⟨rm0, rm1, rm2, rm3⟩, rmz⟩ := HRMl.out
        go_simp
        have hBs := hBc.alloc (Nat.le_trans hs3 hBc.size) (.cells #[.bool ng3, .slice A3 n3 d3] 28)
        have hbs := below_alloc wc (.cells #[.bool ng3, .slice A3 n3 d3] 28)
        obtain ⟨f0, f1⟩ : (wc.alloc (.cells #[.bool ng3, .slice A3 n3 d3] 28)).cell? ⟨wc.heap.size, 0, none⟩ = some (.bool ng3) ∧ (wc.alloc (.cells #[.bool ng3, .slice A3 n3 d3] 28)).cell? ⟨wc.heap.size, 1, none⟩ = some (.slice A3 n3 d3) := by
          refine ⟨?_, ?_⟩
          · rw [World.cell?_alloc_at _ _ _ _ rfl]; rfl
          · rw [World.cell?_alloc_at _ _ _ _ rfl]; rfl
        have HVS := Lib.hid (HV3.out.below hbs)
        have rmz := (alloc_room wc).2
        refine hK.out _ _ (HT.out _ hBs) (fun hHeldS => ?_)
        clear hK K rm0 rm1 rm2 rm3
        try simp only [Act.put, List.setIfInBounds_toArray, List.set_cons_zero, List.set_cons_succ]
        refine wpAnyH_done (by kernel_rfl) ?_ _
        have hnb : wc.heap.size < (wc.alloc (.cells #[.bool ng3, .slice A3 n3 d3] 28)).heap.size := by simp
        have hnb3 : w.heap.size + 3 ≤ wc.heap.size := hge
        generalize (wc.alloc (.cells #[.bool ng3, .slice A3 n3 d3] 28)) = Ws at *
        generalize wc.heap.size = nb at *
        clear hHeldS
        obtain ⟨k0, k1, _⟩ := HT.out _ hBs
        go_wp2_with fail
        refine wp_region_held_drew (S := fun w' => w'.cell? ⟨w.heap.size, 0, none⟩ = some (.bool p) ∧ w'.cell? ⟨w.heap.size, 1, none⟩ = some (.slice A n c) ∧ w'.cell? ⟨nb, 0, none⟩ = some (.bool ng3) ∧ w'.cell? ⟨nb, 1, none⟩ = some (.slice A3 n3 d3)) (by kernel_rfl) ⟨k0, k1, f0, f1⟩ (fun hHeld0 => ?_)
        refine wpAnyH_taken (i := 0) (d := some 28) (v := ?_) rfl rfl (by kernel_rfl) (by kernel_rfl) (by kernel_rfl) (fun _ _ _ h => h) (Or.inl ⟨by rfl, ?_⟩) (by assumption) ?_
        rotate_left 1
        · (intro w hSw; (try dsimp only at hSw); go_simp; try with_reducible rfl)
        try simp only [Act.put, List.setIfInBounds_toArray, List.set_cons_zero, List.set_cons_succ]
        refine wpAnyH_taken (i := 1) (d := some 29) (v := ?_) rfl rfl (by kernel_rfl) (by kernel_rfl) (by kernel_rfl) (fun _ _ _ h => h) (Or.inl ⟨by rfl, ?_⟩) (by assumption) ?_
        rotate_left 1
        · (intro w hSw; (try dsimp only at hSw); go_simp; try with_reducible rfl)
        try simp only [Act.put, List.setIfInBounds_toArray, List.set_cons_zero, List.set_cons_succ]
        refine wpAnyH_taken (i := 2) (d := some 30) (v := ?_) rfl rfl (by kernel_rfl) (by kernel_rfl) (by kernel_rfl) (fun _ _ _ h => h) (Or.inl ⟨by rfl, ?_⟩) (by assumption) ?_
        rotate_left 1
        · (intro w hSw; (try dsimp only at hSw); go_simp; try with_reducible rfl)
        try simp only [Act.put, List.setIfInBounds_toArray, List.set_cons_zero, List.set_cons_succ]
        refine wpAnyH_ready (rs := [3]) (by kernel_rfl) (by simp) ?_
        refine AllReadyH.cons rfl (fun K hK => ?_) AllReadyH.nil
        try simp only [List.getElem_toArray, List.getElem_cons_zero, List.getElem_cons_succ]
        go_simp
        (go_at_call 96; refine (shifted_any _ (fieldOf y k 0 - fieldOf x k a) (a : Int) (k / 32 + 2) _ ((HVS.out.mono (show max (k / 32 + 1) (k / 32 + 1) + 1 ≤ k / 32 + 2 by omega)).below ((Below.refl Ws.heap.size Ws).drew)) (by omega) (by omega) (by omega)).mono ?_; rintro e wd ⟨⟨ng4, A4, n4, d4, rfl, hv4⟩, hbd⟩)
        have hbd' := ((Below.refl Ws.heap.size Ws).drew).trans (hbd.mono (Nat.le_refl Ws.heap.size))
        have hBd := hBs.trans (hbd'.mono (B' := w.heap.size + 3) (Nat.le_trans hs3 hBs.size))
        have HV4 := Lib.hid (hv4.mono (show k / 32 + 2 + (a : Int).toNat / 32 + 2 ≤ 4200 by omega))
        clear hv4
        obtain ⟨l0, l1, _⟩ := HT.out _ hBd
        refine hK.out _ _ ⟨l0, l1, (hbd'.cell (p := ⟨nb, 0, none⟩) hnb).trans f0, (hbd'.cell (p := ⟨nb, 1, none⟩) hnb).trans f1⟩ (fun hHeld1 => ?_)
        clear hK K
        try simp only [Act.put, List.setIfInBounds_toArray, List.set_cons_zero, List.set_cons_succ]
        refine wpAnyH_ready (rs := [4]) (by kernel_rfl) (by simp) ?_
        refine AllReadyH.cons rfl (fun K hK => ?_) AllReadyH.nil
        try simp only [List.getElem_toArray, List.getElem_cons_zero, List.getElem_cons_succ]
        go_simp
        (go_at_call 38; refine (add_typed _ _ x (shiftOf (fieldOf y k 0 - fieldOf x k a) (a : Int)) L 4200 _ (HX.out.below (hBd.mono hs3')) HV4.out (by omega) (by omega)).mono ?_; rintro e we ⟨⟨ng5, A5, n5, d5, rfl, hv5⟩, hbe⟩)
        have hbe' := hbd'.trans (hbe.mono hbd'.size)
        have hBe := hBs.trans (hbe'.mono (B' := w.heap.size + 3) (Nat.le_trans hs3 hBs.size))
        have HV5 := Lib.hid (hv5.mono (show max L 4200 + 1 ≤ L + 10000 by omega))
        clear hv5 l0 l1
        obtain ⟨l0, l1, _⟩ := HT.out _ hBe
        obtain ⟨e1, e2, e3, e4⟩ := HRM.out _ hBe
        have m0 := (hbe'.cell (p := ⟨nb, 0, none⟩) hnb).trans f0
        have m1 := (hbe'.cell (p := ⟨nb, 1, none⟩) hnb).trans f1
        refine hK.out _ _ ⟨l0, l1, m0, m1⟩ (fun hHeld2 => ?_)
        clear hK K
        try simp only [Act.put, List.setIfInBounds_toArray, List.set_cons_zero, List.set_cons_succ]
        refine wpAnyH_ready (rs := [5]) (by kernel_rfl) (by simp) ?_
        refine AllReadyH.cons rfl (fun K hK => ?_) AllReadyH.nil
        try simp only [List.getElem_toArray, List.getElem_cons_zero, List.getElem_cons_succ]
        go_simp
        refine hK.out _ _ ⟨?_, ?_, ?_, ?_⟩ (fun hHeld3 => ?_)
        · rw [World.cell?_setCell_other _ _ _ _ (by simp <;> omega), World.cell?_setCell_other _ _ _ _ (by simp <;> omega)]; exact l0
        · rw [World.cell?_setCell_other _ _ _ _ (by simp <;> omega), World.cell?_setCell_other _ _ _ _ (by simp <;> omega)]; exact l1
        · rw [World.cell?_setCell_other _ _ _ _ (by simp <;> omega), World.cell?_setCell_other _ _ _ _ (by simp <;> omega)]; exact m0
        · rw [World.cell?_setCell_other _ _ _ _ (by simp <;> omega), World.cell?_setCell_other _ _ _ _ (by simp <;> omega)]; exact m1
        clear hK K
        try simp only [Act.put, List.setIfInBounds_toArray, List.set_cons_zero, List.set_cons_succ]
        refine wpAnyH_taken (i := 6) (d := some 9) (v := ?_) rfl rfl (by kernel_rfl) (by kernel_rfl) (by kernel_rfl) (fun _ _ _ h => h) (Or.inl ⟨by rfl, ?_⟩) (by assumption) ?_
        rotate_left 1
        · (intro w hSw; (try dsimp only at hSw); go_simp; try with_reducible rfl)
        try simp only [Act.put, List.setIfInBounds_toArray, List.set_cons_zero, List.set_cons_succ]
        refine wpAnyH_done (by kernel_rfl) ?_ _
        go_wp2
        refine bodyPost_ret (v := .tuple #[.agg #[.bool ng5, .slice A5 n5 d5], .int .i64 0]) (by simp [results, Try.results58, go_sem, e1, e2]) rfl ⟨⟨_, _, _, _, rfl, ?_⟩, ?_⟩
        · have hvv : x + shiftOf (fieldOf y k 0 - fieldOf x k a) (a : Int) = depOf x y k a := by unfold depOf shiftOf; rw [if_pos (by omega), Int.toNat_natCast]
          rw [← hvv]; exact HV5.out.stored e1 e2 _ _
        · exact ((hW.trans (hBe.mono (by omega))).setCell (by show _ ≤ _; simp; omega) _).setCell (by show _ ≤ _; simp; omega) _
      · try simp only [List.getElem_toArray, List.getElem_cons_zero, List.getElem_cons_succ]
        go_simp
        have hBl := hBb.alloc (Nat.le_trans hs3 hBb.size) (.cells #[.bool false, .slice none 0 0] 28)
        have hbl := below_alloc wb (.cells #[.bool false, .slice none 0 0] 28)
        have HRMl := Lib.hid (show RoomAt (wb.alloc (.cells #[.bool false, .slice none 0 0] 28)) wb.heap.size from alloc_room wb)
        have hge : w.heap.size + 3 ≤ wb.heap.size := Nat.le_trans hs3 hBb.size
        have HV1l := Lib.hid (HV1b.out.below hbl)
        have HV2l := Lib.hid (HV2.out.below hbl)
        refine hK.out _ _ (HT.out _ hBl) (fun hHeldl => ?_)
        clear hK K
        try simp only [Act.put, List.setIfInBounds_toArray, List.set_cons_zero, List.set_cons_succ]
        refine wpAnyH_ready (rs := [7]) (by kernel_rfl) (by simp) ?_
        refine AllReadyH.cons rfl (fun K hK => ?_) AllReadyH.nil
        try simp only [List.getElem_toArray, List.getElem_cons_zero, List.getElem_cons_succ]
        go_simp
        (go_at_call 40; refine (sub_typed _ _ (fieldOf y k 0) (fieldOf x k a) (k / 32 + 1) (k / 32 + 1) _ HV1l.out HV2l.out (by omega) (by omega)).mono ?_; rintro e wc ⟨⟨ng3, A3, n3, d3, rfl, hv3⟩, hbc⟩)
        have HV3 := Lib.hid hv3
        clear hv3
        have hBc := Below.trans hBl (hbc.mono (B' := w.heap.size + 3) (Nat.le_trans hs3 hBl.size))
        have HRM2 := Lib.hid (HRMl.out.below hbc)
        refine hK.out _ _ (HT.out _ hBc) (fun hHeld3 => ?_)
        clear hK K
        try simp only [Act.put, List.setIfInBounds_toArray, List.set_cons_zero, List.set_cons_succ]
        refine wpAnyH_ready (rs := [9]) (by kernel_rfl) (by simp) ?_
        refine AllReadyH.cons rfl (fun K hK => ?_) AllReadyH.nil
        try simp only [List.getElem_toArray, List.getElem_cons_zero, List.getElem_cons_succ]
        obtain ⟨⟨rm0, rm1, rm2, rm3⟩, rmz⟩ := HRM2.out
        go_simp
        have hBs := (hBc.setCell (p := ⟨wb.heap.size, 0, none⟩) hge (.bool ng3)).setCell (p := ⟨wb.heap.size, 1, none⟩) hge (.slice A3 n3 d3)
        obtain ⟨f0, f1⟩ := box_filled HRM2.out (.bool ng3) (.slice A3 n3 d3)
        have HVS := Lib.hid (HV3.out.stored rm0 rm1 (.bool ng3) (.slice A3 n3 d3))
        refine hK.out _ _ (HT.out _ hBs) (fun hHeldS => ?_)
        clear hK K rm0 rm1 rm2 rm3
        try simp only [Act.put, List.setIfInBounds_toArray, List.set_cons_zero, List.set_cons_succ]
        refine wpAnyH_done (by kernel_rfl) ?_ _
        have hnb : wb.heap.size < ((wc.setCell ⟨wb.heap.size, 0, none⟩ (.bool ng3)).setCell ⟨wb.heap.size, 1, none⟩ (.slice A3 n3 d3)).heap.size := by have := rmz; simp [World.setCell] at this ⊢ <;> omega
        have hnb3 : w.heap.size + 3 ≤ wb.heap.size := hge
        generalize ((wc.setCell ⟨wb.heap.size, 0, none⟩ (.bool ng3)).setCell ⟨wb.heap.size, 1, none⟩ (.slice A3 n3 d3)) = Ws at *
        generalize wb.heap.size = nb at *
        clear hHeldS
        obtain ⟨k0, k1, _⟩ := HT.out _ hBs
        go_wp2_with fail
        refine wp_region_held_drew (S := fun w' => w'.cell? ⟨w.heap.size, 0, none⟩ = some (.bool p) ∧ w'.cell? ⟨w.heap.size, 1, none⟩ = some (.slice A n c) ∧ w'.cell? ⟨nb, 0, none⟩ = some (.bool ng3) ∧ w'.cell? ⟨nb, 1, none⟩ = some (.slice A3 n3 d3)) (by kernel_rfl) ⟨k0, k1, f0, f1⟩ (fun hHeld0 => ?_)
        refine wpAnyH_taken (i := 0) (d := some 28) (v := ?_) rfl rfl (by kernel_rfl) (by kernel_rfl) (by kernel_rfl) (fun _ _ _ h => h) (Or.inl ⟨by rfl, ?_⟩) (by assumption) ?_
        rotate_left 1
        · (intro w hSw; (try dsimp only at hSw); go_simp; try with_reducible rfl)
        try simp only [Act.put, List.setIfInBounds_toArray, List.set_cons_zero, List.set_cons_succ]
        refine wpAnyH_taken (i := 1) (d := some 29) (v := ?_) rfl rfl (by kernel_rfl) (by kernel_rfl) (by kernel_rfl) (fun _ _ _ h => h) (Or.inl ⟨by rfl, ?_⟩) (by assumption) ?_
        rotate_left 1
        · (intro w hSw; (try dsimp only at hSw); go_simp; try with_reducible rfl)
        try simp only [Act.put, List.setIfInBounds_toArray, List.set_cons_zero, List.set_cons_succ]
        refine wpAnyH_taken (i := 2) (d := some 30) (v := ?_) rfl rfl (by kernel_rfl) (by kernel_rfl) (by kernel_rfl) (fun _ _ _ h => h) (Or.inl ⟨by rfl, ?_⟩) (by assumption) ?_
        rotate_left 1
        · (intro w hSw; (try dsimp only at hSw); go_simp; try with_reducible rfl)
        try simp only [Act.put, List.setIfInBounds_toArray, List.set_cons_zero, List.set_cons_succ]
        refine wpAnyH_ready (rs := [3]) (by kernel_rfl) (by simp) ?_
        refine AllReadyH.cons rfl (fun K hK => ?_) AllReadyH.nil
        try simp only [List.getElem_toArray, List.getElem_cons_zero, List.getElem_cons_succ]
        go_simp
        (go_at_call 96; refine (shifted_any _ (fieldOf y k 0 - fieldOf x k a) (a : Int) (k / 32 + 2) _ ((HVS.out.mono (show max (k / 32 + 1) (k / 32 + 1) + 1 ≤ k / 32 + 2 by omega)).below ((Below.refl Ws.heap.size Ws).drew)) (by omega) (by omega) (by omega)).mono ?_; rintro e wd ⟨⟨ng4, A4, n4, d4, rfl, hv4⟩, hbd⟩)
        have hbd' := ((Below.refl Ws.heap.size Ws).drew).trans (hbd.mono (Nat.le_refl Ws.heap.size))
        have hBd := hBs.trans (hbd'.mono (B' := w.heap.size + 3) (Nat.le_trans hs3 hBs.size))
        have HV4 := Lib.hid (hv4.mono (show k / 32 + 2 + (a : Int).toNat / 32 + 2 ≤ 4200 by omega))
        clear hv4
        obtain ⟨l0, l1, _⟩ := HT.out _ hBd
        refine hK.out _ _ ⟨l0, l1, (hbd'.cell (p := ⟨nb, 0, none⟩) hnb).trans f0, (hbd'.cell (p := ⟨nb, 1, none⟩) hnb).trans f1⟩ (fun hHeld1 => ?_)
        clear hK K
        try simp only [Act.put, List.setIfInBounds_toArray, List.set_cons_zero, List.set_cons_succ]
        refine wpAnyH_ready (rs := [4]) (by kernel_rfl) (by simp) ?_
        refine AllReadyH.cons rfl (fun K hK => ?_) AllReadyH.nil
        try simp only [List.getElem_toArray, List.getElem_cons_zero, List.getElem_cons_succ]
        go_simp
        (go_at_call 38; refine (add_typed _ _ x (shiftOf (fieldOf y k 0 - fieldOf x k a) (a : Int)) L 4200 _ (HX.out.below (hBd.mono hs3')) HV4.out (by omega) (by omega)).mono ?_; rintro e we ⟨⟨ng5, A5, n5, d5, rfl, hv5⟩, hbe⟩)
        have hbe' := hbd'.trans (hbe.mono hbd'.size)
        have hBe := hBs.trans (hbe'.mono (B' := w.heap.size + 3) (Nat.le_trans hs3 hBs.size))
        have HV5 := Lib.hid (hv5.mono (show max L 4200 + 1 ≤ L + 10000 by omega))
        clear hv5 l0 l1
        obtain ⟨l0, l1, _⟩ := HT.out _ hBe
        obtain ⟨e1, e2, e3, e4⟩ := HRM.out _ hBe
        have m0 := (hbe'.cell (p := ⟨nb, 0, none⟩) hnb).trans f0
        have m1 := (hbe'.cell (p := ⟨nb, 1, none⟩) hnb).trans f1
        refine hK.out _ _ ⟨l0, l1, m0, m1⟩ (fun hHeld2 => ?_)
        clear hK K
        try simp only [Act.put, List.setIfInBounds_toArray, List.set_cons_zero, List.set_cons_succ]
        refine wpAnyH_ready (rs := [5]) (by kernel_rfl) (by simp) ?_
        refine AllReadyH.cons rfl (fun K hK => ?_) AllReadyH.nil
        try simp only [List.getElem_toArray, List.getElem_cons_zero, List.getElem_cons_succ]
        go_simp
        refine hK.out _ _ ⟨?_, ?_, ?_, ?_⟩ (fun hHeld3 => ?_)
        · rw [World.cell?_setCell_other _ _ _ _ (by simp <;> omega), World.cell?_setCell_other _ _ _ _ (by simp <;> omega)]; exact l0
        · rw [World.cell?_setCell_other _ _ _ _ (by simp <;> omega), World.cell?_setCell_other _ _ _ _ (by simp <;> omega)]; exact l1
        · rw [World.cell?_setCell_other _ _ _ _ (by simp <;> omega), World.cell?_setCell_other _ _ _ _ (by simp <;> omega)]; exact m0
        · rw [World.cell?_setCell_other _ _ _ _ (by simp <;> omega), World.cell?_setCell_other _ _ _ _ (by simp <;> omega)]; exact m1
        clear hK K
        try simp only [Act.put, List.setIfInBounds_toArray, List.set_cons_zero, List.set_cons_succ]
        refine wpAnyH_taken (i := 6) (d := some 9) (v := ?_) rfl rfl (by kernel_rfl) (by kernel_rfl) (by kernel_rfl) (fun _ _ _ h => h) (Or.inl ⟨by rfl, ?_⟩) (by assumption) ?_
        rotate_left 1
        · (intro w hSw; (try dsimp only at hSw); go_simp; try with_reducible rfl)
        try simp only [Act.put, List.setIfInBounds_toArray, List.set_cons_zero, List.set_cons_succ]
        refine wpAnyH_done (by kernel_rfl) ?_ _
        go_wp2
        refine bodyPost_ret (v := .tuple #[.agg #[.bool ng5, .slice A5 n5 d5], .int .i64 0]) (by simp [results, Try.results58, go_sem, e1, e2]) rfl ⟨⟨_, _, _, _, rfl, ?_⟩, ?_⟩
        · have hvv : x + shiftOf (fieldOf y k 0 - fieldOf x k a) (a : Int) = depOf x y k a := by unfold depOf shiftOf; rw [if_pos (by omega), Int.toNat_natCast]
          rw [← hvv]; exact HV5.out.stored e1 e2 _ _
        · exact ((hW.trans (hBe.mono (by omega))).setCell (by show _ ≤ _; simp; omega) _).setCell (by show _ ≤ _; simp; omega) _
    · try simp only [List.getElem_toArray, List.getElem_cons_zero, List.getElem_cons_succ]
      go_simp
      have hBl := hBa.alloc (Nat.le_trans hs3 hBa.size) (.cells #[.bool false, .slice none 0 0] 28)
      have hbl := below_alloc wa (.cells #[.bool false, .slice none 0 0] 28)
      have HRMl := Lib.hid (show RoomAt (wa.alloc (.cells #[.bool false, .slice none 0 0] 28)) wa.heap.size from alloc_room wa)
      have hge : w.heap.size + 3 ≤ wa.heap.size := Nat.le_trans hs3 hBa.size
      have HV1l := Lib.hid (HV1.out.below hbl)
      refine hK.out _ _ (HT.out _ hBl) (fun hHeldl => ?_)
      clear hK K
      try simp only [Act.put, List.setIfInBounds_toArray, List.set_cons_zero, List.set_cons_succ]
      refine wpAnyH_ready (rs := [6]) (by kernel_rfl) (by simp) ?_
      refine AllReadyH.cons rfl (fun K hK => ?_) AllReadyH.nil
      try simp only [List.getElem_toArray, List.getElem_cons_zero, List.getElem_cons_succ]
      go_simp
      (go_at_call 106; refine (field_int _ x L k a _ _ rfl rfl _ (HX.out.below (hBl.mono hs3')) (by omega) hk ha).mono ?_; rintro e wb ⟨⟨ng2, A2, n2, d2, rfl, hv2⟩, hbb⟩)
      have HV2 := Lib.hid hv2
      clear hv2
      have hBb := Below.trans hBl (hbb.mono (B' := w.heap.size + 3) (Nat.le_trans hs3 hBl.size))
      have HV1b := Lib.hid (HV1l.out.below hbb)
      have HRM1 := Lib.hid (HRMl.out.below hbb)
      refine hK.out _ _ (HT.out _ hBb) (fun hHeld2 => ?_)
      clear hK K
      try simp only [Act.put, List.setIfInBounds_toArray, List.set_cons_zero, List.set_cons_succ]
      refine wpAnyH_ready (rs := [7]) (by kernel_rfl) (by simp) ?_
      refine AllReadyH.cons rfl (fun K hK => ?_) AllReadyH.nil
      try simp only [List.getElem_toArray, List.getElem_cons_zero, List.getElem_cons_succ]
      go_simp
      (go_at_call 40; refine (sub_typed _ _ (fieldOf y k 0) (fieldOf x k a) (k / 32 + 1) (k / 32 + 1) _ HV1b.out HV2.out (by omega) (by omega)).mono ?_; rintro e wc ⟨⟨ng3, A3, n3, d3, rfl, hv3⟩, hbc⟩)
      have HV3 := Lib.hid hv3
      clear hv3
      have hBc := Below.trans hBb (hbc.mono (B' := w.heap.size + 3) (Nat.le_trans hs3 hBb.size))
      have HRM2 := Lib.hid (HRM1.out.below hbc)
      refine hK.out _ _ (HT.out _ hBc) (fun hHeld3 => ?_)
      clear hK K
      try simp only [Act.put, List.setIfInBounds_toArray, List.set_cons_zero, List.set_cons_succ]
      refine wpAnyH_ready (rs := [9]) (by kernel_rfl) (by simp) ?_
      refine AllReadyH.cons rfl (fun K hK => ?_) AllReadyH.nil
      try simp only [List.getElem_toArray, List.getElem_cons_zero, List.getElem_cons_succ]
      obtain ⟨⟨rm0, rm1, rm2, rm3⟩, rmz⟩ := HRM2.out
      go_simp
      have hBs := (hBc.setCell (p := ⟨wa.heap.size, 0, none⟩) hge (.bool ng3)).setCell (p := ⟨wa.heap.size, 1, none⟩) hge (.slice A3 n3 d3)
      obtain ⟨f0, f1⟩ := box_filled HRM2.out (.bool ng3) (.slice A3 n3 d3)
      have HVS := Lib.hid (HV3.out.stored rm0 rm1 (.bool ng3) (.slice A3 n3 d3))
      refine hK.out _ _ (HT.out _ hBs) (fun hHeldS => ?_)
      clear hK K rm0 rm1 rm2 rm3
      try simp only [Act.put, List.setIfInBounds_toArray, List.set_cons_zero, List.set_cons_succ]
      refine wpAnyH_done (by kernel_rfl) ?_ _
      have hnb : wa.heap.size < ((wc.setCell ⟨wa.heap.size, 0, none⟩ (.bool ng3)).setCell ⟨wa.heap.size, 1, none⟩ (.slice A3 n3 d3)).heap.size := by have := rmz; simp [World.setCell] at this ⊢ <;> omega
      have hnb3 : w.heap.size + 3 ≤ wa.heap.size := hge
      generalize ((wc.setCell ⟨wa.heap.size, 0, none⟩ (.bool ng3)).setCell ⟨wa.heap.size, 1, none⟩ (.slice A3 n3 d3)) = Ws at *
      generalize wa.heap.size = nb at *
      clear hHeldS
      obtain ⟨k0, k1, _⟩ := HT.out _ hBs
      go_wp2_with fail
      refine wp_region_held_drew (S := fun w' => w'.cell? ⟨w.heap.size, 0, none⟩ = some (.bool p) ∧ w'.cell? ⟨w.heap.size, 1, none⟩ = some (.slice A n c) ∧ w'.cell? ⟨nb, 0, none⟩ = some (.bool ng3) ∧ w'.cell? ⟨nb, 1, none⟩ = some (.slice A3 n3 d3)) (by kernel_rfl) ⟨k0, k1, f0, f1⟩ (fun hHeld0 => ?_)
      refine wpAnyH_taken (i := 0) (d := some 28) (v := ?_) rfl rfl (by kernel_rfl) (by kernel_rfl) (by kernel_rfl) (fun _ _ _ h => h) (Or.inl ⟨by rfl, ?_⟩) (by assumption) ?_
      rotate_left 1
      · (intro w hSw; (try dsimp only at hSw); go_simp; try with_reducible rfl)
      try simp only [Act.put, List.setIfInBounds_toArray, List.set_cons_zero, List.set_cons_succ]
      refine wpAnyH_taken (i := 1) (d := some 29) (v := ?_) rfl rfl (by kernel_rfl) (by kernel_rfl) (by kernel_rfl) (fun _ _ _ h => h) (Or.inl ⟨by rfl, ?_⟩) (by assumption) ?_
      rotate_left 1
      · (intro w hSw; (try dsimp only at hSw); go_simp; try with_reducible rfl)
      try simp only [Act.put, List.setIfInBounds_toArray, List.set_cons_zero, List.set_cons_succ]
      refine wpAnyH_taken (i := 2) (d := some 30) (v := ?_) rfl rfl (by kernel_rfl) (by kernel_rfl) (by kernel_rfl) (fun _ _ _ h => h) (Or.inl ⟨by rfl, ?_⟩) (by assumption) ?_
      rotate_left 1
      · (intro w hSw; (try dsimp only at hSw); go_simp; try with_reducible rfl)
      try simp only [Act.put, List.setIfInBounds_toArray, List.set_cons_zero, List.set_cons_succ]
      refine wpAnyH_ready (rs := [3]) (by kernel_rfl) (by simp) ?_
      refine AllReadyH.cons rfl (fun K hK => ?_) AllReadyH.nil
      try simp only [List.getElem_toArray, List.getElem_cons_zero, List.getElem_cons_succ]
      go_simp
      (go_at_call 96; refine (shifted_any _ (fieldOf y k 0 - fieldOf x k a) (a : Int) (k / 32 + 2) _ ((HVS.out.mono (show max (k / 32 + 1) (k / 32 + 1) + 1 ≤ k / 32 + 2 by omega)).below ((Below.refl Ws.heap.size Ws).drew)) (by omega) (by omega) (by omega)).mono ?_; rintro e wd ⟨⟨ng4, A4, n4, d4, rfl, hv4⟩, hbd⟩)
      have hbd' := ((Below.refl Ws.heap.size Ws).drew).trans (hbd.mono (Nat.le_refl Ws.heap.size))
      have hBd := hBs.trans (hbd'.mono (B' := w.heap.size + 3) (Nat.le_trans hs3 hBs.size))
      have HV4 := Lib.hid (hv4.mono (show k / 32 + 2 + (a : Int).toNat / 32 + 2 ≤ 4200 by omega))
      clear hv4
      obtain ⟨l0, l1, _⟩ := HT.out _ hBd
      refine hK.out _ _ ⟨l0, l1, (hbd'.cell (p := ⟨nb, 0, none⟩) hnb).trans f0, (hbd'.cell (p := ⟨nb, 1, none⟩) hnb).trans f1⟩ (fun hHeld1 => ?_)
      clear hK K
      try simp only [Act.put, List.setIfInBounds_toArray, List.set_cons_zero, List.set_cons_succ]
      refine wpAnyH_ready (rs := [4]) (by kernel_rfl) (by simp) ?_
      refine AllReadyH.cons rfl (fun K hK => ?_) AllReadyH.nil
      try simp only [List.getElem_toArray, List.getElem_cons_zero, List.getElem_cons_succ]
      go_simp
      (go_at_call 38; refine (add_typed _ _ x (shiftOf (fieldOf y k 0 - fieldOf x k a) (a : Int)) L 4200 _ (HX.out.below (hBd.mono hs3')) HV4.out (by omega) (by omega)).mono ?_; rintro e we ⟨⟨ng5, A5, n5, d5, rfl, hv5⟩, hbe⟩)
      have hbe' := hbd'.trans (hbe.mono hbd'.size)
      have hBe := hBs.trans (hbe'.mono (B' := w.heap.size + 3) (Nat.le_trans hs3 hBs.size))
      have HV5 := Lib.hid (hv5.mono (show max L 4200 + 1 ≤ L + 10000 by omega))
      clear hv5 l0 l1
      obtain ⟨l0, l1, _⟩ := HT.out _ hBe
      obtain ⟨e1, e2, e3, e4⟩ := HRM.out _ hBe
      have m0 := (hbe'.cell (p := ⟨nb, 0, none⟩) hnb).trans f0
      have m1 := (hbe'.cell (p := ⟨nb, 1, none⟩) hnb).trans f1
      refine hK.out _ _ ⟨l0, l1, m0, m1⟩ (fun hHeld2 => ?_)
      clear hK K
      try simp only [Act.put, List.setIfInBounds_toArray, List.set_cons_zero, List.set_cons_succ]
      refine wpAnyH_ready (rs := [5]) (by kernel_rfl) (by simp) ?_
      refine AllReadyH.cons rfl (fun K hK => ?_) AllReadyH.nil
      try simp only [List.getElem_toArray, List.getElem_cons_zero, List.getElem_cons_succ]
      go_simp
      refine hK.out _ _ ⟨?_, ?_, ?_, ?_⟩ (fun hHeld3 => ?_)
      · rw [World.cell?_setCell_other _ _ _ _ (by simp <;> omega), World.cell?_setCell_other _ _ _ _ (by simp <;> omega)]; exact l0
      · rw [World.cell?_setCell_other _ _ _ _ (by simp <;> omega), World.cell?_setCell_other _ _ _ _ (by simp <;> omega)]; exact l1
      · rw [World.cell?_setCell_other _ _ _ _ (by simp <;> omega), World.cell?_setCell_other _ _ _ _ (by simp <;> omega)]; exact m0
      · rw [World.cell?_setCell_other _ _ _ _ (by simp <;> omega), World.cell?_setCell_other _ _ _ _ (by simp <;> omega)]; exact m1
      clear hK K
      try simp only [Act.put, List.setIfInBounds_toArray, List.set_cons_zero, List.set_cons_succ]
      refine wpAnyH_taken (i := 6) (d := some 9) (v := ?_) rfl rfl (by kernel_rfl) (by kernel_rfl) (by kernel_rfl) (fun _ _ _ h => h) (Or.inl ⟨by rfl, ?_⟩) (by assumption) ?_
      rotate_left 1
      · (intro w hSw; (try dsimp only at hSw); go_simp; try with_reducible rfl)
      try simp only [Act.put, List.setIfInBounds_toArray, List.set_cons_zero, List.set_cons_succ]
      refine wpAnyH_done (by kernel_rfl) ?_ _
      go_wp2
      refine bodyPost_ret (v := .tuple #[.agg #[.bool ng5, .slice A5 n5 d5], .int .i64 0]) (by simp [results, Try.results58, go_sem, e1, e2]) rfl ⟨⟨_, _, _, _, rfl, ?_⟩, ?_⟩
      · have hvv : x + shiftOf (fieldOf y k 0 - fieldOf x k a) (a : Int) = depOf x y k a := by unfold depOf shiftOf; rw [if_pos (by omega), Int.toNat_natCast]
        rw [← hvv]; exact HV5.out.stored e1 e2 _ _
      · exact ((hW.trans (hBe.mono (by omega))).setCell (by show _ ≤ _; simp; omega) _).setCell (by show _ ≤ _; simp; omega) _
  · try simp only [List.getElem_toArray, List.getElem_cons_zero, List.getElem_cons_succ]
    go_simp
    have hBl := hB0.alloc (Nat.le_trans hs3 hB0.size) (.cells #[.bool false, .slice none 0 0] 28)
    have hbl := below_alloc wl.drew (.cells #[.bool false, .slice none 0 0] 28)
    have HRMl := Lib.hid (show RoomAt (wl.drew.alloc (.cells #[.bool false, .slice none 0 0] 28)) wl.heap.size from alloc_room wl.drew)
    have hge : w.heap.size + 3 ≤ wl.heap.size := Nat.le_trans hs3 hB0.size
    refine hK.out _ _ (HT.out _ hBl) (fun hHeldl => ?_)
    clear hK K
    try simp only [Act.put, List.setIfInBounds_toArray, List.set_cons_zero, List.set_cons_succ]
    refine wpAnyH_ready (rs := [2]) (by kernel_rfl) (by simp) ?_
    refine AllReadyH.cons rfl (fun K hK => ?_) AllReadyH.nil
    try simp only [List.getElem_toArray, List.getElem_cons_zero, List.getElem_cons_succ]
    go_simp
    (go_at_call 106; refine (field_int _ y M k 0 _ _ rfl rfl _ (HY.out.below (hBl.mono hs3')) (by omega) hk (by decide)).mono ?_; rintro e wa ⟨⟨ng1, A1, n1, d1, rfl, hv1⟩, hba⟩)
    have HV1 := Lib.hid hv1
    clear hv1
    have hBa := Below.trans hBl (hba.mono (B' := w.heap.size + 3) (Nat.le_trans hs3 hBl.size))
    have HRM0 := Lib.hid (HRMl.out.below hba)
    refine hK.out _ _ (HT.out _ hBa) (fun hHeld1 => ?_)
    clear hK K
    try simp only [Act.put, List.setIfInBounds_toArray, List.set_cons_zero, List.set_cons_succ]
    refine wpAnyH_ready (rs := [6]) (by kernel_rfl) (by simp) ?_
    refine AllReadyH.cons rfl (fun K hK => ?_) AllReadyH.nil
    try simp only [List.getElem_toArray, List.getElem_cons_zero, List.getElem_cons_succ]
    go_simp
    (go_at_call 106; refine (field_int _ x L k a _ _ rfl rfl _ (HX.out.below (hBa.mono hs3')) (by omega) hk ha).mono ?_; rintro e wb ⟨⟨ng2, A2, n2, d2, rfl, hv2⟩, hbb⟩)
    have HV2 := Lib.hid hv2
    clear hv2
    have hBb := Below.trans hBa (hbb.mono (B' := w.heap.size + 3) (Nat.le_trans hs3 hBa.size))
    have HV1b := Lib.hid (HV1.out.below hbb)
    have HRM1 := Lib.hid (HRM0.out.below hbb)
    refine hK.out _ _ (HT.out _ hBb) (fun hHeld2 => ?_)
    clear hK K
    try simp only [Act.put, List.setIfInBounds_toArray, List.set_cons_zero, List.set_cons_succ]
    refine wpAnyH_ready (rs := [7]) (by kernel_rfl) (by simp) ?_
    refine AllReadyH.cons rfl (fun K hK => ?_) AllReadyH.nil
    try simp only [List.getElem_toArray, List.getElem_cons_zero, List.getElem_cons_succ]
    go_simp
    (go_at_call 40; refine (sub_typed _ _ (fieldOf y k 0) (fieldOf x k a) (k / 32 + 1) (k / 32 + 1) _ HV1b.out HV2.out (by omega) (by omega)).mono ?_; rintro e wc ⟨⟨ng3, A3, n3, d3, rfl, hv3⟩, hbc⟩)
    have HV3 := Lib.hid hv3
    clear hv3
    have hBc := Below.trans hBb (hbc.mono (B' := w.heap.size + 3) (Nat.le_trans hs3 hBb.size))
    have HRM2 := Lib.hid (HRM1.out.below hbc)
    refine hK.out _ _ (HT.out _ hBc) (fun hHeld3 => ?_)
    clear hK K
    try simp only [Act.put, List.setIfInBounds_toArray, List.set_cons_zero, List.set_cons_succ]
    refine wpAnyH_ready (rs := [9]) (by kernel_rfl) (by simp) ?_
    refine AllReadyH.cons rfl (fun K hK => ?_) AllReadyH.nil
    try simp only [List.getElem_toArray, List.getElem_cons_zero, List.getElem_cons_succ]
    obtain ⟨⟨rm0, rm1, rm2, rm3⟩, rmz⟩ := HRM2.out
    go_simp
    have hBs := (hBc.setCell (p := ⟨wl.heap.size, 0, none⟩) hge (.bool ng3)).setCell (p := ⟨wl.heap.size, 1, none⟩) hge (.slice A3 n3 d3)
    obtain ⟨f0, f1⟩ := box_filled HRM2.out (.bool ng3) (.slice A3 n3 d3)
    have HVS := Lib.hid (HV3.out.stored rm0 rm1 (.bool ng3) (.slice A3 n3 d3))
    refine hK.out _ _ (HT.out _ hBs) (fun hHeldS => ?_)
    clear hK K rm0 rm1 rm2 rm3
    try simp only [Act.put, List.setIfInBounds_toArray, List.set_cons_zero, List.set_cons_succ]
    refine wpAnyH_done (by kernel_rfl) ?_ _
    have hnb : wl.heap.size < ((wc.setCell ⟨wl.heap.size, 0, none⟩ (.bool ng3)).setCell ⟨wl.heap.size, 1, none⟩ (.slice A3 n3 d3)).heap.size := by have := rmz; simp [World.setCell] at this ⊢ <;> omega
    have hnb3 : w.heap.size + 3 ≤ wl.heap.size := hge
    generalize ((wc.setCell ⟨wl.heap.size, 0, none⟩ (.bool ng3)).setCell ⟨wl.heap.size, 1, none⟩ (.slice A3 n3 d3)) = Ws at *
    clear hHeldS
    obtain ⟨k0, k1, _⟩ := HT.out _ hBs
    go_wp2_with fail
    refine wp_region_held_drew (S := fun w' => w'.cell? ⟨w.heap.size, 0, none⟩ = some (.bool p) ∧ w'.cell? ⟨w.heap.size, 1, none⟩ = some (.slice A n c) ∧ w'.cell? ⟨wl.heap.size, 0, none⟩ = some (.bool ng3) ∧ w'.cell? ⟨wl.heap.size, 1, none⟩ = some (.slice A3 n3 d3)) (by kernel_rfl) ⟨k0, k1, f0, f1⟩ (fun hHeld0 => ?_)
    refine wpAnyH_taken (i := 0) (d := some 28) (v := ?_) rfl rfl (by kernel_rfl) (by kernel_rfl) (by kernel_rfl) (fun _ _ _ h => h) (Or.inl ⟨by rfl, ?_⟩) (by assumption) ?_
    rotate_left 1
    · (intro w hSw; (try dsimp only at hSw); go_simp; try with_reducible rfl)
    try simp only [Act.put, List.setIfInBounds_toArray, List.set_cons_zero, List.set_cons_succ]
    refine wpAnyH_taken (i := 1) (d := some 29) (v := ?_) rfl rfl (by kernel_rfl) (by kernel_rfl) (by kernel_rfl) (fun _ _ _ h => h) (Or.inl ⟨by rfl, ?_⟩) (by assumption) ?_
    rotate_left 1
    · (intro w hSw; (try dsimp only at hSw); go_simp; try with_reducible rfl)
    try simp only [Act.put, List.setIfInBounds_toArray, List.set_cons_zero, List.set_cons_succ]
    refine wpAnyH_taken (i := 2) (d := some 30) (v := ?_) rfl rfl (by kernel_rfl) (by kernel_rfl) (by kernel_rfl) (fun _ _ _ h => h) (Or.inl ⟨by rfl, ?_⟩) (by assumption) ?_
    rotate_left 1
    · (intro w hSw; (try dsimp only at hSw); go_simp; try with_reducible rfl)
    try simp only [Act.put, List.setIfInBounds_toArray, List.set_cons_zero, List.set_cons_succ]
    refine wpAnyH_ready (rs := [3]) (by kernel_rfl) (by simp) ?_
    refine AllReadyH.cons rfl (fun K hK => ?_) AllReadyH.nil
    try simp only [List.getElem_toArray, List.getElem_cons_zero, List.getElem_cons_succ]
    go_simp
    (go_at_call 96; refine (shifted_any _ (fieldOf y k 0 - fieldOf x k a) (a : Int) (k / 32 + 2) _ ((HVS.out.mono (show max (k / 32 + 1) (k / 32 + 1) + 1 ≤ k / 32 + 2 by omega)).below ((Below.refl Ws.heap.size Ws).drew)) (by omega) (by omega) (by omega)).mono ?_; rintro e wd ⟨⟨ng4, A4, n4, d4, rfl, hv4⟩, hbd⟩)
    have hbd' := ((Below.refl Ws.heap.size Ws).drew).trans (hbd.mono (Nat.le_refl Ws.heap.size))
    have hBd := hBs.trans (hbd'.mono (B' := w.heap.size + 3) (Nat.le_trans hs3 hBs.size))
    have HV4 := Lib.hid (hv4.mono (show k / 32 + 2 + (a : Int).toNat / 32 + 2 ≤ 4200 by omega))
    clear hv4
    obtain ⟨l0, l1, _⟩ := HT.out _ hBd
    refine hK.out _ _ ⟨l0, l1, (hbd'.cell (p := ⟨wl.heap.size, 0, none⟩) hnb).trans f0, (hbd'.cell (p := ⟨wl.heap.size, 1, none⟩) hnb).trans f1⟩ (fun hHeld1 => ?_)
    clear hK K
    try simp only [Act.put, List.setIfInBounds_toArray, List.set_cons_zero, List.set_cons_succ]
    refine wpAnyH_ready (rs := [4]) (by kernel_rfl) (by simp) ?_
    refine AllReadyH.cons rfl (fun K hK => ?_) AllReadyH.nil
    try simp only [List.getElem_toArray, List.getElem_cons_zero, List.getElem_cons_succ]
    go_simp
    (go_at_call 38; refine (add_typed _ _ x (shiftOf (fieldOf y k 0 - fieldOf x k a) (a : Int)) L 4200 _ (HX.out.below (hBd.mono hs3')) HV4.out (by omega) (by omega)).mono ?_; rintro e we ⟨⟨ng5, A5, n5, d5, rfl, hv5⟩, hbe⟩)
    have hbe' := hbd'.trans (hbe.mono hbd'.size)
    have hBe := hBs.trans (hbe'.mono (B' := w.heap.size + 3) (Nat.le_trans hs3 hBs.size))
    have HV5 := Lib.hid (hv5.mono (show max L 4200 + 1 ≤ L + 10000 by omega))
    clear hv5 l0 l1
    obtain ⟨l0, l1, _⟩ := HT.out _ hBe
    obtain ⟨e1, e2, e3, e4⟩ := HRM.out _ hBe
    have m0 := (hbe'.cell (p := ⟨wl.heap.size, 0, none⟩) hnb).trans f0
    have m1 := (hbe'.cell (p := ⟨wl.heap.size, 1, none⟩) hnb).trans f1
    refine hK.out _ _ ⟨l0, l1, m0, m1⟩ (fun hHeld2 => ?_)
    clear hK K
    try simp only [Act.put, List.setIfInBounds_toArray, List.set_cons_zero, List.set_cons_succ]
    refine wpAnyH_ready (rs := [5]) (by kernel_rfl) (by simp) ?_
    refine AllReadyH.cons rfl (fun K hK => ?_) AllReadyH.nil
    try simp only [List.getElem_toArray, List.getElem_cons_zero, List.getElem_cons_succ]
    go_simp
    refine hK.out _ _ ⟨?_, ?_, ?_, ?_⟩ (fun hHeld3 => ?_)
    · rw [World.cell?_setCell_other _ _ _ _ (by simp <;> omega), World.cell?_setCell_other _ _ _ _ (by simp <;> omega)]; exact l0
    · rw [World.cell?_setCell_other _ _ _ _ (by simp <;> omega), World.cell?_setCell_other _ _ _ _ (by simp <;> omega)]; exact l1
    · rw [World.cell?_setCell_other _ _ _ _ (by simp <;> omega), World.cell?_setCell_other _ _ _ _ (by simp <;> omega)]; exact m0
    · rw [World.cell?_setCell_other _ _ _ _ (by simp <;> omega), World.cell?_setCell_other _ _ _ _ (by simp <;> omega)]; exact m1
    clear hK K
    try simp only [Act.put, List.setIfInBounds_toArray, List.set_cons_zero, List.set_cons_succ]
    refine wpAnyH_taken (i := 6) (d := some 9) (v := ?_) rfl rfl (by kernel_rfl) (by kernel_rfl) (by kernel_rfl) (fun _ _ _ h => h) (Or.inl ⟨by rfl, ?_⟩) (by assumption) ?_
    rotate_left 1
    · (intro w hSw; (try dsimp only at hSw); go_simp; try with_reducible rfl)
    try simp only [Act.put, List.setIfInBounds_toArray, List.set_cons_zero, List.set_cons_succ]
    refine wpAnyH_done (by kernel_rfl) ?_ _
    go_wp2
    refine bodyPost_ret (v := .tuple #[.agg #[.bool ng5, .slice A5 n5 d5], .int .i64 0]) (by simp [results, Try.results58, go_sem, e1, e2]) rfl ⟨⟨_, _, _, _, rfl, ?_⟩, ?_⟩
    · have hvv : x + shiftOf (fieldOf y k 0 - fieldOf x k a) (a : Int) = depOf x y k a := by unfold depOf shiftOf; rw [if_pos (by omega), Int.toNat_natCast]
      rw [← hvv]; exact HV5.out.stored e1 e2 _ _
    · exact ((hW.trans (hBe.mono (by omega))).setCell (by show _ ≤ _; simp; omega) _).setCell (by show _ ≤ _; simp; omega) _


end Go.Proofs.Ytoanomgdkkbbmaa
