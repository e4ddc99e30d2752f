import Derived.Test.YtoanomgdkkbbmaaBitWidth
import Derived.Test.YtoanomgdkkbbmaaLawCore
import Derived.Test.YtoanomgdkkbbmaaRCore
import Derived.Test.YtoanomgdkkbbmaaLens0
import Derived.Lib.Tables
import Derived.Lib.BitFns

/- The reference's Bits. -/
namespace Go.Proofs.Ytoanomgdkkbbmaa
open Go.RowKit LM

theorem Try.info4 : (Try.prog.info? 4).map (fun i => (i.zero, i.size, i.bytes)) = some (some (.bool false), 1, 1) := by kernel_rfl

theorem owns_below {w w' : World} {base n : Nat} {e : TypeId} {size : Nat} {v : Value} {l : List Value} (h : w.ownsRow base e size v n l) (hb : Below w.heap.size w w') : w'.ownsRow base e size v n l := by
  obtain ⟨h1, h2⟩ := h
  refine ⟨h1, ?_⟩
  rcases h2 with h2 | ⟨g', cap, cur, hv, hg, hh, r⟩
  · exact .inl h2
  · exact .inr ⟨g', cap, cur, hv, hg, (hb.block g' (Array.getElem?_eq_some_iff.1 hh).1).trans hh, r⟩

theorem Bools.snoc {w3 : World} {base k : Nat} {v' : Value} {bs : List Bool} {x : Bool} (hl : bs.length = k) (h : w3.ownsRow base 4 1 v' (k + 1) (bs.map Value.bool ++ [.bool x])) : Bools w3 base v' (bs ++ [x]) := by
  unfold Bools; rw [List.length_append, List.length_singleton, List.map_append, hl]; exact h

theorem patOf_nonneg' (x : Int) : 0 ≤ patOf x := by unfold patOf; split <;> omega

/-- The N lowest bits of x. -/
def bitsOf (x : Int) (N : Nat) : List Bool := (List.range N).map (fun k : Nat => bitOf x (k : Int))
theorem bitsOf_succ (x : Int) (i : Nat) : bitsOf x (i + 1) = bitsOf x i ++ [bitOf x (i : Int)] := by
  unfold bitsOf; rw [List.range_succ, List.map_append]; rfl

theorem bits_hold {w wl : World} {p q : Bool} {B : Option Addr} {m d : Nat} (c0 : wl.cell? ⟨w.heap.size, 0, none⟩ = some (.bool p)) (c1 : wl.cell? ⟨w.heap.size + 1, 0, none⟩ = some (.bool q)) (c2 : wl.cell? ⟨w.heap.size + 1, 1, none⟩ = some (.slice B m d))
    (hwl : w.heap.size + 2 ≤ wl.heap.size) {w' : World} (hb : Below wl.heap.size wl w') : w'.cell? ⟨w.heap.size, 0, none⟩ = some (.bool p) ∧ w'.cell? ⟨w.heap.size + 1, 0, none⟩ = some (.bool q) ∧ w'.cell? ⟨w.heap.size + 1, 1, none⟩ = some (.slice B m d) ∧ Below wl.heap.size wl w' :=
  ⟨(hb.cell (p := ⟨w.heap.size, 0, none⟩) (show w.heap.size < wl.heap.size by omega)).trans c0, (hb.cell (p := ⟨w.heap.size + 1, 0, none⟩) (show w.heap.size + 1 < wl.heap.size by omega)).trans c1, (hb.cell (p := ⟨w.heap.size + 1, 1, none⟩) (show w.heap.size + 1 < wl.heap.size by omega)).trans c2, hb⟩

set_option maxRecDepth 100000 in
set_option maxHeartbeats 4000000 in
theorem rBits_pos (A : Option Addr) (n c : Nat) (x : Int) (L N : Nat) (w : World) (h : Rval w (.agg #[.bool false, .slice A n c]) x L) (hL : L ≤ 400000) (hN : N ≤ 1000000) :
    Calls Try.prog 81 #[.agg #[.bool false, .slice A n c], .int .i64 N] w fun e w' => (∃ A2 n2 c2, e = .returned (.slice A2 n2 c2) ∧ BRow w' A2 n2 c2 (bitsOf x N)) ∧ Below w.heap.size w w' := by
  obtain ⟨i0, hii, hz0, hz1, hz2⟩ := info_parts Try.info4
  have hneg := rval_neg h
  have hx : 0 ≤ x := Int.not_lt.1 (of_decide_eq_false hneg)
  obtain ⟨P, hP⟩ : ∃ P, patOf x = P := ⟨_, rfl⟩
  have hP0 : 0 ≤ P := by rw [← hP]; exact patOf_nonneg' x
  have HPP := Lib.hid hP
  have hWL := below_two w (.cells #[.bool false, .slice A n c] 31) (.cells #[.bool false, .slice A n c] 31)
  have hPx : x = P := by rw [← hP]; exact (patOf_of_nonneg hx).symm
  have hcells : ((w.alloc (.cells #[.bool false, .slice A n c] 31)).alloc (.cells #[.bool false, .slice A n c] 31)).cell? ⟨w.heap.size, 0, none⟩ = some (.bool false) ∧ ((w.alloc (.cells #[.bool false, .slice A n c] 31)).alloc (.cells #[.bool false, .slice A n c] 31)).cell? ⟨w.heap.size + 1, 0, none⟩ = some (.bool false) ∧ ((w.alloc (.cells #[.bool false, .slice A n c] 31)).alloc (.cells #[.bool false, .slice A n c] 31)).cell? ⟨w.heap.size + 1, 1, none⟩ = some (.slice A n c) := by
    refine ⟨?_, ?_, ?_⟩
    · rw [World.cell?_alloc_past _ _ _ (by simp), World.cell?_alloc_at _ _ _ _ rfl]; rfl
    · rw [World.cell?_alloc_at _ _ _ _ (by simp)]; rfl
    · rw [World.cell?_alloc_at _ _ _ _ (by simp)]; rfl
  obtain ⟨r0, r1, r2⟩ := hcells
  have hwl2 : w.heap.size + 2 ≤ ((w.alloc (.cells #[.bool false, .slice A n c] 31)).alloc (.cells #[.bool false, .slice A n c] 31)).heap.size := by simp
  have HP0 := Lib.hid (show Rval ((w.alloc (.cells #[.bool false, .slice A n c] 31)).alloc (.cells #[.bool false, .slice A n c] 31)) (.agg #[.bool false, .slice A n c]) P L by rw [← hPx]; exact h.below hWL)
  have HNEG := Lib.hid hneg
  clear h hP hPx hx hneg
  go_enter Try.func81, Try.ntmps81
  go_wp2_with fail
  generalize ((w.alloc (.cells #[.bool false, .slice A n c] 31)).alloc (.cells #[.bool false, .slice A n c] 31)) = wl at *
  have HP := HP0
  have HT := Lib.hid (fun (w' : World) (hb : Below wl.heap.size wl w') => bits_hold r0 r1 r2 hwl2 hb)
  clear r0 r1 r2 HP0
  go_loopw [6, 7] (fun dv iv wr => ∃ (i : Nat) (bs : List Bool), iv = .int .i64 i ∧ i ≤ N ∧ Bools wr wl.heap.size dv bs ∧ bs.length = i ∧ Hid (bs = bitsOf x i) ∧ Below wl.heap.size wl wr) (fun _ iv _ => N - (intOf iv).toNat)
  case atStart => exact ⟨0, [], rfl, Nat.zero_le _, World.ownsRow_nil _ _ _ _, rfl, Lib.hid rfl, Below.refl _ _⟩
  case round =>
    obtain ⟨i, bs, rfl, hi, hown, hbl, HBS, hb⟩ := hrel
    have HO := Lib.hid hown
    have HBL := Lib.hid hbl
    have HO2 : Hid (wr.ownsRow wl.heap.size 4 1 u6 i (bs.map Value.bool)) := Lib.hid (by have h := HO.out; unfold Bools at h; rw [HBL.out] at h; exact h)
    clear hown hbl
    by_cases hlt : i < N
    · have hB0 := hb.drew
      obtain ⟨bb, hbb⟩ : ∃ bb, decide (P / 2 ^ i % 2 = 1) = bb := ⟨_, rfl⟩
      have HBI := Lib.hid hbb
      have HBO := Lib.hid (show bb = bitOf x (i : Int) by unfold bitOf; rw [if_neg (by omega), Int.toNat_natCast, HPP.out, hbb, HNEG.out]; cases bb <;> rfl)
      have hib : (i : Int) < (N : Int) := by omega
      obtain ⟨kk0, kk1, kk2, _⟩ := HT.out _ hb
      clear hbb
      go_wp2_with fail
      refine wp_region_held_drew (S := fun w' => w'.cell? ⟨w.heap.size, 0, none⟩ = some (.bool false) ∧ w'.cell? ⟨w.heap.size + 1, 0, none⟩ = some (.bool false) ∧ w'.cell? ⟨w.heap.size + 1, 1, none⟩ = some (.slice A n c) ∧ Below wl.heap.size wl w') (by kernel_rfl) (HT.out _ hB0) (fun hHeld0 => ?_)
      refine wpAnyH_taken (i := 0) (d := some 19) (v := ?_) rfl rfl (by kernel_rfl) (by kernel_rfl) (by kernel_rfl) (fun _ _ _ h => h) (Or.inl ⟨by rfl, ?_⟩) (by assumption) ?_
      rotate_left 1
      · (intro w hSw; (try dsimp only at hSw); go_simp; try with_reducible rfl)
      try simp only [Act.put, List.setIfInBounds_toArray, List.set_cons_zero, List.set_cons_succ]
      refine wpAnyH_taken (i := 1) (d := some 20) (v := ?_) rfl rfl (by kernel_rfl) (by kernel_rfl) (by kernel_rfl) (fun _ _ _ h => h) (Or.inl ⟨by rfl, ?_⟩) (by assumption) ?_
      rotate_left 1
      · (intro w hSw; (try dsimp only at hSw); go_simp; try with_reducible rfl)
      try simp only [Act.put, List.setIfInBounds_toArray, List.set_cons_zero, List.set_cons_succ]
      refine wpAnyH_taken (i := 2) (d := some 21) (v := ?_) rfl rfl (by kernel_rfl) (by kernel_rfl) (by kernel_rfl) (fun _ _ _ h => h) (Or.inl ⟨by rfl, ?_⟩) (by assumption) ?_
      rotate_left 1
      · (intro w hSw; (try dsimp only at hSw); go_simp; try with_reducible rfl)
      try simp only [Act.put, List.setIfInBounds_toArray, List.set_cons_zero, List.set_cons_succ]
      refine wpAnyH_taken (i := 4) (d := some 23) (v := ?_) rfl rfl (by kernel_rfl) (by kernel_rfl) (by kernel_rfl) (fun _ _ _ h => h) (Or.inl ⟨by rfl, ?_⟩) (by assumption) ?_
      rotate_left 1
      · (intro w hSw; (try dsimp only at hSw); go_simp; try with_reducible rfl)
      try simp only [Act.put, List.setIfInBounds_toArray, List.set_cons_zero, List.set_cons_succ]
      refine wpAnyH_taken (i := 5) (d := some 24) (v := ?_) rfl rfl (by kernel_rfl) (by kernel_rfl) (by kernel_rfl) (fun _ _ _ h => h) (Or.inl ⟨by rfl, ?_⟩) (by assumption) ?_
      rotate_left 1
      · (intro w hSw; (try dsimp only at hSw); go_simp; try with_reducible rfl)
      try simp only [Act.put, List.setIfInBounds_toArray, List.set_cons_zero, List.set_cons_succ]
      refine wpAnyH_ready (rs := [3]) (by kernel_rfl) (by simp) ?_
      refine AllReadyH.cons rfl (fun K hK => ?_) AllReadyH.nil
      try simp only [List.getElem_toArray, List.getElem_cons_zero, List.getElem_cons_succ]
      go_simp
      (go_at_call 103; refine (rset_val _ P L i _ (HP.out.below hB0) hP0 (by omega) (by omega)).mono ?_; rintro e w1 ⟨rfl, hb1⟩; rw [HBI.out])
      have hB1 := Below.trans hB0 (hb1.mono (B' := wl.heap.size) hB0.size)
      have HO1 := Lib.hid (owns_below (w := wr.drew) (show wr.drew.ownsRow wl.heap.size 4 1 u6 i (bs.map Value.bool) from HO2.out) hb1)
      refine hK.out _ _ (HT.out _ hB1) (fun hHeld1 => ?_)
      clear hK K hHeld0
      try simp only [Act.put, List.setIfInBounds_toArray, List.set_cons_zero, List.set_cons_succ]
      refine wpAnyH_taken (i := 6) (d := some 25) (v := ?_) rfl rfl (by kernel_rfl) (by kernel_rfl) (by kernel_rfl) (fun _ _ _ h => h) (Or.inl ⟨by rfl, ?_⟩) (by assumption) ?_
      rotate_left 1
      · (intro w hSw; (try dsimp only at hSw); go_simp; try with_reducible rfl)
      try simp only [Act.put, List.setIfInBounds_toArray, List.set_cons_zero, List.set_cons_succ]
      refine wpAnyH_ready (rs := [7]) (by kernel_rfl) (by simp) ?_
      refine AllReadyH.cons rfl (fun K hK => ?_) AllReadyH.nil
      try simp only [List.getElem_toArray, List.getElem_cons_zero, List.getElem_cons_succ]
      go_simp
      have hB2 := hB1.alloc hB1.size (.cells #[.bool (bb)] 4)
      refine hK.out _ _ (HT.out _ hB2) (fun hHeld2 => ?_)
      clear hK K hHeld1
      try simp only [Act.put, List.setIfInBounds_toArray, List.set_cons_zero, List.set_cons_succ]
      refine wpAnyH_ready (rs := [8]) (by kernel_rfl) (by simp) ?_
      refine AllReadyH.cons (o := { dst := some 27, op := Op.call { callee := Callee.builtin Builtin.append, args := #[Operand.tmp 19, Operand.tmp 26], argTypes := #[103, 103] }, type := 103, pos := "ref.go:369", after := #[{ on := 0, ground := Ground.data }, { on := 7, ground := Ground.data }, { on := 3, ground := Ground.chain }], guard := none }) rfl (fun K hK => ?_) AllReadyH.nil
      refine step_own rfl (.tmp 19) (.tmp 26) 103 rfl wl.heap.size 4 i0 (.bool false) 1 1 Try.underlying103 hii hz0 hz1 hz2 rfl (by decide) u6 i (bs.map Value.bool) (by simp [Act.eval]) (HO1.out.alloc _) ⟨w1.heap.size, 0, none⟩ 1 1 [.bool (bb)] (by simp [Act.eval]) rfl (cell_one _ _) (by intro u hu; simp at hu; subst hu; rfl) (by unfold maxLen; omega) (by omega) hB2.size ?_
      intro v' w3 hown3 hg3
      have hB3 := hB2.grown hg3 hB2.size (fun g hg => (HO1.out.lt g hg).1)
      have ho3 := Bools.snoc HBL.out hown3
      have HO3 := Lib.hid ho3
      refine hK.out _ _ (HT.out _ hB3) (fun hHeld3 => ?_)
      clear hK K hHeld2 hown3 hg3 ho3
      try simp only [Act.put, List.setIfInBounds_toArray, List.set_cons_zero, List.set_cons_succ]
      refine wpAnyH_taken (i := 9) (d := some 6) (v := ?_) rfl rfl (by kernel_rfl) (by kernel_rfl) (by kernel_rfl) (fun _ _ _ h => h) (Or.inl ⟨by rfl, ?_⟩) (by assumption) ?_
      rotate_left 1
      · (intro w hSw; (try dsimp only at hSw); go_simp; try with_reducible rfl)
      try simp only [Act.put, List.setIfInBounds_toArray, List.set_cons_zero, List.set_cons_succ]
      refine wpAnyH_done (by kernel_rfl) ?_ _
      go_wp2_with fail
      refine ⟨⟨i + 1, bs ++ [bb], by go_num, hlt, HO3.out, by simp [HBL.out], Lib.hid ?_, hB3⟩, by simp [intOf]; omega⟩
      rw [bitsOf_succ, ← HBS.out, ← HBO.out]
    · obtain rfl : i = N := by omega
      obtain ⟨A2, c2, rfl, hrow⟩ := BRow.of_own HO2.out
      have HROW := Lib.hid hrow
      clear hrow
      go_wp2_with fail
      go_ret
      exact ⟨⟨_, _, _, rfl, by rw [← HBS.out]; exact HROW.out⟩, hWL.trans (hb.mono hWL.size)⟩

end Go.Proofs.Ytoanomgdkkbbmaa

/- The reference's Bits, of a number below 0. -/
namespace Go.Proofs.Ytoanomgdkkbbmaa
open Go.RowKit LM

theorem neg_boxes {w w' : World} {A : Option Addr} {n c : Nat} (h : Below (w.heap.size + 1) ((w.alloc (.cells #[.bool true, .slice A n c] 31)).alloc (.cells #[.bool true, .slice A n c] 31)) w') :
    w'.cell? ⟨w.heap.size, 0, none⟩ = some (.bool true) ∧ w'.cell? ⟨w.heap.size, 1, none⟩ = some (.slice A n c) ∧ Below (w.heap.size + 1) ((w.alloc (.cells #[.bool true, .slice A n c] 31)).alloc (.cells #[.bool true, .slice A n c] 31)) w' := by
  refine ⟨?_, ?_, h⟩
  · rw [h.cell (by simp), World.cell?_alloc_past _ _ _ (by simp), World.cell?_alloc_at _ _ _ _ rfl]; rfl
  · rw [h.cell (by simp), World.cell?_alloc_past _ _ _ (by simp), World.cell?_alloc_at _ _ _ _ rfl]; rfl

theorem neg_room {w w' : World} {A : Option Addr} {n c : Nat} (h : Below (w.heap.size + 2) ((w.alloc (.cells #[.bool true, .slice A n c] 31)).alloc (.cells #[.bool true, .slice A n c] 31)) w') :
    w'.cell? ⟨w.heap.size + 1, 0, none⟩ = some (.bool true) ∧ w'.cell? ⟨w.heap.size + 1, 1, none⟩ = some (.slice A n c) ∧ w'.frozen? ⟨w.heap.size + 1, 0, none⟩ = false ∧ w'.frozen? ⟨w.heap.size + 1, 1, none⟩ = false := by
  refine ⟨?_, ?_, ?_, ?_⟩
  · rw [h.cell (by simp), World.cell?_alloc_at _ _ _ _ (by simp)]; rfl
  · rw [h.cell (by simp), World.cell?_alloc_at _ _ _ _ (by simp)]; rfl
  · rw [h.frozen (by simp)]; exact World.frozen?_alloc_at _ _ _ _ (by simp)
  · rw [h.frozen (by simp)]; exact World.frozen?_alloc_at _ _ _ _ (by simp)

theorem rval_store {w : World} {s : Value} {z : Int} {L : Nat} (h : Rval w s z L) {r : Nat} {b : Bool} {A : Option Addr} {n c : Nat} (e1 : w.cell? ⟨r, 0, none⟩ = some (.bool b)) (e2 : w.cell? ⟨r, 1, none⟩ = some (.slice A n c)) (x y : Value) :
    Rval ((w.setCell ⟨r, 0, none⟩ x).setCell ⟨r, 1, none⟩ y) s z L := by
  obtain ⟨neg, A', n', c', ds, e, hr, t⟩ := h
  refine ⟨neg, A', n', c', ds, e, (hr.setOther (fun u => by rw [e1]; simp) x).setOther (fun u => ?_) y, t⟩
  rw [World.cell?_setCell_other _ _ _ _ (by simp), e2]; simp

set_option maxRecDepth 100000 in
set_option maxHeartbeats 4000000 in
theorem rBits_neg (A : Option Addr) (n c : Nat) (x : Int) (L N : Nat) (w : World) (h : Rval w (.agg #[.bool true, .slice A n c]) x L) (hL : L ≤ 400000) (hN : N ≤ 1000000) :
    Calls Try.prog 81 #[.agg #[.bool true, .slice A n c], .int .i64 N] w fun e w' => (∃ A2 n2 c2, e = .returned (.slice A2 n2 c2) ∧ BRow w' A2 n2 c2 (bitsOf x N)) ∧ Below w.heap.size w w' := by
  obtain ⟨i0, hii, hz0, hz1, hz2⟩ := info_parts Try.info4
  have hneg := rval_neg h
  have hx : x < 0 := of_decide_eq_true hneg
  obtain ⟨P, hP⟩ : ∃ P, patOf x = P := ⟨_, rfl⟩
  have hP0 : 0 ≤ P := by rw [← hP]; exact patOf_nonneg' x
  have HPP := Lib.hid hP
  have hPx : -1 - x = P := by rw [← hP]; exact (patOf_of_neg hx).symm
  have hW := below_two w (.cells #[.bool true, .slice A n c] 31) (.cells #[.bool true, .slice A n c] 31)
  have hB0 := (Below.refl (w.heap.size + 1) ((w.alloc (.cells #[.bool true, .slice A n c] 31)).alloc (.cells #[.bool true, .slice A n c] 31))).drew
  have hD0 := (Below.refl (w.heap.size + 2) ((w.alloc (.cells #[.bool true, .slice A n c] 31)).alloc (.cells #[.bool true, .slice A n c] 31))).drew
  have h1 : w.heap.size + 1 ≤ w.heap.size + 1 := Nat.le_refl _
  have hs1 : w.heap.size + 1 ≤ ((w.alloc (.cells #[.bool true, .slice A n c] 31)).alloc (.cells #[.bool true, .slice A n c] 31)).heap.size := by simp
  have hs2 : w.heap.size + 2 ≤ ((w.alloc (.cells #[.bool true, .slice A n c] 31)).alloc (.cells #[.bool true, .slice A n c] 31)).heap.size := by simp
  obtain ⟨r0, r0', _⟩ := neg_boxes (Below.refl (w.heap.size + 1) ((w.alloc (.cells #[.bool true, .slice A n c] 31)).alloc (.cells #[.bool true, .slice A n c] 31)))
  have HH := Lib.hid h
  have HNEG := Lib.hid hneg
  obtain ⟨LL, hLL⟩ : ∃ LL, max 64 L + 1 = LL := ⟨_, rfl⟩
  have hL2 : LL ≤ 1048576 := by omega
  clear h hP hx hneg
  go_enter Try.func81, Try.ntmps81
  go_wp2_with fail
  go_region_held3 (fun w' => w'.cell? ⟨w.heap.size, 0, none⟩ = some (.bool true) ∧ w'.cell? ⟨w.heap.size, 1, none⟩ = some (.slice A n c) ∧ Below (w.heap.size + 1) ((w.alloc (.cells #[.bool true, .slice A n c] 31)).alloc (.cells #[.bool true, .slice A n c] 31)) w')
    (first | (with_reducible exact neg_boxes hB2) | (with_reducible exact neg_boxes (Below.setCell (Below.setCell hB2 h1 _) h1 _)) | (with_reducible exact neg_boxes hB1) | (with_reducible exact neg_boxes hB0))
    (first
      | (go_at_call 41; have hK := hB1; clear hK; refine (rsub_any _ _ (-1) x 64 L _ HV1.out (HH.out.below (hW.trans (hB1.mono (by omega)))) (by decide) (by omega)).mono ?_; rintro e w2 ⟨⟨ng2, A2, n2, c2, rfl, hv2⟩, hb2⟩; have hB2 := Below.trans hB1 (hb2.mono (B' := w.heap.size + 1) (Nat.le_trans hs1 hB1.size)); have hD2 := Below.trans hD1 (hb2.mono (B' := w.heap.size + 2) (Nat.le_trans hs2 hD1.size)); have HV2 := Lib.hid hv2; obtain ⟨e1, e2, f1, f2⟩ := neg_room hD2; clear hv2)
      | (go_at_call 18; refine (rnew_any (-1) _ (by decide) (by decide)).mono ?_; rintro e w1 ⟨⟨ng1, A1, n1, c1, rfl, hv1⟩, hb1⟩; have hB1 := Below.trans hB0 (hb1.mono (B' := w.heap.size + 1) (Nat.le_trans hs1 hB0.size)); have hD1 := Below.trans hD0 (hb1.mono (B' := w.heap.size + 2) (Nat.le_trans hs2 hD0.size)); have HV1 := Lib.hid hv1; clear hv1))
  go_wp2_with fail
  obtain ⟨wl, hwl0⟩ : ∃ wl, (w2.setCell ⟨w.heap.size + 1, 0, none⟩ (.bool ng2)).setCell ⟨w.heap.size + 1, 1, none⟩ (.slice A2 n2 c2) = wl := ⟨_, rfl⟩
  have hWL : Below w.heap.size w wl := by rw [← hwl0]; exact ((hW.trans (hB2.mono (by omega))).setCell (by show _ ≤ _; simp) _).setCell (by show _ ≤ _; simp) _
  have hwl2 : w.heap.size + 2 ≤ wl.heap.size := by
    have h3 := hD2.size
    rw [← hwl0]; simp [World.size_setCell] at h3 ⊢; omega
  have q0 : wl.cell? ⟨w.heap.size, 0, none⟩ = some (.bool true) := by
    rw [← hwl0, World.cell?_setCell_other _ _ _ _ (by simp), World.cell?_setCell_other _ _ _ _ (by simp)]
    exact (neg_boxes hB2).1
  have q1 : wl.cell? ⟨w.heap.size + 1, 0, none⟩ = some (.bool ng2) := by
    rw [← hwl0, World.cell?_setCell_other _ _ _ _ (by simp)]
    exact World.cell?_setCell_same _ _ _ e1
  have q2 : wl.cell? ⟨w.heap.size + 1, 1, none⟩ = some (.slice A2 n2 c2) := by
    rw [← hwl0]
    exact World.cell?_setCell_same (u := .slice A n c) _ _ _ (by rw [World.cell?_setCell_other _ _ _ _ (by simp)]; exact e2)
  have HP := Lib.hid (show Rval wl (.agg #[.bool ng2, .slice A2 n2 c2]) P LL by
    have hv := HV2.out
    rw [hPx, hLL] at hv
    rw [← hwl0]
    exact rval_store hv e1 e2 _ _)
  rw [hwl0]
  have HT := Lib.hid (fun (w' : World) (hb : Below wl.heap.size wl w') => bits_hold q0 q1 q2 hwl2 hb)
  clear hB0 hB1 hB2 hD0 hD1 hD2 hb1 hb2 HV1 HV2 e1 e2 f1 f2 hwl0 q0 q1 q2 r0 r0' hs1 hs2 h1 hPx hLL
  go_loopw [6, 7] (fun dv iv wr => ∃ (i : Nat) (bs : List Bool), iv = .int .i64 i ∧ i ≤ N ∧ Bools wr wl.heap.size dv bs ∧ bs.length = i ∧ Hid (bs = bitsOf x i) ∧ Below wl.heap.size wl wr) (fun _ iv _ => N - (intOf iv).toNat)
  case atStart => exact ⟨0, [], rfl, Nat.zero_le _, World.ownsRow_nil _ _ _ _, rfl, Lib.hid rfl, Below.refl _ _⟩
  case round =>
    obtain ⟨i, bs, rfl, hi, hown, hbl, HBS, hb⟩ := hrel
    have HO := Lib.hid hown
    have HBL := Lib.hid hbl
    have HO2 : Hid (wr.ownsRow wl.heap.size 4 1 u6 i (bs.map Value.bool)) := Lib.hid (by have h := HO.out; unfold Bools at h; rw [HBL.out] at h; exact h)
    clear hown hbl
    by_cases hlt : i < N
    · have hB0 := hb.drew
      obtain ⟨bb, hbb⟩ : ∃ bb, decide (P / 2 ^ i % 2 = 1) = bb := ⟨_, rfl⟩
      have HBI := Lib.hid hbb
      have HBO := Lib.hid (show (!bb) = bitOf x (i : Int) by unfold bitOf; rw [if_neg (by omega), Int.toNat_natCast, HPP.out, hbb, HNEG.out]; cases bb <;> rfl)
      have hib : (i : Int) < (N : Int) := by omega
      obtain ⟨kk0, kk1, kk2, _⟩ := HT.out _ hb
      clear hbb
      go_wp2_with fail
      refine wp_region_held_drew (S := fun w' => w'.cell? ⟨w.heap.size, 0, none⟩ = some (.bool true) ∧ w'.cell? ⟨w.heap.size + 1, 0, none⟩ = some (.bool ng2) ∧ w'.cell? ⟨w.heap.size + 1, 1, none⟩ = some (.slice A2 n2 c2) ∧ Below wl.heap.size wl w') (by kernel_rfl) (HT.out _ hB0) (fun hHeld0 => ?_)
      refine wpAnyH_taken (i := 0) (d := some 19) (v := ?_) rfl rfl (by kernel_rfl) (by kernel_rfl) (by kernel_rfl) (fun _ _ _ h => h) (Or.inl ⟨by rfl, ?_⟩) (by assumption) ?_
      rotate_left 1
      · (intro w hSw; (try dsimp only at hSw); go_simp; try with_reducible rfl)
      try simp only [Act.put, List.setIfInBounds_toArray, List.set_cons_zero, List.set_cons_succ]
      refine wpAnyH_taken (i := 1) (d := some 20) (v := ?_) rfl rfl (by kernel_rfl) (by kernel_rfl) (by kernel_rfl) (fun _ _ _ h => h) (Or.inl ⟨by rfl, ?_⟩) (by assumption) ?_
      rotate_left 1
      · (intro w hSw; (try dsimp only at hSw); go_simp; try with_reducible rfl)
      try simp only [Act.put, List.setIfInBounds_toArray, List.set_cons_zero, List.set_cons_succ]
      refine wpAnyH_taken (i := 2) (d := some 21) (v := ?_) rfl rfl (by kernel_rfl) (by kernel_rfl) (by kernel_rfl) (fun _ _ _ h => h) (Or.inl ⟨by rfl, ?_⟩) (by assumption) ?_
      rotate_left 1
      · (intro w hSw; (try dsimp only at hSw); go_simp; try with_reducible rfl)
      try simp only [Act.put, List.setIfInBounds_toArray, List.set_cons_zero, List.set_cons_succ]
      refine wpAnyH_taken (i := 4) (d := some 23) (v := ?_) rfl rfl (by kernel_rfl) (by kernel_rfl) (by kernel_rfl) (fun _ _ _ h => h) (Or.inl ⟨by rfl, ?_⟩) (by assumption) ?_
      rotate_left 1
      · (intro w hSw; (try dsimp only at hSw); go_simp; try with_reducible rfl)
      try simp only [Act.put, List.setIfInBounds_toArray, List.set_cons_zero, List.set_cons_succ]
      refine wpAnyH_taken (i := 5) (d := some 24) (v := ?_) rfl rfl (by kernel_rfl) (by kernel_rfl) (by kernel_rfl) (fun _ _ _ h => h) (Or.inl ⟨by rfl, ?_⟩) (by assumption) ?_
      rotate_left 1
      · (intro w hSw; (try dsimp only at hSw); go_simp; try with_reducible rfl)
      try simp only [Act.put, List.setIfInBounds_toArray, List.set_cons_zero, List.set_cons_succ]
      refine wpAnyH_ready (rs := [3]) (by kernel_rfl) (by simp) ?_
      refine AllReadyH.cons rfl (fun K hK => ?_) AllReadyH.nil
      try simp only [List.getElem_toArray, List.getElem_cons_zero, List.getElem_cons_succ]
      go_simp
      (go_at_call 103; refine (rset_val _ P LL i _ (HP.out.below hB0) hP0 (by omega) (by omega)).mono ?_; rintro e w1 ⟨rfl, hb1⟩; rw [HBI.out])
      have hB1 := Below.trans hB0 (hb1.mono (B' := wl.heap.size) hB0.size)
      have HO1 := Lib.hid (owns_below (w := wr.drew) (show wr.drew.ownsRow wl.heap.size 4 1 u6 i (bs.map Value.bool) from HO2.out) hb1)
      refine hK.out _ _ (HT.out _ hB1) (fun hHeld1 => ?_)
      clear hK K hHeld0
      try simp only [Act.put, List.setIfInBounds_toArray, List.set_cons_zero, List.set_cons_succ]
      refine wpAnyH_taken (i := 6) (d := some 25) (v := ?_) rfl rfl (by kernel_rfl) (by kernel_rfl) (by kernel_rfl) (fun _ _ _ h => h) (Or.inl ⟨by rfl, ?_⟩) (by assumption) ?_
      rotate_left 1
      · (intro w hSw; (try dsimp only at hSw); go_simp; try with_reducible rfl)
      try simp only [Act.put, List.setIfInBounds_toArray, List.set_cons_zero, List.set_cons_succ]
      refine wpAnyH_ready (rs := [7]) (by kernel_rfl) (by simp) ?_
      refine AllReadyH.cons rfl (fun K hK => ?_) AllReadyH.nil
      try simp only [List.getElem_toArray, List.getElem_cons_zero, List.getElem_cons_succ]
      go_simp
      have hB2 := hB1.alloc hB1.size (.cells #[.bool ((!bb))] 4)
      refine hK.out _ _ (HT.out _ hB2) (fun hHeld2 => ?_)
      clear hK K hHeld1
      try simp only [Act.put, List.setIfInBounds_toArray, List.set_cons_zero, List.set_cons_succ]
      refine wpAnyH_ready (rs := [8]) (by kernel_rfl) (by simp) ?_
      refine AllReadyH.cons (o := { dst := some 27, op := Op.call { callee := Callee.builtin Builtin.append, args := #[Operand.tmp 19, Operand.tmp 26], argTypes := #[103, 103] }, type := 103, pos := "ref.go:369", after := #[{ on := 0, ground := Ground.data }, { on := 7, ground := Ground.data }, { on := 3, ground := Ground.chain }], guard := none }) rfl (fun K hK => ?_) AllReadyH.nil
      refine step_own rfl (.tmp 19) (.tmp 26) 103 rfl wl.heap.size 4 i0 (.bool false) 1 1 Try.underlying103 hii hz0 hz1 hz2 rfl (by decide) u6 i (bs.map Value.bool) (by simp [Act.eval]) (HO1.out.alloc _) ⟨w1.heap.size, 0, none⟩ 1 1 [.bool ((!bb))] (by simp [Act.eval]) rfl (cell_one _ _) (by intro u hu; simp at hu; subst hu; rfl) (by unfold maxLen; omega) (by omega) hB2.size ?_
      intro v' w3 hown3 hg3
      have hB3 := hB2.grown hg3 hB2.size (fun g hg => (HO1.out.lt g hg).1)
      have ho3 := Bools.snoc HBL.out hown3
      have HO3 := Lib.hid ho3
      refine hK.out _ _ (HT.out _ hB3) (fun hHeld3 => ?_)
      clear hK K hHeld2 hown3 hg3 ho3
      try simp only [Act.put, List.setIfInBounds_toArray, List.set_cons_zero, List.set_cons_succ]
      refine wpAnyH_taken (i := 9) (d := some 6) (v := ?_) rfl rfl (by kernel_rfl) (by kernel_rfl) (by kernel_rfl) (fun _ _ _ h => h) (Or.inl ⟨by rfl, ?_⟩) (by assumption) ?_
      rotate_left 1
      · (intro w hSw; (try dsimp only at hSw); go_simp; try with_reducible rfl)
      try simp only [Act.put, List.setIfInBounds_toArray, List.set_cons_zero, List.set_cons_succ]
      refine wpAnyH_done (by kernel_rfl) ?_ _
      go_wp2_with fail
      refine ⟨⟨i + 1, bs ++ [(!bb)], by go_num, hlt, HO3.out, by simp [HBL.out], Lib.hid ?_, hB3⟩, by simp [intOf]; omega⟩
      rw [bitsOf_succ, ← HBS.out, ← HBO.out]
    · obtain rfl : i = N := by omega
      obtain ⟨A5, c5, rfl, hrow⟩ := BRow.of_own HO2.out
      have HROW := Lib.hid hrow
      clear hrow
      go_wp2_with fail
      go_ret
      exact ⟨⟨_, _, _, rfl, by rw [← HBS.out]; exact HROW.out⟩, hWL.trans (hb.mono hWL.size)⟩

theorem rBits_any (v : Value) (x : Int) (L N : Nat) (w : World) (h : Rval w v x L) (hL : L ≤ 400000) (hN : N ≤ 1000000) :
    Calls Try.prog 81 #[v, .int .i64 N] w fun e w' => (∃ A2 n2 c2, e = .returned (.slice A2 n2 c2) ∧ BRow w' A2 n2 c2 (bitsOf x N)) ∧ Below w.heap.size w w' := by
  obtain ⟨p, A, n, c, rfl⟩ := h.form
  cases p with
  | false => exact rBits_pos A n c x L N w h hL hN
  | true => exact rBits_neg A n c x L N w h hL hN

end Go.Proofs.Ytoanomgdkkbbmaa

/- OnesCount32, ones, Count: numbers of binary digits that are 1. -/
namespace Go.Proofs.Ytoanomgdkkbbmaa
open Go.RowKit LM

/-- How many of the k lowest binary digits of z are 1. -/
def popN : Nat → Int → Int
  | 0, _ => 0
  | k + 1, z => z % 2 + popN k (z / 2)

theorem popN_add (a b : Nat) (z : Int) : popN (a + b) z = popN a z + popN b (z / 2 ^ a) := by
  induction a generalizing z with
  | zero => simp [popN]
  | succ a ih =>
    rw [show a + 1 + b = (a + b) + 1 from by omega, popN, popN, ih, Int.ediv_ediv_of_nonneg (by decide), Int.mul_comm 2, ← Int.pow_succ]
    simp only [Nat.succ_eq_add_one]
    omega

theorem popN_zero (k : Nat) : popN k 0 = 0 := by
  induction k with
  | zero => rfl
  | succ k ih => rw [popN]; simpa using ih

theorem popN_mod (k : Nat) (z y : Int) : popN k (z + 2 ^ k * y) = popN k z := by
  induction k generalizing z with
  | zero => rfl
  | succ k ih =>
    have e : (2 : Int) ^ (k + 1) * y = 2 * (2 ^ k * y) := by rw [Int.pow_succ]; grind
    rw [popN, popN, e, Int.add_mul_emod_self_left, Int.add_mul_ediv_left _ _ (by decide), ih]

theorem popN_same {z : Int} {m m' : Nat} (h0 : 0 ≤ z) (h : z < 2 ^ m) (h' : z < 2 ^ m') : popN m z = popN m' z := by
  have key : ∀ {a b : Nat}, z < 2 ^ a → a ≤ b → popN a z = popN b z := fun {a b} ha hab => by
    obtain ⟨c, rfl⟩ := Nat.exists_eq_add_of_le hab
    rw [popN_add, Int.ediv_eq_zero_of_lt h0 ha, popN_zero]; omega
  rcases Nat.le_total m m' with hm | hm
  · exact key h hm
  · exact (key h' hm).symm

theorem popN_bound (k : Nat) (z : Int) : 0 ≤ popN k z ∧ popN k z ≤ k := by
  induction k generalizing z with
  | zero => simp [popN]
  | succ k ih => have := ih (z / 2); rw [popN]; omega

theorem pop8_fin : ∀ n : Fin 256, Lib.pop8 (n.val : Int) = popN 8 (n.val : Int) := by decide +kernel

theorem pop8_is {b : Int} (h0 : 0 ≤ b) (h1 : b < 256) : Lib.pop8 b = popN 8 b := by
  have := pop8_fin ⟨b.toNat, by omega⟩
  simp only [Int.toNat_of_nonneg h0] at this
  exact this

theorem pop32_split {x : Int} (_h0 : 0 ≤ x) (_h1 : x < 4294967296) : popN 32 x = popN 8 (x / 16777216) + popN 8 (x / 65536 % 256) + popN 8 (x / 256 % 256) + popN 8 (x % 256) := by
  have m : ∀ z : Int, popN 8 z = popN 8 (z % 256) := fun z => by
    have := popN_mod 8 (z % 256) (z / 256)
    rw [show (2 : Int) ^ 8 = 256 from by decide, Int.emod_add_mul_ediv] at this
    exact this
  have e := popN_add 8 24 x
  have e2 := popN_add 8 16 (x / 2 ^ 8)
  have e3 := popN_add 8 8 (x / 2 ^ 8 / 2 ^ 8)
  rw [show (2 : Int) ^ 8 = 256 from by decide] at e e2 e3
  have d1 : x / 256 / 256 = x / 65536 := by omega
  have d2 : x / 65536 / 256 = x / 16777216 := by omega
  rw [d1] at e2 e3
  rw [d2] at e3
  rw [show (32 : Nat) = 8 + 24 from rfl, e, show (24 : Nat) = 8 + 16 from rfl, e2, show (16 : Nat) = 8 + 8 from rfl, e3, m x, m (x / 256), m (x / 65536)]
  omega

theorem and255 {a : Int} (h0 : 0 ≤ a) (h1 : a < 4294967296) : bits BinOp.and IntKind.u32 a 255 = a % 256 := by
  obtain ⟨A, rfl⟩ := Int.eq_ofNat_of_zero_le h0
  have := u32_and_nat A 255 (by omega) (by decide)
  rw [show ((255 : Nat) : Int) = 255 from rfl] at this
  rw [this, show (255 : Nat) = 2 ^ 8 - 1 from by decide, Nat.and_two_pow_sub_one_eq_mod]
  omega

theorem tab_at (a : Int) (h : a.toNat < Lib.pop8tab.size) : ((Lib.pop8tab[a.toNat]'h).toNat : Int) = Lib.pop8 a := by
  unfold Lib.pop8
  rw [ByteArray.getElem?_lt' _ _ h]; rfl

set_option maxRecDepth 100000 in
set_option maxHeartbeats 4000000 in
theorem onesCount32_any (x : Int) (w : World) (h0 : 0 ≤ x) (h1 : x < 4294967296) :
    Calls Try.prog 117 #[.int .u32 x] w fun e w' => e = .returned (.int .i64 (popN 32 x)) ∧ ∃ q, w' = w.drewN q := by
  obtain ⟨a, ea⟩ : ∃ a, x / 16777216 = a := ⟨_, rfl⟩
  obtain ⟨b, eb⟩ : ∃ b, x / 65536 % 256 = b := ⟨_, rfl⟩
  obtain ⟨c, ec⟩ : ∃ c, x / 256 % 256 = c := ⟨_, rfl⟩
  obtain ⟨d, ed⟩ : ∃ d, x % 256 = d := ⟨_, rfl⟩
  have hab : 0 ≤ a ∧ a < 256 := by omega
  have hbb : 0 ≤ b ∧ b < 256 := by omega
  have hcb : 0 ≤ c ∧ c < 256 := by omega
  have hdb : 0 ≤ d ∧ d < 256 := by omega
  have q1 : bits BinOp.and IntKind.u32 (x / 65536) 255 = b := by rw [and255 (by omega) (by omega), eb]
  have q2 : bits BinOp.and IntKind.u32 (x / 256) 255 = c := by rw [and255 (by omega) (by omega), ec]
  have q3 : bits BinOp.and IntKind.u32 x 255 = d := by rw [and255 h0 h1, ed]
  have hs := pop32_split h0 h1
  rw [ea, eb, ec, ed, ← pop8_is hab.1 hab.2, ← pop8_is hbb.1 hbb.2, ← pop8_is hcb.1 hcb.2, ← pop8_is hdb.1 hdb.2] at hs
  have HS := Lib.hid hs
  have p1 : 0 ≤ popN 8 a ∧ popN 8 a ≤ 8 := popN_bound 8 a
  have s1 : a < (Lib.pop8tab.size : Int) := by rw [Lib.pop8tab_size]; omega
  have p2 : 0 ≤ popN 8 b ∧ popN 8 b ≤ 8 := popN_bound 8 b
  have s2 : b < (Lib.pop8tab.size : Int) := by rw [Lib.pop8tab_size]; omega
  have p3 : 0 ≤ popN 8 c ∧ popN 8 c ≤ 8 := popN_bound 8 c
  have s3 : c < (Lib.pop8tab.size : Int) := by rw [Lib.pop8tab_size]; omega
  have p4 : 0 ≤ popN 8 d ∧ popN 8 d ≤ 8 := popN_bound 8 d
  have s4 : d < (Lib.pop8tab.size : Int) := by rw [Lib.pop8tab_size]; omega
  rw [← pop8_is hab.1 hab.2] at p1
  rw [← pop8_is hbb.1 hbb.2] at p2
  rw [← pop8_is hcb.1 hcb.2] at p3
  rw [← pop8_is hdb.1 hdb.2] at p4
  obtain ⟨a0, a1⟩ := hab
  obtain ⟨b0, b1⟩ := hbb
  obtain ⟨c0, c1⟩ := hcb
  obtain ⟨d0, d1⟩ := hdb
  obtain ⟨p10, p11⟩ := p1
  obtain ⟨p20, p21⟩ := p2
  obtain ⟨p30, p31⟩ := p3
  obtain ⟨p40, p41⟩ := p4
  have q4 : IntKind.u8.wrap (Lib.pop8 a + Lib.pop8 b) = Lib.pop8 a + Lib.pop8 b := by rw [IntKind.wrap_u8]; omega
  have q5 : IntKind.u8.wrap (Lib.pop8 a + Lib.pop8 b + Lib.pop8 c) = Lib.pop8 a + Lib.pop8 b + Lib.pop8 c := by rw [IntKind.wrap_u8]; omega
  have q6 : IntKind.u8.wrap (Lib.pop8 a + Lib.pop8 b + Lib.pop8 c + Lib.pop8 d) = Lib.pop8 a + Lib.pop8 b + Lib.pop8 c + Lib.pop8 d := by rw [IntKind.wrap_u8]; omega
  have q7 : IntKind.i64.wrap (Lib.pop8 a + Lib.pop8 b + Lib.pop8 c + Lib.pop8 d) = Lib.pop8 a + Lib.pop8 b + Lib.pop8 c + Lib.pop8 d := by rw [IntKind.wrap_i64]; omega
  clear hs eb ec ed
  go_enter Try.func117, Try.ntmps117
  go_wp2
  refine wp_region_held_drew (S := fun _ => True) (by kernel_rfl) trivial (fun hHeld0 => ?_)
  refine wpAnyH_taken (i := 0) (d := some 3) (v := ?_) rfl rfl (by kernel_rfl) (by kernel_rfl) (by kernel_rfl) (fun _ _ _ h => h) (Or.inl ⟨by rfl, ?_⟩) (by assumption) ?_
  rotate_left 1
  · (intro w hSw; (try dsimp only at hSw); go_simp; try with_reducible rfl)
  try simp only [Act.put, List.setIfInBounds_toArray, List.set_cons_zero, List.set_cons_succ]
  refine wpAnyH_taken (i := 1) (d := some 4) (v := ?_) rfl rfl (by kernel_rfl) (by kernel_rfl) (by kernel_rfl) (fun _ _ _ h => h) (Or.inl ⟨by rfl, ?_⟩) (by assumption) ?_
  rotate_left 1
  · (intro w hSw; (try dsimp only at hSw); go_simp; try with_reducible rfl)
  try simp only [Act.put, List.setIfInBounds_toArray, List.set_cons_zero, List.set_cons_succ]
  refine wpAnyH_taken (i := 2) (d := some 5) (v := .int .u8 (Lib.pop8 a)) rfl rfl (by kernel_rfl) (by kernel_rfl) (by kernel_rfl) (fun _ _ _ h => h) (Or.inl ⟨by rfl, ?_⟩) (by assumption) ?_
  · (intro w hSw; (try dsimp only at hSw); go_simp; rw [tab_at])
  try simp only [Act.put, List.setIfInBounds_toArray, List.set_cons_zero, List.set_cons_succ]
  refine wpAnyH_taken (i := 3) (d := some 6) (v := ?_) rfl rfl (by kernel_rfl) (by kernel_rfl) (by kernel_rfl) (fun _ _ _ h => h) (Or.inl ⟨by rfl, ?_⟩) (by assumption) ?_
  rotate_left 1
  · (intro w hSw; (try dsimp only at hSw); go_simp; try with_reducible rfl)
  try simp only [Act.put, List.setIfInBounds_toArray, List.set_cons_zero, List.set_cons_succ]
  refine wpAnyH_taken (i := 4) (d := some 7) (v := ?_) rfl rfl (by kernel_rfl) (by kernel_rfl) (by kernel_rfl) (fun _ _ _ h => h) (Or.inl ⟨by rfl, ?_⟩) (by assumption) ?_
  rotate_left 1
  · (intro w hSw; (try dsimp only at hSw); go_simp; try with_reducible rfl)
  try simp only [Act.put, List.setIfInBounds_toArray, List.set_cons_zero, List.set_cons_succ]
  refine wpAnyH_taken (i := 5) (d := some 8) (v := ?_) rfl rfl (by kernel_rfl) (by kernel_rfl) (by kernel_rfl) (fun _ _ _ h => h) (Or.inl ⟨by rfl, ?_⟩) (by assumption) ?_
  rotate_left 1
  · (intro w hSw; (try dsimp only at hSw); go_simp; try with_reducible rfl)
  try simp only [Act.put, List.setIfInBounds_toArray, List.set_cons_zero, List.set_cons_succ]
  refine wpAnyH_taken (i := 6) (d := some 9) (v := .int .u8 (Lib.pop8 b)) rfl rfl (by kernel_rfl) (by kernel_rfl) (by kernel_rfl) (fun _ _ _ h => h) (Or.inl ⟨by rfl, ?_⟩) (by assumption) ?_
  · (intro w hSw; (try dsimp only at hSw); go_simp; rw [tab_at])
  try simp only [Act.put, List.setIfInBounds_toArray, List.set_cons_zero, List.set_cons_succ]
  refine wpAnyH_taken (i := 7) (d := some 10) (v := ?_) rfl rfl (by kernel_rfl) (by kernel_rfl) (by kernel_rfl) (fun _ _ _ h => h) (Or.inl ⟨by rfl, ?_⟩) (by assumption) ?_
  rotate_left 1
  · (intro w hSw; (try dsimp only at hSw); go_simp; try with_reducible rfl)
  try simp only [Act.put, List.setIfInBounds_toArray, List.set_cons_zero, List.set_cons_succ]
  refine wpAnyH_taken (i := 8) (d := some 11) (v := ?_) rfl rfl (by kernel_rfl) (by kernel_rfl) (by kernel_rfl) (fun _ _ _ h => h) (Or.inl ⟨by rfl, ?_⟩) (by assumption) ?_
  rotate_left 1
  · (intro w hSw; (try dsimp only at hSw); go_simp; try with_reducible rfl)
  try simp only [Act.put, List.setIfInBounds_toArray, List.set_cons_zero, List.set_cons_succ]
  refine wpAnyH_taken (i := 9) (d := some 12) (v := ?_) rfl rfl (by kernel_rfl) (by kernel_rfl) (by kernel_rfl) (fun _ _ _ h => h) (Or.inl ⟨by rfl, ?_⟩) (by assumption) ?_
  rotate_left 1
  · (intro w hSw; (try dsimp only at hSw); go_simp; try with_reducible rfl)
  try simp only [Act.put, List.setIfInBounds_toArray, List.set_cons_zero, List.set_cons_succ]
  refine wpAnyH_taken (i := 10) (d := some 13) (v := ?_) rfl rfl (by kernel_rfl) (by kernel_rfl) (by kernel_rfl) (fun _ _ _ h => h) (Or.inl ⟨by rfl, ?_⟩) (by assumption) ?_
  rotate_left 1
  · (intro w hSw; (try dsimp only at hSw); go_simp; try with_reducible rfl)
  try simp only [Act.put, List.setIfInBounds_toArray, List.set_cons_zero, List.set_cons_succ]
  refine wpAnyH_taken (i := 11) (d := some 14) (v := .int .u8 (Lib.pop8 c)) rfl rfl (by kernel_rfl) (by kernel_rfl) (by kernel_rfl) (fun _ _ _ h => h) (Or.inl ⟨by rfl, ?_⟩) (by assumption) ?_
  · (intro w hSw; (try dsimp only at hSw); go_simp; rw [tab_at])
  try simp only [Act.put, List.setIfInBounds_toArray, List.set_cons_zero, List.set_cons_succ]
  refine wpAnyH_taken (i := 12) (d := some 15) (v := ?_) rfl rfl (by kernel_rfl) (by kernel_rfl) (by kernel_rfl) (fun _ _ _ h => h) (Or.inl ⟨by rfl, ?_⟩) (by assumption) ?_
  rotate_left 1
  · (intro w hSw; (try dsimp only at hSw); go_simp; try with_reducible rfl)
  try simp only [Act.put, List.setIfInBounds_toArray, List.set_cons_zero, List.set_cons_succ]
  refine wpAnyH_taken (i := 13) (d := some 16) (v := ?_) rfl rfl (by kernel_rfl) (by kernel_rfl) (by kernel_rfl) (fun _ _ _ h => h) (Or.inl ⟨by rfl, ?_⟩) (by assumption) ?_
  rotate_left 1
  · (intro w hSw; (try dsimp only at hSw); go_simp; try with_reducible rfl)
  try simp only [Act.put, List.setIfInBounds_toArray, List.set_cons_zero, List.set_cons_succ]
  refine wpAnyH_taken (i := 14) (d := some 17) (v := ?_) rfl rfl (by kernel_rfl) (by kernel_rfl) (by kernel_rfl) (fun _ _ _ h => h) (Or.inl ⟨by rfl, ?_⟩) (by assumption) ?_
  rotate_left 1
  · (intro w hSw; (try dsimp only at hSw); go_simp; try with_reducible rfl)
  try simp only [Act.put, List.setIfInBounds_toArray, List.set_cons_zero, List.set_cons_succ]
  refine wpAnyH_taken (i := 15) (d := some 18) (v := .int .u8 (Lib.pop8 d)) rfl rfl (by kernel_rfl) (by kernel_rfl) (by kernel_rfl) (fun _ _ _ h => h) (Or.inl ⟨by rfl, ?_⟩) (by assumption) ?_
  · (intro w hSw; (try dsimp only at hSw); go_simp; rw [tab_at])
  try simp only [Act.put, List.setIfInBounds_toArray, List.set_cons_zero, List.set_cons_succ]
  refine wpAnyH_taken (i := 16) (d := some 19) (v := ?_) rfl rfl (by kernel_rfl) (by kernel_rfl) (by kernel_rfl) (fun _ _ _ h => h) (Or.inl ⟨by rfl, ?_⟩) (by assumption) ?_
  rotate_left 1
  · (intro w hSw; (try dsimp only at hSw); go_simp; try with_reducible rfl)
  try simp only [Act.put, List.setIfInBounds_toArray, List.set_cons_zero, List.set_cons_succ]
  refine wpAnyH_taken (i := 17) (d := some 20) (v := ?_) rfl rfl (by kernel_rfl) (by kernel_rfl) (by kernel_rfl) (fun _ _ _ h => h) (Or.inl ⟨by rfl, ?_⟩) (by assumption) ?_
  rotate_left 1
  · (intro w hSw; (try dsimp only at hSw); go_simp; try with_reducible rfl)
  try simp only [Act.put, List.setIfInBounds_toArray, List.set_cons_zero, List.set_cons_succ]
  refine wpAnyH_taken (i := 18) (d := some 2) (v := ?_) rfl rfl (by kernel_rfl) (by kernel_rfl) (by kernel_rfl) (fun _ _ _ h => h) (Or.inl ⟨by rfl, ?_⟩) (by assumption) ?_
  rotate_left 1
  · (intro w hSw; (try dsimp only at hSw); go_simp; try with_reducible rfl)
  try simp only [Act.put, List.setIfInBounds_toArray, List.set_cons_zero, List.set_cons_succ]
  refine wpAnyH_done (by kernel_rfl) ?_ _
  go_wp2
  go_ret
  exact ⟨by rw [HS.out]; rfl, 1, rfl⟩

theorem pop_step {xs : List Int} (hd : Dig xs) {k : Nat} {x : Int} (hk : k < xs.length) (hx : xs.getD k 0 = x) : popN (32 * (k + 1)) (val (xs.take (k + 1))) = popN (32 * k) (val (xs.take k)) + popN 32 x := by
  have hb := val_bounds (hd.take k)
  rw [List.length_take, Nat.min_eq_left (by omega), BB_two] at hb
  have hp := two_pos (32 * k)
  rw [show 32 * (k + 1) = 32 * k + 32 from by omega, popN_add, val_take_succ, hx, BB_two, popN_mod, Int.add_mul_ediv_left _ _ (by omega), Int.ediv_eq_zero_of_lt hb.1 hb.2, Int.zero_add]

set_option maxRecDepth 100000 in
set_option maxHeartbeats 1000000 in
theorem ones_num (u : Value) (z : Int) (L : Nat) (w : World) (h : Num w u z L) (hL : L ≤ 1048576) :
    Calls Try.prog 80 #[u] w fun e w' => (∃ m : Nat, z < 2 ^ m ∧ e = .returned (.int .i64 (popN m z))) ∧ Below w.heap.size w w' := by
  obtain ⟨A, n, c, xs, rfl, hr, hd, ht, hv, hn⟩ := h
  have HR := Lib.hid hr
  have HXL := Lib.hid (show xs.length = n from hr.1)
  have HV := Lib.hid hv
  have HB := Lib.hid (val_bounds hd).2
  clear hr hv ht
  go_enter Try.func80, Try.ntmps80
  go_wp2_with fail
  go_loopw [3, 8] (fun sv kv wr => ∃ (k : Nat) (s : Int), kv = .int .i64 k ∧ sv = .int .i64 s ∧ k ≤ n ∧ 0 ≤ s ∧ s ≤ 32 * k ∧ Hid (s = popN (32 * k) (val (xs.take k))) ∧ Below w.heap.size w wr) (fun _ kv _ => n - (intOf kv).toNat)
  case atStart => exact ⟨0, 0, rfl, rfl, Nat.zero_le _, by decide, by decide, Lib.hid rfl, Below.refl _ _⟩
  case round =>
    obtain ⟨k, s, rfl, rfl, hk, s0, s1, HS, hb⟩ := hrel
    by_cases hlt : k < n
    · obtain ⟨b, o, rfl, hbx, hx⟩ := HR.out.2.2 (by omega)
      obtain ⟨x, ex⟩ : ∃ x, xs.getD k 0 = x := ⟨_, rfl⟩
      have hx1 : wr.cell? ⟨b, o + k, none⟩ = some (.int .u32 x) := by rw [← ex]; exact (hb.cell (p := ⟨b, o + k, none⟩) hbx).trans (hx k hlt)
      have bx := hd.getD k
      rw [ex, BB_def] at bx
      have HNX := Lib.hid (pop_step hd (show k < xs.length by rw [HXL.out]; exact hlt) ex)
      have hpb : 0 ≤ popN 32 x ∧ popN 32 x ≤ 32 := popN_bound 32 x
      obtain ⟨y, hy⟩ : ∃ y, popN 32 x = y := ⟨_, rfl⟩
      rw [hy] at hpb HNX
      clear hx ex
      go_wp2_with fail
      refine (onesCount32_any x _ bx.1 bx.2).mono ?_
      rintro e w1 ⟨rfl, q, rfl⟩
      rw [hy]
      go_wp2_with fail
      exact ⟨⟨k + 1, _, by go_num, rfl, hlt, by omega, by omega, Lib.hid (by rw [HNX.out, HS.out]), below_drewN hb q⟩, by simp [intOf]; omega⟩
    · obtain rfl : k = n := by omega
      have hs := HS.out
      rw [List.take_of_length_le (by rw [HXL.out]; exact Nat.le_refl _), HV.out] at hs
      have HSS := Lib.hid hs
      clear hs
      go_wp2_with fail
      go_ret
      refine ⟨⟨32 * k, ?_, by rw [← HSS.out]; rfl⟩, hb⟩
      have := HB.out
      rw [HXL.out, HV.out, BB_two] at this
      exact this

set_option maxHeartbeats 400000 in
theorem Count_any (u : Value) (x : Int) (L : Nat) (w : World) (h : Ival w u x L) (hL : L ≤ 1048576) :
    Calls Try.prog 28 #[u] w fun e w' => (∃ m : Nat, patOf x < 2 ^ m ∧ e = .returned (.int .i64 (popN m (patOf x)))) ∧ Below w.heap.size w w' := by
  obtain ⟨p, A, n, c, rfl⟩ := h.form
  have hW := below_alloc w (.cells #[.bool p, .slice A n c] 28)
  have HH := Lib.hid (h.below hW)
  clear h
  go_enter Try.func28, Try.ntmps28
  go_wp2_with fail
  refine (pattern_any _ x L _ HH.out hL).mono ?_
  rintro e w1 ⟨⟨v, rfl, hv⟩, hb⟩
  have HV := Lib.hid hv
  clear hv
  go_wp2_with fail
  refine (ones_num v _ L _ HV.out hL).mono ?_
  rintro e w2 ⟨⟨m, hm, rfl⟩, hb2⟩
  have HM := Lib.hid hm
  clear hm
  go_wp2
  go_ret
  exact ⟨⟨m, HM.out, rfl⟩, (hW.trans (hb.mono hW.size)).trans (hb2.mono (Nat.le_trans hW.size hb.size))⟩

end Go.Proofs.Ytoanomgdkkbbmaa

/- The reference's Count. -/
namespace Go.Proofs.Ytoanomgdkkbbmaa
open Go.RowKit LM

theorem IsLen.lt {z : Int} {k : Nat} (h : IsLen z k) : z < 2 ^ k := by
  rcases h with ⟨rfl, rfl⟩ | ⟨_, _, h⟩
  · decide
  · exact h

theorem popN_snoc (i : Nat) (P : Int) : popN (i + 1) P = popN i P + P / 2 ^ i % 2 := by
  rw [popN_add]; simp [popN]

theorem bitsOf_getD (x : Int) (N i : Nat) (h : i < N) : (bitsOf x N).getD i false = bitOf x (i : Int) := by
  unfold bitsOf; simp [List.getD, h]

set_option maxRecDepth 100000 in
set_option maxHeartbeats 4000000 in
theorem rCount_any (v : Value) (x : Int) (L : Nat) (w : World) (h : Rval w v x L) (hL : L ≤ 30000) :
    Calls Try.prog 29 #[v] w fun e w' => (∃ m : Nat, patOf x < 2 ^ m ∧ e = .returned (.int .i64 (popN m (patOf x)))) ∧ Below w.heap.size w w' := by
  obtain ⟨p, A, n, c, rfl⟩ := h.form
  have hW := below_alloc w (.cells #[.bool p, .slice A n c] 31)
  have hB0 := (Below.refl (w.heap.size + 1) (w.alloc (.cells #[.bool p, .slice A n c] 31))).drew
  have hsz : w.heap.size + 1 ≤ (w.alloc (.cells #[.bool p, .slice A n c] 31)).heap.size := by simp
  have HH := Lib.hid h
  have HNEG := Lib.hid (rval_neg h)
  clear h
  go_enter Try.func29, Try.ntmps29
  go_wp2_with fail
  go_region_held3 (fun w' => w'.cell? ⟨w.heap.size, 0, none⟩ = some (.bool p) ∧ w'.cell? ⟨w.heap.size, 1, none⟩ = some (.slice A n c) ∧ Below (w.heap.size + 1) (w.alloc (.cells #[.bool p, .slice A n c] 31)) w')
    (first | (with_reducible exact cell31 hB2) | (with_reducible exact cell31 hB1) | (with_reducible exact cell31 hB0))
    (first
      | (go_at_call 81; have hK := hB1; clear hK; refine (rBits_any _ x L k _ (HH.out.below (hW.trans (hB1.mono (by omega)))) (by omega) (by omega)).mono ?_; rintro e w2 ⟨⟨A2, n2, c2, rfl, hrow⟩, hb2⟩; have hB2 := Below.trans hB1 (hb2.mono (B' := w.heap.size + 1) (Nat.le_trans hsz hB1.size)); have HROW := Lib.hid hrow; clear hrow)
      | (go_at_call 27; refine (rLength_any _ x L _ (HH.out.below (hW.trans (hB0.mono (by omega)))) (by omega)).mono ?_; rintro e w1 ⟨⟨k, rfl, hk, hkl⟩, hb1⟩; have hB1 := Below.trans hB0 (hb1.mono (B' := w.heap.size + 1) (Nat.le_trans hsz hB0.size)); have HK := Lib.hid hk; clear hk))
  obtain ⟨k0, k1, _⟩ := cell31 hB2
  have hWW := hW.trans (hB2.mono (by omega))
  have hn2 : n2 = k := by have := HROW.out.1; unfold bitsOf at this; simpa using this.symm
  subst hn2
  clear hb1 hb2 hB0 hB1
  go_wp2_with fail
  obtain ⟨wo, rfl⟩ : ∃ wo : World, wo = w2 := ⟨_, rfl⟩
  go_loopw [4, 5] (fun sv iv wr => ∃ (i : Nat) (s : Int) (q : Nat), iv = .int .i64 i ∧ sv = .int .i64 s ∧ i ≤ n2 ∧ 0 ≤ s ∧ s ≤ i ∧ Hid (s = popN i (patOf x)) ∧ wr = wo.drewN q) (fun _ iv _ => n2 - (intOf iv).toNat)
  case atStart => exact ⟨0, 0, 0, rfl, rfl, Nat.zero_le _, by decide, by decide, Lib.hid rfl, rfl⟩
  case round =>
    obtain ⟨i, s, q, rfl, rfl, hi, s0, s1, HS, rfl⟩ := hrel
    by_cases hlt : i < n2
    · obtain ⟨b, o, rfl, hbx, hx⟩ := HROW.out.2.2 (by omega)
      obtain ⟨bb, hbb⟩ : ∃ bb, decide (patOf x / 2 ^ i % 2 = 1) = bb := ⟨_, rfl⟩
      have hcell : wo.cell? ⟨b, o + i, none⟩ = some (.bool (bb != p)) := by
        rw [hx i hlt, bitsOf_getD x n2 i hlt]
        unfold bitOf
        rw [if_neg (by omega), Int.toNat_natCast, hbb, HNEG.out]
      have hil : (i : Int) < (n2 : Int) := by omega
      have hm0 : 0 ≤ patOf x / 2 ^ i % 2 := Int.emod_nonneg _ (by decide)
      have hm1 : patOf x / 2 ^ i % 2 < 2 := Int.emod_lt_of_pos _ (by decide)
      have HNX := Lib.hid (popN_snoc i (patOf x))
      have HBB := Lib.hid hbb
      clear hx hbb hm0 hm1
      cases bb with
      | true =>
        have hv : popN (i + 1) (patOf x) = s + 1 := by rw [HNX.out, of_decide_eq_true HBB.out, HS.out]
        have HV := Lib.hid hv
        clear hv
        cases p
        all_goals
          go_wp2
          go_quiet (fail)
          go_wp2
          exact ⟨⟨i + 1, s + 1, _, by go_num, by go_num, hlt, by omega, by omega, Lib.hid HV.out.symm, rfl⟩, by simp [intOf]; omega⟩
      | false =>
        have hv : popN (i + 1) (patOf x) = s := by
          have h2 := of_decide_eq_false HBB.out
          have hm0 : 0 ≤ patOf x / 2 ^ i % 2 := Int.emod_nonneg _ (by decide)
          have hm1 : patOf x / 2 ^ i % 2 < 2 := Int.emod_lt_of_pos _ (by decide)
          rw [HNX.out, HS.out]; omega
        have HV := Lib.hid hv
        clear hv
        cases p
        all_goals
          go_wp2
          go_quiet (fail)
          go_wp2
          exact ⟨⟨i + 1, s, _, by go_num, by go_num, hlt, by omega, by omega, Lib.hid HV.out.symm, rfl⟩, by simp [intOf]; omega⟩
    · obtain rfl : i = n2 := by omega
      go_wp2_with fail
      go_ret
      exact ⟨⟨i, HK.out.lt, by rw [← HS.out]; rfl⟩, below_drewN hWW q⟩

end Go.Proofs.Ytoanomgdkkbbmaa
