/- Of the proof of RationalNumbers: RDivide, Shift2, Deposit, Boxes, PatKit, ShiftV, RShift, RPower, RPower2, PowInt, RAbs. -/
import Derived.Test.YtbajnceoolkckaaGreatNm17
import Derived.Test.YtbajnceoolkckaaGreatNm11
import Derived.Test.YtbajnceoolkckaaGreatNm10
import Derived.Test.YtbajnceoolkckaaGreatNm02
import Derived.Test.YtbajnceoolkckaaGreatNm09
import Derived.RegionTactic
import Derived.ChangeAlike
import Derived.Test.YtbajnceoolkckaaGreatNm05
import Derived.Test.YtbajnceoolkckaaGreatNm16
open List renaming getElem_toArray → gEA, getElem_cons_succ → gES, getElem_cons_zero → gEZ, setIfInBounds_toArray → sTA, set_cons_zero → sCZ, set_cons_succ → sCS
/- The reference's Divide, by a number other than 0. -/
namespace Go.Proofs.YtbajnceoolkckaaGreat
open Go.RowKit LM

theorem div_hold {w w' : World} {p q : Bool} {A B : Option Addr} {n c m d : Nat} (h : Below (w.heap.size + 4) ((((w.alloc (.cells #[.bool p, .slice A n c] 34)).alloc (.cells #[.bool q, .slice B m d] 34)).alloc (.cells #[.bool false, .slice none 0 0] 34)).alloc (.cells #[.bool false, .slice none 0 0] 34)) w') :
  (w'.cell? ⟨w.heap.size, 0, none⟩ = some (.bool p) ∧ w'.cell? ⟨w.heap.size, 1, none⟩ = some (.slice A n c) ∧ w'.cell? ⟨w.heap.size + 1, 0, none⟩ = some (.bool q) ∧ w'.cell? ⟨w.heap.size + 1, 1, none⟩ = some (.slice B m d)) ∧
  (w'.cell? ⟨w.heap.size + 1 + 1, 0, none⟩ = some (.bool false) ∧ w'.cell? ⟨w.heap.size + 1 + 1, 1, none⟩ = some (.slice none 0 0) ∧ w'.frozen? ⟨w.heap.size + 1 + 1, 0, none⟩ = false ∧ w'.frozen? ⟨w.heap.size + 1 + 1, 1, none⟩ = false) ∧
  (w'.cell? ⟨w.heap.size + 1 + 1 + 1, 0, none⟩ = some (.bool false) ∧ w'.cell? ⟨w.heap.size + 1 + 1 + 1, 1, none⟩ = some (.slice none 0 0) ∧ w'.frozen? ⟨w.heap.size + 1 + 1 + 1, 0, none⟩ = false ∧ w'.frozen? ⟨w.heap.size + 1 + 1 + 1, 1, none⟩ = false) := by
 refine ⟨⟨?_, ?_, ?_, ?_⟩, ⟨?_, ?_, ?_, ?_⟩, ?_, ?_, ?_, ?_⟩
 ·rw [h.cell (by simp), World.cell?_alloc_past _ _ _ (by simp <;> omega), World.cell?_alloc_past _ _ _ (by simp <;> omega), World.cell?_alloc_past _ _ _ (by simp), World.cell?_alloc_at _ _ _ _ rfl]; rfl
 ·rw [h.cell (by simp), World.cell?_alloc_past _ _ _ (by simp <;> omega), World.cell?_alloc_past _ _ _ (by simp <;> omega), World.cell?_alloc_past _ _ _ (by simp), World.cell?_alloc_at _ _ _ _ rfl]; rfl
 ·rw [h.cell (by simp), World.cell?_alloc_past _ _ _ (by simp <;> omega), World.cell?_alloc_past _ _ _ (by simp), World.cell?_alloc_at _ _ _ _ (by simp)]; rfl
 ·rw [h.cell (by simp), World.cell?_alloc_past _ _ _ (by simp <;> omega), World.cell?_alloc_past _ _ _ (by simp), World.cell?_alloc_at _ _ _ _ (by simp)]; rfl
 ·rw [h.cell (by simp), World.cell?_alloc_past _ _ _ (by simp), World.cell?_alloc_at _ _ _ _ (by simp)]; rfl
 ·rw [h.cell (by simp), World.cell?_alloc_past _ _ _ (by simp), World.cell?_alloc_at _ _ _ _ (by simp)]; rfl
 ·rw [h.frozen (by simp), World.frozen?_alloc_past _ _ _ (by simp)]; exact World.frozen?_alloc_at _ _ _ _ (by simp)
 ·rw [h.frozen (by simp), World.frozen?_alloc_past _ _ _ (by simp)]; exact World.frozen?_alloc_at _ _ _ _ (by simp)
 ·rw [h.cell (by simp), World.cell?_alloc_at _ _ _ _ (by simp)]; rfl
 ·rw [h.cell (by simp), World.cell?_alloc_at _ _ _ _ (by simp)]; rfl
 ·rw [h.frozen (by simp)]; exact World.frozen?_alloc_at _ _ _ _ (by simp)
 ·rw [h.frozen (by simp)]; exact World.frozen?_alloc_at _ _ _ _ (by simp)

set_option maxRecDepth 100000 in
set_option maxHeartbeats 4000000 in
theorem rDivide_any (p q : Bool) (A B : Option Addr) (n c m d : Nat) (xs ys : List Int) (w : World) (hr : Row .i64 w A n c xs) (gr : Row .i64 w B m d ys) (hd : DigR 65536 xs) (gd : DigR 65536 ys) (gt : Trimmed ys) (hpos : 0 < valR 65536 ys) (hn : n ≤ 100000) (hm : m ≤ 100000) :
  Calls Tryz.prog 81 #[.agg #[.bool p, .slice A n c], .agg #[.bool q, .slice B m d]] w fun e w' => (∃ g1 A1 n1 c1 g2 A2 n2 c2, e = .returned (.tuple #[.agg #[.bool g1, .slice A1 n1 c1], .agg #[.bool g2, .slice A2 n2 c2], .int .i64 0]) ∧
   Rval w' (.agg #[.bool g1, .slice A1 n1 c1]) (withSign (p != q) (valR 65536 xs / valR 65536 ys)) n ∧ Rval w' (.agg #[.bool g2, .slice A2 n2 c2]) (withSign p (valR 65536 xs % valR 65536 ys)) n) ∧ Below w.heap.size w w' := by
 have hW : Below w.heap.size w ((((w.alloc (.cells #[.bool p, .slice A n c] 34)).alloc (.cells #[.bool q, .slice B m d] 34)).alloc (.cells #[.bool false, .slice none 0 0] 34)).alloc (.cells #[.bool false, .slice none 0 0] 34)) := ((below_two w _ _).alloc (by simp; omega) _).alloc (by simp; omega) _
 have hs4 : w.heap.size + 4 ≤ ((((w.alloc (.cells #[.bool p, .slice A n c] 34)).alloc (.cells #[.bool q, .slice B m d] 34)).alloc (.cells #[.bool false, .slice none 0 0] 34)).alloc (.cells #[.bool false, .slice none 0 0] 34)).heap.size := by simp <;> omega
 have hs4' : ((((w.alloc (.cells #[.bool p, .slice A n c] 34)).alloc (.cells #[.bool q, .slice B m d] 34)).alloc (.cells #[.bool false, .slice none 0 0] 34)).alloc (.cells #[.bool false, .slice none 0 0] 34)).heap.size ≤ w.heap.size + 4 := by simp <;> omega
 have HX := Lib.hid (hr.below hW)
 have HY := Lib.hid (gr.below hW)
 have HS := Lib.hid (fun (w' : World) (hb : Below (w.heap.size + 4) ((((w.alloc (.cells #[.bool p, .slice A n c] 34)).alloc (.cells #[.bool q, .slice B m d] 34)).alloc (.cells #[.bool false, .slice none 0 0] 34)).alloc (.cells #[.bool false, .slice none 0 0] 34)) w') => div_hold hb)
 have hB0 := Below.refl (w.heap.size + 4) ((((w.alloc (.cells #[.bool p, .slice A n c] 34)).alloc (.cells #[.bool q, .slice B m d] 34)).alloc (.cells #[.bool false, .slice none 0 0] 34)).alloc (.cells #[.bool false, .slice none 0 0] 34))
 have hsg : (cmpI (withSign q (valR 65536 ys)) 0 == 0) = false := by
  rcases cmpI_cases (withSign q (valR 65536 ys)) 0 with ⟨h, _, _⟩ | ⟨_, _, h⟩ | ⟨h, _, _⟩
  ·rw [h]; rfl
  ·cases q <;> simp [withSign] at h <;> omega
  ·rw [h]; rfl
 have hyv : Rval ((((w.alloc (.cells #[.bool p, .slice A n c] 34)).alloc (.cells #[.bool q, .slice B m d] 34)).alloc (.cells #[.bool false, .slice none 0 0] 34)).alloc (.cells #[.bool false, .slice none 0 0] 34)) (.agg #[.bool q, .slice B m d]) (withSign q (valR 65536 ys)) m := ⟨q, B, m, d, ys, rfl, HY.out, gd, gt, rfl, fun _ => by omega, Nat.le_refl _⟩
 have HYV := Lib.hid hyv
 have HSG := Lib.hid hsg
 clear hr gr hyv hsg
 go_enter Tryz.func81, Tryz.ntmps81
 go_wp2_with fail
 refine (rsign_any _ (withSign q (valR 65536 ys)) m _ HYV.out (by omega)).mono ?_
 rintro e w1 ⟨rfl, hb1⟩
 obtain ⟨sg, hsg⟩ : ∃ sg, cmpI (withSign q (valR 65536 ys)) 0 = sg := ⟨_, rfl⟩
 have hsg0 : (sg == 0) = false := by rw [← hsg]; exact HSG.out
 rw [hsg]
 have hB1 := hB0.trans (hb1.mono (B' := w.heap.size + 4) hs4)
 have hz1 := Nat.le_trans hs4 hB1.size
 obtain ⟨⟨k0, k1, k2, k3⟩, -⟩ := HS.out _ hB1
 clear hsg
 go_wp2_with fail
 refine (rdivided_any A B n m c d xs ys _ (HX.out.below hb1) (HY.out.below hb1) hn hm hd gd hpos).mono ?_
 rintro e w2 ⟨⟨v1, v2, rfl, hq, hrm⟩, hb2⟩
 obtain ⟨A1, n1, c1, ds1, rfl, r1, d1, v1, l1⟩ := hq
 obtain ⟨A2, n2, c2, ds2, rfl, r2, d2, v2, l2⟩ := hrm
 have R1 := Lib.hid r1
 have R2 := Lib.hid r2
 have V1 := Lib.hid v1
 have V2 := Lib.hid v2
 have hB2' := hB1.trans (hb2.mono (B' := w.heap.size + 4) hz1)
 have hB2 := hB2'.drew
 clear k0 k1 k2 k3 r1 r2 v1 v2
 obtain ⟨⟨k0, k1, k2, k3⟩, -⟩ := HS.out _ hB2'
 go_wp2_with fail
 generalize ((((w.alloc (.cells #[.bool p, .slice A n c] 34)).alloc (.cells #[.bool q, .slice B m d] 34)).alloc (.cells #[.bool false, .slice none 0 0] 34)).alloc (.cells #[.bool false, .slice none 0 0] 34)) = wl at *
 refine wp_region_held_drew (S := fun w' => w'.cell? ⟨w.heap.size, 0, none⟩ = some (.bool p) ∧ w'.cell? ⟨w.heap.size + 1, 0, none⟩ = some (.bool q)) (by kernel_rfl) ⟨k0, k2⟩ (fun hHeld0 => ?_)
 refine wpAnyH_taken (i := 0) (d := some 22) (v := ?_) rfl rfl (by kernel_rfl) (by kernel_rfl) (by kernel_rfl) (fun _ _ _ h => h) (Or.inl ⟨by rfl, ?_⟩) (by assumption) ?_
 rotate_left 1
 ·(intro w hSw; (try dsimp only at hSw); go_simp; try with_reducible rfl)
 try simp only [Act.put, sTA, sCZ, sCS]
 refine wpAnyH_taken (i := 1) (d := some 23) (v := ?_) rfl rfl (by kernel_rfl) (by kernel_rfl) (by kernel_rfl) (fun _ _ _ h => h) (Or.inl ⟨by rfl, ?_⟩) (by assumption) ?_
 rotate_left 1
 ·(intro w hSw; (try dsimp only at hSw); go_simp; try with_reducible rfl)
 try simp only [Act.put, sTA, sCZ, sCS]
 refine wpAnyH_taken (i := 2) (d := some 24) (v := ?_) rfl rfl (by kernel_rfl) (by kernel_rfl) (by kernel_rfl) (fun _ _ _ h => h) (Or.inl ⟨by rfl, ?_⟩) (by assumption) ?_
 rotate_left 1
 ·(intro w hSw; (try dsimp only at hSw); go_simp; try with_reducible rfl)
 try simp only [Act.put, sTA, sCZ, sCS]
 refine wpAnyH_taken (i := 3) (d := some 25) (v := ?_) rfl rfl (by kernel_rfl) (by kernel_rfl) (by kernel_rfl) (fun _ _ _ h => h) (Or.inl ⟨by rfl, ?_⟩) (by assumption) ?_
 rotate_left 1
 ·(intro w hSw; (try dsimp only at hSw); go_simp; try with_reducible rfl)
 try simp only [Act.put, sTA, sCZ, sCS]
 refine wpAnyH_taken (i := 4) (d := some 26) (v := ?_) rfl rfl (by kernel_rfl) (by kernel_rfl) (by kernel_rfl) (fun _ _ _ h => h) (Or.inl ⟨by rfl, ?_⟩) (by assumption) ?_
 rotate_left 1
 ·(intro w hSw; (try dsimp only at hSw); go_simp; try with_reducible rfl)
 try simp only [Act.put, sTA, sCZ, sCS]
 refine wpAnyH_taken (i := 5) (d := some 27) (v := ?_) rfl rfl (by kernel_rfl) (by kernel_rfl) (by kernel_rfl) (fun _ _ _ h => h) (Or.inl ⟨by rfl, ?_⟩) (by assumption) ?_
 rotate_left 1
 ·(intro w hSw; (try dsimp only at hSw); go_simp; try with_reducible rfl)
 try simp only [Act.put, sTA, sCZ, sCS]
 refine wpAnyH_taken (i := 7) (d := some 29) (v := ?_) rfl rfl (by kernel_rfl) (by kernel_rfl) (by kernel_rfl) (fun _ _ _ h => h) (Or.inl ⟨by rfl, ?_⟩) (by assumption) ?_
 rotate_left 1
 ·(intro w hSw; (try dsimp only at hSw); go_simp; try with_reducible rfl)
 try simp only [Act.put, sTA, sCZ, sCS]
 refine wpAnyH_taken (i := 8) (d := some 30) (v := ?_) rfl rfl (by kernel_rfl) (by kernel_rfl) (by kernel_rfl) (fun _ _ _ h => h) (Or.inl ⟨by rfl, ?_⟩) (by assumption) ?_
 rotate_left 1
 ·(intro w hSw; (try dsimp only at hSw); go_simp; try with_reducible rfl)
 try simp only [Act.put, sTA, sCZ, sCS]
 refine wpAnyH_taken (i := 9) (d := some 31) (v := ?_) rfl rfl (by kernel_rfl) (by kernel_rfl) (by kernel_rfl) (fun _ _ _ h => h) (Or.inl ⟨by rfl, ?_⟩) (by assumption) ?_
 rotate_left 1
 ·(intro w hSw; (try dsimp only at hSw); go_simp; try with_reducible rfl)
 try simp only [Act.put, sTA, sCZ, sCS]
 refine wpAnyH_ready (rs := [6]) (by kernel_rfl) (by simp) ?_
 refine AllReadyH.cons rfl (fun K hK => ?_) AllReadyH.nil
 try simp only [gEA, gEZ, gES]
 go_simp
 (go_at_call 121; refine (rmade_any (p != q) A1 n1 c1 ds1 _ (R1.out.below ((Below.refl _ _).drew)) (by omega) d1).mono ?_; rintro e w3 ⟨ng3, A3, n3, c3, rfl, hv3, hb3⟩)
 have hB3 := hB2.trans (hb3.mono (B' := w.heap.size + 4) (Nat.le_trans hs4 hB2.size))
 have HV3 := Lib.hid hv3
 clear hv3 k0 k1 k2 k3
 obtain ⟨⟨k0, k1, k2, k3⟩, -⟩ := HS.out _ hB3
 refine hK.out _ _ ⟨k0, k2⟩ (fun hHeld1 => ?_)
 clear hK K
 try simp only [Act.put, sTA, sCZ, sCS]
 refine wpAnyH_ready (rs := [10]) (by kernel_rfl) (by simp) ?_
 refine AllReadyH.cons rfl (fun K hK => ?_) AllReadyH.nil
 try simp only [gEA, gEZ, gES]
 go_simp
 (go_at_call 121; refine (rmade_any p A2 n2 c2 ds2 _ ((R2.out.below ((Below.refl w2.heap.size w2).drew)).below hb3) (by omega) d2).mono ?_; rintro e w4 ⟨ng4, A4, n4, c4, rfl, hv4, hb4⟩)
 have hB4 := hB3.trans (hb4.mono (B' := w.heap.size + 4) (Nat.le_trans hs4 hB3.size))
 have HV4 := Lib.hid hv4
 have HV3b := Lib.hid (HV3.out.below hb4)
 clear hv4 k0 k1 k2 k3
 obtain ⟨⟨k0, k1, k2, k3⟩, ⟨e1, e2, e3, e4⟩, ⟨g1, g2, g3, g4⟩⟩ := HS.out _ hB4
 refine hK.out _ _ ⟨k0, k2⟩ (fun hHeld2 => ?_)
 clear hK K
 try simp only [Act.put, sTA, sCZ, sCS]
 refine wpAnyH_ready (rs := [11]) (by kernel_rfl) (by simp) ?_
 refine AllReadyH.cons rfl (fun K hK => ?_) AllReadyH.nil
 try simp only [gEA, gEZ, gES]
 go_simp
 have s0 : ((w4.setCell ⟨w.heap.size + 1 + 1, 0, none⟩ (.bool ng3)).setCell ⟨w.heap.size + 1 + 1, 1, none⟩ (.slice A3 n3 c3)).cell? ⟨w.heap.size, 0, none⟩ = some (.bool p) := by rw [World.cell?_setCell_other _ _ _ _ (by simp <;> omega), World.cell?_setCell_other _ _ _ _ (by simp <;> omega)]; exact k0
 have s2 : ((w4.setCell ⟨w.heap.size + 1 + 1, 0, none⟩ (.bool ng3)).setCell ⟨w.heap.size + 1 + 1, 1, none⟩ (.slice A3 n3 c3)).cell? ⟨w.heap.size + 1, 0, none⟩ = some (.bool q) := by rw [World.cell?_setCell_other _ _ _ _ (by simp <;> omega), World.cell?_setCell_other _ _ _ _ (by simp <;> omega)]; exact k2
 refine hK.out _ _ ⟨s0, s2⟩ (fun hHeld3 => ?_)
 clear hK K
 try simp only [Act.put, sTA, sCZ, sCS]
 refine wpAnyH_ready (rs := [12]) (by kernel_rfl) (by simp) ?_
 refine AllReadyH.cons rfl (fun K hK => ?_) AllReadyH.nil
 try simp only [gEA, gEZ, gES]
 go_simp
 refine hK.out _ _ ⟨?_, ?_⟩ (fun hHeld4 => ?_)
 ·rw [World.cell?_setCell_other _ _ _ _ (by simp <;> omega), World.cell?_setCell_other _ _ _ _ (by simp <;> omega)]; exact s0
 ·rw [World.cell?_setCell_other _ _ _ _ (by simp <;> omega), World.cell?_setCell_other _ _ _ _ (by simp <;> omega)]; exact s2
 clear hK K
 try simp only [Act.put, sTA, sCZ, sCS]
 refine wpAnyH_taken (i := 13) (d := some 6) (v := ?_) rfl rfl (by kernel_rfl) (by kernel_rfl) (by kernel_rfl) (fun _ _ _ h => h) (Or.inl ⟨by rfl, ?_⟩) (by assumption) ?_
 rotate_left 1
 ·(intro w hSw; (try dsimp only at hSw); go_simp; try with_reducible rfl)
 try simp only [Act.put, sTA, sCZ, sCS]
 refine wpAnyH_done (by kernel_rfl) ?_ _
 go_wp2
 have hrt : w.heap.size + 1 + 1 ≠ w.heap.size + 1 + 1 + 1 := by omega
 refine bodyPost_ret (v := .tuple #[.agg #[.bool ng3, .slice A3 n3 c3], .agg #[.bool ng4, .slice A4 n4 c4], .int .i64 0]) (by simp [results, Tryz.results81, go_sem, e1, e2, g1, g2]) rfl ⟨⟨_, _, _, _, _, _, _, _, rfl, ?_, ?_⟩, ?_⟩
 ·rw [← V1.out]; exact (HV3b.out.mono l1).stored2 hrt e1 e2 g1 g2 _ _ _ _
 ·rw [← V2.out]; exact (HV4.out.mono l2).stored2 hrt e1 e2 g1 g2 _ _ _ _
 ·exact ((((hW.trans (hB4.mono (by omega))).setCell (by show _ ≤ _; simp; omega) _).setCell (by show _ ≤ _; simp; omega) _).setCell (by show _ ≤ _; simp; omega) _).setCell (by show _ ≤ _; simp; omega) _

end Go.Proofs.YtbajnceoolkckaaGreat
/- shifted and Shift, any way. -/
namespace Go.Proofs.YtbajnceoolkckaaGreat
open Go.RowKit LM

/-- shifted, any way. -/
def shiftOf (x t : Int) : Int := if 0 ≤ t then x * 2 ^ t.toNat else x / 2 ^ (-t).toNat

end Go.Proofs.YtbajnceoolkckaaGreat
/- Deposit. -/
namespace Go.Proofs.YtbajnceoolkckaaGreat
open Go.RowKit LM

/-- The room of a box in a later world. -/
def RoomAt (v : World) (b : Nat) : Prop := (v.cell? ⟨b, 0, none⟩ = some (.bool false) ∧ v.cell? ⟨b, 1, none⟩ = some (.slice none 0 0) ∧ v.frozen? ⟨b, 0, none⟩ = false ∧ v.frozen? ⟨b, 1, none⟩ = false) ∧ b < v.heap.size
theorem RoomAt.below {v w' : World} {b : Nat} (h : RoomAt v b) (hb : Below v.heap.size v w') : RoomAt w' b :=
 ⟨⟨(hb.cell (p := ⟨b, 0, none⟩) h.2).trans h.1.1, (hb.cell (p := ⟨b, 1, none⟩) h.2).trans h.1.2.1, (hb.frozen (p := ⟨b, 0, none⟩) h.2).trans h.1.2.2.1, (hb.frozen (p := ⟨b, 1, none⟩) h.2).trans h.1.2.2.2⟩, Nat.lt_of_lt_of_le h.2 hb.size⟩

end Go.Proofs.YtbajnceoolkckaaGreat
/- Boxes: variables of a law that hold integers, all of them at once. -/
namespace Go.Proofs.YtbajnceoolkckaaGreat
open Go.RowKit LM

/-- The cells of block b hold an integer of value z. -/
def BoxV (w : World) (b : Nat) (z : Int) (L : Nat) : Prop :=
 b < w.heap.size ∧ ∃ g A n c, w.cell? ⟨b, 0, none⟩ = some (.bool g) ∧ w.cell? ⟨b, 1, none⟩ = some (.slice A n c) ∧ Ival w (.agg #[.bool g, .slice A n c]) z L

theorem BoxV.below {w w' : World} {b : Nat} {z : Int} {L : Nat} (h : BoxV w b z L) (hb : Below w.heap.size w w') : BoxV w' b z L := by
 obtain ⟨h1, g, A, n, c, c0, c1, hv⟩ := h
 exact ⟨Nat.lt_of_lt_of_le h1 hb.size, g, A, n, c, (hb.cell (p := ⟨b, 0, none⟩) h1).trans c0, (hb.cell (p := ⟨b, 1, none⟩) h1).trans c1, hv.below hb⟩

/-- A list of such boxes. -/
def Boxes (w : World) (l : List (Nat × Int × Nat)) : Prop := ∀ t ∈ l, BoxV w t.1 t.2.1 t.2.2

theorem Boxes.below {w w' : World} {l : List (Nat × Int × Nat)} (h : Boxes w l) (hb : Below w.heap.size w w') : Boxes w' l := fun t ht => (h t ht).below hb

theorem Boxes.nil {w : World} : Boxes w [] := fun t ht => by simp at ht

theorem Boxes.get {w : World} {l : List (Nat × Int × Nat)} (h : Boxes w l) {b : Nat} {z : Int} {L : Nat} (hm : (b, z, L) ∈ l) : BoxV w b z L := h _ hm

/-- A new box. -/
theorem Boxes.add {w : World} {l : List (Nat × Int × Nat)} (h : Boxes w l) {g : Bool} {A : Option Addr} {n c L : Nat} {z : Int} (t : TypeId) (hv : Ival w (.agg #[.bool g, .slice A n c]) z L) :
  Boxes (w.alloc (.cells #[.bool g, .slice A n c] t)) ((w.heap.size, z, L) :: l) := by
 have hb := below_alloc w (.cells #[.bool g, .slice A n c] t)
 intro x hx
 rcases List.mem_cons.1 hx with rfl | hx
 ·refine ⟨by simp, g, A, n, c, ?_, ?_, hv.below hb⟩
  ·rw [World.cell?_alloc_at _ _ _ _ rfl]; rfl
  ·rw [World.cell?_alloc_at _ _ _ _ rfl]; rfl
 ·exact (h x hx).below hb

end Go.Proofs.YtbajnceoolkckaaGreat
/- Contracts as the law of patterns meets them. -/
namespace Go.Proofs.YtbajnceoolkckaaGreat
open Go.RowKit LM

theorem IsLen.le_of_lt {z : Int} {k N : Nat} (h : IsLen z k) (hz : z < 2 ^ N) : k ≤ N := by
 rcases h with ⟨_, rfl⟩ | ⟨h1, h2, _⟩
 ·omega
 ·have := two_lt (show (2 : Int) ^ (k - 1) < 2 ^ N by omega)
  omega

/-- One box more, the others as they were. -/
def NewBox (wk : World) (l : List (Nat × Int × Nat)) (z : Int) (L : Nat) (v : Value) (wx : World) : Prop :=
 ∃ b, v = .pointer (some ⟨b, 0, none⟩) ∧ Boxes wx ((b, z, L) :: l) ∧ Below wk.heap.size wk wx

theorem NewBox.mk {wk wx : World} {l : List (Nat × Int × Nat)} {b : Nat} {z : Int} {L : Nat} (h : Boxes wk l) (hb : Below wk.heap.size wk wx) (hn : BoxV wx b z L) : NewBox wk l z L (.pointer (some ⟨b, 0, none⟩)) wx := by
 refine ⟨b, rfl, fun t ht => ?_, hb⟩
 rcases List.mem_cons.1 ht with rfl | ht
 ·exact hn
 ·exact (h t ht).below hb

end Go.Proofs.YtbajnceoolkckaaGreat
/- The reference's Shift, and what both come to. -/
namespace Go.Proofs.YtbajnceoolkckaaGreat
open Go.RowKit LM

/-- Is the result too long? -/
def TooFar (x t : Int) : Prop := 0 < t ∧ x ≠ 0 ∧ ∃ k : Nat, IsLen (patOf x) k ∧ 65536 < (k : Int) + t

/-- What a shift comes to. -/
def ShiftV (x t z err : Int) : Prop := TooFar x t ∧ z = 0 ∧ err = 14 ∨ ¬ TooFar x t ∧ z = shiftOf x t ∧ err = 0

theorem ShiftV.same {x t z err z' err' : Int} (h : ShiftV x t z err) (g : ShiftV x t z' err') : z' = z ∧ err' = err := by
 rcases h with ⟨a, rfl, rfl⟩ | ⟨a, rfl, rfl⟩ <;> rcases g with ⟨b, rfl, rfl⟩ | ⟨b, rfl, rfl⟩
 ·exact ⟨rfl, rfl⟩
 ·exact absurd a b
 ·exact absurd b a
 ·exact ⟨rfl, rfl⟩

end Go.Proofs.YtbajnceoolkckaaGreat
/- The reference's Shift. -/
namespace Go.Proofs.YtbajnceoolkckaaGreat
open Go.RowKit LM

theorem IsLen.some {z : Int} (h0 : 0 ≤ z) : ∃ k, IsLen z k := by
 have key : ∀ N : Nat, ∀ z : Int, 0 ≤ z → z < 2 ^ N → ∃ k, IsLen z k := by
  intro N
  induction N with
  | zero => intro z h0 h1; exact ⟨0, .inl ⟨by simp at h1; omega, rfl⟩⟩
  | succ N ih =>
   intro z h0 h1
   by_cases hz : z < 2 ^ N
   ·exact ih z h0 hz
   ·exact ⟨N + 1, .inr ⟨by omega, by rw [Nat.add_sub_cancel]; omega, h1⟩⟩
 have hlt := Nat.lt_two_pow_self (n := z.toNat)
 refine key z.toNat z h0 ?_
 have e : (((2 : Nat) ^ z.toNat : Nat) : Int) = (2 : Int) ^ z.toNat := by simp
 rw [← e]; omega

end Go.Proofs.YtbajnceoolkckaaGreat
/- The reference's Power. -/
namespace Go.Proofs.YtbajnceoolkckaaGreat
open Go.RowKit LM

theorem rbox_new {w w' : World} {p : Bool} {u : Value} {t : TypeId} (h : Below (w.heap.size + 1) (w.alloc (.cells #[.bool p, u] t)) w') : w'.cell? ⟨w.heap.size, 0, none⟩ = some (.bool p) ∧ w'.cell? ⟨w.heap.size, 1, none⟩ = some u := by
 refine ⟨?_, ?_⟩
 ·rw [h.cell (by simp), World.cell?_alloc_at _ _ _ _ (by simp)]; rfl
 ·rw [h.cell (by simp), World.cell?_alloc_at _ _ _ _ (by simp)]; rfl

end Go.Proofs.YtbajnceoolkckaaGreat
/- The reference's Power, its loop. -/
namespace Go.Proofs.YtbajnceoolkckaaGreat
open Go.RowKit LM

theorem Rval.restored {w : World} {s : Value} {z : Int} {L : Nat} (h : Rval w s z L) {r : Nat} {g : Bool} {A : Option Addr} {n c : Nat} (e1 : w.cell? ⟨r, 0, none⟩ = some (.bool g)) (e2 : w.cell? ⟨r, 1, none⟩ = some (.slice A n c)) (x y : Value) :
  Rval ((w.setCell ⟨r, 0, none⟩ x).setCell ⟨r, 1, none⟩ y) s z L := by
 obtain ⟨neg, A', n', c', ds, e, hr, t⟩ := h
 refine ⟨neg, A', n', c', ds, e, (hr.setOther (fun u => by rw [e1]; simp) x).setOther (fun u => ?_) y, t⟩
 rw [World.cell?_setCell_other _ _ _ _ (by simp), e2]; simp

/-- A box that may be written, and what it holds. -/
def RBox (w : World) (b : Nat) (z : Int) (L : Nat) : Prop :=
 ∃ g A n c, w.cell? ⟨b, 0, none⟩ = some (.bool g) ∧ w.cell? ⟨b, 1, none⟩ = some (.slice A n c) ∧ w.frozen? ⟨b, 0, none⟩ = false ∧ w.frozen? ⟨b, 1, none⟩ = false ∧ b < w.heap.size ∧ Rval w (.agg #[.bool g, .slice A n c]) z L

theorem RBox.new (w : World) (g : Bool) (A : Option Addr) (n c L : Nat) (z : Int) (h : Rval w (.agg #[.bool g, .slice A n c]) z L) : RBox (w.alloc (.cells #[.bool g, .slice A n c] 34)) w.heap.size z L :=
 ⟨g, A, n, c, (rbox_new (Below.refl _ _)).1, (rbox_new (Below.refl _ _)).2, World.frozen?_alloc_at _ _ _ _ rfl, World.frozen?_alloc_at _ _ _ _ rfl, by simp, h.below (below_alloc _ _)⟩

theorem RBox.below {w w' : World} {b : Nat} {z : Int} {L : Nat} (h : RBox w b z L) (hb : Below w.heap.size w w') : RBox w' b z L := by
 obtain ⟨g, A, n, c, h1, h2, h3, h4, h5, h6⟩ := h
 exact ⟨g, A, n, c, (hb.cell (p := ⟨b, 0, none⟩) h5).trans h1, (hb.cell (p := ⟨b, 1, none⟩) h5).trans h2, (hb.frozen (p := ⟨b, 0, none⟩) h5).trans h3, (hb.frozen (p := ⟨b, 1, none⟩) h5).trans h4, Nat.lt_of_lt_of_le h5 hb.size, h6.below hb⟩

theorem RBox.set {w : World} {b : Nat} {z y : Int} {L M : Nat} (h : RBox w b z L) {g : Bool} {A : Option Addr} {n c : Nat} (hv : Rval w (.agg #[.bool g, .slice A n c]) y M) :
  ((w.setCell ⟨b, 0, none⟩ (.bool g)).setCell ⟨b, 1, none⟩ (.slice A n c)).cell? ⟨b, 0, none⟩ = some (.bool g) ∧ ((w.setCell ⟨b, 0, none⟩ (.bool g)).setCell ⟨b, 1, none⟩ (.slice A n c)).cell? ⟨b, 1, none⟩ = some (.slice A n c) ∧
  Rval ((w.setCell ⟨b, 0, none⟩ (.bool g)).setCell ⟨b, 1, none⟩ (.slice A n c)) (.agg #[.bool g, .slice A n c]) y M ∧ RBox ((w.setCell ⟨b, 0, none⟩ (.bool g)).setCell ⟨b, 1, none⟩ (.slice A n c)) b y M := by
 obtain ⟨g0, A0, n0, c0, h1, h2, h3, h4, h5, h6⟩ := h
 have e1 : ((w.setCell ⟨b, 0, none⟩ (.bool g)).setCell ⟨b, 1, none⟩ (.slice A n c)).cell? ⟨b, 0, none⟩ = some (.bool g) := by
  rw [World.cell?_setCell_other _ _ _ _ (by simp)]; exact World.cell?_setCell_same _ _ _ h1
 have e2 : ((w.setCell ⟨b, 0, none⟩ (.bool g)).setCell ⟨b, 1, none⟩ (.slice A n c)).cell? ⟨b, 1, none⟩ = some (.slice A n c) :=
  World.cell?_setCell_same _ _ _ ((World.cell?_setCell_other _ _ _ _ (by simp)).trans h2)
 exact ⟨e1, e2, hv.restored h1 h2 _ _, g, A, n, c, e1, e2, by simpa using h3, by simpa using h4, by simpa using h5, hv.restored h1 h2 _ _⟩

end Go.Proofs.YtbajnceoolkckaaGreat
/- Power, both sides, at every exponent that the law of powers lets by. -/
namespace Go.Proofs.YtbajnceoolkckaaGreat
open Go.RowKit LM

theorem IsLen.le {z : Int} {k N : Nat} (h : IsLen z k) (hz : z < 2 ^ N) : k ≤ N := by
 rcases h with ⟨_, rfl⟩ | ⟨h1, h2, _⟩
 ·exact Nat.zero_le _
 ·have := two_lt (show (2 : Int) ^ (k - 1) < 2 ^ N by omega)
  omega

end Go.Proofs.YtbajnceoolkckaaGreat
/- The reference's Abs. -/
namespace Go.Proofs.YtbajnceoolkckaaGreat
open Go.RowKit LM

theorem Rval.abs {w : World} {g : Bool} {A : Option Addr} {n c : Nat} {x : Int} {L : Nat} (h : Rval w (.agg #[.bool g, .slice A n c]) x L) : Rval w (.agg #[.bool false, .slice A n c]) (if x < 0 then -x else x) L := by
 obtain ⟨neg, A', n', c', ds, e, hr, hd, ht, hz, hp, hn⟩ := h
 simp only [Value.agg.injEq] at e
 injection e with e
 simp only [List.cons.injEq, Value.bool.injEq, Value.slice.injEq, and_true] at e
 obtain ⟨rfl, rfl, rfl, rfl⟩ := e
 refine ⟨false, A, n, c, ds, rfl, hr, hd, ht, ?_, (fun h => by cases h), hn⟩
 have h0 := valR_nonneg (by decide) hd
 rw [hz]
 cases g <;> simp [withSign] <;> omega

set_option maxHeartbeats 1000000 in
theorem rabs_any (u : Value) (x : Int) (L : Nat) (w : World) (h : Rval w u x L) :
  Calls Tryz.prog 29 #[u] w fun e w' => (∃ ng A2 n2 c2, e = .returned (.agg #[.bool ng, .slice A2 n2 c2]) ∧ Rval w' (.agg #[.bool ng, .slice A2 n2 c2]) (if x < 0 then -x else x) L) ∧ Below w.heap.size w w' := by
 obtain ⟨p, A, n, c, rfl⟩ := h.form
 have hW := below_two w (.cells #[.bool p, .slice A n c] 34) (.cells #[.bool false, .slice none 0 0] 34)
 have hA := h.abs
 obtain ⟨y, hy⟩ : ∃ y, (if x < 0 then -x else x) = y := ⟨_, rfl⟩
 rw [hy] at hA ⊢
 have HA := Lib.hid hA

 clear h hy hA
 go_enter Tryz.func29, Tryz.ntmps29
 go_wp2
 refine bodyPost_ret (v := .agg #[.bool false, .slice A n c]) (by simp [results, Tryz.results29, go_sem]) rfl ⟨⟨_, _, _, _, rfl, HA.out.below (below_two _ _ _)⟩, below_two _ _ _⟩

end Go.Proofs.YtbajnceoolkckaaGreat
