/- Of: the program's and the reference's integer of one argument. -/
import Derived.Test.YtoanomgdkkbbmaaRefMake
import Derived.Test.YtoanomgdkkbbmaaIs
import Derived.Test.YtoanomgdkkbbmaaMade
import Derived.Test.YtoanomgdkkbbmaaDivide
namespace Go.Proofs.Ytoanomgdkkbbmaa
open Go.RowKit LM

/-- The argument in a box, rooms for two results behind it. -/
theorem of_boxes {w w' : World} {u : Value} {p : Bool} (h : Below (w.heap.size + 1) (((w.alloc (.cells #[.bool p, u] 24)).alloc (.cells #[.bool false, .slice none 0 0] 28)).alloc (.cells #[.bool false, .slice none 0 0] 31)) w') :
    w'.cell? ⟨w.heap.size, 0, none⟩ = some (.bool p) ∧ w'.cell? ⟨w.heap.size, 1, none⟩ = some u ∧ Below (w.heap.size + 1) (((w.alloc (.cells #[.bool p, u] 24)).alloc (.cells #[.bool false, .slice none 0 0] 28)).alloc (.cells #[.bool false, .slice none 0 0] 31)) w' := by
  refine ⟨?_, ?_, h⟩
  · rw [h.cell (by simp), World.cell?_alloc_past _ _ _ (by simp; omega), World.cell?_alloc_past _ _ _ (by simp), World.cell?_alloc_at _ _ _ _ rfl]; rfl
  · rw [h.cell (by simp), World.cell?_alloc_past _ _ _ (by simp; omega), World.cell?_alloc_past _ _ _ (by simp), World.cell?_alloc_at _ _ _ _ rfl]; rfl

theorem of_rooms {w w' : World} {x : Obj} (h : Below (w.heap.size + 3) (((w.alloc x).alloc (.cells #[.bool false, .slice none 0 0] 28)).alloc (.cells #[.bool false, .slice none 0 0] 31)) w') :
    (w'.cell? ⟨w.heap.size + 1, 0, none⟩ = some (.bool false) ∧ w'.cell? ⟨w.heap.size + 1, 1, none⟩ = some (.slice none 0 0) ∧ w'.frozen? ⟨w.heap.size + 1, 0, none⟩ = false ∧ w'.frozen? ⟨w.heap.size + 1, 1, none⟩ = false) ∧
    w'.cell? ⟨w.heap.size + 1 + 1, 0, none⟩ = some (.bool false) ∧ w'.cell? ⟨w.heap.size + 1 + 1, 1, none⟩ = some (.slice none 0 0) ∧ w'.frozen? ⟨w.heap.size + 1 + 1, 0, none⟩ = false ∧ w'.frozen? ⟨w.heap.size + 1 + 1, 1, none⟩ = false := by
  refine ⟨⟨?_, ?_, ?_, ?_⟩, ?_, ?_, ?_, ?_⟩
  · rw [h.cell (by simp), World.cell?_alloc_past _ _ _ (by simp), World.cell?_alloc_at _ _ _ _ (by simp)]; rfl
  · rw [h.cell (by simp), World.cell?_alloc_past _ _ _ (by simp), World.cell?_alloc_at _ _ _ _ (by simp)]; rfl
  · rw [h.frozen (by simp), World.frozen?_alloc_past _ _ _ (by simp)]; exact World.frozen?_alloc_at _ _ _ _ (by simp)
  · rw [h.frozen (by simp), World.frozen?_alloc_past _ _ _ (by simp)]; exact World.frozen?_alloc_at _ _ _ _ (by simp)
  · rw [h.cell (by simp), World.cell?_alloc_at _ _ _ _ (by simp)]; rfl
  · rw [h.cell (by simp), World.cell?_alloc_at _ _ _ _ (by simp)]; rfl
  · rw [h.frozen (by simp)]; exact World.frozen?_alloc_at _ _ _ _ (by simp)
  · rw [h.frozen (by simp)]; exact World.frozen?_alloc_at _ _ _ _ (by simp)

theorem Rval.stored2 {w : World} {s : Value} {z : Int} {L : Nat} (h : Rval w s z L) {r t : Nat} (hrt : r ≠ t) (e1 : w.cell? ⟨r, 0, none⟩ = some (.bool false)) (e2 : w.cell? ⟨r, 1, none⟩ = some (.slice none 0 0))
    (g1 : w.cell? ⟨t, 0, none⟩ = some (.bool false)) (g2 : w.cell? ⟨t, 1, none⟩ = some (.slice none 0 0)) (x y x' y' : Value) :
    Rval ((((w.setCell ⟨r, 0, none⟩ x).setCell ⟨r, 1, none⟩ y).setCell ⟨t, 0, none⟩ x').setCell ⟨t, 1, none⟩ y') s z L := by
  refine (h.stored e1 e2 x y).stored ?_ ?_ x' y'
  · rw [World.cell?_setCell_other _ _ _ _ (by simp <;> omega), World.cell?_setCell_other _ _ _ _ (by simp <;> omega), g1]
  · rw [World.cell?_setCell_other _ _ _ _ (by simp <;> omega), World.cell?_setCell_other _ _ _ _ (by simp <;> omega), g2]

set_option maxRecDepth 100000 in
set_option maxHeartbeats 1000000 in
theorem of_any (p : Bool) (A : Option Addr) (n c : Nat) (xs : List Int) (w : World) (h : Row .u32 w A n c xs) (hn : n ≤ 1048576) (hd : Dig xs) :
    Calls Try.prog 16 #[.agg #[.bool p, .slice A n c]] w fun e w' => ∃ g1 A1 n1 c1 g2 A2 n2 c2, e = .returned (.tuple #[.agg #[.bool g1, .slice A1 n1 c1], .agg #[.bool g2, .slice A2 n2 c2]]) ∧
      Ival w' (.agg #[.bool g1, .slice A1 n1 c1]) (withSign p (val xs)) n ∧ Rval w' (.agg #[.bool g2, .slice A2 n2 c2]) (withSign p (val xs)) (2 * n) ∧ Below w.heap.size w w' := by
  have hW : Below w.heap.size w (((w.alloc (.cells #[.bool p, .slice A n c] 24)).alloc (.cells #[.bool false, .slice none 0 0] 28)).alloc (.cells #[.bool false, .slice none 0 0] 31)) := (below_two w _ _).alloc (by simp; omega) _
  have hC0 := (Below.refl (w.heap.size + 1) (((w.alloc (.cells #[.bool p, .slice A n c] 24)).alloc (.cells #[.bool false, .slice none 0 0] 28)).alloc (.cells #[.bool false, .slice none 0 0] 31))).drew
  have hD0 := (Below.refl (w.heap.size + 3) (((w.alloc (.cells #[.bool p, .slice A n c] 24)).alloc (.cells #[.bool false, .slice none 0 0] 28)).alloc (.cells #[.bool false, .slice none 0 0] 31))).drew
  have HH := Lib.hid h
  have HD := Lib.hid hd
  clear h hd
  have h1 : w.heap.size + 1 ≤ w.heap.size + 1 := Nat.le_refl _
  have h2 : w.heap.size + 1 ≤ w.heap.size + 1 + 1 := Nat.le_succ _
  go_enter Try.func16, Try.ntmps16
  go_wp2_with fail
  go_region_held3 (fun w' => w'.cell? ⟨w.heap.size, 0, none⟩ = some (.bool p) ∧ w'.cell? ⟨w.heap.size, 1, none⟩ = some (.slice A n c) ∧ Below (w.heap.size + 1) (((w.alloc (.cells #[.bool p, .slice A n c] 24)).alloc (.cells #[.bool false, .slice none 0 0] 28)).alloc (.cells #[.bool false, .slice none 0 0] 31)) w')
    (first | (with_reducible exact of_boxes hC2) | (with_reducible exact of_boxes (Below.setCell (Below.setCell hC2 h1 _) h1 _)) | (with_reducible exact of_boxes (Below.setCell (Below.setCell (Below.setCell (Below.setCell hC2 h1 _) h1 _) h2 _) h2 _)) | (with_reducible exact of_boxes hC1) | (with_reducible exact of_boxes hC0))
    (first
      | (go_at_call 69; have hK := hC1; clear hK; refine (rmake_any p A n c xs _ (HH.out.below (hW.trans (hC1.mono (by omega)))) hn HD.out).mono ?_; rintro e w2 ⟨⟨ng2, A2, n2, c2, rfl, hr2⟩, hb2⟩; have hD2 := Below.trans hD1 (hb2.mono (by have := hD1.size; simpa using this)); have hC2 := hD2.mono (B' := w.heap.size + 1) (by omega); have HR2 := Lib.hid hr2; clear hr2; obtain ⟨⟨e1, e2, f1, f2⟩, g1, g2, k1, k2⟩ := of_rooms hD2)
      | (go_at_call 68; refine (make_typed p A n c xs _ (HH.out.below (hW.trans (hC0.mono (by omega)))) (by omega) HD.out).mono ?_; rintro e w1 ⟨ng1, A1, n1, c1, rfl, hv1, _, hb1⟩; have hD1 := Below.trans hD0 (hb1.mono (by simp)); have hC1 := hD1.mono (B' := w.heap.size + 1) (by omega); have HV1 := Lib.hid hv1; clear hv1))
  go_wp2
  have hrt : w.heap.size + 1 ≠ w.heap.size + 1 + 1 := by omega
  refine bodyPost_ret (v := .tuple #[.agg #[.bool ng1, .slice A1 n1 c1], .agg #[.bool ng2, .slice A2 n2 c2]]) (by simp [results, Try.results16, go_sem, e1, e2, g1, g2]) rfl ⟨_, _, _, _, _, _, _, _, rfl, ?_, ?_, ?_⟩
  · exact (HV1.out.below hb2).stored2 hrt e1 e2 g1 g2 _ _ _ _
  · exact HR2.out.stored2 hrt e1 e2 g1 g2 _ _ _ _
  · exact ((((hW.trans (hC2.mono (by omega))).setCell (by show _ ≤ _; simp) _).setCell (by show _ ≤ _; simp) _).setCell (by show _ ≤ _; simp; omega) _).setCell (by show _ ≤ _; simp; omega) _

end Go.Proofs.Ytoanomgdkkbbmaa
