/- Text. -/
import Derived.Test.YtoanomgdkkbbmaaReverse
import Derived.Laws.BytesArg
namespace Go.Proofs.Ytoanomgdkkbbmaa
open Go.RowKit LM

theorem Text_bad (u : Value) (x R : Int) (L : Nat) (w : World) (h : Ival w u x L) (hR : R < 2 ∨ 36 < R) :
    Calls Try.prog 60 #[u, .int .i64 R] w fun e w' => e = .returned (.tuple #[.string ⟨#[]⟩, .int .i64 1]) ∧ Below w.heap.size w w' := by
  obtain ⟨p, A, n, c, rfl⟩ := h.form
  clear h
  by_cases hR2 : R < 2
  · go_enter Try.func60, Try.ntmps60
    go_wp2
    go_ret2
    exact ⟨rfl, below_alloc _ _⟩
  · have hR3 : 36 < R := by omega
    clear hR
    go_enter Try.func60, Try.ntmps60
    go_wp2
    go_ret2
    exact ⟨rfl, below_alloc _ _⟩

theorem Text_zero (u : Value) (R : Int) (L : Nat) (w : World) (h : Ival w u 0 L) (hR : 2 ≤ R) (hR2 : R ≤ 36) :
    Calls Try.prog 60 #[u, .int .i64 R] w fun e w' => e = .returned (.tuple #[.string ⟨#[48]⟩, .int .i64 0]) ∧ Below w.heap.size w w' := by
  obtain ⟨p, A, n, c, rfl⟩ := h.form
  have HH := Lib.hid h
  have hW := below_alloc w (.cells #[.bool p, .slice A n c] 28)
  have hs : cmpI 0 0 = 0 := cmpI_eq rfl
  have HS := Lib.hid hs
  clear h hs
  go_enter Try.func60, Try.ntmps60
  go_wp2_with fail
  refine (sign_int _ 0 L _ (HH.out.below hW)).mono ?_
  rintro e w1 ⟨rfl, hb1⟩
  rw [HS.out]
  go_wp2
  go_ret2
  exact ⟨rfl, hW.trans (hb1.mono (by simp))⟩

/-- Bytes as a string. -/
def strOf (xs : List Int) : ByteArray := ⟨(xs.map fun n => UInt8.ofNat n.toNat).toArray⟩

theorem OwnB.string {w : World} {base g n c : Nat} {xs : List Int} (h : OwnB w base g n c xs) : (convert 126 9 (.slice (some ⟨g, 0, none⟩) n c)).run Try.prog w = .ok (.string (strOf xs)) w := by
  have hl := h.length
  rw [run_convert_bytes_string w 126 9 5 _ n c Try.underlying126 Try.underlying5 Try.underlying9]
  have hc : (loadCells (⟨g, 0, none⟩ : Addr) n).run Try.prog w = .ok (xs.map (Value.int .u8)).toArray w := by
    have := run_loadCells_list (P := Try.prog) (w := w) ⟨g, 0, none⟩ (xs.map (Value.int .u8)) (fun j v hj => by
      have hlt : j < n := by have := (List.getElem?_eq_some_iff.1 hj).1; simpa [hl] using this
      rw [Addr.add_lit, Nat.zero_add, h.cell hlt, ← hj]
      simp [List.getD, hl, hlt])
    rw [List.length_map, hl] at this
    exact this
  rw [run_bytesToString w _ n c xs hc, foldl_push_bytes]
  have e : (ByteArray.empty.data ++ (xs.map fun n => UInt8.ofNat n.toNat).toArray) = (xs.map fun n => UInt8.ofNat n.toNat).toArray := Array.empty_append
  rw [e]; rfl

theorem OwnB.take {w : World} {base g n c : Nat} {xs : List Int} (h : OwnB w base g n c xs) {m : Nat} (hm : m ≤ n) : OwnB w base g m c (xs.take m) := by
  have hl := h.length
  rcases h.2 with ⟨h', _⟩ | ⟨g', cap, cur, h', hb, hh, hnc, hcm, hcs, htake⟩
  · simp at h'
  · refine ⟨by simp [hl]; omega, .inr ⟨g', cap, cur, ?_, hb, hh, by omega, hcm, hcs, ?_⟩⟩
    · simp only [Value.slice.injEq, Option.some.injEq, Addr.mk.injEq, and_true, true_and] at h' ⊢
      exact h'
    · rw [List.map_take, ← htake, Nat.mul_one, Nat.mul_one, List.take_take, Nat.min_eq_left hm]

/-- The digits of a number that is not 0, the lowest first. -/
def DigitsOf (R z : Int) (ds : List Int) : Prop := DigR R ds ∧ valR R ds = z ∧ ds ≠ [] ∧ ds.getLastD 0 ≠ 0

/-- The bytes of the text. -/
def textBytes (neg : Bool) (ds : List Int) : List Int := (if neg then [45] else []) ++ (ds.map nameOf).reverse

theorem valR_take_last (R : Int) (ds : List Int) (n : Nat) (hn : n < ds.length) (h : ds.getD n 0 = 0) : valR R (ds.take (n + 1)) = valR R (ds.take n) := by
  rw [take_snoc ds n hn, valR_append, h]; simp [valR]

set_option maxRecDepth 100000 in
set_option maxHeartbeats 1000000 in
theorem Text_some (u : Value) (x R : Int) (L : Nat) (w : World) (h : Ival w u x L) (hL : L ≤ 1048576) (hR : 2 ≤ R) (hR2 : R ≤ 36) (hx : x ≠ 0) :
    Calls Try.prog 60 #[u, .int .i64 R] w fun e w' => (∃ ds, DigitsOf R (if x < 0 then -x else x) ds ∧ e = .returned (.tuple #[.string (strOf (textBytes (decide (x < 0)) ds)), .int .i64 0])) ∧ Below w.heap.size w w' := by
  obtain ⟨i0, hi, hz0, hz1, hz2⟩ := info_parts Try.info5
  obtain ⟨p, A, n, c, rfl⟩ := h.form
  obtain ⟨a, ha, ha0, rfl, ha1⟩ := h.parts
  have hap : 0 < a := by cases p <;> simp [withSign] at hx <;> omega
  have hs : (cmpI (withSign p a) 0 == 0) = false := by
    simp only [beq_eq_false_iff_ne]
    rcases Int.lt_or_gt_of_ne hx with h1 | h1
    · rw [cmpI_lt h1]; decide
    · rw [cmpI_gt h1]; decide
  have habs : (if withSign p a < 0 then -withSign p a else withSign p a) = a := by
    cases p <;> simp [withSign] <;> omega
  have hneg : decide (withSign p a < 0) = p := by cases p <;> simp [withSign] <;> omega
  rw [habs, hneg]
  have HA := Lib.hid ha
  have HH := Lib.hid h
  have hW := below_alloc w (.cells #[.bool p, .slice A n c] 28)
  clear ha h ha1 hx habs hneg
  go_enter Try.func60, Try.ntmps60
  go_wp2_with fail
  refine (sign_int _ _ L _ (HH.out.below hW)).mono ?_
  rintro e w1 ⟨rfl, hb1⟩
  have c1 : w1.cell? ⟨w.heap.size, 1, none⟩ = some (.slice A n c) := by
    rw [hb1.cell (by simp), World.cell?_alloc_at _ _ _ _ rfl]; rfl
  have c0 : w1.cell? ⟨w.heap.size, 0, none⟩ = some (.bool p) := by
    rw [hb1.cell (by simp), World.cell?_alloc_at _ _ _ _ rfl]; rfl
  have hW1 : Below w.heap.size w w1 := hW.trans (hb1.mono (by simp))
  have hw1 : w.heap.size < w1.heap.size := by have := hb1.size; simp at this; omega
  go_wp2_with fail
  refine (reversed_any _ a R L _ (HA.out.below hW1) hL hR hR2).mono ?_
  rintro e w2 ⟨⟨v, ds, rfl, hnm, hdr, hvr, hdl⟩, hb2⟩
  have c02 : w2.cell? ⟨w.heap.size, 0, none⟩ = some (.bool p) := (hb2.cell (p := ⟨w.heap.size, 0, none⟩) hw1).trans c0
  clear c0 c1
  have hne : ds ≠ [] := by rintro rfl; simp [valR] at hvr; omega
  obtain ⟨g, cap, rfl⟩ : ∃ g cap, v = .slice (some ⟨g, 0, none⟩) ds.length cap := by
    rcases hnm.2 with ⟨_, h0⟩ | ⟨g, cap, cur, h', _⟩
    · exact absurd (List.eq_nil_of_length_eq_zero h0) hne
    · exact ⟨g, cap, h'⟩
  obtain ⟨N, hN⟩ : ∃ N, ds.length = N := ⟨_, rfl⟩
  have hown : OwnB w2 w1.heap.size g N cap (ds.map nameOf) := by
    unfold OwnB; rw [List.map_map, ← hN]; exact hnm
  rw [hN] at hdl ⊢
  have hcap := hown.cap
  have HO := Lib.hid hown
  have HN := Lib.hid hN
  have HD := Lib.hid (And.intro hdr hvr)
  clear hnm hown hN hdr hvr hne
  go_wp2_with fail
  go_loop [6] (fun s => ∃ m, s = .slice (some ⟨g, 0, none⟩) m cap ∧ m ≤ N ∧ Hid (valR R (ds.take m) = a)) (fun s => lenOf s)
  case atStart => exact ⟨N, rfl, Nat.le_refl _, Lib.hid (by rw [List.take_of_length_le (by rw [HN.out]; exact Nat.le_refl _)]; exact HD.out.2)⟩
  case round =>
    obtain ⟨m, rfl, hm, HM⟩ := hrel
    have hm0 : m ≠ 0 := by
      rintro rfl
      have := HM.out
      simp [valR] at this
      omega
    have hp : (0 : Int) < (m : Int) := by omega
    obtain ⟨d, hd⟩ : ∃ d, ds.getD (m - 1) 0 = d := ⟨_, rfl⟩
    have hmem : 0 ≤ d ∧ d < R := by
      have hlt : m - 1 < ds.length := by rw [HN.out]; omega
      have : d ∈ ds := by rw [← hd]; simp [List.getD, hlt]
      exact HD.out.1 d this
    have hcell : w2.cell? ⟨g, m - 1, none⟩ = some (.int .u8 (nameOf d)) := by
      rw [HO.out.cell (by omega), ← hd]
      have hlt : m - 1 < ds.length := by rw [HN.out]; omega
      simp [List.getD, hlt]
    have HDD := Lib.hid hd
    have q1 : (0 : Int) ≤ (m : Int) - 1 := by omega
    have q2 : (m : Int) - 1 < (m : Int) := by omega
    clear hd
    by_cases hz : d = 0
    · have hz48 : nameOf d = 48 := by subst hz; rfl
      rw [hz48] at hcell
      have HZ := Lib.hid hz
      clear hz hz48
      go_wp2
      refine ⟨⟨m - 1, rfl, by omega, Lib.hid ?_⟩, by simp [lenOf]; omega⟩
      have h1 := valR_take_last R ds (m - 1) (by rw [HN.out]; omega) (by rw [HDD.out, HZ.out])
      rw [show m - 1 + 1 = m from by omega, HM.out] at h1
      exact h1.symm
    · have hz48 : (nameOf d == 48) = false := by unfold nameOf; simp; split <;> omega
      have hot : OwnB w2 w1.heap.size g m cap ((ds.take m).map nameOf) := by
        have := HO.out.take hm
        rw [← List.map_take] at this
        exact this
      have hds : DigitsOf R a (ds.take m) := by
        have hl : (ds.take m).length = m := by rw [List.length_take, HN.out]; omega
        refine ⟨fun x hx => HD.out.1 x (List.mem_of_mem_take hx), HM.out, fun h => ?_, ?_⟩
        · rw [h] at hl; simp at hl; omega
        · have e1 : (ds.take m).getLastD 0 = ds.getD (m - 1) 0 := by
            rw [List.getLastD_eq_getLast?, List.getLast?_eq_getElem?, hl, List.getElem?_take, if_pos (by omega)]; rfl
          rw [e1, HDD.out]; exact hz
      have HOT := Lib.hid hot
      have HDS := Lib.hid hds
      have hbw : Below w.heap.size w w2 := hW1.trans (hb2.mono hW1.size)
      have hgg := hot.lt
      clear hot hds
      cases p with
      | false =>
        go_wp2_with fail
        refine (reverse_any w1.heap.size g m cap _ w2 HOT.out (by omega)).mono ?_
        rintro e w3 ⟨rfl, ho3, hg3⟩
        have hcv := ho3.string
        go_wp2
        go_ret2
        refine ⟨⟨_, HDS.out, ?_⟩, hbw.grown hg3 (by have := hbw.size; omega) (fun k hk => ?_)⟩
        · simp [textBytes]
        · have e : g = k := by simpa using hk
          have := hW1.size
          omega
      | true =>
        go_wp2_with (at_builtin; refine wpList_append_own _ rfl (.tmp 34) (.tmp 35) _ rfl w1.heap.size 5 i0 (.int .u8 0) 1 1 Try.underlying126 hi hz0 hz1 hz2 rfl (by decide) (.slice (some ⟨g, 0, none⟩) m cap) m (((ds.take m).map nameOf).map (Value.int .u8)) rfl (HOT.out.alloc _) ⟨w2.heap.size, 0, none⟩ 1 1 [.int .u8 45] rfl rfl ?c1 ?c2 ?c3 ?c4 ?c5 ?_)
        case c2 => rfl
        case c3 => unfold maxLen; omega
        case c4 => omega
        case c5 => have := hb2.size; simp; omega
        intro v' w3 hown3 hg3 _
        obtain ⟨g3, cap3, rfl⟩ : ∃ g3 cap3, v' = .slice (some ⟨g3, 0, none⟩) (m + 1) cap3 := by
          rcases hown3.2 with ⟨_, h0⟩ | ⟨g3, cap3, cur, h', _⟩
          · omega
          · exact ⟨g3, cap3, h'⟩
        have ho3 : OwnB w3 w1.heap.size g3 (m + 1) cap3 ((ds.take m).map nameOf ++ [45]) := by
          unfold OwnB; simpa [List.map_take] using hown3
        have hW2 := hW1.size
        have hb3 : Below w.heap.size w w3 := (hbw.alloc hbw.size _).grown hg3 (by have := hbw.size; simp; omega) (fun k hk => by have e : g = k := (by simpa [Value.ownBlock] using hk); omega)
        have HO3 := Lib.hid ho3
        clear hown3 hg3 ho3
        go_wp2_with fail
        refine (reverse_any w1.heap.size g3 (m + 1) cap3 _ w3 HO3.out (by omega)).mono ?_
        rintro e w4 ⟨rfl, ho4, hg4⟩
        have hcv := ho4.string
        go_wp2
        go_ret2
        refine ⟨⟨_, HDS.out, ?_⟩, hb3.grown hg4 (by have := hb3.size; omega) (fun k hk => ?_)⟩
        · simp [textBytes]
        · have e : g3 = k := by simpa using hk
          have := HO3.out.lt
          omega

end Go.Proofs.Ytoanomgdkkbbmaa
