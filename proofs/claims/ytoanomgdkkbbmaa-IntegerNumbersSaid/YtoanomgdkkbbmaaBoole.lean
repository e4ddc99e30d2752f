/- Boole. -/
import Derived.Test.YtoanomgdkkbbmaaTable
namespace Go.Proofs.Ytoanomgdkkbbmaa
open Go.RowKit LM

/-- What an operation on the words of two integers comes to. -/
def Booled (op x y : Int) (k : Nat) (z : Int) : Prop :=
  ∃ wx wy os : List Int, wx.length = k ∧ wy.length = k ∧ os.length = k ∧ Dig wx ∧ Dig wy ∧ Dig os ∧ val wx = x % BB ^ k ∧ val wy = y % BB ^ k ∧ (∀ i, i < k → Comb op (wx.getD i 0) (wy.getD i 0) (os.getD i 0)) ∧
    z = if 2147483648 ≤ os.getD (k - 1) 0 then val os - BB ^ k else val os

/-- The first i words are combined. -/
def BoolRel (w wr : World) (base g k : Nat) (op : Int) (wx wy : List Int) (i : Nat) : Prop :=
  i ≤ k ∧ w.grownBy wr (some g) ∧ ∃ os : List Int, os.length = k ∧ Dig os ∧ (∀ t, t < i → Comb op (wx.getD t 0) (wy.getD t 0) (os.getD t 0)) ∧ (∀ t, i ≤ t → os.getD t 0 = wx.getD t 0) ∧ Own wr base g k os

theorem BoolRel.cells {w wr : World} {base g k : Nat} {op : Int} {wx wy : List Int} {i : Nat} (h : BoolRel w wr base g k op wx wy i) (hi : i < k) :
    wr.cell? ⟨g, i, none⟩ = some (.int .u32 (wx.getD i 0)) ∧ wr.frozen? ⟨g, i, none⟩ = false := by
  obtain ⟨_, _, os, hl, _, _, ho, hown⟩ := h
  exact ⟨by rw [hown.cell hi, ho i (Nat.le_refl _)], hown.frozen i⟩

theorem BoolRel.step {w wr : World} {base g k : Nat} {op : Int} {wx wy : List Int} {i : Nat} {c : Int} (h : BoolRel w wr base g k op wx wy i) (hi : i < k) (hc : Comb op (wx.getD i 0) (wy.getD i 0) c) :
    BoolRel w (wr.setCell ⟨g, i, none⟩ (.int .u32 c)) base g k op wx wy (i + 1) := by
  obtain ⟨_, hg, os, hl, hd, h1, h2, hown⟩ := h
  refine ⟨hi, ⟨hg.os, hg.tape, hg.output, by simpa [World.setCell] using hg.size, fun b hb hne => (Below.heap_setCell _ _ _ _ (fun e => hne (by rw [e]))).trans (hg.block b hb hne)⟩, os.set i c, by simpa using hl, hd.set i hc.1.1 hc.1.2, fun t ht => ?_, fun t ht => ?_, hown.set i c⟩
  · by_cases e : t = i
    · subst e
      have : (os.set t c).getD t 0 = c := by simp [List.getD, hl, hi]
      rw [this]; exact hc
    · have : (os.set i c).getD t 0 = os.getD t 0 := by simp [List.getD, Ne.symm e]
      rw [this]; exact h1 t (by omega)
  · have : (os.set i c).getD t 0 = os.getD t 0 := by simp [List.getD, show ¬ i = t by omega]
    rw [this]; exact h2 t (by omega)

theorem own_base {w : World} {base base' g n : Nat} {xs : List Int} (h : Own w base g n xs) (hb : base' ≤ base) : Own w base' g n xs := by
  obtain ⟨h1, h2⟩ := h
  refine ⟨h1, ?_⟩
  rcases h2 with h2 | ⟨g', cap, cur, hv, hg, r⟩
  · exact .inl h2
  · exact .inr ⟨g', cap, cur, hv, by omega, r⟩

theorem words_int (p : Bool) (A : Option Addr) (n c m : Nat) (M : Int) (hM : M = (m : Int)) (a : Int) (w : World) (ha : ∃ xs, Row .u32 w A n c xs ∧ Dig xs ∧ val xs = a) (hnm : n ≤ m) (hm : m ≤ 1048577) (hm0 : m ≠ 0) :
    Calls Try.prog 98 #[.agg #[.bool p, .slice A n c], .int .i64 M] w fun e w' => (∃ g ys, e = .returned (.slice (some ⟨g, 0, none⟩) m m) ∧ Own w' w.heap.size g m ys ∧ Dig ys ∧ val ys = withSign p a % BB ^ m) ∧ Below w.heap.size w w' := by
  subst hM
  exact words_any p A n c m a w ha hnm hm hm0

theorem row_below {w w' : World} {A : Option Addr} {n c : Nat} {a : Int} (h : ∃ xs, Row .u32 w A n c xs ∧ Dig xs ∧ val xs = a) (hb : Below w.heap.size w w') : ∃ xs, Row .u32 w' A n c xs ∧ Dig xs ∧ val xs = a := by
  obtain ⟨xs, h1, h2⟩ := h
  exact ⟨xs, h1.below hb, h2⟩

set_option maxRecDepth 100000 in
set_option maxHeartbeats 1000000 in
theorem Boole_lt (p q : Bool) (A B : Option Addr) (n c m d : Nat) (a b op : Int) (w : World) (ha : ∃ xs, Row .u32 w A n c xs ∧ Dig xs ∧ val xs = a) (hb : ∃ ys, Row .u32 w B m d ys ∧ Dig ys ∧ val ys = b) (hn : n ≤ 1048576) (hm : m ≤ 1048576) (h0 : 0 ≤ op) (h1 : op ≤ 15) (hle : n < m) :
    Calls Try.prog 51 #[.agg #[.bool p, .slice A n c], .int .i64 op, .agg #[.bool q, .slice B m d]] w fun e w' => (∃ z ng A2 n2 c2, e = .returned (.tuple #[.agg #[.bool ng, .slice A2 n2 c2], .int .i64 0]) ∧ Ival w' (.agg #[.bool ng, .slice A2 n2 c2]) z (m + 1) ∧ Booled op (withSign p a) (withSign q b) (m + 1) z) ∧ Below w.heap.size w w' := by
  have hW := below_boxed2 w (.cells #[.bool p, .slice A n c] 28) (.cells #[.bool q, .slice B m d] 28) (.cells #[.bool false, .slice none 0 0] 28)
  have HA := Lib.hid ha
  have HB := Lib.hid hb
  clear ha hb
  go_enter Try.func51, Try.ntmps51
  go_wp2_with fail
  refine (table_any op _ h0 h1).mono ?_
  rintro e w4 ⟨rfl, rfl⟩
  have hb4 := (Below.refl (w.heap.size + 3) (((w.alloc (.cells #[.bool p, .slice A n c] 28)).alloc (.cells #[.bool q, .slice B m d] 28)).alloc (.cells #[.bool false, .slice none 0 0] 28))).alloc (by simp) (.cells #[.int .u32 (maskOf op 0), .int .u32 (maskOf op 1), .int .u32 (maskOf op 2), .int .u32 (maskOf op 3)] 145)
  have hW4 := hW.trans (hb4.mono (by omega))
  go_wp2_with fail
  refine (words_int p A n c (m + 1) _ (by omega) a _ (row_below HA.out hW4) (by omega) (by omega) (by omega)).mono ?_
  rintro e w5 ⟨⟨g1, wx, rfl, hox, hdx, hvx⟩, hb5⟩
  have hb5' := hb5.mono (B' := w.heap.size + 4) (by simp)
  have hb5s := hb5.size
  simp at hb5s
  have hW5 := hW4.trans (hb5'.mono (by omega))
  have hg1 := hox.lt
  simp at hg1
  have t0 : w5.cell? ⟨w.heap.size + 1 + 1 + 1, 0, none⟩ = some (.int .u32 (maskOf op 0)) := by rw [hb5'.cell (by simp), World.cell?_alloc_at _ _ _ _ (by simp)]; rfl
  have t1 : w5.cell? ⟨w.heap.size + 1 + 1 + 1, 1, none⟩ = some (.int .u32 (maskOf op 1)) := by rw [hb5'.cell (by simp), World.cell?_alloc_at _ _ _ _ (by simp)]; rfl
  have t2 : w5.cell? ⟨w.heap.size + 1 + 1 + 1, 2, none⟩ = some (.int .u32 (maskOf op 2)) := by rw [hb5'.cell (by simp), World.cell?_alloc_at _ _ _ _ (by simp)]; rfl
  have t3 : w5.cell? ⟨w.heap.size + 1 + 1 + 1, 3, none⟩ = some (.int .u32 (maskOf op 3)) := by rw [hb5'.cell (by simp), World.cell?_alloc_at _ _ _ _ (by simp)]; rfl
  have y0 : w5.cell? ⟨w.heap.size + 1, 0, none⟩ = some (.bool q) := (boxes2 (hb4.trans (hb5'.mono (by omega)) |>.mono (by omega))).2.2.1
  have y1 : w5.cell? ⟨w.heap.size + 1, 1, none⟩ = some (.slice B m d) := (boxes2 (hb4.trans (hb5'.mono (by omega)) |>.mono (by omega))).2.2.2.1
  have HOX := Lib.hid hox
  have HVX := Lib.hid hvx
  have HT := Lib.hid (And.intro t0 (And.intro t1 (And.intro t2 t3)))
  clear hox hvx t0 t1 t2 t3
  go_wp2_with fail
  refine (words_int q B m d (m + 1) _ (by omega) b _ (row_below HB.out hW5) (by omega) (by omega) (by omega)).mono ?_
  rintro e w6 ⟨⟨g2, wy, rfl, hoy, hdy, hvy⟩, hb6⟩
  have hg2 := hoy.lt
  have hox6 := HOX.out.below hb6
  have HOX6 := Lib.hid hox6
  have HOY := Lib.hid hoy
  have HVY := Lib.hid hvy
  clear hoy hvy hox6 y0 y1
  go_wp2_with fail
  go_loopw [37] (fun iv wr => ∃ i : Nat, iv = .int .i64 i ∧ BoolRel w6 wr (w.heap.size + 4) g1 (m + 1) op wx wy i) (fun iv _ => m + 1 - (intOf iv).toNat)
  case atStart => exact ⟨0, rfl, Nat.zero_le _, World.grownBy.refl _ _, wx, HOX6.out.length, hdx, fun t ht => absurd ht (by omega), fun t _ => rfl, own_base HOX6.out (by simp)⟩
  case round =>
    obtain ⟨i, rfl, hrel⟩ := hrel
    have HR := Lib.hid hrel
    obtain ⟨hik, hgr, -⟩ := hrel
    by_cases hlt : i < m + 1
    · obtain ⟨cx, fx⟩ := HR.out.cells hlt
      obtain ⟨x, ex⟩ : ∃ x, wx.getD i 0 = x := ⟨_, rfl⟩
      obtain ⟨y, ey⟩ : ∃ y, wy.getD i 0 = y := ⟨_, rfl⟩
      rw [ex] at cx
      have bx := hdx.getD i
      have by' := hdy.getD i
      rw [ex, BB_def] at bx
      rw [ey, BB_def] at by'
      have hne : ∀ k, k < w6.heap.size → k ≠ g1 → wr.heap[k]? = w6.heap[k]? := fun k hk hkg => hgr.block k hk (by simpa using hkg)
      have cy : wr.cell? ⟨g2, i, none⟩ = some (.int .u32 y) := by
        rw [World.cell?_of_block (w := w6) (hne g2 hg2.2 (by omega)), ← ey]; exact HOY.out.cell hlt
      have tt : ∀ j, wr.cell? ⟨w.heap.size + 1 + 1 + 1, j, none⟩ = w5.cell? ⟨w.heap.size + 1 + 1 + 1, j, none⟩ := fun j => by
        rw [World.cell?_of_block (w := w6) (hne (w.heap.size + 1 + 1 + 1) (by omega) (by omega))]
        exact hb6.cell (p := ⟨w.heap.size + 1 + 1 + 1, j, none⟩) (by show w.heap.size + 1 + 1 + 1 < w5.heap.size; omega)
      have EX := Lib.hid ex
      have EY := Lib.hid ey
      have TT := Lib.hid tt
      clear ex ey tt hne
      go_wp2_with (go_at_call 128; refine (table1_any op x y (w.heap.size + 1 + 1 + 1) _ bx by' ((TT.out 0).trans HT.out.1) ((TT.out 1).trans HT.out.2.1) ((TT.out 2).trans HT.out.2.2.1) ((TT.out 3).trans HT.out.2.2.2)).mono ?_; rintro e w' ⟨⟨z, rfl, hz⟩, rfl⟩; have HZ := Lib.hid hz; clear hz)
      exact ⟨⟨i + 1, by go_num, HR.out.step hlt (by rw [EX.out, EY.out]; exact HZ.out)⟩, by simp [intOf]; omega⟩
    · obtain rfl : i = m + 1 := by omega
      go_wp2_with fail
      obtain ⟨_, _, os, hol, hod, hoc, _, hown⟩ := HR.out
      have HOC := Lib.hid hoc
      have HOL := Lib.hid hol
      clear hoc hol
      refine (fromWords_any (w.heap.size + 4) g1 (m + 1) os wr hown hod (by omega) (by omega) (by have := hgr.size; omega)).mono ?_
      rintro e w7 ⟨ng, A2, n2, c2, rfl, hv, hb7⟩
      have h6s := hb6.size
      have hgs := hgr.size
      have hB5 := hb4.trans (hb5'.mono (B' := w.heap.size + 3) (by omega))
      have hB6 := hB5.trans (hb6.mono (B' := w.heap.size + 3) (by omega))
      have hBr := hB6.grown hgr (by omega) (fun k hk => by have e : g1 = k := (by simpa using hk); omega)
      have hB7 := hBr.trans (hb7.mono (B' := w.heap.size + 3) (by omega))
      obtain ⟨e1, e2, f1, f2⟩ := room2 hB7
      have hfin : Booled op (withSign p a) (withSign q b) (m + 1) (if 2147483648 ≤ os.getD (m + 1 - 1) 0 then val os - BB ^ (m + 1) else val os) :=
        ⟨wx, wy, os, HOX6.out.length, HOY.out.length, HOL.out, hdx, hdy, hod, HVX.out, HVY.out, HOC.out, rfl⟩
      have HF := Lib.hid hfin
      have HV := Lib.hid hv
      clear hfin hv
      go_wp2
      refine bodyPost_ret (v := .tuple #[.agg #[.bool ng, .slice A2 n2 c2], .int .i64 0]) (by simp [results, Try.results51, go_sem, e1, e2]) rfl ⟨⟨_, _, _, _, _, rfl, HV.out.stored e1 e2 _ _, HF.out⟩, ?_⟩
      exact ((hW.trans (hB7.mono (by omega))).setCell (by show _ ≤ _; simp; omega) _).setCell (by show _ ≤ _; simp; omega) _

set_option maxRecDepth 100000 in
set_option maxHeartbeats 1000000 in
theorem Boole_ge (p q : Bool) (A B : Option Addr) (n c m d : Nat) (a b op : Int) (w : World) (ha : ∃ xs, Row .u32 w A n c xs ∧ Dig xs ∧ val xs = a) (hb : ∃ ys, Row .u32 w B m d ys ∧ Dig ys ∧ val ys = b) (hn : n ≤ 1048576) (hm : m ≤ 1048576) (h0 : 0 ≤ op) (h1 : op ≤ 15) (hle : m ≤ n) :
    Calls Try.prog 51 #[.agg #[.bool p, .slice A n c], .int .i64 op, .agg #[.bool q, .slice B m d]] w fun e w' => (∃ z ng A2 n2 c2, e = .returned (.tuple #[.agg #[.bool ng, .slice A2 n2 c2], .int .i64 0]) ∧ Ival w' (.agg #[.bool ng, .slice A2 n2 c2]) z (n + 1) ∧ Booled op (withSign p a) (withSign q b) (n + 1) z) ∧ Below w.heap.size w w' := by
  have hW := below_boxed2 w (.cells #[.bool p, .slice A n c] 28) (.cells #[.bool q, .slice B m d] 28) (.cells #[.bool false, .slice none 0 0] 28)
  have HA := Lib.hid ha
  have HB := Lib.hid hb
  clear ha hb
  go_enter Try.func51, Try.ntmps51
  go_wp2_with fail
  refine (table_any op _ h0 h1).mono ?_
  rintro e w4 ⟨rfl, rfl⟩
  have hb4 := (Below.refl (w.heap.size + 3) (((w.alloc (.cells #[.bool p, .slice A n c] 28)).alloc (.cells #[.bool q, .slice B m d] 28)).alloc (.cells #[.bool false, .slice none 0 0] 28))).alloc (by simp) (.cells #[.int .u32 (maskOf op 0), .int .u32 (maskOf op 1), .int .u32 (maskOf op 2), .int .u32 (maskOf op 3)] 145)
  have hW4 := hW.trans (hb4.mono (by omega))
  go_wp2_with fail
  refine (words_int p A n c (n + 1) _ (by omega) a _ (row_below HA.out hW4) (by omega) (by omega) (by omega)).mono ?_
  rintro e w5 ⟨⟨g1, wx, rfl, hox, hdx, hvx⟩, hb5⟩
  have hb5' := hb5.mono (B' := w.heap.size + 4) (by simp)
  have hb5s := hb5.size
  simp at hb5s
  have hW5 := hW4.trans (hb5'.mono (by omega))
  have hg1 := hox.lt
  simp at hg1
  have t0 : w5.cell? ⟨w.heap.size + 1 + 1 + 1, 0, none⟩ = some (.int .u32 (maskOf op 0)) := by rw [hb5'.cell (by simp), World.cell?_alloc_at _ _ _ _ (by simp)]; rfl
  have t1 : w5.cell? ⟨w.heap.size + 1 + 1 + 1, 1, none⟩ = some (.int .u32 (maskOf op 1)) := by rw [hb5'.cell (by simp), World.cell?_alloc_at _ _ _ _ (by simp)]; rfl
  have t2 : w5.cell? ⟨w.heap.size + 1 + 1 + 1, 2, none⟩ = some (.int .u32 (maskOf op 2)) := by rw [hb5'.cell (by simp), World.cell?_alloc_at _ _ _ _ (by simp)]; rfl
  have t3 : w5.cell? ⟨w.heap.size + 1 + 1 + 1, 3, none⟩ = some (.int .u32 (maskOf op 3)) := by rw [hb5'.cell (by simp), World.cell?_alloc_at _ _ _ _ (by simp)]; rfl
  have y0 : w5.cell? ⟨w.heap.size + 1, 0, none⟩ = some (.bool q) := (boxes2 (hb4.trans (hb5'.mono (by omega)) |>.mono (by omega))).2.2.1
  have y1 : w5.cell? ⟨w.heap.size + 1, 1, none⟩ = some (.slice B m d) := (boxes2 (hb4.trans (hb5'.mono (by omega)) |>.mono (by omega))).2.2.2.1
  have HOX := Lib.hid hox
  have HVX := Lib.hid hvx
  have HT := Lib.hid (And.intro t0 (And.intro t1 (And.intro t2 t3)))
  clear hox hvx t0 t1 t2 t3
  go_wp2_with fail
  refine (words_int q B m d (n + 1) _ (by omega) b _ (row_below HB.out hW5) (by omega) (by omega) (by omega)).mono ?_
  rintro e w6 ⟨⟨g2, wy, rfl, hoy, hdy, hvy⟩, hb6⟩
  have hg2 := hoy.lt
  have hox6 := HOX.out.below hb6
  have HOX6 := Lib.hid hox6
  have HOY := Lib.hid hoy
  have HVY := Lib.hid hvy
  clear hoy hvy hox6 y0 y1
  go_wp2_with fail
  go_loopw [37] (fun iv wr => ∃ i : Nat, iv = .int .i64 i ∧ BoolRel w6 wr (w.heap.size + 4) g1 (n + 1) op wx wy i) (fun iv _ => n + 1 - (intOf iv).toNat)
  case atStart => exact ⟨0, rfl, Nat.zero_le _, World.grownBy.refl _ _, wx, HOX6.out.length, hdx, fun t ht => absurd ht (by omega), fun t _ => rfl, own_base HOX6.out (by simp)⟩
  case round =>
    obtain ⟨i, rfl, hrel⟩ := hrel
    have HR := Lib.hid hrel
    obtain ⟨hik, hgr, -⟩ := hrel
    by_cases hlt : i < n + 1
    · obtain ⟨cx, fx⟩ := HR.out.cells hlt
      obtain ⟨x, ex⟩ : ∃ x, wx.getD i 0 = x := ⟨_, rfl⟩
      obtain ⟨y, ey⟩ : ∃ y, wy.getD i 0 = y := ⟨_, rfl⟩
      rw [ex] at cx
      have bx := hdx.getD i
      have by' := hdy.getD i
      rw [ex, BB_def] at bx
      rw [ey, BB_def] at by'
      have hne : ∀ k, k < w6.heap.size → k ≠ g1 → wr.heap[k]? = w6.heap[k]? := fun k hk hkg => hgr.block k hk (by simpa using hkg)
      have cy : wr.cell? ⟨g2, i, none⟩ = some (.int .u32 y) := by
        rw [World.cell?_of_block (w := w6) (hne g2 hg2.2 (by omega)), ← ey]; exact HOY.out.cell hlt
      have tt : ∀ j, wr.cell? ⟨w.heap.size + 1 + 1 + 1, j, none⟩ = w5.cell? ⟨w.heap.size + 1 + 1 + 1, j, none⟩ := fun j => by
        rw [World.cell?_of_block (w := w6) (hne (w.heap.size + 1 + 1 + 1) (by omega) (by omega))]
        exact hb6.cell (p := ⟨w.heap.size + 1 + 1 + 1, j, none⟩) (by show w.heap.size + 1 + 1 + 1 < w5.heap.size; omega)
      have EX := Lib.hid ex
      have EY := Lib.hid ey
      have TT := Lib.hid tt
      clear ex ey tt hne
      go_wp2_with (go_at_call 128; refine (table1_any op x y (w.heap.size + 1 + 1 + 1) _ bx by' ((TT.out 0).trans HT.out.1) ((TT.out 1).trans HT.out.2.1) ((TT.out 2).trans HT.out.2.2.1) ((TT.out 3).trans HT.out.2.2.2)).mono ?_; rintro e w' ⟨⟨z, rfl, hz⟩, rfl⟩; have HZ := Lib.hid hz; clear hz)
      exact ⟨⟨i + 1, by go_num, HR.out.step hlt (by rw [EX.out, EY.out]; exact HZ.out)⟩, by simp [intOf]; omega⟩
    · obtain rfl : i = n + 1 := by omega
      go_wp2_with fail
      obtain ⟨_, _, os, hol, hod, hoc, _, hown⟩ := HR.out
      have HOC := Lib.hid hoc
      have HOL := Lib.hid hol
      clear hoc hol
      refine (fromWords_any (w.heap.size + 4) g1 (n + 1) os wr hown hod (by omega) (by omega) (by have := hgr.size; omega)).mono ?_
      rintro e w7 ⟨ng, A2, n2, c2, rfl, hv, hb7⟩
      have h6s := hb6.size
      have hgs := hgr.size
      have hB5 := hb4.trans (hb5'.mono (B' := w.heap.size + 3) (by omega))
      have hB6 := hB5.trans (hb6.mono (B' := w.heap.size + 3) (by omega))
      have hBr := hB6.grown hgr (by omega) (fun k hk => by have e : g1 = k := (by simpa using hk); omega)
      have hB7 := hBr.trans (hb7.mono (B' := w.heap.size + 3) (by omega))
      obtain ⟨e1, e2, f1, f2⟩ := room2 hB7
      have hfin : Booled op (withSign p a) (withSign q b) (n + 1) (if 2147483648 ≤ os.getD (n + 1 - 1) 0 then val os - BB ^ (n + 1) else val os) :=
        ⟨wx, wy, os, HOX6.out.length, HOY.out.length, HOL.out, hdx, hdy, hod, HVX.out, HVY.out, HOC.out, rfl⟩
      have HF := Lib.hid hfin
      have HV := Lib.hid hv
      clear hfin hv
      go_wp2
      refine bodyPost_ret (v := .tuple #[.agg #[.bool ng, .slice A2 n2 c2], .int .i64 0]) (by simp [results, Try.results51, go_sem, e1, e2]) rfl ⟨⟨_, _, _, _, _, rfl, HV.out.stored e1 e2 _ _, HF.out⟩, ?_⟩
      exact ((hW.trans (hB7.mono (by omega))).setCell (by show _ ≤ _; simp; omega) _).setCell (by show _ ≤ _; simp; omega) _

theorem Boole_any (p q : Bool) (A B : Option Addr) (n c m d : Nat) (a b op : Int) (w : World) (ha : ∃ xs, Row .u32 w A n c xs ∧ Dig xs ∧ val xs = a) (hb : ∃ ys, Row .u32 w B m d ys ∧ Dig ys ∧ val ys = b) (hn : n ≤ 1048576) (hm : m ≤ 1048576) (h0 : 0 ≤ op) (h1 : op ≤ 15) :
    Calls Try.prog 51 #[.agg #[.bool p, .slice A n c], .int .i64 op, .agg #[.bool q, .slice B m d]] w fun e w' => (∃ z ng A2 n2 c2, e = .returned (.tuple #[.agg #[.bool ng, .slice A2 n2 c2], .int .i64 0]) ∧ Ival w' (.agg #[.bool ng, .slice A2 n2 c2]) z (max n m + 1) ∧ Booled op (withSign p a) (withSign q b) (max n m + 1) z) ∧ Below w.heap.size w w' := by
  rcases Nat.lt_or_ge n m with h | h
  · rw [Nat.max_eq_right (by omega)]; exact Boole_lt p q A B n c m d a b op w ha hb hn hm h0 h1 h
  · rw [Nat.max_eq_left h]; exact Boole_ge p q A B n c m d a b op w ha hb hn hm h0 h1 h

end Go.Proofs.Ytoanomgdkkbbmaa
