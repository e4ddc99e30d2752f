/- slices.Reverse of bytes. -/
import Derived.Test.YtoanomgdkkbbmaaText
import Derived.BigRegion
namespace Go.Proofs.Ytoanomgdkkbbmaa
open Go.RowKit LM

/-- An array of bytes of the call's own. -/
def OwnB (w : World) (base g n c : Nat) (xs : List Int) : Prop := w.ownsRow base 5 1 (.slice (some ⟨g, 0, none⟩) n c) n (xs.map (Value.int .u8))

theorem OwnB.length {w : World} {base g n c : Nat} {xs : List Int} (h : OwnB w base g n c xs) : xs.length = n := by have := h.1; simpa using this
theorem OwnB.cell {w : World} {base g n c : Nat} {xs : List Int} (h : OwnB w base g n c xs) {k : Nat} (hk : k < n) : w.cell? ⟨g, k, none⟩ = some (.int .u8 (xs.getD k 0)) := by
  have hl := h.length
  rw [World.ownsRow.cellAt h k (by omega)]
  simp [List.getD, hl, hk]
theorem OwnB.frozen {w : World} {base g n c : Nat} {xs : List Int} (h : OwnB w base g n c xs) (k : Nat) : w.frozen? ⟨g, k, none⟩ = false := World.ownsRow.frozenAt h k
theorem OwnB.set {w : World} {base g n c : Nat} {xs : List Int} (h : OwnB w base g n c xs) (k : Nat) (u : Int) : OwnB (w.setCell ⟨g, k, none⟩ (.int .u8 u)) base g n c (xs.set k u) := by
  have := (World.ownsRow.stored h k (.int .u8 u)).1
  rw [← List.map_set] at this
  exact this
theorem OwnB.lt {w : World} {base g n c : Nat} {xs : List Int} (h : OwnB w base g n c xs) : base ≤ g ∧ g < w.heap.size := World.ownsRow.lt h g rfl
theorem OwnB.drewN {w : World} {base g n c : Nat} {xs : List Int} (h : OwnB w base g n c xs) (q : Nat) : OwnB (w.drewN q) base g n c xs := h
theorem OwnB.drew {w : World} {base g n c : Nat} {xs : List Int} (h : OwnB w base g n c xs) : OwnB w.drew base g n c xs := h
theorem OwnB.cap {w : World} {base g n c : Nat} {xs : List Int} (h : OwnB w base g n c xs) : n ≤ c := by
  rcases h.2 with ⟨h', _⟩ | ⟨g', cap, cur, h', _, hh, hnc, _⟩
  · simp at h'
  · simp only [Value.slice.injEq, Option.some.injEq, Addr.mk.injEq, and_true, true_and] at h'
    omega

/-- The outer i of both ends are exchanged. -/
def Swapped (xs ys : List Int) (n i : Nat) : Prop := ys.length = n ∧ ∀ t, t < n → ys.getD t 0 = if t < i ∨ n - i ≤ t then xs.getD (n - 1 - t) 0 else xs.getD t 0

theorem Swapped.step {xs ys : List Int} {n i : Nat} (h : Swapped xs ys n i) (hi : 2 * i + 1 < n) :
    Swapped xs ((ys.set i (ys.getD (n - 1 - i) 0)).set (n - 1 - i) (ys.getD i 0)) n (i + 1) := by
  obtain ⟨hl, h⟩ := h
  refine ⟨by simp [hl], fun t ht => ?_⟩
  have hi1 := h i (by omega)
  have hj1 := h (n - 1 - i) (by omega)
  rw [if_neg (by omega)] at hi1 hj1
  by_cases e1 : t = n - 1 - i
  · subst e1
    rw [if_pos (by omega)]
    have : ((ys.set i (ys.getD (n - 1 - i) 0)).set (n - 1 - i) (ys.getD i 0)).getD (n - 1 - i) 0 = ys.getD i 0 := by
      simp [List.getD, hl, show n - 1 - i < n by omega]
    rw [this, hi1]
    congr 1; omega
  · by_cases e2 : t = i
    · subst e2
      rw [if_pos (by omega)]
      have : ((ys.set t (ys.getD (n - 1 - t) 0)).set (n - 1 - t) (ys.getD t 0)).getD t 0 = ys.getD (n - 1 - t) 0 := by
        simp [List.getD, hl, ht, show n - 1 - t ≠ t by omega]
      rw [this, hj1]
    · have : ((ys.set i (ys.getD (n - 1 - i) 0)).set (n - 1 - i) (ys.getD i 0)).getD t 0 = ys.getD t 0 := by
        simp [List.getD, show ¬ n - 1 - i = t by omega, show ¬ i = t by omega]
      rw [this, h t ht]
      by_cases c : t < i ∨ n - i ≤ t
      · rw [if_pos c, if_pos (by omega)]
      · rw [if_neg c, if_neg (by omega)]

theorem Swapped.done {xs ys : List Int} {n i : Nat} (h : Swapped xs ys n i) (hx : xs.length = n) (hi : n ≤ 2 * i + 1) (hin : i ≤ n) : ys = xs.reverse := by
  obtain ⟨hl, h⟩ := h
  apply List.ext_getElem
  · simp [hl, hx]
  · intro t h1 h2
    have ht : t < n := by omega
    have h3 := h t ht
    have e1 : ys.getD t 0 = ys[t] := by simp [List.getD, h1]
    have e2 : xs.reverse[t] = xs.getD (n - 1 - t) 0 := by
      rw [List.getElem_reverse]; simp [List.getD, hx, show n - 1 - t < n by omega]
    rw [e2, ← e1, h3]
    by_cases c : t < i ∨ n - i ≤ t
    · rw [if_pos c]
    · rw [if_neg c]
      congr 1; omega

theorem grown_set {w w' : World} {g : Nat} (h : w.grownBy w' (some g)) (k : Nat) (u : Value) : w.grownBy (w'.setCell ⟨g, k, none⟩ u) (some g) :=
  ⟨h.os, h.tape, h.output, by simpa [World.setCell] using h.size, fun b hb hne => (Below.heap_setCell _ _ _ _ (fun e => hne (by rw [e]))).trans (h.block b hb hne)⟩

set_option maxHeartbeats 400000 in
theorem reverse_any (base g n c : Nat) (xs : List Int) (w : World) (h : OwnB w base g n c xs) (hn : n ≤ 2147483648) :
    Calls Try.prog 109 #[.slice (some ⟨g, 0, none⟩) n c] w fun e w' => e = .returned (.tuple #[]) ∧ OwnB w' base g n c xs.reverse ∧ w.grownBy w' (some g) := by
  have HX := Lib.hid h
  have HL := Lib.hid h.length
  have hcap := h.cap
  go_enter Try.func109, Try.ntmps109
  go_wp2_with fail
  go_loopw [2, 3] (fun iv jv wr => ∃ (i : Nat) (ys : List Int), iv = .int .i64 i ∧ jv = .int .i64 ((n : Int) - 1 - i) ∧ 2 * i ≤ n ∧ Hid (Swapped xs ys n i) ∧ OwnB wr base g n c ys ∧ w.grownBy wr (some g)) (fun iv _ _ => n - (intOf iv).toNat)
  case atStart =>
    refine ⟨0, xs, rfl, by go_num, by omega, Lib.hid ⟨HL.out, fun t ht => ?_⟩, HX.out, World.grownBy.refl _ _⟩
    rw [if_neg (by omega)]
  case round =>
    obtain ⟨i, ys, rfl, rfl, hin, HS, hown, hgr⟩ := hrel
    by_cases hlt : 2 * i + 1 < n
    · have q0 : (i : Int) < (n : Int) - 1 - i := by omega
      have q1 : (0 : Int) ≤ (n : Int) - 1 - i := by omega
      have q2 : (n : Int) - 1 - i < (n : Int) := by omega
      have q3 : ((n : Int) - 1 - i).toNat = n - 1 - i := by omega
      have q4 : (i : Int) < (n : Int) := by omega
      obtain ⟨x, hx⟩ : ∃ x, ys.getD i 0 = x := ⟨_, rfl⟩
      obtain ⟨y, hy⟩ : ∃ y, ys.getD (n - 1 - i) 0 = y := ⟨_, rfl⟩
      have cx : wr.cell? ⟨g, i, none⟩ = some (.int .u8 x) := by rw [← hx]; exact hown.cell (by omega)
      have cy : wr.cell? ⟨g, n - 1 - i, none⟩ = some (.int .u8 y) := by rw [← hy]; exact hown.cell (by omega)
      have fx := hown.frozen i
      have fy := hown.frozen (n - 1 - i)
      have hne : i ≠ n - 1 - i := by omega
      have HXx := Lib.hid hx
      have HYy := Lib.hid hy
      clear hx hy
      go_wp2_with fail
      go_region
      go_wp2
      have hset := (hown.set i y).set (n - 1 - i) x
      have hst := HS.out.step hlt
      rw [HXx.out, HYy.out] at hst
      refine ⟨⟨i + 1, _, by go_num, by go_num, by omega, Lib.hid hst, hset.drew, ?_⟩, by simp [intOf]; omega⟩
      have hg2 := grown_set (grown_set hgr i (.int .u8 y)) (n - 1 - i) (.int .u8 x)
      exact ⟨hg2.os, hg2.tape, hg2.output, hg2.size, hg2.block⟩
    · have HD := Lib.hid (HS.out.done HL.out (by omega) (by omega))
      go_wp2_with fail
      go_end0
      exact ⟨rfl, by rw [← HD.out]; exact hown, hgr⟩

end Go.Proofs.Ytoanomgdkkbbmaa
