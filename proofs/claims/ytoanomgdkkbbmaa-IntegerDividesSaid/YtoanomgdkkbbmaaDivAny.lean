/- divide, Divide: by any number other than 0. -/
import Derived.Test.YtoanomgdkkbbmaaLong3
namespace Go.Proofs.Ytoanomgdkkbbmaa
open Go.RowKit LM

theorem Divided.mono {w : World} {x y : Int} {L L' : Nat} {e : Ending} {w' : World} (h : Divided w x y L e w') (hL : L ≤ L') : Divided w x y L' e w' := by
  obtain ⟨A, n, c, B, m, d, he, hq, hr, hb⟩ := h
  exact ⟨A, n, c, B, m, d, he, hq.mono hL, hr.mono hL, hb⟩

set_option maxRecDepth 100000 in
set_option maxHeartbeats 1000000 in
theorem divide_more (A B : Option Addr) (m c n d : Nat) (xs ys : List Int) (w : World) (h : Row .u32 w A m c xs) (g : Row .u32 w B n d ys) (hn : 2 ≤ n) (hm : m ≤ 1048575)
    (hdx : Dig xs) (htx : Trimmed xs) (hdy : Dig ys) (hty : Trimmed ys) (hge : val ys ≤ val xs) :
    Calls Try.prog 82 #[.slice A m c, .slice B n d] w (Divided w (val xs) (val ys) (m + 1)) := by
  have hnm : n ≤ m := by
    rcases Nat.lt_or_ge m n with hl | hl
    · have := val_lt_of_length hdx hdy hty (by rw [h.1, g.1]; exact hl); omega
    · exact hl
  have nx : Num w (.slice A m c) (val xs) m := ⟨_, _, _, xs, rfl, h, hdx, htx, rfl, Nat.le_refl _⟩
  have ny : Num w (.slice B n d) (val ys) n := ⟨_, _, _, ys, rfl, g, hdy, hty, rfl, Nat.le_refl _⟩
  have HX := Lib.hid nx
  have HY := Lib.hid ny
  have HH := Lib.hid h
  have HG := Lib.hid g
  have hc : ¬ cmpI (val xs) (val ys) < 0 := by rcases Int.lt_or_eq_of_le hge with h | h; rw [cmpI_gt h]; decide; rw [cmpI_eq h.symm]; decide
  have h1 : ((n : Int) == 1) = false := by simp; omega
  clear nx ny h g
  go_enter Try.func82, Try.ntmps82
  go_wp2_with fail
  refine (compare_num _ _ _ _ m n _ HX.out HY.out (by omega) (by omega)).mono ?_
  rintro e w1 ⟨rfl, k, rfl⟩
  go_wp2_with fail
  refine (long_any A B m c n d xs ys _ (HH.out.drewN k) (HG.out.drewN k) hn hnm hm hdx htx hdy hty).mono ?_
  rintro e w2 ⟨A2, n2, c2, A3, n3, c3, rfl, hq, hr, hb⟩
  have HQ := Lib.hid hq
  have HR := Lib.hid hr
  clear hq hr
  go_wp2_with fail
  go_ret2
  exact ⟨_, _, _, _, _, _, rfl, HQ.out, HR.out, (below_drewN (Below.refl _ _) k).trans hb⟩

theorem divide_any (u v : Value) (x y : Int) (L M : Nat) (w : World) (h : Num w u x L) (g : Num w v y M) (hL : L ≤ 1048575) (hM : M ≤ 1048576) (hy : y ≠ 0) :
    Calls Try.prog 82 #[u, v] w (Divided w x y (L + 2)) := by
  by_cases hlt : x < y
  · refine (divide_less u v x y L M w h g (by omega) hM hlt).mono fun _ _ hd => hd.mono (by omega)
  · obtain ⟨A, m, c, xs, rfl, hr, hd, ht, rfl, hm⟩ := id h
    obtain ⟨B, n, d, ys, rfl, gr, gd, gt, rfl, hn⟩ := id g
    have hn0 : n ≠ 0 := by
      intro h0
      have : ys = [] := List.eq_nil_of_length_eq_zero (by rw [gr.1]; exact h0)
      rw [this] at hy; exact hy rfl
    by_cases h1 : n = 1
    · subst h1
      exact (divide_one _ B d (val xs) (val ys) L ys w h gr gd gt rfl (by omega) (by omega)).mono fun _ _ hd => hd.mono (by omega)
    · exact (divide_more A B m c n d xs ys w hr gr (by omega) (by omega) hd ht gd gt (by omega)).mono fun _ _ hd => hd.mono (by omega)

/-- Divide: by any number other than 0. -/
theorem Divide_int (u v : Value) (x y : Int) (L M : Nat) (w : World) (h : Ival w u x L) (g : Ival w v y M) (hL : L ≤ 1048575) (hM : M ≤ 1048576) (hy : y ≠ 0) :
    Calls Try.prog 30 #[u, v] w fun e w' => ∃ n1 A1 l1 c1 n2 A2 l2 c2, e = .returned (.tuple #[.agg #[.bool n1, .slice A1 l1 c1], .agg #[.bool n2, .slice A2 l2 c2], .int .i64 0]) ∧
      Ival w' (.agg #[.bool n1, .slice A1 l1 c1]) (x.tdiv y) (L + 2) ∧ Ival w' (.agg #[.bool n2, .slice A2 l2 c2]) (x.tmod y) (L + 2) ∧ Below w.heap.size w w' := by
  obtain ⟨p, A, n, c, rfl⟩ := h.form
  obtain ⟨q, B, m, d, rfl⟩ := g.form
  obtain ⟨a, ha, ha0, rfl, ha1⟩ := h.parts
  obtain ⟨b, hb, hb0, rfl, hb1⟩ := g.parts
  have hb' : b ≠ 0 := by
    intro e; subst e; apply hy; cases q <;> rfl
  exact Divide_of p q A B n c m d a b L M (L + 2) w ha hb (by omega) hb' g fun w1 hw1 => divide_any _ _ a b L M w1 (ha.below hw1) (hb.below hw1) hL hM hb'

end Go.Proofs.Ytoanomgdkkbbmaa
