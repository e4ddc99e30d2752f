/- slices.Equal on equal rows. -/
import Derived.Test.YtoanomgdkkbbmaaBase
namespace Go.Proofs.Ytoanomgdkkbbmaa
open Go.RowKit LM

theorem equal_same (A B : Option Addr) (n c d : Nat) (xs : List Int) (w : World) (h : Row .u32 w A n c xs) (g : Row .u32 w B n d xs) (hn : n ≤ 1073741824) :
    Calls Try.prog 75 #[.slice A n c, .slice B n d] w fun e w' => e = .returned (.bool true) ∧ ∃ q, w' = w.drewN q := by
  obtain ⟨hl, hc, hcell⟩ := h
  obtain ⟨gl, gc, gcell⟩ := g
  clear hl gl
  go_enter Try.func75, Try.ntmps75
  go_wp2
  go_loopw [13] (fun iv wr => ∃ k q : Nat, iv = .int .i64 k ∧ k ≤ n ∧ wr = w.drewN q) (fun iv _ => n - (intOf iv).toNat)
  case atStart => exact ⟨0, 0, rfl, Nat.zero_le _, rfl⟩
  case round =>
    obtain ⟨k, q, rfl, hk, rfl⟩ := hrel
    by_cases hlt : k < n
    · have hn0 : n ≠ 0 := by omega
      obtain ⟨b, o, rfl, hb, hx⟩ := hcell hn0
      obtain ⟨b', o', rfl, hb', hy⟩ := gcell hn0
      have hx1 : w.cell? _ = _ := hx k hlt
      have hy1 : w.cell? _ = _ := hy k hlt
      obtain ⟨x, ex⟩ : ∃ x, xs.getD k 0 = x := ⟨_, rfl⟩
      rw [ex] at hx1 hy1
      clear hx hy hcell gcell ex
      have hxx : (x != x) = false := by simp
      go_wp2
      go_quiet (fail)
      go_wp2
      exact ⟨⟨k + 1, _, by go_num, hlt, rfl⟩, by simp [intOf]; omega⟩
    · obtain rfl : k = n := by omega
      go_wp2
      go_ret
      exact ⟨rfl, q, rfl⟩

end Go.Proofs.Ytoanomgdkkbbmaa
