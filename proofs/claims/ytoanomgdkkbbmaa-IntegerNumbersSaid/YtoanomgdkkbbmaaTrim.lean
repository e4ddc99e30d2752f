/- trim. -/
import Derived.Test.YtoanomgdkkbbmaaBase
namespace Go.Proofs.Ytoanomgdkkbbmaa
open Go.RowKit LM

theorem trim_any (A : Option Addr) (n c : Nat) (xs : List Int) (w : World) (h : Row .u32 w A n c xs) (hn : n ≤ 1073741824) :
    Calls Try.prog 114 #[.slice A n c] w fun e w' => ∃ k, k ≤ n ∧ e = .returned (.slice A k c) ∧ w = w' ∧ val (xs.take k) = val xs ∧ Trimmed (xs.take k) := by
  obtain ⟨hl, hc, hcell⟩ := h
  go_enter Try.func114, Try.ntmps114
  go_wp2
  go_loop [0] (fun s => ∃ k, k ≤ n ∧ s = .slice A k c ∧ val (xs.take k) = val xs) (fun s => lenOf s)
  case atStart => exact ⟨n, Nat.le_refl _, rfl, by rw [List.take_of_length_le (by omega)]⟩
  case round =>
    obtain ⟨k, hk, rfl, hv⟩ := hrel
    have Hv := Lib.hid hv
    clear hv
    by_cases h0 : k = 0
    · subst h0
      go_wp2
      go_ret
      exact ⟨0, by omega, rfl, rfl, Hv.out, .inl rfl⟩
    · obtain ⟨b, o, rfl, hb, hx⟩ := hcell (by omega)
      have hp : (0 : Int) < (k : Int) := by omega
      have hx1 := hx (k - 1) (by omega)
      clear hx hcell
      have HL := Lib.hid hl
      clear hl
      go_wp2
      · have e0 : xs[k - 1]?.getD 0 = 0 := by simpa using (by assumption : (xs[k - 1]?.getD 0 == 0) = true)
        refine ⟨⟨k - 1, by omega, rfl, ?_⟩, by simp [lenOf]; omega⟩
        have h1 := val_take_succ xs (k - 1)
        rw [show k - 1 + 1 = k from by omega, Hv.out] at h1
        have e1 : xs.getD (k - 1) 0 = 0 := e0
        rw [e1] at h1
        omega
      · have e0 : xs[k - 1]?.getD 0 ≠ 0 := by simpa using (by assumption : (xs[k - 1]?.getD 0 == 0) = false)
        go_ret
        refine ⟨k, hk, rfl, rfl, Hv.out, .inr ?_⟩
        have hl := HL.out
        rw [List.length_take, Nat.min_eq_left (by omega), List.getD, List.getElem?_take, if_pos (by omega)]
        exact e0

end Go.Proofs.Ytoanomgdkkbbmaa
