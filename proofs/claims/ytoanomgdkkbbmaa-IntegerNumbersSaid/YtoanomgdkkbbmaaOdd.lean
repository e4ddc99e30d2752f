/- Odd of an integer; Odd and Sign of the reference's. -/
import Derived.Test.YtoanomgdkkbbmaaIs
import Derived.Test.YtoanomgdkkbbmaaTable
namespace Go.Proofs.Ytoanomgdkkbbmaa
open Go.RowKit LM

theorem u32_and_one (y : Int) (h0 : 0 ≤ y) (h1 : y < 4294967296) : bits BinOp.and IntKind.u32 y 1 = y % 2 := by
  obtain ⟨Y, rfl⟩ := Int.eq_ofNat_of_zero_le h0
  have := u32_and_nat Y 1 (by omega) (by omega)
  rw [Nat.and_one_is_mod] at this
  rw [show (1 : Int) = ((1 : Nat) : Int) from rfl, this]
  omega

theorem withSign_mod2 (p : Bool) (a : Int) : (withSign p a % 2 = 1) ↔ (a % 2 = 1) := by
  cases p <;> simp [withSign] <;> omega

theorem box31 {w w' : World} {u : Value} {p : Bool} (h : Below (w.heap.size + 1) (w.alloc (.cells #[.bool p, u] 31)) w') :
    w'.cell? ⟨w.heap.size, 0, none⟩ = some (.bool p) ∧ w'.cell? ⟨w.heap.size, 1, none⟩ = some u := by
  refine ⟨?_, ?_⟩
  · rw [h.cell (by simp), World.cell?_alloc_at _ _ _ _ rfl]; rfl
  · rw [h.cell (by simp), World.cell?_alloc_at _ _ _ _ rfl]; rfl

theorem odd_int (u : Value) (x : Int) (L : Nat) (w : World) (h : Ival w u x L) (_hL : L ≤ 1073741824) :
    Calls Try.prog 24 #[u] w fun e w' => e = .returned (.bool (decide (x % 2 = 1))) ∧ Below w.heap.size w w' := by
  obtain ⟨p, s, a, rfl, ⟨A, n, c, xs, rfl, hr, hd, ht, hv, hn⟩, ha0, hz, hp⟩ := h
  have hW := below_alloc w (.cells #[.bool p, .slice A n c] 28)
  by_cases hn0 : n = 0
  · subst hn0
    have hx : xs = [] := List.eq_nil_of_length_eq_zero hr.1
    subst hx
    have hx0 : Hid (decide (x % 2 = 1) = false) := Lib.hid (by
      have : a = 0 := by rw [← hv]; rfl
      subst this
      rw [hz]; cases p <;> simp [withSign])
    clear hr hd ht hv hz hp
    go_enter Try.func24, Try.ntmps24
    go_wp2
    go_ret
    exact ⟨by rw [hx0.out]; rfl, hW⟩
  · obtain ⟨b, o, rfl, hb, hc⟩ := hr.2.2 hn0
    have hc0 : w.cell? ⟨b, o, none⟩ = some (.int .u32 (xs.getD 0 0)) := hc 0 (by omega)
    have hb0 := hd.getD 0
    obtain ⟨y, hy⟩ : ∃ y, xs.getD 0 0 = y := ⟨_, rfl⟩
    rw [hy, BB_def] at hb0
    rw [hy] at hc0
    have hpar : a % 2 = y % 2 := by
      match xs, hr.1 with
      | [], h => simp at h; omega
      | d :: l, _ => rw [← hv, val_cons, ← hy, BB_def]; simp; omega
    have hx0 : Hid (decide (x % 2 = 1) = (y % 2 == 1)) := Lib.hid (by
      rw [hz, decide_eq_decide.2 ((withSign_mod2 p a).trans (show a % 2 = 1 ↔ y % 2 = 1 by rw [hpar]))]; rfl)
    have hand := u32_and_one y hb0.1 hb0.2
    have hp0 : (0 : Int) < (n : Int) := by omega
    have HH := Lib.hid hc0
    clear hc hr hd ht hv hz hp hy hpar
    have hc1 : ∀ o', (w.alloc o').cell? ⟨b, o, none⟩ = some (.int .u32 y) := fun o' => by rw [World.cell?_alloc_past _ _ _ hb]; exact HH.out
    go_enter Try.func24, Try.ntmps24
    go_wp2
    go_ret
    exact ⟨by rw [hx0.out]; rfl, hW⟩

theorem rodd_any (v : Value) (x : Int) (L : Nat) (w : World) (h : Rval w v x L) (_hL : L ≤ 1073741824) :
    Calls Try.prog 25 #[v] w fun e w' => e = .returned (.bool (decide (x % 2 = 1))) ∧ Below w.heap.size w w' := by
  obtain ⟨p, A, n, c, ds, rfl, hr, hd, ht, hz, hp, hn⟩ := h
  have hW := below_alloc w (.cells #[.bool p, .slice A n c] 31)
  by_cases hn0 : n = 0
  · subst hn0
    have hx : ds = [] := List.eq_nil_of_length_eq_zero hr.1
    subst hx
    have hx0 : Hid (decide (x % 2 = 1) = false) := Lib.hid (by
      rw [hz]; cases p <;> simp [withSign, valR])
    clear hr hd ht hz hp
    go_enter Try.func25, Try.ntmps25
    go_wp2
    go_ret
    exact ⟨by rw [hx0.out]; rfl, hW⟩
  · obtain ⟨b, o, rfl, hb, hc⟩ := hr.2.2 hn0
    have hc0 : w.cell? ⟨b, o, none⟩ = some (.int .i64 (ds.getD 0 0)) := hc 0 (by omega)
    have hb0 := hd.getD_lt 0
    obtain ⟨y, hy⟩ : ∃ y, ds.getD 0 0 = y := ⟨_, rfl⟩
    rw [hy] at hb0
    rw [hy] at hc0
    have hpar : valR 65536 ds % 2 = y % 2 := by
      match ds, hr.1 with
      | [], h => simp at h; omega
      | d :: l, _ => rw [← hy]; simp [valR]; omega
    have hx0 : Hid (decide (x % 2 = 1) = (y % 2 == 1)) := Lib.hid (by
      rw [hz, decide_eq_decide.2 ((withSign_mod2 p _).trans (show _ % 2 = 1 ↔ y % 2 = 1 by rw [hpar]))]; rfl)
    have htm : y.tmod 2 = y % 2 := Int.tmod_eq_emod_of_nonneg hb0.1
    have hp0 : (0 : Int) < (n : Int) := by omega
    have HH := Lib.hid hc0
    clear hc hr hd ht hz hp hy hpar
    have hc1 : ∀ o', (w.alloc o').cell? ⟨b, o, none⟩ = some (.int .i64 y) := fun o' => by rw [World.cell?_alloc_past _ _ _ hb]; exact HH.out
    go_enter Try.func25, Try.ntmps25
    go_wp2
    go_ret
    exact ⟨by rw [hx0.out]; rfl, hW⟩

theorem rsign_any (v : Value) (x : Int) (L : Nat) (w : World) (h : Rval w v x L) (_hL : L ≤ 1073741824) :
    Calls Try.prog 23 #[v] w fun e w' => e = .returned (.int .i64 (cmpI x 0)) ∧ Below w.heap.size w w' := by
  obtain ⟨p, A, n, c, ds, rfl, hr, hd, ht, hz, hp, hn⟩ := h
  have hW := below_alloc w (.cells #[.bool p, .slice A n c] 31)
  have hz0 := valR_zero_iff hd ht
  have hge := valR_nonneg (by decide : (0 : Int) ≤ 65536) hd
  by_cases hn0 : n = 0
  · subst hn0
    have hx : ds = [] := List.eq_nil_of_length_eq_zero hr.1
    subst hx
    have hx0 : Hid (cmpI x 0 = 0) := Lib.hid (by rw [hz]; cases p <;> simp [withSign, valR, cmpI])
    clear hr hd ht hz hp hz0 hge
    go_enter Try.func23, Try.ntmps23
    go_wp2
    go_ret
    exact ⟨by rw [hx0.out]; rfl, hW⟩
  · have hne : valR 65536 ds ≠ 0 := fun e => by
      have := hz0.1 e
      have hl := hr.1
      rw [this] at hl; simp at hl; omega
    have hn1 : ((n : Int) == 0) = false := by simp; omega
    cases p with
    | true =>
      have hx0 : Hid (cmpI x 0 = -1) := Lib.hid (by rw [hz]; exact cmpI_lt (by simp [withSign]; omega))
      clear hr hd ht hz hp hz0 hge hne
      go_enter Try.func23, Try.ntmps23
      go_wp2
      go_ret
      exact ⟨by rw [hx0.out]; rfl, hW⟩
    | false =>
      have hx0 : Hid (cmpI x 0 = 1) := Lib.hid (by rw [hz]; exact cmpI_gt (by simp [withSign]; omega))
      clear hr hd ht hz hp hz0 hge hne
      go_enter Try.func23, Try.ntmps23
      go_wp2
      go_ret
      exact ⟨by rw [hx0.out]; rfl, hW⟩

end Go.Proofs.Ytoanomgdkkbbmaa
