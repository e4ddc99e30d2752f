/- Short. -/
import Derived.Test.YtoanomgdkkbbmaaBase
namespace Go.Proofs.Ytoanomgdkkbbmaa
open Go.RowKit LM

theorem below_alloc' (w : World) (o : Obj) : Below w.heap.size w (w.alloc o) := (Below.refl _ _).alloc (Nat.le_refl _) _

theorem short1_any (p : Bool) (A : Option Addr) (n c : Nat) (most : Int) (b : Nat) (w : World) (hb : b < w.heap.size) (hc : w.cell? ⟨b, 0, none⟩ = some (.int .i64 most)) :
    Calls Try.prog 67 #[.agg #[.bool p, .slice A n c], .pointer (some ⟨b, 0, none⟩)] w fun e w' => e = .returned (.bool (decide (most < (n : Int)))) ∧ Below w.heap.size w w' := by
  go_enter Try.func67, Try.ntmps67
  go_wp2
  go_ret
  exact ⟨rfl, below_alloc' _ _⟩

/-- An array of signs and limbs: how many limbs. -/
def Lens (w : World) (g N : Nat) (lens : List Nat) : Prop :=
  lens.length = N ∧ g < w.heap.size ∧ ∀ i, i < N → ∃ p A c, w.cell? ⟨g, i * 2, none⟩ = some (.bool p) ∧ w.cell? ⟨g, i * 2 + 1, none⟩ = some (.slice A (lens.getD i 0) c)

theorem Lens.below {w w' : World} {g N : Nat} {lens : List Nat} (h : Lens w g N lens) (hb : Below w.heap.size w w') : Lens w' g N lens := by
  obtain ⟨h1, h2, h3⟩ := h
  refine ⟨h1, Nat.lt_of_lt_of_le h2 hb.size, fun i hi => ?_⟩
  obtain ⟨p, A, c, c0, c1⟩ := h3 i hi
  exact ⟨p, A, c, (hb.cell (p := ⟨g, i * 2, none⟩) h2).trans c0, (hb.cell (p := ⟨g, i * 2 + 1, none⟩) h2).trans c1⟩

/-- Is one too long? -/
def tooLong (lens : List Nat) (most : Int) : Bool := lens.any (fun n => decide (most < (n : Int)))

theorem tooLong_yes {lens : List Nat} {most : Int} {k : Nat} (hk : k < lens.length) (h : most < (lens.getD k 0 : Int)) : tooLong lens most = true := by
  unfold tooLong
  rw [List.any_eq_true]
  refine ⟨lens[k], List.getElem_mem hk, ?_⟩
  have : lens.getD k 0 = lens[k] := by simp [List.getD, hk]
  rw [this] at h
  simpa using h

theorem tooLong_no {lens : List Nat} {most : Int} (h : ∀ i, i < lens.length → ¬ most < (lens.getD i 0 : Int)) : tooLong lens most = false := by
  unfold tooLong
  rw [List.any_eq_false]
  intro n hn
  obtain ⟨i, hi, rfl⟩ := List.mem_iff_getElem.1 hn
  have := h i hi
  have e : lens.getD i 0 = lens[i] := by simp [List.getD, hi]
  rw [e] at this
  simpa using this

set_option maxHeartbeats 400000 in
theorem index_any (g N : Nat) (lens : List Nat) (most : Int) (b : Nat) (w : World) (h : Lens w g N lens) (hN : N ≤ 1000) (hb : b < w.heap.size) (hc : w.cell? ⟨b, 0, none⟩ = some (.int .i64 most)) :
    Calls Try.prog 113 #[.slice (some ⟨g, 0, none⟩) N N, .func (Fn.func 67) #[] #[.pointer (some ⟨b, 0, none⟩)]] w fun e w' => (∃ r : Int, e = .returned (.int .i64 r) ∧ decide (0 ≤ r) = tooLong lens most) ∧ Below w.heap.size w w' := by
  obtain ⟨hl, hg, hlens⟩ := h
  have HL := Lib.hid hl
  have HH := Lib.hid hlens
  clear hl hlens
  go_enter Try.func113, Try.ntmps113
  go_wp2_with fail
  go_loopw [8] (fun iv wr => ∃ k : Nat, iv = .int .i64 k ∧ k ≤ N ∧ Hid (∀ i, i < k → ¬ most < (lens.getD i 0 : Int)) ∧ Below w.heap.size w wr) (fun iv _ => N - (intOf iv).toNat)
  case atStart => exact ⟨0, rfl, Nat.zero_le _, Lib.hid (fun i hi => absurd hi (by omega)), Below.refl _ _⟩
  case round =>
    obtain ⟨k, rfl, hk, HA, hbw⟩ := hrel
    by_cases hlt : k < N
    · obtain ⟨p, A, c, c0, c1⟩ := HH.out k hlt
      have d0 : wr.cell? ⟨g, k * 2, none⟩ = _ := (hbw.cell (p := ⟨g, k * 2, none⟩) hg).trans c0
      have d1 : wr.cell? ⟨g, k * 2 + 1, none⟩ = _ := (hbw.cell (p := ⟨g, k * 2 + 1, none⟩) hg).trans c1
      have hcb := (hbw.cell (p := ⟨b, 0, none⟩) hb).trans hc
      have hbr : b < wr.heap.size := Nat.lt_of_lt_of_le hb hbw.size
      clear c0 c1
      obtain ⟨m, hm⟩ : ∃ m, lens.getD k 0 = m := ⟨_, rfl⟩
      rw [hm] at d1
      have HM := Lib.hid hm
      clear hm
      by_cases hlong : most < (m : Int)
      · go_wp2_with (go_at_call 67; refine (short1_any p A m c most b _ hbr hcb).mono ?_; rintro e w1 ⟨rfl, hb1⟩)
        go_ret
        refine ⟨⟨(k : Int), rfl, ?_⟩, hbw.trans (hb1.mono hbw.size)⟩
        rw [tooLong_yes (k := k) (by rw [HL.out]; exact hlt) (by rw [HM.out]; exact hlong)]
        simp
      · go_wp2_with (go_at_call 67; refine (short1_any p A m c most b _ hbr hcb).mono ?_; rintro e w1 ⟨rfl, hb1⟩)
        refine ⟨⟨k + 1, by go_num, hlt, Lib.hid (fun i hi => ?_), hbw.trans (hb1.mono hbw.size)⟩, by simp [intOf]; omega⟩
        by_cases hik : i = k
        · subst hik; rw [HM.out]; exact Int.not_lt.2 hlong
        · exact Int.not_lt.2 (HA.out i (by omega))
    · obtain rfl : k = N := by omega
      go_wp2
      go_ret
      refine ⟨⟨-1, rfl, ?_⟩, hbw⟩
      rw [tooLong_no (fun i hi => Int.not_lt.2 (HA.out i (by rw [HL.out] at hi; exact hi)))]
      decide

theorem contains_any (g N : Nat) (lens : List Nat) (most : Int) (b : Nat) (w : World) (h : Lens w g N lens) (hN : N ≤ 1000) (hb : b < w.heap.size) (hc : w.cell? ⟨b, 0, none⟩ = some (.int .i64 most)) :
    Calls Try.prog 66 #[.slice (some ⟨g, 0, none⟩) N N, .func (Fn.func 67) #[] #[.pointer (some ⟨b, 0, none⟩)]] w fun e w' => e = .returned (.bool (tooLong lens most)) ∧ Below w.heap.size w w' := by
  go_enter Try.func66, Try.ntmps66
  go_wp2_with fail
  refine (index_any g N lens most b w h hN hb hc).mono ?_
  rintro e w1 ⟨⟨r, rfl, hr⟩, hb1⟩
  have HR := Lib.hid hr
  clear hr
  go_wp2
  go_ret
  exact ⟨by rw [← HR.out]; rfl, hb1⟩

theorem short_any (g N : Nat) (lens : List Nat) (most : Int) (w : World) (h : Lens w g N lens) (hN : N ≤ 1000) :
    Calls Try.prog 14 #[.int .i64 most, .slice (some ⟨g, 0, none⟩) N N] w fun e w' => e = .returned (.bool (!tooLong lens most)) ∧ Below w.heap.size w w' := by
  have hmf : ∀ (fn : Fn) (first cap : Array Value) (w : World), (Instr.makeFunc fn first cap).run Try.prog w = .ok (.func fn first cap) w := fun _ _ _ _ => rfl
  have hA := below_alloc' w (.cells #[.int .i64 most] 3)
  have hc : (w.alloc (.cells #[.int .i64 most] 3)).cell? ⟨w.heap.size, 0, none⟩ = some (.int .i64 most) := by rw [World.cell?_alloc_at _ _ _ _ rfl]; rfl
  have HC := Lib.hid hc
  clear hc
  go_enter Try.func14, Try.ntmps14
  go_wp2_with fail
  refine (contains_any g N lens most w.heap.size _ (h.below hA) hN (by simp) HC.out).mono ?_
  rintro e w1 ⟨rfl, hb1⟩
  go_wp2
  go_ret
  exact ⟨rfl, hA.trans (hb1.mono (by simp))⟩

end Go.Proofs.Ytoanomgdkkbbmaa
