/- made: the integers of a list of signs and limbs. -/
import Derived.Test.YtoanomgdkkbbmaaClone
namespace Go.Proofs.Ytoanomgdkkbbmaa
open Go.RowKit LM

/-- The digits of an integer lie in a block of words. -/
def Typed (w : World) (v : Value) : Prop := ∀ ng A n c, v = .agg #[.bool ng, .slice A n c] → n ≠ 0 → ∃ b o cs fr, A = some ⟨b, o, none⟩ ∧ w.heap[b]? = some (.cells cs 99 fr)

theorem Typed.below {w w' : World} {v : Value} (h : Typed w v) (hb : Below w.heap.size w w') : Typed w' v := by
  intro ng A n c e hn
  obtain ⟨b, o, cs, fr, hA, hh⟩ := h ng A n c e hn
  exact ⟨b, o, cs, fr, hA, (hb.block b (Array.getElem?_eq_some_iff.1 hh).1).trans hh⟩

theorem agg_inj {p q : Bool} {A B : Option Addr} {n m c d : Nat} (h : Value.agg #[.bool p, .slice A n c] = .agg #[.bool q, .slice B m d]) : p = q ∧ A = B ∧ n = m ∧ c = d := by
  simp only [Value.agg.injEq] at h
  have h0 : (Value.bool p) = .bool q := by have := congrArg (fun x => x[0]?) h; simpa using this
  have h1 : Value.slice A n c = .slice B m d := by have := congrArg (fun x => x[1]?) h; simpa using this
  simp only [Value.bool.injEq] at h0
  simp only [Value.slice.injEq] at h1
  exact ⟨h0, h1⟩

/-- Both stay where a block of another kind is written. -/
theorem Ival.apart {w w' : World} {v : Value} {z : Int} {L : Nat} (h : Ival w v z L) (ht : Typed w v) {row : Option Nat} (hg : w.grownBy w' row) (hr : ∀ g, row = some g → ∃ cs fr, w.heap[g]? = some (.cells cs 28 fr)) : Ival w' v z L ∧ Typed w' v := by
  obtain ⟨ng, A, n, c, rfl⟩ := h.form
  have key : n ≠ 0 → ∃ b o cs fr, A = some ⟨b, o, none⟩ ∧ w.heap[b]? = some (.cells cs 99 fr) ∧ w'.heap[b]? = w.heap[b]? := by
    intro hn
    obtain ⟨b, o, cs, fr, hA, hh⟩ := ht ng A n c rfl hn
    refine ⟨b, o, cs, fr, hA, hh, hg.block b (Array.getElem?_eq_some_iff.1 hh).1 (fun e => ?_)⟩
    obtain ⟨cs', fr', h'⟩ := hr b e.symm
    rw [h'] at hh
    simp at hh
  constructor
  · obtain ⟨a, ⟨A', n', c', xs, e, hrow, r⟩, r'⟩ := h.parts
    simp only [Value.slice.injEq] at e
    obtain ⟨rfl, rfl, rfl⟩ := e
    refine ⟨ng, _, a, rfl, ⟨_, _, _, xs, rfl, ⟨hrow.1, hrow.2.1, fun hn => ?_⟩, r⟩, r'⟩
    obtain ⟨b, o, cs, fr, hA, hh, he⟩ := key hn
    obtain ⟨b', o', hA', hlt, hc⟩ := hrow.2.2 hn
    rw [hA] at hA'
    simp only [Option.some.injEq, Addr.mk.injEq, and_true] at hA'
    obtain ⟨rfl, rfl⟩ := hA'
    exact ⟨b, o, hA, Nat.lt_of_lt_of_le hlt hg.size, fun i hi => (World.cell?_of_block (a := ⟨b, o + i, none⟩) he).trans (hc i hi)⟩
  · intro ng' A' n' c' e hn
    obtain ⟨rfl, rfl, rfl, rfl⟩ := agg_inj e
    obtain ⟨b, o, cs, fr, hA, hh, he⟩ := key hn
    exact ⟨b, o, cs, fr, hA, he.trans hh⟩

theorem ownsRow_below {w w' : World} {base : Nat} {e : TypeId} {size : Nat} {v : Value} {n : Nat} {xs : List Value} (h : w.ownsRow base e size v n xs) (hb : Below w.heap.size w w') : w'.ownsRow base e size v n xs :=
  h.kept (row := none) ⟨hb.os, hb.tape, hb.output, hb.size, fun k hk _ => hb.block k hk⟩ (by cases v.ownBlock <;> simp)

theorem ownsRow_block {w : World} {base : Nat} {e : TypeId} {size : Nat} {v : Value} {n : Nat} {xs : List Value} (h : w.ownsRow base e size v n xs) : ∀ g, v.ownBlock = some g → ∃ cs fr, w.heap[g]? = some (.cells cs e fr) := by
  intro g hg
  rcases h.2 with ⟨rfl, _⟩ | ⟨g', cap, cur, rfl, _, hh, _⟩
  · simp [Value.ownBlock] at hg
  · simp [Value.ownBlock] at hg
    subst hg
    exact ⟨_, _, hh⟩

/-- Clone, with the kind of the new block. -/
theorem clone_typed (A : Option Addr) (n c : Nat) (xs : List Int) (w : World) (h : Row .u32 w A n c xs) (hn : n ≤ 1073741824) :
    Calls Try.prog 85 #[.slice A n c] w fun e w' => ∃ A' c', e = .returned (.slice A' n c') ∧ (Row .u32 w' A' n c' xs ∧ (n ≠ 0 → ∃ b o cs fr, A' = some ⟨b, o, none⟩ ∧ w'.heap[b]? = some (.cells cs 99 fr))) ∧ Below w.heap.size w w' := by
  cases A with
  | none =>
    have h0 : n = 0 := by
      rcases Nat.eq_zero_or_pos n with h1 | h1
      · exact h1
      · obtain ⟨b, o, e, _⟩ := h.2.2 (by omega); cases e
    refine (clone_none n c xs w h).mono ?_
    rintro e w' ⟨A', c', rfl, hr, hb⟩
    exact ⟨A', c', rfl, ⟨hr, fun hn => absurd h0 hn⟩, hb⟩
  | some a => exact clone_own a n c xs w h hn

set_option maxHeartbeats 400000 in
theorem signed_keep (neg : Bool) (A : Option Addr) (n c : Nat) (zs : List Int) (w : World) (h : Row .u32 w A n c zs) (hn : n ≤ 1073741824) (hd : Dig zs) :
    Calls Try.prog 70 #[.bool neg, .slice A n c] w fun e w' => ∃ ng k, k ≤ n ∧ e = .returned (.agg #[.bool ng, .slice A k c]) ∧ Ival w' (.agg #[.bool ng, .slice A k c]) (withSign neg (val zs)) n ∧ Below w.heap.size w w' := by
  have hb1 : Below w.heap.size w (w.alloc (.cells #[.bool false, .slice none 0 0] 28)) := (Below.refl _ _).alloc (Nat.le_refl _) _
  go_enter Try.func70, Try.ntmps70
  go_wp2_with fail
  refine (trim_any A n c zs _ (h.below hb1) hn).mono ?_
  rintro e w' ⟨k, hk, rfl, rfl, hv, ht⟩
  have hlen := h.1
  have hpos := trimmed_len hd ht (by omega) hv
  have hnum : Num w (.slice A k c) (val zs) n := ⟨_, _, _, _, rfl, h.take hk, hd.take _, ht, hv, hk⟩
  have hge := (val_bounds hd).1
  have HV := Lib.hid hv
  have HP := Lib.hid hpos
  have HN := Lib.hid hnum
  clear hv hpos hnum hlen ht
  cases neg with
  | false =>
    go_wp2
    exact bodyPost_ret (v := .agg #[.bool false, .slice A k c]) (by simp [results, Try.results70, go_sem]) rfl ⟨false, k, hk, rfl, ⟨false, _, _, rfl, HN.out.below (below_alloc _ _), hge, rfl, by simp⟩, below_alloc _ _⟩
  | true =>
    by_cases hk0 : k = 0
    · have hz : val zs = 0 := by have := HP.out; omega
      have HZ := Lib.hid hz
      clear hz hge
      subst hk0
      go_wp2
      exact bodyPost_ret (v := .agg #[.bool false, .slice A 0 c]) (by simp [results, Try.results70, go_sem]) rfl ⟨false, 0, hk, rfl, ⟨false, _, _, rfl, HN.out.below (below_alloc _ _), by rw [HZ.out]; decide, by simp [withSign, HZ.out], by simp⟩, below_alloc _ _⟩
    · have hz : val zs ≠ 0 := by have := HP.out; omega
      have HZ := Lib.hid hz
      clear hz
      have hp : (0 : Int) < (k : Int) := by omega
      have hp' : 0 < k := by omega
      go_wp2
      exact bodyPost_ret (v := .agg #[.bool true, .slice A k c]) (by simp [results, Try.results70, go_sem]) rfl ⟨true, k, hk, rfl, ⟨true, _, _, rfl, HN.out.below (below_alloc _ _), hge, rfl, fun _ => HZ.out⟩, below_alloc _ _⟩

/-- Make, with the kind of the block of the digits. -/
theorem make_typed (p : Bool) (A : Option Addr) (n c : Nat) (xs : List Int) (w : World) (h : Row .u32 w A n c xs) (hn : n ≤ 1073741824) (hd : Dig xs) :
    Calls Try.prog 68 #[.bool p, .slice A n c] w fun e w' => ∃ ng A2 n2 c2, e = .returned (.agg #[.bool ng, .slice A2 n2 c2]) ∧ Ival w' (.agg #[.bool ng, .slice A2 n2 c2]) (withSign p (val xs)) n ∧ Typed w' (.agg #[.bool ng, .slice A2 n2 c2]) ∧ Below w.heap.size w w' := by
  have hW := below_alloc w (.cells #[.bool false, .slice none 0 0] 28)
  go_enter Try.func68, Try.ntmps68
  go_wp2_with fail
  refine (clone_typed A n c xs _ (h.below hW) hn).mono ?_
  rintro e w1 ⟨A', c', rfl, hr, hb1⟩
  have HR := Lib.hid hr.2
  replace hr := hr.1
  go_wp2_with fail
  refine (signed_keep p A' n c' xs w1 hr hn hd).mono ?_
  rintro e w2 ⟨ng, k, hk, rfl, hv, hb2⟩
  have hty : Typed w2 (.agg #[.bool ng, .slice A' k c']) := by
    intro ng' B m d e hm
    obtain ⟨rfl, rfl, rfl, rfl⟩ := agg_inj e
    obtain ⟨b, o, cs, fr, hA, hh⟩ := HR.out (by omega)
    exact ⟨b, o, cs, fr, hA, (hb2.block b (Array.getElem?_eq_some_iff.1 hh).1).trans hh⟩
  have hB := (hb1.mono (B' := w.heap.size + 1) (by simp)).trans (hb2.mono (B' := w.heap.size + 1) (by have := hb1.size; simpa using this))
  obtain ⟨e1, e2, f1, f2⟩ := room0 hB
  have hst : ∀ x y, Typed ((w2.setCell ⟨w.heap.size, 0, none⟩ x).setCell ⟨w.heap.size, 1, none⟩ y) (.agg #[.bool ng, .slice A' k c']) := by
    intro x y ng' B m d e hm
    obtain ⟨b, o, cs, fr, hA, hh⟩ := hty ng' B m d e hm
    have hne : b ≠ w.heap.size := by
      rintro rfl
      have := hB.block w.heap.size (by omega)
      rw [hh, heap_alloc_new] at this
      simp at this
    exact ⟨b, o, cs, fr, hA, by rw [Below.heap_setCell _ _ _ _ hne, Below.heap_setCell _ _ _ _ hne]; exact hh⟩
  have HT := Lib.hid hst
  clear hst hty
  go_wp2
  refine bodyPost_ret (v := .agg #[.bool ng, .slice A' k c']) (by simp [results, Try.results68, go_sem, e1, e2]) rfl ⟨_, _, _, _, rfl, hv.stored e1 e2 _ _, HT.out _ _, ?_⟩
  exact ((hW.trans (hB.mono (by omega))).setCell (Nat.le_refl _) _).setCell (Nat.le_refl _) _

end Go.Proofs.Ytoanomgdkkbbmaa
