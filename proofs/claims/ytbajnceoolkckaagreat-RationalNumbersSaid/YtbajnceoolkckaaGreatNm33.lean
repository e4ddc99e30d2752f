/- Of the proof of RationalNumbers: RatV. -/
import Derived.Test.YtbajnceoolkckaaGreatNm32
import Derived.Test.YtbajnceoolkckaaGreatNm15
/- Fractions: Short of the laws, same, of. -/
namespace Go.Proofs.YtbajnceoolkckaaGreat
open Go.RowKit LM

set_option maxRecDepth 100000 in
set_option maxHeartbeats 1000000 in
theorem short1Q_any (p q : Bool) (A B : Option Addr) (n c m d : Nat) (most : Int) (b : Nat) (w : World) (hb : b < w.heap.size) (hc : w.cell? ⟨b, 0, none⟩ = some (.int .i64 most)) :
  Calls Tryz.prog 73 #[.agg #[.bool p, .slice A n c, .bool q, .slice B m d], .pointer (some ⟨b, 0, none⟩)] w fun e w' => e = .returned (.bool (tooLong [n, m] most)) ∧ Below w.heap.size w w' := by
 have hW := below_alloc' w (.cells #[.bool p, .slice A n c, .bool q, .slice B m d] 26)
 have B0 := Lib.hid (Fx4.new w (.bool p) (.slice A n c) (.bool q) (.slice B m d) 26)
 have hm := Lib.hid ((hW.cell (p := ⟨b, 0, none⟩) hb).trans hc)
 clear hc
 go_enter Tryz.func73, Tryz.ntmps73
 go_upto_region 1 with fail
 generalize w.alloc (.cells #[.bool p, .slice A n c, .bool q, .slice B m d] 26) = W0 at *
 obtain ⟨a0, a1, a2, a3, -, -, -, -, -⟩ := B0.out
 have hmo := hm.out
 go_wp2_with fail
 refine (short_any _ 2 [n, m] most _ (lens2 W0 rfl p q A B n c m d) (by omega)).mono ?_
 rintro e w1 ⟨rfl, hb1⟩
 have hX := below_alloc' W0 (.cells #[.bool p, .slice A n c, .bool q, .slice B m d] 24)
 have hw := Lib.hid (hW.trans ((hX.trans (hb1.mono (by simp))).mono hW.size))
 clear a0 a1 a2 a3 hmo hb1 hX hW
 go_wp2
 go_ret
 exact ⟨by simp, hw.out⟩

/-- An array of fractions: how many limbs. -/
def LensQ (w : World) (g N : Nat) (lens : List (Nat × Nat)) : Prop :=
 lens.length = N ∧ g < w.heap.size ∧ ∀ i, i < N → ∃ p A c q B d, w.cell? ⟨g, i * 4, none⟩ = some (.bool p) ∧ w.cell? ⟨g, i * 4 + 1, none⟩ = some (.slice A (lens.getD i (0, 0)).1 c) ∧ w.cell? ⟨g, i * 4 + 2, none⟩ = some (.bool q) ∧ w.cell? ⟨g, i * 4 + 3, none⟩ = some (.slice B (lens.getD i (0, 0)).2 d)

theorem LensQ.below {w w' : World} {g N : Nat} {lens : List (Nat × Nat)} (h : LensQ w g N lens) (hb : Below w.heap.size w w') : LensQ w' g N lens := by
 obtain ⟨h1, h2, h3⟩ := h
 refine ⟨h1, Nat.lt_of_lt_of_le h2 hb.size, fun i hi => ?_⟩
 obtain ⟨p, A, c, q, B, d, c0, c1, c2, c3⟩ := h3 i hi
 exact ⟨p, A, c, q, B, d, (hb.cell (p := ⟨g, i * 4, none⟩) h2).trans c0, (hb.cell (p := ⟨g, i * 4 + 1, none⟩) h2).trans c1, (hb.cell (p := ⟨g, i * 4 + 2, none⟩) h2).trans c2, (hb.cell (p := ⟨g, i * 4 + 3, none⟩) h2).trans c3⟩

/-- Is one too long? -/
def anyLong (lens : List (Nat × Nat)) (most : Int) : Bool := lens.any (fun p => tooLong [p.1, p.2] most)

theorem anyLong_yes {lens : List (Nat × Nat)} {most : Int} {k : Nat} (hk : k < lens.length) (h : tooLong [(lens.getD k (0, 0)).1, (lens.getD k (0, 0)).2] most = true) : anyLong lens most = true := by
 unfold anyLong
 rw [List.any_eq_true]
 refine ⟨lens[k], List.getElem_mem hk, ?_⟩
 have : lens.getD k (0, 0) = lens[k] := by simp [List.getD, hk]
 rw [this] at h
 exact h

theorem anyLong_no {lens : List (Nat × Nat)} {most : Int} (h : ∀ i, i < lens.length → tooLong [(lens.getD i (0, 0)).1, (lens.getD i (0, 0)).2] most = false) : anyLong lens most = false := by
 unfold anyLong
 rw [List.any_eq_false]
 intro n hn
 obtain ⟨i, hi, rfl⟩ := List.mem_iff_getElem.1 hn
 have := h i hi
 have e : lens.getD i (0, 0) = lens[i] := by simp [List.getD, hi]
 rw [e] at this
 simp [this]

set_option maxRecDepth 100000 in
set_option maxHeartbeats 1000000 in
theorem indexQ_any (g N : Nat) (lens : List (Nat × Nat)) (most : Int) (b : Nat) (w : World) (h : LensQ w g N lens) (hN : N ≤ 1000) (hb : b < w.heap.size) (hc : w.cell? ⟨b, 0, none⟩ = some (.int .i64 most)) :
  Calls Tryz.prog 120 #[.slice (some ⟨g, 0, none⟩) N N, .func (Fn.func 73) #[] #[.pointer (some ⟨b, 0, none⟩)]] w fun e w' => (∃ r : Int, e = .returned (.int .i64 r) ∧ decide (0 ≤ r) = anyLong lens most) ∧ Below w.heap.size w w' := by
 obtain ⟨hl, hg, hlens⟩ := h
 have HL := Lib.hid hl
 have HH := Lib.hid hlens
 clear hl hlens
 go_enter Tryz.func120, Tryz.ntmps120
 go_wp2_with fail
 go_loopw [8] (fun iv wr => ∃ k : Nat, iv = .int .i64 k ∧ k ≤ N ∧ Hid (∀ i, i < k → tooLong [(lens.getD i (0, 0)).1, (lens.getD i (0, 0)).2] most = false) ∧ Below w.heap.size w wr) (fun iv _ => N - (intOf iv).toNat)
 case atStart => exact ⟨0, rfl, Nat.zero_le _, Lib.hid (fun i hi => absurd hi (by omega)), Below.refl _ _⟩
 case round =>
  obtain ⟨k, rfl, hk, HA, hbw⟩ := hrel
  by_cases hlt : k < N
  ·obtain ⟨p, A, c, q, B, d, c0, c1, c2, c3⟩ := HH.out k hlt
   have d0 : wr.cell? ⟨g, k * 4, none⟩ = _ := (hbw.cell (p := ⟨g, k * 4, none⟩) hg).trans c0
   have d1 : wr.cell? ⟨g, k * 4 + 1, none⟩ = _ := (hbw.cell (p := ⟨g, k * 4 + 1, none⟩) hg).trans c1
   have d2 : wr.cell? ⟨g, k * 4 + 2, none⟩ = _ := (hbw.cell (p := ⟨g, k * 4 + 2, none⟩) hg).trans c2
   have d3 : wr.cell? ⟨g, k * 4 + 3, none⟩ = _ := (hbw.cell (p := ⟨g, k * 4 + 3, none⟩) hg).trans c3
   have hcb := (hbw.cell (p := ⟨b, 0, none⟩) hb).trans hc
   have hbr : b < wr.heap.size := Nat.lt_of_lt_of_le hb hbw.size
   clear c0 c1 c2 c3
   obtain ⟨m, hm⟩ : ∃ m, (lens.getD k (0, 0)).1 = m := ⟨_, rfl⟩
   obtain ⟨m2, hm2⟩ : ∃ m, (lens.getD k (0, 0)).2 = m := ⟨_, rfl⟩
   rw [hm] at d1
   rw [hm2] at d3
   have HM := Lib.hid (And.intro hm hm2)
   clear hm hm2
   cases hlong : tooLong [m, m2] most with
   | true =>
    have HLo := Lib.hid hlong
    clear hlong
    go_wp2_with (go_at_call 73; refine (short1Q_any p q A B m c m2 d most b _ hbr hcb).mono ?_; rintro e w1 ⟨rfl, hb1⟩; rw [HLo.out])
    go_ret
    refine ⟨⟨(k : Int), rfl, ?_⟩, hbw.trans (hb1.mono hbw.size)⟩
    rw [anyLong_yes (k := k) (by rw [HL.out]; exact hlt) (by rw [HM.out.1, HM.out.2]; exact HLo.out)]
    simp
   | false =>
    have HLo := Lib.hid hlong
    clear hlong
    go_wp2_with (go_at_call 73; refine (short1Q_any p q A B m c m2 d most b _ hbr hcb).mono ?_; rintro e w1 ⟨rfl, hb1⟩; rw [HLo.out])
    refine ⟨⟨k + 1, by go_num, hlt, Lib.hid (fun i hi => ?_), hbw.trans (hb1.mono hbw.size)⟩, by simp [intOf]; omega⟩
    by_cases hik : i = k
    ·subst hik; rw [HM.out.1, HM.out.2]; exact HLo.out
    ·exact HA.out i (by omega)
  ·obtain rfl : k = N := by omega
   go_wp2
   go_ret
   refine ⟨⟨-1, rfl, ?_⟩, hbw⟩
   rw [anyLong_no (fun i hi => HA.out i (by rw [HL.out] at hi; exact hi))]
   decide

theorem containsQ_any (g N : Nat) (lens : List (Nat × Nat)) (most : Int) (b : Nat) (w : World) (h : LensQ w g N lens) (hN : N ≤ 1000) (hb : b < w.heap.size) (hc : w.cell? ⟨b, 0, none⟩ = some (.int .i64 most)) :
  Calls Tryz.prog 72 #[.slice (some ⟨g, 0, none⟩) N N, .func (Fn.func 73) #[] #[.pointer (some ⟨b, 0, none⟩)]] w fun e w' => e = .returned (.bool (anyLong lens most)) ∧ Below w.heap.size w w' := by
 go_enter Tryz.func72, Tryz.ntmps72
 go_wp2_with fail
 refine (indexQ_any g N lens most b w h hN hb hc).mono ?_
 rintro e w1 ⟨⟨r, rfl, hr⟩, hb1⟩
 have HR := Lib.hid hr
 clear hr
 go_wp2
 go_ret
 exact ⟨by rw [← HR.out]; rfl, hb1⟩

theorem shortQ_any (g N : Nat) (lens : List (Nat × Nat)) (most : Int) (w : World) (h : LensQ w g N lens) (hN : N ≤ 1000) :
  Calls Tryz.prog 13 #[.int .i64 most, .slice (some ⟨g, 0, none⟩) N N] w fun e w' => e = .returned (.bool (!anyLong lens most)) ∧ Below w.heap.size w w' := by
 have hmf : ∀ (fn : Fn) (first cap : Array Value) (w : World), (Instr.makeFunc fn first cap).run Tryz.prog w = .ok (.func fn first cap) w := fun _ _ _ _ => rfl
 have hA := below_alloc' w (.cells #[.int .i64 most] 3)
 have hc : (w.alloc (.cells #[.int .i64 most] 3)).cell? ⟨w.heap.size, 0, none⟩ = some (.int .i64 most) := by rw [World.cell?_alloc_at _ _ _ _ rfl]; rfl
 have HC := Lib.hid hc
 clear hc
 go_enter Tryz.func13, Tryz.ntmps13
 go_wp2_with fail
 refine (containsQ_any g N lens most w.heap.size _ (h.below hA) hN (by simp) HC.out).mono ?_
 rintro e w1 ⟨rfl, hb1⟩
 go_wp2
 go_ret
 exact ⟨rfl, hA.trans (hb1.mono (by simp))⟩

end Go.Proofs.YtbajnceoolkckaaGreat
