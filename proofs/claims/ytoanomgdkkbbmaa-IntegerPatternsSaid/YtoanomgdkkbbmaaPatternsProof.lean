/-
  The law 'IntegerPatterns' of chapter 2 (integers), at every input: for any two integers, given as a sign and words of 32 bits of any value and number, any operation, size, position and place, the call returns true and leaves its arguments as they were.
  Conditions: none beyond the row's own cells (the named variable math/bits.overflowError may hold anything).
-/
import Derived.Test.YtoanomgdkkbbmaaRows
import Derived.Test.YtoanomgdkkbbmaaCore
import Derived.Test.YtoanomgdkkbbmaaPatterns
import Derived.ChangeMaps5
namespace Go.Proofs.Ytoanomgdkkbbmaa
open Go.ChangeShapes Go.WideShapes Go.ChangeAt Go.RowKit Go.Joins Go.ChangeMaps

theorem patterns_nat (p q : Bool) (A B : Option Addr) (n c m d : Nat) (xs ys : List Int) (op sz po bit : Int) (w : World) (h : Row .u32 w A n c xs) (hd : LM.Dig xs) (g : Row .u32 w B m d ys) (gd : LM.Dig ys) (hop : 0 ≤ op ∧ op ≤ 255) (hsz : 0 ≤ sz ∧ sz ≤ 255) (hpo : 0 ≤ po ∧ po ≤ 255) (hbit : 0 ≤ bit ∧ bit ≤ 65535) :
    Calls Try.prog 13 #[.agg #[.bool p, .slice A n c], .agg #[.bool q, .slice B m d], .int .u8 op, .int .u8 sz, .int .u8 po, .int .u16 bit] w fun e w' => e = .returned (.bool true) ∧ Below w.heap.size w w' := by
  obtain ⟨o, rfl⟩ := Int.eq_ofNat_of_zero_le hop.1
  obtain ⟨s, rfl⟩ := Int.eq_ofNat_of_zero_le hsz.1
  obtain ⟨t, rfl⟩ := Int.eq_ofNat_of_zero_le hpo.1
  obtain ⟨i, rfl⟩ := Int.eq_ofNat_of_zero_le hbit.1
  exact patterns_any p q A B n c m d xs ys o s t i w h hd g gd (by omega) (by omega) (by omega) (by omega)

set_option maxRecDepth 100000 in
theorem integerPatterns_lifted (os : Os) (started : os.Started) (H : Type) (enc : TypeId × Value → H) :
    ReturnsInHanded {} Try.checked os 13 .any (Rows.integerPatternsSpec.pre6 enc Try.prog Try.f13 Rows.integerPatternsRow.domain false) (Rows.integerPatternsSpec.post enc Try.prog Try.f13 false true false false) := by
  refine returnsInHanded_of_change (C := Try.checked) Try.own started (by kernel_rfl) Try.func13
    (ChangeSpec.witness6 (enc := enc) (C := Try.checked) false ⟨#[], #[.agg #[.bool false, .slice none 0 0], .agg #[.bool false, .slice none 0 0], .int .u8 0, .int .u8 0, .int .u8 0, .int .u16 0], []⟩ 8 (by kernel_rfl) (by kernel_rfl) (by kernel_rfl) (by kernel_rfl)) ?_
  intro W base args ds gs before hval0 hW hcnd _
  have hval : ∀ (j : Nat) t v, Try.f13.params[j]? = some t → args[j]? = some v → Value.okWide Try.prog W .any base t v := hval0
  have hW' := hW
  obtain ⟨p, q, hA0, hV, rfl, hfz, hnd⟩ := hW
  have hA : DataW.TrodAll enc Try.prog W 0 (fun _ => true) true Try.f13.params.toList args.toList ds p := hA0
  rw [Try.params13] at hA hval
  obtain ⟨v0, vs0, d0, ds0, p0, q0, hargs, rfl, rfl, h0, r0⟩ := trodAll_cons hA
  obtain ⟨v1, vs1, d1, ds1, p1, q1, rfl, rfl, rfl, h1, r1⟩ := trodAll_cons r0
  obtain ⟨v2, vs2, d2, ds2, p2, q2, rfl, rfl, rfl, h2, r2⟩ := trodAll_cons r1
  obtain ⟨v3, vs3, d3, ds3, p3, q3, rfl, rfl, rfl, h3, r3⟩ := trodAll_cons r2
  obtain ⟨v4, vs4, d4, ds4, p4, q4, rfl, rfl, rfl, h4, r4⟩ := trodAll_cons r3
  obtain ⟨v5, vs5, d5, ds5, p5, q5, rfl, rfl, rfl, h5, r5⟩ := trodAll_cons r4
  obtain ⟨rfl, rfl, rfl⟩ := trodAll_nil r5
  obtain rfl : args = #[v0, v1, v2, v3, v4, v5] := by cases args; simp_all
  obtain ⟨rfl, rfl⟩ := trodVars_none hV
  have k0 := h0
  have k1 := h1
  have k2 := h2
  have k3 := h3
  have k4 := h4
  have k5 := h5
  have lt0 : ∀ x ∈ p0, x.block < W.heap.size := by obtain ⟨m, hm⟩ := k0; exact DataW.trod_lt m _ _ _ hm
  have lt1 : ∀ x ∈ p1, x.block < W.heap.size := by obtain ⟨m, hm⟩ := k1; exact DataW.trod_lt m _ _ _ hm
  have lt2 : ∀ x ∈ p2, x.block < W.heap.size := by obtain ⟨m, hm⟩ := k2; exact DataW.trod_lt m _ _ _ hm
  have lt3 : ∀ x ∈ p3, x.block < W.heap.size := by obtain ⟨m, hm⟩ := k3; exact DataW.trod_lt m _ _ _ hm
  have lt4 : ∀ x ∈ p4, x.block < W.heap.size := by obtain ⟨m, hm⟩ := k4; exact DataW.trod_lt m _ _ _ hm
  have lt5 : ∀ x ∈ p5, x.block < W.heap.size := by obtain ⟨m, hm⟩ := k5; exact DataW.trod_lt m _ _ _ hm
  obtain ⟨n0, A0, l0, c0, xs0, rfl, g0, e0⟩ := arg24 (hval 0 24 v0 rfl rfl) h0
  obtain ⟨n1, A1, l1, c1, xs1, rfl, g1, e1⟩ := arg24 (hval 1 24 v1 rfl rfl) h1
  obtain ⟨N2, rfl, _, _, hN2⟩ := open_int Try.underlying5 (hval 2 5 v2 rfl rfl) h2
  have M2 : 0 ≤ N2 ∧ N2 ≤ 255 := by simp [Lit.wf, IntKind.min, IntKind.max, IntKind.signed, IntKind.bits] at hN2; omega
  obtain ⟨N3, rfl, _, _, hN3⟩ := open_int Try.underlying5 (hval 3 5 v3 rfl rfl) h3
  have M3 : 0 ≤ N3 ∧ N3 ≤ 255 := by simp [Lit.wf, IntKind.min, IntKind.max, IntKind.signed, IntKind.bits] at hN3; omega
  obtain ⟨N4, rfl, _, _, hN4⟩ := open_int Try.underlying5 (hval 4 5 v4 rfl rfl) h4
  have M4 : 0 ≤ N4 ∧ N4 ≤ 255 := by simp [Lit.wf, IntKind.min, IntKind.max, IntKind.signed, IntKind.bits] at hN4; omega
  obtain ⟨N5, rfl, _, _, hN5⟩ := open_int Try.underlying63 (hval 5 63 v5 rfl rfl) h5
  have M5 : 0 ≤ N5 ∧ N5 ≤ 65535 := by simp [Lit.wf, IntKind.min, IntKind.max, IntKind.signed, IntKind.bits] at hN5; omega
  clear hA0 hval0
  refine (patterns_nat n0 n1 A0 A1 l0 c0 l1 c1 xs0 xs1 N2 N3 N4 N5 W g0 e0 g1 e1 M2 M3 M4 M5).mono fun e W' ⟨he, bel⟩ => ?_
  subst he
  exact ⟨_, rfl, _, _, _, [], _, [], hW', trodAll_mk1 (shut_bool Try.underlying4 _), (trodAll_cons_mk (Below.trod Try.laid (by kernel_rfl) (of_decide_eq_true (by kernel_rfl)) k0 bel lt0) (trodAll_cons_mk (Below.trod Try.laid (by kernel_rfl) (of_decide_eq_true (by kernel_rfl)) k1 bel lt1) (trodAll_cons_mk (Below.trod Try.laid (by kernel_rfl) (of_decide_eq_true (by kernel_rfl)) k2 bel lt2) (trodAll_cons_mk (Below.trod Try.laid (by kernel_rfl) (of_decide_eq_true (by kernel_rfl)) k3 bel lt3) (trodAll_cons_mk (Below.trod Try.laid (by kernel_rfl) (of_decide_eq_true (by kernel_rfl)) k4 bel lt4) (trodAll_cons_mk (Below.trod Try.laid (by kernel_rfl) (of_decide_eq_true (by kernel_rfl)) k5 bel lt5) trodAll_mk0)))))), rfl, bel.frame _, fun h => by cases h⟩

theorem integerPatterns_over : Rows.integerPatternsRow.holds Try.pinned (OpenSpec.ofChange Rows.integerPatternsSpec) :=
  OpenClaim.holds_of_wide 13 Try.f13 rfl rfl rfl rfl rfl rfl rfl ⟨rfl, rfl, rfl, rfl, rfl⟩ rfl rfl rfl rfl rfl (by kernel_rfl) Try.func13 (by kernel_rfl)
    (of_decide_eq_true (by kernel_rfl)) (by unfold Func.isWrapper; rw [if_neg (of_decide_eq_false (by kernel_rfl))]; exact ⟨rfl, rfl⟩)
    (fun os started H enc _ => integerPatterns_lifted os started H enc)

theorem integerPatterns_holds : Rows.IntegerPatternsSaid := integerPatterns_over
end Go.Proofs.Ytoanomgdkkbbmaa
