/-
  The law 'RationalNumbers' of chapter 3 (fractions), at every input: for any two integers and any fraction, each integer given as a sign and words of 32 bits of any value and number, the call returns true and leaves its arguments as they were.
  Conditions: none beyond the row's own cells (the named variables internal/bytealg.MaxLen and math/bits.overflowError may hold anything).
-/
import Derived.Test.YtbajnceoolkckaaGreatRows
import Derived.Test.YtbajnceoolkckaaGreatNm01
import Derived.Test.YtbajnceoolkckaaGreatNm36
import Derived.ChangeMaps5
namespace Go.Proofs.YtbajnceoolkckaaGreat
open Go.ChangeShapes Go.WideShapes Go.ChangeAt Go.RowKit Go.Joins Go.ChangeMaps

set_option maxRecDepth 100000 in
theorem rationalNumbers_lifted (os : Os) (started : os.Started) (H : Type) (enc : TypeId × Value → H) :
  ReturnsInHanded {} Tryz.checked os 3 .any (Rows.rationalNumbersSpec.pre6 enc Tryz.prog Tryz.f3 Rows.rationalNumbersRow.domain false) (Rows.rationalNumbersSpec.post enc Tryz.prog Tryz.f3 false true false false) := by
 refine returnsInHanded_of_change_shaped (C := Tryz.checked) Tryz.own started (by kernel_rfl) Tryz.func3
  (ChangeSpec.witness6 (enc := enc) (C := Tryz.checked) false ⟨#[], #[.agg #[.bool false, .slice none 0 0], .agg #[.bool false, .slice none 0 0], .agg #[.bool false, .slice none 0 0, .bool false, .slice none 0 0]], []⟩ 8 (by kernel_rfl) (by kernel_rfl) (by kernel_rfl) (by kernel_rfl)) ?_
 intro W base args ds gs before hval0 hW hcnd _ hshape _
 have hval : ∀ (j : Nat) t v, Tryz.f3.params[j]? = some t → args[j]? = some v → Value.okWide Tryz.prog W .any base t v := hval0
 have hW' := hW
 obtain ⟨p, q, hA0, hV, rfl, hfz, hnd⟩ := hW
 have hA : DataW.TrodAll enc Tryz.prog W 0 (fun _ => true) true Tryz.f3.params.toList args.toList ds p := hA0
 rw [Tryz.params3] at hA hval
 obtain ⟨v0, vs0, d0, ds0, p0, q0, hargs, rfl, rfl, h0, r0⟩ := trodAll_cons hA
 obtain ⟨v1, vs1, d1, ds1, p1, q1, rfl, rfl, rfl, h1, r1⟩ := trodAll_cons r0
 obtain ⟨v2, vs2, d2, ds2, p2, q2, rfl, rfl, rfl, h2, r2⟩ := trodAll_cons r1
 obtain ⟨rfl, rfl, rfl⟩ := trodAll_nil r2
 obtain rfl : args = #[v0, v1, v2] := by cases args; simp_all
 obtain ⟨rfl, rfl⟩ := trodVars_none hV
 have k0 := h0
 have k1 := h1
 have k2 := h2
 have lt0 : ∀ x ∈ p0, x.block < W.heap.size := by obtain ⟨m, hm⟩ := k0; exact DataW.trod_lt m _ _ _ hm
 have lt1 : ∀ x ∈ p1, x.block < W.heap.size := by obtain ⟨m, hm⟩ := k1; exact DataW.trod_lt m _ _ _ hm
 have lt2 : ∀ x ∈ p2, x.block < W.heap.size := by obtain ⟨m, hm⟩ := k2; exact DataW.trod_lt m _ _ _ hm
 obtain ⟨n0, A0, l0, c0, xs0, rfl, g0, e0⟩ := arg24 (hval 0 24 v0 rfl rfl) h0
 obtain ⟨n1, A1, l1, c1, xs1, rfl, g1, e1⟩ := arg24 (hval 1 24 v1 rfl rfl) h1
 obtain ⟨n2a, A2a, l2a, c2a, xs2a, n2b, A2b, l2b, c2b, xs2b, rfl, g2a, e2a, g2b, e2b⟩ := arg26 (hval 2 26 v2 rfl rfl) h2
 obtain ⟨ml, hml⟩ := maxlen W hshape
 clear hA0 hval0
 refine (rnumbers_any n0 n1 n2a n2b A0 A1 A2a A2b l0 c0 l1 c1 l2a c2a l2b c2b xs0 xs1 xs2a xs2b ml W g0 e0 g1 e1 g2a e2a g2b e2b hml).mono fun e W' ⟨he, bel⟩ => ?_
 subst he
 exact ⟨_, rfl, _, _, _, [], _, [], hW', trodAll_mk1 (shut_bool Tryz.underlying4 _), (trodAll_cons_mk (Below.trod Tryz.laid (by kernel_rfl) (of_decide_eq_true (by kernel_rfl)) k0 bel lt0) (trodAll_cons_mk (Below.trod Tryz.laid (by kernel_rfl) (of_decide_eq_true (by kernel_rfl)) k1 bel lt1) (trodAll_cons_mk (Below.trod Tryz.laid (by kernel_rfl) (of_decide_eq_true (by kernel_rfl)) k2 bel lt2) trodAll_mk0))), rfl, bel.frame _, fun h => by cases h⟩

theorem rationalNumbers_over : Rows.rationalNumbersRow.holds Tryz.pinned (OpenSpec.ofChange Rows.rationalNumbersSpec) :=
 OpenClaim.holds_of_wide 3 Tryz.f3 rfl rfl rfl rfl rfl rfl rfl ⟨rfl, rfl, rfl, rfl, rfl⟩ rfl rfl rfl rfl rfl (by kernel_rfl) Tryz.func3 (by kernel_rfl)
  (of_decide_eq_true (by kernel_rfl)) (by unfold Func.isWrapper; rw [if_neg (of_decide_eq_false (by kernel_rfl))]; exact ⟨rfl, rfl⟩)
  (fun os started H enc _ => rationalNumbers_lifted os started H enc)

theorem rationalNumbers_holds : Rows.RationalNumbersSaid := rationalNumbers_over
end Go.Proofs.YtbajnceoolkckaaGreat
