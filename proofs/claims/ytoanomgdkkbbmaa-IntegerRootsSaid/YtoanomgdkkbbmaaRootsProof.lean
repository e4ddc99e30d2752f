/-
  The law 'IntegerRoots' of chapter 2 (integers), at every input: for any integer, given as a sign and words of 32 bits of any value and number, and any two exponents, the call returns true and leaves its arguments as they were.
  Conditions: none beyond the row's own cells (the named variable math/bits.overflowError may hold anything).
-/
import Derived.Test.YtoanomgdkkbbmaaRows
import Derived.Test.YtoanomgdkkbbmaaCore
import Derived.Test.YtoanomgdkkbbmaaRootsLaw
import Derived.ChangeMaps5
namespace Go.Proofs.Ytoanomgdkkbbmaa
open Go.ChangeShapes Go.WideShapes Go.ChangeAt Go.RowKit Go.Joins Go.ChangeMaps

theorem roots_all (p : Bool) (A : Option Addr) (n c : Nat) (xs : List Int) (a b : Int) (w : World) (h : Row .u32 w A n c xs) (hd : LM.Dig xs) (ha : 0 ≤ a ∧ a ≤ 255) (hb : 0 ≤ b ∧ b ≤ 255) :
    Calls Try.prog 12 #[.agg #[.bool p, .slice A n c], .int .u8 a, .int .u8 b] w fun e w' => e = .returned (.bool true) ∧ Below w.heap.size w w' := by
  obtain ⟨s, rfl⟩ := Int.eq_ofNat_of_zero_le ha.1
  obtain ⟨t, rfl⟩ := Int.eq_ofNat_of_zero_le hb.1
  exact roots_any p A n c xs s t w h hd (by omega) (by omega)

set_option maxRecDepth 100000 in
theorem integerRoots_lifted (os : Os) (started : os.Started) (H : Type) (enc : TypeId × Value → H) :
    ReturnsInHanded {} Try.checked os 12 .any (Rows.integerRootsSpec.pre6 enc Try.prog Try.f12 Rows.integerRootsRow.domain false) (Rows.integerRootsSpec.post enc Try.prog Try.f12 false true false false) := by
  refine returnsInHanded_of_change (C := Try.checked) Try.own started (by kernel_rfl) Try.func12
    (ChangeSpec.witness6 (enc := enc) (C := Try.checked) false ⟨#[], #[.agg #[.bool false, .slice none 0 0], .int .u8 0, .int .u8 0], []⟩ 8 (by kernel_rfl) (by kernel_rfl) (by kernel_rfl) (by kernel_rfl)) ?_
  intro W base args ds gs before hval0 hW hcnd _
  have hval : ∀ (j : Nat) t v, Try.f12.params[j]? = some t → args[j]? = some v → Value.okWide Try.prog W .any base t v := hval0
  have hW' := hW
  obtain ⟨p, q, hA0, hV, rfl, hfz, hnd⟩ := hW
  have hA : DataW.TrodAll enc Try.prog W 0 (fun _ => true) true Try.f12.params.toList args.toList ds p := hA0
  rw [Try.params12] at hA hval
  obtain ⟨v0, vs0, d0, ds0, p0, q0, hargs, rfl, rfl, h0, r0⟩ := trodAll_cons hA
  obtain ⟨v1, vs1, d1, ds1, p1, q1, rfl, rfl, rfl, h1, r1⟩ := trodAll_cons r0
  obtain ⟨v2, vs2, d2, ds2, p2, q2, rfl, rfl, rfl, h2, r2⟩ := trodAll_cons r1
  obtain ⟨rfl, rfl, rfl⟩ := trodAll_nil r2
  obtain rfl : args = #[v0, v1, v2] := by cases args; simp_all
  obtain ⟨rfl, rfl⟩ := trodVars_none hV
  have k0 := h0
  have k1 := h1
  have k2 := h2
  have lt0 : ∀ x ∈ p0, x.block < W.heap.size := by obtain ⟨m, hm⟩ := k0; exact DataW.trod_lt m _ _ _ hm
  have lt1 : ∀ x ∈ p1, x.block < W.heap.size := by obtain ⟨m, hm⟩ := k1; exact DataW.trod_lt m _ _ _ hm
  have lt2 : ∀ x ∈ p2, x.block < W.heap.size := by obtain ⟨m, hm⟩ := k2; exact DataW.trod_lt m _ _ _ hm
  obtain ⟨n0, A0, l0, c0, xs0, rfl, g0, e0⟩ := arg24 (hval 0 24 v0 rfl rfl) h0
  obtain ⟨N1, rfl, _, _, hN1⟩ := open_int Try.underlying5 (hval 1 5 v1 rfl rfl) h1
  have M1 : 0 ≤ N1 ∧ N1 ≤ 255 := by simp [Lit.wf, IntKind.min, IntKind.max, IntKind.signed, IntKind.bits] at hN1; omega
  obtain ⟨N2, rfl, _, _, hN2⟩ := open_int Try.underlying5 (hval 2 5 v2 rfl rfl) h2
  have M2 : 0 ≤ N2 ∧ N2 ≤ 255 := by simp [Lit.wf, IntKind.min, IntKind.max, IntKind.signed, IntKind.bits] at hN2; omega
  clear hA0 hval0
  refine (roots_all n0 A0 l0 c0 xs0 N1 N2 W g0 e0 M1 M2).mono fun e W' ⟨he, bel⟩ => ?_
  subst he
  exact ⟨_, rfl, _, _, _, [], _, [], hW', trodAll_mk1 (shut_bool Try.underlying4 _), (trodAll_cons_mk (Below.trod Try.laid (by kernel_rfl) (of_decide_eq_true (by kernel_rfl)) k0 bel lt0) (trodAll_cons_mk (Below.trod Try.laid (by kernel_rfl) (of_decide_eq_true (by kernel_rfl)) k1 bel lt1) (trodAll_cons_mk (Below.trod Try.laid (by kernel_rfl) (of_decide_eq_true (by kernel_rfl)) k2 bel lt2) trodAll_mk0))), rfl, bel.frame _, fun h => by cases h⟩

theorem integerRoots_over : Rows.integerRootsRow.holds Try.pinned (OpenSpec.ofChange Rows.integerRootsSpec) :=
  OpenClaim.holds_of_wide 12 Try.f12 rfl rfl rfl rfl rfl rfl rfl ⟨rfl, rfl, rfl, rfl, rfl⟩ rfl rfl rfl rfl rfl (by kernel_rfl) Try.func12 (by kernel_rfl)
    (of_decide_eq_true (by kernel_rfl)) (by unfold Func.isWrapper; rw [if_neg (of_decide_eq_false (by kernel_rfl))]; exact ⟨rfl, rfl⟩)
    (fun os started H enc _ => integerRoots_lifted os started H enc)

theorem integerRoots_holds : Rows.IntegerRootsSaid := integerRoots_over
end Go.Proofs.Ytoanomgdkkbbmaa
