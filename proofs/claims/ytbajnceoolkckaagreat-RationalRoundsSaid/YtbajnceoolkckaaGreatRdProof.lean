/-
 The law 'RationalRounds' of chapter 3 (fractions),at every input: for any two fractions,each given as two integers,a sign and words of 32 bits of any value and number each,the call returns true and leaves its arguments as they were.
 Conditions: none beyond the row's own cells (the named variables internal/bytealg.MaxLen and math/bits.overflowError may hold anything).
-/
import Derived.Test.YtbajnceoolkckaaGreatRd37
import Derived.ChangeMaps5
set_option maxRecDepth 100000
set_option maxHeartbeats 16000000
namespace Go.Proofs.YtbajnceoolkckaaGreat
open Go.ChangeShapes Go.WideShapes Go.ChangeAt Go.RowKit Go.Joins Go.ChangeMaps

theorem rationalRounds_lifted (os:Os) (started:os.Started) (H:Type) (enc:TypeId × Value -> H) :
  ReturnsInHanded {} Tryz.checked os 9 .any (Rows.rationalRoundsSpec.pre6 enc Tryz.prog Tryz.f9 Rows.rationalRoundsRow.domain false) (Rows.rationalRoundsSpec.post enc Tryz.prog Tryz.f9 false true false false):=by
 refine returnsInHanded_of_change_shaped (C:=Tryz.checked) Tryz.own started (by kernel_rfl) Tryz.func9
  (ChangeSpec.witness6 (enc:=enc) (C:=Tryz.checked) false ⟨#[],#[.agg #[.bool false,.slice none 0 0,.bool false,.slice none 0 0],.agg #[.bool false,.slice none 0 0,.bool false,.slice none 0 0]],[]⟩ 8 (by kernel_rfl) (by kernel_rfl) (by kernel_rfl) (by kernel_rfl)) ?_
 intro W base args ds gs before hval0 hW hcnd _ hshape _
 have hval:∀ (j:Nat) t v,Tryz.f9.params[j]? = some t -> args[j]? = some v -> Value.okWide Tryz.prog W .any base t v:=hval0
 have hW':=hW
 obtain ⟨p,q,hA0,hV,rfl,hfz,hnd⟩:=hW
 have hA:DataW.TrodAll enc Tryz.prog W 0 (fun _=>true) true Tryz.f9.params.toList args.toList ds p:=hA0
 rw [Tryz.params9] at hA hval
 obtain ⟨v0,vs0,d0,ds0,p0,q0,hargs,rfl,rfl,h0,r0⟩:=trodAll_cons hA
 obtain ⟨v1,vs1,d1,ds1,p1,q1,rfl,rfl,rfl,h1,r1⟩:=trodAll_cons r0
 obtain ⟨rfl,rfl,rfl⟩:=trodAll_nil r1
 obtain rfl:args = #[v0,v1]:=by cases args;simp_all
 obtain ⟨rfl,rfl⟩:=trodVars_none hV
 have k0:=h0
 have k1:=h1
 have lt0:∀ x ∈ p0,x.block < W.heap.size:=by obtain ⟨m,hm⟩:=k0;exact DataW.trod_lt m _ _ _ hm
 have lt1:∀ x ∈ p1,x.block < W.heap.size:=by obtain ⟨m,hm⟩:=k1;exact DataW.trod_lt m _ _ _ hm
 obtain ⟨n0a,A0a,l0a,c0a,xs0a,n0b,A0b,l0b,c0b,xs0b,rfl,g0a,e0a,g0b,e0b⟩:=arg26 (hval 0 26 v0 rfl rfl) h0
 obtain ⟨n1a,A1a,l1a,c1a,xs1a,n1b,A1b,l1b,c1b,xs1b,rfl,g1a,e1a,g1b,e1b⟩:=arg26 (hval 1 26 v1 rfl rfl) h1
 obtain ⟨ml,hml⟩:=maxlen W hshape
 clear hA0 hval0
 refine (rrounds_any n0a n0b n1a n1b A0a A0b A1a A1b l0a c0a l0b c0b l1a c1a l1b c1b xs0a xs0b xs1a xs1b ml W g0a e0a g0b e0b g1a e1a g1b e1b hml).mono fun e W' ⟨he,bel⟩=>?_
 subst he
 exact ⟨_,rfl,_,_,_,[],_,[],hW',trodAll_mk1 (shut_bool Tryz.underlying4 _),(trodAll_cons_mk (Below.trod Tryz.laid (by kernel_rfl) (of_decide_eq_true (by kernel_rfl)) k0 bel lt0) (trodAll_cons_mk (Below.trod Tryz.laid (by kernel_rfl) (of_decide_eq_true (by kernel_rfl)) k1 bel lt1) trodAll_mk0)),rfl,bel.frame _,fun h=>by cases h⟩

theorem rationalRounds_over:Rows.rationalRoundsRow.holds Tryz.pinned (OpenSpec.ofChange Rows.rationalRoundsSpec):=
 OpenClaim.holds_of_wide 9 Tryz.f9 rfl rfl rfl rfl rfl rfl rfl ⟨rfl,rfl,rfl,rfl,rfl⟩ rfl rfl rfl rfl rfl (by kernel_rfl) Tryz.func9 (by kernel_rfl)
  (of_decide_eq_true (by kernel_rfl)) (by unfold Func.isWrapper;rw [if_neg (of_decide_eq_false (by kernel_rfl))];exact ⟨rfl,rfl⟩)
  (fun os started H enc _=>rationalRounds_lifted os started H enc)

theorem rationalRounds_holds:Rows.RationalRoundsSaid:=rationalRounds_over
end Go.Proofs.YtbajnceoolkckaaGreat
