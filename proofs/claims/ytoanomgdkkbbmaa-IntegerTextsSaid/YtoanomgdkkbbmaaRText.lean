/- The reference's Text. -/
import Derived.Test.YtoanomgdkkbbmaaRTMath
namespace Go.Proofs.Ytoanomgdkkbbmaa
open Go.RowKit LM

theorem rText_bad (p : Bool) (A : Option Addr) (n c : Nat) (R : Int) (w : World) (hR : R < 2 ∨ 36 < R) :
    Calls Try.prog 61 #[.agg #[.bool p, .slice A n c], .int .i64 R] w fun e w' => e = .returned (.tuple #[.string ⟨#[]⟩, .int .i64 1]) ∧ Below w.heap.size w w' := by
  by_cases hR2 : R < 2
  · go_enter Try.func61, Try.ntmps61
    go_wp2
    go_ret2
    exact ⟨rfl, below_alloc _ _⟩
  · have hR3 : 36 < R := by omega
    clear hR
    go_enter Try.func61, Try.ntmps61
    go_wp2
    go_ret2
    exact ⟨rfl, below_alloc _ _⟩

theorem rText_zero (A : Option Addr) (c : Nat) (R : Int) (w : World) (hR : 2 ≤ R) (hR2 : R ≤ 36) :
    Calls Try.prog 61 #[.agg #[.bool false, .slice A 0 c], .int .i64 R] w fun e w' => e = .returned (.tuple #[.string ⟨#[48]⟩, .int .i64 0]) ∧ Below w.heap.size w w' := by
  have hW := below_alloc w (.cells #[.bool false, .slice A 0 c] 31)
  go_enter Try.func61, Try.ntmps61
  go_wp2_with fail
  go_loopw [6, 7, 9] (fun sv dv _ wr => sv = .string ⟨#[]⟩ ∧ dv = .slice A 0 c ∧ w.alloc (.cells #[.bool false, .slice A 0 c] 31) = wr) (fun _ _ _ _ => 0)
  case atStart => exact ⟨rfl, rfl, rfl⟩
  case round =>
    obtain ⟨rfl, rfl, rfl⟩ := hrel
    go_wp2_with fail
    go_ret2
    exact ⟨rfl, hW⟩

theorem box31 {w w' : World} {p : Bool} {u : Value} (h : Below (w.heap.size + 1) (w.alloc (.cells #[.bool p, u] 31)) w') : w'.cell? ⟨w.heap.size, 0, none⟩ = some (.bool p) ∧ w'.cell? ⟨w.heap.size, 1, none⟩ = some u := by
  refine ⟨?_, ?_⟩
  · rw [h.cell (by simp), World.cell?_alloc_at _ _ _ _ (by simp)]; rfl
  · rw [h.cell (by simp), World.cell?_alloc_at _ _ _ _ (by simp)]; rfl

set_option maxRecDepth 100000 in
set_option maxHeartbeats 4000000 in
theorem rText_some (p : Bool) (A : Option Addr) (n c : Nat) (xs : List Int) (R : Int) (w : World) (h : Row .i64 w A n c xs) (hd : DigR 65536 xs) (ht : Trimmed xs) (hn : n ≤ 1000) (hR : 2 ≤ R) (hR2 : R ≤ 36) (hz : valR 65536 xs ≠ 0) :
    Calls Try.prog 61 #[.agg #[.bool p, .slice A n c], .int .i64 R] w fun e w' => (∃ S ds, DigitsOf R (valR 65536 xs) ds ∧ bs S = textBytes p ds ∧ e = .returned (.tuple #[.string S, .int .i64 0])) ∧ Below w.heap.size w w' := by
  obtain ⟨i0, hi, hz0, hz1, hz2⟩ := info_parts Try.info3
  have hW := below_alloc w (.cells #[.bool p, .slice A n c] 31)
  have h0 := h.below hW
  have hzp : 0 < valR 65536 xs := by have := valR_nonneg (by decide : (0 : Int) ≤ 65536) hd; omega
  have HZ := Lib.hid hzp
  have HROW := Lib.hid h0
  have HDT := Lib.hid (And.intro hd ht)
  have hxl : xs.length = n := h.1
  have HLT := Lib.hid (show valR 65536 xs < BB ^ n by
    have e := valR_lt (R := 65536) (by decide) hd
    have e2 : (65536 : Int) ^ xs.length ≤ BB ^ n := by
      rw [hxl]
      exact pow_mono65 n
    omega)
  clear h h0 hd ht hz hzp hxl
  go_enter Try.func61, Try.ntmps61
  go_wp2_with fail
  go_loopw [6, 7, 9] (fun sv dv _ wr => ∃ (S : ByteArray) (A' : Option Addr) (n' c' : Nat) (ys ds : List Int), sv = .string S ∧ dv = .slice A' n' c' ∧ n' ≤ n ∧ Row .i64 wr A' n' c' ys ∧ Hid (DigR 65536 ys ∧ Trimmed ys) ∧ Hid (TxRel R (valR 65536 xs) ds (valR 65536 ys)) ∧ Hid (bs S = (ds.map nameOf).reverse) ∧ S.size = ds.length ∧ ds.length ≤ 32 * n ∧ Below (w.heap.size + 1) (w.alloc (.cells #[.bool p, .slice A n c] 31)) wr) (fun sv _ _ _ => match sv with | .string S => 32 * n - S.size | _ => 0)
  case atStart => exact ⟨ByteArray.empty, A, n, c, xs, [], rfl, rfl, Nat.le_refl _, HROW.out, HDT, Lib.hid (TxRel.start HZ.out), Lib.hid rfl, rfl, Nat.zero_le _, Below.refl _ _⟩
  case round =>
    obtain ⟨S, A', n', c', ys, ds, rfl, rfl, hn', hrow, HY, HX, HS, hsz, hdl, hb⟩ := hrel
    have HB := Lib.hid hb
    have HR := Lib.hid hrow
    have hyl : ys.length = n' := hrow.1
    have HYL := Lib.hid hyl
    have hbs : w.heap.size + 1 ≤ wr.heap.size := by have := hb.size; simpa using this
    clear hrow hb hyl
    by_cases hlt : 0 < n'
    · have hyp : 0 < valR 65536 ys := by
        have h1 := valR_nonneg (by decide : (0 : Int) ≤ 65536) HY.out.1
        have h2 := valR_zero_iff HY.out.1 HY.out.2
        rcases Int.lt_or_eq_of_le h1 with h | h
        · exact h
        · have := congrArg List.length (h2.1 h.symm); rw [HYL.out] at this; simp at this; omega
      have hlen : ds.length < 32 * n := len_bound hR (HX.out.len hR hyp) HLT.out
      have HXN := Lib.hid (HX.out.step hR hyp)
      have HYP := Lib.hid hyp
      clear hyp
      go_wp2_with (at_make; refine wpList_make_full _ rfl _ _ 29 rfl wr.heap.size 3 i0 (.int .i64 0) 1 Try.underlying29 hi hz0 hz1 _ _ _ _ n' rfl rfl (by omega) (by omega) (by rw [hz2]; omega) (by unfold maxLen; omega) (Nat.le_refl _) ?_; intro w1 hown hgrow)
      obtain ⟨wo, rfl⟩ : ∃ wo : World, wo = wr := ⟨_, rfl⟩
      go_loopw [9, 10] (fun rv iv wx => ∃ (k : Nat) (r : Nat) (qs : List Int), iv = .int .i64 ((k : Int) - 1) ∧ rv = .int .i64 r ∧ k ≤ n' ∧ Hid (RDiv R ys qs k r) ∧ Ints64 wx wo.heap.size (.slice (some ⟨wo.heap.size, 0, none⟩) n' n') (List.replicate k 0 ++ qs) ∧ Below wo.heap.size wo wx) (fun _ iv _ => (intOf iv + 1).toNat)
      case atStart =>
        refine ⟨n', 0, [], rfl, rfl, Nat.le_refl _, Lib.hid (by have := RDiv.start (R := R) ys hR; rw [HYL.out] at this; exact this), ?_, (Below.refl _ _).grown hgrow (Nat.le_refl _) (fun _ h => by cases h)⟩
        rw [zeros_made64] at hown
        unfold Ints64
        rw [List.append_nil, List.length_replicate]
        exact hown
      case round =>
        obtain ⟨k, r, qs, rfl, rfl, hk, HV, hown, hbx⟩ := hrel
        have HO := Lib.hid hown
        have HBX := Lib.hid hbx
        clear hown hbx
        have hql : qs.length = n' - k := by have := HV.out.2.2.2.1; rw [HYL.out] at this; exact this
        have hr36 : (r : Int) < 36 := by have := HV.out.2.2.1; omega
        have HQL := Lib.hid (show (List.replicate k 0 ++ qs).length = n' by simp [hql]; omega)
        clear hql
        by_cases hk0 : k = 0
        · subst hk0
          obtain ⟨v1, v2, v3, v4⟩ := HV.out.done hR
          have HD1 := Lib.hid v1
          have HD2 := Lib.hid v2
          have HD3 := Lib.hid v3
          have hrowq : Row .i64 wr (some ⟨wo.heap.size, 0, none⟩) n' n' qs := by
            have := HO.out
            unfold Ints64 at this
            rw [HQL.out] at this
            exact Row.of_own this
          have HRQ := Lib.hid hrowq
          clear v1 v2 v3 v4 hrowq
          go_wp2_with fail
          refine (rtrim_any _ n' n' qs _ HRQ.out (by omega)).mono ?_
          rintro e w' ⟨A2, k2, c2, hk2, rfl, rfl, hrow2, hv2, ht2⟩
          have HROW2 := Lib.hid hrow2
          have HV2 := Lib.hid hv2
          have HT2 := Lib.hid ht2
          clear hrow2 hv2 ht2
          obtain ⟨D, hD⟩ : ∃ D, DIG.extract r (r + 1) = D := ⟨_, rfl⟩
          have HDN := Lib.hid (show bs D = [nameOf r] by rw [← hD]; exact dig_name r (by omega))
          have hDs : D.size = 1 := by rw [← bs_length, HDN.out]; rfl
          have HDS := Lib.hid hDs
          clear hDs
          unfold DIG at hD
          have q1 : IntKind.i64.wrap ((r : Int) + 1) = (r : Int) + 1 := by rw [IntKind.wrap_i64]; omega
          have q2 : ((r : Int) + 1).toNat = r + 1 := by omega
          have hno : ¬ 9223372036854775807 < D.size + ds.length := by rw [HDS.out]; omega
          have HSZ := Lib.hid hsz
          go_wp2_with fail
          refine ⟨⟨D ++ S, A2, k2, c2, qs.take k2, ds ++ [valR 65536 ys % R], rfl, rfl, by omega, HROW2.out, Lib.hid ⟨HD3.out.take _, HT2.out⟩, Lib.hid ?_, Lib.hid ?_, ?_, ?_, HB.out.trans (HBX.out.mono (B' := w.heap.size + 1) hbs)⟩, ?_⟩
          · rw [HV2.out, HD1.out]; exact HXN.out
          · rw [bs_append, HDN.out, HS.out, HD2.out]; simp
          · rw [ByteArray.size_append, HDS.out, HSZ.out]; simp; omega
          · simp; omega
          · simp only [ByteArray.size_append, HDS.out, HSZ.out]; omega
        · obtain ⟨b, o, rfl, hbx, hx⟩ := HR.out.2.2 (by omega)
          obtain ⟨x, ex⟩ : ∃ x, ys.getD (k - 1) 0 = x := ⟨_, rfl⟩
          have hx1 : wr.cell? ⟨b, o + (k - 1), none⟩ = some (.int .i64 x) := by rw [← ex]; exact (HBX.out.cell (p := ⟨b, o + (k - 1), none⟩) hbx).trans (hx (k - 1) (by omega))
          obtain ⟨x0, x1, hstep⟩ := HV.out.step hR hR2 hk0 HY.out.1 ex
          obtain ⟨g, hg, _, hcell, hfr, hset⟩ := HO.out.at HQL.out (show k - 1 < n' by omega)
          obtain rfl : wo.heap.size = g := by simpa using hg
          have hr0 : 0 ≤ (r : Int) := by omega
          obtain ⟨m, hm⟩ : ∃ m : Nat, ((r : Int) * 65536 + x) % R = (m : Int) := ⟨(((r : Int) * 65536 + x) % R).toNat, by have := Int.emod_nonneg ((r : Int) * 65536 + x) (show R ≠ 0 by omega); omega⟩
          have hown' := hset (((r : Int) * 65536 + x) / R)
          rw [zeros_set qs k hk0] at hown'
          rw [hm] at hstep
          have HST := Lib.hid hstep
          have HOW := Lib.hid hown'
          have HBN := Lib.hid (HBX.out.setCell (p := ⟨wo.heap.size, k - 1, none⟩) (Nat.le_refl _) (.int .i64 (((r : Int) * 65536 + x) / R)))
          have dq : 0 ≤ ((r : Int) * 65536 + x) / R ∧ ((r : Int) * 65536 + x) / R ≤ (r : Int) * 65536 + x := ⟨Int.ediv_nonneg (by omega) (by omega), Int.ediv_le_self _ (by omega)⟩
          clear ex hx hg hset hstep hown'
          have q1 : (0 : Int) ≤ (k : Int) - 1 := by omega
          have q2 : (k : Int) - 1 < (n' : Int) := by omega
          have q3 : ((k : Int) - 1).toNat = k - 1 := by omega
          have q4 : IntKind.i64.wrap ((r : Int) * 65536) = (r : Int) * 65536 := by rw [IntKind.wrap_i64]; omega
          have q5 : IntKind.i64.wrap ((r : Int) * 65536 + x) = (r : Int) * 65536 + x := by rw [IntKind.wrap_i64]; omega
          have q6 : ((r : Int) * 65536 + x).tdiv R = ((r : Int) * 65536 + x) / R := Int.tdiv_eq_ediv_of_nonneg (by omega)
          have q7 : ((r : Int) * 65536 + x).tmod R = (m : Int) := by rw [← hm]; exact Int.tmod_eq_emod_of_nonneg (by omega)
          have q8 : IntKind.i64.wrap (((r : Int) * 65536 + x) / R) = ((r : Int) * 65536 + x) / R := by rw [IntKind.wrap_i64]; omega
          have q9 : R ≠ 0 := by omega
          have q10 : R ≠ -1 := by omega
          clear dq hm
          go_wp2_with fail
          exact ⟨⟨k - 1, m, _, by go_num, rfl, by omega, HST, HOW.out, HBN.out⟩, by simp [intOf]; omega⟩
    · obtain rfl : n' = 0 := by omega
      have hy0 : ys = [] := List.eq_nil_of_length_eq_zero HYL.out
      have HDG := Lib.hid (show DigitsOf R (valR 65536 xs) ds by have := HX.out; rw [hy0] at this; exact this.done)
      have hse : S.size ≠ 0 := by
        rw [hsz]; intro h; exact HDG.out.2.2.1 (List.eq_nil_of_length_eq_zero h)
      have hem := isEmpty_size hse
      have hno : ¬ 9223372036854775807 < 1 + ds.length := by omega
      have HSZ := Lib.hid hsz
      obtain ⟨e1, e2⟩ := box31 HB.out
      clear hse hy0
      cases p with
      | false =>
        go_wp2_with fail
        go_ret2
        exact ⟨⟨S, ds, HDG.out, by rw [HS.out]; rfl, rfl⟩, hW.trans (HB.out.mono (by omega))⟩
      | true =>
        go_wp2_with fail
        go_ret2
        refine ⟨⟨_, ds, HDG.out, ?_, rfl⟩, hW.trans (HB.out.mono (by omega))⟩
        rw [bs_append, HS.out]; rfl

end Go.Proofs.Ytoanomgdkkbbmaa
