/- short: division by one digit. -/
import Derived.Test.YtoanomgdkkbbmaaDiv
namespace Go.Proofs.Ytoanomgdkkbbmaa
open Go.RowKit LM

/-- The digits from k on are divided. -/
def ShortRel (w wr : World) (n : Nat) (xs : List Int) (y : Int) (k : Nat) (r : Int) : Prop :=
  k ≤ n ∧ (0 ≤ r ∧ r < y) ∧ Below w.heap.size w wr ∧ ∃ qs : List Int, qs.length = n - k ∧ Dig qs ∧ val (xs.drop k) = y * val qs + r ∧
    Own wr w.heap.size w.heap.size n (List.replicate k 0 ++ qs)

theorem ShortRel.cells {w wr : World} {n : Nat} {xs : List Int} {y : Int} {k : Nat} {r : Int} (h : ShortRel w wr n xs y k r) (hk : k ≠ 0) :
    (∃ u, wr.cell? ⟨w.heap.size, k - 1, none⟩ = some (.int .u32 u)) ∧ wr.frozen? ⟨w.heap.size, k - 1, none⟩ = false := by
  obtain ⟨hkn, _, _, qs, _, _, _, ho⟩ := h
  exact ⟨⟨_, ho.cell (by omega)⟩, ho.frozen _⟩

theorem zeros_set (qs : List Int) (k : Nat) (hk : k ≠ 0) (u : Int) : (List.replicate k 0 ++ qs).set (k - 1) u = List.replicate (k - 1) 0 ++ u :: qs := by
  obtain ⟨j, rfl⟩ : ∃ j, k = j + 1 := ⟨k - 1, by omega⟩
  rw [Nat.add_sub_cancel, List.replicate_succ', List.append_assoc, List.set_append_right _ _ (by simp)]
  simp

theorem ShortRel.step {w wr : World} {n : Nat} {xs : List Int} {y : Int} {k : Nat} {r x : Int} (h : ShortRel w wr n xs y k r) (hk : k ≠ 0) (hl : xs.length = n) (hx : 0 ≤ x ∧ x < 4294967296) (hy : y < 4294967296) (ex : xs.getD (k - 1) 0 = x) (q : Nat) :
    ShortRel w ((wr.drewN q).setCell ⟨w.heap.size, k - 1, none⟩ (.int .u32 ((r * 4294967296 + x) / y))) n xs y (k - 1) ((r * 4294967296 + x) % y) := by
  obtain ⟨hkn, hr, hb, qs, hql, hqd, hv, ho⟩ := h
  have z0 : 0 ≤ r * 4294967296 + x := by omega
  have hset := (ho.drewN q).set (k - 1) ((r * 4294967296 + x) / y)
  rw [zeros_set qs k hk] at hset
  refine ⟨by omega, ⟨Int.emod_nonneg _ (by omega), Int.emod_lt_of_pos _ (by omega)⟩, (below_drewN hb q).setCell (Nat.le_refl _) _, (r * 4294967296 + x) / y :: qs, by simp [hql]; omega, ?_, ?_, hset⟩
  · rw [Dig.cons_iff]
    exact ⟨⟨Int.ediv_nonneg z0 (by omega), Int.ediv_lt_of_lt_mul (by omega) (by rw [BB_def]; omega)⟩, hqd⟩
  · rw [drop_cons xs (k - 1) (by omega), ex, val_cons, val_cons, show k - 1 + 1 = k from by omega, hv]
    have e1 : y * ((r * 4294967296 + x) / y) + (r * 4294967296 + x) % y = r * 4294967296 + x := Int.mul_ediv_add_emod _ _
    have e2 : BB * (y * val qs + r) = y * (BB * val qs) + r * 4294967296 := by rw [BB_def]; grind
    rw [e2, Int.mul_add y]
    omega

/-- The digits lie in a block of words. -/
def Words (w : World) (v : Value) : Prop := ∀ A n c, v = .slice A n c → n ≠ 0 → ∃ b o cs fr, A = some ⟨b, o, none⟩ ∧ w.heap[b]? = some (.cells cs 99 fr)

theorem Own.block {w : World} {base g n : Nat} {xs : List Int} (h : Own w base g n xs) : ∃ cs fr, w.heap[g]? = some (.cells cs 99 fr) := by
  rcases h.2 with ⟨h', _⟩ | ⟨g', cap, cur, h', _, hh, _⟩
  · simp at h'
  · simp only [Value.slice.injEq, Option.some.injEq, Addr.mk.injEq, and_true] at h'
    obtain ⟨rfl, _⟩ := h'
    exact ⟨_, _, hh⟩

set_option maxRecDepth 100000 in
set_option maxHeartbeats 400000 in
theorem sdiv_words (A : Option Addr) (n c : Nat) (xs : List Int) (y : Int) (w : World) (h : Row .u32 w A n c xs) (hn : n ≤ 1048577) (hdx : Dig xs) (hy0 : 0 < y) (hy1 : y < 4294967296) :
    Calls Try.prog 118 #[.slice A n c, .int .u32 y] w fun e w' => ∃ v, e = .returned (.tuple #[v, .int .u32 (val xs % y)]) ∧ Num w' v (val xs / y) n ∧ Words w' v ∧ Below w.heap.size w w' := by
  obtain ⟨i0, hi, hz0, hz1, hz2⟩ := info_parts Try.info99
  obtain ⟨hl, hc, hcell⟩ := h
  have HL := Lib.hid hl
  clear hl
  go_enter Try.func118, Try.ntmps118
  go_wp2_with (at_make; refine wpList_make_full _ rfl _ _ 22 rfl w.heap.size 99 i0 (.int .u32 0) 1 Try.underlying22 hi hz0 hz1 _ _ _ _ n rfl rfl (by omega) (by omega) (by rw [hz2]; omega) (by unfold maxLen; omega) (Nat.le_refl _) ?_; intro w1 hown hgrow)
  go_loopw [5, 6] (fun rv iv wr => ∃ (k : Nat) (r : Int), iv = .int .i64 ((k : Int) - 1) ∧ rv = .int .u32 r ∧ ShortRel w wr n xs y k r) (fun _ iv _ => (intOf iv + 1).toNat)
  case atStart =>
    refine ⟨n, 0, rfl, rfl, Nat.le_refl _, ⟨by omega, by omega⟩, (Below.refl _ _).grown hgrow (Nat.le_refl _) (fun _ h => by cases h), [], by simp, Dig.nil, by rw [List.drop_of_length_le (by rw [HL.out]; exact Nat.le_refl _)]; simp [val], ?_⟩
    rw [zeros_made] at hown
    rw [List.append_nil]
    exact hown
  case round =>
    obtain ⟨k, r, rfl, rfl, hrel⟩ := hrel
    have HR := Lib.hid hrel
    by_cases hlt : k = 0
    · subst hlt
      obtain ⟨_, hr, hb, qs, hql, hqd, hv, ho⟩ := hrel
      rw [List.drop_zero] at hv
      have hq : val xs / y = val qs := by
        rw [hv, Int.add_comm, Int.add_mul_ediv_left _ _ (by omega), Int.ediv_eq_zero_of_lt hr.1 hr.2]; omega
      have hm : val xs % y = r := by
        rw [hv, Int.add_comm, Int.add_mul_emod_self_left, Int.emod_eq_of_lt hr.1 hr.2]
      have HQ := Lib.hid hq
      have HM := Lib.hid hm
      rw [List.replicate_zero, List.nil_append] at ho
      clear hq hm hv hql
      go_wp2_with fail
      refine (trim_any _ _ _ qs _ ho.row (by omega)).mono ?_
      rintro e w' ⟨j, hj, rfl, rfl, hvj, htj⟩
      have HV := Lib.hid hvj
      clear hvj
      go_wp2
      go_ret2
      refine ⟨_, by rw [HM.out]; rfl, ⟨_, _, _, _, rfl, ho.row.take hj, hqd.take _, htj, HV.out.trans HQ.out.symm, hj⟩, ?_, hb⟩
      intro A' n' c' e hn'
      simp only [Value.slice.injEq] at e
      obtain ⟨cs, fr, hh⟩ := ho.block
      exact ⟨_, 0, cs, fr, e.1.symm, hh⟩
    · obtain ⟨⟨u, hu⟩, hf⟩ := hrel.cells hlt
      obtain ⟨hk, hr, hb, -⟩ := hrel
      obtain ⟨r0, r1⟩ := hr
      obtain ⟨b, o, rfl, hbx, hx⟩ := hcell (by omega)
      obtain ⟨x, ex⟩ : ∃ x, xs.getD (k - 1) 0 = x := ⟨_, rfl⟩
      have hx1 : wr.cell? ⟨b, o + (k - 1), none⟩ = some (.int .u32 x) := by rw [← ex]; exact (hb.cell (p := ⟨b, o + (k - 1), none⟩) hbx).trans (hx (k - 1) (by omega))
      have bx := hdx.getD (k - 1)
      rw [ex, BB_def] at bx
      obtain ⟨bx0, bx1⟩ := bx
      have hstep := fun q => HR.out.step hlt HL.out ⟨bx0, bx1⟩ hy1 ex q
      have HS := Lib.hid hstep
      have EX := Lib.hid ex
      clear ex hx hcell hstep
      have q1 : (0 : Int) ≤ (k : Int) - 1 := by omega
      have q2 : (k : Int) - 1 < (n : Int) := by omega
      have q3 : ((k : Int) - 1).toNat = k - 1 := by omega
      go_wp2_with (go_at_call 135; refine (div32_any r x y _ r0 r1 hy1 bx0 bx1).mono ?_; rintro e w' ⟨rfl, q, rfl⟩)
      exact ⟨⟨k - 1, _, by go_num, rfl, HS.out _⟩, by simp [intOf]; omega⟩

theorem sdiv_any (A : Option Addr) (n c : Nat) (xs : List Int) (y : Int) (w : World) (h : Row .u32 w A n c xs) (hn : n ≤ 1048577) (hdx : Dig xs) (hy0 : 0 < y) (hy1 : y < 4294967296) :
    Calls Try.prog 118 #[.slice A n c, .int .u32 y] w fun e w' => ∃ v, e = .returned (.tuple #[v, .int .u32 (val xs % y)]) ∧ Num w' v (val xs / y) n ∧ Below w.heap.size w w' :=
  (sdiv_words A n c xs y w h hn hdx hy0 hy1).mono fun _ _ ⟨v, he, hv, _, hb⟩ => ⟨v, he, hv, hb⟩

end Go.Proofs.Ytoanomgdkkbbmaa
