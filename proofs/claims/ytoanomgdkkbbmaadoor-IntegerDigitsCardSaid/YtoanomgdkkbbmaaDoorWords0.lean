import Derived.Test.YtoanomgdkkbbmaaDoorCore
import Derived.Laws.CopyOwn

/- words64, New, Div32, short. -/
namespace Go.Proofs.YtoanomgdkkbbmaaDoor
open Go.RowKit LM

theorem or_join (h l : Int) (h0 : 0 ≤ h) (h1 : h < 4294967296) (l0 : 0 ≤ l) (l1 : l < 4294967296) : bits BinOp.or IntKind.u64 (h * 4294967296) l = h * 4294967296 + l := by
  obtain ⟨H, rfl⟩ := Int.eq_ofNat_of_zero_le h0
  obtain ⟨L, rfl⟩ := Int.eq_ofNat_of_zero_le l0
  have e : ((H : Int) * 4294967296) = ((H * 4294967296 : Nat) : Int) := by omega
  rw [e, u64_or_nat _ _ (by omega) (by omega), nat_join 32 _ _ (by omega) (by omega)]
  omega

theorem words64_any (u : Int) (w : World) (h0 : 0 ≤ u) (h1 : u < 18446744073709551616) :
    Calls Tryd.prog 39 #[.int .u64 u] w fun e w' => ∃ r, e = .returned r ∧ Num w' r u 2 ∧ Below w.heap.size w w' := by
  have hb := below_alloc w (.cells #[.int .u32 (u % 4294967296), .int .u32 (u / 4294967296)] 85)
  have hown := World.ownsRow_lit (base := w.heap.size) (size := 1) (e := 85) w #[.int .u32 (u % 4294967296), .int .u32 (u / 4294967296)] 2 (Nat.le_refl _) (by unfold maxLen; omega) rfl
  have hrow : Row .u32 (w.alloc (.cells #[.int .u32 (u % 4294967296), .int .u32 (u / 4294967296)] 85)) (some ⟨w.heap.size, 0, none⟩) 2 2 [u % 4294967296, u / 4294967296] := Row.of_own hown
  have hd : Dig [u % 4294967296, u / 4294967296] := by
    rw [Dig.cons_iff, Dig.cons_iff, BB_def]
    exact ⟨⟨by omega, by omega⟩, ⟨by omega, by omega⟩, Dig.nil⟩
  have hv : val [u % 4294967296, u / 4294967296] = u := by simp only [val, BB_def]; omega
  have HR := Lib.hid hrow
  have HV := Lib.hid hv
  clear hown hrow hv
  go_enter Tryd.func39, Tryd.ntmps39
  go_wp2_with fail
  refine (trim_any _ 2 2 [u % 4294967296, u / 4294967296] _ HR.out (by omega)).mono ?_
  rintro e w' ⟨j, hj, rfl, rfl, hvj, htj⟩
  have HVJ := Lib.hid hvj
  have HT := Lib.hid htj
  clear hvj htj
  go_wp2
  go_ret
  exact ⟨_, rfl, ⟨_, _, _, _, rfl, HR.out.take hj, hd.take _, HT.out, HVJ.out.trans HV.out, hj⟩, hb⟩

theorem new_int (n : Int) (w : World) (h0 : -9223372036854775808 ≤ n) (h1 : n ≤ 9223372036854775807) :
    Calls Tryd.prog 17 #[.int .i64 n] w fun e w' => ∃ r, e = .returned r ∧ Ival w' r n 2 ∧ Below w.heap.size w w' := by
  have hW := below_alloc w (.cells #[.bool false, .slice none 0 0] 28)
  by_cases hn : n < 0
  · have hw : IntKind.u64.wrap (-IntKind.u64.wrap n) = -n := by rw [IntKind.wrap_u64, IntKind.wrap_u64]; omega
    have HW := Lib.hid hw
    clear hw
    go_enter Tryd.func17, Tryd.ntmps17
    go_wp2_with fail
    refine (words64_any _ _ (by rw [HW.out]; omega) (by rw [HW.out]; omega)).mono ?_
    rintro e w1 ⟨r1, rfl, hr1, hb1⟩
    rw [HW.out] at hr1
    go_wp2_with fail
    refine (signed_out true _ _ _ _ hr1 (by omega)).mono ?_
    rintro e w2 ⟨ng, A2, n2, c2, rfl, hv2, hb2⟩
    have hB := (hb1.mono (B' := w.heap.size + 1) (by simp)).trans (hb2.mono (B' := w.heap.size + 1) (by have := hb1.size; simpa using this))
    obtain ⟨e1, e2, f1, f2⟩ := room0 hB
    go_wp2
    refine bodyPost_ret (v := .agg #[.bool ng, .slice A2 n2 c2]) (by simp [results, Tryd.results17, go_sem, e1, e2]) rfl ⟨_, rfl, ?_, ?_⟩
    · have e0 : withSign true (-n) = n := by simp [withSign]
      rw [← e0]; exact hv2.stored e1 e2 _ _
    · exact ((hW.trans (hB.mono (by omega))).setCell (Nat.le_refl _) _).setCell (Nat.le_refl _) _
  · go_enter Tryd.func17, Tryd.ntmps17
    go_wp2_with fail
    refine (words64_any _ _ (by omega) (by omega)).mono ?_
    rintro e w1 ⟨r1, rfl, hr1, hb1⟩
    go_wp2_with fail
    refine (signed_out false _ _ _ _ hr1 (by omega)).mono ?_
    rintro e w2 ⟨ng, A2, n2, c2, rfl, hv2, hb2⟩
    have hB := (hb1.mono (B' := w.heap.size + 1) (by simp)).trans (hb2.mono (B' := w.heap.size + 1) (by have := hb1.size; simpa using this))
    obtain ⟨e1, e2, f1, f2⟩ := room0 hB
    go_wp2
    refine bodyPost_ret (v := .agg #[.bool ng, .slice A2 n2 c2]) (by simp [results, Tryd.results17, go_sem, e1, e2]) rfl ⟨_, rfl, hv2.stored e1 e2 _ _, ?_⟩
    exact ((hW.trans (hB.mono (by omega))).setCell (Nat.le_refl _) _).setCell (Nat.le_refl _) _

theorem div32_any (h l y : Int) (w : World) (h0 : 0 ≤ h) (hy : h < y) (hy1 : y < 4294967296) (l0 : 0 ≤ l) (l1 : l < 4294967296) :
    Calls Tryd.prog 68 #[.int .u32 h, .int .u32 l, .int .u32 y] w fun e w' => e = .returned (.tuple #[.int .u32 ((h * 4294967296 + l) / y), .int .u32 ((h * 4294967296 + l) % y)]) ∧ ∃ q, w' = w.drewN q := by
  have hj := or_join h l h0 (by omega) l0 l1
  obtain ⟨z, hz⟩ : ∃ z, h * 4294967296 + l = z := ⟨_, rfl⟩
  rw [hz] at hj
  have z0 : 0 ≤ z := by omega
  have z1 : z < 18446744073709551616 := by omega
  have q0 : 0 ≤ z / y := Int.ediv_nonneg z0 (by omega)
  have q1 : z / y < 4294967296 := Int.ediv_lt_of_lt_mul (by omega) (by omega)
  have r0 : 0 ≤ z % y := Int.emod_nonneg _ (by omega)
  have r1 : z % y < y := Int.emod_lt_of_pos _ (by omega)
  rw [hz]
  clear hz
  have y0 : (y != 0) = true := by simp; omega
  have y1 : (y == 0) = false := by simp; omega
  go_enter Tryd.func68, Tryd.ntmps68
  go_wp2_with fail
  go_quiet (fail)
  go_wp2
  go_ret2
  exact ⟨rfl, _, rfl⟩

end Go.Proofs.YtoanomgdkkbbmaaDoor

/- short: division by one digit. -/
namespace Go.Proofs.YtoanomgdkkbbmaaDoor
open Go.RowKit LM

/-- The digits from k on are divided. -/
def ShortRel (w wr : World) (n : Nat) (xs : List Int) (y : Int) (k : Nat) (r : Int) : Prop :=
  k ≤ n ∧ (0 ≤ r ∧ r < y) ∧ Below w.heap.size w wr ∧ ∃ qs : List Int, qs.length = n - k ∧ Dig qs ∧ val (xs.drop k) = y * val qs + r ∧
    Own wr w.heap.size w.heap.size n (List.replicate k 0 ++ qs)

theorem ShortRel.cells {w wr : World} {n : Nat} {xs : List Int} {y : Int} {k : Nat} {r : Int} (h : ShortRel w wr n xs y k r) (hk : k ≠ 0) :
    (∃ u, wr.cell? ⟨w.heap.size, k - 1, none⟩ = some (.int .u32 u)) ∧ wr.frozen? ⟨w.heap.size, k - 1, none⟩ = false := by
  obtain ⟨hkn, _, _, qs, _, _, _, ho⟩ := h
  exact ⟨⟨_, ho.cell (by omega)⟩, ho.frozen _⟩

theorem zeros_set (qs : List Int) (k : Nat) (hk : k ≠ 0) (u : Int) : (List.replicate k 0 ++ qs).set (k - 1) u = List.replicate (k - 1) 0 ++ u :: qs := by
  obtain ⟨j, rfl⟩ : ∃ j, k = j + 1 := ⟨k - 1, by omega⟩
  rw [Nat.add_sub_cancel, List.replicate_succ', List.append_assoc, List.set_append_right _ _ (by simp)]
  simp

theorem ShortRel.step {w wr : World} {n : Nat} {xs : List Int} {y : Int} {k : Nat} {r x : Int} (h : ShortRel w wr n xs y k r) (hk : k ≠ 0) (hl : xs.length = n) (hx : 0 ≤ x ∧ x < 4294967296) (hy : y < 4294967296) (ex : xs.getD (k - 1) 0 = x) (q : Nat) :
    ShortRel w ((wr.drewN q).setCell ⟨w.heap.size, k - 1, none⟩ (.int .u32 ((r * 4294967296 + x) / y))) n xs y (k - 1) ((r * 4294967296 + x) % y) := by
  obtain ⟨hkn, hr, hb, qs, hql, hqd, hv, ho⟩ := h
  have z0 : 0 ≤ r * 4294967296 + x := by omega
  have hset := (ho.drewN q).set (k - 1) ((r * 4294967296 + x) / y)
  rw [zeros_set qs k hk] at hset
  refine ⟨by omega, ⟨Int.emod_nonneg _ (by omega), Int.emod_lt_of_pos _ (by omega)⟩, (below_drewN hb q).setCell (Nat.le_refl _) _, (r * 4294967296 + x) / y :: qs, by simp [hql]; omega, ?_, ?_, hset⟩
  · rw [Dig.cons_iff]
    exact ⟨⟨Int.ediv_nonneg z0 (by omega), Int.ediv_lt_of_lt_mul (by omega) (by rw [BB_def]; omega)⟩, hqd⟩
  · rw [drop_cons xs (k - 1) (by omega), ex, val_cons, val_cons, show k - 1 + 1 = k from by omega, hv]
    have e1 : y * ((r * 4294967296 + x) / y) + (r * 4294967296 + x) % y = r * 4294967296 + x := Int.mul_ediv_add_emod _ _
    have e2 : BB * (y * val qs + r) = y * (BB * val qs) + r * 4294967296 := by rw [BB_def]; grind
    rw [e2, Int.mul_add y]
    omega

/-- The digits lie in a block of words. -/
def Words (w : World) (v : Value) : Prop := ∀ A n c, v = .slice A n c → n ≠ 0 → ∃ b o cs fr, A = some ⟨b, o, none⟩ ∧ w.heap[b]? = some (.cells cs 85 fr)

theorem Own.block {w : World} {base g n : Nat} {xs : List Int} (h : Own w base g n xs) : ∃ cs fr, w.heap[g]? = some (.cells cs 85 fr) := by
  rcases h.2 with ⟨h', _⟩ | ⟨g', cap, cur, h', _, hh, _⟩
  · simp at h'
  · simp only [Value.slice.injEq, Option.some.injEq, Addr.mk.injEq, and_true] at h'
    obtain ⟨rfl, _⟩ := h'
    exact ⟨_, _, hh⟩

set_option maxRecDepth 100000 in
set_option maxHeartbeats 400000 in
theorem sdiv_words (A : Option Addr) (n c : Nat) (xs : List Int) (y : Int) (w : World) (h : Row .u32 w A n c xs) (hn : n ≤ 1048577) (hdx : Dig xs) (hy0 : 0 < y) (hy1 : y < 4294967296) :
    Calls Tryd.prog 50 #[.slice A n c, .int .u32 y] w fun e w' => ∃ v, e = .returned (.tuple #[v, .int .u32 (val xs % y)]) ∧ Num w' v (val xs / y) n ∧ Words w' v ∧ Below w.heap.size w w' := by
  obtain ⟨i0, hi, hz0, hz1, hz2⟩ := info_parts Tryd.info85
  obtain ⟨hl, hc, hcell⟩ := h
  have HL := Lib.hid hl
  clear hl
  go_enter Tryd.func50, Tryd.ntmps50
  go_wp2_with (at_make; refine wpList_make_full _ rfl _ _ 22 rfl w.heap.size 85 i0 (.int .u32 0) 1 Tryd.underlying22 hi hz0 hz1 _ _ _ _ n rfl rfl (by omega) (by omega) (by rw [hz2]; omega) (by unfold maxLen; omega) (Nat.le_refl _) ?_; intro w1 hown hgrow)
  go_loopw [5, 6] (fun rv iv wr => ∃ (k : Nat) (r : Int), iv = .int .i64 ((k : Int) - 1) ∧ rv = .int .u32 r ∧ ShortRel w wr n xs y k r) (fun _ iv _ => (intOf iv + 1).toNat)
  case atStart =>
    refine ⟨n, 0, rfl, rfl, Nat.le_refl _, ⟨by omega, by omega⟩, (Below.refl _ _).grown hgrow (Nat.le_refl _) (fun _ h => by cases h), [], by simp, Dig.nil, by rw [List.drop_of_length_le (by rw [HL.out]; exact Nat.le_refl _)]; simp [val], ?_⟩
    rw [zeros_made] at hown
    rw [List.append_nil]
    exact hown
  case round =>
    obtain ⟨k, r, rfl, rfl, hrel⟩ := hrel
    have HR := Lib.hid hrel
    by_cases hlt : k = 0
    · subst hlt
      obtain ⟨_, hr, hb, qs, hql, hqd, hv, ho⟩ := hrel
      rw [List.drop_zero] at hv
      have hq : val xs / y = val qs := by
        rw [hv, Int.add_comm, Int.add_mul_ediv_left _ _ (by omega), Int.ediv_eq_zero_of_lt hr.1 hr.2]; omega
      have hm : val xs % y = r := by
        rw [hv, Int.add_comm, Int.add_mul_emod_self_left, Int.emod_eq_of_lt hr.1 hr.2]
      have HQ := Lib.hid hq
      have HM := Lib.hid hm
      rw [List.replicate_zero, List.nil_append] at ho
      clear hq hm hv hql
      go_wp2_with fail
      refine (trim_any _ _ _ qs _ ho.row (by omega)).mono ?_
      rintro e w' ⟨j, hj, rfl, rfl, hvj, htj⟩
      have HV := Lib.hid hvj
      clear hvj
      go_wp2
      go_ret2
      refine ⟨_, by rw [HM.out]; rfl, ⟨_, _, _, _, rfl, ho.row.take hj, hqd.take _, htj, HV.out.trans HQ.out.symm, hj⟩, ?_, hb⟩
      intro A' n' c' e hn'
      simp only [Value.slice.injEq] at e
      obtain ⟨cs, fr, hh⟩ := ho.block
      exact ⟨_, 0, cs, fr, e.1.symm, hh⟩
    · obtain ⟨⟨u, hu⟩, hf⟩ := hrel.cells hlt
      obtain ⟨hk, hr, hb, -⟩ := hrel
      obtain ⟨r0, r1⟩ := hr
      obtain ⟨b, o, rfl, hbx, hx⟩ := hcell (by omega)
      obtain ⟨x, ex⟩ : ∃ x, xs.getD (k - 1) 0 = x := ⟨_, rfl⟩
      have hx1 : wr.cell? ⟨b, o + (k - 1), none⟩ = some (.int .u32 x) := by rw [← ex]; exact (hb.cell (p := ⟨b, o + (k - 1), none⟩) hbx).trans (hx (k - 1) (by omega))
      have bx := hdx.getD (k - 1)
      rw [ex, BB_def] at bx
      obtain ⟨bx0, bx1⟩ := bx
      have hstep := fun q => HR.out.step hlt HL.out ⟨bx0, bx1⟩ hy1 ex q
      have HS := Lib.hid hstep
      have EX := Lib.hid ex
      clear ex hx hcell hstep
      have q1 : (0 : Int) ≤ (k : Int) - 1 := by omega
      have q2 : (k : Int) - 1 < (n : Int) := by omega
      have q3 : ((k : Int) - 1).toNat = k - 1 := by omega
      go_wp2_with (go_at_call 68; refine (div32_any r x y _ r0 r1 hy1 bx0 bx1).mono ?_; rintro e w' ⟨rfl, q, rfl⟩)
      exact ⟨⟨k - 1, _, by go_num, rfl, HS.out _⟩, by simp [intOf]; omega⟩

theorem sdiv_any (A : Option Addr) (n c : Nat) (xs : List Int) (y : Int) (w : World) (h : Row .u32 w A n c xs) (hn : n ≤ 1048577) (hdx : Dig xs) (hy0 : 0 < y) (hy1 : y < 4294967296) :
    Calls Tryd.prog 50 #[.slice A n c, .int .u32 y] w fun e w' => ∃ v, e = .returned (.tuple #[v, .int .u32 (val xs % y)]) ∧ Num w' v (val xs / y) n ∧ Below w.heap.size w w' :=
  (sdiv_words A n c xs y w h hn hdx hy0 hy1).mono fun _ _ ⟨v, he, hv, _, hb⟩ => ⟨v, he, hv, hb⟩

end Go.Proofs.YtoanomgdkkbbmaaDoor

/- divide, Divide. -/
namespace Go.Proofs.YtoanomgdkkbbmaaDoor
open Go.RowKit LM

/-- What a division of two numbers comes to. -/
def Divided (w : World) (x y : Int) (L : Nat) (e : Ending) (w' : World) : Prop :=
  ∃ A n c B m d, e = .returned (.tuple #[.slice A n c, .slice B m d]) ∧ Num w' (.slice A n c) (x / y) L ∧ Num w' (.slice B m d) (x % y) L ∧ Below w.heap.size w w'

theorem Num.form {w : World} {s : Value} {z : Int} {L : Nat} (h : Num w s z L) : ∃ A n c, s = .slice A n c := by
  obtain ⟨A, n, c, _, rfl, _⟩ := h; exact ⟨A, n, c, rfl⟩

theorem Num.nonneg {w : World} {s : Value} {z : Int} {L : Nat} (h : Num w s z L) : 0 ≤ z := by
  obtain ⟨_, _, _, _, _, _, hd, _, rfl, _⟩ := h; exact (val_bounds hd).1

theorem divide_less (u v : Value) (x y : Int) (L M : Nat) (w : World) (h : Num w u x L) (g : Num w v y M) (hL : L ≤ 1048576) (hM : M ≤ 1048576) (hlt : x < y) :
    Calls Tryd.prog 40 #[u, v] w (Divided w x y (max L 2)) := by
  have hx0 := h.nonneg
  have HH := Lib.hid h
  have HG := Lib.hid g
  have hq := Lib.hid (Int.ediv_eq_zero_of_lt hx0 hlt)
  have hr := Lib.hid (Int.emod_eq_of_lt hx0 hlt)
  have hc : cmpI x y < 0 := by rw [cmpI_lt hlt]; decide
  clear h g
  go_enter Tryd.func40, Tryd.ntmps40
  go_wp2_with fail
  refine (compare_num u v x y L M _ HH.out HG.out (by omega) (by omega)).mono ?_
  rintro e w1 ⟨rfl, k, rfl⟩
  go_wp2_with fail
  refine (clone_num u x L _ (HH.out.below (below_drewN (Below.refl _ _) k)) (by omega)).mono ?_
  rintro e w2 ⟨r, rfl, hn, hb⟩
  obtain ⟨A, n, c, rfl⟩ := hn.form
  have HN := Lib.hid hn
  go_wp2
  go_ret2
  refine ⟨none, 0, 0, A, n, c, rfl, by rw [hq.out]; exact Num.zero _ _, by rw [hr.out]; exact HN.out.mono (by omega), (below_drewN (Below.refl _ _) k).trans hb⟩

theorem divide_one (u : Value) (B : Option Addr) (d : Nat) (x y : Int) (L : Nat) (ys : List Int) (w : World) (h : Num w u x L) (hr : Row .u32 w B 1 d ys) (hd : Dig ys) (ht : Trimmed ys) (hy : val ys = y) (hL : L ≤ 1048576) (hge : y ≤ x) :
    Calls Tryd.prog 40 #[u, .slice B 1 d] w (Divided w x y (max L 2)) := by
  obtain ⟨A, n, c, xs, rfl, xr, xd, xt, rfl, hn⟩ := h
  obtain ⟨hyl, _, hcell⟩ := id hr
  obtain ⟨b, o, rfl, hb, hx⟩ := hcell (by omega)
  obtain ⟨y0, rfl⟩ : ∃ y0, ys = [y0] := by match ys, hyl with | [y0], _ => exact ⟨y0, rfl⟩
  have hy0 : y0 = y := by rw [← hy]; simp [val]
  subst hy0
  have hc0 : w.cell? ⟨b, o, none⟩ = some (.int .u32 y0) := by simpa using hx 0 (by omega)
  have bd := hd 0 (by simp)
  have bp : y0 ≠ 0 := by
    rcases ht with h | h
    · simp at h
    · simpa using h
  simp only [List.getD_cons_zero] at bd
  rw [BB_def] at bd
  have g : Num w (.slice (some ⟨b, o, none⟩) 1 d) y0 1 := ⟨_, _, _, [y0], rfl, hr, hd, ht, hy, Nat.le_refl _⟩
  have h : Num w (.slice A n c) (val xs) L := ⟨_, _, _, xs, rfl, xr, xd, xt, rfl, hn⟩
  have HH := Lib.hid h
  have HG := Lib.hid g
  have HX := Lib.hid xr
  have hc : ¬ cmpI (val xs) y0 < 0 := by rcases Int.lt_or_eq_of_le hge with h | h; rw [cmpI_gt h]; decide; rw [cmpI_eq h.symm]; decide
  have r0 : 0 ≤ val xs % y0 := Int.emod_nonneg _ (by omega)
  have r1 : val xs % y0 < y0 := Int.emod_lt_of_pos _ (by omega)
  obtain ⟨bd0, bd1⟩ := bd
  have HD := Lib.hid hd
  have HT := Lib.hid ht
  clear h g hr hy hd ht hcell hx hyl xr
  go_enter Tryd.func40, Tryd.ntmps40
  go_wp2_with fail
  refine (compare_num _ _ (val xs) y0 L 1 _ HH.out HG.out (by omega) (by omega)).mono ?_
  rintro e w1 ⟨rfl, k, rfl⟩
  go_wp2_with fail
  refine (sdiv_any A n c xs y0 _ (HX.out.drewN k) (by omega) xd (by omega) bd1).mono ?_
  rintro e w2 ⟨q, rfl, hq, hb2⟩
  obtain ⟨A2, n2, c2, rfl⟩ := hq.form
  have HQ := Lib.hid hq
  go_wp2_with fail
  refine (words64_any _ _ (by omega) (by omega)).mono ?_
  rintro e w3 ⟨r, rfl, hr, hb3⟩
  obtain ⟨A3, n3, c3, rfl⟩ := hr.form
  have HR := Lib.hid hr
  go_wp2
  go_ret2
  have hb4 : Below w.heap.size w w2 := (below_drewN (Below.refl _ _) k).trans hb2
  exact ⟨_, _, _, _, _, _, rfl, (HQ.out.mono (by omega)).below hb3, HR.out.mono (by omega), hb4.trans (hb3.mono hb4.size)⟩

theorem withSign_div (p q : Bool) (a b : Int) (ha : 0 ≤ a) : withSign (p != q) (a / b) = (withSign p a).tdiv (withSign q b) := by
  have e := Int.tdiv_eq_ediv_of_nonneg (b := b) ha
  cases p <;> cases q <;> simp [withSign, Int.neg_tdiv, Int.tdiv_neg, e]

theorem withSign_mod (p q : Bool) (a b : Int) (ha : 0 ≤ a) : withSign p (a % b) = (withSign p a).tmod (withSign q b) := by
  have e := Int.tmod_eq_emod_of_nonneg (b := b) ha
  cases p <;> cases q <;> simp [withSign, Int.neg_tmod, Int.tmod_neg, e]

theorem below_four (w : World) (x y z t : Obj) : Below w.heap.size w ((((w.alloc x).alloc y).alloc z).alloc t) :=
  (below_boxed2 w x y z).alloc (by simp; omega) t

theorem boxes4 {w w' : World} {u v : Value} {p q : Bool} (h : Below (w.heap.size + 2) ((((w.alloc (.cells #[.bool p, u] 28)).alloc (.cells #[.bool q, v] 28)).alloc (.cells #[.bool false, .slice none 0 0] 28)).alloc (.cells #[.bool false, .slice none 0 0] 28)) w') :
    w'.cell? ⟨w.heap.size, 0, none⟩ = some (.bool p) ∧ w'.cell? ⟨w.heap.size, 1, none⟩ = some u ∧ w'.cell? ⟨w.heap.size + 1, 0, none⟩ = some (.bool q) ∧ w'.cell? ⟨w.heap.size + 1, 1, none⟩ = some v ∧
      Below (w.heap.size + 2) ((((w.alloc (.cells #[.bool p, u] 28)).alloc (.cells #[.bool q, v] 28)).alloc (.cells #[.bool false, .slice none 0 0] 28)).alloc (.cells #[.bool false, .slice none 0 0] 28)) w' := by
  have h3 : Below (w.heap.size + 2) (((w.alloc (.cells #[.bool p, u] 28)).alloc (.cells #[.bool q, v] 28)).alloc (.cells #[.bool false, .slice none 0 0] 28)) w' :=
    ((Below.refl _ _).alloc (by simp) _).trans h
  obtain ⟨c1, c2, c3, c4, _⟩ := boxes2 h3
  exact ⟨c1, c2, c3, c4, h⟩

theorem room4 {w w' : World} {x y : Obj} (h : Below (w.heap.size + 4) ((((w.alloc x).alloc y).alloc (.cells #[.bool false, .slice none 0 0] 28)).alloc (.cells #[.bool false, .slice none 0 0] 28)) w') :
    (w'.cell? ⟨w.heap.size + 1 + 1, 0, none⟩ = some (.bool false) ∧ w'.cell? ⟨w.heap.size + 1 + 1, 1, none⟩ = some (.slice none 0 0) ∧ w'.frozen? ⟨w.heap.size + 1 + 1, 0, none⟩ = false ∧ w'.frozen? ⟨w.heap.size + 1 + 1, 1, none⟩ = false) ∧
    w'.cell? ⟨w.heap.size + 1 + 1 + 1, 0, none⟩ = some (.bool false) ∧ w'.cell? ⟨w.heap.size + 1 + 1 + 1, 1, none⟩ = some (.slice none 0 0) ∧ w'.frozen? ⟨w.heap.size + 1 + 1 + 1, 0, none⟩ = false ∧ w'.frozen? ⟨w.heap.size + 1 + 1 + 1, 1, none⟩ = false := by
  have h3 : Below (w.heap.size + 3) (((w.alloc x).alloc y).alloc (.cells #[.bool false, .slice none 0 0] 28)) w' :=
    ((Below.refl _ _).alloc (by simp) _).trans (h.mono (by omega))
  refine ⟨room2 h3, ?_, ?_, ?_, ?_⟩
  · rw [h.cell (by simp), World.cell?_alloc_at _ _ _ _ (by simp)]; rfl
  · rw [h.cell (by simp), World.cell?_alloc_at _ _ _ _ (by simp)]; rfl
  · rw [h.frozen (by simp)]; exact World.frozen?_alloc_at _ _ _ _ (by simp)
  · rw [h.frozen (by simp)]; exact World.frozen?_alloc_at _ _ _ _ (by simp)

/-- Two results are put into their rooms. -/
theorem Ival.stored2 {w : World} {s : Value} {z : Int} {L : Nat} (h : Ival w s z L) {r t : Nat} (hrt : r ≠ t) (e1 : w.cell? ⟨r, 0, none⟩ = some (.bool false)) (e2 : w.cell? ⟨r, 1, none⟩ = some (.slice none 0 0))
    (g1 : w.cell? ⟨t, 0, none⟩ = some (.bool false)) (g2 : w.cell? ⟨t, 1, none⟩ = some (.slice none 0 0)) (x y x' y' : Value) :
    Ival ((((w.setCell ⟨r, 0, none⟩ x).setCell ⟨r, 1, none⟩ y).setCell ⟨t, 0, none⟩ x').setCell ⟨t, 1, none⟩ y') s z L := by
  refine (h.stored e1 e2 x y).stored ?_ ?_ x' y'
  · rw [World.cell?_setCell_other _ _ _ _ (by simp <;> omega), World.cell?_setCell_other _ _ _ _ (by simp <;> omega), g1]
  · rw [World.cell?_setCell_other _ _ _ _ (by simp <;> omega), World.cell?_setCell_other _ _ _ _ (by simp <;> omega), g2]

set_option maxRecDepth 100000 in
set_option maxHeartbeats 1000000 in
theorem Divide_of (p q : Bool) (A B : Option Addr) (n c m d : Nat) (a b : Int) (L M K : Nat) (w : World) (ha : Num w (.slice A n c) a L) (hb : Num w (.slice B m d) b M) (hK : K ≤ 1073741824) (hb0 : b ≠ 0)
    (hg : Ival w (.agg #[.bool q, .slice B m d]) (withSign q b) M)
    (hD : ∀ w1, Below w.heap.size w w1 → Calls Tryd.prog 40 #[.slice A n c, .slice B m d] w1 (Divided w1 a b K)) :
    Calls Tryd.prog 18 #[.agg #[.bool p, .slice A n c], .agg #[.bool q, .slice B m d]] w fun e w' => ∃ n1 A1 l1 c1 n2 A2 l2 c2, e = .returned (.tuple #[.agg #[.bool n1, .slice A1 l1 c1], .agg #[.bool n2, .slice A2 l2 c2], .int .i64 0]) ∧
      Ival w' (.agg #[.bool n1, .slice A1 l1 c1]) ((withSign p a).tdiv (withSign q b)) K ∧ Ival w' (.agg #[.bool n2, .slice A2 l2 c2]) ((withSign p a).tmod (withSign q b)) K ∧ Below w.heap.size w w' := by
  have hdiv := Lib.hid (withSign_div p q a b ha.nonneg)
  have hmod := Lib.hid (withSign_mod p q a b ha.nonneg)
  have hs : (cmpI (withSign q b) 0 == 0) = false := by
    have hbn := hb.nonneg
    have : withSign q b ≠ 0 := by cases q <;> simp [withSign] <;> omega
    simp only [beq_eq_false_iff_ne]
    rcases Int.lt_or_gt_of_ne this with h | h
    · rw [cmpI_lt h]; decide
    · rw [cmpI_gt h]; decide
  have HD := Lib.hid hD
  have HG := Lib.hid hg
  clear hD hg ha hb
  have hW := below_four w (.cells #[.bool p, .slice A n c] 28) (.cells #[.bool q, .slice B m d] 28) (.cells #[.bool false, .slice none 0 0] 28) (.cells #[.bool false, .slice none 0 0] 28)
  go_enter Tryd.func18, Tryd.ntmps18
  go_wp2_with fail
  refine (sign_int _ _ M _ (HG.out.below hW)).mono ?_
  rintro e w1 ⟨rfl, hb1⟩
  have hb1' := hb1.mono (B' := w.heap.size + 4) (by simp)
  obtain ⟨c1, c2, c3, c4, _⟩ := boxes4 (hb1'.mono (by omega))
  go_wp2_with fail
  refine (HD.out _ (hW.trans (hb1'.mono (by omega)))).mono ?_
  rintro e w2 ⟨A1, n1, d1, B1, m1, e1, rfl, hq, hr, hb2⟩
  have hb2' := hb1'.trans (hb2.mono (B' := w.heap.size + 4) (by have := hb1'.size; simp at this; omega))
  have HQ := Lib.hid hq
  have HR := Lib.hid hr
  have hC2 := hb2'.mono (B' := w.heap.size + 2) (by omega)
  have h22 : w.heap.size + 2 ≤ w.heap.size + 1 + 1 := Nat.le_refl _
  have h23 : w.heap.size + 2 ≤ w.heap.size + 1 + 1 + 1 := Nat.le_succ _
  clear c1 c2 c3 c4 hq hr
  go_wp2_with fail
  go_region_held3 (fun w' => w'.cell? ⟨w.heap.size, 0, none⟩ = some (.bool p) ∧ w'.cell? ⟨w.heap.size, 1, none⟩ = some (.slice A n c) ∧ w'.cell? ⟨w.heap.size + 1, 0, none⟩ = some (.bool q) ∧ w'.cell? ⟨w.heap.size + 1, 1, none⟩ = some (.slice B m d) ∧ Below (w.heap.size + 2) ((((w.alloc (.cells #[.bool p, .slice A n c] 28)).alloc (.cells #[.bool q, .slice B m d] 28)).alloc (.cells #[.bool false, .slice none 0 0] 28)).alloc (.cells #[.bool false, .slice none 0 0] 28)) w')
    (first | (with_reducible exact boxes4 (Below.drew hC2)) | (with_reducible exact boxes4 hC3) | (with_reducible exact boxes4 hC4) | (with_reducible exact boxes4 (Below.setCell (Below.setCell hC4 h22 _) h22 _)) | (with_reducible exact boxes4 (Below.setCell (Below.setCell (Below.setCell (Below.setCell hC4 h22 _) h22 _) h23 _) h23 _)))
    (first | (go_at_call 26; refine (signed_out _ _ _ _ _ (HR.out.below ((Below.drew (Below.refl _ _)).trans hb3)) hK).mono ?_; rintro e w4 ⟨ng4, A4, n4, c4, rfl, hv4, hb4⟩; have hB4 := Below.trans hB3 (hb4.mono (B' := w.heap.size + 4) (by have := hB3.size; simp at this; omega)); have hC4 := hB4.mono (B' := w.heap.size + 2) (by omega); obtain ⟨⟨e1, e2, f1, f2⟩, g1, g2, k1, k2⟩ := room4 hB4) | (go_at_call 26; refine (signed_out _ _ _ _ _ (HQ.out.below (Below.drew (Below.refl _ _))) hK).mono ?_; rintro e w3 ⟨ng3, A3, n3, c3, rfl, hv3, hb3⟩; have hB3 := Below.trans (Below.drew hb2') (hb3.mono (B' := w.heap.size + 4) (by have := hb2'.size; simp at this; simp; omega)); have hC3 := hB3.mono (B' := w.heap.size + 2) (by omega)))
  clear hC2 hC3 hC4
  go_wp2
  have hrt : w.heap.size + 1 + 1 ≠ w.heap.size + 1 + 1 + 1 := by omega
  refine bodyPost_ret (v := .tuple #[.agg #[.bool ng3, .slice A3 n3 c3], .agg #[.bool ng4, .slice A4 n4 c4], .int .i64 0]) (by simp [results, Tryd.results18, go_sem, e1, e2, g1, g2]) rfl ⟨_, _, _, _, _, _, _, _, rfl, ?_, ?_, ?_⟩
  · rw [← hdiv.out]; exact (hv3.below hb4).stored2 hrt e1 e2 g1 g2 _ _ _ _
  · rw [← hmod.out]; exact hv4.stored2 hrt e1 e2 g1 g2 _ _ _ _
  · exact ((((hW.trans (hB4.mono (by omega))).setCell (by show _ ≤ _; simp; omega) _).setCell (by show _ ≤ _; simp; omega) _).setCell (by show _ ≤ _; simp; omega) _).setCell (by show _ ≤ _; simp; omega) _

end Go.Proofs.YtoanomgdkkbbmaaDoor

/- complement, words, fromWords. -/
namespace Go.Proofs.YtoanomgdkkbbmaaDoor
open Go.RowKit LM

theorem flip_word (x : Int) (h0 : 0 ≤ x) (h1 : x < 4294967296) : bits BinOp.xor IntKind.u32 IntKind.u32.max x = 4294967295 - x := by
  obtain ⟨X, rfl⟩ := Int.eq_ofNat_of_zero_le h0
  have hm : IntKind.u32.max = ((4294967295 : Nat) : Int) := by decide
  have hX : X < 4294967296 := by omega
  rw [hm, u32_xor_nat _ _ (by decide) hX]
  have e : 4294967295 ^^^ X = 4294967295 - X := by
    apply Nat.eq_of_testBit_eq
    intro i
    have h2 : 4294967295 - X = 2 ^ 32 - (X + 1) := by omega
    rw [h2, Nat.testBit_two_pow_sub_succ (by omega), Nat.testBit_xor]
    have h3 : (4294967295 : Nat).testBit i = decide (i < 32) := by
      have : (4294967295 : Nat) = 2 ^ 32 - 1 := by decide
      rw [this, Nat.testBit_two_pow_sub_one]
    rw [h3]
    by_cases hi : i < 32
    · simp [hi]
    · have h4 : X.testBit i = false := by
        apply Nat.testBit_lt_two_pow
        have := Nat.pow_le_pow_right (show 0 < 2 by omega) (show 32 ≤ i by omega)
        omega
      simp [hi, h4]
  rw [e]; omega

/-- The digits below k are turned round. -/
def FlipRel (w wr : World) (base g n : Nat) (xs : List Int) (k : Nat) (cc : Int) : Prop :=
  k ≤ n ∧ (0 ≤ cc ∧ cc ≤ 1) ∧ w.grownBy wr (some g) ∧ ∃ cs : List Int, cs.length = k ∧ Dig cs ∧ val cs + BB ^ k * cc = BB ^ k - val (xs.take k) ∧ Own wr base g n (cs ++ xs.drop k)

theorem FlipRel.step {w wr : World} {base g n : Nat} {xs : List Int} {k : Nat} {cc x : Int} (h : FlipRel w wr base g n xs k cc) (hk : k < n) (hl : xs.length = n) (hx : 0 ≤ x ∧ x < BB) (ex : xs.getD k 0 = x) :
    FlipRel w (wr.setCell ⟨g, k, none⟩ (.int .u32 ((cc + (4294967295 - x)) % 4294967296))) base g n xs (k + 1) ((cc + (4294967295 - x)) / 4294967296) := by
  obtain ⟨_, hcc, hg, cs, hcl, hcd, hv, ho⟩ := h
  have hset := ho.set k ((cc + (4294967295 - x)) % BB)
  rw [List.set_append_right _ _ (by omega), hcl, Nat.sub_self, drop_cons xs k (by omega), List.set_cons_zero] at hset
  refine ⟨hk, by rw [BB_def] at hx; omega, ⟨hg.os, hg.tape, hg.output, by simpa [World.setCell] using hg.size, fun b hb hne => (Below.heap_setCell _ _ _ _ (fun e => hne (by rw [e]))).trans (hg.block b hb hne)⟩, cs ++ [(cc + (4294967295 - x)) % BB], by simp [hcl], hcd.snoc (Int.emod_nonneg _ (by decide)) (Int.emod_lt_of_pos _ (by decide)), ?_, by rw [List.append_assoc]; exact hset⟩
  have h1 := pow_split k ((cc + (4294967295 - x)) % BB) ((cc + (4294967295 - x)) / BB)
  rw [digit_split] at h1
  have h2 : BB ^ (k + 1) = BB ^ k * BB := Int.pow_succ ..
  have h3 : BB ^ k * (cc + (4294967295 - x)) = BB ^ k * cc + BB ^ k * BB - BB ^ k - BB ^ k * x := by
    rw [show (4294967295 : Int) - x = BB - 1 - x from by rw [BB_def]; omega, Int.mul_add, Int.mul_sub, Int.mul_sub]; omega
  have h4 : (cc + (4294967295 - x)) / 4294967296 = (cc + (4294967295 - x)) / BB := rfl
  rw [val_snoc, hcl, val_take_succ, ex, h4]
  omega

set_option maxHeartbeats 400000 in
theorem complement_any (base g n : Nat) (xs : List Int) (w : World) (h : Own w base g n xs) (hd : Dig xs) (hn : n ≤ 1073741824) :
    Calls Tryd.prog 66 #[.slice (some ⟨g, 0, none⟩) n n] w fun e w' => e = .returned (.tuple #[]) ∧ (∃ ys, Dig ys ∧ val ys = (BB ^ n - val xs) % BB ^ n ∧ Own w' base g n ys) ∧ w.grownBy w' (some g) := by
  have HX := Lib.hid h
  have HL := Lib.hid h.length
  go_enter Tryd.func66, Tryd.ntmps66
  go_wp2_with fail
  go_loopw [2, 7] (fun cv iv wr => ∃ (k : Nat) (cc : Int), iv = .int .i64 k ∧ cv = .int .u64 cc ∧ FlipRel w wr base g n xs k cc) (fun _ iv _ => n - (intOf iv).toNat)
  case atStart => exact ⟨0, 1, rfl, rfl, Nat.zero_le _, by omega, World.grownBy.refl _ _, [], rfl, Dig.nil, by simp [val], HX.out⟩
  case round =>
    obtain ⟨k, cc, rfl, rfl, hrel⟩ := hrel
    have HR := Lib.hid hrel
    obtain ⟨hk, hcc, hg, cs, hcl, hcd, hv, ho⟩ := hrel
    by_cases hlt : k < n
    · obtain ⟨x, ex⟩ : ∃ x, xs.getD k 0 = x := ⟨_, rfl⟩
      have hcell : wr.cell? ⟨g, k, none⟩ = some (.int .u32 x) := by
        rw [ho.cell hlt, ← ex]
        have hl := HL.out
        simp [List.getD, List.getElem?_append_right, hcl]
      have hf := ho.frozen k
      have bx := hd.getD k
      rw [ex] at bx
      have hstep := Lib.hid (HR.out.step hlt HL.out bx ex)
      rw [BB_def] at bx
      obtain ⟨bx0, bx1⟩ := bx
      have hfl := flip_word x bx0 bx1
      obtain ⟨cc0, cc1⟩ := hcc
      have hs : ¬ IntKind.u32.signed = true := by decide
      clear hcl hcd hv ho ex
      go_wp2_with fail
      exact ⟨⟨k + 1, _, by go_num, rfl, hstep.out⟩, by simp [intOf]; omega⟩
    · obtain rfl : k = n := by omega
      have hfin : ∃ ys, Dig ys ∧ val ys = (BB ^ k - val xs) % BB ^ k ∧ Own wr base g k ys := by
        refine ⟨cs, hcd, ?_, by rw [List.drop_of_length_le (by rw [HL.out]; exact Nat.le_refl _), List.append_nil] at ho; exact ho⟩
        rw [List.take_of_length_le (by rw [HL.out]; exact Nat.le_refl _)] at hv
        have b1 := val_bounds hcd
        rw [hcl] at b1
        have b2 := val_bounds hd
        rw [HL.out] at b2
        rw [← hv, Int.add_mul_emod_self_left, Int.emod_eq_of_lt b1.1 b1.2]
      have HF := Lib.hid hfin
      clear hfin hcl hcd hv ho
      go_wp2_with fail
      go_end0
      exact ⟨rfl, HF.out, hg⟩

theorem Own.whole {w : World} {base g n : Nat} {xs : List Int} (h : Own w base g n xs) : w.heap[g]? = some (.cells (xs.map (Value.int .u32)).toArray 85 (0, 0)) := by
  have hl := h.length
  rcases h.2 with ⟨h', _⟩ | ⟨g', cap, cur, h', hb, hh, hnc, hcm, hcs, htake⟩
  · simp at h'
  · simp only [Value.slice.injEq, Option.some.injEq, Addr.mk.injEq, and_true, true_and] at h'
    obtain ⟨rfl, rfl⟩ := h'
    rw [hh]
    have : cur = (xs.map (Value.int .u32)).toArray := by
      apply Array.toList_inj.1
      rw [← htake, List.take_of_length_le (by rw [Array.length_toList, hcs]; exact Nat.le_refl _)]
    rw [this]

theorem Own.of_whole {w : World} {base g n : Nat} {xs : List Int} (h : w.heap[g]? = some (.cells (xs.map (Value.int .u32)).toArray 85 (0, 0))) (hl : xs.length = n) (hb : base ≤ g) (hn : n ≤ maxLen) : Own w base g n xs :=
  ⟨by simp [hl], .inr ⟨g, n, _, rfl, hb, h, Nat.le_refl _, hn, by simp [hl], by rw [List.take_of_length_le (by simp [hl])]⟩⟩

end Go.Proofs.YtoanomgdkkbbmaaDoor

/- words, fromWords. -/
namespace Go.Proofs.YtoanomgdkkbbmaaDoor
open Go.RowKit LM

theorem zeros_cells (m : Nat) : (List.replicate m (0 : Int)).map (Value.int .u32) = List.replicate m (Value.int .u32 0) := by simp

theorem whole_at {w w1 : World} {o : Obj} {base m : Nat} (h : Own w1 base (w.alloc o).heap.size m (List.replicate m 0)) :
    Hid (w1.heap[w.heap.size + 1]? = some (.cells ((List.replicate m (0 : Int)).map (Value.int .u32)).toArray 85 (0, 0))) := by
  have h1 := Own.whole h
  have e : (w.alloc o).heap.size = w.heap.size + 1 := by simp
  rw [e] at h1
  exact h1

set_option maxHeartbeats 400000 in
theorem words_any (p : Bool) (A : Option Addr) (n c m : Nat) (a : Int) (w : World) (ha : ∃ xs, Row .u32 w A n c xs ∧ Dig xs ∧ val xs = a) (hnm : n ≤ m) (hm : m ≤ 1048577) (_hm0 : m ≠ 0) :
    Calls Tryd.prog 42 #[.agg #[.bool p, .slice A n c], .int .i64 m] w fun e w' => (∃ g ys, e = .returned (.slice (some ⟨g, 0, none⟩) m m) ∧ Own w' w.heap.size g m ys ∧ Dig ys ∧ val ys = withSign p a % BB ^ m) ∧ Below w.heap.size w w' := by
  obtain ⟨i0, hi, hz0, hz1, hz2⟩ := info_parts Tryd.info85
  obtain ⟨xs, hrow, hd, rfl⟩ := ha
  have hW := below_alloc w (.cells #[.bool p, .slice A n c] 28)
  have HR := Lib.hid (hrow.below hW)
  have hb0 := val_bounds hd
  have hl0 := hrow.1
  have HL := Lib.hid hl0
  have c0 : (w.alloc (.cells #[.bool p, .slice A n c] 28)).cell? ⟨w.heap.size, 0, none⟩ = some (.bool p) := by rw [World.cell?_alloc_at _ _ _ _ rfl]; rfl
  have c1 : (w.alloc (.cells #[.bool p, .slice A n c] 28)).cell? ⟨w.heap.size, 1, none⟩ = some (.slice A n c) := by rw [World.cell?_alloc_at _ _ _ _ rfl]; rfl
  have C0 := Lib.hid c0
  have C1 := Lib.hid c1
  obtain ⟨X1, hX1⟩ : ∃ X1, X1 = xs.map (Value.int .u32) := ⟨_, rfl⟩
  have hX1l : X1.length = n := by rw [hX1]; simp [hl0]
  have HX1 := Lib.hid hX1
  have HX1l := Lib.hid hX1l
  have hsrc : 0 < X1.length → ∃ ad, A = some ad ∧ ∀ j v, X1[j]? = some v → (w.alloc (.cells #[.bool p, .slice A n c] 28)).cell? (ad.add j) = some v := by
    intro h0
    obtain ⟨b, o, rfl, hlt, hc⟩ := HR.out.2.2 (by omega)
    refine ⟨⟨b, o, none⟩, rfl, fun j v hj => ?_⟩
    have hjl : j < n := by have := (List.getElem?_eq_some_iff.1 hj).1; omega
    rw [Addr.add_lit, hc j hjl, ← hj, hX1]
    simp [List.getD, hl0, hjl]
  have hone : ∀ v ∈ X1, v.oneCell' = true := by rw [hX1]; exact ints_oneCell _ _
  have HS := Lib.hid hsrc
  have HO := Lib.hid hone
  clear hX1 hX1l hsrc hone hrow hl0 c0 c1
  go_enter Tryd.func42, Tryd.ntmps42
  go_wp2_with (first | (at_make; refine wpList_make_full _ rfl _ _ 22 rfl w.heap.size 85 i0 (.int .u32 0) 1 Tryd.underlying22 hi hz0 hz1 _ _ _ _ m rfl rfl (by omega) (by omega) (by rw [hz2]; omega) (by unfold maxLen; omega) (by simp) ?_; intro w1 hown hgrow; rw [zeros_made] at hown; have hbm : Below (w.heap.size + 1) (w.alloc (.cells #[.bool p, .slice A n c] 28)) w1 := (Below.refl _ _).grown hgrow (by simp) (fun _ h => by cases h); have HWH := whole_at hown; clear hown hgrow; have d0 := (hbm.cell (p := ⟨w.heap.size, 0, none⟩) (by simp)).trans C0.out; have d1 := (hbm.cell (p := ⟨w.heap.size, 1, none⟩) (by simp)).trans C1.out) | ((with_reducible refine wpList_copy_splice rfl (.tmp 8) (.tmp 10) 22 22 rfl 85 Tryd.underlying22 (by kernel_rfl) _ _ _ _ _ _ rfl rfl (w.heap.size + 1) 0 ((List.replicate m (0 : Int)).map (Value.int .u32)) 85 HWH.out X1 ?c1 ?c2 ?c3 HO.out (w.heap.size + 1) (w.alloc (.cells #[.bool p, .slice A n c] 28)) hbm (Nat.le_refl _) ?_)))
  case c1 => rw [HX1l.out]; exact (Nat.min_eq_left hnm).symm
  case c2 =>
    intro h0
    obtain ⟨ad, e, hc⟩ := HS.out h0
    refine ⟨ad, e, fun j v hj => ?_⟩
    obtain ⟨b, o, e2, hlt, _⟩ := HR.out.2.2 (by have := HX1l.out; omega)
    rw [e2] at e
    simp only [Option.some.injEq] at e
    subst e
    exact (hbm.cell (p := (⟨b, o, none⟩ : Addr).add j) (by rw [Addr.add_lit]; simpa using hlt)).trans (hc j v hj)
  case c3 => rw [HX1l.out]; simp; omega
  intro w2 HG2 hb2
  have hsp : splice (List.replicate m (Value.int .u32 0)) 0 X1 = ((xs ++ List.replicate (m - n) 0).map (Value.int .u32)) := by
    rw [HX1.out]; simp [splice, HL.out]
  have hown : Own w2 w.heap.size (w.heap.size + 1) m (xs ++ List.replicate (m - n) 0) := by
    refine Own.of_whole ?_ (by simp [HL.out]; omega) (by omega) (by unfold maxLen; omega)
    rw [← hsp]; exact HG2.out
  have hdz : Dig (xs ++ List.replicate (m - n) 0) := hd.append (by intro i hi; simp at hi; simp [List.getD, hi]; decide)
  have hvz : val (xs ++ List.replicate (m - n) 0) = val xs := by rw [val_append, val_zeros]; simp
  have hlt : val xs < BB ^ m := by
    rw [HL.out] at hb0
    exact Int.lt_of_lt_of_le hb0.2 (pow_le hnm)
  have e0 := (hb2.cell (p := ⟨w.heap.size, 0, none⟩) (by simp)).trans C0.out
  have HOW := Lib.hid hown
  have HDZ := Lib.hid hdz
  have HVZ := Lib.hid hvz
  have hbw : Below w.heap.size w w2 := hW.trans (hb2.mono (by omega))
  clear hown hdz hvz hsp d0 d1
  cases p with
  | false =>
    go_wp2
    go_ret
    refine ⟨⟨_, _, rfl, HOW.out, HDZ.out, ?_⟩, hbw⟩
    rw [HVZ.out, withSign]
    exact (Int.emod_eq_of_lt hb0.1 hlt).symm
  | true =>
    go_wp2_with fail
    refine (complement_any w.heap.size (w.heap.size + 1) m _ w2 HOW.out HDZ.out (by omega)).mono ?_
    rintro e w3 ⟨rfl, ⟨ys, hyd, hyv, hyo⟩, hg3⟩
    have HYV := Lib.hid hyv
    clear hyv
    go_wp2
    go_ret
    refine ⟨⟨_, ys, rfl, hyo, hyd, ?_⟩, hbw.grown hg3 hbw.size (fun k hk => ?_)⟩
    · rw [HYV.out, HVZ.out, withSign]
      simp only [if_true]
      have := Int.add_mul_emod_self_right (-val xs) 1 (BB ^ m)
      rw [Int.one_mul] at this
      have e : BB ^ m - val xs = -val xs + BB ^ m := by omega
      rw [e]; exact this
    · have e : w.heap.size + 1 = k := by simpa using hk
      omega

theorem signed_out_row (neg : Bool) (A : Option Addr) (n c : Nat) (zs : List Int) (w : World) (h : Row .u32 w A n c zs) (hn : n ≤ 1073741824) (hd : Dig zs) :
    Calls Tryd.prog 26 #[.bool neg, .slice A n c] w fun e w' => ∃ ng A2 n2 c2, e = .returned (.agg #[.bool ng, .slice A2 n2 c2]) ∧ Ival w' (.agg #[.bool ng, .slice A2 n2 c2]) (withSign neg (val zs)) n ∧ Below w.heap.size w w' := by
  refine (signed_row neg A n c zs w h hn hd).mono ?_
  rintro e w' ⟨v, rfl, hv, hb⟩
  obtain ⟨ng, A2, n2, c2, rfl⟩ := hv.form
  exact ⟨ng, A2, n2, c2, rfl, hv, hb⟩

/-- The room, behind a write to another block. -/
theorem room_grown {w w3 w4 : World} {g : Nat} (hg : (w.alloc (.cells #[.bool false, .slice none 0 0] 28)).grownBy w3 (some g)) (hgw : g < w.heap.size) (hb : Below w3.heap.size w3 w4) :
    w4.cell? ⟨w.heap.size, 0, none⟩ = some (.bool false) ∧ w4.cell? ⟨w.heap.size, 1, none⟩ = some (.slice none 0 0) ∧ w4.frozen? ⟨w.heap.size, 0, none⟩ = false ∧ w4.frozen? ⟨w.heap.size, 1, none⟩ = false := by
  have hs := hg.size
  simp at hs
  have h1 : w4.heap[w.heap.size]? = (w.alloc (.cells #[.bool false, .slice none 0 0] 28)).heap[w.heap.size]? :=
    (hb.block _ (by omega)).trans (hg.block _ (by simp) (by simp; omega))
  refine ⟨?_, ?_, ?_, ?_⟩
  · rw [World.cell?_of_block (w := w.alloc (.cells #[.bool false, .slice none 0 0] 28)) h1, World.cell?_alloc_at _ _ _ _ rfl]; rfl
  · rw [World.cell?_of_block (w := w.alloc (.cells #[.bool false, .slice none 0 0] 28)) h1, World.cell?_alloc_at _ _ _ _ rfl]; rfl
  · rw [World.frozen?_of_block (w := w.alloc (.cells #[.bool false, .slice none 0 0] 28)) h1]; exact World.frozen?_alloc_at _ _ _ _ rfl
  · rw [World.frozen?_of_block (w := w.alloc (.cells #[.bool false, .slice none 0 0] 28)) h1]; exact World.frozen?_alloc_at _ _ _ _ rfl

set_option maxHeartbeats 400000 in
theorem fromWords_any (base g m : Nat) (ys : List Int) (w : World) (h : Own w base g m ys) (hd : Dig ys) (hm : m ≤ 1048577) (hm0 : m ≠ 0) (hb : base ≤ w.heap.size) :
    Calls Tryd.prog 43 #[.slice (some ⟨g, 0, none⟩) m m] w fun e w' => ∃ ng A n2 c2, e = .returned (.agg #[.bool ng, .slice A n2 c2]) ∧ Ival w' (.agg #[.bool ng, .slice A n2 c2]) (if 2147483648 ≤ ys.getD (m - 1) 0 then val ys - BB ^ m else val ys) m ∧ Below base w w' := by
  have hW := below_alloc w (.cells #[.bool false, .slice none 0 0] 28)
  have hgb := h.lt
  have hA : Own (w.alloc (.cells #[.bool false, .slice none 0 0] 28)) base g m ys := h.below hW
  have HO := Lib.hid hA
  obtain ⟨t, ht⟩ : ∃ t, ys.getD (m - 1) 0 = t := ⟨_, rfl⟩
  have bt := hd.getD (m - 1)
  rw [ht, BB_def] at bt
  obtain ⟨bt0, bt1⟩ := bt
  have hc : (w.alloc (.cells #[.bool false, .slice none 0 0] 28)).cell? ⟨g, m - 1, none⟩ = some (.int .u32 t) := by rw [← ht]; exact hA.cell (by omega)
  rw [ht]
  have q1 : (0 : Int) ≤ (m : Int) - 1 := by omega
  have q2 : (m : Int) - 1 < (m : Int) := by omega
  have q3 : ((m : Int) - 1).toNat = m - 1 := by omega
  have HT := Lib.hid ht
  clear h hA ht
  by_cases htop : 2147483648 ≤ t
  · have h31 : (t / 2147483648 == 1) = true := by simp; omega
    rw [if_pos htop]
    go_enter Tryd.func43, Tryd.ntmps43
    go_wp2_with fail
    refine (complement_any base g m ys _ HO.out hd (by omega)).mono ?_
    rintro e w3 ⟨rfl, ⟨zs, hyd, hyv, hyo⟩, hg3⟩
    have HYV := Lib.hid hyv
    have HYO := Lib.hid hyo
    clear hyv hyo
    go_wp2_with fail
    refine (signed_out_row true _ m m zs w3 HYO.out.row (by omega) hyd).mono ?_
    rintro e w4 ⟨ng, A2, n2, c2, rfl, hv2, hb2⟩
    have hB := room_grown hg3 (by omega) hb2
    obtain ⟨e1, e2, f1, f2⟩ := hB
    have hfin : withSign true (val zs) = val ys - BB ^ m := by
      have h1 := val_take_succ ys (m - 1)
      have hl := HO.out.length
      rw [show m - 1 + 1 = m from by omega, List.take_of_length_le (by omega), HT.out] at h1
      have h2 := (val_bounds (hd.take (m - 1))).1
      have h3 : BB ^ (m - 1) * 1 ≤ BB ^ (m - 1) * t := Int.mul_le_mul_of_nonneg_left (by omega) (Int.le_of_lt (BB_pos _))
      have h4 := BB_pos (m - 1)
      have h5 := (val_bounds hd).2
      rw [hl] at h5
      rw [HYV.out, Int.emod_eq_of_lt (by omega) (by omega)]
      unfold withSign
      rw [if_pos rfl]
      omega
    have HF := Lib.hid hfin
    clear hfin
    go_wp2
    refine bodyPost_ret (v := .agg #[.bool ng, .slice A2 n2 c2]) (by simp [results, Tryd.results43, go_sem, e1, e2]) rfl ⟨_, _, _, _, rfl, ?_, ?_⟩
    · rw [← HF.out]; exact hv2.stored e1 e2 _ _
    · exact ((((((hW.mono hb).grown hg3 (by simp; omega) (fun k hk => by have e : g = k := (by simpa using hk); omega))).trans (hb2.mono (by have := hg3.size; simp at this; omega))).setCell (by show _ ≤ _; omega) _).setCell (by show _ ≤ _; omega) _)
  · have h31 : (t / 2147483648 == 1) = false := by simp; omega
    rw [if_neg htop]
    go_enter Tryd.func43, Tryd.ntmps43
    go_wp2_with fail
    refine (signed_out_row false _ m m ys _ HO.out.row (by omega) hd).mono ?_
    rintro e w4 ⟨ng, A2, n2, c2, rfl, hv2, hb2⟩
    have hB := hb2.mono (B' := w.heap.size + 1) (by simp)
    obtain ⟨e1, e2, f1, f2⟩ := room0 hB
    go_wp2
    refine bodyPost_ret (v := .agg #[.bool ng, .slice A2 n2 c2]) (by simp [results, Tryd.results43, go_sem, e1, e2]) rfl ⟨_, _, _, _, rfl, ?_, ?_⟩
    · have e0 : withSign false (val ys) = val ys := rfl
      rw [← e0]; exact hv2.stored e1 e2 _ _
    · exact (((hW.mono hb).trans (hB.mono (by omega))).setCell (by show _ ≤ _; omega) _).setCell (by show _ ≤ _; omega) _

end Go.Proofs.YtoanomgdkkbbmaaDoor

/- The sixteen operations. -/
namespace Go.Proofs.YtoanomgdkkbbmaaDoor
open Go.RowKit LM

/-- All ones, where bit j of op is set. -/
def maskOf (op : Int) (j : Nat) : Int := if op.toNat.testBit j then 4294967295 else 0

theorem mask_fin : ∀ n : Fin 16, (-bits BinOp.and IntKind.u32 (n.val : Int) 1) % 4294967296 = maskOf n.val 0 ∧ (-bits BinOp.and IntKind.u32 ((n.val : Int) / 2) 1) % 4294967296 = maskOf n.val 1 ∧
    (-bits BinOp.and IntKind.u32 ((n.val : Int) / 4) 1) % 4294967296 = maskOf n.val 2 ∧ (-bits BinOp.and IntKind.u32 ((n.val : Int) / 8) 1) % 4294967296 = maskOf n.val 3 := by decide

theorem mask_all (op : Int) (h0 : 0 ≤ op) (h1 : op ≤ 15) : (-bits BinOp.and IntKind.u32 op 1) % 4294967296 = maskOf op 0 ∧ (-bits BinOp.and IntKind.u32 (op / 2) 1) % 4294967296 = maskOf op 1 ∧
    (-bits BinOp.and IntKind.u32 (op / 4) 1) % 4294967296 = maskOf op 2 ∧ (-bits BinOp.and IntKind.u32 (op / 8) 1) % 4294967296 = maskOf op 3 := by
  obtain ⟨n, rfl⟩ := Int.eq_ofNat_of_zero_le h0
  exact mask_fin ⟨n, by omega⟩

theorem table_any (op : Int) (w : World) (h0 : 0 ≤ op) (h1 : op ≤ 15) :
    Calls Tryd.prog 41 #[.int .i64 op] w fun e w' => e = .returned (.func (Fn.func 65) #[] #[.pointer (some ⟨w.heap.size, 0, none⟩)]) ∧
      w' = w.alloc (.cells #[.int .u32 (maskOf op 0), .int .u32 (maskOf op 1), .int .u32 (maskOf op 2), .int .u32 (maskOf op 3)] 110) := by
  have hmf : ∀ (fn : Fn) (first cap : Array Value) (w : World), (Instr.makeFunc fn first cap).run Tryd.prog w = .ok (.func fn first cap) w := fun _ _ _ _ => rfl
  obtain ⟨m0, m1, m2, m3⟩ := mask_all op h0 h1
  go_enter Tryd.func41, Tryd.ntmps41
  go_wp2
  refine wp_loop_rounds 5 ?_
  iterate 5 (rw [rounds_succ]; go_wp2)
  go_ret
  exact ⟨rfl, rfl⟩

/-- The operation, bit by bit. -/
def Comb (op : Int) (a b c : Int) : Prop := (0 ≤ c ∧ c < BB) ∧ ∀ i, i < 32 → c.toNat.testBit i = op.toNat.testBit (2 * (a.toNat.testBit i).toNat + (b.toNat.testBit i).toNat)

def combN (A B m0 m1 m2 m3 : Nat) : Nat :=
  ((4294967295 ^^^ A) &&& (4294967295 - B)) &&& m0 ||| ((4294967295 ^^^ A) &&& B) &&& m1 ||| (A &&& (4294967295 - B)) &&& m2 ||| (A &&& B) &&& m3

theorem ones_bit (i : Nat) (hi : i < 32) : (4294967295 : Nat).testBit i = true := by
  have : (4294967295 : Nat) = 2 ^ 32 - 1 := by decide
  rw [this, Nat.testBit_two_pow_sub_one]; simpa using hi

theorem flip_bit (B i : Nat) (hB : B < 4294967296) (hi : i < 32) : (4294967295 - B).testBit i = !B.testBit i := by
  have h2 : 4294967295 - B = 2 ^ 32 - (B + 1) := by omega
  rw [h2, Nat.testBit_two_pow_sub_succ (by omega)]; simp [hi]

theorem combN_lt (A B m0 m1 m2 m3 : Nat) (h0 : m0 < 2 ^ 32) (h1 : m1 < 2 ^ 32) (h2 : m2 < 2 ^ 32) (h3 : m3 < 2 ^ 32) : combN A B m0 m1 m2 m3 < 2 ^ 32 := by
  unfold combN
  exact Nat.or_lt_two_pow (Nat.or_lt_two_pow (Nat.or_lt_two_pow (Nat.and_lt_two_pow _ h0) (Nat.and_lt_two_pow _ h1)) (Nat.and_lt_two_pow _ h2)) (Nat.and_lt_two_pow _ h3)

def maskN (op : Int) (j : Nat) : Nat := if op.toNat.testBit j then 4294967295 else 0
theorem maskN_lt (op : Int) (j : Nat) : maskN op j < 2 ^ 32 := by unfold maskN; split <;> decide
theorem maskOf_nat (op : Int) (j : Nat) : maskOf op j = (maskN op j : Int) := by unfold maskOf maskN; split <;> rfl
theorem maskN_bit (op : Int) (j i : Nat) (hi : i < 32) : (maskN op j).testBit i = op.toNat.testBit j := by
  unfold maskN
  by_cases h : op.toNat.testBit j = true
  · rw [if_pos h, h, ones_bit i hi]
  · rw [if_neg h]; simp at h; rw [h, Nat.zero_testBit]

theorem combN_bit (op : Int) (A B i : Nat) (hB : B < 4294967296) (hi : i < 32) :
    (combN A B (maskN op 0) (maskN op 1) (maskN op 2) (maskN op 3)).testBit i = op.toNat.testBit (2 * (A.testBit i).toNat + (B.testBit i).toNat) := by
  unfold combN
  simp only [Nat.testBit_or, Nat.testBit_and, Nat.testBit_xor, ones_bit i hi, flip_bit B i hB hi, maskN_bit _ _ i hi]
  cases hA : A.testBit i <;> cases hb : B.testBit i <;> simp

theorem comb_bits (op a b : Int) (ha : 0 ≤ a ∧ a < 4294967296) (hb : 0 ≤ b ∧ b < 4294967296) :
    ∃ c, bits BinOp.or IntKind.u32 (bits BinOp.or IntKind.u32 (bits BinOp.or IntKind.u32
        (bits BinOp.and IntKind.u32 (bits BinOp.andNot IntKind.u32 (bits BinOp.xor IntKind.u32 IntKind.u32.max a) b) (maskOf op 0))
        (bits BinOp.and IntKind.u32 (bits BinOp.and IntKind.u32 (bits BinOp.xor IntKind.u32 IntKind.u32.max a) b) (maskOf op 1)))
        (bits BinOp.and IntKind.u32 (bits BinOp.andNot IntKind.u32 a b) (maskOf op 2)))
        (bits BinOp.and IntKind.u32 (bits BinOp.and IntKind.u32 a b) (maskOf op 3)) = c ∧ Comb op a b c := by
  obtain ⟨A, rfl⟩ := Int.eq_ofNat_of_zero_le ha.1
  obtain ⟨B, rfl⟩ := Int.eq_ofNat_of_zero_le hb.1
  have hA : A < 4294967296 := by omega
  have hB : B < 4294967296 := by omega
  have hm : IntKind.u32.max = ((4294967295 : Nat) : Int) := by decide
  have hp : (2 : Nat) ^ 32 = 4294967296 := by decide
  have x1 : (4294967295 ^^^ A) < 4294967296 := by rw [← hp]; exact Nat.xor_lt_two_pow (by decide) (by omega)
  have k0 := maskN_lt op 0
  have k1 := maskN_lt op 1
  have k2 := maskN_lt op 2
  have k3 := maskN_lt op 3
  rw [hp] at k0 k1 k2 k3
  have lt : ∀ X Y : Nat, Y < 4294967296 → X &&& Y < 4294967296 := fun X Y h => by rw [← hp]; exact Nat.and_lt_two_pow _ (by omega)
  have lo : ∀ X Y : Nat, X < 4294967296 → Y < 4294967296 → X ||| Y < 4294967296 := fun X Y h h' => by rw [← hp]; exact Nat.or_lt_two_pow (by omega) (by omega)
  refine ⟨(combN A B (maskN op 0) (maskN op 1) (maskN op 2) (maskN op 3) : Int), ?_, ⟨by omega, ?_⟩, fun i hi => ?_⟩
  · rw [maskOf_nat, maskOf_nat, maskOf_nat, maskOf_nat, hm, u32_xor_nat _ _ (by decide) hA, u32_andNot_nat _ _ x1 hB, u32_and_nat _ _ x1 hB, u32_andNot_nat _ _ hA hB, u32_and_nat _ _ hA hB,
      u32_and_nat _ _ (lt _ _ (by omega)) k0, u32_and_nat _ _ (lt _ _ hB) k1, u32_and_nat _ _ (lt _ _ (by omega)) k2, u32_and_nat _ _ (lt _ _ hB) k3,
      u32_or_nat _ _ (lt _ _ k0) (lt _ _ k1), u32_or_nat _ _ (lo _ _ (lt _ _ k0) (lt _ _ k1)) (lt _ _ k2), u32_or_nat _ _ (lo _ _ (lo _ _ (lt _ _ k0) (lt _ _ k1)) (lt _ _ k2)) (lt _ _ k3)]
    rfl
  · have := combN_lt A B _ _ _ _ (maskN_lt op 0) (maskN_lt op 1) (maskN_lt op 2) (maskN_lt op 3)
    rw [BB_def]; omega
  · rw [Int.toNat_natCast, Int.toNat_natCast, Int.toNat_natCast]
    exact combN_bit op A B i hB hi

theorem table1_any (op a b : Int) (t : Nat) (w : World) (ha : 0 ≤ a ∧ a < 4294967296) (hb : 0 ≤ b ∧ b < 4294967296)
    (c0 : w.cell? ⟨t, 0, none⟩ = some (.int .u32 (maskOf op 0))) (c1 : w.cell? ⟨t, 1, none⟩ = some (.int .u32 (maskOf op 1))) (c2 : w.cell? ⟨t, 2, none⟩ = some (.int .u32 (maskOf op 2))) (c3 : w.cell? ⟨t, 3, none⟩ = some (.int .u32 (maskOf op 3))) :
    Calls Tryd.prog 65 #[.int .u32 a, .int .u32 b, .pointer (some ⟨t, 0, none⟩)] w fun e w' => (∃ c, e = .returned (.int .u32 c) ∧ Comb op a b c) ∧ w = w' := by
  obtain ⟨c, hc, hcomb⟩ := comb_bits op a b ha hb
  have HC := Lib.hid hcomb
  have HE := Lib.hid hc
  have hs : ¬ IntKind.u32.signed = true := by decide
  clear hcomb hc
  go_enter Tryd.func65, Tryd.ntmps65
  go_wp2
  go_ret
  exact ⟨⟨c, by rw [← HE.out]; rfl, HC.out⟩, rfl⟩

end Go.Proofs.YtoanomgdkkbbmaaDoor

/- Boole. -/
namespace Go.Proofs.YtoanomgdkkbbmaaDoor
open Go.RowKit LM

/-- What an operation on the words of two integers comes to. -/
def Booled (op x y : Int) (k : Nat) (z : Int) : Prop :=
  ∃ wx wy os : List Int, wx.length = k ∧ wy.length = k ∧ os.length = k ∧ Dig wx ∧ Dig wy ∧ Dig os ∧ val wx = x % BB ^ k ∧ val wy = y % BB ^ k ∧ (∀ i, i < k → Comb op (wx.getD i 0) (wy.getD i 0) (os.getD i 0)) ∧
    z = if 2147483648 ≤ os.getD (k - 1) 0 then val os - BB ^ k else val os

/-- The first i words are combined. -/
def BoolRel (w wr : World) (base g k : Nat) (op : Int) (wx wy : List Int) (i : Nat) : Prop :=
  i ≤ k ∧ w.grownBy wr (some g) ∧ ∃ os : List Int, os.length = k ∧ Dig os ∧ (∀ t, t < i → Comb op (wx.getD t 0) (wy.getD t 0) (os.getD t 0)) ∧ (∀ t, i ≤ t → os.getD t 0 = wx.getD t 0) ∧ Own wr base g k os

theorem BoolRel.cells {w wr : World} {base g k : Nat} {op : Int} {wx wy : List Int} {i : Nat} (h : BoolRel w wr base g k op wx wy i) (hi : i < k) :
    wr.cell? ⟨g, i, none⟩ = some (.int .u32 (wx.getD i 0)) ∧ wr.frozen? ⟨g, i, none⟩ = false := by
  obtain ⟨_, _, os, hl, _, _, ho, hown⟩ := h
  exact ⟨by rw [hown.cell hi, ho i (Nat.le_refl _)], hown.frozen i⟩

theorem BoolRel.step {w wr : World} {base g k : Nat} {op : Int} {wx wy : List Int} {i : Nat} {c : Int} (h : BoolRel w wr base g k op wx wy i) (hi : i < k) (hc : Comb op (wx.getD i 0) (wy.getD i 0) c) :
    BoolRel w (wr.setCell ⟨g, i, none⟩ (.int .u32 c)) base g k op wx wy (i + 1) := by
  obtain ⟨_, hg, os, hl, hd, h1, h2, hown⟩ := h
  refine ⟨hi, ⟨hg.os, hg.tape, hg.output, by simpa [World.setCell] using hg.size, fun b hb hne => (Below.heap_setCell _ _ _ _ (fun e => hne (by rw [e]))).trans (hg.block b hb hne)⟩, os.set i c, by simpa using hl, hd.set i hc.1.1 hc.1.2, fun t ht => ?_, fun t ht => ?_, hown.set i c⟩
  · by_cases e : t = i
    · subst e
      have : (os.set t c).getD t 0 = c := by simp [List.getD, hl, hi]
      rw [this]; exact hc
    · have : (os.set i c).getD t 0 = os.getD t 0 := by simp [List.getD, Ne.symm e]
      rw [this]; exact h1 t (by omega)
  · have : (os.set i c).getD t 0 = os.getD t 0 := by simp [List.getD, show ¬ i = t by omega]
    rw [this]; exact h2 t (by omega)

theorem own_base {w : World} {base base' g n : Nat} {xs : List Int} (h : Own w base g n xs) (hb : base' ≤ base) : Own w base' g n xs := by
  obtain ⟨h1, h2⟩ := h
  refine ⟨h1, ?_⟩
  rcases h2 with h2 | ⟨g', cap, cur, hv, hg, r⟩
  · exact .inl h2
  · exact .inr ⟨g', cap, cur, hv, by omega, r⟩

theorem words_int (p : Bool) (A : Option Addr) (n c m : Nat) (M : Int) (hM : M = (m : Int)) (a : Int) (w : World) (ha : ∃ xs, Row .u32 w A n c xs ∧ Dig xs ∧ val xs = a) (hnm : n ≤ m) (hm : m ≤ 1048577) (hm0 : m ≠ 0) :
    Calls Tryd.prog 42 #[.agg #[.bool p, .slice A n c], .int .i64 M] w fun e w' => (∃ g ys, e = .returned (.slice (some ⟨g, 0, none⟩) m m) ∧ Own w' w.heap.size g m ys ∧ Dig ys ∧ val ys = withSign p a % BB ^ m) ∧ Below w.heap.size w w' := by
  subst hM
  exact words_any p A n c m a w ha hnm hm hm0

theorem row_below {w w' : World} {A : Option Addr} {n c : Nat} {a : Int} (h : ∃ xs, Row .u32 w A n c xs ∧ Dig xs ∧ val xs = a) (hb : Below w.heap.size w w') : ∃ xs, Row .u32 w' A n c xs ∧ Dig xs ∧ val xs = a := by
  obtain ⟨xs, h1, h2⟩ := h
  exact ⟨xs, h1.below hb, h2⟩

set_option maxRecDepth 100000 in
set_option maxHeartbeats 1000000 in
theorem Boole_lt (p q : Bool) (A B : Option Addr) (n c m d : Nat) (a b op : Int) (w : World) (ha : ∃ xs, Row .u32 w A n c xs ∧ Dig xs ∧ val xs = a) (hb : ∃ ys, Row .u32 w B m d ys ∧ Dig ys ∧ val ys = b) (hn : n ≤ 1048576) (hm : m ≤ 1048576) (h0 : 0 ≤ op) (h1 : op ≤ 15) (hle : n < m) :
    Calls Tryd.prog 19 #[.agg #[.bool p, .slice A n c], .int .i64 op, .agg #[.bool q, .slice B m d]] w fun e w' => (∃ z ng A2 n2 c2, e = .returned (.tuple #[.agg #[.bool ng, .slice A2 n2 c2], .int .i64 0]) ∧ Ival w' (.agg #[.bool ng, .slice A2 n2 c2]) z (m + 1) ∧ Booled op (withSign p a) (withSign q b) (m + 1) z) ∧ Below w.heap.size w w' := by
  have hW := below_boxed2 w (.cells #[.bool p, .slice A n c] 28) (.cells #[.bool q, .slice B m d] 28) (.cells #[.bool false, .slice none 0 0] 28)
  have HA := Lib.hid ha
  have HB := Lib.hid hb
  clear ha hb
  go_enter Tryd.func19, Tryd.ntmps19
  go_wp2_with fail
  refine (table_any op _ h0 h1).mono ?_
  rintro e w4 ⟨rfl, rfl⟩
  have hb4 := (Below.refl (w.heap.size + 3) (((w.alloc (.cells #[.bool p, .slice A n c] 28)).alloc (.cells #[.bool q, .slice B m d] 28)).alloc (.cells #[.bool false, .slice none 0 0] 28))).alloc (by simp) (.cells #[.int .u32 (maskOf op 0), .int .u32 (maskOf op 1), .int .u32 (maskOf op 2), .int .u32 (maskOf op 3)] 110)
  have hW4 := hW.trans (hb4.mono (by omega))
  go_wp2_with fail
  refine (words_int p A n c (m + 1) _ (by omega) a _ (row_below HA.out hW4) (by omega) (by omega) (by omega)).mono ?_
  rintro e w5 ⟨⟨g1, wx, rfl, hox, hdx, hvx⟩, hb5⟩
  have hb5' := hb5.mono (B' := w.heap.size + 4) (by simp)
  have hb5s := hb5.size
  simp at hb5s
  have hW5 := hW4.trans (hb5'.mono (by omega))
  have hg1 := hox.lt
  simp at hg1
  have t0 : w5.cell? ⟨w.heap.size + 1 + 1 + 1, 0, none⟩ = some (.int .u32 (maskOf op 0)) := by rw [hb5'.cell (by simp), World.cell?_alloc_at _ _ _ _ (by simp)]; rfl
  have t1 : w5.cell? ⟨w.heap.size + 1 + 1 + 1, 1, none⟩ = some (.int .u32 (maskOf op 1)) := by rw [hb5'.cell (by simp), World.cell?_alloc_at _ _ _ _ (by simp)]; rfl
  have t2 : w5.cell? ⟨w.heap.size + 1 + 1 + 1, 2, none⟩ = some (.int .u32 (maskOf op 2)) := by rw [hb5'.cell (by simp), World.cell?_alloc_at _ _ _ _ (by simp)]; rfl
  have t3 : w5.cell? ⟨w.heap.size + 1 + 1 + 1, 3, none⟩ = some (.int .u32 (maskOf op 3)) := by rw [hb5'.cell (by simp), World.cell?_alloc_at _ _ _ _ (by simp)]; rfl
  have y0 : w5.cell? ⟨w.heap.size + 1, 0, none⟩ = some (.bool q) := (boxes2 (hb4.trans (hb5'.mono (by omega)) |>.mono (by omega))).2.2.1
  have y1 : w5.cell? ⟨w.heap.size + 1, 1, none⟩ = some (.slice B m d) := (boxes2 (hb4.trans (hb5'.mono (by omega)) |>.mono (by omega))).2.2.2.1
  have HOX := Lib.hid hox
  have HVX := Lib.hid hvx
  have HT := Lib.hid (And.intro t0 (And.intro t1 (And.intro t2 t3)))
  clear hox hvx t0 t1 t2 t3
  go_wp2_with fail
  refine (words_int q B m d (m + 1) _ (by omega) b _ (row_below HB.out hW5) (by omega) (by omega) (by omega)).mono ?_
  rintro e w6 ⟨⟨g2, wy, rfl, hoy, hdy, hvy⟩, hb6⟩
  have hg2 := hoy.lt
  have hox6 := HOX.out.below hb6
  have HOX6 := Lib.hid hox6
  have HOY := Lib.hid hoy
  have HVY := Lib.hid hvy
  clear hoy hvy hox6 y0 y1
  go_wp2_with fail
  go_loopw [37] (fun iv wr => ∃ i : Nat, iv = .int .i64 i ∧ BoolRel w6 wr (w.heap.size + 4) g1 (m + 1) op wx wy i) (fun iv _ => m + 1 - (intOf iv).toNat)
  case atStart => exact ⟨0, rfl, Nat.zero_le _, World.grownBy.refl _ _, wx, HOX6.out.length, hdx, fun t ht => absurd ht (by omega), fun t _ => rfl, own_base HOX6.out (by simp)⟩
  case round =>
    obtain ⟨i, rfl, hrel⟩ := hrel
    have HR := Lib.hid hrel
    obtain ⟨hik, hgr, -⟩ := hrel
    by_cases hlt : i < m + 1
    · obtain ⟨cx, fx⟩ := HR.out.cells hlt
      obtain ⟨x, ex⟩ : ∃ x, wx.getD i 0 = x := ⟨_, rfl⟩
      obtain ⟨y, ey⟩ : ∃ y, wy.getD i 0 = y := ⟨_, rfl⟩
      rw [ex] at cx
      have bx := hdx.getD i
      have by' := hdy.getD i
      rw [ex, BB_def] at bx
      rw [ey, BB_def] at by'
      have hne : ∀ k, k < w6.heap.size → k ≠ g1 → wr.heap[k]? = w6.heap[k]? := fun k hk hkg => hgr.block k hk (by simpa using hkg)
      have cy : wr.cell? ⟨g2, i, none⟩ = some (.int .u32 y) := by
        rw [World.cell?_of_block (w := w6) (hne g2 hg2.2 (by omega)), ← ey]; exact HOY.out.cell hlt
      have tt : ∀ j, wr.cell? ⟨w.heap.size + 1 + 1 + 1, j, none⟩ = w5.cell? ⟨w.heap.size + 1 + 1 + 1, j, none⟩ := fun j => by
        rw [World.cell?_of_block (w := w6) (hne (w.heap.size + 1 + 1 + 1) (by omega) (by omega))]
        exact hb6.cell (p := ⟨w.heap.size + 1 + 1 + 1, j, none⟩) (by show w.heap.size + 1 + 1 + 1 < w5.heap.size; omega)
      have EX := Lib.hid ex
      have EY := Lib.hid ey
      have TT := Lib.hid tt
      clear ex ey tt hne
      go_wp2_with (go_at_call 65; refine (table1_any op x y (w.heap.size + 1 + 1 + 1) _ bx by' ((TT.out 0).trans HT.out.1) ((TT.out 1).trans HT.out.2.1) ((TT.out 2).trans HT.out.2.2.1) ((TT.out 3).trans HT.out.2.2.2)).mono ?_; rintro e w' ⟨⟨z, rfl, hz⟩, rfl⟩; have HZ := Lib.hid hz; clear hz)
      exact ⟨⟨i + 1, by go_num, HR.out.step hlt (by rw [EX.out, EY.out]; exact HZ.out)⟩, by simp [intOf]; omega⟩
    · obtain rfl : i = m + 1 := by omega
      go_wp2_with fail
      obtain ⟨_, _, os, hol, hod, hoc, _, hown⟩ := HR.out
      have HOC := Lib.hid hoc
      have HOL := Lib.hid hol
      clear hoc hol
      refine (fromWords_any (w.heap.size + 4) g1 (m + 1) os wr hown hod (by omega) (by omega) (by have := hgr.size; omega)).mono ?_
      rintro e w7 ⟨ng, A2, n2, c2, rfl, hv, hb7⟩
      have h6s := hb6.size
      have hgs := hgr.size
      have hB5 := hb4.trans (hb5'.mono (B' := w.heap.size + 3) (by omega))
      have hB6 := hB5.trans (hb6.mono (B' := w.heap.size + 3) (by omega))
      have hBr := hB6.grown hgr (by omega) (fun k hk => by have e : g1 = k := (by simpa using hk); omega)
      have hB7 := hBr.trans (hb7.mono (B' := w.heap.size + 3) (by omega))
      obtain ⟨e1, e2, f1, f2⟩ := room2 hB7
      have hfin : Booled op (withSign p a) (withSign q b) (m + 1) (if 2147483648 ≤ os.getD (m + 1 - 1) 0 then val os - BB ^ (m + 1) else val os) :=
        ⟨wx, wy, os, HOX6.out.length, HOY.out.length, HOL.out, hdx, hdy, hod, HVX.out, HVY.out, HOC.out, rfl⟩
      have HF := Lib.hid hfin
      have HV := Lib.hid hv
      clear hfin hv
      go_wp2
      refine bodyPost_ret (v := .tuple #[.agg #[.bool ng, .slice A2 n2 c2], .int .i64 0]) (by simp [results, Tryd.results19, go_sem, e1, e2]) rfl ⟨⟨_, _, _, _, _, rfl, HV.out.stored e1 e2 _ _, HF.out⟩, ?_⟩
      exact ((hW.trans (hB7.mono (by omega))).setCell (by show _ ≤ _; simp; omega) _).setCell (by show _ ≤ _; simp; omega) _

set_option maxRecDepth 100000 in
set_option maxHeartbeats 1000000 in
theorem Boole_ge (p q : Bool) (A B : Option Addr) (n c m d : Nat) (a b op : Int) (w : World) (ha : ∃ xs, Row .u32 w A n c xs ∧ Dig xs ∧ val xs = a) (hb : ∃ ys, Row .u32 w B m d ys ∧ Dig ys ∧ val ys = b) (hn : n ≤ 1048576) (_hm : m ≤ 1048576) (h0 : 0 ≤ op) (h1 : op ≤ 15) (hle : m ≤ n) :
    Calls Tryd.prog 19 #[.agg #[.bool p, .slice A n c], .int .i64 op, .agg #[.bool q, .slice B m d]] w fun e w' => (∃ z ng A2 n2 c2, e = .returned (.tuple #[.agg #[.bool ng, .slice A2 n2 c2], .int .i64 0]) ∧ Ival w' (.agg #[.bool ng, .slice A2 n2 c2]) z (n + 1) ∧ Booled op (withSign p a) (withSign q b) (n + 1) z) ∧ Below w.heap.size w w' := by
  have hW := below_boxed2 w (.cells #[.bool p, .slice A n c] 28) (.cells #[.bool q, .slice B m d] 28) (.cells #[.bool false, .slice none 0 0] 28)
  have HA := Lib.hid ha
  have HB := Lib.hid hb
  clear ha hb
  go_enter Tryd.func19, Tryd.ntmps19
  go_wp2_with fail
  refine (table_any op _ h0 h1).mono ?_
  rintro e w4 ⟨rfl, rfl⟩
  have hb4 := (Below.refl (w.heap.size + 3) (((w.alloc (.cells #[.bool p, .slice A n c] 28)).alloc (.cells #[.bool q, .slice B m d] 28)).alloc (.cells #[.bool false, .slice none 0 0] 28))).alloc (by simp) (.cells #[.int .u32 (maskOf op 0), .int .u32 (maskOf op 1), .int .u32 (maskOf op 2), .int .u32 (maskOf op 3)] 110)
  have hW4 := hW.trans (hb4.mono (by omega))
  go_wp2_with fail
  refine (words_int p A n c (n + 1) _ (by omega) a _ (row_below HA.out hW4) (by omega) (by omega) (by omega)).mono ?_
  rintro e w5 ⟨⟨g1, wx, rfl, hox, hdx, hvx⟩, hb5⟩
  have hb5' := hb5.mono (B' := w.heap.size + 4) (by simp)
  have hb5s := hb5.size
  simp at hb5s
  have hW5 := hW4.trans (hb5'.mono (by omega))
  have hg1 := hox.lt
  simp at hg1
  have t0 : w5.cell? ⟨w.heap.size + 1 + 1 + 1, 0, none⟩ = some (.int .u32 (maskOf op 0)) := by rw [hb5'.cell (by simp), World.cell?_alloc_at _ _ _ _ (by simp)]; rfl
  have t1 : w5.cell? ⟨w.heap.size + 1 + 1 + 1, 1, none⟩ = some (.int .u32 (maskOf op 1)) := by rw [hb5'.cell (by simp), World.cell?_alloc_at _ _ _ _ (by simp)]; rfl
  have t2 : w5.cell? ⟨w.heap.size + 1 + 1 + 1, 2, none⟩ = some (.int .u32 (maskOf op 2)) := by rw [hb5'.cell (by simp), World.cell?_alloc_at _ _ _ _ (by simp)]; rfl
  have t3 : w5.cell? ⟨w.heap.size + 1 + 1 + 1, 3, none⟩ = some (.int .u32 (maskOf op 3)) := by rw [hb5'.cell (by simp), World.cell?_alloc_at _ _ _ _ (by simp)]; rfl
  have y0 : w5.cell? ⟨w.heap.size + 1, 0, none⟩ = some (.bool q) := (boxes2 (hb4.trans (hb5'.mono (by omega)) |>.mono (by omega))).2.2.1
  have y1 : w5.cell? ⟨w.heap.size + 1, 1, none⟩ = some (.slice B m d) := (boxes2 (hb4.trans (hb5'.mono (by omega)) |>.mono (by omega))).2.2.2.1
  have HOX := Lib.hid hox
  have HVX := Lib.hid hvx
  have HT := Lib.hid (And.intro t0 (And.intro t1 (And.intro t2 t3)))
  clear hox hvx t0 t1 t2 t3
  go_wp2_with fail
  refine (words_int q B m d (n + 1) _ (by omega) b _ (row_below HB.out hW5) (by omega) (by omega) (by omega)).mono ?_
  rintro e w6 ⟨⟨g2, wy, rfl, hoy, hdy, hvy⟩, hb6⟩
  have hg2 := hoy.lt
  have hox6 := HOX.out.below hb6
  have HOX6 := Lib.hid hox6
  have HOY := Lib.hid hoy
  have HVY := Lib.hid hvy
  clear hoy hvy hox6 y0 y1
  go_wp2_with fail
  go_loopw [37] (fun iv wr => ∃ i : Nat, iv = .int .i64 i ∧ BoolRel w6 wr (w.heap.size + 4) g1 (n + 1) op wx wy i) (fun iv _ => n + 1 - (intOf iv).toNat)
  case atStart => exact ⟨0, rfl, Nat.zero_le _, World.grownBy.refl _ _, wx, HOX6.out.length, hdx, fun t ht => absurd ht (by omega), fun t _ => rfl, own_base HOX6.out (by simp)⟩
  case round =>
    obtain ⟨i, rfl, hrel⟩ := hrel
    have HR := Lib.hid hrel
    obtain ⟨hik, hgr, -⟩ := hrel
    by_cases hlt : i < n + 1
    · obtain ⟨cx, fx⟩ := HR.out.cells hlt
      obtain ⟨x, ex⟩ : ∃ x, wx.getD i 0 = x := ⟨_, rfl⟩
      obtain ⟨y, ey⟩ : ∃ y, wy.getD i 0 = y := ⟨_, rfl⟩
      rw [ex] at cx
      have bx := hdx.getD i
      have by' := hdy.getD i
      rw [ex, BB_def] at bx
      rw [ey, BB_def] at by'
      have hne : ∀ k, k < w6.heap.size → k ≠ g1 → wr.heap[k]? = w6.heap[k]? := fun k hk hkg => hgr.block k hk (by simpa using hkg)
      have cy : wr.cell? ⟨g2, i, none⟩ = some (.int .u32 y) := by
        rw [World.cell?_of_block (w := w6) (hne g2 hg2.2 (by omega)), ← ey]; exact HOY.out.cell hlt
      have tt : ∀ j, wr.cell? ⟨w.heap.size + 1 + 1 + 1, j, none⟩ = w5.cell? ⟨w.heap.size + 1 + 1 + 1, j, none⟩ := fun j => by
        rw [World.cell?_of_block (w := w6) (hne (w.heap.size + 1 + 1 + 1) (by omega) (by omega))]
        exact hb6.cell (p := ⟨w.heap.size + 1 + 1 + 1, j, none⟩) (by show w.heap.size + 1 + 1 + 1 < w5.heap.size; omega)
      have EX := Lib.hid ex
      have EY := Lib.hid ey
      have TT := Lib.hid tt
      clear ex ey tt hne
      go_wp2_with (go_at_call 65; refine (table1_any op x y (w.heap.size + 1 + 1 + 1) _ bx by' ((TT.out 0).trans HT.out.1) ((TT.out 1).trans HT.out.2.1) ((TT.out 2).trans HT.out.2.2.1) ((TT.out 3).trans HT.out.2.2.2)).mono ?_; rintro e w' ⟨⟨z, rfl, hz⟩, rfl⟩; have HZ := Lib.hid hz; clear hz)
      exact ⟨⟨i + 1, by go_num, HR.out.step hlt (by rw [EX.out, EY.out]; exact HZ.out)⟩, by simp [intOf]; omega⟩
    · obtain rfl : i = n + 1 := by omega
      go_wp2_with fail
      obtain ⟨_, _, os, hol, hod, hoc, _, hown⟩ := HR.out
      have HOC := Lib.hid hoc
      have HOL := Lib.hid hol
      clear hoc hol
      refine (fromWords_any (w.heap.size + 4) g1 (n + 1) os wr hown hod (by omega) (by omega) (by have := hgr.size; omega)).mono ?_
      rintro e w7 ⟨ng, A2, n2, c2, rfl, hv, hb7⟩
      have h6s := hb6.size
      have hgs := hgr.size
      have hB5 := hb4.trans (hb5'.mono (B' := w.heap.size + 3) (by omega))
      have hB6 := hB5.trans (hb6.mono (B' := w.heap.size + 3) (by omega))
      have hBr := hB6.grown hgr (by omega) (fun k hk => by have e : g1 = k := (by simpa using hk); omega)
      have hB7 := hBr.trans (hb7.mono (B' := w.heap.size + 3) (by omega))
      obtain ⟨e1, e2, f1, f2⟩ := room2 hB7
      have hfin : Booled op (withSign p a) (withSign q b) (n + 1) (if 2147483648 ≤ os.getD (n + 1 - 1) 0 then val os - BB ^ (n + 1) else val os) :=
        ⟨wx, wy, os, HOX6.out.length, HOY.out.length, HOL.out, hdx, hdy, hod, HVX.out, HVY.out, HOC.out, rfl⟩
      have HF := Lib.hid hfin
      have HV := Lib.hid hv
      clear hfin hv
      go_wp2
      refine bodyPost_ret (v := .tuple #[.agg #[.bool ng, .slice A2 n2 c2], .int .i64 0]) (by simp [results, Tryd.results19, go_sem, e1, e2]) rfl ⟨⟨_, _, _, _, _, rfl, HV.out.stored e1 e2 _ _, HF.out⟩, ?_⟩
      exact ((hW.trans (hB7.mono (by omega))).setCell (by show _ ≤ _; simp; omega) _).setCell (by show _ ≤ _; simp; omega) _

theorem Boole_any (p q : Bool) (A B : Option Addr) (n c m d : Nat) (a b op : Int) (w : World) (ha : ∃ xs, Row .u32 w A n c xs ∧ Dig xs ∧ val xs = a) (hb : ∃ ys, Row .u32 w B m d ys ∧ Dig ys ∧ val ys = b) (hn : n ≤ 1048576) (hm : m ≤ 1048576) (h0 : 0 ≤ op) (h1 : op ≤ 15) :
    Calls Tryd.prog 19 #[.agg #[.bool p, .slice A n c], .int .i64 op, .agg #[.bool q, .slice B m d]] w fun e w' => (∃ z ng A2 n2 c2, e = .returned (.tuple #[.agg #[.bool ng, .slice A2 n2 c2], .int .i64 0]) ∧ Ival w' (.agg #[.bool ng, .slice A2 n2 c2]) z (max n m + 1) ∧ Booled op (withSign p a) (withSign q b) (max n m + 1) z) ∧ Below w.heap.size w w' := by
  rcases Nat.lt_or_ge n m with h | h
  · rw [Nat.max_eq_right (by omega)]; exact Boole_lt p q A B n c m d a b op w ha hb hn hm h0 h1 h
  · rw [Nat.max_eq_left h]; exact Boole_ge p q A B n c m d a b op w ha hb hn hm h0 h1 h

end Go.Proofs.YtoanomgdkkbbmaaDoor

