/- difference: the difference of two multiples. -/
import Derived.Test.YtoanomgdkkbbmaaLehmer
namespace Go.Proofs.Ytoanomgdkkbbmaa
open Go.RowKit LM

/-- Behind k digits of a difference of multiples. -/
def DiffRel (w wr : World) (N : Nat) (xs ys : List Int) (u v : Int) (k : Nat) (p m br : Int) : Prop :=
  k ≤ N ∧ (0 ≤ p ∧ p < BB) ∧ (0 ≤ m ∧ m < BB) ∧ (0 ≤ br ∧ br ≤ 1) ∧ Below w.heap.size w wr ∧ ∃ ds : List Int, ds.length = k ∧ Dig ds ∧ val ds + BB ^ k * (p - m - br) = u * val (xs.take k) - v * val (ys.take k) ∧
    Own wr w.heap.size w.heap.size N (ds ++ List.replicate (N - k) 0)

theorem DiffRel.cells {w wr : World} {N : Nat} {xs ys : List Int} {u v : Int} {k : Nat} {p m br : Int} (h : DiffRel w wr N xs ys u v k p m br) (hk : k < N) :
    (∃ c, wr.cell? ⟨w.heap.size, k, none⟩ = some (.int .u32 c)) ∧ wr.frozen? ⟨w.heap.size, k, none⟩ = false := by
  obtain ⟨_, _, _, _, _, ds, _, _, _, ho⟩ := h
  exact ⟨⟨_, ho.cell hk⟩, ho.frozen k⟩

theorem DiffRel.step {w wr : World} {N : Nat} {xs ys : List Int} {u v : Int} {k : Nat} {p m br x y s t : Int} (h : DiffRel w wr N xs ys u v k p m br) (hk : k < N) (hu : 0 ≤ u ∧ u < BB) (hv : 0 ≤ v ∧ v < BB)
    (hx : 0 ≤ x ∧ x < BB) (hy : 0 ≤ y ∧ y < BB) (ex : xs.getD k 0 = x) (ey : ys.getD k 0 = y) (hs : p + u * x = s) (ht : m + v * y = t) :
    (0 ≤ u * x ∧ u * x < 18446744073709551616) ∧ (0 ≤ v * y ∧ v * y < 18446744073709551616) ∧ (0 ≤ s ∧ s < 18446744073709551616) ∧ (0 ≤ t ∧ t < 18446744073709551616) ∧ (0 ≤ s % 4294967296 ∧ s % 4294967296 < 4294967296) ∧ (0 ≤ t % 4294967296 ∧ t % 4294967296 < 4294967296) ∧
      DiffRel w (wr.setCell ⟨w.heap.size, k, none⟩ (.int .u32 ((s % 4294967296 - t % 4294967296 - br) % 4294967296))) N xs ys u v (k + 1) (s / 4294967296) (t / 4294967296) (borrowOf (s % 4294967296) (t % 4294967296) br) := by
  obtain ⟨_, hp, hm, hbr, hb, ds, hl, hd, he, ho⟩ := h
  obtain ⟨h1, h2, h3, h4, h5, h6, h7⟩ := diff_step hl hd hu hv hp hm hbr hx hy ex ey hs ht he
  have hset := ho.set k ((s % 4294967296 - t % 4294967296 - br) % 4294967296)
  rw [set_zeros ds N k hl hk] at hset
  have hux : 0 ≤ u * x := Int.mul_nonneg hu.1 hx.1
  have hvy : 0 ≤ v * y := Int.mul_nonneg hv.1 hy.1
  exact ⟨⟨hux, by omega⟩, ⟨hvy, by omega⟩, h1, h2, ⟨Int.emod_nonneg _ (by decide), Int.emod_lt_of_pos _ (by decide)⟩, ⟨Int.emod_nonneg _ (by decide), Int.emod_lt_of_pos _ (by decide)⟩, hk, h3, h4, h5, hb.setCell (Nat.le_refl _) _, _, by simp [hl], h6, h7, hset⟩

theorem DiffRel.done {w wr : World} {N : Nat} {xs ys : List Int} {u v : Int} {p m br : Int} (h : DiffRel w wr N xs ys u v N p m br) (hx : xs.length ≤ N) (hy : ys.length ≤ N) (hD0 : 0 ≤ u * val xs - v * val ys) (hD1 : u * val xs - v * val ys < BB ^ N) :
    ∃ zs, Dig zs ∧ val zs = u * val xs - v * val ys ∧ Row .u32 wr (some ⟨w.heap.size, 0, none⟩) N N zs ∧ Below w.heap.size w wr := by
  obtain ⟨_, hp, hm, hbr, hb, ds, hl, hd, he, ho⟩ := h
  rw [Nat.sub_self, List.replicate_zero, List.append_nil] at ho
  rw [List.take_of_length_le hx, List.take_of_length_le hy] at he
  exact ⟨ds, hd, diff_done hl hd hD0 hD1 he, ho.row, hb⟩

set_option maxRecDepth 100000 in
set_option maxHeartbeats 1000000 in
theorem difference_ge (A B : Option Addr) (n m c d : Nat) (xs ys : List Int) (u v : Int) (w : World) (h : Row .u32 w A n c xs) (g : Row .u32 w B m d ys) (hn : n ≤ 1048576) (hm : m ≤ 1048576) (hle : m ≤ n)
    (hdx : Dig xs) (hdy : Dig ys) (hu : 0 ≤ u ∧ u < BB) (hv : 0 ≤ v ∧ v < BB) (hD0 : 0 ≤ u * val xs - v * val ys) (hD1 : u * val xs - v * val ys < BB ^ n) :
    Calls Try.prog 142 #[.int .u64 u, .slice A n c, .int .u64 v, .slice B m d] w fun e w' => ∃ r, e = .returned r ∧ Num w' r (u * val xs - v * val ys) n ∧ Below w.heap.size w w' := by
  obtain ⟨i0, hi, hz0, hz1, hz2⟩ := info_parts Try.info99
  have HH := Lib.hid h
  have HG := Lib.hid g
  have HL := Lib.hid h.1
  have GL := Lib.hid g.1
  have HU := Lib.hid hu
  have HV := Lib.hid hv
  have HD0 := Lib.hid hD0
  have HD1 := Lib.hid hD1
  rw [BB_def] at hu hv
  obtain ⟨hu0, hu1⟩ := hu
  obtain ⟨hv0, hv1⟩ := hv
  clear h g hD0 hD1
  go_enter Try.func142, Try.ntmps142
  go_wp2_with (at_make; refine wpList_make_full _ rfl _ _ 22 rfl w.heap.size 99 i0 (.int .u32 0) 1 Try.underlying22 hi hz0 hz1 _ _ _ _ n rfl rfl (by omega) (by omega) (by rw [hz2]; omega) (by unfold maxLen; omega) (Nat.le_refl _) ?_; intro w1 hown hgrow)
  go_loopw [10, 11, 12, 22] (fun pv mv bv iv wr => ∃ (k : Nat) (pp mm br : Int), iv = .int .i64 k ∧ pv = .int .u64 pp ∧ mv = .int .u64 mm ∧ bv = .int .u32 br ∧ DiffRel w wr n xs ys u v k pp mm br) (fun _ _ _ iv _ => n - (intOf iv).toNat)
  case atStart =>
    refine ⟨0, 0, 0, 0, rfl, rfl, rfl, rfl, Nat.zero_le _, by decide, by decide, by decide, (Below.refl _ _).grown hgrow (Nat.le_refl _) (fun _ h => by cases h), [], rfl, Dig.nil, by simp [val], ?_⟩
    rw [zeros_made] at hown
    exact hown
  case round =>
    obtain ⟨k, pp, mm, br, rfl, rfl, rfl, rfl, hrel⟩ := hrel
    have HR := Lib.hid hrel
    by_cases hlt : k < n
    · obtain ⟨⟨cu, hcu⟩, hf⟩ := hrel.cells hlt
      obtain ⟨hk, hp, hmm, hbr, hb, -⟩ := hrel
      obtain ⟨x, ex⟩ : ∃ x, xs.getD k 0 = x := ⟨_, rfl⟩
      obtain ⟨y, ey⟩ : ∃ y, ys.getD k 0 = y := ⟨_, rfl⟩
      have bx := hdx.getD k
      have by' := hdy.getD k
      rw [ex] at bx
      rw [ey] at by'
      obtain ⟨s, hs⟩ : ∃ s, pp + u * x = s := ⟨_, rfl⟩
      obtain ⟨t, ht⟩ : ∃ t, mm + v * y = t := ⟨_, rfl⟩
      obtain ⟨⟨ux0, ux1⟩, ⟨vy0, vy1⟩, ⟨s0, s1⟩, ⟨t0, t1⟩, ⟨sl0, sl1⟩, ⟨tl0, tl1⟩, hst⟩ := HR.out.step hlt HU.out HV.out bx by' ex ey hs ht
      have HST := Lib.hid hst
      have EX := Lib.hid ex
      have EY := Lib.hid ey
      rw [BB_def] at bx by' hp hmm
      obtain ⟨bx0, bx1⟩ := bx
      obtain ⟨by0, by1⟩ := by'
      obtain ⟨hp0, hp1⟩ := hp
      obtain ⟨hm0, hm1⟩ := hmm
      obtain ⟨hbr0, hbr1⟩ := hbr
      have HB := Lib.hid hb
      clear ex ey hst hb
      go_wp2_with fail
      refine (at_is A n c xs x k _ (HH.out.below HB.out) (by omega) (by omega) (by rw [Int.toNat_natCast]; exact EX.out)).mono ?_
      rintro e w' ⟨rfl, rfl⟩
      go_wp2_with fail
      refine (at_is B m d ys y k _ (HG.out.below HB.out) (by omega) (by omega) (by rw [Int.toNat_natCast]; exact EY.out)).mono ?_
      rintro e w' ⟨rfl, rfl⟩
      go_wp2_with fail
      refine (sub32_any (s % 4294967296) (t % 4294967296) br _ ⟨sl0, sl1⟩ ⟨tl0, tl1⟩ ⟨hbr0, hbr1⟩).mono ?_
      rintro e w' ⟨rfl, rfl⟩
      go_wp2_with fail
      exact ⟨⟨k + 1, _, _, _, by go_num, rfl, rfl, rfl, HST.out⟩, by simp [intOf]; omega⟩
    · obtain ⟨hk, -, -, -, -, -⟩ := hrel
      obtain rfl : k = n := by omega
      obtain ⟨zs, hdz, hvz, hrz, hbz⟩ := HR.out.done (by rw [HL.out]; omega) (by rw [GL.out]; omega) HD0.out HD1.out
      have HZ := Lib.hid hvz
      clear hvz
      go_wp2_with fail
      refine (trim_any _ _ _ zs _ hrz (by omega)).mono ?_
      rintro e w' ⟨j, hj, rfl, rfl, hvj, htj⟩
      have HVJ := Lib.hid hvj
      clear hvj
      go_wp2
      go_ret
      exact ⟨_, rfl, ⟨_, _, _, _, rfl, hrz.take hj, hdz.take _, htj, HVJ.out.trans HZ.out, hj⟩, hbz⟩

set_option maxRecDepth 100000 in
set_option maxHeartbeats 1000000 in
theorem difference_lt (A B : Option Addr) (n m c d : Nat) (xs ys : List Int) (u v : Int) (w : World) (h : Row .u32 w A n c xs) (g : Row .u32 w B m d ys) (hn : n ≤ 1048576) (hm : m ≤ 1048576) (hle : n < m)
    (hdx : Dig xs) (hdy : Dig ys) (hu : 0 ≤ u ∧ u < BB) (hv : 0 ≤ v ∧ v < BB) (hD0 : 0 ≤ u * val xs - v * val ys) (hD1 : u * val xs - v * val ys < BB ^ m) :
    Calls Try.prog 142 #[.int .u64 u, .slice A n c, .int .u64 v, .slice B m d] w fun e w' => ∃ r, e = .returned r ∧ Num w' r (u * val xs - v * val ys) m ∧ Below w.heap.size w w' := by
  obtain ⟨i0, hi, hz0, hz1, hz2⟩ := info_parts Try.info99
  have HH := Lib.hid h
  have HG := Lib.hid g
  have HL := Lib.hid h.1
  have GL := Lib.hid g.1
  have HU := Lib.hid hu
  have HV := Lib.hid hv
  have HD0 := Lib.hid hD0
  have HD1 := Lib.hid hD1
  rw [BB_def] at hu hv
  obtain ⟨hu0, hu1⟩ := hu
  obtain ⟨hv0, hv1⟩ := hv
  clear h g hD0 hD1
  go_enter Try.func142, Try.ntmps142
  go_wp2_with (at_make; refine wpList_make_full _ rfl _ _ 22 rfl w.heap.size 99 i0 (.int .u32 0) 1 Try.underlying22 hi hz0 hz1 _ _ _ _ m rfl rfl (by omega) (by omega) (by rw [hz2]; omega) (by unfold maxLen; omega) (Nat.le_refl _) ?_; intro w1 hown hgrow)
  go_loopw [10, 11, 12, 22] (fun pv mv bv iv wr => ∃ (k : Nat) (pp mm br : Int), iv = .int .i64 k ∧ pv = .int .u64 pp ∧ mv = .int .u64 mm ∧ bv = .int .u32 br ∧ DiffRel w wr m xs ys u v k pp mm br) (fun _ _ _ iv _ => m - (intOf iv).toNat)
  case atStart =>
    refine ⟨0, 0, 0, 0, rfl, rfl, rfl, rfl, Nat.zero_le _, by decide, by decide, by decide, (Below.refl _ _).grown hgrow (Nat.le_refl _) (fun _ h => by cases h), [], rfl, Dig.nil, by simp [val], ?_⟩
    rw [zeros_made] at hown
    exact hown
  case round =>
    obtain ⟨k, pp, mm, br, rfl, rfl, rfl, rfl, hrel⟩ := hrel
    have HR := Lib.hid hrel
    by_cases hlt : k < m
    · obtain ⟨⟨cu, hcu⟩, hf⟩ := hrel.cells hlt
      obtain ⟨hk, hp, hmm, hbr, hb, -⟩ := hrel
      obtain ⟨x, ex⟩ : ∃ x, xs.getD k 0 = x := ⟨_, rfl⟩
      obtain ⟨y, ey⟩ : ∃ y, ys.getD k 0 = y := ⟨_, rfl⟩
      have bx := hdx.getD k
      have by' := hdy.getD k
      rw [ex] at bx
      rw [ey] at by'
      obtain ⟨s, hs⟩ : ∃ s, pp + u * x = s := ⟨_, rfl⟩
      obtain ⟨t, ht⟩ : ∃ t, mm + v * y = t := ⟨_, rfl⟩
      obtain ⟨⟨ux0, ux1⟩, ⟨vy0, vy1⟩, ⟨s0, s1⟩, ⟨t0, t1⟩, ⟨sl0, sl1⟩, ⟨tl0, tl1⟩, hst⟩ := HR.out.step hlt HU.out HV.out bx by' ex ey hs ht
      have HST := Lib.hid hst
      have EX := Lib.hid ex
      have EY := Lib.hid ey
      rw [BB_def] at bx by' hp hmm
      obtain ⟨bx0, bx1⟩ := bx
      obtain ⟨by0, by1⟩ := by'
      obtain ⟨hp0, hp1⟩ := hp
      obtain ⟨hm0, hm1⟩ := hmm
      obtain ⟨hbr0, hbr1⟩ := hbr
      have HB := Lib.hid hb
      clear ex ey hst hb
      go_wp2_with fail
      refine (at_is A n c xs x k _ (HH.out.below HB.out) (by omega) (by omega) (by rw [Int.toNat_natCast]; exact EX.out)).mono ?_
      rintro e w' ⟨rfl, rfl⟩
      go_wp2_with fail
      refine (at_is B m d ys y k _ (HG.out.below HB.out) (by omega) (by omega) (by rw [Int.toNat_natCast]; exact EY.out)).mono ?_
      rintro e w' ⟨rfl, rfl⟩
      go_wp2_with fail
      refine (sub32_any (s % 4294967296) (t % 4294967296) br _ ⟨sl0, sl1⟩ ⟨tl0, tl1⟩ ⟨hbr0, hbr1⟩).mono ?_
      rintro e w' ⟨rfl, rfl⟩
      go_wp2_with fail
      exact ⟨⟨k + 1, _, _, _, by go_num, rfl, rfl, rfl, HST.out⟩, by simp [intOf]; omega⟩
    · obtain ⟨hk, -, -, -, -, -⟩ := hrel
      obtain rfl : k = m := by omega
      obtain ⟨zs, hdz, hvz, hrz, hbz⟩ := HR.out.done (by rw [HL.out]; omega) (by rw [GL.out]; omega) HD0.out HD1.out
      have HZ := Lib.hid hvz
      clear hvz
      go_wp2_with fail
      refine (trim_any _ _ _ zs _ hrz (by omega)).mono ?_
      rintro e w' ⟨j, hj, rfl, rfl, hvj, htj⟩
      have HVJ := Lib.hid hvj
      clear hvj
      go_wp2
      go_ret
      exact ⟨_, rfl, ⟨_, _, _, _, rfl, hrz.take hj, hdz.take _, htj, HVJ.out.trans HZ.out, hj⟩, hbz⟩

theorem difference_num (a b : Value) (x y u v : Int) (L M : Nat) (w : World) (h : Num w a x L) (g : Num w b y M) (hL : L ≤ 1048576) (hM : M ≤ 1048576) (hu : 0 ≤ u ∧ u < BB) (hv : 0 ≤ v ∧ v < BB) (hD0 : 0 ≤ u * x - v * y) (hD1 : u * x - v * y ≤ max x y) :
    Calls Try.prog 142 #[.int .u64 u, a, .int .u64 v, b] w fun e w' => ∃ r, e = .returned r ∧ Num w' r (u * x - v * y) (max L M) ∧ Below w.heap.size w w' := by
  obtain ⟨A, n, c, xs, rfl, hr, hd, _, rfl, hn⟩ := h
  obtain ⟨B, m, d, ys, rfl, gr, gd, _, rfl, hm⟩ := g
  have bx := (val_bounds hd).2
  have by' := (val_bounds gd).2
  rw [hr.1] at bx
  rw [gr.1] at by'
  rcases Nat.lt_or_ge n m with hnm | hnm
  · have hp : BB ^ n ≤ BB ^ m := pow_le (by omega)
    refine (difference_lt A B n m c d xs ys u v w hr gr (by omega) (by omega) hnm hd gd hu hv hD0 (by omega)).mono ?_
    rintro e w' ⟨r, he, hr, hb⟩
    exact ⟨r, he, hr.mono (by omega), hb⟩
  · have hp : BB ^ m ≤ BB ^ n := pow_le hnm
    refine (difference_ge A B n m c d xs ys u v w hr gr (by omega) (by omega) hnm hd gd hu hv hD0 (by omega)).mono ?_
    rintro e w' ⟨r, he, hr, hb⟩
    exact ⟨r, he, hr.mono (by omega), hb⟩

end Go.Proofs.Ytoanomgdkkbbmaa
