/- multiply. -/
import Derived.Test.YtoanomgdkkbbmaaSub
namespace Go.Proofs.Ytoanomgdkkbbmaa
open Go.RowKit LM

/-- Behind i digits of the one number. -/
def MulRel (w wr : World) (n m : Nat) (xs ys : List Int) (i : Nat) : Prop :=
  i ≤ n ∧ Below w.heap.size w wr ∧ ∃ ds : List Int, ds.length = i + m ∧ Dig ds ∧ val ds = val (xs.take i) * val ys ∧
    Own wr w.heap.size w.heap.size (n + m) (ds ++ List.replicate (n - i) 0)

/-- Behind k digits of the other one. -/
def RowRel (w wr : World) (n m : Nat) (xs ys : List Int) (i k : Nat) (cc : Int) : Prop :=
  i < n ∧ k ≤ m ∧ (0 ≤ cc ∧ cc < BB) ∧ Below w.heap.size w wr ∧ ∃ cs : List Int, cs.length = i + m ∧ Dig cs ∧
    val cs + BB ^ (i + k) * cc = val (xs.take i) * val ys + BB ^ i * (xs.getD i 0 * val (ys.take k)) ∧
    Own wr w.heap.size w.heap.size (n + m) (cs ++ List.replicate (n - i) 0)

theorem val_set (l : List Int) (i : Nat) (d : Int) (h : i < l.length) : val (l.set i d) = val l + BB ^ i * (d - l.getD i 0) := by
  have e1 : l.set i d = l.take i ++ d :: l.drop (i + 1) := List.set_eq_take_append_cons_drop.trans (if_pos h)
  have e2 : val l = val (l.take i) + BB ^ i * val (l.getD i 0 :: l.drop (i + 1)) := by rw [← drop_cons l i h]; exact val_split l i (by omega)
  rw [e1, val_append, List.length_take, Nat.min_eq_left (by omega), e2, val_cons, val_cons, Int.mul_add, Int.mul_add, Int.mul_sub]
  omega

theorem LM.Dig.set {l : List Int} (h : Dig l) (i : Nat) {d : Int} (h0 : 0 ≤ d) (h1 : d < BB) : Dig (l.set i d) := by
  intro j hj
  have hj' : j < l.length := by simpa using hj
  by_cases e : i = j
  · subst e; simp [List.getD, hj', h0, h1]
  · have := h j hj'
    simpa [List.getD, List.getElem?_set, e] using this

theorem mul_bound {x y : Int} (hx : 0 ≤ x ∧ x < BB) (hy : 0 ≤ y ∧ y < BB) : 0 ≤ x * y ∧ x * y ≤ 18446744065119617025 := by
  refine ⟨Int.mul_nonneg hx.1 hy.1, ?_⟩
  rw [BB_def] at hx hy
  have h1 : x * y ≤ 4294967295 * y := Int.mul_le_mul_of_nonneg_right (by omega) hy.1
  omega

theorem RowRel.start {w wr : World} {n m : Nat} {xs ys : List Int} {i : Nat} (h : MulRel w wr n m xs ys i) (hi : i < n) : RowRel w wr n m xs ys i 0 0 := by
  obtain ⟨_, hb, ds, hl, hd, hv, ho⟩ := h
  exact ⟨hi, Nat.zero_le _, ⟨by decide, by decide⟩, hb, ds, hl, hd, by simp [hv, val], ho⟩

theorem RowRel.cells {w wr : World} {n m : Nat} {xs ys : List Int} {i k : Nat} {cc : Int} (h : RowRel w wr n m xs ys i k cc) (hk : k < m) :
    ∃ u, (wr.cell? ⟨w.heap.size, i + k, none⟩ = some (.int .u32 u) ∧ wr.frozen? ⟨w.heap.size, i + k, none⟩ = false ∧ 0 ≤ u ∧ u < 4294967296) ∧
      ∀ y, ys.getD k 0 = y → 0 ≤ y ∧ y < BB → 0 ≤ xs.getD i 0 ∧ xs.getD i 0 < BB →
        RowRel w (wr.setCell ⟨w.heap.size, i + k, none⟩ (.int .u32 ((cc + (xs.getD i 0 * y + u)) % 4294967296))) n m xs ys i (k + 1) ((cc + (xs.getD i 0 * y + u)) / 4294967296) := by
  obtain ⟨hi, _, hcc, hb, cs, hl, hd, hv, ho⟩ := h
  have e : (cs ++ List.replicate (n - i) 0).getD (i + k) 0 = cs.getD (i + k) 0 := by
    simp [List.getD, List.getElem?_append_left, hl, hk]
  have hu := hd.getD (i + k)
  refine ⟨cs.getD (i + k) 0, ⟨by rw [← e]; exact ho.cell (by omega), ho.frozen _, hu⟩, fun y hy by' bx => ?_⟩
  have hp := mul_bound bx by'
  generalize hs : cc + (xs.getD i 0 * y + cs.getD (i + k) 0) = s
  have h0 : 0 ≤ s := by rw [← hs]; omega
  have h2 : s / 4294967296 < 4294967296 := by rw [BB_def] at *; omega
  have hset := ho.set (i + k) (s % BB)
  rw [List.set_append_left _ _ (by omega)] at hset
  refine ⟨hi, hk, ⟨by omega, h2⟩, hb.setCell (Nat.le_refl _) _, cs.set (i + k) (s % BB), by simpa using hl, hd.set _ (Int.emod_nonneg _ (by decide)) (Int.emod_lt_of_pos _ (by decide)), ?_, hset⟩
  rw [val_set _ _ _ (by omega), val_take_succ, hy]
  have e1 := pow_split (i + k) (s % BB) (s / BB)
  rw [digit_split, show BB ^ (i + k) * s = BB ^ (i + k) * cc + (BB ^ (i + k) * (xs.getD i 0 * y) + BB ^ (i + k) * cs.getD (i + k) 0) from by rw [← hs, Int.mul_add, Int.mul_add]] at e1
  have e2 : BB ^ i * (xs.getD i 0 * (val (ys.take k) + BB ^ k * y)) = BB ^ i * (xs.getD i 0 * val (ys.take k)) + BB ^ (i + k) * (xs.getD i 0 * y) := by
    rw [Int.pow_add]; grind
  rw [e2, Int.mul_sub]
  have e3 : s / 4294967296 = s / BB := rfl
  rw [e3, show i + (k + 1) = i + k + 1 from rfl]
  omega

theorem MulRel.next {w wr : World} {n m : Nat} {xs ys : List Int} {i : Nat} {cc : Int} (h : RowRel w wr n m xs ys i m cc) (hm : ys.length ≤ m) :
    (∃ u, wr.cell? ⟨w.heap.size, i + m, none⟩ = some (.int .u32 u)) ∧ wr.frozen? ⟨w.heap.size, i + m, none⟩ = false ∧ (0 ≤ cc ∧ cc < 4294967296) ∧
      MulRel w (wr.setCell ⟨w.heap.size, i + m, none⟩ (.int .u32 cc)) n m xs ys (i + 1) := by
  obtain ⟨hi, _, hcc, hb, cs, hl, hd, hv, ho⟩ := h
  have hset := ho.set (i + m) cc
  have e : (cs ++ List.replicate (n - i) 0).set (i + m) cc = (cs ++ [cc]) ++ List.replicate (n - (i + 1)) 0 := by
    have := set_zeros cs (n + m) (i + m) hl (by omega) cc
    rw [show n + m - (i + m) = n - i from by omega, show n + m - (i + m + 1) = n - (i + 1) from by omega] at this
    exact this
  rw [e] at hset
  refine ⟨⟨_, ho.cell (by omega)⟩, ho.frozen _, hcc, hi, hb.setCell (Nat.le_refl _) _, _, by simp [hl]; omega, hd.snoc hcc.1 hcc.2, ?_, hset⟩
  rw [val_snoc, hl, hv, List.take_of_length_le hm, val_take_succ, Int.add_mul]
  grind

set_option maxRecDepth 100000 in
set_option maxHeartbeats 1000000 in
theorem multiply_any (A B : Option Addr) (n m c d : Nat) (xs ys : List Int) (w : World) (h : Row .u32 w A n c xs) (g : Row .u32 w B m d ys) (hn : n ≤ 1048577) (hm : m ≤ 1048577)
    (hn0 : n ≠ 0) (hm0 : m ≠ 0) (hdx : Dig xs) (hdy : Dig ys) :
    Calls Try.prog 90 #[.slice A n c, .slice B m d] w fun e w' => ∃ v, e = .returned v ∧ Num w' v (val xs * val ys) (n + m) ∧ Below w.heap.size w w' := by
  obtain ⟨i0, hi, hz0, hz1, hz2⟩ := info_parts Try.info99
  obtain ⟨hl, hc, hcell⟩ := h
  obtain ⟨gl, gc, gcell⟩ := g
  obtain ⟨b, o, rfl, hbx, hx⟩ := hcell hn0
  obtain ⟨b', o', rfl, hby, hy⟩ := gcell hm0
  have HX := Lib.hid hx
  have HY := Lib.hid hy
  have HL := Lib.hid hl
  have GL := Lib.hid gl
  clear hl gl hx hy hcell gcell
  have z1 : ((n : Int) == 0) = false := by simp; omega
  have z2 : ((m : Int) == 0) = false := by simp; omega
  go_enter Try.func90, Try.ntmps90
  go_wp2_with (at_make; refine wpList_make_full _ rfl _ _ 22 rfl w.heap.size 99 i0 (.int .u32 0) 1 Try.underlying22 hi hz0 hz1 _ _ _ _ (n + m) rfl rfl (by omega) (by omega) (by rw [hz2]; omega) (by unfold maxLen; omega) (Nat.le_refl _) ?_; intro w1 hown hgrow)
  go_loopw [28] (fun iv wr => ∃ i : Nat, iv = .int .i64 i ∧ MulRel w wr n m xs ys i) (fun iv _ => n - (intOf iv).toNat)
  case atStart =>
    refine ⟨0, rfl, Nat.zero_le _, (Below.refl _ _).grown hgrow (Nat.le_refl _) (fun _ h => by cases h), List.replicate m 0, by simp, ?_, by simp [val_zeros, val], ?_⟩
    · intro i hi; simp at hi; simp [List.getD, hi]; decide
    · rw [zeros_made] at hown
      rw [List.replicate_append_replicate, Nat.sub_zero, Nat.add_comm m n]
      exact hown
  case round =>
    obtain ⟨i, rfl, hrel⟩ := hrel
    have HR := Lib.hid hrel
    obtain ⟨hk, hb, -⟩ := hrel
    by_cases hlt : i < n
    · obtain ⟨x, ex⟩ : ∃ x, xs.getD i 0 = x := ⟨_, rfl⟩
      have hx1 : wr.cell? ⟨b, o + i, none⟩ = some (.int .u32 x) := by rw [← ex]; exact (hb.cell (p := ⟨b, o + i, none⟩) hbx).trans (HX.out i hlt)
      have bx := hdx.getD i
      rw [ex, BB_def] at bx
      obtain ⟨bx0, bx1⟩ := bx
      have EX := Lib.hid ex
      clear ex
      go_wp2_with fail
      obtain ⟨wo, rfl⟩ : ∃ wo : World, wo = wr := ⟨_, rfl⟩
      go_loopw [8, 42] (fun cv kv wx => ∃ (k : Nat) (cc : Int), kv = .int .i64 k ∧ cv = .int .u64 cc ∧ RowRel w wx n m xs ys i k cc) (fun _ kv _ => m - (intOf kv).toNat)
      case atStart => exact ⟨0, 0, rfl, rfl, RowRel.start HR.out hlt⟩
      case round =>
        obtain ⟨k, cc, rfl, rfl, hrow⟩ := hrel
        have HW := Lib.hid hrow
        obtain ⟨_, hkm, hcc, hbw, -⟩ := hrow
        obtain ⟨cc0, cc1⟩ := hcc
        rw [BB_def] at cc1
        by_cases hk2 : k < m
        · obtain ⟨u, ⟨hu, hf, hu0, hu1⟩, hnext⟩ := HW.out.cells hk2
          obtain ⟨y, ey⟩ : ∃ y, ys.getD k 0 = y := ⟨_, rfl⟩
          have hy1 : wr.cell? ⟨b', o' + k, none⟩ = some (.int .u32 y) := by rw [← ey]; exact (hbw.cell (p := ⟨b', o' + k, none⟩) hby).trans (HY.out k hk2)
          have by' := hdy.getD k
          rw [ey] at by'
          have hnext' := hnext y ey by' (hdx.getD i)
          clear hnext
          rw [EX.out] at hnext'
          have HN := Lib.hid hnext'
          clear hnext' ey
          obtain ⟨p0, p1⟩ := mul_bound (x := x) (y := y) ⟨bx0, bx1⟩ by'
          obtain ⟨by0, by1⟩ := by'
          rw [BB_def] at by1
          go_wp2_with fail
          exact ⟨⟨k + 1, _, by go_num, rfl, HN.out⟩, by simp [intOf]; omega⟩
        · obtain rfl : k = m := by omega
          obtain ⟨⟨u, hu⟩, hf, _, hnext⟩ := MulRel.next HW.out (by rw [GL.out]; exact Nat.le_refl _)
          have HN := Lib.hid hnext
          clear hnext
          go_wp2_with fail
          exact ⟨⟨i + 1, by go_num, HN.out⟩, by simp [intOf]; omega⟩
    · obtain rfl : i = n := by omega
      go_wp2_with fail
      obtain ⟨_, _, ds, hdl, hdd, hdv, ho⟩ := HR.out
      rw [Nat.sub_self, List.replicate_zero, List.append_nil] at ho
      refine (trim_any _ _ _ ds _ ho.row (by omega)).mono ?_
      rintro e w' ⟨j, hj, rfl, rfl, hvj, htj⟩
      have HV := Lib.hid (hvj.trans hdv)
      clear hvj hdv hdl
      go_wp2
      go_ret
      refine ⟨_, rfl, ⟨_, _, _, _, rfl, ho.row.take hj, hdd.take _, htj, ?_, hj⟩, hb⟩
      rw [HV.out, List.take_of_length_le (by rw [HL.out]; exact Nat.le_refl _)]

theorem multiply_none (A B : Option Addr) (n m c d : Nat) (w : World) (h : n = 0 ∨ m = 0) :
    Calls Try.prog 90 #[.slice A n c, .slice B m d] w fun e w' => e = .returned (.slice none 0 0) ∧ w = w' := by
  by_cases hn : n = 0
  · subst hn
    go_enter Try.func90, Try.ntmps90
    go_wp2
    go_ret
    exact ⟨rfl, rfl⟩
  · obtain rfl : m = 0 := by omega
    have z1 : ((n : Int) == 0) = false := by simp; omega
    go_enter Try.func90, Try.ntmps90
    go_wp2
    go_ret
    exact ⟨rfl, rfl⟩

theorem Num.zero (w : World) (L : Nat) : Num w (.slice none 0 0) 0 L := ⟨none, 0, 0, [], rfl, Row.nil_, Dig.nil, .inl rfl, rfl, Nat.zero_le _⟩

theorem multiply_num (u v : Value) (x y : Int) (L M : Nat) (w : World) (h : Num w u x L) (g : Num w v y M) (hL : L ≤ 1048577) (hM : M ≤ 1048577) :
    Calls Try.prog 90 #[u, v] w fun e w' => ∃ r, e = .returned r ∧ Num w' r (x * y) (L + M) ∧ Below w.heap.size w w' := by
  obtain ⟨A, n, c, xs, rfl, hr, hd, ht, rfl, hn⟩ := h
  obtain ⟨B, m, d, ys, rfl, gr, gd, gt, rfl, hm⟩ := g
  by_cases h0 : n = 0 ∨ m = 0
  · refine (multiply_none A B n m c d w h0).mono ?_
    rintro e w' ⟨rfl, rfl⟩
    refine ⟨_, rfl, ?_, Below.refl _ _⟩
    have e0 : val xs * val ys = 0 := by
      rcases h0 with h0 | h0
      · rw [(trimmed_zero hd ht).2 (List.eq_nil_of_length_eq_zero (by rw [hr.1, h0])), Int.zero_mul]
      · rw [(trimmed_zero gd gt).2 (List.eq_nil_of_length_eq_zero (by rw [gr.1, h0])), Int.mul_zero]
    rw [e0]
    exact Num.zero _ _
  · refine (multiply_any A B n m c d xs ys w hr gr (by omega) (by omega) (by omega) (by omega) hd gd).mono ?_
    rintro e w' ⟨r, he, hr, hb⟩
    exact ⟨r, he, hr.mono (by omega), hb⟩

end Go.Proofs.Ytoanomgdkkbbmaa
