/- Sub32, subtract. -/
import Derived.Test.YtoanomgdkkbbmaaAdd
import Derived.Test.YtoanomgdkkbbmaaBits
namespace Go.Proofs.Ytoanomgdkkbbmaa
open Go.RowKit LM

theorem sub32_any (x y b : Int) (w : World) (hx : 0 ≤ x ∧ x < 4294967296) (hy : 0 ≤ y ∧ y < 4294967296) (hb : 0 ≤ b ∧ b ≤ 1) :
    Calls Try.prog 134 #[.int .u32 x, .int .u32 y, .int .u32 b] w fun e w' => e = .returned (.tuple #[.int .u32 ((x - y - b) % 4294967296), .int .u32 (borrowOf x y b)]) ∧ w = w' := by
  have H := Lib.hid (borrow_bits x y b hx hy hb)
  have hs : ¬ IntKind.u32.signed = true := by decide
  go_enter Try.func134, Try.ntmps134
  go_wp2
  go_ret2
  have e : ((x - y) % 4294967296 - b) % 4294967296 = (x - y - b) % 4294967296 := by omega
  refine ⟨?_, rfl⟩
  rw [← H.out]
  exact congrArg (fun t => Ending.returned (.tuple #[.int .u32 t, .int .u32 (bits BinOp.or IntKind.u32 (bits BinOp.and IntKind.u32 (bits BinOp.xor IntKind.u32 IntKind.u32.max x) y)
      (bits BinOp.and IntKind.u32 (bits BinOp.xor IntKind.u32 IntKind.u32.max (bits BinOp.xor IntKind.u32 x y)) ((x - y - b) % 4294967296)) / 2147483648)])) e

/-- What holds of a difference behind k digits. -/
def SubRel (w wr : World) (n : Nat) (xs ys : List Int) (k : Nat) (cc : Int) : Prop :=
  k ≤ n ∧ (0 ≤ cc ∧ cc ≤ 1) ∧ Below w.heap.size w wr ∧ ∃ ds : List Int, ds.length = k ∧ Dig ds ∧ val ds - BB ^ k * cc = val (xs.take k) - val (ys.take k) ∧
    Own wr w.heap.size w.heap.size n (ds ++ List.replicate (n - k) 0)

theorem SubRel.cells {w wr : World} {n : Nat} {xs ys : List Int} {k : Nat} {cc : Int} (h : SubRel w wr n xs ys k cc) (hk : k < n) :
    (∃ u, wr.cell? ⟨w.heap.size, k, none⟩ = some (.int .u32 u)) ∧ wr.frozen? ⟨w.heap.size, k, none⟩ = false := by
  obtain ⟨_, _, _, ds, _, _, _, ho⟩ := h
  exact ⟨⟨_, ho.cell hk⟩, ho.frozen k⟩

theorem sub_step {ds xs ys : List Int} {k : Nat} {cc x y : Int} (hl : ds.length = k) (hd : Dig ds) (hc : 0 ≤ cc ∧ cc ≤ 1) (hx : 0 ≤ x ∧ x < BB) (hy : 0 ≤ y ∧ y < BB)
    (ex : xs.getD k 0 = x) (ey : ys.getD k 0 = y) (hv : val ds - BB ^ k * cc = val (xs.take k) - val (ys.take k)) :
    Dig (ds ++ [(x - y - cc) % BB]) ∧ (0 ≤ borrowOf x y cc ∧ borrowOf x y cc ≤ 1) ∧
      val (ds ++ [(x - y - cc) % BB]) - BB ^ (k + 1) * borrowOf x y cc = val (xs.take (k + 1)) - val (ys.take (k + 1)) := by
  have hq : (x - y - cc) / BB = - borrowOf x y cc := by
    unfold borrowOf; rw [BB_def] at *; split <;> omega
  have hs := digit_split (x - y - cc)
  rw [hq] at hs
  refine ⟨hd.snoc (Int.emod_nonneg _ (by decide)) (Int.emod_lt_of_pos _ (by decide)), ?_, ?_⟩
  · unfold borrowOf; split <;> omega
  · rw [val_snoc, hl, val_take_succ, val_take_succ, ex, ey]
    have h1 := pow_split k ((x - y - cc) % BB) (- borrowOf x y cc)
    rw [hs, Int.mul_sub, Int.mul_sub, Int.mul_neg] at h1
    omega

theorem SubRel.step {w wr : World} {n : Nat} {xs ys : List Int} {k : Nat} {cc x y : Int} (h : SubRel w wr n xs ys k cc) (hk : k < n) (hx : 0 ≤ x ∧ x < BB) (hy : 0 ≤ y ∧ y < BB) (ex : xs.getD k 0 = x) (ey : ys.getD k 0 = y) :
    SubRel w (wr.setCell ⟨w.heap.size, k, none⟩ (.int .u32 ((x - y - cc) % 4294967296))) n xs ys (k + 1) (borrowOf x y cc) := by
  obtain ⟨_, hcc, hb, ds, hl, hd, hv, ho⟩ := h
  obtain ⟨h1, h2, h3⟩ := sub_step hl hd hcc hx hy ex ey hv
  refine ⟨hk, h2, hb.setCell (Nat.le_refl _) _, _, by simp [hl], h1, h3, ?_⟩
  have := ho.set k ((x - y - cc) % BB)
  rw [set_zeros ds n k hl hk] at this
  exact this

theorem SubRel.done {w wr : World} {n : Nat} {xs ys : List Int} {cc : Int} (h : SubRel w wr n xs ys n cc) (hx : xs.length ≤ n) (hy : ys.length ≤ n) (hle : val ys ≤ val xs) :
    ∃ zs, Dig zs ∧ val zs = val xs - val ys ∧ Row .u32 wr (some ⟨w.heap.size, 0, none⟩) n n zs ∧ Below w.heap.size w wr := by
  obtain ⟨_, hcc, hb, ds, hl, hd, hv, ho⟩ := h
  rw [Nat.sub_self, List.replicate_zero, List.append_nil] at ho
  refine ⟨_, hd, ?_, ho.row, hb⟩
  rw [List.take_of_length_le hx, List.take_of_length_le hy] at hv
  have b1 := val_bounds hd
  rw [hl] at b1
  have hc : cc = 0 ∨ cc = 1 := by omega
  rcases hc with rfl | rfl <;> omega

set_option maxRecDepth 100000 in
set_option maxHeartbeats 400000 in
theorem subtract_any (A B : Option Addr) (n m c d : Nat) (xs ys : List Int) (w : World) (h : Row .u32 w A n c xs) (g : Row .u32 w B m d ys) (hn : n ≤ 1048577) (hm : m ≤ n)
    (hdx : Dig xs) (hdy : Dig ys) (hle : val ys ≤ val xs) :
    Calls Try.prog 116 #[.slice A n c, .slice B m d] w fun e w' => ∃ v, e = .returned v ∧ Num w' v (val xs - val ys) n ∧ Below w.heap.size w w' := by
  obtain ⟨i0, hi, hz0, hz1, hz2⟩ := info_parts Try.info99
  obtain ⟨hl, hc, hcell⟩ := h
  have HG := Lib.hid g
  have HLE := Lib.hid hle
  clear hle
  obtain ⟨gl, gc, gcell⟩ := g
  have HL := Lib.hid hl
  have GL := Lib.hid gl
  clear hl gl
  go_enter Try.func116, Try.ntmps116
  go_wp2_with (at_make; refine wpList_make_full _ rfl _ _ 22 rfl w.heap.size 99 i0 (.int .u32 0) 1 Try.underlying22 hi hz0 hz1 _ _ _ _ n rfl rfl (by omega) (by omega) (by rw [hz2]; omega) (by unfold maxLen; omega) (Nat.le_refl _) ?_; intro w1 hown hgrow)
  go_loopw [6, 14] (fun cv iv wr => ∃ (k : Nat) (cc : Int), iv = .int .i64 k ∧ cv = .int .u32 cc ∧ SubRel w wr n xs ys k cc) (fun _ iv _ => n - (intOf iv).toNat)
  case atStart =>
    refine ⟨0, 0, rfl, rfl, Nat.zero_le _, by omega, (Below.refl _ _).grown hgrow (Nat.le_refl _) (fun _ h => by cases h), [], rfl, Dig.nil, by simp [val], ?_⟩
    rw [zeros_made] at hown
    exact hown
  case round =>
    obtain ⟨k, cc, rfl, rfl, hrel⟩ := hrel
    have HR := Lib.hid hrel
    by_cases hlt : k < n
    · obtain ⟨⟨u, hu⟩, hf⟩ := hrel.cells hlt
      obtain ⟨hk, hcc, hb, -⟩ := hrel
      obtain ⟨hc0, hc1⟩ := hcc
      obtain ⟨b, o, rfl, hbx, hx⟩ := hcell (by omega)
      obtain ⟨x, ex⟩ : ∃ x, xs.getD k 0 = x := ⟨_, rfl⟩
      obtain ⟨y, ey⟩ : ∃ y, ys.getD k 0 = y := ⟨_, rfl⟩
      have hx1 : wr.cell? ⟨b, o + k, none⟩ = some (.int .u32 x) := by rw [← ex]; exact (hb.cell (p := ⟨b, o + k, none⟩) hbx).trans (hx k hlt)
      have bx := hdx.getD k
      have by' := hdy.getD k
      rw [ex, BB_def] at bx
      rw [ey, BB_def] at by'
      obtain ⟨bx0, bx1⟩ := bx
      obtain ⟨by0, by1⟩ := by'
      have EX := Lib.hid ex
      have EY := Lib.hid ey
      clear ex ey hx hcell
      go_wp2_with (first | (go_at_call 102; refine (at_is B m d ys y k _ (HG.out.below hb) (by omega) (by omega) (by rw [Int.toNat_natCast]; exact EY.out)).mono ?_; rintro e w' ⟨rfl, rfl⟩) | (go_at_call 134; refine (sub32_any x y cc _ ⟨bx0, bx1⟩ ⟨by0, by1⟩ ⟨hc0, hc1⟩).mono ?_; rintro e w' ⟨rfl, rfl⟩))
      go_roundw
      case rel => exact ⟨k + 1, _, by go_num, rfl, HR.out.step hlt ⟨bx0, bx1⟩ ⟨by0, by1⟩ EX.out EY.out⟩
      case measure => simp [intOf]; omega
    · obtain ⟨hk, -, -, -⟩ := hrel
      obtain rfl : k = n := by omega
      obtain ⟨zs, hdz, hvz, hrz, hbz⟩ := HR.out.done (by rw [HL.out]; exact Nat.le_refl _) (by rw [GL.out]; exact hm) HLE.out
      have HZ := Lib.hid hvz
      clear hvz
      go_wp2_with fail
      refine (trim_any _ _ _ zs _ hrz (by omega)).mono ?_
      rintro e w' ⟨j, hj, rfl, rfl, hvj, htj⟩
      have HV := Lib.hid hvj
      clear hvj
      go_wp2
      go_ret
      exact ⟨_, rfl, ⟨_, _, _, _, rfl, hrz.take hj, hdz.take _, htj, HV.out.trans HZ.out, hj⟩, hbz⟩

theorem subtract_num (u v : Value) (x y : Int) (L M : Nat) (w : World) (h : Num w u x L) (g : Num w v y M) (hL : L ≤ 1048577) (hle : y ≤ x) :
    Calls Try.prog 116 #[u, v] w fun e w' => ∃ r, e = .returned r ∧ Num w' r (x - y) L ∧ Below w.heap.size w w' := by
  obtain ⟨A, n, c, xs, rfl, hr, hd, ht, rfl, hn⟩ := h
  obtain ⟨B, m, d, ys, rfl, gr, gd, gt, rfl, hm⟩ := g
  have hmn : m ≤ n := by
    rcases Nat.lt_or_ge n m with hnm | hnm
    · have := val_lt_of_length hd gd gt (by rw [hr.1, gr.1]; exact hnm); omega
    · exact hnm
  refine (subtract_any A B n m c d xs ys w hr gr (by omega) hmn hd gd hle).mono ?_
  rintro e w' ⟨r, he, hr, hb⟩
  exact ⟨r, he, hr.mono hn, hb⟩

end Go.Proofs.Ytoanomgdkkbbmaa
