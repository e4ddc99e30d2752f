/- add. -/
import Derived.Test.YtoanomgdkkbbmaaCompare
namespace Go.Proofs.Ytoanomgdkkbbmaa
open Go.RowKit LM

/-- What holds of a sum behind k digits: the digits ds are made, cc is carried. -/
def AddRel (w wr : World) (n : Nat) (xs ys : List Int) (k : Nat) (cc : Int) : Prop :=
  k ≤ n ∧ (0 ≤ cc ∧ cc ≤ 1) ∧ Below w.heap.size w wr ∧ ∃ ds : List Int, ds.length = k ∧ Dig ds ∧ val ds + BB ^ k * cc = val (xs.take k) + val (ys.take k) ∧
    Own wr w.heap.size w.heap.size (n + 1) (ds ++ List.replicate (n + 1 - k) 0)

theorem AddRel.cells {w wr : World} {n : Nat} {xs ys : List Int} {k : Nat} {cc : Int} (h : AddRel w wr n xs ys k cc) :
    (∃ u, wr.cell? ⟨w.heap.size, k, none⟩ = some (.int .u32 u)) ∧ wr.frozen? ⟨w.heap.size, k, none⟩ = false := by
  obtain ⟨hk, _, _, ds, _, _, _, ho⟩ := h
  exact ⟨⟨_, ho.cell (by omega)⟩, ho.frozen k⟩

theorem AddRel.step {w wr : World} {n : Nat} {xs ys : List Int} {k : Nat} {cc x y : Int} (h : AddRel w wr n xs ys k cc) (hk : k < n) (hx : 0 ≤ x ∧ x < BB) (hy : 0 ≤ y ∧ y < BB) (ex : xs.getD k 0 = x) (ey : ys.getD k 0 = y) :
    AddRel w (wr.setCell ⟨w.heap.size, k, none⟩ (.int .u32 ((cc + (x + y)) % 4294967296))) n xs ys (k + 1) ((cc + (x + y)) / 4294967296) := by
  obtain ⟨_, hcc, hb, ds, hl, hd, hv, ho⟩ := h
  obtain ⟨h1, h2, h3⟩ := add_step hl hd hcc hx hy ex ey hv
  refine ⟨hk, h2, hb.setCell (Nat.le_refl _) _, _, by simp [hl], h1, h3, ?_⟩
  have := ho.set k ((cc + (x + y)) % BB)
  rw [set_zeros ds (n + 1) k hl (by omega)] at this
  exact this

theorem AddRel.done {w wr : World} {n : Nat} {xs ys : List Int} {cc : Int} (h : AddRel w wr n xs ys n cc) (hx : xs.length ≤ n) (hy : ys.length ≤ n) :
    ∃ zs, Dig zs ∧ val zs = val xs + val ys ∧ Row .u32 (wr.setCell ⟨w.heap.size, n, none⟩ (.int .u32 cc)) (some ⟨w.heap.size, 0, none⟩) (n + 1) (n + 1) zs ∧ Below w.heap.size w (wr.setCell ⟨w.heap.size, n, none⟩ (.int .u32 cc)) := by
  obtain ⟨_, hcc, hb, ds, hl, hd, hv, ho⟩ := h
  have := ho.set n cc
  rw [set_zeros ds (n + 1) n hl (by omega), show n + 1 - (n + 1) = 0 from by omega, List.replicate_zero, List.append_nil] at this
  refine ⟨_, hd.snoc hcc.1 (by rw [BB_def]; omega), ?_, this.row, hb.setCell (Nat.le_refl _) _⟩
  rw [val_snoc, hl, hv, List.take_of_length_le hx, List.take_of_length_le hy]

set_option maxRecDepth 100000 in
set_option maxHeartbeats 400000 in
theorem add_long (A B : Option Addr) (n m c d : Nat) (xs ys : List Int) (w : World) (h : Row .u32 w A n c xs) (g : Row .u32 w B m d ys) (hn : n ≤ 1048576) (hm : m ≤ n)
    (hdx : Dig xs) (hdy : Dig ys) :
    Calls Try.prog 122 #[.slice A n c, .slice B m d] w fun e w' => ∃ v, e = .returned v ∧ Num w' v (val xs + val ys) (n + 1) ∧ Below w.heap.size w w' := by
  obtain ⟨i0, hi, hz0, hz1, hz2⟩ := info_parts Try.info99
  obtain ⟨hl, hc, hcell⟩ := h
  have HG := Lib.hid g
  obtain ⟨gl, gc, gcell⟩ := g
  have HL := Lib.hid hl
  have GL := Lib.hid gl
  clear hl gl
  have hnm : ¬ (n : Int) < (m : Int) := by omega
  go_enter Try.func122, Try.ntmps122
  go_wp2_with (at_make; refine wpList_make_full _ rfl _ _ 22 rfl w.heap.size 99 i0 (.int .u32 0) 1 Try.underlying22 hi hz0 hz1 _ _ _ _ (n + 1) rfl rfl (by omega) (by omega) (by rw [hz2]; omega) (by unfold maxLen; omega) (Nat.le_refl _) ?_; intro w1 hown hgrow)
  go_loopw [6, 22] (fun cv iv wr => ∃ (k : Nat) (cc : Int), iv = .int .i64 k ∧ cv = .int .u64 cc ∧ AddRel w wr n xs ys k cc) (fun _ iv _ => n - (intOf iv).toNat)
  case atStart =>
    refine ⟨0, 0, rfl, rfl, Nat.zero_le _, by omega, (Below.refl _ _).grown hgrow (Nat.le_refl _) (fun _ h => by cases h), [], rfl, Dig.nil, by simp [val], ?_⟩
    rw [zeros_made] at hown
    exact hown
  case round =>
    obtain ⟨k, cc, rfl, rfl, hrel⟩ := hrel
    have HR := Lib.hid hrel
    obtain ⟨⟨u, hu⟩, hf⟩ := hrel.cells
    obtain ⟨hk, hcc, hb, -⟩ := hrel
    obtain ⟨hc0, hc1⟩ := hcc
    by_cases hlt : k < n
    · obtain ⟨b, o, rfl, hbx, hx⟩ := hcell (by omega)
      obtain ⟨x, ex⟩ : ∃ x, xs.getD k 0 = x := ⟨_, rfl⟩
      obtain ⟨y, ey⟩ : ∃ y, ys.getD k 0 = y := ⟨_, rfl⟩
      have hx1 : wr.cell? ⟨b, o + k, none⟩ = some (.int .u32 x) := by rw [← ex]; exact (hb.cell (p := ⟨b, o + k, none⟩) hbx).trans (hx k hlt)
      have bx := hdx.getD k
      have by' := hdy.getD k
      rw [ex, BB_def] at bx
      rw [ey, BB_def] at by'
      obtain ⟨bx0, bx1⟩ := bx
      obtain ⟨by0, by1⟩ := by'
      have EX := Lib.hid ex
      have EY := Lib.hid ey
      clear ex ey hx hcell
      go_wp2_with (go_at_call 102; refine (at_is B m d ys y k _ (HG.out.below hb) (by omega) (by omega) (by rw [Int.toNat_natCast]; exact EY.out)).mono ?_; rintro e w' ⟨rfl, rfl⟩)
      go_roundw
      case rel => exact ⟨k + 1, _, by go_num, rfl, HR.out.step hlt ⟨bx0, bx1⟩ ⟨by0, by1⟩ EX.out EY.out⟩
      case measure => simp [intOf]; omega
    · obtain rfl : k = n := by omega
      obtain ⟨zs, hdz, hvz, hrz, hbz⟩ := HR.out.done (by rw [HL.out]; exact Nat.le_refl _) (by rw [GL.out]; exact hm)
      have HZ := Lib.hid hvz
      clear hvz
      go_wp2_with fail
      refine (trim_any _ _ _ zs _ hrz (by omega)).mono ?_
      rintro e w' ⟨j, hj, rfl, rfl, hvj, htj⟩
      have HV := Lib.hid hvj
      clear hvj
      go_wp2
      go_ret
      exact ⟨_, rfl, ⟨_, _, _, _, rfl, hrz.take hj, hdz.take _, htj, HV.out.trans HZ.out, hj⟩, hbz⟩

set_option maxRecDepth 100000 in
set_option maxHeartbeats 400000 in
theorem add_short (A B : Option Addr) (n m c d : Nat) (xs ys : List Int) (w : World) (h : Row .u32 w A n c xs) (g : Row .u32 w B m d ys) (hn : n ≤ 1048576) (hm : m < n)
    (hdx : Dig xs) (hdy : Dig ys) :
    Calls Try.prog 122 #[.slice B m d, .slice A n c] w fun e w' => ∃ v, e = .returned v ∧ Num w' v (val xs + val ys) (n + 1) ∧ Below w.heap.size w w' := by
  obtain ⟨i0, hi, hz0, hz1, hz2⟩ := info_parts Try.info99
  obtain ⟨hl, hc, hcell⟩ := h
  have HG := Lib.hid g
  obtain ⟨gl, gc, gcell⟩ := g
  have HL := Lib.hid hl
  have GL := Lib.hid gl
  clear hl gl
  have hnm : (m : Int) < (n : Int) := by omega
  go_enter Try.func122, Try.ntmps122
  go_wp2_with (at_make; refine wpList_make_full _ rfl _ _ 22 rfl w.heap.size 99 i0 (.int .u32 0) 1 Try.underlying22 hi hz0 hz1 _ _ _ _ (n + 1) rfl rfl (by omega) (by omega) (by rw [hz2]; omega) (by unfold maxLen; omega) (Nat.le_refl _) ?_; intro w1 hown hgrow)
  go_loopw [6, 22] (fun cv iv wr => ∃ (k : Nat) (cc : Int), iv = .int .i64 k ∧ cv = .int .u64 cc ∧ AddRel w wr n xs ys k cc) (fun _ iv _ => n - (intOf iv).toNat)
  case atStart =>
    refine ⟨0, 0, rfl, rfl, Nat.zero_le _, by omega, (Below.refl _ _).grown hgrow (Nat.le_refl _) (fun _ h => by cases h), [], rfl, Dig.nil, by simp [val], ?_⟩
    rw [zeros_made] at hown
    exact hown
  case round =>
    obtain ⟨k, cc, rfl, rfl, hrel⟩ := hrel
    have HR := Lib.hid hrel
    obtain ⟨⟨u, hu⟩, hf⟩ := hrel.cells
    obtain ⟨hk, hcc, hb, -⟩ := hrel
    obtain ⟨hc0, hc1⟩ := hcc
    by_cases hlt : k < n
    · obtain ⟨b, o, rfl, hbx, hx⟩ := hcell (by omega)
      obtain ⟨x, ex⟩ : ∃ x, xs.getD k 0 = x := ⟨_, rfl⟩
      obtain ⟨y, ey⟩ : ∃ y, ys.getD k 0 = y := ⟨_, rfl⟩
      have hx1 : wr.cell? ⟨b, o + k, none⟩ = some (.int .u32 x) := by rw [← ex]; exact (hb.cell (p := ⟨b, o + k, none⟩) hbx).trans (hx k hlt)
      have bx := hdx.getD k
      have by' := hdy.getD k
      rw [ex, BB_def] at bx
      rw [ey, BB_def] at by'
      obtain ⟨bx0, bx1⟩ := bx
      obtain ⟨by0, by1⟩ := by'
      have EX := Lib.hid ex
      have EY := Lib.hid ey
      clear ex ey hx hcell
      go_wp2_with (go_at_call 102; refine (at_is B m d ys y k _ (HG.out.below hb) (by omega) (by omega) (by rw [Int.toNat_natCast]; exact EY.out)).mono ?_; rintro e w' ⟨rfl, rfl⟩)
      go_roundw
      case rel => exact ⟨k + 1, _, by go_num, rfl, HR.out.step hlt ⟨bx0, bx1⟩ ⟨by0, by1⟩ EX.out EY.out⟩
      case measure => simp [intOf]; omega
    · obtain rfl : k = n := by omega
      obtain ⟨zs, hdz, hvz, hrz, hbz⟩ := HR.out.done (by rw [HL.out]; exact Nat.le_refl _) (by rw [GL.out]; exact Nat.le_of_lt hm)
      have HZ := Lib.hid hvz
      clear hvz
      go_wp2_with fail
      refine (trim_any _ _ _ zs _ hrz (by omega)).mono ?_
      rintro e w' ⟨j, hj, rfl, rfl, hvj, htj⟩
      have HV := Lib.hid hvj
      clear hvj
      go_wp2
      go_ret
      exact ⟨_, rfl, ⟨_, _, _, _, rfl, hrz.take hj, hdz.take _, htj, HV.out.trans HZ.out, hj⟩, hbz⟩

theorem Num.mono {w : World} {v : Value} {z : Int} {L L' : Nat} (h : Num w v z L) (hL : L ≤ L') : Num w v z L' := by
  obtain ⟨A, n, c, xs, e, r, d, t, hv, hn⟩ := h
  exact ⟨A, n, c, xs, e, r, d, t, hv, Nat.le_trans hn hL⟩

theorem add_num (u v : Value) (x y : Int) (L M : Nat) (w : World) (h : Num w u x L) (g : Num w v y M) (hL : L ≤ 1048576) (hM : M ≤ 1048576) :
    Calls Try.prog 122 #[u, v] w fun e w' => ∃ r, e = .returned r ∧ Num w' r (x + y) (max L M + 1) ∧ Below w.heap.size w w' := by
  obtain ⟨A, n, c, xs, rfl, hr, hd, _, rfl, hn⟩ := h
  obtain ⟨B, m, d, ys, rfl, gr, gd, _, rfl, hm⟩ := g
  rcases Nat.lt_or_ge n m with hnm | hnm
  · refine (add_short B A m n d c ys xs w gr hr (by omega) hnm gd hd).mono ?_
    rintro e w' ⟨r, he, hr, hb⟩
    exact ⟨r, he, by rw [Int.add_comm]; exact hr.mono (by omega), hb⟩
  · refine (add_long A B n m c d xs ys w hr gr (by omega) hnm hd gd).mono ?_
    rintro e w' ⟨r, he, hr, hb⟩
    exact ⟨r, he, hr.mono (by omega), hb⟩

end Go.Proofs.Ytoanomgdkkbbmaa
