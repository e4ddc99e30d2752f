/- scaled. -/
import Derived.Test.YtoanomgdkkbbmaaDigit
namespace Go.Proofs.Ytoanomgdkkbbmaa
open Go.RowKit LM

/-- Behind k digits. -/
def ScRel (w wr : World) (n : Nat) (xs : List Int) (m more : Int) (k : Nat) (cc : Int) : Prop :=
  k ≤ n ∧ (0 ≤ cc ∧ cc < BB) ∧ Below w.heap.size w wr ∧ ∃ ds : List Int, ds.length = k ∧ Dig ds ∧ val ds + BB ^ k * cc = val (xs.take k) * m + more ∧
    Own wr w.heap.size w.heap.size (n + 1) (ds ++ List.replicate (n + 1 - k) 0)

theorem ScRel.cells {w wr : World} {n : Nat} {xs : List Int} {m more : Int} {k : Nat} {cc : Int} (h : ScRel w wr n xs m more k cc) :
    (∃ u, wr.cell? ⟨w.heap.size, k, none⟩ = some (.int .u32 u)) ∧ wr.frozen? ⟨w.heap.size, k, none⟩ = false := by
  obtain ⟨hk, _, _, ds, _, _, _, ho⟩ := h
  exact ⟨⟨_, ho.cell (by omega)⟩, ho.frozen k⟩

theorem ScRel.step {w wr : World} {n : Nat} {xs : List Int} {m more : Int} {k : Nat} {cc x : Int} (h : ScRel w wr n xs m more k cc) (hk : k < n) (hx : 0 ≤ x ∧ x < BB) (hm : 0 ≤ m ∧ m < BB) (ex : xs.getD k 0 = x) :
    ScRel w (wr.setCell ⟨w.heap.size, k, none⟩ (.int .u32 ((cc + x * m) % 4294967296))) n xs m more (k + 1) ((cc + x * m) / 4294967296) := by
  obtain ⟨_, hcc, hb, ds, hl, hd, hv, ho⟩ := h
  have hp := mul_bound hx hm
  generalize hs : cc + x * m = s
  have h0 : 0 ≤ s := by rw [← hs]; omega
  have h2 : s / 4294967296 < BB := by rw [BB_def] at *; omega
  have hset := ho.set k (s % BB)
  rw [set_zeros ds (n + 1) k hl (by omega)] at hset
  refine ⟨hk, ⟨by omega, h2⟩, hb.setCell (Nat.le_refl _) _, _, by simp [hl], hd.snoc (Int.emod_nonneg _ (by decide)) (Int.emod_lt_of_pos _ (by decide)), ?_, hset⟩
  rw [val_snoc, hl, val_take_succ, ex, Int.add_mul]
  have e1 := pow_split k (s % BB) (s / BB)
  rw [digit_split, show BB ^ k * s = BB ^ k * cc + BB ^ k * (x * m) from by rw [← hs, Int.mul_add]] at e1
  have e3 : s / 4294967296 = s / BB := rfl
  rw [e3, Int.mul_assoc]
  omega

theorem ScRel.done {w wr : World} {n : Nat} {xs : List Int} {m more : Int} {cc : Int} (h : ScRel w wr n xs m more n cc) (hx : xs.length ≤ n) :
    ∃ zs, Dig zs ∧ val zs = val xs * m + more ∧ Row .u32 (wr.setCell ⟨w.heap.size, n, none⟩ (.int .u32 cc)) (some ⟨w.heap.size, 0, none⟩) (n + 1) (n + 1) zs ∧ Below w.heap.size w (wr.setCell ⟨w.heap.size, n, none⟩ (.int .u32 cc)) := by
  obtain ⟨_, hcc, hb, ds, hl, hd, hv, ho⟩ := h
  have := ho.set n cc
  rw [set_zeros ds (n + 1) n hl (by omega), show n + 1 - (n + 1) = 0 from by omega, List.replicate_zero, List.append_nil] at this
  refine ⟨_, hd.snoc hcc.1 hcc.2, ?_, this.row, hb.setCell (Nat.le_refl _) _⟩
  rw [val_snoc, hl, hv, List.take_of_length_le hx]

set_option maxRecDepth 100000 in
set_option maxHeartbeats 400000 in
theorem scaled_any (A : Option Addr) (n c : Nat) (xs : List Int) (m more : Int) (w : World) (h : Row .u32 w A n c xs) (hn : n ≤ 1048576)
    (hdx : Dig xs) (hm : 0 ≤ m ∧ m < BB) (hmore : 0 ≤ more ∧ more < BB) :
    Calls Try.prog 132 #[.slice A n c, .int .u32 m, .int .u32 more] w fun e w' => ∃ v, e = .returned v ∧ Num w' v (val xs * m + more) (n + 1) ∧ Below w.heap.size w w' := by
  obtain ⟨i0, hi, hz0, hz1, hz2⟩ := info_parts Try.info99
  obtain ⟨hl, hc, hcell⟩ := h
  have HL := Lib.hid hl
  have HM := Lib.hid hm
  have HO := Lib.hid hmore
  obtain ⟨m0, m1⟩ := hm
  obtain ⟨o0, o1⟩ := hmore
  rw [BB_def] at m1 o1
  clear hl
  go_enter Try.func132, Try.ntmps132
  go_wp2_with (at_make; refine wpList_make_full _ rfl _ _ 22 rfl w.heap.size 99 i0 (.int .u32 0) 1 Try.underlying22 hi hz0 hz1 _ _ _ _ (n + 1) rfl rfl (by omega) (by omega) (by rw [hz2]; omega) (by unfold maxLen; omega) (Nat.le_refl _) ?_; intro w1 hown hgrow)
  go_loopw [8, 19] (fun cv iv wr => ∃ (k : Nat) (cc : Int), iv = .int .i64 k ∧ cv = .int .u64 cc ∧ ScRel w wr n xs m more k cc) (fun _ iv _ => n - (intOf iv).toNat)
  case atStart =>
    refine ⟨0, more, rfl, rfl, Nat.zero_le _, HO.out, (Below.refl _ _).grown hgrow (Nat.le_refl _) (fun _ h => by cases h), [], rfl, Dig.nil, by simp [val], ?_⟩
    rw [zeros_made] at hown
    exact hown
  case round =>
    obtain ⟨k, cc, rfl, rfl, hrel⟩ := hrel
    have HR := Lib.hid hrel
    obtain ⟨⟨u, hu⟩, hf⟩ := hrel.cells
    obtain ⟨hk, hcc, hb, -⟩ := hrel
    obtain ⟨hc0, hc1⟩ := hcc
    rw [BB_def] at hc1
    by_cases hlt : k < n
    · obtain ⟨b, o, rfl, hbx, hx⟩ := hcell (by omega)
      obtain ⟨x, ex⟩ : ∃ x, xs.getD k 0 = x := ⟨_, rfl⟩
      have hx1 : wr.cell? ⟨b, o + k, none⟩ = some (.int .u32 x) := by rw [← ex]; exact (hb.cell (p := ⟨b, o + k, none⟩) hbx).trans (hx k hlt)
      have bx := hdx.getD k
      rw [ex] at bx
      have BX := Lib.hid bx
      obtain ⟨p0, p1⟩ := mul_bound (x := x) (y := m) bx HM.out
      rw [BB_def] at bx
      obtain ⟨bx0, bx1⟩ := bx
      have EX := Lib.hid ex
      clear ex hx hcell
      go_wp2_with fail
      go_roundw
      case rel => exact ⟨k + 1, _, by go_num, rfl, HR.out.step hlt BX.out HM.out EX.out⟩
      case measure => simp [intOf]; omega
    · obtain rfl : k = n := by omega
      obtain ⟨zs, hdz, hvz, hrz, hbz⟩ := HR.out.done (by rw [HL.out]; exact Nat.le_refl _)
      have HZ := Lib.hid hvz
      clear hvz
      go_wp2_with fail
      refine (trim_any _ _ _ zs _ hrz (by omega)).mono ?_
      rintro e w' ⟨j, hj, rfl, rfl, hvj, htj⟩
      have HV := Lib.hid hvj
      clear hvj
      go_wp2
      go_ret
      exact ⟨_, rfl, ⟨_, _, _, _, rfl, hrz.take hj, hdz.take _, htj, HV.out.trans HZ.out, hj⟩, hbz⟩

theorem scaled_num (u : Value) (x m more : Int) (L : Nat) (w : World) (h : Num w u x L) (hL : L ≤ 1048576) (hm : 0 ≤ m ∧ m < BB) (hmore : 0 ≤ more ∧ more < BB) :
    Calls Try.prog 132 #[u, .int .u32 m, .int .u32 more] w fun e w' => ∃ r, e = .returned r ∧ Num w' r (x * m + more) (L + 1) ∧ Below w.heap.size w w' := by
  obtain ⟨A, n, c, xs, rfl, hr, hd, _, rfl, hn⟩ := h
  refine (scaled_any A n c xs m more w hr (by omega) hd hm hmore).mono ?_
  rintro e w' ⟨r, he, hr, hb⟩
  exact ⟨r, he, hr.mono (by omega), hb⟩

end Go.Proofs.Ytoanomgdkkbbmaa
