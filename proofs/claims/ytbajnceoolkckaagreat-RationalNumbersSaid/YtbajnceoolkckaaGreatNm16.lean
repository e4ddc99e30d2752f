/- Of the proof of RationalNumbers: RTimes. -/
import Derived.Test.YtbajnceoolkckaaGreatNm09
open List renaming getElem_toArray → gEA, getElem_cons_succ → gES, getElem_cons_zero → gEZ, setIfInBounds_toArray → sTA, set_cons_zero → sCZ, set_cons_succ → sCS
/- The reference's times and Mul. -/
namespace Go.Proofs.YtbajnceoolkckaaGreat
open Go.RowKit LM

theorem pow_split65 (j : Nat) (s : Int) : (65536 : Int) ^ j * s = 65536 ^ j * (s % 65536) + 65536 ^ (j + 1) * (s / 65536) := by
 rw [Int.pow_succ, Int.mul_assoc, ← Int.mul_add]; congr 1; omega

theorem valR_zeros (k : Nat) : valR 65536 (List.replicate k 0) = 0 := by
 induction k with
 | zero => rfl
 | succ k ih => rw [List.replicate_succ]; simp only [valR]; rw [ih]; rfl

/-- A slice that reads as a number of the reference's, without zeros at the top. -/
def RTNum (w : World) (v : Value) (z : Int) (L : Nat) : Prop :=
 ∃ A n c ds, v = .slice A n c ∧ Row .i64 w A n c ds ∧ DigR 65536 ds ∧ Trimmed ds ∧ valR 65536 ds = z ∧ n ≤ L

theorem RTNum.below {w w' : World} {v : Value} {z : Int} {L : Nat} (h : RTNum w v z L) (hb : Below w.heap.size w w') : RTNum w' v z L := by
 obtain ⟨A, n, c, ds, e, hr, r⟩ := h
 exact ⟨A, n, c, ds, e, hr.below hb, r⟩

/-- Behind i digits of the first one. -/
def TMul (w wr : World) (n m : Nat) (xs ys : List Int) (i : Nat) : Prop :=
 i ≤ n ∧ Below w.heap.size w wr ∧ ∃ ds : List Int, ds.length = i + m ∧ DigR 65536 ds ∧ valR 65536 ds = valR 65536 (xs.take i) * valR 65536 ys ∧
  Own64 wr w.heap.size w.heap.size (n + m + 1) (ds ++ List.replicate (n + 1 - i) 0)

/-- Behind k digits of the other one. -/
def TRow (w wr : World) (n m : Nat) (xs ys : List Int) (i k : Nat) (cc : Int) : Prop :=
 i < n ∧ k ≤ m ∧ (0 ≤ cc ∧ cc < 65536) ∧ Below w.heap.size w wr ∧ ∃ cs : List Int, cs.length = i + m ∧ DigR 65536 cs ∧
  valR 65536 cs + 65536 ^ (i + k) * cc = valR 65536 (xs.take i) * valR 65536 ys + 65536 ^ i * (xs.getD i 0 * valR 65536 (ys.take k)) ∧
  Own64 wr w.heap.size w.heap.size (n + m + 1) (cs ++ List.replicate (n + 1 - i) 0)

theorem mul_bound65 {x y : Int} (hx : 0 ≤ x ∧ x < 65536) (hy : 0 ≤ y ∧ y < 65536) : 0 ≤ x * y ∧ x * y ≤ 4294836225 := by
 refine ⟨Int.mul_nonneg hx.1 hy.1, ?_⟩
 have h1 : x * y ≤ 65535 * y := Int.mul_le_mul_of_nonneg_right (by omega) hy.1
 omega

theorem TRow.start {w wr : World} {n m : Nat} {xs ys : List Int} {i : Nat} (h : TMul w wr n m xs ys i) (hi : i < n) : TRow w wr n m xs ys i 0 0 := by
 obtain ⟨_, hb, ds, hl, hd, hv, ho⟩ := h
 exact ⟨hi, Nat.zero_le _, ⟨by decide, by decide⟩, hb, ds, hl, hd, by simp [hv, valR], ho⟩

theorem TRow.drew {w wr : World} {n m : Nat} {xs ys : List Int} {i k : Nat} {cc : Int} (h : TRow w wr n m xs ys i k cc) : TRow w wr.drew n m xs ys i k cc := by
 obtain ⟨a, b, c, hb, r⟩ := h
 exact ⟨a, b, c, hb.drew, r⟩

theorem TRow.cells {w wr : World} {n m : Nat} {xs ys : List Int} {i k : Nat} {cc : Int} (h : TRow w wr n m xs ys i k cc) (hk : k < m) :
  ∃ u, (wr.cell? ⟨w.heap.size, i + k, none⟩ = some (.int .i64 u) ∧ wr.frozen? ⟨w.heap.size, i + k, none⟩ = false ∧ 0 ≤ u ∧ u < 65536) ∧
   ∀ y, ys.getD k 0 = y → 0 ≤ y ∧ y < 65536 → 0 ≤ xs.getD i 0 ∧ xs.getD i 0 < 65536 →
    TRow w (wr.setCell ⟨w.heap.size, i + k, none⟩ (.int .i64 ((u + xs.getD i 0 * y + cc) % 65536))) n m xs ys i (k + 1) ((u + xs.getD i 0 * y + cc) / 65536) := by
 obtain ⟨hi, _, hcc, hb, cs, hl, hd, hv, ho⟩ := h
 have e : (cs ++ List.replicate (n + 1 - i) 0).getD (i + k) 0 = cs.getD (i + k) 0 := by
  simp [List.getD, List.getElem?_append_left, hl, hk]
 have hu := DigR.getD hd (i + k)
 refine ⟨cs.getD (i + k) 0, ⟨by rw [← e]; exact ho.cell (by omega), ho.frozen _, hu⟩, fun y hy by' bx => ?_⟩
 have hp := mul_bound65 bx by'
 generalize hs : cs.getD (i + k) 0 + xs.getD i 0 * y + cc = s
 have h0 : 0 ≤ s := by rw [← hs]; omega
 have h2 : s / 65536 < 65536 := by omega
 have hset := ho.set (i + k) (s % 65536)
 rw [List.set_append_left _ _ (by omega)] at hset
 refine ⟨hi, hk, ⟨by omega, h2⟩, hb.setCell (Nat.le_refl _) _, cs.set (i + k) (s % 65536), by simpa using hl, hd.set' _ (Int.emod_nonneg _ (by decide)) (Int.emod_lt_of_pos _ (by decide)), ?_, hset⟩
 rw [valR_set _ _ _ _ (by omega), valR_take_succ, hy]
 have e1 := pow_split65 (i + k) s
 rw [show (65536 : Int) ^ (i + k) * s = 65536 ^ (i + k) * cs.getD (i + k) 0 + (65536 ^ (i + k) * (xs.getD i 0 * y) + 65536 ^ (i + k) * cc) from by rw [← hs, Int.mul_add, Int.mul_add, Int.add_assoc]] at e1
 have e2 : (65536 : Int) ^ i * (xs.getD i 0 * (valR 65536 (ys.take k) + 65536 ^ k * y)) = 65536 ^ i * (xs.getD i 0 * valR 65536 (ys.take k)) + 65536 ^ (i + k) * (xs.getD i 0 * y) := by
  rw [Int.pow_add]; grind
 rw [e2, Int.mul_sub]
 rw [show i + (k + 1) = i + k + 1 from rfl]
 omega

theorem TMul.next {w wr : World} {n m : Nat} {xs ys : List Int} {i : Nat} {cc : Int} (h : TRow w wr n m xs ys i m cc) (hm : ys.length ≤ m) :
  wr.cell? ⟨w.heap.size, i + m, none⟩ = some (.int .i64 0) ∧ wr.frozen? ⟨w.heap.size, i + m, none⟩ = false ∧ (0 ≤ cc ∧ cc < 65536) ∧
   TMul w (wr.setCell ⟨w.heap.size, i + m, none⟩ (.int .i64 cc)) n m xs ys (i + 1) := by
 obtain ⟨hi, _, hcc, hb, cs, hl, hd, hv, ho⟩ := h
 have hset := ho.set (i + m) cc
 have e : (cs ++ List.replicate (n + 1 - i) 0).set (i + m) cc = (cs ++ [cc]) ++ List.replicate (n + 1 - (i + 1)) 0 := by
  have := set_zeros cs (n + m + 1) (i + m) hl (by omega) cc
  rw [show n + m + 1 - (i + m) = n + 1 - i from by omega, show n + m + 1 - (i + m + 1) = n + 1 - (i + 1) from by omega] at this
  exact this
 rw [e] at hset
 have e0 : (cs ++ List.replicate (n + 1 - i) (0 : Int)).getD (i + m) 0 = 0 := by
  simp only [List.getD]
  rw [List.getElem?_append_right (by omega), hl, Nat.sub_self]
  rw [show n + 1 - i = (n - i) + 1 from by omega, List.replicate_succ]; rfl
 refine ⟨by rw [← e0]; exact ho.cell (by omega), ho.frozen _, hcc, hi, hb.setCell (Nat.le_refl _) _, _, by simp [hl]; omega, ?_, ?_, hset⟩
 ·intro d hd2
  rcases List.mem_append.1 hd2 with h' | h'
  ·exact hd d h'
  ·simp at h'; subst h'; exact hcc
 ·rw [valR_append, hl, valR_take_succ, Int.add_mul]
  simp only [valR, Int.mul_zero, Int.add_zero]
  rw [hv, List.take_of_length_le hm]
  grind

set_option maxRecDepth 100000 in
set_option maxHeartbeats 4000000 in
theorem rtimes_any (A B : Option Addr) (n m c d : Nat) (xs ys : List Int) (w : World) (h : Row .i64 w A n c xs) (g : Row .i64 w B m d ys) (hn : n ≤ 1048577) (hm : m ≤ 1048577) (hdx : DigR 65536 xs) (hdy : DigR 65536 ys) :
  Calls Tryz.prog 127 #[.slice A n c, .slice B m d] w fun e w' => ∃ v, e = .returned v ∧ RTNum w' v (valR 65536 xs * valR 65536 ys) (n + m + 1) ∧ Below w.heap.size w w' := by
 obtain ⟨i0, hi, hz0, hz1, hz2⟩ := info_parts Tryz.info3
 obtain ⟨hl, hc, hcell⟩ := h
 obtain ⟨gl, gc, gcell⟩ := g
 have hb0 : ∀ i, i < n → ∃ b o, A = some ⟨b, o, none⟩ ∧ b < w.heap.size ∧ w.cell? ⟨b, o + i, none⟩ = some (.int .i64 (xs.getD i 0)) := fun i hi => by
  obtain ⟨b, o, e, hlt, hc2⟩ := hcell (by omega)
  exact ⟨b, o, e, hlt, hc2 i hi⟩
 have gb0 : ∀ i, i < m → ∃ b o, B = some ⟨b, o, none⟩ ∧ b < w.heap.size ∧ w.cell? ⟨b, o + i, none⟩ = some (.int .i64 (ys.getD i 0)) := fun i hi => by
  obtain ⟨b, o, e, hlt, hc2⟩ := gcell (by omega)
  exact ⟨b, o, e, hlt, hc2 i hi⟩
 have HX := Lib.hid hb0
 have HY := Lib.hid gb0
 have HL := Lib.hid hl
 have GL := Lib.hid gl
 clear hl gl hcell gcell hb0 gb0
 go_enter Tryz.func127, Tryz.ntmps127
 go_wp2_with (at_make; refine wpList_make_full _ rfl _ _ 32 rfl w.heap.size 3 i0 (.int .i64 0) 1 Tryz.underlying32 hi hz0 hz1 _ _ _ _ (n + m + 1) rfl rfl (by omega) (by omega) (by rw [hz2]; omega) (by unfold maxLen; omega) (Nat.le_refl _) ?_; intro w1 hown hgrow)
 go_loopw [6] (fun iv wr => ∃ i : Nat, iv = .int .i64 i ∧ TMul w wr n m xs ys i) (fun iv _ => n - (intOf iv).toNat)
 case atStart =>
  refine ⟨0, rfl, Nat.zero_le _, (Below.refl _ _).grown hgrow (Nat.le_refl _) (fun _ h => by cases h), List.replicate m 0, by simp, ?_, ?_, ?_⟩
  ·intro d hd; simp at hd; rw [hd.2]; decide
  ·have e := valR_zeros m; simp [e, valR]
  ·rw [zeros_made64] at hown
   rw [List.replicate_append_replicate, Nat.sub_zero, show m + (n + 1) = n + m + 1 from by omega]
   exact hown
 case round =>
  obtain ⟨i, rfl, hrel⟩ := hrel
  have HR := Lib.hid hrel
  obtain ⟨hk, hb, -⟩ := hrel
  by_cases hlt : i < n
  ·obtain ⟨b, o, rfl, hbx, hx⟩ := HX.out i hlt
   obtain ⟨x, ex⟩ : ∃ x, xs.getD i 0 = x := ⟨_, rfl⟩
   rw [ex] at hx
   have bx := DigR.getD hdx i
   rw [ex] at bx
   obtain ⟨bx0, bx1⟩ := bx
   have EX := Lib.hid ex
   have HXC := Lib.hid hx
   clear ex hx
   go_wp2_with fail
   obtain ⟨wo, rfl⟩ : ∃ wo : World, wo = wr := ⟨_, rfl⟩
   go_loopw [7, 8] (fun cv kv wx => ∃ (k : Nat) (cc : Int), kv = .int .i64 k ∧ cv = .int .i64 cc ∧ TRow w wx n m xs ys i k cc) (fun _ kv _ => m - (intOf kv).toNat)
   case atStart => exact ⟨0, 0, rfl, rfl, TRow.start HR.out hlt⟩
   case round =>
    obtain ⟨k, cc, rfl, rfl, hrow⟩ := hrel
    have HW := Lib.hid hrow
    obtain ⟨_, hkm, hcc, hbw, -⟩ := hrow
    obtain ⟨cc0, cc1⟩ := hcc
    by_cases hk2 : k < m
    ·obtain ⟨u, ⟨hu, hf, hu0, hu1⟩, hnext⟩ := HW.out.drew.cells hk2
     obtain ⟨b', o', rfl, hby, hy⟩ := HY.out k hk2
     obtain ⟨y, ey⟩ : ∃ y, ys.getD k 0 = y := ⟨_, rfl⟩
     rw [ey] at hy
     have by' := DigR.getD hdy k
     rw [ey] at by'
     have hnext' := hnext y ey by' (DigR.getD hdx i)
     clear hnext
     rw [EX.out] at hnext'
     obtain ⟨p0, p1⟩ := mul_bound65 (x := x) (y := y) ⟨bx0, bx1⟩ by'
     obtain ⟨P, hP⟩ : ∃ P, x * y = P := ⟨_, rfl⟩
     rw [hP] at hnext' p0 p1
     obtain ⟨s, hs⟩ : ∃ s, u + P + cc = s := ⟨_, rfl⟩
     rw [hs] at hnext'
     have HN := Lib.hid hnext'
     obtain ⟨by0, by1⟩ := by'
     have s0 : 0 ≤ s := by omega
     have s1 : s ≤ 4294967295 := by omega
     have t1 : IntKind.i64.wrap (x * y) = P := by rw [hP, IntKind.wrap_i64]; omega
     have t2 : IntKind.i64.wrap (u + P) = u + P := by rw [IntKind.wrap_i64]; omega
     have t3 : IntKind.i64.wrap (u + P + cc) = s := by rw [hs, IntKind.wrap_i64]; omega
     have t4 : IntKind.i64.wrap ((i : Int) + (k : Int)) = (i : Int) + (k : Int) := by rw [IntKind.wrap_i64]; omega
     have t5 : ((i : Int) + (k : Int)).toNat = i + k := by omega
     have t6 : (i : Int) + (k : Int) < (n : Int) + (m : Int) + 1 := by omega
     have t7 : 0 ≤ (i : Int) + (k : Int) := by omega
     have t8 : s.tmod 65536 = s % 65536 := Int.tmod_eq_emod_of_nonneg s0
     have t9 : s.tdiv 65536 = s / 65536 := Int.tdiv_eq_ediv_of_nonneg s0
     have t10 : (i : Int) < (n : Int) := by omega
     have t11 : (k : Int) < (m : Int) := by omega
     have hcx := (hbw.cell (p := ⟨b, o + i, none⟩) hbx).trans HXC.out
     have hcy := (hbw.cell (p := ⟨b', o' + k, none⟩) hby).trans hy
     have HT := Lib.hid (fun (w' : World) (e : wr.drew = w') => (show w'.cell? ⟨w.heap.size, i + k, none⟩ = some (.int .i64 u) ∧ w'.cell? ⟨b, o + i, none⟩ = some (.int .i64 x) ∧ w'.cell? ⟨b', o' + k, none⟩ = some (.int .i64 y) from by rw [← e]; exact ⟨hu, hcx, hcy⟩))
     clear hnext' ey hP hs hy
     go_wp2_with fail
     refine wp_region_held_drew (S := fun w' => w'.cell? ⟨w.heap.size, i + k, none⟩ = some (.int .i64 u) ∧ w'.cell? ⟨b, o + i, none⟩ = some (.int .i64 x) ∧ w'.cell? ⟨b', o' + k, none⟩ = some (.int .i64 y)) (by kernel_rfl) (HT.out _ rfl) (fun hHeld0 => ?_)
     refine wpAnyH_taken (i := 0) (d := some 29) (v := ?_) rfl rfl (by kernel_rfl) (by kernel_rfl) (by kernel_rfl) (fun _ _ _ h => h) (Or.inl ⟨by rfl, ?_⟩) (by assumption) ?_
     rotate_left 1
     ·(intro w hSw; (try dsimp only at hSw); go_simp; try with_reducible rfl)
     try simp only [Act.put, sTA, sCZ, sCS]
     refine wpAnyH_taken (i := 1) (d := some 30) (v := ?_) rfl rfl (by kernel_rfl) (by kernel_rfl) (by kernel_rfl) (fun _ _ _ h => h) (Or.inl ⟨by rfl, ?_⟩) (by assumption) ?_
     rotate_left 1
     ·(intro w hSw; (try dsimp only at hSw); go_simp; try with_reducible rfl)
     try simp only [Act.put, sTA, sCZ, sCS]
     refine wpAnyH_taken (i := 2) (d := some 31) (v := ?_) rfl rfl (by kernel_rfl) (by kernel_rfl) (by kernel_rfl) (fun _ _ _ h => h) (Or.inl ⟨by rfl, ?_⟩) (by assumption) ?_
     rotate_left 1
     ·(intro w hSw; (try dsimp only at hSw); go_simp; try with_reducible rfl)
     try simp only [Act.put, sTA, sCZ, sCS]
     refine wpAnyH_taken (i := 3) (d := some 32) (v := ?_) rfl rfl (by kernel_rfl) (by kernel_rfl) (by kernel_rfl) (fun _ _ _ h => h) (Or.inl ⟨by rfl, ?_⟩) (by assumption) ?_
     rotate_left 1
     ·(intro w hSw; (try dsimp only at hSw); go_simp; try with_reducible rfl)
     try simp only [Act.put, sTA, sCZ, sCS]
     refine wpAnyH_taken (i := 4) (d := some 33) (v := ?_) rfl rfl (by kernel_rfl) (by kernel_rfl) (by kernel_rfl) (fun _ _ _ h => h) (Or.inl ⟨by rfl, ?_⟩) (by assumption) ?_
     rotate_left 1
     ·(intro w hSw; (try dsimp only at hSw); go_simp; try with_reducible rfl)
     try simp only [Act.put, sTA, sCZ, sCS]
     refine wpAnyH_taken (i := 5) (d := some 34) (v := ?_) rfl rfl (by kernel_rfl) (by kernel_rfl) (by kernel_rfl) (fun _ _ _ h => h) (Or.inl ⟨by rfl, ?_⟩) (by assumption) ?_
     rotate_left 1
     ·(intro w hSw; (try dsimp only at hSw); go_simp; try with_reducible rfl)
     try simp only [Act.put, sTA, sCZ, sCS]
     refine wpAnyH_taken (i := 6) (d := some 35) (v := ?_) rfl rfl (by kernel_rfl) (by kernel_rfl) (by kernel_rfl) (fun _ _ _ h => h) (Or.inl ⟨by rfl, ?_⟩) (by assumption) ?_
     rotate_left 1
     ·(intro w hSw; (try dsimp only at hSw); go_simp; try with_reducible rfl)
     try simp only [Act.put, sTA, sCZ, sCS]
     refine wpAnyH_taken (i := 7) (d := some 36) (v := ?_) rfl rfl (by kernel_rfl) (by kernel_rfl) (by kernel_rfl) (fun _ _ _ h => h) (Or.inl ⟨by rfl, ?_⟩) (by assumption) ?_
     rotate_left 1
     ·(intro w hSw; (try dsimp only at hSw); go_simp; try with_reducible rfl)
     try simp only [Act.put, sTA, sCZ, sCS]
     refine wpAnyH_taken (i := 8) (d := some 37) (v := ?_) rfl rfl (by kernel_rfl) (by kernel_rfl) (by kernel_rfl) (fun _ _ _ h => h) (Or.inl ⟨by rfl, ?_⟩) (by assumption) ?_
     rotate_left 1
     ·(intro w hSw; (try dsimp only at hSw); go_simp; try with_reducible rfl)
     try simp only [Act.put, sTA, sCZ, sCS]
     refine wpAnyH_taken (i := 9) (d := some 38) (v := ?_) rfl rfl (by kernel_rfl) (by kernel_rfl) (by kernel_rfl) (fun _ _ _ h => h) (Or.inl ⟨by rfl, ?_⟩) (by assumption) ?_
     rotate_left 1
     ·(intro w hSw; (try dsimp only at hSw); go_simp; try with_reducible rfl)
     try simp only [Act.put, sTA, sCZ, sCS]
     refine wpAnyH_taken (i := 10) (d := some 39) (v := ?_) rfl rfl (by kernel_rfl) (by kernel_rfl) (by kernel_rfl) (fun _ _ _ h => h) (Or.inl ⟨by rfl, ?_⟩) (by assumption) ?_
     rotate_left 1
     ·(intro w hSw; (try dsimp only at hSw); go_simp; try with_reducible rfl)
     try simp only [Act.put, sTA, sCZ, sCS]
     refine wpAnyH_taken (i := 11) (d := some 40) (v := ?_) rfl rfl (by kernel_rfl) (by kernel_rfl) (by kernel_rfl) (fun _ _ _ h => h) (Or.inl ⟨by rfl, ?_⟩) (by assumption) ?_
     rotate_left 1
     ·(intro w hSw; (try dsimp only at hSw); go_simp; try with_reducible rfl)
     try simp only [Act.put, sTA, sCZ, sCS]
     refine wpAnyH_taken (i := 12) (d := some 41) (v := ?_) rfl rfl (by kernel_rfl) (by kernel_rfl) (by kernel_rfl) (fun _ _ _ h => h) (Or.inl ⟨by rfl, ?_⟩) (by assumption) ?_
     rotate_left 1
     ·(intro w hSw; (try dsimp only at hSw); go_simp; try with_reducible rfl)
     try simp only [Act.put, sTA, sCZ, sCS]
     refine wpAnyH_taken (i := 13) (d := some 42) (v := ?_) rfl rfl (by kernel_rfl) (by kernel_rfl) (by kernel_rfl) (fun _ _ _ h => h) (Or.inl ⟨by rfl, ?_⟩) (by assumption) ?_
     rotate_left 1
     ·(intro w hSw; (try dsimp only at hSw); go_simp; try with_reducible rfl)
     try simp only [Act.put, sTA, sCZ, sCS]
     refine wpAnyH_taken (i := 14) (d := some 43) (v := ?_) rfl rfl (by kernel_rfl) (by kernel_rfl) (by kernel_rfl) (fun _ _ _ h => h) (Or.inl ⟨by rfl, ?_⟩) (by assumption) ?_
     rotate_left 1
     ·(intro w hSw; (try dsimp only at hSw); go_simp; try with_reducible rfl)
     try simp only [Act.put, sTA, sCZ, sCS]
     refine wpAnyH_taken (i := 15) (d := some 44) (v := ?_) rfl rfl (by kernel_rfl) (by kernel_rfl) (by kernel_rfl) (fun _ _ _ h => h) (Or.inl ⟨by rfl, ?_⟩) (by assumption) ?_
     rotate_left 1
     ·(intro w hSw; (try dsimp only at hSw); go_simp; try with_reducible rfl)
     try simp only [Act.put, sTA, sCZ, sCS]
     refine wpAnyH_taken (i := 16) (d := some 45) (v := ?_) rfl rfl (by kernel_rfl) (by kernel_rfl) (by kernel_rfl) (fun _ _ _ h => h) (Or.inl ⟨by rfl, ?_⟩) (by assumption) ?_
     rotate_left 1
     ·(intro w hSw; (try dsimp only at hSw); go_simp; try with_reducible rfl)
     try simp only [Act.put, sTA, sCZ, sCS]
     refine wpAnyH_taken (i := 17) (d := some 46) (v := ?_) rfl rfl (by kernel_rfl) (by kernel_rfl) (by kernel_rfl) (fun _ _ _ h => h) (Or.inl ⟨by rfl, ?_⟩) (by assumption) ?_
     rotate_left 1
     ·(intro w hSw; (try dsimp only at hSw); go_simp; try with_reducible rfl)
     try simp only [Act.put, sTA, sCZ, sCS]
     refine wpAnyH_taken (i := 18) (d := some 9) (v := ?_) rfl rfl (by kernel_rfl) (by kernel_rfl) (by kernel_rfl) (fun _ _ _ h => h) (Or.inl ⟨by rfl, ?_⟩) (by assumption) ?_
     rotate_left 1
     ·(intro w hSw; (try dsimp only at hSw); go_simp; try with_reducible rfl)
     try simp only [Act.put, sTA, sCZ, sCS]
     refine wpAnyH_done (by kernel_rfl) ?_ _
     clear t1 t2 t3
     go_wp2_with fail
     exact ⟨⟨k + 1, _, by go_num, rfl, HN.out⟩, by simp [intOf]; omega⟩
    ·obtain rfl : k = m := by omega
     obtain ⟨hu, hf, _, hnext⟩ := TMul.next HW.out (by rw [GL.out]; exact Nat.le_refl _)
     have HN := Lib.hid hnext
     have t4 : IntKind.i64.wrap ((i : Int) + (k : Int)) = (i : Int) + (k : Int) := by rw [IntKind.wrap_i64]; omega
     have t5 : ((i : Int) + (k : Int)).toNat = i + k := by omega
     have t6 : (i : Int) + (k : Int) < (n : Int) + (k : Int) + 1 := by omega
     have t7 : 0 ≤ (i : Int) + (k : Int) := by omega
     clear hnext
     go_wp2_with fail
     exact ⟨⟨i + 1, by go_num, HN.out⟩, by simp [intOf]; omega⟩
  ·obtain rfl : i = n := by omega
   obtain ⟨_, hbl, ds, hdl, hdd, hdv, ho⟩ := HR.out
   have hrow : Row .i64 wr (some ⟨w.heap.size, 0, none⟩) (i + m + 1) (i + m + 1) (ds ++ List.replicate (i + 1 - i) 0) := Row.of_own ho
   have hdz : DigR 65536 (ds ++ List.replicate (i + 1 - i) 0) := by
    intro d hd
    rcases List.mem_append.1 hd with h' | h'
    ·exact hdd d h'
    ·simp at h'; rw [h']; decide
   have hval : valR 65536 (ds ++ List.replicate (i + 1 - i) 0) = valR 65536 xs * valR 65536 ys := by
    rw [valR_append, valR_zeros, hdv, List.take_of_length_le (by rw [HL.out]; exact Nat.le_refl _)]; simp
   have HROW := Lib.hid hrow
   have HDZ := Lib.hid hdz
   have HVAL := Lib.hid hval
   clear hrow hdz hval ho hdv hdl hdd
   go_wp2_with fail
   refine (rtrim_any _ _ _ _ _ HROW.out (by omega)).mono ?_
   rintro e w' ⟨A2, k2, c2, hk2, rfl, rfl, hr2, hv2, ht2⟩
   have HR2 := Lib.hid hr2
   have HV2 := Lib.hid hv2
   have HT2 := Lib.hid ht2
   clear hr2 hv2 ht2
   go_wp2
   go_ret
   exact ⟨_, rfl, ⟨_, _, _, _, rfl, HR2.out, HDZ.out.take _, HT2.out, HV2.out.trans HVAL.out, hk2⟩, hbl⟩

set_option maxRecDepth 100000 in
set_option maxHeartbeats 4000000 in
theorem rMul_any (u v : Value) (x y : Int) (L M : Nat) (w : World) (h : Rval w u x L) (g : Rval w v y M) (hL : L ≤ 500000) (hM : M ≤ 500000) :
  Calls Tryz.prog 90 #[u, v] w fun e w' => (∃ ng A2 n2 c2, e = .returned (.agg #[.bool ng, .slice A2 n2 c2]) ∧ Rval w' (.agg #[.bool ng, .slice A2 n2 c2]) (x * y) (L + M + 1)) ∧ Below w.heap.size w w' := by
 obtain ⟨p, A, n, c, xs, rfl, hr, hd, ht, hz, hp, hn⟩ := h
 obtain ⟨q, B, m, d, ys, rfl, gr, gd, gt, gz, gq, gm⟩ := g
 have hW : Below w.heap.size w (((w.alloc (.cells #[.bool p, .slice A n c] 34)).alloc (.cells #[.bool q, .slice B m d] 34)).alloc (.cells #[.bool false, .slice none 0 0] 34)) := (below_two w _ _).alloc (by simp; omega) _
 have hs3 : w.heap.size + 3 ≤ (((w.alloc (.cells #[.bool p, .slice A n c] 34)).alloc (.cells #[.bool q, .slice B m d] 34)).alloc (.cells #[.bool false, .slice none 0 0] 34)).heap.size := by simp <;> omega
 have HX := Lib.hid (hr.below hW)
 have HY := Lib.hid (gr.below hW)
 have HD := Lib.hid (And.intro hd gd)
 have HE := Lib.hid (show withSign (p != q) (valR 65536 xs * valR 65536 ys) = x * y by rw [withSign_mul, ← hz, ← gz])
 have HT := Lib.hid (fun (w' : World) (hb : Below (w.heap.size + 3) (((w.alloc (.cells #[.bool p, .slice A n c] 34)).alloc (.cells #[.bool q, .slice B m d] 34)).alloc (.cells #[.bool false, .slice none 0 0] 34)) w') => add_boxes (hb.mono (by omega)))
 have HRM := Lib.hid (fun (w' : World) (hb : Below (w.heap.size + 3) (((w.alloc (.cells #[.bool p, .slice A n c] 34)).alloc (.cells #[.bool q, .slice B m d] 34)).alloc (.cells #[.bool false, .slice none 0 0] 34)) w') => add_room hb)
 have hB0 := (Below.refl (w.heap.size + 3) (((w.alloc (.cells #[.bool p, .slice A n c] 34)).alloc (.cells #[.bool q, .slice B m d] 34)).alloc (.cells #[.bool false, .slice none 0 0] 34))).drew
 have hs3' : (((w.alloc (.cells #[.bool p, .slice A n c] 34)).alloc (.cells #[.bool q, .slice B m d] 34)).alloc (.cells #[.bool false, .slice none 0 0] 34)).heap.size ≤ w.heap.size + 3 := by simp <;> omega
 clear hr gr hd gd hz gz
 go_enter Tryz.func90, Tryz.ntmps90
 go_wp2_with fail
 generalize (((w.alloc (.cells #[.bool p, .slice A n c] 34)).alloc (.cells #[.bool q, .slice B m d] 34)).alloc (.cells #[.bool false, .slice none 0 0] 34)) = wl at *
 obtain ⟨z0, z1, z2, z3, _⟩ := HT.out _ hB0
 refine wp_region_held_drew (S := fun w' => w'.cell? ⟨w.heap.size, 0, none⟩ = some (.bool p) ∧ w'.cell? ⟨w.heap.size, 1, none⟩ = some (.slice A n c) ∧ w'.cell? ⟨w.heap.size + 1, 0, none⟩ = some (.bool q) ∧ w'.cell? ⟨w.heap.size + 1, 1, none⟩ = some (.slice B m d)) (by kernel_rfl) ⟨z0, z1, z2, z3⟩ (fun hHeld0 => ?_)
 refine wpAnyH_taken (i := 0) (d := some 5) (v := ?_) rfl rfl (by kernel_rfl) (by kernel_rfl) (by kernel_rfl) (fun _ _ _ h => h) (Or.inl ⟨by rfl, ?_⟩) (by assumption) ?_
 rotate_left 1
 ·(intro w hSw; (try dsimp only at hSw); go_simp; try with_reducible rfl)
 try simp only [Act.put, sTA, sCZ, sCS]
 refine wpAnyH_taken (i := 1) (d := some 6) (v := ?_) rfl rfl (by kernel_rfl) (by kernel_rfl) (by kernel_rfl) (fun _ _ _ h => h) (Or.inl ⟨by rfl, ?_⟩) (by assumption) ?_
 rotate_left 1
 ·(intro w hSw; (try dsimp only at hSw); go_simp; try with_reducible rfl)
 try simp only [Act.put, sTA, sCZ, sCS]
 refine wpAnyH_taken (i := 2) (d := some 7) (v := ?_) rfl rfl (by kernel_rfl) (by kernel_rfl) (by kernel_rfl) (fun _ _ _ h => h) (Or.inl ⟨by rfl, ?_⟩) (by assumption) ?_
 rotate_left 1
 ·(intro w hSw; (try dsimp only at hSw); go_simp; try with_reducible rfl)
 try simp only [Act.put, sTA, sCZ, sCS]
 refine wpAnyH_taken (i := 3) (d := some 8) (v := ?_) rfl rfl (by kernel_rfl) (by kernel_rfl) (by kernel_rfl) (fun _ _ _ h => h) (Or.inl ⟨by rfl, ?_⟩) (by assumption) ?_
 rotate_left 1
 ·(intro w hSw; (try dsimp only at hSw); go_simp; try with_reducible rfl)
 try simp only [Act.put, sTA, sCZ, sCS]
 refine wpAnyH_taken (i := 4) (d := some 9) (v := ?_) rfl rfl (by kernel_rfl) (by kernel_rfl) (by kernel_rfl) (fun _ _ _ h => h) (Or.inl ⟨by rfl, ?_⟩) (by assumption) ?_
 rotate_left 1
 ·(intro w hSw; (try dsimp only at hSw); go_simp; try with_reducible rfl)
 try simp only [Act.put, sTA, sCZ, sCS]
 refine wpAnyH_taken (i := 5) (d := some 10) (v := ?_) rfl rfl (by kernel_rfl) (by kernel_rfl) (by kernel_rfl) (fun _ _ _ h => h) (Or.inl ⟨by rfl, ?_⟩) (by assumption) ?_
 rotate_left 1
 ·(intro w hSw; (try dsimp only at hSw); go_simp; try with_reducible rfl)
 try simp only [Act.put, sTA, sCZ, sCS]
 refine wpAnyH_taken (i := 6) (d := some 11) (v := ?_) rfl rfl (by kernel_rfl) (by kernel_rfl) (by kernel_rfl) (fun _ _ _ h => h) (Or.inl ⟨by rfl, ?_⟩) (by assumption) ?_
 rotate_left 1
 ·(intro w hSw; (try dsimp only at hSw); go_simp; try with_reducible rfl)
 try simp only [Act.put, sTA, sCZ, sCS]
 refine wpAnyH_taken (i := 7) (d := some 12) (v := ?_) rfl rfl (by kernel_rfl) (by kernel_rfl) (by kernel_rfl) (fun _ _ _ h => h) (Or.inl ⟨by rfl, ?_⟩) (by assumption) ?_
 rotate_left 1
 ·(intro w hSw; (try dsimp only at hSw); go_simp; try with_reducible rfl)
 try simp only [Act.put, sTA, sCZ, sCS]
 refine wpAnyH_taken (i := 8) (d := some 13) (v := ?_) rfl rfl (by kernel_rfl) (by kernel_rfl) (by kernel_rfl) (fun _ _ _ h => h) (Or.inl ⟨by rfl, ?_⟩) (by assumption) ?_
 rotate_left 1
 ·(intro w hSw; (try dsimp only at hSw); go_simp; try with_reducible rfl)
 try simp only [Act.put, sTA, sCZ, sCS]
 refine wpAnyH_ready (rs := [9]) (by kernel_rfl) (by simp) ?_
 refine AllReadyH.cons rfl (fun K hK => ?_) AllReadyH.nil
 try simp only [gEA, gEZ, gES]
 go_simp
 (go_at_call 127; refine (rtimes_any A B n m c d xs ys _ (HX.out.below (hB0.mono hs3')) (HY.out.below (hB0.mono hs3')) (by omega) (by omega) HD.out.1 HD.out.2).mono ?_; rintro e w1 ⟨v1, rfl, ⟨A1, n1, c1, ds1, rfl, hr1, hd1, ht1, hv1, hn1⟩, hb1⟩)
 have hB1 := Below.trans hB0 (hb1.mono (B' := w.heap.size + 3) (Nat.le_trans hs3 hB0.size))
 have HR1 := Lib.hid hr1
 have HV1 := Lib.hid hv1
 have HD1 := Lib.hid hd1
 clear hr1 hv1 ht1 hd1 z0 z1 z2 z3
 obtain ⟨z0, z1, z2, z3, _⟩ := HT.out _ hB1
 refine hK.out _ _ ⟨z0, z1, z2, z3⟩ (fun hHeld1 => ?_)
 clear hK K
 try simp only [Act.put, sTA, sCZ, sCS]
 refine wpAnyH_ready (rs := [10]) (by kernel_rfl) (by simp) ?_
 refine AllReadyH.cons rfl (fun K hK => ?_) AllReadyH.nil
 try simp only [gEA, gEZ, gES]
 go_simp
 (go_at_call 121; refine (rmade_any (p != q) A1 n1 c1 ds1 _ HR1.out (by omega) HD1.out).mono ?_; rintro e w2 ⟨ng2, A2, n2, c2, rfl, hv2, hb2⟩)
 have hB2 := Below.trans hB1 (hb2.mono (B' := w.heap.size + 3) (Nat.le_trans hs3 hB1.size))
 have HV2 := Lib.hid hv2
 clear hv2 z0 z1 z2 z3
 obtain ⟨z0, z1, z2, z3, _⟩ := HT.out _ hB2
 obtain ⟨e1, e2, f1, f2⟩ := HRM.out _ hB2
 refine hK.out _ _ ⟨z0, z1, z2, z3⟩ (fun hHeld2 => ?_)
 clear hK K
 try simp only [Act.put, sTA, sCZ, sCS]
 refine wpAnyH_ready (rs := [11]) (by kernel_rfl) (by simp) ?_
 refine AllReadyH.cons rfl (fun K hK => ?_) AllReadyH.nil
 try simp only [gEA, gEZ, gES]
 go_simp
 refine hK.out _ _ ⟨?_, ?_, ?_, ?_⟩ (fun hHeld3 => ?_)
 ·rw [World.cell?_setCell_other _ _ _ _ (by simp <;> omega), World.cell?_setCell_other _ _ _ _ (by simp <;> omega)]; exact z0
 ·rw [World.cell?_setCell_other _ _ _ _ (by simp <;> omega), World.cell?_setCell_other _ _ _ _ (by simp <;> omega)]; exact z1
 ·rw [World.cell?_setCell_other _ _ _ _ (by simp <;> omega), World.cell?_setCell_other _ _ _ _ (by simp <;> omega)]; exact z2
 ·rw [World.cell?_setCell_other _ _ _ _ (by simp <;> omega), World.cell?_setCell_other _ _ _ _ (by simp <;> omega)]; exact z3
 clear hK K
 try simp only [Act.put, sTA, sCZ, sCS]
 refine wpAnyH_done (by kernel_rfl) ?_ _
 go_wp2
 refine bodyPost_ret (v := .agg #[.bool ng2, .slice A2 n2 c2]) (by simp [results, Tryz.results90, go_sem, e1, e2]) rfl ⟨⟨_, _, _, _, rfl, ?_⟩, ?_⟩
 ·rw [← HE.out, ← HV1.out]; exact (HV2.out.mono (by omega)).stored e1 e2 _ _
 ·exact ((hW.trans (hB2.mono (by omega))).setCell (by show _ ≤ _; simp; omega) _).setCell (by show _ ≤ _; simp; omega) _
 

end Go.Proofs.YtbajnceoolkckaaGreat
