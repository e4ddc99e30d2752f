/- complement, words, fromWords. -/
import Derived.Test.YtoanomgdkkbbmaaDiv
import Derived.Laws.CopyOwn
namespace Go.Proofs.Ytoanomgdkkbbmaa
open Go.RowKit LM

theorem flip_word (x : Int) (h0 : 0 ≤ x) (h1 : x < 4294967296) : bits BinOp.xor IntKind.u32 IntKind.u32.max x = 4294967295 - x := by
  obtain ⟨X, rfl⟩ := Int.eq_ofNat_of_zero_le h0
  have hm : IntKind.u32.max = ((4294967295 : Nat) : Int) := by decide
  have hX : X < 4294967296 := by omega
  rw [hm, u32_xor_nat _ _ (by decide) hX]
  have e : 4294967295 ^^^ X = 4294967295 - X := by
    apply Nat.eq_of_testBit_eq
    intro i
    have h2 : 4294967295 - X = 2 ^ 32 - (X + 1) := by omega
    rw [h2, Nat.testBit_two_pow_sub_succ (by omega), Nat.testBit_xor]
    have h3 : (4294967295 : Nat).testBit i = decide (i < 32) := by
      have : (4294967295 : Nat) = 2 ^ 32 - 1 := by decide
      rw [this, Nat.testBit_two_pow_sub_one]
    rw [h3]
    by_cases hi : i < 32
    · simp [hi]
    · have h4 : X.testBit i = false := by
        apply Nat.testBit_lt_two_pow
        have := Nat.pow_le_pow_right (show 0 < 2 by omega) (show 32 ≤ i by omega)
        omega
      simp [hi, h4]
  rw [e]; omega

/-- The digits below k are turned round. -/
def FlipRel (w wr : World) (base g n : Nat) (xs : List Int) (k : Nat) (cc : Int) : Prop :=
  k ≤ n ∧ (0 ≤ cc ∧ cc ≤ 1) ∧ w.grownBy wr (some g) ∧ ∃ cs : List Int, cs.length = k ∧ Dig cs ∧ val cs + BB ^ k * cc = BB ^ k - val (xs.take k) ∧ Own wr base g n (cs ++ xs.drop k)

theorem FlipRel.step {w wr : World} {base g n : Nat} {xs : List Int} {k : Nat} {cc x : Int} (h : FlipRel w wr base g n xs k cc) (hk : k < n) (hl : xs.length = n) (hx : 0 ≤ x ∧ x < BB) (ex : xs.getD k 0 = x) :
    FlipRel w (wr.setCell ⟨g, k, none⟩ (.int .u32 ((cc + (4294967295 - x)) % 4294967296))) base g n xs (k + 1) ((cc + (4294967295 - x)) / 4294967296) := by
  obtain ⟨_, hcc, hg, cs, hcl, hcd, hv, ho⟩ := h
  have hset := ho.set k ((cc + (4294967295 - x)) % BB)
  rw [List.set_append_right _ _ (by omega), hcl, Nat.sub_self, drop_cons xs k (by omega), List.set_cons_zero] at hset
  refine ⟨hk, by rw [BB_def] at hx; omega, ⟨hg.os, hg.tape, hg.output, by simpa [World.setCell] using hg.size, fun b hb hne => (Below.heap_setCell _ _ _ _ (fun e => hne (by rw [e]))).trans (hg.block b hb hne)⟩, cs ++ [(cc + (4294967295 - x)) % BB], by simp [hcl], hcd.snoc (Int.emod_nonneg _ (by decide)) (Int.emod_lt_of_pos _ (by decide)), ?_, by rw [List.append_assoc]; exact hset⟩
  have h1 := pow_split k ((cc + (4294967295 - x)) % BB) ((cc + (4294967295 - x)) / BB)
  rw [digit_split] at h1
  have h2 : BB ^ (k + 1) = BB ^ k * BB := Int.pow_succ ..
  have h3 : BB ^ k * (cc + (4294967295 - x)) = BB ^ k * cc + BB ^ k * BB - BB ^ k - BB ^ k * x := by
    rw [show (4294967295 : Int) - x = BB - 1 - x from by rw [BB_def]; omega, Int.mul_add, Int.mul_sub, Int.mul_sub]; omega
  have h4 : (cc + (4294967295 - x)) / 4294967296 = (cc + (4294967295 - x)) / BB := rfl
  rw [val_snoc, hcl, val_take_succ, ex, h4]
  omega

set_option maxHeartbeats 400000 in
theorem complement_any (base g n : Nat) (xs : List Int) (w : World) (h : Own w base g n xs) (hd : Dig xs) (hn : n ≤ 1073741824) :
    Calls Try.prog 129 #[.slice (some ⟨g, 0, none⟩) n n] w fun e w' => e = .returned (.tuple #[]) ∧ (∃ ys, Dig ys ∧ val ys = (BB ^ n - val xs) % BB ^ n ∧ Own w' base g n ys) ∧ w.grownBy w' (some g) := by
  have HX := Lib.hid h
  have HL := Lib.hid h.length
  go_enter Try.func129, Try.ntmps129
  go_wp2_with fail
  go_loopw [2, 7] (fun cv iv wr => ∃ (k : Nat) (cc : Int), iv = .int .i64 k ∧ cv = .int .u64 cc ∧ FlipRel w wr base g n xs k cc) (fun _ iv _ => n - (intOf iv).toNat)
  case atStart => exact ⟨0, 1, rfl, rfl, Nat.zero_le _, by omega, World.grownBy.refl _ _, [], rfl, Dig.nil, by simp [val], HX.out⟩
  case round =>
    obtain ⟨k, cc, rfl, rfl, hrel⟩ := hrel
    have HR := Lib.hid hrel
    obtain ⟨hk, hcc, hg, cs, hcl, hcd, hv, ho⟩ := hrel
    by_cases hlt : k < n
    · obtain ⟨x, ex⟩ : ∃ x, xs.getD k 0 = x := ⟨_, rfl⟩
      have hcell : wr.cell? ⟨g, k, none⟩ = some (.int .u32 x) := by
        rw [ho.cell hlt, ← ex]
        have hl := HL.out
        simp [List.getD, List.getElem?_append_right, hcl]
      have hf := ho.frozen k
      have bx := hd.getD k
      rw [ex] at bx
      have hstep := Lib.hid (HR.out.step hlt HL.out bx ex)
      rw [BB_def] at bx
      obtain ⟨bx0, bx1⟩ := bx
      have hfl := flip_word x bx0 bx1
      obtain ⟨cc0, cc1⟩ := hcc
      have hs : ¬ IntKind.u32.signed = true := by decide
      clear hcl hcd hv ho ex
      go_wp2_with fail
      exact ⟨⟨k + 1, _, by go_num, rfl, hstep.out⟩, by simp [intOf]; omega⟩
    · obtain rfl : k = n := by omega
      have hfin : ∃ ys, Dig ys ∧ val ys = (BB ^ k - val xs) % BB ^ k ∧ Own wr base g k ys := by
        refine ⟨cs, hcd, ?_, by rw [List.drop_of_length_le (by rw [HL.out]; exact Nat.le_refl _), List.append_nil] at ho; exact ho⟩
        rw [List.take_of_length_le (by rw [HL.out]; exact Nat.le_refl _)] at hv
        have b1 := val_bounds hcd
        rw [hcl] at b1
        have b2 := val_bounds hd
        rw [HL.out] at b2
        rw [← hv, Int.add_mul_emod_self_left, Int.emod_eq_of_lt b1.1 b1.2]
      have HF := Lib.hid hfin
      clear hfin hcl hcd hv ho
      go_wp2_with fail
      go_end0
      exact ⟨rfl, HF.out, hg⟩

theorem Own.whole {w : World} {base g n : Nat} {xs : List Int} (h : Own w base g n xs) : w.heap[g]? = some (.cells (xs.map (Value.int .u32)).toArray 99 (0, 0)) := by
  have hl := h.length
  rcases h.2 with ⟨h', _⟩ | ⟨g', cap, cur, h', hb, hh, hnc, hcm, hcs, htake⟩
  · simp at h'
  · simp only [Value.slice.injEq, Option.some.injEq, Addr.mk.injEq, and_true, true_and] at h'
    obtain ⟨rfl, rfl⟩ := h'
    rw [hh]
    have : cur = (xs.map (Value.int .u32)).toArray := by
      apply Array.toList_inj.1
      rw [← htake, List.take_of_length_le (by rw [Array.length_toList, hcs]; exact Nat.le_refl _)]
    rw [this]

theorem Own.of_whole {w : World} {base g n : Nat} {xs : List Int} (h : w.heap[g]? = some (.cells (xs.map (Value.int .u32)).toArray 99 (0, 0))) (hl : xs.length = n) (hb : base ≤ g) (hn : n ≤ maxLen) : Own w base g n xs :=
  ⟨by simp [hl], .inr ⟨g, n, _, rfl, hb, h, Nat.le_refl _, hn, by simp [hl], by rw [List.take_of_length_le (by simp [hl])]⟩⟩

end Go.Proofs.Ytoanomgdkkbbmaa
