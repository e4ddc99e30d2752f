import Derived.Test.YtoanomgdkkbbmaaBitWidth
import Derived.Laws.Bits64b
import Derived.Test.YtoanomgdkkbbmaaLawCore

/- low64 and Int64 of both. -/
namespace Go.Proofs.Ytoanomgdkkbbmaa
open Go.RowKit LM

theorem or64 {a b : Int} (ha : 0 ≤ a ∧ a < 4294967296) (hb : 0 ≤ b ∧ b < 4294967296) : bits BinOp.or IntKind.u64 (a * 4294967296) b = a * 4294967296 + b := by
  obtain ⟨A, rfl⟩ := Int.eq_ofNat_of_zero_le ha.1
  obtain ⟨B, rfl⟩ := Int.eq_ofNat_of_zero_le hb.1
  have hB : B < 2 ^ 32 := by have : (2 : Nat) ^ 32 = 4294967296 := by decide
                             omega
  have e : (A : Int) * 4294967296 = ((2 ^ 32 * A : Nat) : Int) := by rw [Int.natCast_mul, Int.mul_comm]; rfl
  have h1 : 2 ^ 32 * A < 18446744073709551616 := by have : (2 : Nat) ^ 32 = 4294967296 := by decide
                                                    omega
  rw [e, bits_or_u64_nat _ _ h1 (by omega), ← Nat.two_pow_add_eq_or_of_lt hB, Int.natCast_add]

set_option maxHeartbeats 1000000 in
theorem low64_num (u : Value) (z : Int) (L : Nat) (w : World) (h : Num w u z L) (hL : L ≤ 1048576) (hz : z < 18446744073709551616) :
    Calls Try.prog 73 #[u] w fun e w' => e = .returned (.int .u64 z) ∧ w = w' := by
  obtain ⟨A, n, c, xs, rfl, hr, hd, ht, hv, hn⟩ := h
  obtain ⟨y0, e0⟩ : ∃ y, xs.getD 0 0 = y := ⟨_, rfl⟩
  obtain ⟨y1, e1⟩ : ∃ y, xs.getD 1 0 = y := ⟨_, rfl⟩
  have b0 := hd.getD 0
  have b1 := hd.getD 1
  rw [e0] at b0
  rw [e1] at b1
  have hval : z = y1 * 4294967296 + y0 := by
    have hlen : xs.length ≤ 2 := by
      rcases Nat.lt_or_ge 2 xs.length with h | h
      · have hge := val_ge hd ht (by omega)
        have := pow_le (show 2 ≤ xs.length - 1 by omega)
        have e : BB ^ 2 = 18446744073709551616 := by decide
        omega
      · exact h
    rw [← hv]
    match xs, hlen with
    | [], _ => simp at e0 e1; subst e0 e1; rfl
    | [a], _ => simp at e0 e1; subst e0 e1; simp [val]
    | [a, b], _ => simp at e0 e1; subst e0 e1; simp [val, BB_def]; omega
  have hor := or64 (a := y1) (b := y0) (by rw [BB_def] at b1; exact b1) (by rw [BB_def] at b0; exact b0)
  have HV := Lib.hid hval
  have HR := Lib.hid hr
  have E0 := Lib.hid e0
  have E1 := Lib.hid e1
  rw [BB_def] at b0 b1
  obtain ⟨b00, b01⟩ := b0
  obtain ⟨b10, b11⟩ := b1
  clear hval hr hd ht hv e0 e1 hz
  go_enter Try.func73, Try.ntmps73
  go_wp2_with fail
  refine (at_is A n c xs y1 1 _ HR.out (by omega) (by decide) E1.out).mono ?_
  rintro e w1 ⟨rfl, rfl⟩
  go_wp2_with fail
  refine (at_is A n c xs y0 0 _ HR.out (by omega) (by decide) E0.out).mono ?_
  rintro e w2 ⟨rfl, rfl⟩
  go_wp2_with fail
  go_ret
  exact ⟨by rw [HV.out]; rfl, rfl⟩

/-- What Int64 answers. -/
def int64Of (x : Int) : Int := if -9223372036854775808 ≤ x ∧ x ≤ 9223372036854775807 then x else 0
def fits64 (x : Int) : Bool := decide (-9223372036854775808 ≤ x ∧ x ≤ 9223372036854775807)

theorem int64_fit {x : Int} (h : -9223372036854775808 ≤ x ∧ x ≤ 9223372036854775807) : int64Of x = x ∧ fits64 x = true := ⟨if_pos h, decide_eq_true h⟩
theorem int64_not {x : Int} (h : ¬ (-9223372036854775808 ≤ x ∧ x ≤ 9223372036854775807)) : int64Of x = 0 ∧ fits64 x = false := ⟨if_neg h, decide_eq_false h⟩

set_option maxHeartbeats 2000000 in
theorem Int64_any (u : Value) (x : Int) (L : Nat) (w : World) (h : Ival w u x L) (hL : L ≤ 1048576) :
    Calls Try.prog 19 #[u] w fun e w' => e = .returned (.tuple #[.int .i64 (int64Of x), .bool (fits64 x)]) ∧ Below w.heap.size w w' := by
  obtain ⟨p, A, n, c, rfl⟩ := h.form
  obtain ⟨a, ha, ha0, hxa, ha1⟩ := h.parts
  have hW := below_alloc w (.cells #[.bool p, .slice A n c] 28)
  have HA := Lib.hid (ha.below hW)
  by_cases hbig : (2 : Int) < (n : Int)
  · have hage : 18446744073709551616 ≤ a := by
      obtain ⟨A', n', c', xs, e, hr, hd, ht, hv, hn⟩ := ha
      simp at e
      have hge := val_ge hd ht (by rw [hr.1]; omega)
      have := pow_le (show 2 ≤ xs.length - 1 by rw [hr.1]; omega)
      have e : BB ^ 2 = 18446744073709551616 := by decide
      omega
    have hnot : ¬ (-9223372036854775808 ≤ x ∧ x ≤ 9223372036854775807) := by rw [hxa]; cases p <;> simp [withSign] <;> omega
    rw [(int64_not hnot).1, (int64_not hnot).2]
    clear h ha ha0 ha1 hxa hage hnot
    go_enter Try.func19, Try.ntmps19
    go_wp2_with fail
    go_ret2
    exact ⟨rfl, hW⟩
  · have ha2 : a < 18446744073709551616 := by
      obtain ⟨A', n', c', xs, e, hr, hd, ht, hv, hn⟩ := ha
      simp at e
      have hb := (val_bounds hd).2
      have := pow_le (show xs.length ≤ 2 by rw [hr.1]; omega)
      have e : BB ^ 2 = 18446744073709551616 := by decide
      omega
    cases p with
    | false =>
      have hx : x = a := by rw [hxa]; simp [withSign]
      subst hx
      by_cases hf : x ≤ 9223372036854775807
      · rw [(int64_fit ⟨by omega, hf⟩).1, (int64_fit ⟨by omega, hf⟩).2]
        have q1 : IntKind.i64.wrap x = x := by rw [IntKind.wrap_i64]; omega
        clear h ha ha1 hxa
        go_enter Try.func19, Try.ntmps19
        go_wp2_with fail
        refine (low64_num _ x _ _ HA.out (by omega) ha2).mono ?_
        rintro e w1 ⟨rfl, rfl⟩
        go_wp2_with fail
        go_ret2
        exact ⟨rfl, hW⟩
      · rw [(int64_not (by omega)).1, (int64_not (by omega)).2]
        clear h ha ha1 hxa
        go_enter Try.func19, Try.ntmps19
        go_wp2_with fail
        refine (low64_num _ x _ _ HA.out (by omega) ha2).mono ?_
        rintro e w1 ⟨rfl, rfl⟩
        go_wp2_with fail
        go_ret2
        exact ⟨rfl, hW⟩
    | true =>
      have hx : x = -a := by rw [hxa]; simp [withSign]
      have han := ha1 rfl
      by_cases hf : a ≤ 9223372036854775808
      · rw [(int64_fit ⟨by omega, by omega⟩).1, (int64_fit ⟨by omega, by omega⟩).2, hx]
        have q1 : IntKind.i64.wrap (IntKind.u64.wrap (-a)) = -a := by rw [IntKind.wrap_i64, IntKind.wrap_u64]; omega
        clear h ha ha1 hxa hx
        go_enter Try.func19, Try.ntmps19
        go_wp2_with fail
        refine (low64_num _ a _ _ HA.out (by omega) ha2).mono ?_
        rintro e w1 ⟨rfl, rfl⟩
        go_wp2_with fail
        go_ret2
        exact ⟨rfl, hW⟩
      · rw [(int64_not (by omega)).1, (int64_not (by omega)).2]
        clear h ha ha1 hxa hx
        go_enter Try.func19, Try.ntmps19
        go_wp2_with fail
        refine (low64_num _ a _ _ HA.out (by omega) ha2).mono ?_
        rintro e w1 ⟨rfl, rfl⟩
        go_wp2_with fail
        go_ret2
        exact ⟨rfl, hW⟩

end Go.Proofs.Ytoanomgdkkbbmaa

/- The reference's Int64. -/
namespace Go.Proofs.Ytoanomgdkkbbmaa
open Go.RowKit LM

theorem valR_drop_le {xs : List Int} (hd : DigR 65536 xs) (k : Nat) : valR 65536 (xs.drop k) ≤ valR 65536 xs := by
  by_cases h : k ≤ xs.length
  · have h1 := valR_split 65536 xs k h
    have h2 := valR_nonneg (by decide : (0 : Int) ≤ 65536) (hd.take k)
    have h3 := valR_nonneg (by decide : (0 : Int) ≤ 65536) (hd.drop k)
    have h4 : (0 : Int) < 65536 ^ k := Int.pow_pos (by decide)
    have h5 := Int.mul_le_mul_of_nonneg_right (show (1 : Int) ≤ 65536 ^ k by omega) h3
    omega
  · rw [List.drop_of_length_le (by omega)]
    exact valR_nonneg (by decide : (0 : Int) ≤ 65536) hd

set_option maxRecDepth 100000 in
set_option maxHeartbeats 4000000 in
theorem rInt64_low (p : Bool) (A : Option Addr) (n c : Nat) (x : Int) (L : Nat) (w : World) (h : Rval w (.agg #[.bool p, .slice A n c]) x L) (hL : L ≤ 400000) (hx : x < -9223372036854775808) :
    Calls Try.prog 20 #[.agg #[.bool p, .slice A n c]] w fun e w' => e = .returned (.tuple #[.int .i64 (int64Of x), .bool (fits64 x)]) ∧ Below w.heap.size w w' := by
  have hW := below_alloc w (.cells #[.bool p, .slice A n c] 31)
  have hB0 := (Below.refl (w.heap.size + 1) (w.alloc (.cells #[.bool p, .slice A n c] 31))).drew
  have HT := Lib.hid (fun (w' : World) (hb : Below (w.heap.size + 1) (w.alloc (.cells #[.bool p, .slice A n c] 31)) w') => cell31 hb)
  have hsz : w.heap.size + 1 ≤ (w.alloc (.cells #[.bool p, .slice A n c] 31)).heap.size := by simp
  obtain ⟨s1, hs1⟩ : ∃ s1, cmpI x (-9223372036854775808) = s1 := ⟨_, rfl⟩
  obtain ⟨s2, hs2⟩ : ∃ s2, cmpI x 9223372036854775807 = s2 := ⟨_, rfl⟩
  have HS1 := Lib.hid hs1
  have HS2 := Lib.hid hs2
  have HH := Lib.hid h
  have hd1 : decide (s1 < 0) = true := by rw [← hs1, cmpI_lt hx]; decide
  rw [(int64_not (by omega)).1, (int64_not (by omega)).2]
  clear h hs1 hs2 hx
  go_enter Try.func20, Try.ntmps20
  go_wp2_with fail
  refine wp_region_held_drew (S := fun w' => w'.cell? ⟨w.heap.size, 0, none⟩ = some (.bool p) ∧ w'.cell? ⟨w.heap.size, 1, none⟩ = some (.slice A n c) ∧ Below (w.heap.size + 1) (w.alloc (.cells #[.bool p, .slice A n c] 31)) w') (by kernel_rfl) (HT.out _ hB0) (fun hHeld0 => ?_)
  refine wpAnyH_taken (i := 0) (d := some 6) (v := ?_) rfl rfl (by kernel_rfl) (by kernel_rfl) (by kernel_rfl) (fun _ _ _ h => h) (Or.inl ⟨by rfl, ?_⟩) (by assumption) ?_
  rotate_left 1
  · (intro w hSw; (try dsimp only at hSw); go_simp; try with_reducible rfl)
  try simp only [Act.put, List.setIfInBounds_toArray, List.set_cons_zero, List.set_cons_succ]
  refine wpAnyH_ready (rs := [1]) (by kernel_rfl) (by simp) ?_
  refine AllReadyH.cons rfl (fun K hK => ?_) AllReadyH.nil
  try simp only [List.getElem_toArray, List.getElem_cons_zero, List.getElem_cons_succ]
  go_simp
  (go_at_call 18; refine (rnew_any (-9223372036854775808) _ (by decide) (by decide)).mono ?_; rintro e w1 ⟨⟨ng1, A1, n1, c1, rfl, hv1⟩, hb1⟩; have hB1 := Below.trans hB0 (hb1.mono (B' := w.heap.size + 1) (Nat.le_trans hsz hB0.size)); have HV1 := Lib.hid hv1; clear hv1)
  refine hK.out _ _ (HT.out _ hB1) (fun hHeld1 => ?_)
  clear hK K hHeld0
  try simp only [Act.put, List.setIfInBounds_toArray, List.set_cons_zero, List.set_cons_succ]
  refine wpAnyH_ready (rs := [2]) (by kernel_rfl) (by simp) ?_
  refine AllReadyH.cons rfl (fun K hK => ?_) AllReadyH.nil
  try simp only [List.getElem_toArray, List.getElem_cons_zero, List.getElem_cons_succ]
  go_simp
  (go_at_call 33; refine (rcmp_any _ _ x (-9223372036854775808) L 64 _ (HH.out.below (hW.trans (hB1.mono (by omega)))) HV1.out (by omega) (by decide)).mono ?_; rintro e w2 ⟨rfl, hb2⟩; have hB2 := Below.trans hB1 (hb2.mono (B' := w.heap.size + 1) (Nat.le_trans hsz hB1.size)); rw [HS1.out])
  refine hK.out _ _ (HT.out _ hB2) (fun hHeld2 => ?_)
  clear hK K hHeld1
  try simp only [Act.put, List.setIfInBounds_toArray, List.set_cons_zero, List.set_cons_succ]
  refine wpAnyH_taken (i := 3) (d := some 9) (v := .bool true) rfl rfl (by kernel_rfl) (by kernel_rfl) (by kernel_rfl) (fun _ _ _ h => h) (Or.inl ⟨by rfl, ?_⟩) (by assumption) ?_
  · (intro w hSw; (try dsimp only at hSw); go_simp; try with_reducible rfl)
  try simp only [Act.put, List.setIfInBounds_toArray, List.set_cons_zero, List.set_cons_succ]
  refine wpAnyH_taken (i := 4) (d := some 10) (v := .bool true) rfl rfl (by kernel_rfl) (by kernel_rfl) (by kernel_rfl) (fun _ _ _ h => h) (Or.inl ⟨by rfl, ?_⟩) (by assumption) ?_
  · (intro w hSw; (try dsimp only at hSw); go_simp; try with_reducible rfl)
  try simp only [Act.put, List.setIfInBounds_toArray, List.set_cons_zero, List.set_cons_succ]
  refine wpAnyH_taken (i := 5) (d := some 11) (v := undef) rfl rfl (by kernel_rfl) (by kernel_rfl) (by kernel_rfl) (fun _ _ _ h => h) (Or.inr ⟨by rfl, rfl⟩) (by assumption) ?_
  try simp only [Act.put, List.setIfInBounds_toArray, List.set_cons_zero, List.set_cons_succ]
  refine wpAnyH_ready (rs := [6]) (by kernel_rfl) (by simp) ?_
  refine AllReadyH.cons rfl (fun K hK => ?_) AllReadyH.nil
  try simp only [List.getElem_toArray, List.getElem_cons_zero, List.getElem_cons_succ]
  go_simp
  refine hK.out _ _ (by assumption) (fun hHeld3 => ?_)
  clear hK K hHeld2
  try simp only [Act.put, List.setIfInBounds_toArray, List.set_cons_zero, List.set_cons_succ]
  refine wpAnyH_ready (rs := [7]) (by kernel_rfl) (by simp) ?_
  refine AllReadyH.cons rfl (fun K hK => ?_) AllReadyH.nil
  try simp only [List.getElem_toArray, List.getElem_cons_zero, List.getElem_cons_succ]
  go_simp
  refine hK.out _ _ (by assumption) (fun hHeld4 => ?_)
  clear hK K hHeld3
  try simp only [Act.put, List.setIfInBounds_toArray, List.set_cons_zero, List.set_cons_succ]
  refine wpAnyH_taken (i := 8) (d := some 14) (v := undef) rfl rfl (by kernel_rfl) (by kernel_rfl) (by kernel_rfl) (fun _ _ _ h => h) (Or.inr ⟨by rfl, rfl⟩) (by assumption) ?_
  try simp only [Act.put, List.setIfInBounds_toArray, List.set_cons_zero, List.set_cons_succ]
  refine wpAnyH_taken (i := 9) (d := some 15) (v := .bool true) rfl rfl (by kernel_rfl) (by kernel_rfl) (by kernel_rfl) (fun _ _ _ h => h) (Or.inl ⟨by rfl, ?_⟩) (by assumption) ?_
  · (intro w hSw; (try dsimp only at hSw); go_simp; try with_reducible rfl)
  try simp only [Act.put, List.setIfInBounds_toArray, List.set_cons_zero, List.set_cons_succ]
  refine wpAnyH_done (by kernel_rfl) ?_ _
  go_wp2_with fail
  go_ret2
  exact ⟨rfl, hW.trans (hB2.mono (by omega))⟩

set_option maxRecDepth 100000 in
set_option maxHeartbeats 4000000 in
theorem rInt64_high (p : Bool) (A : Option Addr) (n c : Nat) (x : Int) (L : Nat) (w : World) (h : Rval w (.agg #[.bool p, .slice A n c]) x L) (hL : L ≤ 400000) (hx : 9223372036854775807 < x) :
    Calls Try.prog 20 #[.agg #[.bool p, .slice A n c]] w fun e w' => e = .returned (.tuple #[.int .i64 (int64Of x), .bool (fits64 x)]) ∧ Below w.heap.size w w' := by
  have hW := below_alloc w (.cells #[.bool p, .slice A n c] 31)
  have hB0 := (Below.refl (w.heap.size + 1) (w.alloc (.cells #[.bool p, .slice A n c] 31))).drew
  have HT := Lib.hid (fun (w' : World) (hb : Below (w.heap.size + 1) (w.alloc (.cells #[.bool p, .slice A n c] 31)) w') => cell31 hb)
  have hsz : w.heap.size + 1 ≤ (w.alloc (.cells #[.bool p, .slice A n c] 31)).heap.size := by simp
  obtain ⟨s1, hs1⟩ : ∃ s1, cmpI x (-9223372036854775808) = s1 := ⟨_, rfl⟩
  obtain ⟨s2, hs2⟩ : ∃ s2, cmpI x 9223372036854775807 = s2 := ⟨_, rfl⟩
  have HS1 := Lib.hid hs1
  have HS2 := Lib.hid hs2
  have HH := Lib.hid h
  have hd1 : decide (s1 < 0) = false := by rw [← hs1, cmpI_gt (by omega)]; decide
  have hd2 : decide (0 < s2) = true := by rw [← hs2, cmpI_gt hx]; decide
  rw [(int64_not (by omega)).1, (int64_not (by omega)).2]
  clear h hs1 hs2 hx
  go_enter Try.func20, Try.ntmps20
  go_wp2_with fail
  refine wp_region_held_drew (S := fun w' => w'.cell? ⟨w.heap.size, 0, none⟩ = some (.bool p) ∧ w'.cell? ⟨w.heap.size, 1, none⟩ = some (.slice A n c) ∧ Below (w.heap.size + 1) (w.alloc (.cells #[.bool p, .slice A n c] 31)) w') (by kernel_rfl) (HT.out _ hB0) (fun hHeld0 => ?_)
  refine wpAnyH_taken (i := 0) (d := some 6) (v := ?_) rfl rfl (by kernel_rfl) (by kernel_rfl) (by kernel_rfl) (fun _ _ _ h => h) (Or.inl ⟨by rfl, ?_⟩) (by assumption) ?_
  rotate_left 1
  · (intro w hSw; (try dsimp only at hSw); go_simp; try with_reducible rfl)
  try simp only [Act.put, List.setIfInBounds_toArray, List.set_cons_zero, List.set_cons_succ]
  refine wpAnyH_ready (rs := [1]) (by kernel_rfl) (by simp) ?_
  refine AllReadyH.cons rfl (fun K hK => ?_) AllReadyH.nil
  try simp only [List.getElem_toArray, List.getElem_cons_zero, List.getElem_cons_succ]
  go_simp
  (go_at_call 18; refine (rnew_any (-9223372036854775808) _ (by decide) (by decide)).mono ?_; rintro e w1 ⟨⟨ng1, A1, n1, c1, rfl, hv1⟩, hb1⟩; have hB1 := Below.trans hB0 (hb1.mono (B' := w.heap.size + 1) (Nat.le_trans hsz hB0.size)); have HV1 := Lib.hid hv1; clear hv1)
  refine hK.out _ _ (HT.out _ hB1) (fun hHeld1 => ?_)
  clear hK K hHeld0
  try simp only [Act.put, List.setIfInBounds_toArray, List.set_cons_zero, List.set_cons_succ]
  refine wpAnyH_ready (rs := [2]) (by kernel_rfl) (by simp) ?_
  refine AllReadyH.cons rfl (fun K hK => ?_) AllReadyH.nil
  try simp only [List.getElem_toArray, List.getElem_cons_zero, List.getElem_cons_succ]
  go_simp
  (go_at_call 33; refine (rcmp_any _ _ x (-9223372036854775808) L 64 _ (HH.out.below (hW.trans (hB1.mono (by omega)))) HV1.out (by omega) (by decide)).mono ?_; rintro e w2 ⟨rfl, hb2⟩; have hB2 := Below.trans hB1 (hb2.mono (B' := w.heap.size + 1) (Nat.le_trans hsz hB1.size)); rw [HS1.out])
  refine hK.out _ _ (HT.out _ hB2) (fun hHeld2 => ?_)
  clear hK K hHeld1
  try simp only [Act.put, List.setIfInBounds_toArray, List.set_cons_zero, List.set_cons_succ]
  refine wpAnyH_taken (i := 3) (d := some 9) (v := .bool false) rfl rfl (by kernel_rfl) (by kernel_rfl) (by kernel_rfl) (fun _ _ _ h => h) (Or.inl ⟨by rfl, ?_⟩) (by assumption) ?_
  · (intro w hSw; (try dsimp only at hSw); go_simp; try with_reducible rfl)
  try simp only [Act.put, List.setIfInBounds_toArray, List.set_cons_zero, List.set_cons_succ]
  refine wpAnyH_taken (i := 4) (d := some 10) (v := .bool false) rfl rfl (by kernel_rfl) (by kernel_rfl) (by kernel_rfl) (fun _ _ _ h => h) (Or.inl ⟨by rfl, ?_⟩) (by assumption) ?_
  · (intro w hSw; (try dsimp only at hSw); go_simp; try with_reducible rfl)
  try simp only [Act.put, List.setIfInBounds_toArray, List.set_cons_zero, List.set_cons_succ]
  refine wpAnyH_taken (i := 5) (d := some 11) (v := ?_) rfl rfl (by kernel_rfl) (by kernel_rfl) (by kernel_rfl) (fun _ _ _ h => h) (Or.inl ⟨by rfl, ?_⟩) (by assumption) ?_
  rotate_left 1
  · (intro w hSw; (try dsimp only at hSw); go_simp; try with_reducible rfl)
  try simp only [Act.put, List.setIfInBounds_toArray, List.set_cons_zero, List.set_cons_succ]
  refine wpAnyH_ready (rs := [6]) (by kernel_rfl) (by simp) ?_
  refine AllReadyH.cons rfl (fun K hK => ?_) AllReadyH.nil
  try simp only [List.getElem_toArray, List.getElem_cons_zero, List.getElem_cons_succ]
  go_simp
  (go_at_call 18; refine (rnew_any 9223372036854775807 _ (by decide) (by decide)).mono ?_; rintro e w3 ⟨⟨ng3, A3, n3, c3, rfl, hv3⟩, hb3⟩; have hB3 := Below.trans hB2 (hb3.mono (B' := w.heap.size + 1) (Nat.le_trans hsz hB2.size)); have HV3 := Lib.hid hv3; clear hv3)
  refine hK.out _ _ (HT.out _ hB3) (fun hHeld3 => ?_)
  clear hK K hHeld2
  try simp only [Act.put, List.setIfInBounds_toArray, List.set_cons_zero, List.set_cons_succ]
  refine wpAnyH_ready (rs := [7]) (by kernel_rfl) (by simp) ?_
  refine AllReadyH.cons rfl (fun K hK => ?_) AllReadyH.nil
  try simp only [List.getElem_toArray, List.getElem_cons_zero, List.getElem_cons_succ]
  go_simp
  (go_at_call 33; refine (rcmp_any _ _ x 9223372036854775807 L 64 _ (HH.out.below (hW.trans (hB3.mono (by omega)))) HV3.out (by omega) (by decide)).mono ?_; rintro e w4 ⟨rfl, hb4⟩; have hB4 := Below.trans hB3 (hb4.mono (B' := w.heap.size + 1) (Nat.le_trans hsz hB3.size)); rw [HS2.out])
  refine hK.out _ _ (HT.out _ hB4) (fun hHeld4 => ?_)
  clear hK K hHeld3
  try simp only [Act.put, List.setIfInBounds_toArray, List.set_cons_zero, List.set_cons_succ]
  refine wpAnyH_taken (i := 8) (d := some 14) (v := .bool true) rfl rfl (by kernel_rfl) (by kernel_rfl) (by kernel_rfl) (fun _ _ _ h => h) (Or.inl ⟨by rfl, ?_⟩) (by assumption) ?_
  · (intro w hSw; (try dsimp only at hSw); go_simp; try with_reducible rfl)
  try simp only [Act.put, List.setIfInBounds_toArray, List.set_cons_zero, List.set_cons_succ]
  refine wpAnyH_taken (i := 9) (d := some 15) (v := .bool true) rfl rfl (by kernel_rfl) (by kernel_rfl) (by kernel_rfl) (fun _ _ _ h => h) (Or.inl ⟨by rfl, ?_⟩) (by assumption) ?_
  · (intro w hSw; (try dsimp only at hSw); go_simp; try with_reducible rfl)
  try simp only [Act.put, List.setIfInBounds_toArray, List.set_cons_zero, List.set_cons_succ]
  refine wpAnyH_done (by kernel_rfl) ?_ _
  go_wp2_with fail
  go_ret2
  exact ⟨rfl, hW.trans (hB4.mono (by omega))⟩

set_option maxRecDepth 100000 in
set_option maxHeartbeats 4000000 in
theorem rInt64_fit (p : Bool) (A : Option Addr) (n c : Nat) (x : Int) (L : Nat) (w : World) (h : Rval w (.agg #[.bool p, .slice A n c]) x L) (hL : L ≤ 400000) (hx0 : -9223372036854775808 ≤ x) (hx1 : x ≤ 9223372036854775807) :
    Calls Try.prog 20 #[.agg #[.bool p, .slice A n c]] w fun e w' => e = .returned (.tuple #[.int .i64 (int64Of x), .bool (fits64 x)]) ∧ Below w.heap.size w w' := by
  have hW := below_alloc w (.cells #[.bool p, .slice A n c] 31)
  have hB0 := (Below.refl (w.heap.size + 1) (w.alloc (.cells #[.bool p, .slice A n c] 31))).drew
  have HT := Lib.hid (fun (w' : World) (hb : Below (w.heap.size + 1) (w.alloc (.cells #[.bool p, .slice A n c] 31)) w') => cell31 hb)
  have hsz : w.heap.size + 1 ≤ (w.alloc (.cells #[.bool p, .slice A n c] 31)).heap.size := by simp
  obtain ⟨s1, hs1⟩ : ∃ s1, cmpI x (-9223372036854775808) = s1 := ⟨_, rfl⟩
  obtain ⟨s2, hs2⟩ : ∃ s2, cmpI x 9223372036854775807 = s2 := ⟨_, rfl⟩
  have HS1 := Lib.hid hs1
  have HS2 := Lib.hid hs2
  have HH := Lib.hid h
  have hd1 : decide (s1 < 0) = false := by
    rcases Int.lt_or_eq_of_le hx0 with h' | h'
    · rw [← hs1, cmpI_gt h']; decide
    · rw [← hs1, cmpI_eq h'.symm]; decide
  have hd2 : decide (0 < s2) = false := by
    rcases Int.lt_or_eq_of_le hx1 with h' | h'
    · rw [← hs2, cmpI_lt h']; decide
    · rw [← hs2, cmpI_eq h']; decide
  rw [(int64_fit ⟨hx0, hx1⟩).1, (int64_fit ⟨hx0, hx1⟩).2]
  obtain ⟨p', A', n', c', ds, e, hr, hd, ht, hz, hp, hn⟩ := h
  simp only [Value.agg.injEq, Array.mk.injEq, List.cons.injEq, Value.bool.injEq, Value.slice.injEq, and_true] at e
  obtain ⟨rfl, rfl, rfl, rfl⟩ := e
  have hv0 := valR_nonneg (by decide : (0 : Int) ≤ 65536) hd
  have hv1 : valR 65536 ds ≤ 9223372036854775808 := by cases p <;> simp [withSign] at hz <;> omega
  have HROW := Lib.hid hr
  have HD := Lib.hid hd
  have HZ := Lib.hid hz
  have HXL := Lib.hid (show ds.length = n from hr.1)
  have HV1B := Lib.hid hv1
  clear hs1 hs2 hr hd ht hz hp hv1
  go_enter Try.func20, Try.ntmps20
  go_wp2_with fail
  refine wp_region_held_drew (S := fun w' => w'.cell? ⟨w.heap.size, 0, none⟩ = some (.bool p) ∧ w'.cell? ⟨w.heap.size, 1, none⟩ = some (.slice A n c) ∧ Below (w.heap.size + 1) (w.alloc (.cells #[.bool p, .slice A n c] 31)) w') (by kernel_rfl) (HT.out _ hB0) (fun hHeld0 => ?_)
  refine wpAnyH_taken (i := 0) (d := some 6) (v := ?_) rfl rfl (by kernel_rfl) (by kernel_rfl) (by kernel_rfl) (fun _ _ _ h => h) (Or.inl ⟨by rfl, ?_⟩) (by assumption) ?_
  rotate_left 1
  · (intro w hSw; (try dsimp only at hSw); go_simp; try with_reducible rfl)
  try simp only [Act.put, List.setIfInBounds_toArray, List.set_cons_zero, List.set_cons_succ]
  refine wpAnyH_ready (rs := [1]) (by kernel_rfl) (by simp) ?_
  refine AllReadyH.cons rfl (fun K hK => ?_) AllReadyH.nil
  try simp only [List.getElem_toArray, List.getElem_cons_zero, List.getElem_cons_succ]
  go_simp
  (go_at_call 18; refine (rnew_any (-9223372036854775808) _ (by decide) (by decide)).mono ?_; rintro e w1 ⟨⟨ng1, A1, n1, c1, rfl, hv1⟩, hb1⟩; have hB1 := Below.trans hB0 (hb1.mono (B' := w.heap.size + 1) (Nat.le_trans hsz hB0.size)); have HV1 := Lib.hid hv1; clear hv1)
  refine hK.out _ _ (HT.out _ hB1) (fun hHeld1 => ?_)
  clear hK K hHeld0
  try simp only [Act.put, List.setIfInBounds_toArray, List.set_cons_zero, List.set_cons_succ]
  refine wpAnyH_ready (rs := [2]) (by kernel_rfl) (by simp) ?_
  refine AllReadyH.cons rfl (fun K hK => ?_) AllReadyH.nil
  try simp only [List.getElem_toArray, List.getElem_cons_zero, List.getElem_cons_succ]
  go_simp
  (go_at_call 33; refine (rcmp_any _ _ x (-9223372036854775808) L 64 _ (HH.out.below (hW.trans (hB1.mono (by omega)))) HV1.out (by omega) (by decide)).mono ?_; rintro e w2 ⟨rfl, hb2⟩; have hB2 := Below.trans hB1 (hb2.mono (B' := w.heap.size + 1) (Nat.le_trans hsz hB1.size)); rw [HS1.out])
  refine hK.out _ _ (HT.out _ hB2) (fun hHeld2 => ?_)
  clear hK K hHeld1
  try simp only [Act.put, List.setIfInBounds_toArray, List.set_cons_zero, List.set_cons_succ]
  refine wpAnyH_taken (i := 3) (d := some 9) (v := .bool false) rfl rfl (by kernel_rfl) (by kernel_rfl) (by kernel_rfl) (fun _ _ _ h => h) (Or.inl ⟨by rfl, ?_⟩) (by assumption) ?_
  · (intro w hSw; (try dsimp only at hSw); go_simp; try with_reducible rfl)
  try simp only [Act.put, List.setIfInBounds_toArray, List.set_cons_zero, List.set_cons_succ]
  refine wpAnyH_taken (i := 4) (d := some 10) (v := .bool false) rfl rfl (by kernel_rfl) (by kernel_rfl) (by kernel_rfl) (fun _ _ _ h => h) (Or.inl ⟨by rfl, ?_⟩) (by assumption) ?_
  · (intro w hSw; (try dsimp only at hSw); go_simp; try with_reducible rfl)
  try simp only [Act.put, List.setIfInBounds_toArray, List.set_cons_zero, List.set_cons_succ]
  refine wpAnyH_taken (i := 5) (d := some 11) (v := ?_) rfl rfl (by kernel_rfl) (by kernel_rfl) (by kernel_rfl) (fun _ _ _ h => h) (Or.inl ⟨by rfl, ?_⟩) (by assumption) ?_
  rotate_left 1
  · (intro w hSw; (try dsimp only at hSw); go_simp; try with_reducible rfl)
  try simp only [Act.put, List.setIfInBounds_toArray, List.set_cons_zero, List.set_cons_succ]
  refine wpAnyH_ready (rs := [6]) (by kernel_rfl) (by simp) ?_
  refine AllReadyH.cons rfl (fun K hK => ?_) AllReadyH.nil
  try simp only [List.getElem_toArray, List.getElem_cons_zero, List.getElem_cons_succ]
  go_simp
  (go_at_call 18; refine (rnew_any 9223372036854775807 _ (by decide) (by decide)).mono ?_; rintro e w3 ⟨⟨ng3, A3, n3, c3, rfl, hv3⟩, hb3⟩; have hB3 := Below.trans hB2 (hb3.mono (B' := w.heap.size + 1) (Nat.le_trans hsz hB2.size)); have HV3 := Lib.hid hv3; clear hv3)
  refine hK.out _ _ (HT.out _ hB3) (fun hHeld3 => ?_)
  clear hK K hHeld2
  try simp only [Act.put, List.setIfInBounds_toArray, List.set_cons_zero, List.set_cons_succ]
  refine wpAnyH_ready (rs := [7]) (by kernel_rfl) (by simp) ?_
  refine AllReadyH.cons rfl (fun K hK => ?_) AllReadyH.nil
  try simp only [List.getElem_toArray, List.getElem_cons_zero, List.getElem_cons_succ]
  go_simp
  (go_at_call 33; refine (rcmp_any _ _ x 9223372036854775807 L 64 _ (HH.out.below (hW.trans (hB3.mono (by omega)))) HV3.out (by omega) (by decide)).mono ?_; rintro e w4 ⟨rfl, hb4⟩; have hB4 := Below.trans hB3 (hb4.mono (B' := w.heap.size + 1) (Nat.le_trans hsz hB3.size)); rw [HS2.out])
  refine hK.out _ _ (HT.out _ hB4) (fun hHeld4 => ?_)
  clear hK K hHeld3
  try simp only [Act.put, List.setIfInBounds_toArray, List.set_cons_zero, List.set_cons_succ]
  refine wpAnyH_taken (i := 8) (d := some 14) (v := .bool false) rfl rfl (by kernel_rfl) (by kernel_rfl) (by kernel_rfl) (fun _ _ _ h => h) (Or.inl ⟨by rfl, ?_⟩) (by assumption) ?_
  · (intro w hSw; (try dsimp only at hSw); go_simp; try with_reducible rfl)
  try simp only [Act.put, List.setIfInBounds_toArray, List.set_cons_zero, List.set_cons_succ]
  refine wpAnyH_taken (i := 9) (d := some 15) (v := .bool false) rfl rfl (by kernel_rfl) (by kernel_rfl) (by kernel_rfl) (fun _ _ _ h => h) (Or.inl ⟨by rfl, ?_⟩) (by assumption) ?_
  · (intro w hSw; (try dsimp only at hSw); go_simp; try with_reducible rfl)
  try simp only [Act.put, List.setIfInBounds_toArray, List.set_cons_zero, List.set_cons_succ]
  refine wpAnyH_done (by kernel_rfl) ?_ _
  have hWW := hW.trans (hB4.mono (by omega))
  have HROW4 := Lib.hid (HROW.out.below hWW)
  obtain ⟨k0, k1, _⟩ := cell31 hB4
  have HK := Lib.hid (And.intro k0 k1)
  clear hB0 HT HV1 HV3 hB1 hB2 hB3 hb1 hb2 hb3 hb4 HH
  go_wp2_with fail
  go_loop [4, 5] (fun uv iv => ∃ (k : Nat) (y : Int), iv = .int .i64 ((k : Int) - 1) ∧ uv = .int .u64 y ∧ k ≤ n ∧ 0 ≤ y ∧ y ≤ 9223372036854775808 ∧ Hid (y = valR 65536 (ds.drop k))) (fun _ iv => (intOf iv + 1).toNat)
  case atStart => exact ⟨n, 0, rfl, rfl, Nat.le_refl _, by decide, by decide, Lib.hid (by rw [List.drop_of_length_le (by rw [HXL.out]; exact Nat.le_refl _)]; rfl)⟩
  case round =>
    obtain ⟨k, y, rfl, rfl, hk, y0, y1, HY⟩ := hrel
    by_cases hk0 : k = 0
    · subst hk0
      have hy : y = valR 65536 ds := by rw [HY.out, List.drop_zero]
      cases p with
      | false =>
        have hyx : y = x := by rw [hy, HZ.out]; simp [withSign]
        have q1 : IntKind.i64.wrap y = x := by rw [IntKind.wrap_i64]; omega
        clear hy hyx
        go_wp2_with fail
        go_ret2
        exact ⟨rfl, hWW⟩
      | true =>
        have hyx : -y = x := by rw [hy, HZ.out]; simp [withSign]
        have q1 : IntKind.i64.wrap (IntKind.u64.wrap (-y)) = x := by rw [IntKind.wrap_i64, IntKind.wrap_u64]; omega
        clear hy hyx
        go_wp2_with fail
        go_ret2
        exact ⟨rfl, hWW⟩
    · obtain ⟨b, o, rfl, hbx, hx⟩ := HROW4.out.2.2 (by omega)
      obtain ⟨d, ed⟩ : ∃ d, ds.getD (k - 1) 0 = d := ⟨_, rfl⟩
      have hcell : w4.cell? ⟨b, o + (k - 1), none⟩ = some (.int .i64 d) := by rw [← ed]; exact hx (k - 1) (by omega)
      have bd := HD.out.getD (k - 1)
      rw [ed] at bd
      have hnext : y * 65536 + d = valR 65536 (ds.drop (k - 1)) := by
        rw [drop_cons ds (k - 1) (by rw [HXL.out]; omega), ed, show k - 1 + 1 = k from by omega, HY.out]; simp only [valR]; omega
      have hle := valR_drop_le HD.out (k - 1)
      have hlim : y * 65536 + d ≤ 9223372036854775808 := by rw [hnext]; have := HV1B.out; omega
      have HNX := Lib.hid hnext
      obtain ⟨k0, k1⟩ := HK.out
      have q1 : (0 : Int) ≤ (k : Int) - 1 := by omega
      have q2 : (k : Int) - 1 < (n : Int) := by omega
      have q3 : ((k : Int) - 1).toNat = k - 1 := by omega
      have q4 : IntKind.u64.wrap (y * 65536) = y * 65536 := by rw [IntKind.wrap_u64]; omega
      have q5 : IntKind.u64.wrap d = d := by rw [IntKind.wrap_u64]; omega
      have q6 : IntKind.u64.wrap (y * 65536 + d) = y * 65536 + d := by rw [IntKind.wrap_u64]; omega
      clear hx ed hnext hle
      go_wp2_with fail
      exact ⟨⟨k - 1, _, by go_num, rfl, by omega, by omega, hlim, HNX⟩, by simp [intOf]; omega⟩

theorem rInt64_any (v : Value) (x : Int) (L : Nat) (w : World) (h : Rval w v x L) (hL : L ≤ 400000) :
    Calls Try.prog 20 #[v] w fun e w' => e = .returned (.tuple #[.int .i64 (int64Of x), .bool (fits64 x)]) ∧ Below w.heap.size w w' := by
  obtain ⟨p, A, n, c, rfl⟩ := h.form
  by_cases h1 : x < -9223372036854775808
  · exact rInt64_low p A n c x L w h hL h1
  · by_cases h2 : 9223372036854775807 < x
    · exact rInt64_high p A n c x L w h hL h2
    · exact rInt64_fit p A n c x L w h hL (by omega) (by omega)

end Go.Proofs.Ytoanomgdkkbbmaa
