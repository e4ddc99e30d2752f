/- IntegerRoots: the walk. -/
import Derived.Test.YtoanomgdkkbbmaaRoot
import Derived.Test.YtoanomgdkkbbmaaMadeKit
namespace Go.Proofs.Ytoanomgdkkbbmaa
open Go.RowKit LM

set_option maxHeartbeats 1000000 in
theorem abs_int (u : Value) (x : Int) (L : Nat) (w : World) (h : Ival w u x L) (hL : L ≤ 1073741824) :
    Calls Try.prog 36 #[u] w fun e w' => (∃ ng A2 n2 c2, e = .returned (.agg #[.bool ng, .slice A2 n2 c2]) ∧ Ival w' (.agg #[.bool ng, .slice A2 n2 c2]) (if x < 0 then -x else x) L) ∧ Below w.heap.size w w' := by
  obtain ⟨p, A, n, c, rfl⟩ := h.form
  obtain ⟨a, ha, ha0, rfl, ha1⟩ := h.parts
  have hW := below_two w (.cells #[.bool p, .slice A n c] 28) (.cells #[.bool false, .slice none 0 0] 28)
  have HA := Lib.hid (ha.below hW)
  have hB0 := Below.refl (w.heap.size + 2) ((w.alloc (.cells #[.bool p, .slice A n c] 28)).alloc (.cells #[.bool false, .slice none 0 0] 28))
  have e0 : (if withSign p a < 0 then -withSign p a else withSign p a) = a := by
    cases p with
    | true => have := ha1 rfl; simp [withSign]; omega
    | false => simp [withSign]; omega
  rw [e0]
  clear h ha ha1 e0
  go_enter Try.func36, Try.ntmps36
  go_wp2_with fail
  refine (clone_num _ a L _ HA.out hL).mono ?_
  rintro e w1 ⟨r, rfl, hr, hb1⟩
  have HR := Lib.hid hr
  have hB1 := hB0.trans (hb1.mono (B' := w.heap.size + 2) (by simp))
  clear hr
  go_wp2_with fail
  refine (signed_out false _ a L _ HR.out hL).mono ?_
  rintro e w2 ⟨ng, A2, n2, c2, rfl, hv, hb2⟩
  have hB2 := hB1.trans (hb2.mono (B' := w.heap.size + 2) (by have := hB1.size; simp at this; omega))
  obtain ⟨e1, e2, f1, f2⟩ := room1 hB2
  have HV := Lib.hid (show Ival w2 (.agg #[.bool ng, .slice A2 n2 c2]) a L from hv)
  clear hv
  go_wp2
  refine bodyPost_ret (v := .agg #[.bool ng, .slice A2 n2 c2]) (by simp [results, Try.results36, go_sem, e1, e2]) rfl ⟨⟨_, _, _, _, rfl, HV.out.stored e1 e2 _ _⟩, ?_⟩
  exact ((hW.trans (hB2.mono (by omega))).setCell (by show _ ≤ _; simp) _).setCell (by show _ ≤ _; simp) _

theorem add_t (u v : Value) (x y : Int) (L M : Nat) (w : World) (h : Ival w u x L) (g : Ival w v y M) (hL : L ≤ 1000000) (hM : M ≤ 1000000) :
    Calls Try.prog 38 #[u, v] w fun e w' => (∃ ng A2 n2 c2, e = .returned (.agg #[.bool ng, .slice A2 n2 c2]) ∧ Ival w' (.agg #[.bool ng, .slice A2 n2 c2]) (x + y) (max L M + 1)) ∧ Below w.heap.size w w' :=
  (add_int u v x y L M w h g (by omega) (by omega)).mono fun _ _ ⟨_, he, hv, hb⟩ => by obtain ⟨ng, A, n, c, rfl⟩ := hv.form; exact ⟨⟨ng, A, n, c, he, hv⟩, hb⟩

theorem mul_t (u v : Value) (x y : Int) (L M : Nat) (w : World) (h : Ival w u x L) (g : Ival w v y M) (hL : L ≤ 1000000) (hM : M ≤ 1000000) :
    Calls Try.prog 42 #[u, v] w fun e w' => (∃ ng A2 n2 c2, e = .returned (.agg #[.bool ng, .slice A2 n2 c2]) ∧ Ival w' (.agg #[.bool ng, .slice A2 n2 c2]) (x * y) (L + M)) ∧ Below w.heap.size w w' :=
  (mul_int u v x y L M w h g (by omega) (by omega)).mono fun _ _ ⟨_, he, hv, hb⟩ => by obtain ⟨ng, A, n, c, rfl⟩ := hv.form; exact ⟨⟨ng, A, n, c, he, hv⟩, hb⟩

theorem root_sq_E (x : Int) : rootE (x * x) = 0 := if_neg (by have : 0 ≤ x * x := by
                                                                rcases Int.le_total 0 x with h | h
                                                                · exact Int.mul_nonneg h h
                                                                · exact Int.mul_nonneg_of_nonpos_of_nonpos h h
                                                              omega)

theorem root_sq {x r : Int} (h : RootOf (x * x) r) : r = if x < 0 then -x else x := by
  have h0 : 0 ≤ x * x := by
    rcases Int.le_total 0 x with h | h
    · exact Int.mul_nonneg h h
    · exact Int.mul_nonneg_of_nonpos_of_nonpos h h
  rcases h with ⟨h1, _⟩ | ⟨_, h1⟩
  · omega
  · obtain ⟨y, hy⟩ : ∃ y, (if x < 0 then -x else x) = y := ⟨_, rfl⟩
    have hy0 : 0 ≤ y := by rw [← hy]; split <;> omega
    have hyy : x * x = y * y := by
      rw [← hy]
      by_cases hx : x < 0
      · rw [if_pos hx, Int.neg_mul_neg]
      · rw [if_neg hx]
    rw [hy]
    refine h1.same ⟨hy0, by omega, ?_⟩
    rw [hyy, Int.add_mul, Int.mul_add]; omega

theorem cmp_le0 {a b : Int} (h : a ≤ b) : cmpI a b ≤ 0 := by
  rcases Int.lt_or_eq_of_le h with h | h
  · rw [cmpI_lt h]; decide
  · rw [cmpI_eq h]; decide

theorem new_t (n : Int) (w : World) (h0 : -9223372036854775808 ≤ n) (h1 : n ≤ 9223372036854775807) :
    Calls Try.prog 17 #[.int .i64 n] w fun e w' => (∃ ng A2 n2 c2, e = .returned (.agg #[.bool ng, .slice A2 n2 c2]) ∧ Ival w' (.agg #[.bool ng, .slice A2 n2 c2]) n 2) ∧ Below w.heap.size w w' :=
  (new_int n w h0 h1).mono fun _ _ ⟨_, he, hv, hb⟩ => by obtain ⟨ng, A, n, c, rfl⟩ := hv.form; exact ⟨⟨ng, A, n, c, he, hv⟩, hb⟩

set_option maxRecDepth 100000 in
set_option maxHeartbeats 80000000 in
theorem roots_any (p : Bool) (A : Option Addr) (n c : Nat) (xs : List Int) (m1 n1 : Nat) (w : World) (h : Row .u32 w A n c xs) (hd : Dig xs) (hm1 : m1 ≤ 255) (hn1 : n1 ≤ 255) :
    Calls Try.prog 12 #[.agg #[.bool p, .slice A n c], .int .u8 m1, .int .u8 n1] w fun e w' => e = .returned (.bool true) ∧ Below w.heap.size w w' := by
  have hW := below_alloc w (.cells #[.bool p, .slice A n c] 24)
  have HH := Lib.hid h
  have HD := Lib.hid hd
  clear h hd
  have bx := Lib.hid (Fx.new w (.bool p) (.slice A n c) 24)
  obtain ⟨i, hi⟩ : ∃ i, m1 % 8 = i := ⟨_, rfl⟩
  obtain ⟨k, hk8⟩ : ∃ k, n1 % 8 = k := ⟨_, rfl⟩
  have hi8 : i < 8 := by omega
  have hk8b : k < 8 := by omega
  have HI := Lib.hid hi
  have HK := Lib.hid hk8
  have ei : (m1 : Int) % 8 = (i : Int) := by omega
  have ek : (n1 : Int) % 8 = (k : Int) := by omega
  clear hi hk8
  have EI := Lib.hid ei
  have EK := Lib.hid ek
  clear ei ek
  go_enter Try.func12, Try.ntmps12
  go_wp2_with fail
  refine (short_any _ 1 [n] 6 _ (lens1 _ (by simp) p A n c) (by omega)).mono ?_
  rintro e w1 ⟨rfl, hb⟩
  have hk := (below_alloc (w.alloc (.cells #[.bool p, .slice A n c] 24)) (.cells #[.bool p, .slice A n c] 24)).trans (hb.mono (by simp))
  have hw := hW.trans (hk.mono hW.size)
  replace bx := Lib.hid (bx.out.below hk)
  clear hk hb hW
  cases ht : tooLong [n] 6 with
  | true =>
    go_wp2_with fail
    refine (awake_any _).mono ?_
    rintro e wz ⟨rfl, hb⟩
    go_wp2
    go_ret
    exact ⟨rfl, hw.trans (hb.mono hw.size)⟩
  | false =>
    have hn : n ≤ 6 := by simp [tooLong] at ht; omega
    clear ht
    obtain ⟨cxa, cxb, -, -, -⟩ := bx.out
    have HGV := Lib.hid (given1 (p0 := p) HH.out HD.out hn hw rfl)
    go_wp2_with fail
    refine (made_any _ 1 6 _ _ HGV.out (by omega) (by omega)).mono ?_
    rintro e w3 ⟨v, vs, rfl, hints, hb⟩
    obtain ⟨x, hx⟩ : ∃ x, withSign p (val xs) = x := ⟨_, rfl⟩
    rw [hx] at hints
    obtain ⟨g, cc, q0, B0, m0, e0, rfl, hg1, ⟨k0, k1⟩, hvx⟩ := ints1 hints
    have hb2 := (below_alloc w1 (.cells #[.bool p, .slice A n c] 24)).trans (hb.mono (by simp))
    replace hw := hw.trans (hb2.mono hw.size)
    clear cxa cxb HGV hints hx HH HD bx hb hb2
    have hge7 : w.heap.size ≤ w3.heap.size := hw.size
    have hX := below_alloc w3 (.cells #[.bool q0, .slice B0 m0 e0] 28)
    replace hw := hw.trans (hX.mono hw.size)
    have b7 := Lib.hid (Fx.new w3 (.bool q0) (.slice B0 m0 e0) 28)
    have V7 := Lib.hid (hvx.below hX)
    clear hX hvx
    have ei := EI.out
    have ek := EK.out
    skip
    go_wp2_with fail
    clear k0 k1 ei ek
    obtain ⟨c7a, c7b, c7f, c7g, c7s⟩ := b7.out
    have hpe : powE (i : Int) = 0 := if_neg (by omega)
    have hpv : powV x (i : Int) = x ^ (i) := by unfold powV; rw [if_neg (by omega)]; congr 1
    have HPE := Lib.hid hpe
    have HPV := Lib.hid hpv
    clear hpe hpv
    refine (Power_int _ x (i : Int) 6 _ V7.out (by decide) (by omega) (Or.inl (by omega))).mono ?_
    rintro e w4 ⟨⟨g10, A10, n10, d10, rfl, hz⟩, hb⟩
    rw [HPE.out]
    rw [HPV.out] at hz
    clear c7a c7b c7f c7g c7s
    replace b7 := Lib.hid (b7.out.below hb)
    replace V7 := Lib.hid (V7.out.below hb)
    replace hw := hw.trans (hb.mono hw.size)
    have hX := below_alloc w4 (.cells #[.bool g10, .slice A10 n10 d10] 28)
    replace b7 := Lib.hid (b7.out.below hX)
    replace V7 := Lib.hid (V7.out.below hX)
    replace hw := hw.trans (hX.mono hw.size)
    have b10 := Lib.hid (Fx.new w4 (.bool g10) (.slice A10 n10 d10) 28)
    have V10 := Lib.hid (hz.below hX)
    clear hX hb hz HPE HPV
    obtain ⟨c7a, c7b, c7f, c7g, c7s⟩ := b7.out
    have hpe : powE (k : Int) = 0 := if_neg (by omega)
    have hpv : powV x (k : Int) = x ^ (k) := by unfold powV; rw [if_neg (by omega)]; congr 1
    have HPE := Lib.hid hpe
    have HPV := Lib.hid hpv
    clear hpe hpv
    go_wp2_with fail
    refine (Power_int _ x (k : Int) 6 _ V7.out (by decide) (by omega) (Or.inl (by omega))).mono ?_
    rintro e w5 ⟨⟨g12, A12, n12, d12, rfl, hz⟩, hb⟩
    rw [HPE.out]
    rw [HPV.out] at hz
    clear c7a c7b c7f c7g c7s
    replace b7 := Lib.hid (b7.out.below hb)
    replace V7 := Lib.hid (V7.out.below hb)
    replace b10 := Lib.hid (b10.out.below hb)
    replace V10 := Lib.hid (V10.out.below hb)
    replace hw := hw.trans (hb.mono hw.size)
    have hX := below_alloc w5 (.cells #[.bool g12, .slice A12 n12 d12] 28)
    replace b7 := Lib.hid (b7.out.below hX)
    replace V7 := Lib.hid (V7.out.below hX)
    replace b10 := Lib.hid (b10.out.below hX)
    replace V10 := Lib.hid (V10.out.below hX)
    replace hw := hw.trans (hX.mono hw.size)
    have b12 := Lib.hid (Fx.new w5 (.bool g12) (.slice A12 n12 d12) 28)
    have V12 := Lib.hid (hz.below hX)
    clear hX hb hz HPE HPV
    obtain ⟨c7a, c7b, c7f, c7g, c7s⟩ := b7.out
    have hpe : powE ((i : Int) + (k : Int)) = 0 := if_neg (by omega)
    have hpv : powV x ((i : Int) + (k : Int)) = x ^ (i + k) := by unfold powV; rw [if_neg (by omega)]; congr 1
    have HPE := Lib.hid hpe
    have HPV := Lib.hid hpv
    clear hpe hpv
    go_wp2_with fail
    refine (Power_int _ x ((i : Int) + (k : Int)) 6 _ V7.out (by decide) (by omega) (Or.inl (by omega))).mono ?_
    rintro e w6 ⟨⟨g14, A14, n14, d14, rfl, hz⟩, hb⟩
    rw [HPE.out]
    rw [HPV.out] at hz
    clear c7a c7b c7f c7g c7s
    replace b7 := Lib.hid (b7.out.below hb)
    replace V7 := Lib.hid (V7.out.below hb)
    replace b10 := Lib.hid (b10.out.below hb)
    replace V10 := Lib.hid (V10.out.below hb)
    replace b12 := Lib.hid (b12.out.below hb)
    replace V12 := Lib.hid (V12.out.below hb)
    replace hw := hw.trans (hb.mono hw.size)
    have hX := below_alloc w6 (.cells #[.bool g14, .slice A14 n14 d14] 28)
    replace b7 := Lib.hid (b7.out.below hX)
    replace V7 := Lib.hid (V7.out.below hX)
    replace b10 := Lib.hid (b10.out.below hX)
    replace V10 := Lib.hid (V10.out.below hX)
    replace b12 := Lib.hid (b12.out.below hX)
    replace V12 := Lib.hid (V12.out.below hX)
    replace hw := hw.trans (hX.mono hw.size)
    have b14 := Lib.hid (Fx.new w6 (.bool g14) (.slice A14 n14 d14) 28)
    have V14 := Lib.hid (hz.below hX)
    clear hX hb hz HPE HPV
    obtain ⟨c7a, c7b, c7f, c7g, c7s⟩ := b7.out
    go_wp2_with fail
    refine (mul_t _ _ x x 6 6 _ V7.out V7.out (by decide) (by decide)).mono ?_
    rintro e w7 ⟨⟨gt1, At1, nt1, ct1, rfl, hz⟩, hb⟩
    clear c7a c7b c7f c7g c7s
    replace b7 := Lib.hid (b7.out.below hb)
    replace V7 := Lib.hid (V7.out.below hb)
    replace b10 := Lib.hid (b10.out.below hb)
    replace V10 := Lib.hid (V10.out.below hb)
    replace b12 := Lib.hid (b12.out.below hb)
    replace V12 := Lib.hid (V12.out.below hb)
    replace b14 := Lib.hid (b14.out.below hb)
    replace V14 := Lib.hid (V14.out.below hb)
    replace hw := hw.trans (hb.mono hw.size)
    have T1 := Lib.hid hz
    clear hb hz
    go_wp2_with fail
    refine (Root_int _ (x * x) (6 + 6) _ T1.out (by decide)).mono ?_
    rintro e w8 ⟨⟨g16, A16, n16, d16, r, rfl, hz, hroot⟩, hb⟩
    rw [root_sq_E x]
    obtain rfl := root_sq hroot
    clear T1
    replace b7 := Lib.hid (b7.out.below hb)
    replace V7 := Lib.hid (V7.out.below hb)
    replace b10 := Lib.hid (b10.out.below hb)
    replace V10 := Lib.hid (V10.out.below hb)
    replace b12 := Lib.hid (b12.out.below hb)
    replace V12 := Lib.hid (V12.out.below hb)
    replace b14 := Lib.hid (b14.out.below hb)
    replace V14 := Lib.hid (V14.out.below hb)
    replace hw := hw.trans (hb.mono hw.size)
    have hge16 : w.heap.size ≤ w8.heap.size := by have := hw.size; omega
    have ne7_16 : w8.heap.size ≠ w3.heap.size := by have := b7.out.2.2.2.2; omega
    have ne10_16 : w8.heap.size ≠ w4.heap.size := by have := b10.out.2.2.2.2; omega
    have ne12_16 : w8.heap.size ≠ w5.heap.size := by have := b12.out.2.2.2.2; omega
    have ne14_16 : w8.heap.size ≠ w6.heap.size := by have := b14.out.2.2.2.2; omega
    have hX := below_alloc w8 (.cells #[.bool g16, .slice A16 n16 d16] 28)
    replace b7 := Lib.hid (b7.out.below hX)
    replace V7 := Lib.hid (V7.out.below hX)
    replace b10 := Lib.hid (b10.out.below hX)
    replace V10 := Lib.hid (V10.out.below hX)
    replace b12 := Lib.hid (b12.out.below hX)
    replace V12 := Lib.hid (V12.out.below hX)
    replace b14 := Lib.hid (b14.out.below hX)
    replace V14 := Lib.hid (V14.out.below hX)
    replace hw := hw.trans (hX.mono hw.size)
    have b16 := Lib.hid (Fx.new w8 (.bool g16) (.slice A16 n16 d16) 28)
    have V16 := Lib.hid (hz.below hX)
    clear hX hb hz hroot
    have hmx : ∀ w0 : World, Sem.run Try.prog (Builtin.max_ #[44, 44, 44, 44] 44 #[Value.int IntKind.i64 0, Value.int IntKind.i64 0, Value.int IntKind.i64 0, Value.int IntKind.i64 0]) w0 = Result.ok (Value.int IntKind.i64 0) w0 := fun _ => by kernel_rfl
    go_upto_region 9 with fail
    generalize (w8.alloc (.cells #[.bool g16, .slice A16 n16 d16] 28)) = WB at *
    have HT := Lib.hid (fun (w' : World) (hb : Below WB.heap.size WB w') => (show w'.cell? ⟨w3.heap.size, 0, none⟩ = some (.bool q0) ∧ w'.cell? ⟨w3.heap.size, 1, none⟩ = some (.slice B0 m0 e0) ∧ w'.cell? ⟨w4.heap.size, 0, none⟩ = some (.bool g10) ∧ w'.cell? ⟨w4.heap.size, 1, none⟩ = some (.slice A10 n10 d10) ∧ w'.cell? ⟨w5.heap.size, 0, none⟩ = some (.bool g12) ∧ w'.cell? ⟨w5.heap.size, 1, none⟩ = some (.slice A12 n12 d12) ∧ w'.cell? ⟨w6.heap.size, 0, none⟩ = some (.bool g14) ∧ w'.cell? ⟨w6.heap.size, 1, none⟩ = some (.slice A14 n14 d14) ∧ w'.cell? ⟨w8.heap.size, 0, none⟩ = some (.bool g16) ∧ w'.cell? ⟨w8.heap.size, 1, none⟩ = some (.slice A16 n16 d16) ∧ Below WB.heap.size WB w' from ⟨(b7.out.below hb).1, (b7.out.below hb).2.1, (b10.out.below hb).1, (b10.out.below hb).2.1, (b12.out.below hb).1, (b12.out.below hb).2.1, (b14.out.below hb).1, (b14.out.below hb).2.1, (b16.out.below hb).1, (b16.out.below hb).2.1, hb⟩))
    have hB := (Below.refl WB.heap.size WB).drew
    replace V7 := Lib.hid (V7.out.below hB)
    replace V10 := Lib.hid (V10.out.below hB)
    replace V12 := Lib.hid (V12.out.below hB)
    replace V14 := Lib.hid (V14.out.below hB)
    replace V16 := Lib.hid (V16.out.below hB)
    refine wp_region_held_drew (S := fun w' => w'.cell? ⟨w3.heap.size, 0, none⟩ = some (.bool q0) ∧ w'.cell? ⟨w3.heap.size, 1, none⟩ = some (.slice B0 m0 e0) ∧ w'.cell? ⟨w4.heap.size, 0, none⟩ = some (.bool g10) ∧ w'.cell? ⟨w4.heap.size, 1, none⟩ = some (.slice A10 n10 d10) ∧ w'.cell? ⟨w5.heap.size, 0, none⟩ = some (.bool g12) ∧ w'.cell? ⟨w5.heap.size, 1, none⟩ = some (.slice A12 n12 d12) ∧ w'.cell? ⟨w6.heap.size, 0, none⟩ = some (.bool g14) ∧ w'.cell? ⟨w6.heap.size, 1, none⟩ = some (.slice A14 n14 d14) ∧ w'.cell? ⟨w8.heap.size, 0, none⟩ = some (.bool g16) ∧ w'.cell? ⟨w8.heap.size, 1, none⟩ = some (.slice A16 n16 d16) ∧ Below WB.heap.size WB w') (by kernel_rfl) (HT.out _ hB) (fun hHeldn => ?_)
    clear hHeldn
    generalize WB.drew = wr0 at *
    refine wpAnyH_taken (i := 0) (d := some 62) (v := ?_) rfl rfl (by kernel_rfl) (by kernel_rfl) (by kernel_rfl) (fun _ _ _ h => h) (Or.inl ⟨by rfl, ?_⟩) (by first | assumption | exact HT.out _ hB) ?_
    rotate_left 1
    · (intro w hSw; (try dsimp only at hSw); go_simp; try with_reducible rfl)
    try simp only [Act.put, List.setIfInBounds_toArray, List.set_cons_zero, List.set_cons_succ]
    refine wpAnyH_taken (i := 1) (d := some 63) (v := ?_) rfl rfl (by kernel_rfl) (by kernel_rfl) (by kernel_rfl) (fun _ _ _ h => h) (Or.inl ⟨by rfl, ?_⟩) (by first | assumption | exact HT.out _ hB) ?_
    rotate_left 1
    · (intro w hSw; (try dsimp only at hSw); go_simp; try with_reducible rfl)
    try simp only [Act.put, List.setIfInBounds_toArray, List.set_cons_zero, List.set_cons_succ]
    refine wpAnyH_taken (i := 2) (d := some 64) (v := ?_) rfl rfl (by kernel_rfl) (by kernel_rfl) (by kernel_rfl) (fun _ _ _ h => h) (Or.inl ⟨by rfl, ?_⟩) (by first | assumption | exact HT.out _ hB) ?_
    rotate_left 1
    · (intro w hSw; (try dsimp only at hSw); go_simp; try with_reducible rfl)
    try simp only [Act.put, List.setIfInBounds_toArray, List.set_cons_zero, List.set_cons_succ]
    refine wpAnyH_taken (i := 3) (d := some 65) (v := ?_) rfl rfl (by kernel_rfl) (by kernel_rfl) (by kernel_rfl) (fun _ _ _ h => h) (Or.inl ⟨by rfl, ?_⟩) (by first | assumption | exact HT.out _ hB) ?_
    rotate_left 1
    · (intro w hSw; (try dsimp only at hSw); go_simp; try with_reducible rfl)
    try simp only [Act.put, List.setIfInBounds_toArray, List.set_cons_zero, List.set_cons_succ]
    refine wpAnyH_taken (i := 4) (d := some 66) (v := ?_) rfl rfl (by kernel_rfl) (by kernel_rfl) (by kernel_rfl) (fun _ _ _ h => h) (Or.inl ⟨by rfl, ?_⟩) (by first | assumption | exact HT.out _ hB) ?_
    rotate_left 1
    · (intro w hSw; (try dsimp only at hSw); go_simp; try with_reducible rfl)
    try simp only [Act.put, List.setIfInBounds_toArray, List.set_cons_zero, List.set_cons_succ]
    refine wpAnyH_taken (i := 5) (d := some 67) (v := ?_) rfl rfl (by kernel_rfl) (by kernel_rfl) (by kernel_rfl) (fun _ _ _ h => h) (Or.inl ⟨by rfl, ?_⟩) (by first | assumption | exact HT.out _ hB) ?_
    rotate_left 1
    · (intro w hSw; (try dsimp only at hSw); go_simp; try with_reducible rfl)
    try simp only [Act.put, List.setIfInBounds_toArray, List.set_cons_zero, List.set_cons_succ]
    refine wpAnyH_taken (i := 6) (d := some 68) (v := ?_) rfl rfl (by kernel_rfl) (by kernel_rfl) (by kernel_rfl) (fun _ _ _ h => h) (Or.inl ⟨by rfl, ?_⟩) (by first | assumption | exact HT.out _ hB) ?_
    rotate_left 1
    · (intro w hSw; (try dsimp only at hSw); go_simp; try with_reducible rfl)
    try simp only [Act.put, List.setIfInBounds_toArray, List.set_cons_zero, List.set_cons_succ]
    refine wpAnyH_taken (i := 7) (d := some 69) (v := ?_) rfl rfl (by kernel_rfl) (by kernel_rfl) (by kernel_rfl) (fun _ _ _ h => h) (Or.inl ⟨by rfl, ?_⟩) (by first | assumption | exact HT.out _ hB) ?_
    rotate_left 1
    · (intro w hSw; (try dsimp only at hSw); go_simp; try with_reducible rfl)
    try simp only [Act.put, List.setIfInBounds_toArray, List.set_cons_zero, List.set_cons_succ]
    refine wpAnyH_taken (i := 8) (d := some 70) (v := ?_) rfl rfl (by kernel_rfl) (by kernel_rfl) (by kernel_rfl) (fun _ _ _ h => h) (Or.inl ⟨by rfl, ?_⟩) (by first | assumption | exact HT.out _ hB) ?_
    rotate_left 1
    · (intro w hSw; (try dsimp only at hSw); go_simp; try with_reducible rfl)
    try simp only [Act.put, List.setIfInBounds_toArray, List.set_cons_zero, List.set_cons_succ]
    refine wpAnyH_taken (i := 10) (d := some 72) (v := ?_) rfl rfl (by kernel_rfl) (by kernel_rfl) (by kernel_rfl) (fun _ _ _ h => h) (Or.inl ⟨by rfl, ?_⟩) (by first | assumption | exact HT.out _ hB) ?_
    rotate_left 1
    · (intro w hSw; (try dsimp only at hSw); go_simp; try with_reducible rfl)
    try simp only [Act.put, List.setIfInBounds_toArray, List.set_cons_zero, List.set_cons_succ]
    refine wpAnyH_ready (rs := [9]) (by kernel_rfl) (by simp) ?_
    refine AllReadyH.cons rfl (fun K hK => ?_) AllReadyH.nil
    (try simp only [List.getElem_toArray]); (try simp only [List.getElem_cons_succ]); (try simp only [List.getElem_cons_zero])
    go_simp
    (go_at_call 42; refine (mul_t _ _ (x ^ i) (x ^ k) 200000 200000 _ V10.out V12.out (by decide) (by decide)).mono ?_; rintro e wc1 ⟨⟨gt2, At2, nt2, ct2, rfl, hz⟩, hb⟩)
    replace V7 := Lib.hid (V7.out.below hb)
    replace V10 := Lib.hid (V10.out.below hb)
    replace V12 := Lib.hid (V12.out.below hb)
    replace V14 := Lib.hid (V14.out.below hb)
    replace V16 := Lib.hid (V16.out.below hb)
    replace hB := Below.trans hB (hb.mono hB.size)
    have T2 := Lib.hid hz
    refine hK.out _ _ (HT.out _ hB) (fun hHeldn => ?_)
    clear hK K hHeldn
    try simp only [Act.put, List.setIfInBounds_toArray, List.set_cons_zero, List.set_cons_succ]
    clear hb hz
    refine wpAnyH_ready (rs := [11]) (by kernel_rfl) (by simp) ?_
    refine AllReadyH.cons rfl (fun K hK => ?_) AllReadyH.nil
    (try simp only [List.getElem_toArray]); (try simp only [List.getElem_cons_succ]); (try simp only [List.getElem_cons_zero])
    go_simp
    (go_at_call 65; refine (same_yes _ _ (x ^ i * x ^ k) (x ^ (i + k)) (200000 + 200000) 200000 _ T2.out V14.out (by decide) (by decide) (Int.pow_add x i k).symm).mono ?_; rintro e wc2 ⟨rfl, hb⟩)
    replace V7 := Lib.hid (V7.out.below hb)
    replace V10 := Lib.hid (V10.out.below hb)
    replace V12 := Lib.hid (V12.out.below hb)
    replace V14 := Lib.hid (V14.out.below hb)
    replace V16 := Lib.hid (V16.out.below hb)
    replace T2 := Lib.hid (T2.out.below hb)
    replace hB := Below.trans hB (hb.mono hB.size)
    clear T2
    refine hK.out _ _ (HT.out _ hB) (fun hHeldn => ?_)
    clear hK K hHeldn
    try simp only [Act.put, List.setIfInBounds_toArray, List.set_cons_zero, List.set_cons_succ]
    clear hb
    refine wpAnyH_taken (i := 12) (d := some 74) (v := ?_) rfl rfl (by kernel_rfl) (by kernel_rfl) (by kernel_rfl) (fun _ _ _ h => h) (Or.inl ⟨by rfl, ?_⟩) (by first | assumption | exact HT.out _ hB) ?_
    rotate_left 1
    · (intro w hSw; (try dsimp only at hSw); go_simp; try with_reducible rfl)
    try simp only [Act.put, List.setIfInBounds_toArray, List.set_cons_zero, List.set_cons_succ]
    refine wpAnyH_taken (i := 13) (d := some 75) (v := ?_) rfl rfl (by kernel_rfl) (by kernel_rfl) (by kernel_rfl) (fun _ _ _ h => h) (Or.inl ⟨by rfl, ?_⟩) (by first | assumption | exact HT.out _ hB) ?_
    rotate_left 1
    · (intro w hSw; (try dsimp only at hSw); go_simp; try with_reducible rfl)
    try simp only [Act.put, List.setIfInBounds_toArray, List.set_cons_zero, List.set_cons_succ]
    refine wpAnyH_taken (i := 14) (d := some 76) (v := ?_) rfl rfl (by kernel_rfl) (by kernel_rfl) (by kernel_rfl) (fun _ _ _ h => h) (Or.inl ⟨by rfl, ?_⟩) (by first | assumption | exact HT.out _ hB) ?_
    rotate_left 1
    · (intro w hSw; (try dsimp only at hSw); go_simp; try with_reducible rfl)
    try simp only [Act.put, List.setIfInBounds_toArray, List.set_cons_zero, List.set_cons_succ]
    refine wpAnyH_taken (i := 15) (d := some 77) (v := ?_) rfl rfl (by kernel_rfl) (by kernel_rfl) (by kernel_rfl) (fun _ _ _ h => h) (Or.inl ⟨by rfl, ?_⟩) (by first | assumption | exact HT.out _ hB) ?_
    rotate_left 1
    · (intro w hSw; (try dsimp only at hSw); go_simp; try with_reducible rfl)
    try simp only [Act.put, List.setIfInBounds_toArray, List.set_cons_zero, List.set_cons_succ]
    refine wpAnyH_taken (i := 16) (d := some 78) (v := ?_) rfl rfl (by kernel_rfl) (by kernel_rfl) (by kernel_rfl) (fun _ _ _ h => h) (Or.inl ⟨by rfl, ?_⟩) (by first | assumption | exact HT.out _ hB) ?_
    rotate_left 1
    · (intro w hSw; (try dsimp only at hSw); go_simp; try with_reducible rfl)
    try simp only [Act.put, List.setIfInBounds_toArray, List.set_cons_zero, List.set_cons_succ]
    refine wpAnyH_ready (rs := [17]) (by kernel_rfl) (by simp) ?_
    refine AllReadyH.cons rfl (fun K hK => ?_) AllReadyH.nil
    (try simp only [List.getElem_toArray]); (try simp only [List.getElem_cons_succ]); (try simp only [List.getElem_cons_zero])
    go_simp
    (go_at_call 36; refine (abs_int _ x 6 _ V7.out (by decide)).mono ?_; rintro e wc3 ⟨⟨gt3, At3, nt3, ct3, rfl, hz⟩, hb⟩)
    replace V7 := Lib.hid (V7.out.below hb)
    replace V10 := Lib.hid (V10.out.below hb)
    replace V12 := Lib.hid (V12.out.below hb)
    replace V14 := Lib.hid (V14.out.below hb)
    replace V16 := Lib.hid (V16.out.below hb)
    replace hB := Below.trans hB (hb.mono hB.size)
    have T3 := Lib.hid hz
    refine hK.out _ _ (HT.out _ hB) (fun hHeldn => ?_)
    clear hK K hHeldn
    try simp only [Act.put, List.setIfInBounds_toArray, List.set_cons_zero, List.set_cons_succ]
    clear hb hz
    refine wpAnyH_ready (rs := [18]) (by kernel_rfl) (by simp) ?_
    refine AllReadyH.cons rfl (fun K hK => ?_) AllReadyH.nil
    (try simp only [List.getElem_toArray]); (try simp only [List.getElem_cons_succ]); (try simp only [List.getElem_cons_zero])
    go_simp
    (go_at_call 65; refine (same_yes _ _ (if x < 0 then -x else x) (if x < 0 then -x else x) (6 + 6 + 1) 6 _ V16.out T3.out (by decide) (by decide) rfl).mono ?_; rintro e wc4 ⟨rfl, hb⟩)
    replace V7 := Lib.hid (V7.out.below hb)
    replace V10 := Lib.hid (V10.out.below hb)
    replace V12 := Lib.hid (V12.out.below hb)
    replace V14 := Lib.hid (V14.out.below hb)
    replace V16 := Lib.hid (V16.out.below hb)
    replace T3 := Lib.hid (T3.out.below hb)
    replace hB := Below.trans hB (hb.mono hB.size)
    clear T3
    refine hK.out _ _ (HT.out _ hB) (fun hHeldn => ?_)
    clear hK K hHeldn
    try simp only [Act.put, List.setIfInBounds_toArray, List.set_cons_zero, List.set_cons_succ]
    clear hb
    refine wpAnyH_taken (i := 19) (d := some 81) (v := ?_) rfl rfl (by kernel_rfl) (by kernel_rfl) (by kernel_rfl) (fun _ _ _ h => h) (Or.inl ⟨by rfl, ?_⟩) (by first | assumption | exact HT.out _ hB) ?_
    rotate_left 1
    · (intro w hSw; (try dsimp only at hSw); go_simp; try with_reducible rfl)
    try simp only [Act.put, List.setIfInBounds_toArray, List.set_cons_zero, List.set_cons_succ]
    refine wpAnyH_taken (i := 20) (d := some 82) (v := ?_) rfl rfl (by kernel_rfl) (by kernel_rfl) (by kernel_rfl) (fun _ _ _ h => h) (Or.inl ⟨by rfl, ?_⟩) (by first | assumption | exact HT.out _ hB) ?_
    rotate_left 1
    · (intro w hSw; (try dsimp only at hSw); go_simp; try with_reducible rfl)
    try simp only [Act.put, List.setIfInBounds_toArray, List.set_cons_zero, List.set_cons_succ]
    refine wpAnyH_done (by kernel_rfl) ?_ _
    replace b7 := Lib.hid (b7.out.below hB)
    replace b10 := Lib.hid (b10.out.below hB)
    replace b12 := Lib.hid (b12.out.below hB)
    replace b14 := Lib.hid (b14.out.below hB)
    replace b16 := Lib.hid (b16.out.below hB)
    replace hw := hw.trans (hB.mono hw.size)
    clear hmx
    clear b10 V10
    clear b12 V12
    clear b14 V14
    obtain ⟨c7a, c7b, c7f, c7g, c7s⟩ := b7.out
    go_wp2_with fail
    refine (Root_int _ x 6 _ V7.out (by decide)).mono ?_
    rintro e w9 ⟨⟨g17, A17, n17, d17, r2, rfl, hz, hroot⟩, hb⟩
    have HRT := Lib.hid hroot
    clear hroot
    clear c7a c7b c7f c7g c7s
    replace b7 := Lib.hid (b7.out.below hb)
    replace V7 := Lib.hid (V7.out.below hb)
    replace b16 := Lib.hid (b16.out.below hb)
    replace V16 := Lib.hid (V16.out.below hb)
    replace hw := hw.trans (hb.mono hw.size)
    have T4 := Lib.hid hz
    clear hb hz
    obtain ⟨c16a, c16b, c16f, c16g, c16s⟩ := b16.out
    go_upto_region 12 with fail
    clear c16a c16b c16f c16g c16s
    have Vn := Lib.hid (T4.out.fx b16.out (.bool g17) (.slice A17 n17 d17))
    replace V7 := Lib.hid (V7.out.fx b16.out (.bool g17) (.slice A17 n17 d17))
    clear V16
    replace T4 := Lib.hid (T4.out.fx b16.out (.bool g17) (.slice A17 n17 d17))
    replace b7 := Lib.hid (b7.out.other ne7_16 (.bool g17) (.slice A17 n17 d17))
    replace b16 := Lib.hid (b16.out.store (.bool g17) (.slice A17 n17 d17))
    replace hw := (hw.setCell (p := ⟨w8.heap.size, 0, none⟩) hge16 (.bool g17)).setCell (p := ⟨w8.heap.size, 1, none⟩) hge16 (.slice A17 n17 d17)
    generalize (w9.setCell ⟨w8.heap.size, 0, none⟩ (.bool g17)).setCell ⟨w8.heap.size, 1, none⟩ (.slice A17 n17 d17) = ws9 at *
    have V16 := Vn
    clear Vn
    clear T4
    obtain ⟨c7a, c7b, c7f, c7g, c7s⟩ := b7.out
    go_wp2_with fail
    refine (sign_int _ x 6 _ V7.out).mono ?_
    rintro e w10 ⟨rfl, hb⟩
    clear c7a c7b c7f c7g c7s
    replace b7 := Lib.hid (b7.out.below hb)
    replace V7 := Lib.hid (V7.out.below hb)
    replace b16 := Lib.hid (b16.out.below hb)
    replace V16 := Lib.hid (V16.out.below hb)
    replace hw := hw.trans (hb.mono hw.size)
    clear hb
    by_cases hx : x < 0
    · skip
      have hcm : cmpI x 0 < 0 := by rw [cmpI_lt hx]; decide
      have hre : rootE x = 1 := if_pos hx
      clear hx
      go_wp2_with fail
      refine (awake_any _).mono ?_
      rintro e wz ⟨rfl, hb⟩
      go_wp2
      go_ret
      exact ⟨rfl, hw.trans (hb.mono hw.size)⟩
    · skip
      have hcm : ¬ cmpI x 0 < 0 := by unfold cmpI; rw [if_neg hx]; split <;> decide
      have hre : rootE x = 0 := if_neg hx
      have hir : IsRoot x r2 := by rcases HRT.out with h | h; exact absurd h.1 hx; exact h.2
      have HIR := Lib.hid hir
      clear hx hir HRT
      go_wp2_with fail
      have HT := Lib.hid (fun (w' : World) (hb : Below w10.heap.size w10 w') => (show w'.cell? ⟨w8.heap.size, 0, none⟩ = some (.bool g17) ∧ w'.cell? ⟨w8.heap.size, 1, none⟩ = some (.slice A17 n17 d17) ∧ Below w10.heap.size w10 w' from ⟨(b16.out.below hb).1, (b16.out.below hb).2.1, hb⟩))
      have hB := (Below.refl w10.heap.size w10).drew
      replace V7 := Lib.hid (V7.out.below hB)
      replace V16 := Lib.hid (V16.out.below hB)
      refine wp_region_held_drew (S := fun w' => w'.cell? ⟨w8.heap.size, 0, none⟩ = some (.bool g17) ∧ w'.cell? ⟨w8.heap.size, 1, none⟩ = some (.slice A17 n17 d17) ∧ Below w10.heap.size w10 w') (by kernel_rfl) (HT.out _ hB) (fun hHeldn => ?_)
      clear hHeldn
      generalize w10.drew = wr0 at *
      refine wpAnyH_taken (i := 0) (d := some 96) (v := ?_) rfl rfl (by kernel_rfl) (by kernel_rfl) (by kernel_rfl) (fun _ _ _ h => h) (Or.inl ⟨by rfl, ?_⟩) (by first | assumption | exact HT.out _ hB) ?_
      rotate_left 1
      · (intro w hSw; (try dsimp only at hSw); go_simp; try with_reducible rfl)
      try simp only [Act.put, List.setIfInBounds_toArray, List.set_cons_zero, List.set_cons_succ]
      refine wpAnyH_ready (rs := [1, 3]) (by kernel_rfl) (by simp) ?_
      refine AllReadyH.cons rfl (fun K hK => ?_) (AllReadyH.cons rfl (fun K hK => ?_) AllReadyH.nil)
      · (try simp only [List.getElem_toArray]); (try simp only [List.getElem_cons_succ]); (try simp only [List.getElem_cons_zero])
        go_simp
        (go_at_call 17; refine (new_t 1 _ (by decide) (by decide)).mono ?_; rintro e wd1 ⟨⟨gt5, At5, nt5, ct5, rfl, hz⟩, hb⟩)
        replace V7 := Lib.hid (V7.out.below hb)
        replace V16 := Lib.hid (V16.out.below hb)
        replace hB := Below.trans hB (hb.mono hB.size)
        have T5 := Lib.hid hz
        refine hK.out _ _ (HT.out _ hB) (fun hHeldn => ?_)
        clear hK K hHeldn
        try simp only [Act.put, List.setIfInBounds_toArray, List.set_cons_zero, List.set_cons_succ]
        clear hb hz
        refine wpAnyH_ready (rs := [2, 3]) (by kernel_rfl) (by simp) ?_
        refine AllReadyH.cons rfl (fun K hK => ?_) (AllReadyH.cons rfl (fun K hK => ?_) AllReadyH.nil)
        · (try simp only [List.getElem_toArray]); (try simp only [List.getElem_cons_succ]); (try simp only [List.getElem_cons_zero])
          go_simp
          (go_at_call 38; refine (add_t _ _ r2 1 7 2 _ V16.out T5.out (by decide) (by decide)).mono ?_; rintro e wd2 ⟨⟨gt6, At6, nt6, ct6, rfl, hz⟩, hb⟩)
          replace V7 := Lib.hid (V7.out.below hb)
          replace V16 := Lib.hid (V16.out.below hb)
          replace T5 := Lib.hid (T5.out.below hb)
          replace hB := Below.trans hB (hb.mono hB.size)
          clear T5
          have T6 := Lib.hid hz
          refine hK.out _ _ (HT.out _ hB) (fun hHeldn => ?_)
          clear hK K hHeldn
          try simp only [Act.put, List.setIfInBounds_toArray, List.set_cons_zero, List.set_cons_succ]
          clear hb hz
          refine wpAnyH_ready (rs := [3]) (by kernel_rfl) (by simp) ?_
          refine AllReadyH.cons rfl (fun K hK => ?_) AllReadyH.nil
          (try simp only [List.getElem_toArray]); (try simp only [List.getElem_cons_succ]); (try simp only [List.getElem_cons_zero])
          go_simp
          have hbl := below_alloc wd2 (.cells #[.bool false, .slice none 0 0] 28)
          replace V7 := Lib.hid (V7.out.below hbl)
          replace V16 := Lib.hid (V16.out.below hbl)
          replace T6 := Lib.hid (T6.out.below hbl)
          have F18 := Lib.hid (Fx.new wd2 (.bool false) (.slice none 0 0) 28)
          have hge18 := hB.size
          replace hB := hB.alloc hB.size (.cells #[.bool false, .slice none 0 0] 28)
          refine hK.out _ _ (HT.out _ hB) (fun hHeldn => ?_)
          clear hK K hHeldn
          try simp only [Act.put, List.setIfInBounds_toArray, List.set_cons_zero, List.set_cons_succ]
          clear hbl
          generalize wd2.alloc (.cells #[.bool false, .slice none 0 0] 28) = wa18 at *
          generalize wd2.heap.size = ba18 at *
          refine wpAnyH_ready (rs := [4]) (by kernel_rfl) (by simp) ?_
          refine AllReadyH.cons rfl (fun K hK => ?_) AllReadyH.nil
          (try simp only [List.getElem_toArray]); (try simp only [List.getElem_cons_succ]); (try simp only [List.getElem_cons_zero])
          obtain ⟨x0, x1, x2, x3, x4⟩ := F18.out
          go_simp
          have hBs := (hB.setCell (p := ⟨ba18, 0, none⟩) hge18 (.bool gt6)).setCell (p := ⟨ba18, 1, none⟩) hge18 (.slice At6 nt6 ct6)
          replace V7 := Lib.hid (V7.out.fx F18.out (.bool gt6) (.slice At6 nt6 ct6))
          replace V16 := Lib.hid (V16.out.fx F18.out (.bool gt6) (.slice At6 nt6 ct6))
          replace T6 := Lib.hid (T6.out.fx F18.out (.bool gt6) (.slice At6 nt6 ct6))
          replace F18 := Lib.hid (F18.out.store (.bool gt6) (.slice At6 nt6 ct6))
          clear x0 x1 x2 x3 x4 hB
          refine hK.out _ _ (HT.out _ hBs) (fun hHeldn => ?_)
          clear hK K hHeldn
          try simp only [Act.put, List.setIfInBounds_toArray, List.set_cons_zero, List.set_cons_succ]
          generalize (wa18.setCell ⟨ba18, 0, none⟩ (.bool gt6)).setCell ⟨ba18, 1, none⟩ (.slice At6 nt6 ct6) = ws18 at *
          have hB := hBs
          clear hBs
          refine wpAnyH_done (by kernel_rfl) ?_ _
          replace b7 := Lib.hid (b7.out.below hB)
          replace b16 := Lib.hid (b16.out.below hB)
          replace hw := hw.trans (hB.mono hw.size)
          have b18 := F18
          have V18 := T6
          clear F18 T6
          go_upto_region 15 with fail
          have HT := Lib.hid (fun (w' : World) (hb : Below ws18.heap.size ws18 w') => (show w'.cell? ⟨w3.heap.size, 0, none⟩ = some (.bool q0) ∧ w'.cell? ⟨w3.heap.size, 1, none⟩ = some (.slice B0 m0 e0) ∧ w'.cell? ⟨w8.heap.size, 0, none⟩ = some (.bool g17) ∧ w'.cell? ⟨w8.heap.size, 1, none⟩ = some (.slice A17 n17 d17) ∧ w'.cell? ⟨ba18, 0, none⟩ = some (.bool gt6) ∧ w'.cell? ⟨ba18, 1, none⟩ = some (.slice At6 nt6 ct6) ∧ Below ws18.heap.size ws18 w' from ⟨(b7.out.below hb).1, (b7.out.below hb).2.1, (b16.out.below hb).1, (b16.out.below hb).2.1, (b18.out.below hb).1, (b18.out.below hb).2.1, hb⟩))
          have hB := (Below.refl ws18.heap.size ws18).drew
          replace V7 := Lib.hid (V7.out.below hB)
          replace V16 := Lib.hid (V16.out.below hB)
          replace V18 := Lib.hid (V18.out.below hB)
          refine wp_region_held_drew (S := fun w' => w'.cell? ⟨w3.heap.size, 0, none⟩ = some (.bool q0) ∧ w'.cell? ⟨w3.heap.size, 1, none⟩ = some (.slice B0 m0 e0) ∧ w'.cell? ⟨w8.heap.size, 0, none⟩ = some (.bool g17) ∧ w'.cell? ⟨w8.heap.size, 1, none⟩ = some (.slice A17 n17 d17) ∧ w'.cell? ⟨ba18, 0, none⟩ = some (.bool gt6) ∧ w'.cell? ⟨ba18, 1, none⟩ = some (.slice At6 nt6 ct6) ∧ Below ws18.heap.size ws18 w') (by kernel_rfl) (HT.out _ hB) (fun hHeldn => ?_)
          clear hHeldn
          generalize ws18.drew = wr0 at *
          refine wpAnyH_taken (i := 0) (d := some 99) (v := ?_) rfl rfl (by kernel_rfl) (by kernel_rfl) (by kernel_rfl) (fun _ _ _ h => h) (Or.inl ⟨by rfl, ?_⟩) (by first | assumption | exact HT.out _ hB) ?_
          rotate_left 1
          · (intro w hSw; (try dsimp only at hSw); go_simp; try with_reducible rfl)
          try simp only [Act.put, List.setIfInBounds_toArray, List.set_cons_zero, List.set_cons_succ]
          refine wpAnyH_taken (i := 1) (d := some 100) (v := ?_) rfl rfl (by kernel_rfl) (by kernel_rfl) (by kernel_rfl) (fun _ _ _ h => h) (Or.inl ⟨by rfl, ?_⟩) (by first | assumption | exact HT.out _ hB) ?_
          rotate_left 1
          · (intro w hSw; (try dsimp only at hSw); go_simp; try with_reducible rfl)
          try simp only [Act.put, List.setIfInBounds_toArray, List.set_cons_zero, List.set_cons_succ]
          refine wpAnyH_taken (i := 2) (d := some 101) (v := ?_) rfl rfl (by kernel_rfl) (by kernel_rfl) (by kernel_rfl) (fun _ _ _ h => h) (Or.inl ⟨by rfl, ?_⟩) (by first | assumption | exact HT.out _ hB) ?_
          rotate_left 1
          · (intro w hSw; (try dsimp only at hSw); go_simp; try with_reducible rfl)
          try simp only [Act.put, List.setIfInBounds_toArray, List.set_cons_zero, List.set_cons_succ]
          refine wpAnyH_taken (i := 3) (d := some 102) (v := ?_) rfl rfl (by kernel_rfl) (by kernel_rfl) (by kernel_rfl) (fun _ _ _ h => h) (Or.inl ⟨by rfl, ?_⟩) (by first | assumption | exact HT.out _ hB) ?_
          rotate_left 1
          · (intro w hSw; (try dsimp only at hSw); go_simp; try with_reducible rfl)
          try simp only [Act.put, List.setIfInBounds_toArray, List.set_cons_zero, List.set_cons_succ]
          refine wpAnyH_taken (i := 4) (d := some 103) (v := ?_) rfl rfl (by kernel_rfl) (by kernel_rfl) (by kernel_rfl) (fun _ _ _ h => h) (Or.inl ⟨by rfl, ?_⟩) (by first | assumption | exact HT.out _ hB) ?_
          rotate_left 1
          · (intro w hSw; (try dsimp only at hSw); go_simp; try with_reducible rfl)
          try simp only [Act.put, List.setIfInBounds_toArray, List.set_cons_zero, List.set_cons_succ]
          refine wpAnyH_taken (i := 6) (d := some 105) (v := ?_) rfl rfl (by kernel_rfl) (by kernel_rfl) (by kernel_rfl) (fun _ _ _ h => h) (Or.inl ⟨by rfl, ?_⟩) (by first | assumption | exact HT.out _ hB) ?_
          rotate_left 1
          · (intro w hSw; (try dsimp only at hSw); go_simp; try with_reducible rfl)
          try simp only [Act.put, List.setIfInBounds_toArray, List.set_cons_zero, List.set_cons_succ]
          refine wpAnyH_ready (rs := [5]) (by kernel_rfl) (by simp) ?_
          refine AllReadyH.cons rfl (fun K hK => ?_) AllReadyH.nil
          (try simp only [List.getElem_toArray]); (try simp only [List.getElem_cons_succ]); (try simp only [List.getElem_cons_zero])
          go_simp
          (go_at_call 42; refine (mul_t _ _ r2 r2 7 7 _ V16.out V16.out (by decide) (by decide)).mono ?_; rintro e we1 ⟨⟨gt7, At7, nt7, ct7, rfl, hz⟩, hb⟩)
          replace V7 := Lib.hid (V7.out.below hb)
          replace V16 := Lib.hid (V16.out.below hb)
          replace V18 := Lib.hid (V18.out.below hb)
          replace hB := Below.trans hB (hb.mono hB.size)
          have T7 := Lib.hid hz
          refine hK.out _ _ (HT.out _ hB) (fun hHeldn => ?_)
          clear hK K hHeldn
          try simp only [Act.put, List.setIfInBounds_toArray, List.set_cons_zero, List.set_cons_succ]
          clear hb hz
          refine wpAnyH_ready (rs := [7]) (by kernel_rfl) (by simp) ?_
          refine AllReadyH.cons rfl (fun K hK => ?_) AllReadyH.nil
          (try simp only [List.getElem_toArray]); (try simp only [List.getElem_cons_succ]); (try simp only [List.getElem_cons_zero])
          go_simp
          (go_at_call 32; refine (cmp_int _ _ (r2 * r2) x (7 + 7) 6 _ T7.out V7.out (by decide) (by decide)).mono ?_; rintro e we2 ⟨rfl, hb⟩)
          obtain ⟨cc, hcc⟩ : ∃ cc, cmpI (r2 * r2) (x) = cc := ⟨_, rfl⟩
          rw [hcc]
          have hcs : cc ≤ 0 := by rw [← hcc]; exact cmp_le0 HIR.out.2.1
          clear hcc
          replace V7 := Lib.hid (V7.out.below hb)
          replace V16 := Lib.hid (V16.out.below hb)
          replace V18 := Lib.hid (V18.out.below hb)
          replace T7 := Lib.hid (T7.out.below hb)
          replace hB := Below.trans hB (hb.mono hB.size)
          clear T7
          refine hK.out _ _ (HT.out _ hB) (fun hHeldn => ?_)
          clear hK K hHeldn
          try simp only [Act.put, List.setIfInBounds_toArray, List.set_cons_zero, List.set_cons_succ]
          clear hb
          refine wpAnyH_taken (i := 8) (d := some 107) (v := ?_) rfl rfl (by kernel_rfl) (by kernel_rfl) (by kernel_rfl) (fun _ _ _ h => h) (Or.inl ⟨by rfl, ?_⟩) (by first | assumption | exact HT.out _ hB) ?_
          rotate_left 1
          · (intro w hSw; (try dsimp only at hSw); go_simp; try with_reducible rfl)
          try simp only [Act.put, List.setIfInBounds_toArray, List.set_cons_zero, List.set_cons_succ]
          refine wpAnyH_taken (i := 9) (d := some 108) (v := ?_) rfl rfl (by kernel_rfl) (by kernel_rfl) (by kernel_rfl) (fun _ _ _ h => h) (Or.inl ⟨by rfl, ?_⟩) (by first | assumption | exact HT.out _ hB) ?_
          rotate_left 1
          · (intro w hSw; (try dsimp only at hSw); go_simp; try with_reducible rfl)
          try simp only [Act.put, List.setIfInBounds_toArray, List.set_cons_zero, List.set_cons_succ]
          refine wpAnyH_taken (i := 10) (d := some 109) (v := ?_) rfl rfl (by kernel_rfl) (by kernel_rfl) (by kernel_rfl) (fun _ _ _ h => h) (Or.inl ⟨by rfl, ?_⟩) (by first | assumption | exact HT.out _ hB) ?_
          rotate_left 1
          · (intro w hSw; (try dsimp only at hSw); go_simp; try with_reducible rfl)
          try simp only [Act.put, List.setIfInBounds_toArray, List.set_cons_zero, List.set_cons_succ]
          refine wpAnyH_taken (i := 11) (d := some 110) (v := ?_) rfl rfl (by kernel_rfl) (by kernel_rfl) (by kernel_rfl) (fun _ _ _ h => h) (Or.inl ⟨by rfl, ?_⟩) (by first | assumption | exact HT.out _ hB) ?_
          rotate_left 1
          · (intro w hSw; (try dsimp only at hSw); go_simp; try with_reducible rfl)
          try simp only [Act.put, List.setIfInBounds_toArray, List.set_cons_zero, List.set_cons_succ]
          refine wpAnyH_taken (i := 12) (d := some 111) (v := ?_) rfl rfl (by kernel_rfl) (by kernel_rfl) (by kernel_rfl) (fun _ _ _ h => h) (Or.inl ⟨by rfl, ?_⟩) (by first | assumption | exact HT.out _ hB) ?_
          rotate_left 1
          · (intro w hSw; (try dsimp only at hSw); go_simp; try with_reducible rfl)
          try simp only [Act.put, List.setIfInBounds_toArray, List.set_cons_zero, List.set_cons_succ]
          refine wpAnyH_taken (i := 13) (d := some 112) (v := ?_) rfl rfl (by kernel_rfl) (by kernel_rfl) (by kernel_rfl) (fun _ _ _ h => h) (Or.inl ⟨by rfl, ?_⟩) (by first | assumption | exact HT.out _ hB) ?_
          rotate_left 1
          · (intro w hSw; (try dsimp only at hSw); go_simp; try with_reducible rfl)
          try simp only [Act.put, List.setIfInBounds_toArray, List.set_cons_zero, List.set_cons_succ]
          refine wpAnyH_ready (rs := [14]) (by kernel_rfl) (by simp) ?_
          refine AllReadyH.cons rfl (fun K hK => ?_) AllReadyH.nil
          (try simp only [List.getElem_toArray]); (try simp only [List.getElem_cons_succ]); (try simp only [List.getElem_cons_zero])
          go_simp
          (go_at_call 42; refine (mul_t _ _ (r2 + 1) (r2 + 1) (max 7 2 + 1) (max 7 2 + 1) _ V18.out V18.out (by decide) (by decide)).mono ?_; rintro e we3 ⟨⟨gt8, At8, nt8, ct8, rfl, hz⟩, hb⟩)
          replace V7 := Lib.hid (V7.out.below hb)
          replace V16 := Lib.hid (V16.out.below hb)
          replace V18 := Lib.hid (V18.out.below hb)
          replace hB := Below.trans hB (hb.mono hB.size)
          have T8 := Lib.hid hz
          refine hK.out _ _ (HT.out _ hB) (fun hHeldn => ?_)
          clear hK K hHeldn
          try simp only [Act.put, List.setIfInBounds_toArray, List.set_cons_zero, List.set_cons_succ]
          clear hb hz
          refine wpAnyH_ready (rs := [15]) (by kernel_rfl) (by simp) ?_
          refine AllReadyH.cons rfl (fun K hK => ?_) AllReadyH.nil
          (try simp only [List.getElem_toArray]); (try simp only [List.getElem_cons_succ]); (try simp only [List.getElem_cons_zero])
          go_simp
          (go_at_call 32; refine (cmp_int _ _ x ((r2 + 1) * (r2 + 1)) 6 (max 7 2 + 1 + (max 7 2 + 1)) _ V7.out T8.out (by decide) (by decide)).mono ?_; rintro e we4 ⟨rfl, hb⟩)
          obtain ⟨cc, hcc⟩ : ∃ cc, cmpI (x) ((r2 + 1) * (r2 + 1)) = cc := ⟨_, rfl⟩
          rw [hcc]
          have hcs : cc < 0 := by rw [← hcc]; rw [cmpI_lt HIR.out.2.2]; decide
          clear hcc
          replace V7 := Lib.hid (V7.out.below hb)
          replace V16 := Lib.hid (V16.out.below hb)
          replace V18 := Lib.hid (V18.out.below hb)
          replace T8 := Lib.hid (T8.out.below hb)
          replace hB := Below.trans hB (hb.mono hB.size)
          clear T8
          refine hK.out _ _ (HT.out _ hB) (fun hHeldn => ?_)
          clear hK K hHeldn
          try simp only [Act.put, List.setIfInBounds_toArray, List.set_cons_zero, List.set_cons_succ]
          clear hb
          refine wpAnyH_taken (i := 16) (d := some 115) (v := ?_) rfl rfl (by kernel_rfl) (by kernel_rfl) (by kernel_rfl) (fun _ _ _ h => h) (Or.inl ⟨by rfl, ?_⟩) (by first | assumption | exact HT.out _ hB) ?_
          rotate_left 1
          · (intro w hSw; (try dsimp only at hSw); go_simp; try with_reducible rfl)
          try simp only [Act.put, List.setIfInBounds_toArray, List.set_cons_zero, List.set_cons_succ]
          refine wpAnyH_taken (i := 17) (d := some 116) (v := ?_) rfl rfl (by kernel_rfl) (by kernel_rfl) (by kernel_rfl) (fun _ _ _ h => h) (Or.inl ⟨by rfl, ?_⟩) (by first | assumption | exact HT.out _ hB) ?_
          rotate_left 1
          · (intro w hSw; (try dsimp only at hSw); go_simp; try with_reducible rfl)
          try simp only [Act.put, List.setIfInBounds_toArray, List.set_cons_zero, List.set_cons_succ]
          refine wpAnyH_taken (i := 18) (d := some 117) (v := ?_) rfl rfl (by kernel_rfl) (by kernel_rfl) (by kernel_rfl) (fun _ _ _ h => h) (Or.inl ⟨by rfl, ?_⟩) (by first | assumption | exact HT.out _ hB) ?_
          rotate_left 1
          · (intro w hSw; (try dsimp only at hSw); go_simp; try with_reducible rfl)
          try simp only [Act.put, List.setIfInBounds_toArray, List.set_cons_zero, List.set_cons_succ]
          refine wpAnyH_ready (rs := [19]) (by kernel_rfl) (by simp) ?_
          refine AllReadyH.cons rfl (fun K hK => ?_) AllReadyH.nil
          (try simp only [List.getElem_toArray]); (try simp only [List.getElem_cons_succ]); (try simp only [List.getElem_cons_zero])
          go_simp
          (go_at_call 15; refine (awake_any _).mono ?_; rintro e we5 ⟨rfl, hb⟩)
          replace V7 := Lib.hid (V7.out.below hb)
          replace V16 := Lib.hid (V16.out.below hb)
          replace V18 := Lib.hid (V18.out.below hb)
          replace hB := Below.trans hB (hb.mono hB.size)
          refine hK.out _ _ (HT.out _ hB) (fun hHeldn => ?_)
          clear hK K hHeldn
          try simp only [Act.put, List.setIfInBounds_toArray, List.set_cons_zero, List.set_cons_succ]
          clear hb
          refine wpAnyH_taken (i := 20) (d := some 119) (v := ?_) rfl rfl (by kernel_rfl) (by kernel_rfl) (by kernel_rfl) (fun _ _ _ h => h) (Or.inl ⟨by rfl, ?_⟩) (by first | assumption | exact HT.out _ hB) ?_
          rotate_left 1
          · (intro w hSw; (try dsimp only at hSw); go_simp; try with_reducible rfl)
          try simp only [Act.put, List.setIfInBounds_toArray, List.set_cons_zero, List.set_cons_succ]
          refine wpAnyH_taken (i := 21) (d := some 6) (v := ?_) rfl rfl (by kernel_rfl) (by kernel_rfl) (by kernel_rfl) (fun _ _ _ h => h) (Or.inl ⟨by rfl, ?_⟩) (by first | assumption | exact HT.out _ hB) ?_
          rotate_left 1
          · (intro w hSw; (try dsimp only at hSw); go_simp; try with_reducible rfl)
          try simp only [Act.put, List.setIfInBounds_toArray, List.set_cons_zero, List.set_cons_succ]
          refine wpAnyH_done (by kernel_rfl) ?_ _
          replace b7 := Lib.hid (b7.out.below hB)
          replace b16 := Lib.hid (b16.out.below hB)
          replace b18 := Lib.hid (b18.out.below hB)
          replace hw := hw.trans (hB.mono hw.size)
          go_wp2_with fail
          go_ret
          exact ⟨rfl, hw⟩
        · (try simp only [List.getElem_toArray]); (try simp only [List.getElem_cons_succ]); (try simp only [List.getElem_cons_zero])
          go_simp
          have hbl := below_alloc wd1 (.cells #[.bool false, .slice none 0 0] 28)
          replace V7 := Lib.hid (V7.out.below hbl)
          replace V16 := Lib.hid (V16.out.below hbl)
          replace T5 := Lib.hid (T5.out.below hbl)
          have F18 := Lib.hid (Fx.new wd1 (.bool false) (.slice none 0 0) 28)
          have hge18 := hB.size
          replace hB := hB.alloc hB.size (.cells #[.bool false, .slice none 0 0] 28)
          refine hK.out _ _ (HT.out _ hB) (fun hHeldn => ?_)
          clear hK K hHeldn
          try simp only [Act.put, List.setIfInBounds_toArray, List.set_cons_zero, List.set_cons_succ]
          clear hbl
          generalize wd1.alloc (.cells #[.bool false, .slice none 0 0] 28) = wa18 at *
          generalize wd1.heap.size = ba18 at *
          refine wpAnyH_ready (rs := [2]) (by kernel_rfl) (by simp) ?_
          refine AllReadyH.cons rfl (fun K hK => ?_) AllReadyH.nil
          (try simp only [List.getElem_toArray]); (try simp only [List.getElem_cons_succ]); (try simp only [List.getElem_cons_zero])
          go_simp
          (go_at_call 38; refine (add_t _ _ r2 1 7 2 _ V16.out T5.out (by decide) (by decide)).mono ?_; rintro e wd2 ⟨⟨gt6, At6, nt6, ct6, rfl, hz⟩, hb⟩)
          replace F18 := Lib.hid (F18.out.below hb)
          replace V7 := Lib.hid (V7.out.below hb)
          replace V16 := Lib.hid (V16.out.below hb)
          replace T5 := Lib.hid (T5.out.below hb)
          replace hB := Below.trans hB (hb.mono hB.size)
          clear T5
          have T6 := Lib.hid hz
          refine hK.out _ _ (HT.out _ hB) (fun hHeldn => ?_)
          clear hK K hHeldn
          try simp only [Act.put, List.setIfInBounds_toArray, List.set_cons_zero, List.set_cons_succ]
          clear hb hz
          refine wpAnyH_ready (rs := [4]) (by kernel_rfl) (by simp) ?_
          refine AllReadyH.cons rfl (fun K hK => ?_) AllReadyH.nil
          (try simp only [List.getElem_toArray]); (try simp only [List.getElem_cons_succ]); (try simp only [List.getElem_cons_zero])
          obtain ⟨x0, x1, x2, x3, x4⟩ := F18.out
          go_simp
          have hBs := (hB.setCell (p := ⟨ba18, 0, none⟩) hge18 (.bool gt6)).setCell (p := ⟨ba18, 1, none⟩) hge18 (.slice At6 nt6 ct6)
          replace V7 := Lib.hid (V7.out.fx F18.out (.bool gt6) (.slice At6 nt6 ct6))
          replace V16 := Lib.hid (V16.out.fx F18.out (.bool gt6) (.slice At6 nt6 ct6))
          replace T6 := Lib.hid (T6.out.fx F18.out (.bool gt6) (.slice At6 nt6 ct6))
          replace F18 := Lib.hid (F18.out.store (.bool gt6) (.slice At6 nt6 ct6))
          clear x0 x1 x2 x3 x4 hB
          refine hK.out _ _ (HT.out _ hBs) (fun hHeldn => ?_)
          clear hK K hHeldn
          try simp only [Act.put, List.setIfInBounds_toArray, List.set_cons_zero, List.set_cons_succ]
          generalize (wd2.setCell ⟨ba18, 0, none⟩ (.bool gt6)).setCell ⟨ba18, 1, none⟩ (.slice At6 nt6 ct6) = ws18 at *
          have hB := hBs
          clear hBs
          refine wpAnyH_done (by kernel_rfl) ?_ _
          replace b7 := Lib.hid (b7.out.below hB)
          replace b16 := Lib.hid (b16.out.below hB)
          replace hw := hw.trans (hB.mono hw.size)
          have b18 := F18
          have V18 := T6
          clear F18 T6
          go_upto_region 15 with fail
          have HT := Lib.hid (fun (w' : World) (hb : Below ws18.heap.size ws18 w') => (show w'.cell? ⟨w3.heap.size, 0, none⟩ = some (.bool q0) ∧ w'.cell? ⟨w3.heap.size, 1, none⟩ = some (.slice B0 m0 e0) ∧ w'.cell? ⟨w8.heap.size, 0, none⟩ = some (.bool g17) ∧ w'.cell? ⟨w8.heap.size, 1, none⟩ = some (.slice A17 n17 d17) ∧ w'.cell? ⟨ba18, 0, none⟩ = some (.bool gt6) ∧ w'.cell? ⟨ba18, 1, none⟩ = some (.slice At6 nt6 ct6) ∧ Below ws18.heap.size ws18 w' from ⟨(b7.out.below hb).1, (b7.out.below hb).2.1, (b16.out.below hb).1, (b16.out.below hb).2.1, (b18.out.below hb).1, (b18.out.below hb).2.1, hb⟩))
          have hB := (Below.refl ws18.heap.size ws18).drew
          replace V7 := Lib.hid (V7.out.below hB)
          replace V16 := Lib.hid (V16.out.below hB)
          replace V18 := Lib.hid (V18.out.below hB)
          refine wp_region_held_drew (S := fun w' => w'.cell? ⟨w3.heap.size, 0, none⟩ = some (.bool q0) ∧ w'.cell? ⟨w3.heap.size, 1, none⟩ = some (.slice B0 m0 e0) ∧ w'.cell? ⟨w8.heap.size, 0, none⟩ = some (.bool g17) ∧ w'.cell? ⟨w8.heap.size, 1, none⟩ = some (.slice A17 n17 d17) ∧ w'.cell? ⟨ba18, 0, none⟩ = some (.bool gt6) ∧ w'.cell? ⟨ba18, 1, none⟩ = some (.slice At6 nt6 ct6) ∧ Below ws18.heap.size ws18 w') (by kernel_rfl) (HT.out _ hB) (fun hHeldn => ?_)
          clear hHeldn
          generalize ws18.drew = wr0 at *
          refine wpAnyH_taken (i := 0) (d := some 99) (v := ?_) rfl rfl (by kernel_rfl) (by kernel_rfl) (by kernel_rfl) (fun _ _ _ h => h) (Or.inl ⟨by rfl, ?_⟩) (by first | assumption | exact HT.out _ hB) ?_
          rotate_left 1
          · (intro w hSw; (try dsimp only at hSw); go_simp; try with_reducible rfl)
          try simp only [Act.put, List.setIfInBounds_toArray, List.set_cons_zero, List.set_cons_succ]
          refine wpAnyH_taken (i := 1) (d := some 100) (v := ?_) rfl rfl (by kernel_rfl) (by kernel_rfl) (by kernel_rfl) (fun _ _ _ h => h) (Or.inl ⟨by rfl, ?_⟩) (by first | assumption | exact HT.out _ hB) ?_
          rotate_left 1
          · (intro w hSw; (try dsimp only at hSw); go_simp; try with_reducible rfl)
          try simp only [Act.put, List.setIfInBounds_toArray, List.set_cons_zero, List.set_cons_succ]
          refine wpAnyH_taken (i := 2) (d := some 101) (v := ?_) rfl rfl (by kernel_rfl) (by kernel_rfl) (by kernel_rfl) (fun _ _ _ h => h) (Or.inl ⟨by rfl, ?_⟩) (by first | assumption | exact HT.out _ hB) ?_
          rotate_left 1
          · (intro w hSw; (try dsimp only at hSw); go_simp; try with_reducible rfl)
          try simp only [Act.put, List.setIfInBounds_toArray, List.set_cons_zero, List.set_cons_succ]
          refine wpAnyH_taken (i := 3) (d := some 102) (v := ?_) rfl rfl (by kernel_rfl) (by kernel_rfl) (by kernel_rfl) (fun _ _ _ h => h) (Or.inl ⟨by rfl, ?_⟩) (by first | assumption | exact HT.out _ hB) ?_
          rotate_left 1
          · (intro w hSw; (try dsimp only at hSw); go_simp; try with_reducible rfl)
          try simp only [Act.put, List.setIfInBounds_toArray, List.set_cons_zero, List.set_cons_succ]
          refine wpAnyH_taken (i := 4) (d := some 103) (v := ?_) rfl rfl (by kernel_rfl) (by kernel_rfl) (by kernel_rfl) (fun _ _ _ h => h) (Or.inl ⟨by rfl, ?_⟩) (by first | assumption | exact HT.out _ hB) ?_
          rotate_left 1
          · (intro w hSw; (try dsimp only at hSw); go_simp; try with_reducible rfl)
          try simp only [Act.put, List.setIfInBounds_toArray, List.set_cons_zero, List.set_cons_succ]
          refine wpAnyH_taken (i := 6) (d := some 105) (v := ?_) rfl rfl (by kernel_rfl) (by kernel_rfl) (by kernel_rfl) (fun _ _ _ h => h) (Or.inl ⟨by rfl, ?_⟩) (by first | assumption | exact HT.out _ hB) ?_
          rotate_left 1
          · (intro w hSw; (try dsimp only at hSw); go_simp; try with_reducible rfl)
          try simp only [Act.put, List.setIfInBounds_toArray, List.set_cons_zero, List.set_cons_succ]
          refine wpAnyH_ready (rs := [5]) (by kernel_rfl) (by simp) ?_
          refine AllReadyH.cons rfl (fun K hK => ?_) AllReadyH.nil
          (try simp only [List.getElem_toArray]); (try simp only [List.getElem_cons_succ]); (try simp only [List.getElem_cons_zero])
          go_simp
          (go_at_call 42; refine (mul_t _ _ r2 r2 7 7 _ V16.out V16.out (by decide) (by decide)).mono ?_; rintro e we1 ⟨⟨gt7, At7, nt7, ct7, rfl, hz⟩, hb⟩)
          replace V7 := Lib.hid (V7.out.below hb)
          replace V16 := Lib.hid (V16.out.below hb)
          replace V18 := Lib.hid (V18.out.below hb)
          replace hB := Below.trans hB (hb.mono hB.size)
          have T7 := Lib.hid hz
          refine hK.out _ _ (HT.out _ hB) (fun hHeldn => ?_)
          clear hK K hHeldn
          try simp only [Act.put, List.setIfInBounds_toArray, List.set_cons_zero, List.set_cons_succ]
          clear hb hz
          refine wpAnyH_ready (rs := [7]) (by kernel_rfl) (by simp) ?_
          refine AllReadyH.cons rfl (fun K hK => ?_) AllReadyH.nil
          (try simp only [List.getElem_toArray]); (try simp only [List.getElem_cons_succ]); (try simp only [List.getElem_cons_zero])
          go_simp
          (go_at_call 32; refine (cmp_int _ _ (r2 * r2) x (7 + 7) 6 _ T7.out V7.out (by decide) (by decide)).mono ?_; rintro e we2 ⟨rfl, hb⟩)
          obtain ⟨cc, hcc⟩ : ∃ cc, cmpI (r2 * r2) (x) = cc := ⟨_, rfl⟩
          rw [hcc]
          have hcs : cc ≤ 0 := by rw [← hcc]; exact cmp_le0 HIR.out.2.1
          clear hcc
          replace V7 := Lib.hid (V7.out.below hb)
          replace V16 := Lib.hid (V16.out.below hb)
          replace V18 := Lib.hid (V18.out.below hb)
          replace T7 := Lib.hid (T7.out.below hb)
          replace hB := Below.trans hB (hb.mono hB.size)
          clear T7
          refine hK.out _ _ (HT.out _ hB) (fun hHeldn => ?_)
          clear hK K hHeldn
          try simp only [Act.put, List.setIfInBounds_toArray, List.set_cons_zero, List.set_cons_succ]
          clear hb
          refine wpAnyH_taken (i := 8) (d := some 107) (v := ?_) rfl rfl (by kernel_rfl) (by kernel_rfl) (by kernel_rfl) (fun _ _ _ h => h) (Or.inl ⟨by rfl, ?_⟩) (by first | assumption | exact HT.out _ hB) ?_
          rotate_left 1
          · (intro w hSw; (try dsimp only at hSw); go_simp; try with_reducible rfl)
          try simp only [Act.put, List.setIfInBounds_toArray, List.set_cons_zero, List.set_cons_succ]
          refine wpAnyH_taken (i := 9) (d := some 108) (v := ?_) rfl rfl (by kernel_rfl) (by kernel_rfl) (by kernel_rfl) (fun _ _ _ h => h) (Or.inl ⟨by rfl, ?_⟩) (by first | assumption | exact HT.out _ hB) ?_
          rotate_left 1
          · (intro w hSw; (try dsimp only at hSw); go_simp; try with_reducible rfl)
          try simp only [Act.put, List.setIfInBounds_toArray, List.set_cons_zero, List.set_cons_succ]
          refine wpAnyH_taken (i := 10) (d := some 109) (v := ?_) rfl rfl (by kernel_rfl) (by kernel_rfl) (by kernel_rfl) (fun _ _ _ h => h) (Or.inl ⟨by rfl, ?_⟩) (by first | assumption | exact HT.out _ hB) ?_
          rotate_left 1
          · (intro w hSw; (try dsimp only at hSw); go_simp; try with_reducible rfl)
          try simp only [Act.put, List.setIfInBounds_toArray, List.set_cons_zero, List.set_cons_succ]
          refine wpAnyH_taken (i := 11) (d := some 110) (v := ?_) rfl rfl (by kernel_rfl) (by kernel_rfl) (by kernel_rfl) (fun _ _ _ h => h) (Or.inl ⟨by rfl, ?_⟩) (by first | assumption | exact HT.out _ hB) ?_
          rotate_left 1
          · (intro w hSw; (try dsimp only at hSw); go_simp; try with_reducible rfl)
          try simp only [Act.put, List.setIfInBounds_toArray, List.set_cons_zero, List.set_cons_succ]
          refine wpAnyH_taken (i := 12) (d := some 111) (v := ?_) rfl rfl (by kernel_rfl) (by kernel_rfl) (by kernel_rfl) (fun _ _ _ h => h) (Or.inl ⟨by rfl, ?_⟩) (by first | assumption | exact HT.out _ hB) ?_
          rotate_left 1
          · (intro w hSw; (try dsimp only at hSw); go_simp; try with_reducible rfl)
          try simp only [Act.put, List.setIfInBounds_toArray, List.set_cons_zero, List.set_cons_succ]
          refine wpAnyH_taken (i := 13) (d := some 112) (v := ?_) rfl rfl (by kernel_rfl) (by kernel_rfl) (by kernel_rfl) (fun _ _ _ h => h) (Or.inl ⟨by rfl, ?_⟩) (by first | assumption | exact HT.out _ hB) ?_
          rotate_left 1
          · (intro w hSw; (try dsimp only at hSw); go_simp; try with_reducible rfl)
          try simp only [Act.put, List.setIfInBounds_toArray, List.set_cons_zero, List.set_cons_succ]
          refine wpAnyH_ready (rs := [14]) (by kernel_rfl) (by simp) ?_
          refine AllReadyH.cons rfl (fun K hK => ?_) AllReadyH.nil
          (try simp only [List.getElem_toArray]); (try simp only [List.getElem_cons_succ]); (try simp only [List.getElem_cons_zero])
          go_simp
          (go_at_call 42; refine (mul_t _ _ (r2 + 1) (r2 + 1) (max 7 2 + 1) (max 7 2 + 1) _ V18.out V18.out (by decide) (by decide)).mono ?_; rintro e we3 ⟨⟨gt8, At8, nt8, ct8, rfl, hz⟩, hb⟩)
          replace V7 := Lib.hid (V7.out.below hb)
          replace V16 := Lib.hid (V16.out.below hb)
          replace V18 := Lib.hid (V18.out.below hb)
          replace hB := Below.trans hB (hb.mono hB.size)
          have T8 := Lib.hid hz
          refine hK.out _ _ (HT.out _ hB) (fun hHeldn => ?_)
          clear hK K hHeldn
          try simp only [Act.put, List.setIfInBounds_toArray, List.set_cons_zero, List.set_cons_succ]
          clear hb hz
          refine wpAnyH_ready (rs := [15]) (by kernel_rfl) (by simp) ?_
          refine AllReadyH.cons rfl (fun K hK => ?_) AllReadyH.nil
          (try simp only [List.getElem_toArray]); (try simp only [List.getElem_cons_succ]); (try simp only [List.getElem_cons_zero])
          go_simp
          (go_at_call 32; refine (cmp_int _ _ x ((r2 + 1) * (r2 + 1)) 6 (max 7 2 + 1 + (max 7 2 + 1)) _ V7.out T8.out (by decide) (by decide)).mono ?_; rintro e we4 ⟨rfl, hb⟩)
          obtain ⟨cc, hcc⟩ : ∃ cc, cmpI (x) ((r2 + 1) * (r2 + 1)) = cc := ⟨_, rfl⟩
          rw [hcc]
          have hcs : cc < 0 := by rw [← hcc]; rw [cmpI_lt HIR.out.2.2]; decide
          clear hcc
          replace V7 := Lib.hid (V7.out.below hb)
          replace V16 := Lib.hid (V16.out.below hb)
          replace V18 := Lib.hid (V18.out.below hb)
          replace T8 := Lib.hid (T8.out.below hb)
          replace hB := Below.trans hB (hb.mono hB.size)
          clear T8
          refine hK.out _ _ (HT.out _ hB) (fun hHeldn => ?_)
          clear hK K hHeldn
          try simp only [Act.put, List.setIfInBounds_toArray, List.set_cons_zero, List.set_cons_succ]
          clear hb
          refine wpAnyH_taken (i := 16) (d := some 115) (v := ?_) rfl rfl (by kernel_rfl) (by kernel_rfl) (by kernel_rfl) (fun _ _ _ h => h) (Or.inl ⟨by rfl, ?_⟩) (by first | assumption | exact HT.out _ hB) ?_
          rotate_left 1
          · (intro w hSw; (try dsimp only at hSw); go_simp; try with_reducible rfl)
          try simp only [Act.put, List.setIfInBounds_toArray, List.set_cons_zero, List.set_cons_succ]
          refine wpAnyH_taken (i := 17) (d := some 116) (v := ?_) rfl rfl (by kernel_rfl) (by kernel_rfl) (by kernel_rfl) (fun _ _ _ h => h) (Or.inl ⟨by rfl, ?_⟩) (by first | assumption | exact HT.out _ hB) ?_
          rotate_left 1
          · (intro w hSw; (try dsimp only at hSw); go_simp; try with_reducible rfl)
          try simp only [Act.put, List.setIfInBounds_toArray, List.set_cons_zero, List.set_cons_succ]
          refine wpAnyH_taken (i := 18) (d := some 117) (v := ?_) rfl rfl (by kernel_rfl) (by kernel_rfl) (by kernel_rfl) (fun _ _ _ h => h) (Or.inl ⟨by rfl, ?_⟩) (by first | assumption | exact HT.out _ hB) ?_
          rotate_left 1
          · (intro w hSw; (try dsimp only at hSw); go_simp; try with_reducible rfl)
          try simp only [Act.put, List.setIfInBounds_toArray, List.set_cons_zero, List.set_cons_succ]
          refine wpAnyH_ready (rs := [19]) (by kernel_rfl) (by simp) ?_
          refine AllReadyH.cons rfl (fun K hK => ?_) AllReadyH.nil
          (try simp only [List.getElem_toArray]); (try simp only [List.getElem_cons_succ]); (try simp only [List.getElem_cons_zero])
          go_simp
          (go_at_call 15; refine (awake_any _).mono ?_; rintro e we5 ⟨rfl, hb⟩)
          replace V7 := Lib.hid (V7.out.below hb)
          replace V16 := Lib.hid (V16.out.below hb)
          replace V18 := Lib.hid (V18.out.below hb)
          replace hB := Below.trans hB (hb.mono hB.size)
          refine hK.out _ _ (HT.out _ hB) (fun hHeldn => ?_)
          clear hK K hHeldn
          try simp only [Act.put, List.setIfInBounds_toArray, List.set_cons_zero, List.set_cons_succ]
          clear hb
          refine wpAnyH_taken (i := 20) (d := some 119) (v := ?_) rfl rfl (by kernel_rfl) (by kernel_rfl) (by kernel_rfl) (fun _ _ _ h => h) (Or.inl ⟨by rfl, ?_⟩) (by first | assumption | exact HT.out _ hB) ?_
          rotate_left 1
          · (intro w hSw; (try dsimp only at hSw); go_simp; try with_reducible rfl)
          try simp only [Act.put, List.setIfInBounds_toArray, List.set_cons_zero, List.set_cons_succ]
          refine wpAnyH_taken (i := 21) (d := some 6) (v := ?_) rfl rfl (by kernel_rfl) (by kernel_rfl) (by kernel_rfl) (fun _ _ _ h => h) (Or.inl ⟨by rfl, ?_⟩) (by first | assumption | exact HT.out _ hB) ?_
          rotate_left 1
          · (intro w hSw; (try dsimp only at hSw); go_simp; try with_reducible rfl)
          try simp only [Act.put, List.setIfInBounds_toArray, List.set_cons_zero, List.set_cons_succ]
          refine wpAnyH_done (by kernel_rfl) ?_ _
          replace b7 := Lib.hid (b7.out.below hB)
          replace b16 := Lib.hid (b16.out.below hB)
          replace b18 := Lib.hid (b18.out.below hB)
          replace hw := hw.trans (hB.mono hw.size)
          go_wp2_with fail
          go_ret
          exact ⟨rfl, hw⟩
      · (try simp only [List.getElem_toArray]); (try simp only [List.getElem_cons_succ]); (try simp only [List.getElem_cons_zero])
        go_simp
        have hbl := below_alloc wr0 (.cells #[.bool false, .slice none 0 0] 28)
        replace V7 := Lib.hid (V7.out.below hbl)
        replace V16 := Lib.hid (V16.out.below hbl)
        have F18 := Lib.hid (Fx.new wr0 (.bool false) (.slice none 0 0) 28)
        have hge18 := hB.size
        replace hB := hB.alloc hB.size (.cells #[.bool false, .slice none 0 0] 28)
        refine hK.out _ _ (HT.out _ hB) (fun hHeldn => ?_)
        clear hK K hHeldn
        try simp only [Act.put, List.setIfInBounds_toArray, List.set_cons_zero, List.set_cons_succ]
        clear hbl
        generalize wr0.alloc (.cells #[.bool false, .slice none 0 0] 28) = wa18 at *
        generalize wr0.heap.size = ba18 at *
        refine wpAnyH_ready (rs := [1]) (by kernel_rfl) (by simp) ?_
        refine AllReadyH.cons rfl (fun K hK => ?_) AllReadyH.nil
        (try simp only [List.getElem_toArray]); (try simp only [List.getElem_cons_succ]); (try simp only [List.getElem_cons_zero])
        go_simp
        (go_at_call 17; refine (new_t 1 _ (by decide) (by decide)).mono ?_; rintro e wd1 ⟨⟨gt5, At5, nt5, ct5, rfl, hz⟩, hb⟩)
        replace F18 := Lib.hid (F18.out.below hb)
        replace V7 := Lib.hid (V7.out.below hb)
        replace V16 := Lib.hid (V16.out.below hb)
        replace hB := Below.trans hB (hb.mono hB.size)
        have T5 := Lib.hid hz
        refine hK.out _ _ (HT.out _ hB) (fun hHeldn => ?_)
        clear hK K hHeldn
        try simp only [Act.put, List.setIfInBounds_toArray, List.set_cons_zero, List.set_cons_succ]
        clear hb hz
        refine wpAnyH_ready (rs := [2]) (by kernel_rfl) (by simp) ?_
        refine AllReadyH.cons rfl (fun K hK => ?_) AllReadyH.nil
        (try simp only [List.getElem_toArray]); (try simp only [List.getElem_cons_succ]); (try simp only [List.getElem_cons_zero])
        go_simp
        (go_at_call 38; refine (add_t _ _ r2 1 7 2 _ V16.out T5.out (by decide) (by decide)).mono ?_; rintro e wd2 ⟨⟨gt6, At6, nt6, ct6, rfl, hz⟩, hb⟩)
        replace F18 := Lib.hid (F18.out.below hb)
        replace V7 := Lib.hid (V7.out.below hb)
        replace V16 := Lib.hid (V16.out.below hb)
        replace T5 := Lib.hid (T5.out.below hb)
        replace hB := Below.trans hB (hb.mono hB.size)
        clear T5
        have T6 := Lib.hid hz
        refine hK.out _ _ (HT.out _ hB) (fun hHeldn => ?_)
        clear hK K hHeldn
        try simp only [Act.put, List.setIfInBounds_toArray, List.set_cons_zero, List.set_cons_succ]
        clear hb hz
        refine wpAnyH_ready (rs := [4]) (by kernel_rfl) (by simp) ?_
        refine AllReadyH.cons rfl (fun K hK => ?_) AllReadyH.nil
        (try simp only [List.getElem_toArray]); (try simp only [List.getElem_cons_succ]); (try simp only [List.getElem_cons_zero])
        obtain ⟨x0, x1, x2, x3, x4⟩ := F18.out
        go_simp
        have hBs := (hB.setCell (p := ⟨ba18, 0, none⟩) hge18 (.bool gt6)).setCell (p := ⟨ba18, 1, none⟩) hge18 (.slice At6 nt6 ct6)
        replace V7 := Lib.hid (V7.out.fx F18.out (.bool gt6) (.slice At6 nt6 ct6))
        replace V16 := Lib.hid (V16.out.fx F18.out (.bool gt6) (.slice At6 nt6 ct6))
        replace T6 := Lib.hid (T6.out.fx F18.out (.bool gt6) (.slice At6 nt6 ct6))
        replace F18 := Lib.hid (F18.out.store (.bool gt6) (.slice At6 nt6 ct6))
        clear x0 x1 x2 x3 x4 hB
        refine hK.out _ _ (HT.out _ hBs) (fun hHeldn => ?_)
        clear hK K hHeldn
        try simp only [Act.put, List.setIfInBounds_toArray, List.set_cons_zero, List.set_cons_succ]
        generalize (wd2.setCell ⟨ba18, 0, none⟩ (.bool gt6)).setCell ⟨ba18, 1, none⟩ (.slice At6 nt6 ct6) = ws18 at *
        have hB := hBs
        clear hBs
        refine wpAnyH_done (by kernel_rfl) ?_ _
        replace b7 := Lib.hid (b7.out.below hB)
        replace b16 := Lib.hid (b16.out.below hB)
        replace hw := hw.trans (hB.mono hw.size)
        have b18 := F18
        have V18 := T6
        clear F18 T6
        go_upto_region 15 with fail
        have HT := Lib.hid (fun (w' : World) (hb : Below ws18.heap.size ws18 w') => (show w'.cell? ⟨w3.heap.size, 0, none⟩ = some (.bool q0) ∧ w'.cell? ⟨w3.heap.size, 1, none⟩ = some (.slice B0 m0 e0) ∧ w'.cell? ⟨w8.heap.size, 0, none⟩ = some (.bool g17) ∧ w'.cell? ⟨w8.heap.size, 1, none⟩ = some (.slice A17 n17 d17) ∧ w'.cell? ⟨ba18, 0, none⟩ = some (.bool gt6) ∧ w'.cell? ⟨ba18, 1, none⟩ = some (.slice At6 nt6 ct6) ∧ Below ws18.heap.size ws18 w' from ⟨(b7.out.below hb).1, (b7.out.below hb).2.1, (b16.out.below hb).1, (b16.out.below hb).2.1, (b18.out.below hb).1, (b18.out.below hb).2.1, hb⟩))
        have hB := (Below.refl ws18.heap.size ws18).drew
        replace V7 := Lib.hid (V7.out.below hB)
        replace V16 := Lib.hid (V16.out.below hB)
        replace V18 := Lib.hid (V18.out.below hB)
        refine wp_region_held_drew (S := fun w' => w'.cell? ⟨w3.heap.size, 0, none⟩ = some (.bool q0) ∧ w'.cell? ⟨w3.heap.size, 1, none⟩ = some (.slice B0 m0 e0) ∧ w'.cell? ⟨w8.heap.size, 0, none⟩ = some (.bool g17) ∧ w'.cell? ⟨w8.heap.size, 1, none⟩ = some (.slice A17 n17 d17) ∧ w'.cell? ⟨ba18, 0, none⟩ = some (.bool gt6) ∧ w'.cell? ⟨ba18, 1, none⟩ = some (.slice At6 nt6 ct6) ∧ Below ws18.heap.size ws18 w') (by kernel_rfl) (HT.out _ hB) (fun hHeldn => ?_)
        clear hHeldn
        generalize ws18.drew = wr0 at *
        refine wpAnyH_taken (i := 0) (d := some 99) (v := ?_) rfl rfl (by kernel_rfl) (by kernel_rfl) (by kernel_rfl) (fun _ _ _ h => h) (Or.inl ⟨by rfl, ?_⟩) (by first | assumption | exact HT.out _ hB) ?_
        rotate_left 1
        · (intro w hSw; (try dsimp only at hSw); go_simp; try with_reducible rfl)
        try simp only [Act.put, List.setIfInBounds_toArray, List.set_cons_zero, List.set_cons_succ]
        refine wpAnyH_taken (i := 1) (d := some 100) (v := ?_) rfl rfl (by kernel_rfl) (by kernel_rfl) (by kernel_rfl) (fun _ _ _ h => h) (Or.inl ⟨by rfl, ?_⟩) (by first | assumption | exact HT.out _ hB) ?_
        rotate_left 1
        · (intro w hSw; (try dsimp only at hSw); go_simp; try with_reducible rfl)
        try simp only [Act.put, List.setIfInBounds_toArray, List.set_cons_zero, List.set_cons_succ]
        refine wpAnyH_taken (i := 2) (d := some 101) (v := ?_) rfl rfl (by kernel_rfl) (by kernel_rfl) (by kernel_rfl) (fun _ _ _ h => h) (Or.inl ⟨by rfl, ?_⟩) (by first | assumption | exact HT.out _ hB) ?_
        rotate_left 1
        · (intro w hSw; (try dsimp only at hSw); go_simp; try with_reducible rfl)
        try simp only [Act.put, List.setIfInBounds_toArray, List.set_cons_zero, List.set_cons_succ]
        refine wpAnyH_taken (i := 3) (d := some 102) (v := ?_) rfl rfl (by kernel_rfl) (by kernel_rfl) (by kernel_rfl) (fun _ _ _ h => h) (Or.inl ⟨by rfl, ?_⟩) (by first | assumption | exact HT.out _ hB) ?_
        rotate_left 1
        · (intro w hSw; (try dsimp only at hSw); go_simp; try with_reducible rfl)
        try simp only [Act.put, List.setIfInBounds_toArray, List.set_cons_zero, List.set_cons_succ]
        refine wpAnyH_taken (i := 4) (d := some 103) (v := ?_) rfl rfl (by kernel_rfl) (by kernel_rfl) (by kernel_rfl) (fun _ _ _ h => h) (Or.inl ⟨by rfl, ?_⟩) (by first | assumption | exact HT.out _ hB) ?_
        rotate_left 1
        · (intro w hSw; (try dsimp only at hSw); go_simp; try with_reducible rfl)
        try simp only [Act.put, List.setIfInBounds_toArray, List.set_cons_zero, List.set_cons_succ]
        refine wpAnyH_taken (i := 6) (d := some 105) (v := ?_) rfl rfl (by kernel_rfl) (by kernel_rfl) (by kernel_rfl) (fun _ _ _ h => h) (Or.inl ⟨by rfl, ?_⟩) (by first | assumption | exact HT.out _ hB) ?_
        rotate_left 1
        · (intro w hSw; (try dsimp only at hSw); go_simp; try with_reducible rfl)
        try simp only [Act.put, List.setIfInBounds_toArray, List.set_cons_zero, List.set_cons_succ]
        refine wpAnyH_ready (rs := [5]) (by kernel_rfl) (by simp) ?_
        refine AllReadyH.cons rfl (fun K hK => ?_) AllReadyH.nil
        (try simp only [List.getElem_toArray]); (try simp only [List.getElem_cons_succ]); (try simp only [List.getElem_cons_zero])
        go_simp
        (go_at_call 42; refine (mul_t _ _ r2 r2 7 7 _ V16.out V16.out (by decide) (by decide)).mono ?_; rintro e we1 ⟨⟨gt7, At7, nt7, ct7, rfl, hz⟩, hb⟩)
        replace V7 := Lib.hid (V7.out.below hb)
        replace V16 := Lib.hid (V16.out.below hb)
        replace V18 := Lib.hid (V18.out.below hb)
        replace hB := Below.trans hB (hb.mono hB.size)
        have T7 := Lib.hid hz
        refine hK.out _ _ (HT.out _ hB) (fun hHeldn => ?_)
        clear hK K hHeldn
        try simp only [Act.put, List.setIfInBounds_toArray, List.set_cons_zero, List.set_cons_succ]
        clear hb hz
        refine wpAnyH_ready (rs := [7]) (by kernel_rfl) (by simp) ?_
        refine AllReadyH.cons rfl (fun K hK => ?_) AllReadyH.nil
        (try simp only [List.getElem_toArray]); (try simp only [List.getElem_cons_succ]); (try simp only [List.getElem_cons_zero])
        go_simp
        (go_at_call 32; refine (cmp_int _ _ (r2 * r2) x (7 + 7) 6 _ T7.out V7.out (by decide) (by decide)).mono ?_; rintro e we2 ⟨rfl, hb⟩)
        obtain ⟨cc, hcc⟩ : ∃ cc, cmpI (r2 * r2) (x) = cc := ⟨_, rfl⟩
        rw [hcc]
        have hcs : cc ≤ 0 := by rw [← hcc]; exact cmp_le0 HIR.out.2.1
        clear hcc
        replace V7 := Lib.hid (V7.out.below hb)
        replace V16 := Lib.hid (V16.out.below hb)
        replace V18 := Lib.hid (V18.out.below hb)
        replace T7 := Lib.hid (T7.out.below hb)
        replace hB := Below.trans hB (hb.mono hB.size)
        clear T7
        refine hK.out _ _ (HT.out _ hB) (fun hHeldn => ?_)
        clear hK K hHeldn
        try simp only [Act.put, List.setIfInBounds_toArray, List.set_cons_zero, List.set_cons_succ]
        clear hb
        refine wpAnyH_taken (i := 8) (d := some 107) (v := ?_) rfl rfl (by kernel_rfl) (by kernel_rfl) (by kernel_rfl) (fun _ _ _ h => h) (Or.inl ⟨by rfl, ?_⟩) (by first | assumption | exact HT.out _ hB) ?_
        rotate_left 1
        · (intro w hSw; (try dsimp only at hSw); go_simp; try with_reducible rfl)
        try simp only [Act.put, List.setIfInBounds_toArray, List.set_cons_zero, List.set_cons_succ]
        refine wpAnyH_taken (i := 9) (d := some 108) (v := ?_) rfl rfl (by kernel_rfl) (by kernel_rfl) (by kernel_rfl) (fun _ _ _ h => h) (Or.inl ⟨by rfl, ?_⟩) (by first | assumption | exact HT.out _ hB) ?_
        rotate_left 1
        · (intro w hSw; (try dsimp only at hSw); go_simp; try with_reducible rfl)
        try simp only [Act.put, List.setIfInBounds_toArray, List.set_cons_zero, List.set_cons_succ]
        refine wpAnyH_taken (i := 10) (d := some 109) (v := ?_) rfl rfl (by kernel_rfl) (by kernel_rfl) (by kernel_rfl) (fun _ _ _ h => h) (Or.inl ⟨by rfl, ?_⟩) (by first | assumption | exact HT.out _ hB) ?_
        rotate_left 1
        · (intro w hSw; (try dsimp only at hSw); go_simp; try with_reducible rfl)
        try simp only [Act.put, List.setIfInBounds_toArray, List.set_cons_zero, List.set_cons_succ]
        refine wpAnyH_taken (i := 11) (d := some 110) (v := ?_) rfl rfl (by kernel_rfl) (by kernel_rfl) (by kernel_rfl) (fun _ _ _ h => h) (Or.inl ⟨by rfl, ?_⟩) (by first | assumption | exact HT.out _ hB) ?_
        rotate_left 1
        · (intro w hSw; (try dsimp only at hSw); go_simp; try with_reducible rfl)
        try simp only [Act.put, List.setIfInBounds_toArray, List.set_cons_zero, List.set_cons_succ]
        refine wpAnyH_taken (i := 12) (d := some 111) (v := ?_) rfl rfl (by kernel_rfl) (by kernel_rfl) (by kernel_rfl) (fun _ _ _ h => h) (Or.inl ⟨by rfl, ?_⟩) (by first | assumption | exact HT.out _ hB) ?_
        rotate_left 1
        · (intro w hSw; (try dsimp only at hSw); go_simp; try with_reducible rfl)
        try simp only [Act.put, List.setIfInBounds_toArray, List.set_cons_zero, List.set_cons_succ]
        refine wpAnyH_taken (i := 13) (d := some 112) (v := ?_) rfl rfl (by kernel_rfl) (by kernel_rfl) (by kernel_rfl) (fun _ _ _ h => h) (Or.inl ⟨by rfl, ?_⟩) (by first | assumption | exact HT.out _ hB) ?_
        rotate_left 1
        · (intro w hSw; (try dsimp only at hSw); go_simp; try with_reducible rfl)
        try simp only [Act.put, List.setIfInBounds_toArray, List.set_cons_zero, List.set_cons_succ]
        refine wpAnyH_ready (rs := [14]) (by kernel_rfl) (by simp) ?_
        refine AllReadyH.cons rfl (fun K hK => ?_) AllReadyH.nil
        (try simp only [List.getElem_toArray]); (try simp only [List.getElem_cons_succ]); (try simp only [List.getElem_cons_zero])
        go_simp
        (go_at_call 42; refine (mul_t _ _ (r2 + 1) (r2 + 1) (max 7 2 + 1) (max 7 2 + 1) _ V18.out V18.out (by decide) (by decide)).mono ?_; rintro e we3 ⟨⟨gt8, At8, nt8, ct8, rfl, hz⟩, hb⟩)
        replace V7 := Lib.hid (V7.out.below hb)
        replace V16 := Lib.hid (V16.out.below hb)
        replace V18 := Lib.hid (V18.out.below hb)
        replace hB := Below.trans hB (hb.mono hB.size)
        have T8 := Lib.hid hz
        refine hK.out _ _ (HT.out _ hB) (fun hHeldn => ?_)
        clear hK K hHeldn
        try simp only [Act.put, List.setIfInBounds_toArray, List.set_cons_zero, List.set_cons_succ]
        clear hb hz
        refine wpAnyH_ready (rs := [15]) (by kernel_rfl) (by simp) ?_
        refine AllReadyH.cons rfl (fun K hK => ?_) AllReadyH.nil
        (try simp only [List.getElem_toArray]); (try simp only [List.getElem_cons_succ]); (try simp only [List.getElem_cons_zero])
        go_simp
        (go_at_call 32; refine (cmp_int _ _ x ((r2 + 1) * (r2 + 1)) 6 (max 7 2 + 1 + (max 7 2 + 1)) _ V7.out T8.out (by decide) (by decide)).mono ?_; rintro e we4 ⟨rfl, hb⟩)
        obtain ⟨cc, hcc⟩ : ∃ cc, cmpI (x) ((r2 + 1) * (r2 + 1)) = cc := ⟨_, rfl⟩
        rw [hcc]
        have hcs : cc < 0 := by rw [← hcc]; rw [cmpI_lt HIR.out.2.2]; decide
        clear hcc
        replace V7 := Lib.hid (V7.out.below hb)
        replace V16 := Lib.hid (V16.out.below hb)
        replace V18 := Lib.hid (V18.out.below hb)
        replace T8 := Lib.hid (T8.out.below hb)
        replace hB := Below.trans hB (hb.mono hB.size)
        clear T8
        refine hK.out _ _ (HT.out _ hB) (fun hHeldn => ?_)
        clear hK K hHeldn
        try simp only [Act.put, List.setIfInBounds_toArray, List.set_cons_zero, List.set_cons_succ]
        clear hb
        refine wpAnyH_taken (i := 16) (d := some 115) (v := ?_) rfl rfl (by kernel_rfl) (by kernel_rfl) (by kernel_rfl) (fun _ _ _ h => h) (Or.inl ⟨by rfl, ?_⟩) (by first | assumption | exact HT.out _ hB) ?_
        rotate_left 1
        · (intro w hSw; (try dsimp only at hSw); go_simp; try with_reducible rfl)
        try simp only [Act.put, List.setIfInBounds_toArray, List.set_cons_zero, List.set_cons_succ]
        refine wpAnyH_taken (i := 17) (d := some 116) (v := ?_) rfl rfl (by kernel_rfl) (by kernel_rfl) (by kernel_rfl) (fun _ _ _ h => h) (Or.inl ⟨by rfl, ?_⟩) (by first | assumption | exact HT.out _ hB) ?_
        rotate_left 1
        · (intro w hSw; (try dsimp only at hSw); go_simp; try with_reducible rfl)
        try simp only [Act.put, List.setIfInBounds_toArray, List.set_cons_zero, List.set_cons_succ]
        refine wpAnyH_taken (i := 18) (d := some 117) (v := ?_) rfl rfl (by kernel_rfl) (by kernel_rfl) (by kernel_rfl) (fun _ _ _ h => h) (Or.inl ⟨by rfl, ?_⟩) (by first | assumption | exact HT.out _ hB) ?_
        rotate_left 1
        · (intro w hSw; (try dsimp only at hSw); go_simp; try with_reducible rfl)
        try simp only [Act.put, List.setIfInBounds_toArray, List.set_cons_zero, List.set_cons_succ]
        refine wpAnyH_ready (rs := [19]) (by kernel_rfl) (by simp) ?_
        refine AllReadyH.cons rfl (fun K hK => ?_) AllReadyH.nil
        (try simp only [List.getElem_toArray]); (try simp only [List.getElem_cons_succ]); (try simp only [List.getElem_cons_zero])
        go_simp
        (go_at_call 15; refine (awake_any _).mono ?_; rintro e we5 ⟨rfl, hb⟩)
        replace V7 := Lib.hid (V7.out.below hb)
        replace V16 := Lib.hid (V16.out.below hb)
        replace V18 := Lib.hid (V18.out.below hb)
        replace hB := Below.trans hB (hb.mono hB.size)
        refine hK.out _ _ (HT.out _ hB) (fun hHeldn => ?_)
        clear hK K hHeldn
        try simp only [Act.put, List.setIfInBounds_toArray, List.set_cons_zero, List.set_cons_succ]
        clear hb
        refine wpAnyH_taken (i := 20) (d := some 119) (v := ?_) rfl rfl (by kernel_rfl) (by kernel_rfl) (by kernel_rfl) (fun _ _ _ h => h) (Or.inl ⟨by rfl, ?_⟩) (by first | assumption | exact HT.out _ hB) ?_
        rotate_left 1
        · (intro w hSw; (try dsimp only at hSw); go_simp; try with_reducible rfl)
        try simp only [Act.put, List.setIfInBounds_toArray, List.set_cons_zero, List.set_cons_succ]
        refine wpAnyH_taken (i := 21) (d := some 6) (v := ?_) rfl rfl (by kernel_rfl) (by kernel_rfl) (by kernel_rfl) (fun _ _ _ h => h) (Or.inl ⟨by rfl, ?_⟩) (by first | assumption | exact HT.out _ hB) ?_
        rotate_left 1
        · (intro w hSw; (try dsimp only at hSw); go_simp; try with_reducible rfl)
        try simp only [Act.put, List.setIfInBounds_toArray, List.set_cons_zero, List.set_cons_succ]
        refine wpAnyH_done (by kernel_rfl) ?_ _
        replace b7 := Lib.hid (b7.out.below hB)
        replace b16 := Lib.hid (b16.out.below hB)
        replace b18 := Lib.hid (b18.out.below hB)
        replace hw := hw.trans (hB.mono hw.size)
        go_wp2_with fail
        go_ret
        exact ⟨rfl, hw⟩

end Go.Proofs.Ytoanomgdkkbbmaa
