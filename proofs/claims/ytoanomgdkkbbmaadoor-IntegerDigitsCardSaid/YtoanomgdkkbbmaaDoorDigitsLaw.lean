/- IntegerDigits: the walk. -/
import Derived.Test.YtoanomgdkkbbmaaDoorDigMath
import Derived.Test.YtoanomgdkkbbmaaDoorStrs
import Derived.Test.YtoanomgdkkbbmaaDoorMadeKit
namespace Go.Proofs.YtoanomgdkkbbmaaDoor
open Go.RowKit LM

theorem ival_lt {w : World} {u : Value} {x : Int} {L : Nat} (h : Ival w u x L) : (if x < 0 then -x else x) < BB ^ L := by
  obtain ⟨neg, s, a, rfl, hn, h0, rfl, hz⟩ := h
  have h1 := hn.lt
  cases neg with
  | true => have := hz rfl; simp only [withSign, if_true]; rw [if_pos (by omega)]; omega
  | false => simp only [withSign, Bool.false_eq_true, if_false]; rw [if_neg (by omega)]; exact h1

theorem parse1 {R x z r : Int} {ds : List Int} {T : ByteArray} (h : TextOf R x ds T) (h0 : 2 ≤ R) (h1 : R ≤ 36) (hp : ParseRel R (bs T) z r) : x = z ∧ 0 = r := by
  suffices hs : z = x ∧ r = 0 from ⟨hs.1.symm, hs.2.symm⟩
  obtain ⟨hd, hv, hne, hl, ht⟩ := h
  have hf : ∀ d ∈ ds, digVal 99 (nameOf d) = d := fun d hm => digVal_name (hd d hm).1 (by have := (hd d hm).2; omega)
  have hh := body_head h1 hd hne 0
  by_cases hx : x < 0
  · refine parse_back (s := [45]) (m := 0) h0 h1 hd hv hne hf (.inl ⟨rfl, hx⟩) ?_ hp
    rw [ht, decide_eq_true hx]; rfl
  · refine parse_back (s := []) (m := 0) h0 h1 hd hv hne hf (.inr (.inr ⟨rfl, hx, by omega, by omega, rfl⟩)) ?_ hp
    rw [ht, decide_eq_false hx]; rfl

theorem list_ne {a : ByteArray} (h : a ≠ ⟨#[48]⟩) : ¬ a.toList = [48] := by
  intro e
  rw [ByteArray.toList_eq] at e
  exact h (bs_inj (by unfold bs; rw [e]))

theorem prefix_b (S : ByteArray) (c : UInt8) (r : Bool) (w : World) (h : Lib.hasPrefix S.data.toList [c] = r) :
    Calls Tryd.prog 14 #[.string S, .string ⟨#[c]⟩] w fun e w' => e = .returned (.bool r) ∧ Below w.heap.size w w' :=
  (Tryd.strings_HasPrefix S ⟨#[c]⟩ w).mono fun _ _ ⟨he, hw⟩ => ⟨by rw [he, ← h], hw ▸ Below.refl _ _⟩

theorem parse2 {R x z r : Int} {m : Nat} {ds s cs : List Int} {T : ByteArray} (h : TextOf R x ds T) (h0 : 2 ≤ R) (h1 : R ≤ 36) (hs : s = [45] ∧ x < 0 ∨ s = [43] ∧ ¬ x < 0)
    (hc : cs = s ++ List.replicate m 48 ++ ((ds.map nameOf).reverse).map lowI) (hp : ParseRel R cs z r) : x = z ∧ 0 = r := by
  suffices hs : z = x ∧ r = 0 from ⟨hs.1.symm, hs.2.symm⟩
  obtain ⟨hd, hv, hne, hl, ht⟩ := h
  have hf : ∀ d ∈ ds, digVal 99 ((fun d => lowI (nameOf d)) d) = d := fun d hm => digVal_low (hd d hm).1 (by have := (hd d hm).2; omega)
  refine parse_back (s := s) (m := m) (f := fun d => lowI (nameOf d)) h0 h1 hd hv hne hf (hs.elim .inl (fun h => .inr (.inl h))) ?_ hp
  rw [hc, List.append_assoc, List.map_reverse, List.map_map]; rfl

set_option maxRecDepth 100000 in
set_option maxHeartbeats 80000000 in
theorem digits_any (p : Bool) (A : Option Addr) (n c : Nat) (xs : List Int) (m1 n1 : Nat) (w : World) (h : Row .u32 w A n c xs) (hd : Dig xs) (hm1 : m1 ≤ 255) (hn1 : n1 ≤ 255) :
    Calls Tryd.prog 3 #[.agg #[.bool p, .slice A n c], .int .u8 m1, .int .u8 n1] w fun e w' => e = .returned (.bool true) ∧ Below w.heap.size w w' := by
  have hW := below_alloc w (.cells #[.bool p, .slice A n c] 24)
  have HH := Lib.hid h
  have HD := Lib.hid hd
  clear h hd
  have bx := Lib.hid (Fx.new w (.bool p) (.slice A n c) 24)
  obtain ⟨k, hk0⟩ : ∃ k : Int, 2 + (m1 : Int) % 35 = k := ⟨_, rfl⟩
  obtain ⟨z, hz0⟩ : ∃ z : Nat, n1 % 20 = z := ⟨_, rfl⟩
  have hk2 : 2 ≤ k := by omega
  have hk36 : k ≤ 36 := by omega
  have hz20 : z < 20 := by omega
  have HK := Lib.hid hk0
  have HZ := Lib.hid (show (n1 : Int) % 20 = (z : Int) by omega)
  clear hk0 hz0
  go_enter Tryd.func3, Tryd.ntmps3
  go_wp2_with fail
  refine (short_any _ 1 [n] 8 _ (lens1 _ (by simp) p A n c) (by omega)).mono ?_
  rintro e w1 ⟨rfl, hb⟩
  have hk := (below_alloc (w.alloc (.cells #[.bool p, .slice A n c] 24)) (.cells #[.bool p, .slice A n c] 24)).trans (hb.mono (by simp))
  have hw := hW.trans (hk.mono hW.size)
  replace bx := Lib.hid (bx.out.below hk)
  clear hk hb hW
  cases ht : tooLong [n] 8 with
  | true =>
    go_wp2_with fail
    refine (awake_any _).mono ?_
    rintro e wz ⟨rfl, hb⟩
    go_wp2
    go_ret
    exact ⟨rfl, hw.trans (hb.mono hw.size)⟩
  | false =>
    have hn : n ≤ 8 := by simp [tooLong] at ht; omega
    clear ht
    obtain ⟨cxa, cxb, -, -, -⟩ := bx.out
    have HGV := Lib.hid (given1 (p0 := p) HH.out HD.out hn hw rfl)
    go_wp2_with fail
    refine (made_any _ 1 8 _ _ HGV.out (by omega) (by omega)).mono ?_
    rintro e w3 ⟨v, vs, rfl, hints, hb⟩
    obtain ⟨x, hx⟩ : ∃ x, withSign p (val xs) = x := ⟨_, rfl⟩
    rw [hx] at hints
    obtain ⟨g, cc, q0, B0, m0, e0, rfl, hg1, ⟨k0, k1⟩, hvx⟩ := ints1 hints
    have hb2 := (below_alloc w1 (.cells #[.bool p, .slice A n c] 24)).trans (hb.mono (by simp))
    replace hw := hw.trans (hb2.mono hw.size)
    clear cxa cxb HGV hints hx HH HD bx hb hb2
    have hge7 : w.heap.size ≤ w3.heap.size := hw.size
    have hX := below_alloc w3 (.cells #[.bool q0, .slice B0 m0 e0] 28)
    replace hw := hw.trans (hX.mono hw.size)
    have b7 := Lib.hid (Fx.new w3 (.bool q0) (.slice B0 m0 e0) 28)
    have V7 := Lib.hid (hvx.below hX)
    clear hX hvx
    have ek := HK.out
    go_wp2_with fail
    clear k0 k1 ek
    refine (Text_all _ x k 8 _ V7.out (by decide)).mono ?_
    rintro e w4 ⟨⟨T, r1, rfl, ht1⟩, hb⟩
    obtain ⟨rfl, ds, hto⟩ := ht1.of hk2 hk36
    have HTR := Lib.hid ht1
    have HTO := Lib.hid hto
    clear ht1 hto
    have hlen := HTO.out.len hk2 (ival_lt V7.out) (by decide)
    have htb := HTO.out.2.2.2.2
    obtain ⟨htd, htp⟩ := HTO.out.parts hk36
    have hts : T.size ≤ 258 := by rw [← bs_length, htb]; unfold textBytes; rw [List.length_append, List.length_reverse, List.length_map]; split <;> simp <;> omega
    replace b7 := Lib.hid (b7.out.below hb)
    replace V7 := Lib.hid (V7.out.below hb)
    replace hw := hw.trans (hb.mono hw.size)
    clear hb
    go_wp2_with fail
    refine (Parse_any T k _ (by omega)).mono ?_
    rintro e w5 ⟨g11, A11, n11, d11, z3, r3, rfl, hv3, hp3, hb⟩
    obtain ⟨rfl, rfl⟩ := parse1 HTO.out hk2 hk36 hp3
    clear hp3
    replace b7 := Lib.hid (b7.out.below hb)
    replace V7 := Lib.hid (V7.out.below hb)
    replace hw := hw.trans (hb.mono hw.size)
    have hX := below_alloc w5 (.cells #[.bool g11, .slice A11 n11 d11] 28)
    replace b7 := Lib.hid (b7.out.below hX)
    replace V7 := Lib.hid (V7.out.below hX)
    replace hw := hw.trans (hX.mono hw.size)
    have b11 := Lib.hid (Fx.new w5 (.bool g11) (.slice A11 n11 d11) 28)
    have V11 := Lib.hid (hv3.below hX)
    clear hX hb hv3
    go_wp2_with fail
    refine (Tryd.strings_TrimPrefix T ⟨#[45]⟩ _).mono ?_
    rintro e w6 ⟨rfl, rfl⟩
    obtain ⟨D, hD⟩ : ∃ D : ByteArray, (⟨(Lib.trimPrefix T.data.toList [45]).toArray⟩ : ByteArray) = D := ⟨_, rfl⟩
    rw [hD] at htd
    skip
    rw [show (⟨#[45]⟩ : ByteArray).data.toList = [45] from rfl, hD]
    clear hD
    obtain ⟨c7a, c7b, c7f, c7g, c7s⟩ := b7.out
    go_wp2_with fail
    refine (sign_int _ x 8 _ V7.out).mono ?_
    rintro e w7 ⟨rfl, hb⟩
    clear c7a c7b c7f c7g c7s
    replace b7 := Lib.hid (b7.out.below hb)
    replace V7 := Lib.hid (V7.out.below hb)
    replace b11 := Lib.hid (b11.out.below hb)
    replace V11 := Lib.hid (V11.out.below hb)
    replace hw := hw.trans (hb.mono hw.size)
    clear hb
    by_cases hx : x < 0
    · skip
      have hcm : cmpI x 0 < 0 := by rw [cmpI_lt hx]; decide
      have ez := HZ.out
      go_wp2_with fail
      refine (Tryd.strings_Repeat ⟨#[48]⟩ z _ (by omega) (by show 1 * z ≤ _; omega)).mono ?_
      rintro e w8 ⟨rfl, hb⟩
      have hzb := repeat_bs z
      rw [show (⟨#[48]⟩ : ByteArray).data.toList = [48] from rfl]
      generalize (⟨(Lib.repeatL [48] z).toArray⟩ : ByteArray) = Z at *
      have hzs : Z.size = z := by rw [← bs_length, hzb, List.length_replicate]
      replace b7 := Lib.hid (b7.out.below hb)
      replace V7 := Lib.hid (V7.out.below hb)
      replace b11 := Lib.hid (b11.out.below hb)
      replace V11 := Lib.hid (V11.out.below hb)
      replace hw := hw.trans (hb.mono hw.size)
      clear hb
      have hc1 : ∀ w0 : World, (Op.stringOp .add ⟨#[45]⟩ Z).run Tryd.prog w0 = _ := fun w0 => run_string_add_sum (P := Tryd.prog) w0 ⟨#[45]⟩ Z (by show 1 + _ ≤ _; omega)
      go_wp2_with fail
      refine (Tryd.strings_ToLower_ascii D _ (by rw [← bs_length, htd, List.length_reverse, List.length_map]; omega) (name_ascii hk36 HTO.out.1 htd)).mono ?_
      rintro e w9 ⟨rfl, hb⟩
      have heb := lower_bs D
      rw [htd] at heb
      generalize (⟨(Lib.toLowerA D.data.toList).toArray⟩ : ByteArray) = E at *
      have hes : E.size = ds.length := by rw [← bs_length, heb, List.length_map, List.length_reverse, List.length_map]
      replace b7 := Lib.hid (b7.out.below hb)
      replace V7 := Lib.hid (V7.out.below hb)
      replace b11 := Lib.hid (b11.out.below hb)
      replace V11 := Lib.hid (V11.out.below hb)
      replace hw := hw.trans (hb.mono hw.size)
      clear hb
      have hc2 : ∀ w0 : World, (Op.stringOp .add (⟨#[45]⟩ ++ Z) E).run Tryd.prog w0 = _ := fun w0 => run_string_add_sum (P := Tryd.prog) w0 (⟨#[45]⟩ ++ Z) E (by rw [ByteArray.size_append]; show 1 + _ + _ ≤ _; omega)
      go_wp2_with fail
      have hqb : bs ((⟨#[45]⟩ : ByteArray) ++ Z ++ E) = [45] ++ List.replicate z 48 ++ ((ds.map nameOf).reverse).map lowI := by rw [bs_append, bs_append, hzb, heb]; rfl
      have hqs : ((⟨#[45]⟩ : ByteArray) ++ Z ++ E).size ≤ 300 := by rw [ByteArray.size_append, ByteArray.size_append, hzs, hes, show (⟨#[45]⟩ : ByteArray).size = 1 from rfl]; omega
      clear hc1 hc2
      generalize ((⟨#[45]⟩ : ByteArray) ++ Z ++ E) = Q at *
      refine (Parse_any Q k _ (by omega)).mono ?_
      rintro e w10 ⟨g15, A15, n15, d15, z4, r4, rfl, hv4, hp4, hb⟩
      obtain ⟨rfl, rfl⟩ := parse2 (s := [45]) HTO.out hk2 hk36 (.inl ⟨rfl, hx⟩) hqb hp4
      clear hp4 hzb heb hqb
      replace b7 := Lib.hid (b7.out.below hb)
      replace V7 := Lib.hid (V7.out.below hb)
      replace b11 := Lib.hid (b11.out.below hb)
      replace V11 := Lib.hid (V11.out.below hb)
      replace hw := hw.trans (hb.mono hw.size)
      have hX := below_alloc w10 (.cells #[.bool g15, .slice A15 n15 d15] 28)
      replace b7 := Lib.hid (b7.out.below hX)
      replace V7 := Lib.hid (V7.out.below hX)
      replace b11 := Lib.hid (b11.out.below hX)
      replace V11 := Lib.hid (V11.out.below hX)
      replace hw := hw.trans (hX.mono hw.size)
      have b15 := Lib.hid (Fx.new w10 (.bool g15) (.slice A15 n15 d15) 28)
      have V15 := Lib.hid (hv4.below hX)
      clear hX hb hv4
      go_wp2_with fail
      refine (Text_all _ x k 20000 _ V15.out (by decide)).mono ?_
      rintro e w11 ⟨⟨T2, r5, rfl, ht2⟩, hb⟩
      obtain ⟨rfl, rfl⟩ := HTR.out.det ht2
      clear ht2
      replace b7 := Lib.hid (b7.out.below hb)
      replace V7 := Lib.hid (V7.out.below hb)
      replace b11 := Lib.hid (b11.out.below hb)
      replace V11 := Lib.hid (V11.out.below hb)
      replace b15 := Lib.hid (b15.out.below hb)
      replace V15 := Lib.hid (V15.out.below hb)
      replace hw := hw.trans (hb.mono hw.size)
      clear hb
      have hmx : ∀ w0 : World, Sem.run Tryd.prog (Builtin.max_ #[31, 31, 31, 31] 31 #[Value.int IntKind.i64 0, Value.int IntKind.i64 0, Value.int IntKind.i64 0, Value.int IntKind.i64 0]) w0 = Result.ok (Value.int IntKind.i64 0) w0 := fun _ => by kernel_rfl
      go_upto_region 13 with fail
      clear hcm ez
      obtain ⟨hdn, hdp⟩ := (zero_text HTO.out hk2 htd).2 (by omega)
      have hdq := list_ne hdn
      obtain ⟨c7a, c7b, c7f, c7g, c7s⟩ := b7.out
      obtain ⟨c11a, c11b, c11f, c11g, c11s⟩ := b11.out
      obtain ⟨c15a, c15b, c15f, c15g, c15s⟩ := b15.out
      go_wp2_with fail
      refine (same_yes _ _ x x 20000 8 _ V11.out V7.out (by decide) (by decide) rfl).mono ?_
      rintro e wc1 ⟨rfl, hb⟩
      clear c7a c7b c7f c7g c7s c11a c11b c11f c11g c11s c15a c15b c15f c15g c15s
      replace b7 := Lib.hid (b7.out.below hb)
      replace V7 := Lib.hid (V7.out.below hb)
      replace b11 := Lib.hid (b11.out.below hb)
      replace V11 := Lib.hid (V11.out.below hb)
      replace b15 := Lib.hid (b15.out.below hb)
      replace V15 := Lib.hid (V15.out.below hb)
      replace hw := hw.trans (hb.mono hw.size)
      clear hb
      obtain ⟨c7a, c7b, c7f, c7g, c7s⟩ := b7.out
      obtain ⟨c11a, c11b, c11f, c11g, c11s⟩ := b11.out
      obtain ⟨c15a, c15b, c15f, c15g, c15s⟩ := b15.out
      go_wp2_with fail
      refine (same_yes _ _ x x 20000 8 _ V15.out V7.out (by decide) (by decide) rfl).mono ?_
      rintro e wc2 ⟨rfl, hb⟩
      clear c7a c7b c7f c7g c7s c11a c11b c11f c11g c11s c15a c15b c15f c15g c15s
      replace b7 := Lib.hid (b7.out.below hb)
      replace V7 := Lib.hid (V7.out.below hb)
      replace b11 := Lib.hid (b11.out.below hb)
      replace V11 := Lib.hid (V11.out.below hb)
      replace b15 := Lib.hid (b15.out.below hb)
      replace V15 := Lib.hid (V15.out.below hb)
      replace hw := hw.trans (hb.mono hw.size)
      clear hb
      obtain ⟨c7a, c7b, c7f, c7g, c7s⟩ := b7.out
      obtain ⟨c11a, c11b, c11f, c11g, c11s⟩ := b11.out
      obtain ⟨c15a, c15b, c15f, c15g, c15s⟩ := b15.out
      go_wp2_with fail
      refine (sign_int _ x 8 _ V7.out).mono ?_
      rintro e wc3 ⟨rfl, hb⟩
      obtain ⟨cc, hcc⟩ : ∃ cc, cmpI x 0 = cc := ⟨_, rfl⟩
      rw [hcc]
      have hcs : cc < 0 := by rw [← hcc]; rw [cmpI_lt hx]; decide
      clear hcc
      clear c7a c7b c7f c7g c7s c11a c11b c11f c11g c11s c15a c15b c15f c15g c15s
      replace b7 := Lib.hid (b7.out.below hb)
      replace V7 := Lib.hid (V7.out.below hb)
      replace b11 := Lib.hid (b11.out.below hb)
      replace V11 := Lib.hid (V11.out.below hb)
      replace b15 := Lib.hid (b15.out.below hb)
      replace V15 := Lib.hid (V15.out.below hb)
      replace hw := hw.trans (hb.mono hw.size)
      clear hb
      obtain ⟨c7a, c7b, c7f, c7g, c7s⟩ := b7.out
      obtain ⟨c11a, c11b, c11f, c11g, c11s⟩ := b11.out
      obtain ⟨c15a, c15b, c15f, c15g, c15s⟩ := b15.out
      go_wp2_with fail
      refine (prefix_b T 45 true _ (by rw [htp]; exact decide_eq_true hx)).mono ?_
      rintro e wc4 ⟨rfl, hb⟩
      clear c7a c7b c7f c7g c7s c11a c11b c11f c11g c11s c15a c15b c15f c15g c15s
      replace b7 := Lib.hid (b7.out.below hb)
      replace V7 := Lib.hid (V7.out.below hb)
      replace b11 := Lib.hid (b11.out.below hb)
      replace V11 := Lib.hid (V11.out.below hb)
      replace b15 := Lib.hid (b15.out.below hb)
      replace V15 := Lib.hid (V15.out.below hb)
      replace hw := hw.trans (hb.mono hw.size)
      clear hb
      obtain ⟨c7a, c7b, c7f, c7g, c7s⟩ := b7.out
      obtain ⟨c11a, c11b, c11f, c11g, c11s⟩ := b11.out
      obtain ⟨c15a, c15b, c15f, c15g, c15s⟩ := b15.out
      go_wp2_with fail
      refine (prefix_b D 48 false _ hdp).mono ?_
      rintro e wc5 ⟨rfl, hb⟩
      clear c7a c7b c7f c7g c7s c11a c11b c11f c11g c11s c15a c15b c15f c15g c15s
      replace b7 := Lib.hid (b7.out.below hb)
      replace V7 := Lib.hid (V7.out.below hb)
      replace b11 := Lib.hid (b11.out.below hb)
      replace V11 := Lib.hid (V11.out.below hb)
      replace b15 := Lib.hid (b15.out.below hb)
      replace V15 := Lib.hid (V15.out.below hb)
      replace hw := hw.trans (hb.mono hw.size)
      clear hb
      obtain ⟨c7a, c7b, c7f, c7g, c7s⟩ := b7.out
      obtain ⟨c11a, c11b, c11f, c11g, c11s⟩ := b11.out
      obtain ⟨c15a, c15b, c15f, c15g, c15s⟩ := b15.out
      go_wp2_with fail
      refine (awake_any _).mono ?_
      rintro e wz ⟨rfl, hb⟩
      go_wp2
      go_ret
      refine ⟨?_, hw.trans (hb.mono hw.size)⟩
      first | rfl | (show Ending.returned (.bool (!decide (cc < 0))) = _; rw [decide_eq_false (by omega)]; rfl)
    · skip
      have hcm : ¬ cmpI x 0 < 0 := by unfold cmpI; rw [if_neg hx]; split <;> decide
      have ez := HZ.out
      go_wp2_with fail
      refine (Tryd.strings_Repeat ⟨#[48]⟩ z _ (by omega) (by show 1 * z ≤ _; omega)).mono ?_
      rintro e w8 ⟨rfl, hb⟩
      have hzb := repeat_bs z
      rw [show (⟨#[48]⟩ : ByteArray).data.toList = [48] from rfl]
      generalize (⟨(Lib.repeatL [48] z).toArray⟩ : ByteArray) = Z at *
      have hzs : Z.size = z := by rw [← bs_length, hzb, List.length_replicate]
      replace b7 := Lib.hid (b7.out.below hb)
      replace V7 := Lib.hid (V7.out.below hb)
      replace b11 := Lib.hid (b11.out.below hb)
      replace V11 := Lib.hid (V11.out.below hb)
      replace hw := hw.trans (hb.mono hw.size)
      clear hb
      have hc1 : ∀ w0 : World, (Op.stringOp .add ⟨#[43]⟩ Z).run Tryd.prog w0 = _ := fun w0 => run_string_add_sum (P := Tryd.prog) w0 ⟨#[43]⟩ Z (by show 1 + _ ≤ _; omega)
      go_wp2_with fail
      refine (Tryd.strings_ToLower_ascii D _ (by rw [← bs_length, htd, List.length_reverse, List.length_map]; omega) (name_ascii hk36 HTO.out.1 htd)).mono ?_
      rintro e w9 ⟨rfl, hb⟩
      have heb := lower_bs D
      rw [htd] at heb
      generalize (⟨(Lib.toLowerA D.data.toList).toArray⟩ : ByteArray) = E at *
      have hes : E.size = ds.length := by rw [← bs_length, heb, List.length_map, List.length_reverse, List.length_map]
      replace b7 := Lib.hid (b7.out.below hb)
      replace V7 := Lib.hid (V7.out.below hb)
      replace b11 := Lib.hid (b11.out.below hb)
      replace V11 := Lib.hid (V11.out.below hb)
      replace hw := hw.trans (hb.mono hw.size)
      clear hb
      have hc2 : ∀ w0 : World, (Op.stringOp .add (⟨#[43]⟩ ++ Z) E).run Tryd.prog w0 = _ := fun w0 => run_string_add_sum (P := Tryd.prog) w0 (⟨#[43]⟩ ++ Z) E (by rw [ByteArray.size_append]; show 1 + _ + _ ≤ _; omega)
      go_wp2_with fail
      have hqb : bs ((⟨#[43]⟩ : ByteArray) ++ Z ++ E) = [43] ++ List.replicate z 48 ++ ((ds.map nameOf).reverse).map lowI := by rw [bs_append, bs_append, hzb, heb]; rfl
      have hqs : ((⟨#[43]⟩ : ByteArray) ++ Z ++ E).size ≤ 300 := by rw [ByteArray.size_append, ByteArray.size_append, hzs, hes, show (⟨#[43]⟩ : ByteArray).size = 1 from rfl]; omega
      clear hc1 hc2
      generalize ((⟨#[43]⟩ : ByteArray) ++ Z ++ E) = Q at *
      refine (Parse_any Q k _ (by omega)).mono ?_
      rintro e w10 ⟨g15, A15, n15, d15, z4, r4, rfl, hv4, hp4, hb⟩
      obtain ⟨rfl, rfl⟩ := parse2 (s := [43]) HTO.out hk2 hk36 (.inr ⟨rfl, by omega⟩) hqb hp4
      clear hp4 hzb heb hqb
      replace b7 := Lib.hid (b7.out.below hb)
      replace V7 := Lib.hid (V7.out.below hb)
      replace b11 := Lib.hid (b11.out.below hb)
      replace V11 := Lib.hid (V11.out.below hb)
      replace hw := hw.trans (hb.mono hw.size)
      have hX := below_alloc w10 (.cells #[.bool g15, .slice A15 n15 d15] 28)
      replace b7 := Lib.hid (b7.out.below hX)
      replace V7 := Lib.hid (V7.out.below hX)
      replace b11 := Lib.hid (b11.out.below hX)
      replace V11 := Lib.hid (V11.out.below hX)
      replace hw := hw.trans (hX.mono hw.size)
      have b15 := Lib.hid (Fx.new w10 (.bool g15) (.slice A15 n15 d15) 28)
      have V15 := Lib.hid (hv4.below hX)
      clear hX hb hv4
      go_wp2_with fail
      refine (Text_all _ x k 20000 _ V15.out (by decide)).mono ?_
      rintro e w11 ⟨⟨T2, r5, rfl, ht2⟩, hb⟩
      obtain ⟨rfl, rfl⟩ := HTR.out.det ht2
      clear ht2
      replace b7 := Lib.hid (b7.out.below hb)
      replace V7 := Lib.hid (V7.out.below hb)
      replace b11 := Lib.hid (b11.out.below hb)
      replace V11 := Lib.hid (V11.out.below hb)
      replace b15 := Lib.hid (b15.out.below hb)
      replace V15 := Lib.hid (V15.out.below hb)
      replace hw := hw.trans (hb.mono hw.size)
      clear hb
      have hmx : ∀ w0 : World, Sem.run Tryd.prog (Builtin.max_ #[31, 31, 31, 31] 31 #[Value.int IntKind.i64 0, Value.int IntKind.i64 0, Value.int IntKind.i64 0, Value.int IntKind.i64 0]) w0 = Result.ok (Value.int IntKind.i64 0) w0 := fun _ => by kernel_rfl
      go_upto_region 13 with fail
      clear hcm ez
      by_cases hx0 : x = 0
      · skip
        obtain rfl := (zero_text HTO.out hk2 htd).1 hx0
        obtain ⟨c7a, c7b, c7f, c7g, c7s⟩ := b7.out
        obtain ⟨c11a, c11b, c11f, c11g, c11s⟩ := b11.out
        obtain ⟨c15a, c15b, c15f, c15g, c15s⟩ := b15.out
        go_wp2_with fail
        refine (same_yes _ _ x x 20000 8 _ V11.out V7.out (by decide) (by decide) rfl).mono ?_
        rintro e wc1 ⟨rfl, hb⟩
        clear c7a c7b c7f c7g c7s c11a c11b c11f c11g c11s c15a c15b c15f c15g c15s
        replace b7 := Lib.hid (b7.out.below hb)
        replace V7 := Lib.hid (V7.out.below hb)
        replace b11 := Lib.hid (b11.out.below hb)
        replace V11 := Lib.hid (V11.out.below hb)
        replace b15 := Lib.hid (b15.out.below hb)
        replace V15 := Lib.hid (V15.out.below hb)
        replace hw := hw.trans (hb.mono hw.size)
        clear hb
        obtain ⟨c7a, c7b, c7f, c7g, c7s⟩ := b7.out
        obtain ⟨c11a, c11b, c11f, c11g, c11s⟩ := b11.out
        obtain ⟨c15a, c15b, c15f, c15g, c15s⟩ := b15.out
        go_wp2_with fail
        refine (same_yes _ _ x x 20000 8 _ V15.out V7.out (by decide) (by decide) rfl).mono ?_
        rintro e wc2 ⟨rfl, hb⟩
        clear c7a c7b c7f c7g c7s c11a c11b c11f c11g c11s c15a c15b c15f c15g c15s
        replace b7 := Lib.hid (b7.out.below hb)
        replace V7 := Lib.hid (V7.out.below hb)
        replace b11 := Lib.hid (b11.out.below hb)
        replace V11 := Lib.hid (V11.out.below hb)
        replace b15 := Lib.hid (b15.out.below hb)
        replace V15 := Lib.hid (V15.out.below hb)
        replace hw := hw.trans (hb.mono hw.size)
        clear hb
        obtain ⟨c7a, c7b, c7f, c7g, c7s⟩ := b7.out
        obtain ⟨c11a, c11b, c11f, c11g, c11s⟩ := b11.out
        obtain ⟨c15a, c15b, c15f, c15g, c15s⟩ := b15.out
        go_wp2_with fail
        refine (sign_int _ x 8 _ V7.out).mono ?_
        rintro e wc3 ⟨rfl, hb⟩
        obtain ⟨cc, hcc⟩ : ∃ cc, cmpI x 0 = cc := ⟨_, rfl⟩
        rw [hcc]
        have hcs : ¬ cc < 0 := by rw [← hcc]; unfold cmpI; rw [if_neg (by omega)]; split <;> decide
        clear hcc
        clear c7a c7b c7f c7g c7s c11a c11b c11f c11g c11s c15a c15b c15f c15g c15s
        replace b7 := Lib.hid (b7.out.below hb)
        replace V7 := Lib.hid (V7.out.below hb)
        replace b11 := Lib.hid (b11.out.below hb)
        replace V11 := Lib.hid (V11.out.below hb)
        replace b15 := Lib.hid (b15.out.below hb)
        replace V15 := Lib.hid (V15.out.below hb)
        replace hw := hw.trans (hb.mono hw.size)
        clear hb
        obtain ⟨c7a, c7b, c7f, c7g, c7s⟩ := b7.out
        obtain ⟨c11a, c11b, c11f, c11g, c11s⟩ := b11.out
        obtain ⟨c15a, c15b, c15f, c15g, c15s⟩ := b15.out
        go_wp2_with fail
        refine (prefix_b T 45 false _ (by rw [htp]; exact decide_eq_false (by omega))).mono ?_
        rintro e wc4 ⟨rfl, hb⟩
        clear c7a c7b c7f c7g c7s c11a c11b c11f c11g c11s c15a c15b c15f c15g c15s
        replace b7 := Lib.hid (b7.out.below hb)
        replace V7 := Lib.hid (V7.out.below hb)
        replace b11 := Lib.hid (b11.out.below hb)
        replace V11 := Lib.hid (V11.out.below hb)
        replace b15 := Lib.hid (b15.out.below hb)
        replace V15 := Lib.hid (V15.out.below hb)
        replace hw := hw.trans (hb.mono hw.size)
        clear hb
        obtain ⟨c7a, c7b, c7f, c7g, c7s⟩ := b7.out
        obtain ⟨c11a, c11b, c11f, c11g, c11s⟩ := b11.out
        obtain ⟨c15a, c15b, c15f, c15g, c15s⟩ := b15.out
        go_wp2_with fail
        refine (awake_any _).mono ?_
        rintro e wz ⟨rfl, hb⟩
        go_wp2
        go_ret
        refine ⟨?_, hw.trans (hb.mono hw.size)⟩
        first | rfl | (show Ending.returned (.bool (!decide (cc < 0))) = _; rw [decide_eq_false (by omega)]; rfl)
      · skip
        obtain ⟨hdn, hdp⟩ := (zero_text HTO.out hk2 htd).2 hx0
        have hdq := list_ne hdn
        obtain ⟨c7a, c7b, c7f, c7g, c7s⟩ := b7.out
        obtain ⟨c11a, c11b, c11f, c11g, c11s⟩ := b11.out
        obtain ⟨c15a, c15b, c15f, c15g, c15s⟩ := b15.out
        go_wp2_with fail
        refine (same_yes _ _ x x 20000 8 _ V11.out V7.out (by decide) (by decide) rfl).mono ?_
        rintro e wc1 ⟨rfl, hb⟩
        clear c7a c7b c7f c7g c7s c11a c11b c11f c11g c11s c15a c15b c15f c15g c15s
        replace b7 := Lib.hid (b7.out.below hb)
        replace V7 := Lib.hid (V7.out.below hb)
        replace b11 := Lib.hid (b11.out.below hb)
        replace V11 := Lib.hid (V11.out.below hb)
        replace b15 := Lib.hid (b15.out.below hb)
        replace V15 := Lib.hid (V15.out.below hb)
        replace hw := hw.trans (hb.mono hw.size)
        clear hb
        obtain ⟨c7a, c7b, c7f, c7g, c7s⟩ := b7.out
        obtain ⟨c11a, c11b, c11f, c11g, c11s⟩ := b11.out
        obtain ⟨c15a, c15b, c15f, c15g, c15s⟩ := b15.out
        go_wp2_with fail
        refine (same_yes _ _ x x 20000 8 _ V15.out V7.out (by decide) (by decide) rfl).mono ?_
        rintro e wc2 ⟨rfl, hb⟩
        clear c7a c7b c7f c7g c7s c11a c11b c11f c11g c11s c15a c15b c15f c15g c15s
        replace b7 := Lib.hid (b7.out.below hb)
        replace V7 := Lib.hid (V7.out.below hb)
        replace b11 := Lib.hid (b11.out.below hb)
        replace V11 := Lib.hid (V11.out.below hb)
        replace b15 := Lib.hid (b15.out.below hb)
        replace V15 := Lib.hid (V15.out.below hb)
        replace hw := hw.trans (hb.mono hw.size)
        clear hb
        obtain ⟨c7a, c7b, c7f, c7g, c7s⟩ := b7.out
        obtain ⟨c11a, c11b, c11f, c11g, c11s⟩ := b11.out
        obtain ⟨c15a, c15b, c15f, c15g, c15s⟩ := b15.out
        go_wp2_with fail
        refine (sign_int _ x 8 _ V7.out).mono ?_
        rintro e wc3 ⟨rfl, hb⟩
        obtain ⟨cc, hcc⟩ : ∃ cc, cmpI x 0 = cc := ⟨_, rfl⟩
        rw [hcc]
        have hcs : ¬ cc < 0 := by rw [← hcc]; unfold cmpI; rw [if_neg (by omega)]; split <;> decide
        clear hcc
        clear c7a c7b c7f c7g c7s c11a c11b c11f c11g c11s c15a c15b c15f c15g c15s
        replace b7 := Lib.hid (b7.out.below hb)
        replace V7 := Lib.hid (V7.out.below hb)
        replace b11 := Lib.hid (b11.out.below hb)
        replace V11 := Lib.hid (V11.out.below hb)
        replace b15 := Lib.hid (b15.out.below hb)
        replace V15 := Lib.hid (V15.out.below hb)
        replace hw := hw.trans (hb.mono hw.size)
        clear hb
        obtain ⟨c7a, c7b, c7f, c7g, c7s⟩ := b7.out
        obtain ⟨c11a, c11b, c11f, c11g, c11s⟩ := b11.out
        obtain ⟨c15a, c15b, c15f, c15g, c15s⟩ := b15.out
        go_wp2_with fail
        refine (prefix_b T 45 false _ (by rw [htp]; exact decide_eq_false (by omega))).mono ?_
        rintro e wc4 ⟨rfl, hb⟩
        clear c7a c7b c7f c7g c7s c11a c11b c11f c11g c11s c15a c15b c15f c15g c15s
        replace b7 := Lib.hid (b7.out.below hb)
        replace V7 := Lib.hid (V7.out.below hb)
        replace b11 := Lib.hid (b11.out.below hb)
        replace V11 := Lib.hid (V11.out.below hb)
        replace b15 := Lib.hid (b15.out.below hb)
        replace V15 := Lib.hid (V15.out.below hb)
        replace hw := hw.trans (hb.mono hw.size)
        clear hb
        obtain ⟨c7a, c7b, c7f, c7g, c7s⟩ := b7.out
        obtain ⟨c11a, c11b, c11f, c11g, c11s⟩ := b11.out
        obtain ⟨c15a, c15b, c15f, c15g, c15s⟩ := b15.out
        go_wp2_with fail
        refine (prefix_b D 48 false _ hdp).mono ?_
        rintro e wc5 ⟨rfl, hb⟩
        clear c7a c7b c7f c7g c7s c11a c11b c11f c11g c11s c15a c15b c15f c15g c15s
        replace b7 := Lib.hid (b7.out.below hb)
        replace V7 := Lib.hid (V7.out.below hb)
        replace b11 := Lib.hid (b11.out.below hb)
        replace V11 := Lib.hid (V11.out.below hb)
        replace b15 := Lib.hid (b15.out.below hb)
        replace V15 := Lib.hid (V15.out.below hb)
        replace hw := hw.trans (hb.mono hw.size)
        clear hb
        obtain ⟨c7a, c7b, c7f, c7g, c7s⟩ := b7.out
        obtain ⟨c11a, c11b, c11f, c11g, c11s⟩ := b11.out
        obtain ⟨c15a, c15b, c15f, c15g, c15s⟩ := b15.out
        go_wp2_with fail
        refine (awake_any _).mono ?_
        rintro e wz ⟨rfl, hb⟩
        go_wp2
        go_ret
        refine ⟨?_, hw.trans (hb.mono hw.size)⟩
        first | rfl | (show Ending.returned (.bool (!decide (cc < 0))) = _; rw [decide_eq_false (by omega)]; rfl)

end Go.Proofs.YtoanomgdkkbbmaaDoor
