/- Of the proof of RationalPowers: RatJ, Strs, RatK. -/
import Derived.Test.YtbajnceoolkckaaGreatPw25
import Derived.Test.YtbajnceoolkckaaGreatPw31
import Derived.Shelf.Strings.Cut
import Derived.Shelf.Strings.Prefix
import Derived.Test.YtbajnceoolkckaaGreatProg
/- Fractions: Text. -/
namespace Go.Proofs.YtbajnceoolkckaaGreat
open Go.RowKit LM

theorem ival_lt {w : World} {u : Value} {x : Int} {L : Nat} (h : Ival w u x L) : (if x < 0 then -x else x) < BB ^ L := by
 obtain ⟨neg, s, a, rfl, hn, h0, rfl, hz⟩ := h
 have h1 := hn.lt
 cases neg with
 | true => have := hz rfl; simp only [withSign, if_true]; rw [if_pos (by omega)]; omega
 | false => simp only [withSign, Bool.false_eq_true, if_false]; rw [if_neg (by omega)]; exact h1

theorem TextRel.size {R x : Int} {T : ByteArray} {r : Int} {L : Nat} (h : TextRel R x T r) (hx : (if x < 0 then -x else x) < BB ^ L) (hL : 1 ≤ L) : T.size ≤ 32 * L + 2 := by
 by_cases hR : 2 ≤ R ∧ R ≤ 36
 ·obtain ⟨_, ds, ho⟩ := h.of hR.1 hR.2
  have h1 := ho.len hR.1 hx hL
  have h2 := ho.2.2.2.2
  rw [← bs_length, h2]
  unfold textBytes
  rw [List.length_append, List.length_reverse, List.length_map]
  split <;> simp <;> omega
 ·rcases h with ⟨_, rfl, _⟩ | ⟨a, b, _⟩ | ⟨a, b, _⟩
  ·show 0 ≤ _; omega
  ·exact absurd ⟨a, b⟩ hR
  ·exact absurd ⟨a, b⟩ hR

/-- What Text answers of a fraction. -/
def QText (R n d : Int) (T : ByteArray) (err : Int) : Prop :=
 ∃ T1, TextRel R n T1 err ∧ ((err ≠ 0 ∨ d = 1) ∧ T = T1 ∨ err = 0 ∧ d ≠ 1 ∧ ∃ T2, TextRel R d T2 0 ∧ T = T1 ++ ⟨#[47]⟩ ++ T2)

theorem TextRel.err {R x : Int} {T : ByteArray} {r : Int} (h : TextRel R x T r) : r = 0 ∧ 2 ≤ R ∧ R ≤ 36 ∨ r = 1 ∧ (R < 2 ∨ 36 < R) := by
 rcases h with ⟨a, _, b⟩ | ⟨a, b, _, _, c⟩ | ⟨a, b, _, c, _⟩
 ·exact .inr ⟨b, a⟩
 ·exact .inl ⟨c, a, b⟩
 ·exact .inl ⟨c, a, b⟩

set_option maxHeartbeats 1000000 in
theorem Text_q (v : Value) (n d R : Int) (L : Nat) (w : World) (h : Rat w v n d L) (hL : L ≤ 400000) (hL2 : 2 ≤ L) :
  Calls Tryz.prog 56 #[v, .int .i64 R] w fun e w' => (∃ T err, e = .returned (.tuple #[.string T, .int .i64 err]) ∧ QText R n d T err) ∧ Below w.heap.size w w' := by
 obtain ⟨g1, A1, n1, c1, e1, E1, m1, d1, rfl⟩ := h.form
 have hW := below_alloc w (.cells #[.bool g1, .slice A1 n1 c1, .bool e1, .slice E1 m1 d1] 38)
 have X := Lib.hid (h.below hW)
 have B0 := Lib.hid (Fx4.new w (.bool g1) (.slice A1 n1 c1) (.bool e1) (.slice E1 m1 d1) 38)
 have hd := X.out.parts.2.2.1
 clear h
 go_enter Tryz.func56, Tryz.ntmps56
 go_wp2_with fail
 refine (Text_all _ n R L _ X.out.parts.1 (by omega)).mono ?_
 rintro e w1 ⟨⟨T1, r1, rfl, ht1⟩, hb⟩
 have hw := hW.trans (hb.mono hW.size)
 have HT1 := Lib.hid ht1
 have hsz := ht1.size (ival_lt X.out.parts.1) (by omega)
 replace X := Lib.hid (X.out.below hb)
 replace B0 := Lib.hid (B0.out.below hb)
 clear hb ht1 hW
 rcases HT1.out.err with ⟨rfl, hR1, hR2⟩ | ⟨rfl, hR⟩
 ·obtain ⟨a0, a1, a2, a3, -, -, -, -, -⟩ := B0.out
  go_wp2_with fail
  refine (Whole_any _ n d L _ X.out).mono ?_
  rintro e w2 ⟨rfl, hb⟩
  replace hw := hw.trans (hb.mono hw.size)
  replace X := Lib.hid (X.out.below hb)
  replace B0 := Lib.hid (B0.out.below hb)
  clear a0 a1 a2 a3 hb
  by_cases hd1 : d = 1
  ·simp only [decide_eq_true hd1]
   go_wp2
   go_ret2
   exact ⟨⟨_, _, rfl, T1, HT1.out, .inl ⟨.inr hd1, rfl⟩⟩, hw⟩
  ·have e2 : decide (d = 1) = false := decide_eq_false hd1
   have e3 : dn d = d := if_neg hd1
   have X2 := X.out.parts.2.1
   rw [e3] at X2
   have HX2 := Lib.hid X2
   rw [e2]
   clear e2 e3 X2
   obtain ⟨a0, a1, a2, a3, -, -, -, -, -⟩ := B0.out
   go_wp2_with fail
   refine (Text_all _ d R L _ HX2.out (by omega)).mono ?_
   rintro e w3 ⟨⟨T2, r2, rfl, ht2⟩, hb⟩
   replace hw := hw.trans (hb.mono hw.size)
   have hsz2 := ht2.size (ival_lt HX2.out) (by omega)
   rcases ht2.err with ⟨rfl, _⟩ | ⟨_, hh⟩
   ·have HT2 := Lib.hid ht2
    have s1 : ∀ w0 : World, (Op.stringOp .add T1 ⟨#[47]⟩).run Tryz.prog w0 = _ := fun w0 => run_string_add_sum (P := Tryz.prog) w0 T1 ⟨#[47]⟩ (by show _ + 1 ≤ _; omega)
    have s2 : ∀ w0 : World, (Op.stringOp .add (T1 ++ ⟨#[47]⟩) T2).run Tryz.prog w0 = _ := fun w0 => run_string_add_sum (P := Tryz.prog) w0 (T1 ++ ⟨#[47]⟩) T2 (by rw [ByteArray.size_append]; show _ + 1 + _ ≤ _; omega)
    clear ht2 hb a0 a1 a2 a3
    go_wp2
    go_ret2
    exact ⟨⟨_, _, rfl, T1, HT1.out, .inr ⟨rfl, hd1, T2, HT2.out, rfl⟩⟩, hw⟩
   ·exfalso; omega
 ·go_wp2
  go_ret2
  exact ⟨⟨_, _, rfl, T1, HT1.out, .inl ⟨.inl (by decide), rfl⟩⟩, hw⟩

end Go.Proofs.YtbajnceoolkckaaGreat
/-
  DERIVED: THE SHELF's CONTRACTS AT THIS DUMP, IN PLAIN WORDS (tools/lay-plain.mjs out of 'TryzShelf.lean', which tools/lay-shelf.mjs wrote): THE SAME DECLARATIONS UNDER THE SAME NAMES: 'import', 'namespace', 'open', 'def', 'theorem' AND NOTHING ELSE: no command of the shelf's: FOR A HAND-IN. Each laying: the table of numbers ('.._ren') and one theorem, a field a fact of the dump's own or the kernel's comparison; each contract: ONE APPLICATION.
-/
namespace Go.Proofs
open Go.Shelf
def Tryz.lays145_ren : Go.Shelf.Ren := ⟨fun | 145 => 111 | 220 => 151 | 219 => 172 | 217 => 186 | 225 => 187 | 224 => 188 | 267 => 189 | 266 => 193 | 314 => 194 | n => n, fun | 9 => 9 | 4 => 4 | 59 => 144 | 3 => 3 | 5 => 5 | 46 => 184 | 146 => 207 | 51 => 135 | n => n, fun | 1 => 0 | n => n⟩
theorem Tryz.lays145 : Go.Proofs.Lays.n145 Tryz.prog Tryz.lays145_ren := {
 mixed := by kernel_rfl
 f145 := Tryz.func111.trans (congrArg some (by kernel_rfl))
 f217 := Tryz.func186.trans (congrArg some (by kernel_rfl))
 f219 := Tryz.func172.trans (congrArg some (by kernel_rfl))
 f220 := Tryz.func151.trans (congrArg some (by kernel_rfl))
 f224 := Tryz.func188.trans (congrArg some (by kernel_rfl))
 f225 := Tryz.func187.trans (congrArg some (by kernel_rfl))
 f266 := Tryz.func193.trans (congrArg some (by kernel_rfl))
 f267 := Tryz.func189.trans (congrArg some (by kernel_rfl))
 f314 := Tryz.func194.trans (congrArg some (by kernel_rfl))
 t3 := Tryz.underlying3
 a3 := Tryz.isAgg3
 z3 := Tryz.sizeOf3
 v3 := Tryz.zeroValue3
 t4 := Tryz.underlying4
 a4 := Tryz.isAgg4
 z4 := Tryz.sizeOf4
 v4 := Tryz.zeroValue4
 t5 := Tryz.underlying5
 a5 := Tryz.isAgg5
 z5 := Tryz.sizeOf5
 v5 := Tryz.zeroValue5
 t9 := Tryz.underlying9
 a9 := Tryz.isAgg9
 z9 := Tryz.sizeOf9
 v9 := Tryz.zeroValue9
 t46 := Tryz.underlying184
 a46 := Tryz.isAgg184
 z46 := Tryz.sizeOf184
 v46 := Tryz.zeroValue184
 t51 := Tryz.underlying135
 a51 := Tryz.isAgg135
 z51 := Tryz.sizeOf135
 v51 := Tryz.zeroValue135
 t59 := Tryz.underlying144
 a59 := Tryz.isAgg144
 z59 := Tryz.sizeOf144
 v59 := Tryz.zeroValue144
 t146 := Tryz.underlying207
 a146 := Tryz.isAgg207
 z146 := Tryz.sizeOf207
 v146 := Tryz.zeroValue207
 g1 := by kernel_rfl }
open Go.RowKit Go.Lib in
/-- strings.Cut: "Cut slices s around the first instance of sep, returning the text before and after sep. The found result reports whether sep appears in s. If sep does not appear in s, cut returns s, "", false.": IT RETURNS 'Lib.cut s sep'; the world is as it was but for the count of draws. (LAID: no walk: one application.) -/
theorem Tryz.strings_Cut (s sep : ByteArray) (m : Int) (w : World) (hs : s.size < 4294967281) (hm : w.cell? ⟨0, 0, none⟩ = some (.int .i64 m)) :
    Calls Tryz.prog 111 #[.string s, .string sep] w fun e w' => e = .returned (.tuple #[.string ⟨(Lib.cut s.data.toList sep.data.toList).1.toArray⟩, .string ⟨(Lib.cut s.data.toList sep.data.toList).2.1.toArray⟩, .bool (Lib.cut s.data.toList sep.data.toList).2.2]) ∧ ∃ n, w' = w.drewN n := Any.strings_Cut Tryz.lays145 s sep m w hs hm
def Tryz.lays99_ren : Go.Shelf.Ren := ⟨fun | 99 => 113 | 206 => 153 | n => n, fun | 9 => 9 | 4 => 4 | 3 => 3 | n => n, fun | n => n⟩
theorem Tryz.lays99 : Go.Proofs.Lays.n99 Tryz.prog Tryz.lays99_ren := {
 mixed := by kernel_rfl
 f99 := Tryz.func113.trans (congrArg some (by kernel_rfl))
 f206 := Tryz.func153.trans (congrArg some (by kernel_rfl))
 t3 := Tryz.underlying3
 a3 := Tryz.isAgg3
 z3 := Tryz.sizeOf3
 v3 := Tryz.zeroValue3
 t4 := Tryz.underlying4
 a4 := Tryz.isAgg4
 z4 := Tryz.sizeOf4
 v4 := Tryz.zeroValue4
 t9 := Tryz.underlying9
 a9 := Tryz.isAgg9
 z9 := Tryz.sizeOf9
 v9 := Tryz.zeroValue9 }
open Go.RowKit Go.Lib in
/-- strings.HasPrefix: "HasPrefix reports whether the string s begins with prefix.": IT RETURNS 'Lib.hasPrefix s prefix'; the world is as it was. (LAID: no walk: one application.) -/
theorem Tryz.strings_HasPrefix (s p : ByteArray) (w : World) :
    Calls Tryz.prog 113 #[.string s, .string p] w fun e w' => e = .returned (.bool (Lib.hasPrefix s.data.toList p.data.toList)) ∧ w' = w := Any.strings_HasPrefix Tryz.lays99 s p w
end Go.Proofs
/- Fractions: Parse. -/
namespace Go.Proofs.YtbajnceoolkckaaGreat
open Go.RowKit LM

def topOf (S : ByteArray) : ByteArray := ⟨(Lib.cut S.data.toList [47]).1.toArray⟩
def botOf (S : ByteArray) : ByteArray := ⟨(Lib.cut S.data.toList [47]).2.1.toArray⟩
def hasBar (S : ByteArray) : Bool := (Lib.cut S.data.toList [47]).2.2

theorem size_mk (l : List UInt8) : (⟨l.toArray⟩ : ByteArray).size = l.length := by simp [ByteArray.size]

theorem size_list (S : ByteArray) : S.data.toList.length = S.size := by rw [Array.length_toList]; rfl

theorem top_size (S : ByteArray) : (topOf S).size ≤ S.size := by
 unfold topOf Lib.cut
 rw [size_mk]
 split
 ·rw [List.length_take, size_list]; exact Nat.min_le_right _ _
 ·rw [size_list]; exact Nat.le_refl _

theorem bot_size (S : ByteArray) : (botOf S).size ≤ S.size := by
 unfold botOf Lib.cut
 rw [size_mk]
 split
 ·rw [List.length_drop, size_list]; exact Nat.sub_le _ _
 ·exact Nat.zero_le _

/-- A sign ahead of the denominator. -/
def signed47 (S : ByteArray) : Prop := (bs (botOf S)).headD 0 = 43 ∨ (bs (botOf S)).headD 0 = 45

/-- What Parse answers behind the looks at its arguments. -/
def ParseIn (R : Int) (S : ByteArray) (n d err : Int) : Prop :=
  ∃ z e1, ParseRel R (bs (topOf S)) z e1 ∧
    ((e1 ≠ 0 ∨ hasBar S = false) ∧ n = z ∧ d = 1 ∧ err = e1 ∨
     e1 = 0 ∧ hasBar S = true ∧ (signed47 S ∧ n = 0 ∧ d = 1 ∧ err = 2 ∨
       ¬ signed47 S ∧ ∃ y e2, ParseRel R (bs (botOf S)) y e2 ∧ (e2 ≠ 0 ∧ n = 0 ∧ d = 1 ∧ err = e2 ∨ e2 = 0 ∧ n = newN z y ∧ d = newD z y ∧ err = divE y)))

/-- What Parse answers. -/
def ParseQ (R : Int) (S : ByteArray) (n d err : Int) : Prop :=
 (R < 2 ∨ 36 < R) ∧ n = 0 ∧ d = 1 ∧ err = 1 ∨ (2 ≤ R ∧ R ≤ 36) ∧ 20000 < S.size ∧ n = 0 ∧ d = 1 ∧ err = 14 ∨ (2 ≤ R ∧ R ≤ 36) ∧ S.size ≤ 20000 ∧ ParseIn R S n d err

def ParsedQ (R : Int) (S : ByteArray) (w : World) (e : Ending) (w' : World) : Prop := ∃ n d err, ParseQ R S n d err ∧ RatErr 20002 n d err w e w'

theorem below_drews (w : World) (k : Nat) : Below w.heap.size w (w.drewN k) := by
 have h := Below.refl w.heap.size w
 exact ⟨h.os, h.tape, h.output, h.size, h.block⟩

theorem cut_b (S : ByteArray) (m : Int) (w : World) (hs : S.size < 4294967281) (hm : w.cell? ⟨0, 0, none⟩ = some (.int .i64 m)) :
  Calls Tryz.prog 111 #[.string S, .string ⟨#[47]⟩] w fun e w' => e = .returned (.tuple #[.string (topOf S), .string (botOf S), .bool (hasBar S)]) ∧ Below w.heap.size w w' :=
 (Tryz.strings_Cut S ⟨#[47]⟩ m w hs hm).mono fun _ _ ⟨he, k, hw⟩ => ⟨he, hw ▸ below_drews _ k⟩

theorem prefix_b (S : ByteArray) (c : UInt8) (hc : c.toNat ≠ 0) (w : World) :
  Calls Tryz.prog 113 #[.string S, .string ⟨#[c]⟩] w fun e w' => e = .returned (.bool (decide ((bs S).headD 0 = (c.toNat : Int)))) ∧ Below w.heap.size w w' :=
 (Tryz.strings_HasPrefix S ⟨#[c]⟩ w).mono fun _ _ ⟨he, hw⟩ => ⟨by rw [he]; exact congrArg (fun b => Ending.returned (.bool b)) (prefix_is S c hc), hw ▸ Below.refl _ _⟩

set_option maxRecDepth 100000 in
set_option maxHeartbeats 4000000 in
theorem Parse_q (S : ByteArray) (R m : Int) (w : World) (hm : w.cell? ⟨0, 0, none⟩ = some (.int .i64 m)) (hS0 : S.size ≤ 9223372036854775807) :
  Calls Tryz.prog 58 #[.string S, .int .i64 R] w (ParsedQ R S w) := by
 have hW := below_alloc w (.cells #[.bool false, .slice none 0 0, .bool false, .slice none 0 0] 38)
 have BR := Lib.hid (Fx4.new w (.bool false) (.slice none 0 0) (.bool false) (.slice none 0 0) 38)
 have hM := Lib.hid ((hW.cell (p := ⟨0, 0, none⟩) (World.block_lt_of_cell? w _ hm)).trans hm)
 have hlt0 : 0 < (w.alloc (.cells #[.bool false, .slice none 0 0, .bool false, .slice none 0 0] 38)).heap.size := by simp
 clear hm
 by_cases hR : R < 2 ∨ 36 < R
 ·obtain ⟨W0, hW0⟩ : ∃ W0, w.alloc (.cells #[.bool false, .slice none 0 0, .bool false, .slice none 0 0] 38) = W0 := ⟨_, rfl⟩
  rw [hW0] at hW BR
  go_enter Tryz.func58, Tryz.ntmps58
  go_upto_region 1 with fail
  clear hW0
  obtain ⟨r0, r1, r2, r3, r4, r5, r6, r7, r8⟩ := BR.out
  rcases (by omega : R < 2 ∨ ¬ R < 2 ∧ 36 < R) with h | ⟨h, h2⟩
  all_goals go_wp2
  all_goals exact bodyPost_ret (v := .tuple #[.agg #[.bool false, .slice none 0 0, .bool false, .slice none 0 0], .int .i64 1]) (by simp [results, Tryz.results58, go_sem, r0, r1, r2, r3]) rfl ⟨0, 1, 1, .inl ⟨hR, rfl, rfl, rfl⟩, ⟨⟨false, none, 0, 0, false, none, 0, 0, rfl, _, _, _, _, _, _, _, _, rfl, Ival.nought, Ival.nought, by decide, by decide⟩, below_put4 hW (Nat.le_refl _) _ _ _ _⟩⟩
 ·have hR1 : ¬ R < 2 := by omega
  have hR2 : ¬ 36 < R := by omega
  by_cases hbig : (20000 : Int) < (S.size : Int)
  ·obtain ⟨W0, hW0⟩ : ∃ W0, w.alloc (.cells #[.bool false, .slice none 0 0, .bool false, .slice none 0 0] 38) = W0 := ⟨_, rfl⟩
   rw [hW0] at hW BR
   go_enter Tryz.func58, Tryz.ntmps58
   go_upto_region 1 with fail
   clear hW0
   obtain ⟨r0, r1, r2, r3, r4, r5, r6, r7, r8⟩ := BR.out
   go_wp2
   exact bodyPost_ret (v := .tuple #[.agg #[.bool false, .slice none 0 0, .bool false, .slice none 0 0], .int .i64 14]) (by simp [results, Tryz.results58, go_sem, r0, r1, r2, r3]) rfl ⟨0, 1, 14, .inr (.inl ⟨by omega, by omega, rfl, rfl, rfl⟩), ⟨⟨false, none, 0, 0, false, none, 0, 0, rfl, _, _, _, _, _, _, _, _, rfl, Ival.nought, Ival.nought, by decide, by decide⟩, below_put4 hW (Nat.le_refl _) _ _ _ _⟩⟩
  ·have hS : S.size ≤ 20000 := by omega
   obtain ⟨W0, hW0⟩ : ∃ W0, w.alloc (.cells #[.bool false, .slice none 0 0, .bool false, .slice none 0 0] 38) = W0 := ⟨_, rfl⟩
   rw [hW0] at hW BR hM hlt0
   go_enter Tryz.func58, Tryz.ntmps58
   go_upto_region 1 with fail
   clear hW0
   go_wp2_with fail
   refine (cut_b S m _ (by omega) hM.out).mono ?_
   rintro e w1 ⟨rfl, hb⟩
   have hw := hW.trans (hb.mono hW.size)
   replace BR := Lib.hid (BR.out.below hb)
   have ht := top_size S
   have hbt := bot_size S
   clear hb hM hlt0 hW
   go_wp2_with fail
   refine (Parse_any (topOf S) R _ (by omega)).mono ?_
   rintro e w2 ⟨g9, A9, n9, d9, z, e1, rfl, hv9, hp9, hb⟩
   replace hw := hw.trans (hb.mono hw.size)
   replace BR := Lib.hid (BR.out.below hb)
   have hX := below_alloc w2 (.cells #[.bool g9, .slice A9 n9 d9] 31)
   have B9 := Lib.hid (Fx.new w2 (.bool g9) (.slice A9 n9 d9) 31)
   have V9 := Lib.hid (hv9.below hX)
   have HP := Lib.hid hp9
   replace hw := hw.trans (hX.mono hw.size)
   replace BR := Lib.hid (BR.out.below hX)
   clear hb hX hv9 hp9
   by_cases hA : e1 ≠ 0 ∨ hasBar S = false
   ·have hgd : (e1 != 0) = true ∨ (e1 != 0) = false ∧ hasBar S = false := by
     by_cases h0 : e1 = 0
     ·right; exact ⟨by simp [h0], by rcases hA with h | h; exact absurd h0 h; exact h⟩
     ·left; simpa using h0
    go_upto_region 7 with fail
    generalize w2.alloc (.cells #[.bool g9, .slice A9 n9 d9] 31) = W9 at *
    generalize w2.heap.size = k9 at *
    obtain ⟨c0, c1, -, -, -⟩ := B9.out
    rcases hgd with hg1 | ⟨hg1, hg2⟩
    all_goals (
     go_wp2_with fail
     refine (Of_any _ z 20000 _ V9.out).mono ?_
     rintro e w3 ⟨⟨ng, A2, n2, c2, rfl, hz⟩, hb⟩
     have Z1 := Lib.hid hz
     replace hw := hw.trans (hb.mono hw.size)
     replace BR := Lib.hid (BR.out.below hb)
     clear hz hb c0 c1
     obtain ⟨r0, r1, r2, r3, r4, r5, r6, r7, r8⟩ := BR.out
     go_wp2
     exact bodyPost_ret (v := .tuple #[.agg #[.bool ng, .slice A2 n2 c2, .bool false, .slice none 0 0], .int .i64 e1]) (by simp [results, Tryz.results58, go_sem, r0, r1, r2, r3]) rfl ⟨z, 1, e1, .inr (.inr ⟨⟨by omega, by omega⟩, hS, z, e1, HP.out, .inl ⟨hA, rfl, rfl, rfl⟩⟩), ⟨⟨_, _, _, _, _, _, _, _, rfl, _, _, _, _, _, _, _, _, rfl, (Z1.out.mono (by omega)).put4 BR.out _ _ _ _, Ival.nought, by decide, Int.gcd_one_right ..⟩, below_put4 hw (Nat.le_refl _) _ _ _ _⟩⟩)
   ·obtain ⟨h0, hbar⟩ : e1 = 0 ∧ hasBar S = true := by
     refine ⟨?_, ?_⟩
     ·exact Classical.byContradiction fun h => hA (.inl h)
     ·cases h : hasBar S with
      | true => rfl
      | false => exact absurd (.inr h) hA
    subst h0
    clear hA
    go_upto_region 9 with fail
    generalize w2.alloc (.cells #[.bool g9, .slice A9 n9 d9] 31) = W9 at *
    generalize w2.heap.size = k9 at *
    go_wp2_with fail
    refine (prefix_b (botOf S) 43 (by decide) _).mono ?_
    rintro e w3 ⟨rfl, hb⟩
    replace hw := hw.trans (hb.mono hw.size)
    replace BR := Lib.hid (BR.out.below hb)
    replace B9 := Lib.hid (B9.out.below hb)
    replace V9 := Lib.hid (V9.out.below hb)
    clear hb
    by_cases h43 : (bs (botOf S)).headD 0 = 43
    ·rw [decide_eq_true (show (bs (botOf S)).headD 0 = ((43 : UInt8).toNat : Int) from h43)]
     obtain ⟨r0, r1, r2, r3, r4, r5, r6, r7, r8⟩ := BR.out
     go_wp2
     exact bodyPost_ret (v := .tuple #[.agg #[.bool false, .slice none 0 0, .bool false, .slice none 0 0], .int .i64 2]) (by simp [results, Tryz.results58, go_sem, r0, r1, r2, r3]) rfl ⟨0, 1, 2, .inr (.inr ⟨⟨by omega, by omega⟩, hS, z, 0, HP.out, .inr ⟨rfl, hbar, .inl ⟨.inl h43, rfl, rfl, rfl⟩⟩⟩), ⟨⟨false, none, 0, 0, false, none, 0, 0, rfl, _, _, _, _, _, _, _, _, rfl, Ival.nought, Ival.nought, by decide, by decide⟩, below_put4 hw (Nat.le_refl _) _ _ _ _⟩⟩
    ·rw [decide_eq_false (show ¬ (bs (botOf S)).headD 0 = ((43 : UInt8).toNat : Int) from h43)]
     go_wp2_with fail
     refine (prefix_b (botOf S) 45 (by decide) _).mono ?_
     rintro e w4 ⟨rfl, hb⟩
     replace hw := hw.trans (hb.mono hw.size)
     replace BR := Lib.hid (BR.out.below hb)
     replace B9 := Lib.hid (B9.out.below hb)
     replace V9 := Lib.hid (V9.out.below hb)
     clear hb
     by_cases h45 : (bs (botOf S)).headD 0 = 45
     ·rw [decide_eq_true (show (bs (botOf S)).headD 0 = ((45 : UInt8).toNat : Int) from h45)]
      obtain ⟨r0, r1, r2, r3, r4, r5, r6, r7, r8⟩ := BR.out
      go_wp2
      exact bodyPost_ret (v := .tuple #[.agg #[.bool false, .slice none 0 0, .bool false, .slice none 0 0], .int .i64 2]) (by simp [results, Tryz.results58, go_sem, r0, r1, r2, r3]) rfl ⟨0, 1, 2, .inr (.inr ⟨⟨by omega, by omega⟩, hS, z, 0, HP.out, .inr ⟨rfl, hbar, .inl ⟨.inr h45, rfl, rfl, rfl⟩⟩⟩), ⟨⟨false, none, 0, 0, false, none, 0, 0, rfl, _, _, _, _, _, _, _, _, rfl, Ival.nought, Ival.nought, by decide, by decide⟩, below_put4 hw (Nat.le_refl _) _ _ _ _⟩⟩
     ·rw [decide_eq_false (show ¬ (bs (botOf S)).headD 0 = ((45 : UInt8).toNat : Int) from h45)]
      have hsg : ¬ signed47 S := fun h => h.elim h43 h45
      go_wp2_with fail
      refine (Parse_any (botOf S) R _ (by omega)).mono ?_
      rintro e w5 ⟨g11, A11, n11, d11, y, e2, rfl, hv11, hp11, hb⟩
      have hX := below_alloc w5 (.cells #[.bool g11, .slice A11 n11 d11] 31)
      have hbx := hb.trans (hX.mono hb.size)
      have B11 := Lib.hid (Fx.new w5 (.bool g11) (.slice A11 n11 d11) 31)
      have V11 := Lib.hid (hv11.below hX)
      have HP2 := Lib.hid hp11
      replace hw := hw.trans (hbx.mono hw.size)
      replace BR := Lib.hid (BR.out.below hbx)
      replace B9 := Lib.hid (B9.out.below hbx)
      replace V9 := Lib.hid (V9.out.below hbx)
      clear hb hX hbx hv11 hp11
      go_upto_region 12 with fail
      generalize w5.alloc (.cells #[.bool g11, .slice A11 n11 d11] 31) = W11 at *
      generalize w5.heap.size = k11 at *
      by_cases he2 : e2 = 0
      ·subst he2
       obtain ⟨c0, c1, -, -, -⟩ := B9.out
       obtain ⟨b0, b1, -, -, -⟩ := B11.out
       go_wp2_with fail
       refine (New_any _ _ z y 20000 _ V9.out V11.out (by omega) (by omega)).mono ?_
       rintro e w6 ⟨⟨q1, Q1, s1, t1, q2, Q2, s2, t2, rfl, hq⟩, hb⟩
       have HQ := Lib.hid hq
       replace hw := hw.trans (hb.mono hw.size)
       replace BR := Lib.hid (BR.out.below hb)
       clear hq hb c0 c1 b0 b1
       obtain ⟨r0, r1, r2, r3, r4, r5, r6, r7, r8⟩ := BR.out
       go_wp2
       exact bodyPost_ret (v := .tuple #[.agg #[.bool q1, .slice Q1 s1 t1, .bool q2, .slice Q2 s2 t2], .int .i64 (divE y)]) (by simp [results, Tryz.results58, go_sem, r0, r1, r2, r3]) rfl ⟨newN z y, newD z y, divE y, .inr (.inr ⟨⟨by omega, by omega⟩, hS, z, 0, HP.out, .inr ⟨rfl, hbar, .inr ⟨hsg, y, 0, HP2.out, .inr ⟨rfl, rfl, rfl, rfl⟩⟩⟩⟩), ⟨⟨_, _, _, _, _, _, _, _, rfl, HQ.out.put4 BR.out _ _ _ _⟩, below_put4 hw (Nat.le_refl _) _ _ _ _⟩⟩
      ·have hg : (e2 != 0) = true := by simpa using he2
       obtain ⟨r0, r1, r2, r3, r4, r5, r6, r7, r8⟩ := BR.out
       go_wp2
       exact bodyPost_ret (v := .tuple #[.agg #[.bool false, .slice none 0 0, .bool false, .slice none 0 0], .int .i64 e2]) (by simp [results, Tryz.results58, go_sem, r0, r1, r2, r3]) rfl ⟨0, 1, e2, .inr (.inr ⟨⟨by omega, by omega⟩, hS, z, 0, HP.out, .inr ⟨rfl, hbar, .inr ⟨hsg, y, e2, HP2.out, .inl ⟨he2, rfl, rfl, rfl⟩⟩⟩⟩), ⟨⟨false, none, 0, 0, false, none, 0, 0, rfl, _, _, _, _, _, _, _, _, rfl, Ival.nought, Ival.nought, by decide, by decide⟩, below_put4 hw (Nat.le_refl _) _ _ _ _⟩⟩


end Go.Proofs.YtbajnceoolkckaaGreat
