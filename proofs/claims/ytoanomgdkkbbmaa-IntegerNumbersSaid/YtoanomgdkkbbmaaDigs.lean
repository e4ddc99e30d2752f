/- Digits of a text, read from the front: plain mathematics. -/
import Derived.Test.YtoanomgdkkbbmaaScaled
namespace Go.Proofs.Ytoanomgdkkbbmaa
open Go.RowKit LM

/-- The bytes of a text as numbers. -/
def bs (S : ByteArray) : List Int := S.data.toList.map fun b => (b.toNat : Int)

theorem bs_length (S : ByteArray) : (bs S).length = S.size := by
  unfold bs; rw [List.length_map, Array.length_toList]; rfl

theorem bs_get (S : ByteArray) (i : Nat) (h : i < S.size) : (bs S).getD i 0 = (S[i].toNat : Int) := by
  have h' : i < S.data.size := h
  have e : (S.data.toList.map fun b => (b.toNat : Int))[i]? = some (S[i].toNat : Int) := by
    rw [List.getElem?_map, Array.getElem?_toList, Array.getElem?_eq_getElem h']; rfl
  unfold bs
  rw [List.getD, e]; rfl

theorem bs_byte (S : ByteArray) (i : Nat) (h : i < S.size) : 0 ≤ ((S[i].toNat : Int)) ∧ ((S[i].toNat : Int)) < 256 := by
  have := S[i].toNat_lt; omega

theorem bs_from (S : ByteArray) (k : Nat) (_h : k ≤ S.size) : bs (S.extract k S.size) = (bs S).drop k := by
  unfold bs
  rw [ByteArray.data_extract, Array.toList_extract, ← List.map_drop]
  congr 1
  have hl : S.data.toList.length = S.size := by rw [Array.length_toList]; rfl
  show (S.data.toList.drop k).take (S.size - k) = S.data.toList.drop k
  rw [List.take_of_length_le (by rw [List.length_drop, hl]; exact Nat.le_refl _)]

theorem bs_inj {S T : ByteArray} (h : bs S = bs T) : S = T := by
  have hf : ∀ a b : UInt8, (a.toNat : Int) = (b.toNat : Int) → a = b := fun a b e => UInt8.toNat_inj.1 (by omega)
  have h2 : S.data.toList = T.data.toList := (List.map_inj_right hf).1 h
  have h3 : S.data = T.data := Array.toList_inj.1 h2
  cases S; cases T; simp at h3; rw [h3]

/-- All bytes are digits of the radix. -/
def AllOk (R : Int) (cs : List Int) : Prop := ∀ c ∈ cs, digVal 99 c < R

/-- The number that digits make behind another number. -/
def horner (R : Int) : Int → List Int → Int
  | a, [] => a
  | a, c :: cs => horner R (a * R + digVal 99 c) cs

theorem horner_append (R a : Int) (x y : List Int) : horner R a (x ++ y) = horner R (horner R a x) y := by
  induction x generalizing a with
  | nil => rfl
  | cons c x ih => exact ih _

theorem horner_split (R a : Int) (y : List Int) : horner R a y = a * R ^ y.length + horner R 0 y := by
  induction y generalizing a with
  | nil => simp [horner]
  | cons c y ih =>
    rw [horner, horner, ih, ih (0 * R + digVal 99 c), List.length_cons, Int.pow_succ]
    grind

theorem horner_snoc (R a : Int) (x : List Int) (c : Int) : horner R a (x ++ [c]) = horner R a x * R + digVal 99 c := by
  rw [horner_append]; rfl

theorem digVal_nonneg {bad c : Int} (h : 0 ≤ bad) : 0 ≤ digVal bad c := by
  unfold digVal; split
  · omega
  · split
    · omega
    · split <;> omega

theorem AllOk.snoc {R : Int} {x : List Int} {c : Int} (h : AllOk R x) (hc : digVal 99 c < R) : AllOk R (x ++ [c]) := by
  intro d hd
  rcases List.mem_append.1 hd with h' | h'
  · exact h d h'
  · simp at h'; subst h'; exact hc

theorem AllOk.append {R : Int} {x y : List Int} (h : AllOk R x) (g : AllOk R y) : AllOk R (x ++ y) := by
  intro d hd
  rcases List.mem_append.1 hd with h' | h'
  · exact h d h'
  · exact g d h'

theorem horner_nonneg {R a : Int} (hR : 0 ≤ R) (ha : 0 ≤ a) (x : List Int) : 0 ≤ horner R a x := by
  induction x generalizing a with
  | nil => exact ha
  | cons c x ih =>
    apply ih
    have := Int.mul_nonneg ha hR
    have := digVal_nonneg (bad := 99) (c := c) (by decide)
    omega

/-- Digits behind each other, j of them taken. -/
def PartRel (R : Int) (cs : List Int) (j : Nat) (p pw : Int) : Prop :=
  j ≤ cs.length ∧ AllOk R (cs.take j) ∧ p = horner R 0 (cs.take j) ∧ pw = R ^ j ∧ 0 ≤ p ∧ p < pw

theorem PartRel.start (R : Int) (cs : List Int) : PartRel R cs 0 0 1 :=
  ⟨Nat.zero_le _, fun c h => by simp at h, by simp [horner], by simp, by decide, by decide⟩

theorem PartRel.step {R : Int} {cs : List Int} {j : Nat} {p pw c : Int} (h : PartRel R cs j p pw) (hj : j < cs.length) (hR : 2 ≤ R) (hc : cs.getD j 0 = c) (hd : digVal 99 c < R) :
    PartRel R cs (j + 1) (p * R + digVal 99 c) (pw * R) ∧ 0 ≤ p * R ∧ p * R + digVal 99 c < pw * R ∧ 0 ≤ pw * R := by
  obtain ⟨_, hok, hp, hw, p0, p1⟩ := h
  have d0 := digVal_nonneg (bad := 99) (c := c) (by decide)
  have h1 : 0 ≤ p * R := Int.mul_nonneg p0 (by omega)
  have h2 : p * R + R ≤ pw * R := by
    have := Int.mul_le_mul_of_nonneg_right (show p + 1 ≤ pw by omega) (show 0 ≤ R by omega)
    rw [Int.add_mul, Int.one_mul] at this
    exact this
  have e : cs.take (j + 1) = cs.take j ++ [c] := by rw [take_snoc cs j hj, hc]
  refine ⟨⟨hj, by rw [e]; exact hok.snoc hd, by rw [e, horner_snoc, ← hp], by rw [hw, Int.pow_succ], by omega, by omega⟩, h1, by omega, by omega⟩

theorem PartRel.bound {R : Int} {cs : List Int} {j k : Nat} {p pw : Int} (h : PartRel R cs j p pw) (hR : 2 ≤ R) (hj : j < k) (hk : R ^ k < 4294967296) : pw * R < 4294967296 := by
  obtain ⟨_, _, _, hw, _, _⟩ := h
  have e : pw * R = R ^ (j + 1) := by rw [hw, Int.pow_succ]
  rw [e]
  have : R ^ (j + 1) ≤ R ^ k := by
    obtain ⟨d, rfl⟩ := Nat.exists_eq_add_of_le (show j + 1 ≤ k from hj)
    rw [Int.pow_add R (j + 1) d]
    have h1 : (1 : Int) ≤ R ^ d := by
      have : 0 < R ^ d := Int.pow_pos (by omega)
      omega
    have h2 : (0 : Int) ≤ R ^ (j + 1) := Int.pow_nonneg (by omega)
    have := Int.mul_le_mul_of_nonneg_left h1 h2
    omega
  omega

/-- A byte that is no digit. -/
theorem PartRel.bad {R : Int} {cs : List Int} {j : Nat} {p pw c : Int} (_h : PartRel R cs j p pw) (hj : j < cs.length) (hc : cs.getD j 0 = c) (hd : ¬ digVal 99 c < R) : ¬ AllOk R cs := by
  intro ho
  apply hd
  rw [← hc]
  apply ho
  have : cs.getD j 0 = cs[j] := by simp [List.getD, hj]
  rw [this]
  exact List.getElem_mem hj

/-- What was read of a text: i bytes. -/
def ReadRel (R : Int) (cs : List Int) (i : Nat) (z : Int) (rest : List Int) : Prop :=
  i ≤ cs.length ∧ AllOk R (cs.take i) ∧ z = horner R 0 (cs.take i) ∧ rest = cs.drop i

theorem ReadRel.next {R : Int} {cs : List Int} {i j : Nat} {z p pw : Int} {rest : List Int} (h : ReadRel R cs i z rest) (g : PartRel R rest j p pw) :
    ReadRel R cs (i + j) (z * pw + p) (rest.drop j) := by
  obtain ⟨hi, hok, hz, hr⟩ := h
  obtain ⟨hj, gok, gp, gw, _, _⟩ := g
  have e : cs.take (i + j) = cs.take i ++ rest.take j := by rw [hr, List.take_add]
  have hl : rest.length = cs.length - i := by rw [hr, List.length_drop]
  refine ⟨by omega, by rw [e]; exact hok.append gok, ?_, by rw [hr, List.drop_drop]⟩
  rw [e, horner_append, ← hz, horner_split, List.length_take, Nat.min_eq_left hj, gw, gp]

theorem ReadRel.not {R : Int} {cs : List Int} {i : Nat} {z : Int} {rest : List Int} (h : ReadRel R cs i z rest) (g : ¬ AllOk R rest) : ¬ AllOk R cs := by
  intro ho
  apply g
  rw [h.2.2.2]
  exact fun c hc => ho c (List.mem_of_mem_drop hc)

theorem ReadRel.all {R : Int} {cs : List Int} {i : Nat} {z : Int} (h : ReadRel R cs i z []) : AllOk R cs ∧ z = horner R 0 cs := by
  obtain ⟨hi, hok, hz, hr⟩ := h
  have hl := congrArg List.length hr
  rw [List.length_drop, List.length_nil] at hl
  rw [List.take_of_length_le (by omega)] at hok hz
  exact ⟨hok, hz⟩

end Go.Proofs.Ytoanomgdkkbbmaa
