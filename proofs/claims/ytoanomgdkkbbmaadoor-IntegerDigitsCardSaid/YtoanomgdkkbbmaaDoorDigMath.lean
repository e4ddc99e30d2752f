/- Texts of integers, read back: the mathematics of IntegerDigits. -/
import Derived.Test.YtoanomgdkkbbmaaDoorTexts
import Derived.Lib.Repeat
import Derived.Lib.Case
namespace Go.Proofs.YtoanomgdkkbbmaaDoor
open Go.RowKit LM

/-- The digits of a text: the body, for 0, too. -/
def TextOf (R x : Int) (ds : List Int) (T : ByteArray) : Prop :=
  DigR R ds ∧ valR R ds = (if x < 0 then -x else x) ∧ ds ≠ [] ∧ (ds.getLastD 0 ≠ 0 ∨ x = 0 ∧ ds = [0]) ∧ bs T = textBytes (decide (x < 0)) ds

theorem TextRel.of {R x : Int} {T : ByteArray} {r : Int} (h : TextRel R x T r) (h0 : 2 ≤ R) (h1 : R ≤ 36) : r = 0 ∧ ∃ ds, TextOf R x ds T := by
  rcases h with ⟨h, _⟩ | ⟨_, _, rfl, rfl, rfl⟩ | ⟨_, _, hx, rfl, ds, ⟨a, b, c, d⟩, e⟩
  · omega
  · exact ⟨rfl, [0], fun d hd => by simp at hd; omega, by simp [valR], by simp, .inr ⟨rfl, rfl⟩, rfl⟩
  · exact ⟨rfl, ds, a, b, c, .inl d, e⟩

theorem digVal_name {d : Int} (h0 : 0 ≤ d) (h1 : d < 36) : digVal 99 (nameOf d) = d := by
  unfold digVal nameOf
  by_cases h : d < 10
  · rw [if_pos h, if_pos (by omega)]; omega
  · rw [if_neg h, if_neg (by omega), if_pos (by omega)]; omega

/-- A small letter. -/
def lowI (c : Int) : Int := if 65 ≤ c ∧ c ≤ 90 then c + 32 else c

theorem digVal_low {d : Int} (h0 : 0 ≤ d) (h1 : d < 36) : digVal 99 (lowI (nameOf d)) = d := by
  unfold digVal lowI nameOf
  by_cases h : d < 10
  · rw [if_pos h, if_neg (by omega : ¬ (65 ≤ d + 48 ∧ d + 48 ≤ 90)), if_pos (by omega)]; omega
  · rw [if_neg h, if_pos (by omega : 65 ≤ d + 55 ∧ d + 55 ≤ 90), if_neg (by omega), if_neg (by omega), if_pos (by omega)]; omega

theorem horner_rev (R : Int) (f : Int → Int) : ∀ ds : List Int, (∀ d ∈ ds, digVal 99 (f d) = d) → horner R 0 ((ds.map f).reverse) = valR R ds
  | [], _ => rfl
  | d :: ds, h => by
    rw [List.map_cons, List.reverse_cons, horner_snoc, horner_rev R f ds (fun x hx => h x (by simp [hx])), h d (by simp)]
    simp only [valR]
    rw [Int.mul_comm]; omega

theorem horner_zeros (R : Int) (L : List Int) : ∀ m : Nat, horner R 0 (List.replicate m 48 ++ L) = horner R 0 L
  | 0 => by simp
  | m + 1 => by
    rw [List.replicate_succ, List.cons_append, horner]
    have e : (0 : Int) * R + digVal 99 48 = 0 := by rw [Int.zero_mul]; decide
    rw [e]
    exact horner_zeros R L m

theorem allOk_rev {R : Int} (f : Int → Int) {ds : List Int} (hd : DigR R ds) (h : ∀ d ∈ ds, digVal 99 (f d) = d) : AllOk R ((ds.map f).reverse) := by
  intro c hc
  rw [List.mem_reverse] at hc
  obtain ⟨d, hm, rfl⟩ := List.mem_map.1 hc
  rw [h d hm]
  exact (hd d hm).2

theorem head_name {f : Int → Int} {ds : List Int} (h : ds ≠ []) (a : Int) : ((ds.map f).reverse).headD a = f (ds.getLastD 0) := by
  obtain ⟨l, d, rfl⟩ : ∃ l d, ds = l ++ [d] := ⟨ds.dropLast, ds.getLast h, (List.dropLast_concat_getLast h).symm⟩
  simp

theorem nameOf_ge {d : Int} (h : 0 ≤ d) : 48 ≤ nameOf d := by
  unfold nameOf; split <;> omega

theorem lastD_mem {ds : List Int} (h : ds ≠ []) : ds.getLastD 0 ∈ ds := by
  rw [List.getLastD_eq_getLast?, List.getLast?_eq_some_getLast h]; exact List.getLast_mem h

theorem parse_back {R x z r : Int} {ds : List Int} {cs : List Int} {f : Int → Int} {s : List Int} {m : Nat} (h0 : 2 ≤ R) (h1 : R ≤ 36)
    (hd : DigR R ds) (hv : valR R ds = (if x < 0 then -x else x)) (hne : ds ≠ []) (hf : ∀ d ∈ ds, digVal 99 (f d) = d)
    (hs : s = [45] ∧ x < 0 ∨ s = [43] ∧ ¬ x < 0 ∨ s = [] ∧ ¬ x < 0 ∧ ((ds.map f).reverse).headD 0 ≠ 45 ∧ ((ds.map f).reverse).headD 0 ≠ 43 ∧ m = 0)
    (hc : cs = s ++ (List.replicate m 48 ++ (ds.map f).reverse)) (h : ParseRel R cs z r) : z = x ∧ r = 0 := by
  have hbody : bodyOf cs = List.replicate m 48 ++ (ds.map f).reverse := by
    rcases hs with ⟨rfl, _⟩ | ⟨rfl, _⟩ | ⟨rfl, _, g1, g2, rfl⟩
    · rw [hc]; simp [bodyOf]
    · rw [hc]; simp [bodyOf]
    · rw [hc]
      simp only [List.nil_append, List.replicate_zero]
      unfold bodyOf
      rw [if_neg (by rintro (h | h); exact g1 h; exact g2 h)]
  have hhead : (decide (cs.headD 0 = 45)) = decide (x < 0) := by
    rcases hs with ⟨rfl, hx⟩ | ⟨rfl, hx⟩ | ⟨rfl, hx, g1, g2, rfl⟩
    · rw [hc]; simp [hx]
    · rw [hc]; simp [hx]
    · rw [hc]
      simp only [List.nil_append, List.replicate_zero]
      rw [decide_eq_false g1, decide_eq_false hx]
  have hok : AllOk R (bodyOf cs) := by
    rw [hbody]
    refine AllOk.append (fun c hc => ?_) (allOk_rev f hd hf)
    rw [List.mem_replicate] at hc
    obtain ⟨_, rfl⟩ := hc
    have e : digVal 99 48 = 0 := by decide
    omega
  have hnb : bodyOf cs ≠ [] := by
    rw [hbody]; simp [hne]
  have hval : horner R 0 (bodyOf cs) = (if x < 0 then -x else x) := by
    rw [hbody, horner_zeros, horner_rev R f ds hf, hv]
  rcases h with ⟨g, _⟩ | ⟨_, _, _, _, hz, hr⟩ | ⟨_, _, g, _⟩
  · omega
  · refine ⟨?_, hr⟩
    rw [hz, hhead, hval]
    by_cases hx : x < 0
    · rw [if_pos hx, decide_eq_true hx]; simp [withSign]
    · rw [if_neg hx, decide_eq_false hx]; simp [withSign]
  · exact absurd ⟨hnb, hok⟩ g

/- Bytes. -/
theorem bs_mk (l : List UInt8) : bs ⟨l.toArray⟩ = l.map fun b => (b.toNat : Int) := by
  unfold bs; simp

theorem prefix_is (T : ByteArray) (c : UInt8) (hc : c.toNat ≠ 0) : Lib.hasPrefix T.data.toList [c] = decide ((bs T).headD 0 = (c.toNat : Int)) := by
  unfold Lib.hasPrefix bs
  cases h : T.data.toList with
  | nil =>
    rw [List.map_nil, decide_eq_false (by simp; omega)]; rfl
  | cons a r =>
    simp only [List.isPrefixOf, List.map_cons, List.headD_cons, Bool.and_true]
    by_cases e : c = a
    · subst e; simp
    · have e2 : ¬ ((a.toNat : Int) = (c.toNat : Int)) := fun h => e (UInt8.toNat_inj.1 (by omega))
      rw [decide_eq_false e2]; simpa using e

theorem trim_bs (T : ByteArray) : bs ⟨(Lib.trimPrefix T.data.toList [45]).toArray⟩ = if (bs T).headD 0 = 45 then (bs T).tail else bs T := by
  unfold Lib.trimPrefix
  rw [prefix_is T 45 (by decide), bs_mk]
  by_cases h : (bs T).headD 0 = 45
  · rw [if_pos (by simpa using h), if_pos h]
    unfold bs
    cases T.data.toList <;> simp
  · rw [if_neg (by simpa using h), if_neg h]
    rfl

theorem repeat_bs (c : Nat) : bs ⟨(Lib.repeatL [48] c).toArray⟩ = List.replicate c 48 := by
  rw [bs_mk]
  induction c with
  | zero => rfl
  | succ c ih => rw [Lib.repeatL, List.map_append, ih, List.replicate_succ]; rfl

theorem lowerB_is (b : UInt8) : ((Lib.lowerB b).toNat : Int) = lowI (b.toNat : Int) := by
  unfold Lib.lowerB Lib.isUpperB lowI
  by_cases h : 65 ≤ b.toNat ∧ b.toNat ≤ 90
  · have e : (decide (65 ≤ b) && decide (b ≤ 90)) = true := by
      rw [Bool.and_eq_true, decide_eq_true_iff, decide_eq_true_iff, UInt8.le_iff_toNat_le, UInt8.le_iff_toNat_le]; exact h
    rw [if_pos e, if_pos (by omega)]
    rw [UInt8.toNat_add]
    have : (32 : UInt8).toNat = 32 := rfl
    omega
  · have e : ¬ ((decide (65 ≤ b) && decide (b ≤ 90)) = true) := by
      rw [Bool.and_eq_true, decide_eq_true_iff, decide_eq_true_iff, UInt8.le_iff_toNat_le, UInt8.le_iff_toNat_le]; exact h
    rw [if_neg e, if_neg (by omega)]

theorem lower_bs (D : ByteArray) : bs ⟨(Lib.toLowerA D.data.toList).toArray⟩ = (bs D).map lowI := by
  rw [bs_mk]
  unfold Lib.toLowerA bs
  rw [List.map_map, List.map_map]
  exact List.map_congr_left fun b _ => lowerB_is b

theorem valR_last_ge {R : Int} (hR : 2 ≤ R) {ds : List Int} (hd : DigR R ds) (hne : ds ≠ []) (hl : ds.getLastD 0 ≠ 0) : R ^ (ds.length - 1) ≤ valR R ds := by
  obtain ⟨l, d, rfl⟩ : ∃ l d, ds = l ++ [d] := ⟨ds.dropLast, ds.getLast hne, (List.dropLast_concat_getLast hne).symm⟩
  have hd0 := (hd d (by simp)).1
  have hl0 : d ≠ 0 := by simpa [List.getLastD_concat] using hl
  have h1 := valR_nonneg (by omega : (0 : Int) ≤ R) (fun x hx => hd x (by simp [hx]) : DigR R l)
  rw [valR_append]
  have e : (l ++ [d]).length - 1 = l.length := by simp
  rw [e]
  have h2 : (0 : Int) ≤ R ^ l.length := Int.pow_nonneg (by omega)
  have h3 : R ^ l.length * 1 ≤ R ^ l.length * d := Int.mul_le_mul_of_nonneg_left (by omega) h2
  have h4 : valR R [d] = d := by simp [valR]
  rw [h4]; omega

theorem body_head {R : Int} {ds : List Int} (hR : R ≤ 36) (hd : DigR R ds) (hne : ds ≠ []) (a : Int) : 48 ≤ ((ds.map nameOf).reverse).headD a ∧ ((ds.map nameOf).reverse).headD a ≤ 90 := by
  rw [head_name hne]
  have := hd _ (lastD_mem hne)
  unfold nameOf; split <;> omega

theorem TextOf.parts {R x : Int} {ds : List Int} {T : ByteArray} (h : TextOf R x ds T) (hR : R ≤ 36) :
    bs ⟨(Lib.trimPrefix T.data.toList [45]).toArray⟩ = (ds.map nameOf).reverse ∧ Lib.hasPrefix T.data.toList [45] = decide (x < 0) := by
  obtain ⟨hd, hv, hne, hl, ht⟩ := h
  have hh := body_head hR hd hne 0
  have e : (bs T).headD 0 = 45 ↔ x < 0 := by
    rw [ht]
    by_cases hx : x < 0
    · simp [textBytes, hx]
    · have e2 : textBytes (decide (x < 0)) ds = (ds.map nameOf).reverse := by rw [decide_eq_false hx]; rfl
      rw [e2]
      exact ⟨fun h => by omega, fun h => absurd h hx⟩
  refine ⟨?_, ?_⟩
  · rw [trim_bs]
    by_cases hx : x < 0
    · rw [if_pos (e.2 hx), ht, decide_eq_true hx]; rfl
    · rw [if_neg (fun h => hx (e.1 h)), ht, decide_eq_false hx]; rfl
  · rw [prefix_is T 45 (by decide)]
    exact decide_eq_decide.2 e

theorem name_ascii {R : Int} {ds : List Int} (hR : R ≤ 36) (hd : DigR R ds) {D : ByteArray} (h : bs D = (ds.map nameOf).reverse) (j : Nat) (b : UInt8) (hb : D.data.toList[j]? = some b) : b.toNat < 128 := by
  have hm : (b.toNat : Int) ∈ bs D := by
    unfold bs; exact List.mem_map.2 ⟨b, List.mem_of_getElem? hb, rfl⟩
  rw [h, List.mem_reverse] at hm
  obtain ⟨d, hd', e⟩ := List.mem_map.1 hm
  have := hd d hd'
  have h2 : nameOf d ≤ 90 := by unfold nameOf; split <;> omega
  omega

theorem TextOf.len {R x : Int} {ds : List Int} {T : ByteArray} {L : Nat} (h : TextOf R x ds T) (hR : 2 ≤ R) (hx : (if x < 0 then -x else x) < BB ^ L) (hL : 1 ≤ L) : ds.length ≤ 32 * L + 1 := by
  obtain ⟨hd, hv, hne, hl, ht⟩ := h
  rcases hl with hl | ⟨_, rfl⟩
  · have h1 := valR_last_ge hR hd hne hl
    rw [hv] at h1
    have := len_bound hR h1 hx
    omega
  · simp

/-- The digits' text is 0's just for 0. -/
theorem zero_text {R x : Int} {ds : List Int} {T D : ByteArray} (h : TextOf R x ds T) (hR2 : 2 ≤ R) (hD : bs D = (ds.map nameOf).reverse) :
    (x = 0 → D = ⟨#[48]⟩) ∧ (x ≠ 0 → D ≠ ⟨#[48]⟩ ∧ Lib.hasPrefix D.data.toList [48] = false) := by
  obtain ⟨hd, hv, hne, hl, ht⟩ := h
  refine ⟨fun hx => ?_, fun hx => ?_⟩
  · subst hx
    rcases hl with hl | ⟨_, rfl⟩
    · exfalso
      have h1 := valR_last_ge hR2 hd hne hl
      have h2 : (0 : Int) < R ^ (ds.length - 1) := Int.pow_pos (by omega)
      rw [hv] at h1
      simp at h1
      omega
    · exact bs_inj hD
  · have hl' : ds.getLastD 0 ≠ 0 := by rcases hl with hl | ⟨h, _⟩; exact hl; exact absurd h hx
    have hm := hd _ (lastD_mem hne)
    have hh : (bs D).headD 0 ≠ 48 := by
      rw [hD, head_name hne]; unfold nameOf; split <;> omega
    refine ⟨?_, ?_⟩
    · intro e
      apply hh; rw [e]; rfl
    · rw [prefix_is D 48 (by decide)]
      exact decide_eq_false hh

end Go.Proofs.YtoanomgdkkbbmaaDoor
