/- Numbers as lists of digits to the base 2^32: plain facts, without any program. -/
namespace Go.Proofs.Ytoanomgdkkbbmaa.LM

def BB : Int := 4294967296
theorem BB_def : BB = 4294967296 := rfl

def val : List Int → Int
  | [] => 0
  | d :: l => d + BB * val l

def Dig (l : List Int) : Prop := ∀ i, i < l.length → 0 ≤ l.getD i 0 ∧ l.getD i 0 < BB

def Trimmed (l : List Int) : Prop := l.length = 0 ∨ l.getD (l.length - 1) 0 ≠ 0

theorem getD_out (l : List Int) (i : Nat) (h : l.length ≤ i) : l.getD i 0 = 0 := by simp [List.getD, List.getElem?_eq_none h]

theorem BB_pos (n : Nat) : 0 < BB ^ n := Int.pow_pos (by decide)

theorem Dig.nil : Dig [] := by intro i h; simp at h

theorem Dig.cons_iff {d : Int} {l : List Int} : Dig (d :: l) ↔ (0 ≤ d ∧ d < BB) ∧ Dig l := by
  constructor
  · intro h
    refine ⟨by simpa using h 0 (by simp), fun i hi => ?_⟩
    simpa using h (i + 1) (by simpa using hi)
  · rintro ⟨h0, h⟩ i hi
    cases i with
    | zero => simpa using h0
    | succ i => simpa using h i (by simpa using hi)

theorem Dig.append {a b : List Int} (ha : Dig a) (hb : Dig b) : Dig (a ++ b) := by
  induction a with
  | nil => simpa using hb
  | cons d a ih =>
    rw [List.cons_append, Dig.cons_iff]
    rw [Dig.cons_iff] at ha
    exact ⟨ha.1, ih ha.2⟩

theorem Dig.one {d : Int} (h0 : 0 ≤ d) (h1 : d < BB) : Dig [d] := by
  rw [Dig.cons_iff]; exact ⟨⟨h0, h1⟩, Dig.nil⟩

theorem Dig.take {a : List Int} (h : Dig a) (n : Nat) : Dig (a.take n) := by
  intro i hi
  have h1 : i < a.length := by simp at hi; omega
  have h2 : i < n := by simp at hi; omega
  have := h i h1
  simpa [List.getD, List.getElem?_take, h2] using this

theorem Dig.drop {a : List Int} (h : Dig a) (n : Nat) : Dig (a.drop n) := by
  intro i hi
  have h1 : n + i < a.length := by simp at hi; omega
  have := h (n + i) h1
  simpa [List.getD] using this

theorem Dig.getD {a : List Int} (h : Dig a) (i : Nat) : 0 ≤ a.getD i 0 ∧ a.getD i 0 < BB := by
  by_cases hi : i < a.length
  · exact h i hi
  · rw [getD_out _ _ (by omega)]; decide

theorem val_nil : val [] = 0 := rfl
theorem val_cons (d : Int) (l : List Int) : val (d :: l) = d + BB * val l := rfl

theorem val_append (a b : List Int) : val (a ++ b) = val a + BB ^ a.length * val b := by
  induction a with
  | nil => simp [val]
  | cons d a ih =>
    rw [List.cons_append, val_cons, val_cons, ih, List.length_cons, Int.pow_succ, Int.mul_add]
    rw [Int.mul_comm (BB ^ a.length) BB, Int.mul_assoc]; omega

theorem val_snoc (a : List Int) (d : Int) : val (a ++ [d]) = val a + BB ^ a.length * d := by
  rw [val_append]; simp [val]

theorem val_bounds {l : List Int} (h : Dig l) : 0 ≤ val l ∧ val l < BB ^ l.length := by
  induction l with
  | nil => simp [val]
  | cons d l ih =>
    rw [Dig.cons_iff] at h
    obtain ⟨h0, h1⟩ := ih h.2
    rw [val_cons, List.length_cons, Int.pow_succ, Int.mul_comm (BB ^ l.length) BB]
    have hb := h.1
    rw [BB_def] at *
    constructor <;> omega

theorem val_zeros (n : Nat) : val (List.replicate n 0) = 0 := by
  induction n with
  | zero => rfl
  | succ n ih => rw [List.replicate_succ, val_cons, ih]; simp

theorem take_snoc (l : List Int) (i : Nat) (h : i < l.length) : l.take (i + 1) = l.take i ++ [l.getD i 0] := by
  rw [List.take_add_one, List.getElem?_eq_getElem h]; simp [List.getD, List.getElem?_eq_getElem h]

theorem val_take_succ (l : List Int) (i : Nat) : val (l.take (i + 1)) = val (l.take i) + BB ^ i * l.getD i 0 := by
  by_cases h : i < l.length
  · rw [take_snoc l i h, val_snoc, List.length_take, Nat.min_eq_left (by omega)]
  · rw [List.take_of_length_le (by omega), List.take_of_length_le (by omega), getD_out _ _ (by omega)]; simp

theorem val_split (l : List Int) (i : Nat) (h : i ≤ l.length) : val l = val (l.take i) + BB ^ i * val (l.drop i) := by
  have := val_append (l.take i) (l.drop i)
  rw [List.take_append_drop, List.length_take, Nat.min_eq_left h] at this
  exact this

/-- A trimmed list that is not empty is at least a power of the base. -/
theorem val_ge {l : List Int} (hd : Dig l) (ht : Trimmed l) (hn : l.length ≠ 0) : BB ^ (l.length - 1) ≤ val l := by
  have e : l.take (l.length - 1 + 1) = l := List.take_of_length_le (by omega)
  have h1 := val_take_succ l (l.length - 1)
  rw [e] at h1
  have h2 := (val_bounds (hd.take (l.length - 1))).1
  have h3 := hd (l.length - 1) (by omega)
  have h4 : 1 ≤ l.getD (l.length - 1) 0 := by
    rcases ht with h | h
    · omega
    · omega
  have h5 : BB ^ (l.length - 1) * 1 ≤ BB ^ (l.length - 1) * l.getD (l.length - 1) 0 := Int.mul_le_mul_of_nonneg_left h4 (Int.le_of_lt (BB_pos _))
  omega

theorem pow_le {m n : Nat} (h : m ≤ n) : BB ^ m ≤ BB ^ n := by
  obtain ⟨k, rfl⟩ := Nat.exists_eq_add_of_le h
  induction k with
  | zero => simp
  | succ k ih =>
    have := ih (by omega)
    rw [← Nat.add_assoc, Int.pow_succ]
    have hp := BB_pos (m + k)
    rw [BB_def] at *
    omega

/-- The shorter trimmed list has the less value. -/
theorem val_lt_of_length {a b : List Int} (ha : Dig a) (hb : Dig b) (tb : Trimmed b) (h : a.length < b.length) : val a < val b := by
  have h1 := (val_bounds ha).2
  have h2 := val_ge hb tb (by omega)
  have h3 : BB ^ a.length ≤ BB ^ (b.length - 1) := pow_le (by omega)
  omega

theorem val_inj {a b : List Int} (ha : Dig a) (hb : Dig b) (hl : a.length = b.length) (h : val a = val b) : a = b := by
  induction a generalizing b with
  | nil => exact (List.eq_nil_of_length_eq_zero (by simpa using hl.symm)).symm
  | cons d a ih =>
    match b, hl with
    | e :: b, hl =>
      rw [Dig.cons_iff] at ha hb
      rw [val_cons, val_cons] at h
      have h1 := ha.1
      have h2 := hb.1
      rw [BB_def] at *
      have hde : d = e := by omega
      have hv : val a = val b := by omega
      rw [hde, ih ha.2 hb.2 (by simpa using hl) hv]

theorem val_inj_trimmed {a b : List Int} (ha : Dig a) (hb : Dig b) (ta : Trimmed a) (tb : Trimmed b) (h : val a = val b) : a = b := by
  rcases Nat.lt_trichotomy a.length b.length with hl | hl | hl
  · have := val_lt_of_length ha hb tb hl; omega
  · exact val_inj ha hb hl h
  · have := val_lt_of_length hb ha ta hl; omega

/-- Two lists of one length that agree from i + 1 on are ordered by their digit i, if it is different. -/
theorem val_lt_at {a b : List Int} (ha : Dig a) (hb : Dig b) (i : Nat) (hia : i < a.length) (hl : a.length = b.length) (hs : a.drop (i + 1) = b.drop (i + 1)) (h : a.getD i 0 < b.getD i 0) : val a < val b := by
  have ea := val_split a (i + 1) (by omega)
  have eb := val_split b (i + 1) (by omega)
  rw [hs, val_take_succ] at ea
  rw [val_take_succ] at eb
  have ba := val_bounds (ha.take i)
  have bb := val_bounds (hb.take i)
  rw [List.length_take, Nat.min_eq_left (by omega)] at ba bb
  have hm : BB ^ i * (a.getD i 0 + 1) ≤ BB ^ i * b.getD i 0 := Int.mul_le_mul_of_nonneg_left (by omega) (Int.le_of_lt (BB_pos _))
  rw [Int.mul_add] at hm
  omega

theorem trimmed_zero {l : List Int} (hd : Dig l) (ht : Trimmed l) : val l = 0 ↔ l = [] := by
  constructor
  · intro h
    by_cases hn : l.length = 0
    · exact List.eq_nil_of_length_eq_zero hn
    · have := val_ge hd ht hn
      have := BB_pos (l.length - 1)
      omega
  · rintro rfl; rfl

/-- The sign of a difference. -/
def cmpI (a b : Int) : Int := if a < b then -1 else if a = b then 0 else 1

theorem cmpI_lt {a b : Int} (h : a < b) : cmpI a b = -1 := by simp [cmpI, h]
theorem cmpI_eq {a b : Int} (h : a = b) : cmpI a b = 0 := by simp [cmpI, h]
theorem cmpI_gt {a b : Int} (h : b < a) : cmpI a b = 1 := by simp [cmpI, Int.not_lt.2 (Int.le_of_lt h), Int.ne_of_gt h]

theorem drop_cons (l : List Int) (i : Nat) (h : i < l.length) : l.drop i = l.getD i 0 :: l.drop (i + 1) := by
  rw [List.drop_eq_getElem_cons h]; simp [List.getD, List.getElem?_eq_getElem h]

theorem pow_split (k : Nat) (r q : Int) : BB ^ k * r + BB ^ (k + 1) * q = BB ^ k * (r + BB * q) := by
  rw [Int.pow_succ, Int.mul_assoc, ← Int.mul_add]

theorem digit_split (s : Int) : s % BB + BB * (s / BB) = s := Int.emod_add_mul_ediv s BB

theorem Dig.snoc {l : List Int} (h : Dig l) {d : Int} (h0 : 0 ≤ d) (h1 : d < BB) : Dig (l ++ [d]) := h.append (Dig.one h0 h1)

/-- One step of a sum. -/
theorem add_step {ds xs ys : List Int} {k : Nat} {cc x y : Int} (hl : ds.length = k) (hd : Dig ds) (hc : 0 ≤ cc ∧ cc ≤ 1) (hx : 0 ≤ x ∧ x < BB) (hy : 0 ≤ y ∧ y < BB)
    (ex : xs.getD k 0 = x) (ey : ys.getD k 0 = y) (hv : val ds + BB ^ k * cc = val (xs.take k) + val (ys.take k)) :
    Dig (ds ++ [(cc + (x + y)) % BB]) ∧ (0 ≤ (cc + (x + y)) / BB ∧ (cc + (x + y)) / BB ≤ 1) ∧
      val (ds ++ [(cc + (x + y)) % BB]) + BB ^ (k + 1) * ((cc + (x + y)) / BB) = val (xs.take (k + 1)) + val (ys.take (k + 1)) := by
  refine ⟨hd.snoc (Int.emod_nonneg _ (by decide)) (Int.emod_lt_of_pos _ (by decide)), ?_, ?_⟩
  · rw [BB_def] at *; omega
  · rw [val_snoc, hl, Int.add_assoc, pow_split, digit_split, Int.mul_add, Int.mul_add, val_take_succ, val_take_succ, ex, ey]
    omega

end Go.Proofs.Ytoanomgdkkbbmaa.LM
