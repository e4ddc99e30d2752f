/- Mathematics of the reference's Parse. -/
import Derived.Test.YtoanomgdkkbbmaaParse
import Derived.Test.YtoanomgdkkbbmaaRefMake
namespace Go.Proofs.Ytoanomgdkkbbmaa
open Go.RowKit LM

theorem Ints64.at {w : World} {base n c : Nat} {A : Option Addr} {ds : List Int} (h : Ints64 w base (.slice A n c) ds) (hn : ds.length = n) {k : Nat} (hk : k < n) :
    ∃ g, A = some ⟨g, 0, none⟩ ∧ base ≤ g ∧ w.cell? ⟨g, k, none⟩ = some (.int .i64 (ds.getD k 0)) ∧ w.frozen? ⟨g, k, none⟩ = false ∧ ∀ u, Ints64 (w.setCell ⟨g, k, none⟩ (.int .i64 u)) base (.slice A n c) (ds.set k u) := by
  have h' := h
  unfold Ints64 at h
  rw [hn] at h
  rcases h.2 with ⟨h0, h1⟩ | ⟨g, cap, cur, hv, hb, r⟩
  · omega
  · simp only [Value.slice.injEq, true_and] at hv
    obtain ⟨rfl, rfl⟩ := hv
    refine ⟨g, rfl, hb, ?_, h.frozenAt k, fun u => ?_⟩
    · rw [h.cellAt k (by omega)]; simp [List.getD, hn, hk]
    · have := (h.stored k (.int .i64 u)).1
      rw [← List.map_set] at this
      unfold Ints64
      rw [List.length_set, hn]
      exact this

theorem valR_set (R : Int) (l : List Int) (i : Nat) (d : Int) (h : i < l.length) : valR R (l.set i d) = valR R l + R ^ i * (d - l.getD i 0) := by
  induction l generalizing i with
  | nil => simp at h
  | cons x l ih =>
    cases i with
    | zero => simp [valR]; omega
    | succ i =>
      have := ih i (by simpa using h)
      simp only [List.set_cons_succ, valR, List.getD_cons_succ] at *
      rw [this, Int.pow_succ, Int.mul_add]
      grind

theorem DigR.set' {R : Int} {l : List Int} (h : DigR R l) (i : Nat) {d : Int} (h0 : 0 ≤ d) (h1 : d < R) : DigR R (l.set i d) := by
  intro x hx
  rcases List.mem_or_eq_of_mem_set hx with h' | rfl
  · exact h x h'
  · exact ⟨h0, h1⟩

/-- Digits ds times R and a digit d added: k digits are done, cc is carried. -/
def TimesRel (R d : Int) (ds cs : List Int) (k : Nat) (cc : Int) : Prop :=
  cs.length = ds.length ∧ k ≤ ds.length ∧ DigR 65536 cs ∧ 0 ≤ cc ∧ cc < R ∧ valR 65536 (cs.take k) + 65536 ^ k * cc = valR 65536 (ds.take k) * R + d ∧ cs.drop k = ds.drop k

theorem TimesRel.step {R d : Int} {ds cs : List Int} {k : Nat} {cc x : Int} (h : TimesRel R d ds cs k cc) (hR : 2 ≤ R) (hk : k < ds.length) (hx : cs.getD k 0 = x) :
    0 ≤ x ∧ x < 65536 ∧ 0 ≤ x * R ∧ x * R ≤ 65535 * R ∧ TimesRel R d ds (cs.set k ((x * R + cc) % 65536)) (k + 1) ((x * R + cc) / 65536) := by
  obtain ⟨hl, _, hd, c0, c1, hv, hr⟩ := h
  have hkc : k < cs.length := by omega
  have hxd : 0 ≤ x ∧ x < 65536 := by
    rw [← hx]
    have e : cs.getD k 0 = cs[k] := by simp [List.getD, hkc]
    rw [e]; exact hd _ (List.getElem_mem hkc)
  have hp0 : 0 ≤ x * R := Int.mul_nonneg hxd.1 (by omega)
  have hp1 : x * R ≤ 65535 * R := Int.mul_le_mul_of_nonneg_right (by omega) (by omega)
  have hdk : ds.getD k 0 = x := by
    have e1 : cs.getD k 0 = (cs.drop k).headD 0 := by cases hq : cs.drop k with
      | nil => have := congrArg List.length hq; simp at this; omega
      | cons a t => rw [drop_cons cs k hkc] at hq; simp at hq; rw [← hq.1]; rfl
    have e2 : ds.getD k 0 = (ds.drop k).headD 0 := by cases hq : ds.drop k with
      | nil => have := congrArg List.length hq; simp at this; omega
      | cons a t => rw [drop_cons ds k hk] at hq; simp at hq; rw [← hq.1]; rfl
    rw [e2, ← hr, ← e1, hx]
  refine ⟨hxd.1, hxd.2, hp0, hp1, by simpa using hl, hk, hd.set' k (Int.emod_nonneg _ (by decide)) (Int.emod_lt_of_pos _ (by decide)), Int.ediv_nonneg (by omega) (by decide), ?_, ?_, ?_⟩
  · exact Int.ediv_lt_of_lt_mul (by decide) (by omega)
  · have hkset : k < (cs.set k ((x * R + cc) % 65536)).length := by simpa using hkc
    have e3 : (cs.set k ((x * R + cc) % 65536)).getD k 0 = (x * R + cc) % 65536 := by simp [List.getD, hkc]
    rw [take_snoc _ k hkset, e3, take_snoc ds k hk, hdk, List.take_set_of_le (Nat.le_refl k), valR_append, valR_append, List.length_take, List.length_take, Nat.min_eq_left (by omega), Nat.min_eq_left (by omega)]
    simp only [valR, Int.mul_zero, Int.add_zero]
    rw [Int.add_mul, Int.pow_succ]
    have e4 : (65536 : Int) ^ k * (x * R + cc) = 65536 ^ k * (65536 * ((x * R + cc) / 65536)) + 65536 ^ k * ((x * R + cc) % 65536) := by
      rw [← Int.mul_add]
      exact congrArg _ (by omega : x * R + cc = 65536 * ((x * R + cc) / 65536) + (x * R + cc) % 65536)
    rw [Int.mul_add] at e4
    have e5 : (65536 : Int) ^ k * x * R = 65536 ^ k * (x * R) := Int.mul_assoc _ _ _
    have e6 : (65536 : Int) ^ k * 65536 * ((x * R + cc) / 65536) = 65536 ^ k * (65536 * ((x * R + cc) / 65536)) := Int.mul_assoc _ _ _
    rw [e5, e6]
    omega
  · have := congrArg (List.drop 1) hr
    rw [List.drop_drop, List.drop_drop] at this
    rw [List.drop_set_of_lt (by omega)]
    exact this

theorem TimesRel.start {R d : Int} {ds : List Int} (hd : DigR 65536 ds) (h0 : 0 ≤ d) (h1 : d < R) : TimesRel R d ds ds 0 d :=
  ⟨rfl, Nat.zero_le _, hd, h0, h1, by simp [valR], rfl⟩

/-- What is read: the digits of the number of i bytes. -/
def RRead (R : Int) (cs : List Int) (i : Nat) (ds : List Int) : Prop :=
  i ≤ cs.length ∧ AllOk R (cs.take i) ∧ DigR 65536 ds ∧ valR 65536 ds = horner R 0 (cs.take i) ∧ ds.length ≤ i

theorem RRead.next0 {R : Int} {cs ds es : List Int} {i : Nat} {c : Int} (h : RRead R cs i ds) (hi : i < cs.length) (hc : cs.getD i 0 = c) (hd : digVal 99 c < R) (g : TimesRel R (digVal 99 c) ds es ds.length 0) :
    RRead R cs (i + 1) es := by
  obtain ⟨_, hok, hds, hv, hl⟩ := h
  obtain ⟨gl, _, gd, _, _, gv, _⟩ := g
  have e : cs.take (i + 1) = cs.take i ++ [c] := by rw [take_snoc cs i hi, hc]
  rw [List.take_of_length_le (by omega), List.take_of_length_le (by omega), Int.mul_zero, Int.add_zero] at gv
  refine ⟨hi, by rw [e]; exact hok.snoc hd, gd, by rw [e, horner_snoc, ← hv, gv], by omega⟩

theorem RRead.next1 {R : Int} {cs ds es : List Int} {i : Nat} {c cc : Int} (h : RRead R cs i ds) (hi : i < cs.length) (hc : cs.getD i 0 = c) (hd : digVal 99 c < R) (hR : R ≤ 36) (g : TimesRel R (digVal 99 c) ds es ds.length cc) :
    RRead R cs (i + 1) (es ++ [cc]) := by
  obtain ⟨_, hok, hds, hv, hl⟩ := h
  obtain ⟨gl, _, gd, c0, c1, gv, _⟩ := g
  have e : cs.take (i + 1) = cs.take i ++ [c] := by rw [take_snoc cs i hi, hc]
  rw [List.take_of_length_le (by omega), List.take_of_length_le (by omega)] at gv
  refine ⟨hi, by rw [e]; exact hok.snoc hd, ?_, ?_, by simp; omega⟩
  · intro x hx
    rcases List.mem_append.1 hx with hx | hx
    · exact gd x hx
    · simp at hx; subst hx; omega
  · rw [e, horner_snoc, ← hv, ← gv, valR_append, gl]; simp [valR]

theorem RRead.bad {R : Int} {cs ds : List Int} {i : Nat} {c : Int} (_h : RRead R cs i ds) (hi : i < cs.length) (hc : cs.getD i 0 = c) (hd : ¬ digVal 99 c < R) : ¬ AllOk R cs := by
  intro ho
  apply hd
  rw [← hc]
  apply ho
  have : cs.getD i 0 = cs[i] := by simp [List.getD, hi]
  rw [this]
  exact List.getElem_mem hi

theorem digVal_same {c R : Int} (hR : R ≤ 36) : (digVal 36 c < R ↔ digVal 99 c < R) ∧ (digVal 99 c < R → digVal 36 c = digVal 99 c) := by
  unfold digVal; split
  · exact ⟨Iff.rfl, fun _ => rfl⟩
  · split
    · exact ⟨Iff.rfl, fun _ => rfl⟩
    · split
      · exact ⟨Iff.rfl, fun _ => rfl⟩
      · exact ⟨by omega, fun h => by omega⟩

end Go.Proofs.Ytoanomgdkkbbmaa
