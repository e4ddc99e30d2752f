/- The reference: trimmed, made, New. -/
import Derived.Test.YtoanomgdkkbbmaaText
namespace Go.Proofs.Ytoanomgdkkbbmaa
open Go.RowKit LM

theorem Try.info3 : (Try.prog.info? 3).map (fun i => (i.zero, i.size, i.bytes)) = some (some (.int .i64 0), 1, 8) := by kernel_rfl

theorem valR_take_zero (R : Int) (ds : List Int) (n : Nat) (h : ds.getD n 0 = 0) : valR R (ds.take (n + 1)) = valR R (ds.take n) := by
  by_cases hn : n < ds.length
  · rw [take_snoc ds n hn, valR_append, h]; simp [valR]
  · rw [List.take_of_length_le (by omega), List.take_of_length_le (by omega)]

def RTrim (n : Nat) (xs : List Int) (w : World) (e : Ending) (w' : World) : Prop :=
  ∃ A' k c', k ≤ n ∧ e = .returned (.slice A' k c') ∧ w = w' ∧ Row .i64 w A' k c' (xs.take k) ∧ valR 65536 (xs.take k) = valR 65536 xs ∧ Trimmed (xs.take k)

theorem rtrim_any (A : Option Addr) (n c : Nat) (xs : List Int) (w : World) (h : Row .i64 w A n c xs) (hn : n ≤ 1073741824) :
    Calls Try.prog 110 #[.slice A n c] w (RTrim n xs w) := by
  have HH := Lib.hid h
  obtain ⟨hl, hc, hcell⟩ := h
  have HL := Lib.hid hl
  clear hl
  go_enter Try.func110, Try.ntmps110
  go_wp2_with fail
  go_loop [3] (fun s => ∃ k : Nat, k ≤ n ∧ s = .int .i64 k ∧ Hid (valR 65536 (xs.take k) = valR 65536 xs)) (fun s => (intOf s).toNat)
  case atStart => exact ⟨n, Nat.le_refl _, rfl, Lib.hid (by rw [List.take_of_length_le (by rw [HL.out]; exact Nat.le_refl _)])⟩
  case round =>
    obtain ⟨k, hk, rfl, Hv⟩ := hrel
    by_cases h0 : k = 0
    · subst h0
      cases A with
      | none =>
        obtain ⟨hn0, hc0⟩ : n = 0 ∧ True := by
          rcases Nat.eq_zero_or_pos n with h | h
          · exact ⟨h, trivial⟩
          · obtain ⟨b, o, e, _⟩ := hcell (by omega); cases e
        subst hn0
        go_wp2
        go_ret
        exact ⟨_, 0, _, by omega, rfl, rfl, Row.nil_, Hv.out, .inl rfl⟩
      | some a =>
        go_wp2
        go_ret
        exact ⟨_, 0, _, by omega, rfl, rfl, Row.nil_, Hv.out, .inl rfl⟩
    · have hn0 : n ≠ 0 := by omega
      obtain ⟨b, o, rfl, hb, hx⟩ := hcell hn0
      have hp : (0 : Int) < (k : Int) := by omega
      have hx1 := hx (k - 1) (by omega)
      obtain ⟨x, ex⟩ : ∃ x, xs.getD (k - 1) 0 = x := ⟨_, rfl⟩
      rw [ex] at hx1
      have EX := Lib.hid ex
      clear hx hcell ex
      have q1 : (0 : Int) ≤ (k : Int) - 1 := by omega
      have q2 : (k : Int) - 1 < (n : Int) := by omega
      have q3 : ((k : Int) - 1).toNat = k - 1 := by omega
      by_cases hx0 : x = 0
      · have HX0 := Lib.hid hx0
        subst hx0
        go_wp2
        refine ⟨⟨k - 1, by omega, by go_num, Lib.hid ?_⟩, by simp [intOf]; omega⟩
        have h1 := valR_take_zero 65536 xs (k - 1) EX.out
        rw [show k - 1 + 1 = k from by omega, Hv.out] at h1
        exact h1.symm
      · have hx2 : (x == 0) = false := by simpa using hx0
        go_wp2
        go_ret
        refine ⟨_, k, _, hk, rfl, rfl, HH.out.take hk, Hv.out, .inr ?_⟩
        have hl := HL.out
        have e1 : (xs.take k).length = k := by rw [List.length_take]; omega
        have e2 : (xs.take k).getD (k - 1) 0 = xs.getD (k - 1) 0 := by
          rw [List.getD, List.getElem?_take, if_pos (by omega)]; rfl
        rw [e1, e2, EX.out]; exact hx0

/-- A value that reads as the reference's integer z. -/
def Rval (w : World) (v : Value) (z : Int) (L : Nat) : Prop :=
  ∃ neg A n c ds, v = .agg #[.bool neg, .slice A n c] ∧ Row .i64 w A n c ds ∧ DigR 65536 ds ∧ Trimmed ds ∧ z = withSign neg (valR 65536 ds) ∧ (neg = true → valR 65536 ds ≠ 0) ∧ n ≤ L

theorem DigR.take {R : Int} {l : List Int} (h : DigR R l) (k : Nat) : DigR R (l.take k) := fun d hd => h d (List.mem_of_mem_take hd)

theorem valR_zero_iff {ds : List Int} (hd : DigR 65536 ds) (ht : Trimmed ds) : valR 65536 ds = 0 ↔ ds = [] := by
  constructor
  · intro h
    rcases ht with h0 | h0
    · exact List.eq_nil_of_length_eq_zero h0
    · exfalso
      by_cases hn : ds.length = 0
      · rw [List.eq_nil_of_length_eq_zero hn] at h0; simp at h0
      · have e : ds.take (ds.length - 1 + 1) = ds := List.take_of_length_le (by omega)
        have h1 : valR 65536 ds = valR 65536 (ds.take (ds.length - 1)) + 65536 ^ (ds.length - 1) * ds.getD (ds.length - 1) 0 := by
          have h2 := take_snoc ds (ds.length - 1) (by omega)
          rw [e] at h2
          have h3 := congrArg (valR 65536) h2
          rw [valR_append, List.length_take, Nat.min_eq_left (by omega)] at h3
          simpa [valR] using h3
        have h2 := valR_nonneg (by decide : (0 : Int) ≤ 65536) (hd.take (ds.length - 1))
        have h3 : ds.getD (ds.length - 1) 0 ∈ ds := by simp [List.getD, show ds.length - 1 < ds.length by omega]
        have h4 := hd _ h3
        have h5 : (0 : Int) < 65536 ^ (ds.length - 1) := Int.pow_pos (by decide)
        have h6 : 65536 ^ (ds.length - 1) * 1 ≤ 65536 ^ (ds.length - 1) * ds.getD (ds.length - 1) 0 := Int.mul_le_mul_of_nonneg_left (by omega) (by omega)
        omega
  · rintro rfl; rfl

/-- made, of digits that need not be trimmed. -/
def RMade (w : World) (z : Int) (n : Nat) (e : Ending) (w' : World) : Prop :=
  ∃ ng A2 n2 c2, e = .returned (.agg #[.bool ng, .slice A2 n2 c2]) ∧ Rval w' (.agg #[.bool ng, .slice A2 n2 c2]) z n ∧ Below w.heap.size w w'

theorem Rval.below {w w' : World} {v : Value} {z : Int} {L : Nat} (h : Rval w v z L) (hb : Below w.heap.size w w') : Rval w' v z L := by
  obtain ⟨neg, A, n, c, ds, e, hr, r⟩ := h
  exact ⟨neg, A, n, c, ds, e, hr.below hb, r⟩

theorem rmade_any (neg : Bool) (A : Option Addr) (n c : Nat) (ds : List Int) (w : World) (h : Row .i64 w A n c ds) (hn : n ≤ 1073741824) (hd : DigR 65536 ds) :
    Calls Try.prog 72 #[.bool neg, .slice A n c] w (RMade w (withSign neg (valR 65536 ds)) n) := by
  have hb1 := below_alloc w (.cells #[.bool false, .slice none 0 0] 31)
  have HD := Lib.hid hd
  clear hd
  go_enter Try.func72, Try.ntmps72
  go_wp2_with fail
  refine (rtrim_any A n c ds _ (h.below hb1) hn).mono ?_
  rintro e w' ⟨A', k, c', hk, rfl, rfl, hr, hv, ht⟩
  have hb2 := fun x => below_alloc w (.cells x 31)
  have hpos : 0 < k ↔ valR 65536 ds ≠ 0 := by
    have h0 := valR_zero_iff (HD.out.take k) ht
    rw [hv] at h0
    have hl := hr.1
    constructor
    · intro h1 h2; have := h0.1 h2; rw [this] at hl; simp at hl; omega
    · intro h1
      rcases Nat.eq_zero_or_pos k with h2 | h2
      · subst h2; exact absurd (h0.2 (by simp)) h1
      · exact h2
  have HV := Lib.hid hv
  have HT := Lib.hid ht
  have HP := Lib.hid hpos
  have hrow : ∀ x, Row .i64 (w.alloc (.cells x 31)) A' k c' (ds.take k) := fun x => by
    refine ⟨hr.1, hr.2.1, fun hk0 => ?_⟩
    obtain ⟨b, o, e, hlt, hc⟩ := hr.2.2 hk0
    obtain ⟨b2, o2, e2, hlt2, _⟩ : ∃ b2 o2, A = some ⟨b2, o2, none⟩ ∧ b2 < w.heap.size ∧ True := by
      obtain ⟨b2, o2, e2, h2, _⟩ := h.2.2 (by omega)
      exact ⟨b2, o2, e2, h2, trivial⟩
    refine ⟨b, o, e, by simpa using hlt, fun i hi => ?_⟩
    have := hc i hi
    by_cases hb : b < w.heap.size
    · rw [World.cell?_alloc_past _ _ _ hb]
      rw [World.cell?_alloc_past _ _ _ hb] at this
      exact this
    · have hbe : b = w.heap.size := by simp at hlt; omega
      subst hbe
      rw [World.cell?_alloc_at _ _ _ _ rfl] at this
      match o + i, this with
      | 0, this => simp at this
      | 1, this => simp at this
      | (j + 2), this => simp at this
  have HR := Lib.hid hrow
  clear hv ht hpos hrow hr
  cases neg with
  | false =>
    go_wp2
    exact bodyPost_ret (v := .agg #[.bool false, .slice A' k c']) (by simp [results, Try.results72, go_sem]) rfl ⟨_, _, _, _, rfl, ⟨false, A', k, c', _, rfl, HR.out _, HD.out.take k, HT.out, by rw [HV.out], by simp, hk⟩, below_alloc _ _⟩
  | true =>
    by_cases hk0 : k = 0
    · have hz : valR 65536 ds = 0 := by have := HP.out; omega
      have HZ := Lib.hid hz
      clear hz
      subst hk0
      go_wp2
      exact bodyPost_ret (v := .agg #[.bool false, .slice A' 0 c']) (by simp [results, Try.results72, go_sem]) rfl ⟨_, _, _, _, rfl, ⟨false, A', 0, c', _, rfl, HR.out _, HD.out.take 0, HT.out, by rw [HV.out, HZ.out]; rfl, by simp, hk⟩, below_alloc _ _⟩
    · have hz : valR 65536 ds ≠ 0 := by have := HP.out; omega
      have HZ := Lib.hid hz
      clear hz
      have hp : (0 : Int) < (k : Int) := by omega
      have hp' : 0 < k := by omega
      go_wp2
      exact bodyPost_ret (v := .agg #[.bool true, .slice A' k c']) (by simp [results, Try.results72, go_sem]) rfl ⟨_, _, _, _, rfl, ⟨true, A', k, c', _, rfl, HR.out _, HD.out.take k, HT.out, by rw [HV.out], fun _ => by rw [HV.out]; exact HZ.out, hk⟩, below_alloc _ _⟩

end Go.Proofs.Ytoanomgdkkbbmaa
