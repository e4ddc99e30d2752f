/- Mathematics of the reference's Text. -/
import Derived.Test.YtoanomgdkkbbmaaRParse
namespace Go.Proofs.Ytoanomgdkkbbmaa
open Go.RowKit LM

theorem zeros_made64 (n : Nat) : (madeCells (Value.int .i64 0).cells (n * 1)).toList = (List.replicate n (0 : Int)).map (Value.int .i64) := by
  rw [Nat.mul_one]; simp [Value.cells, toList_madeCells_one]

/-- Digits ds of z in radix R are made, y is left. -/
def TxRel (R z : Int) (ds : List Int) (y : Int) : Prop :=
  DigR R ds ∧ valR R ds + R ^ ds.length * y = z ∧ 0 ≤ y ∧ (y = 0 → ds ≠ [] ∧ ds.getLastD 0 ≠ 0)

theorem TxRel.start {R z : Int} (h : 0 < z) : TxRel R z [] z :=
  ⟨fun d h => by simp at h, by simp [valR], by omega, fun h' => by omega⟩

theorem TxRel.step {R z y : Int} {ds : List Int} (h : TxRel R z ds y) (hR : 2 ≤ R) (hy : 0 < y) : TxRel R z (ds ++ [y % R]) (y / R) := by
  obtain ⟨hd, hv, _, _⟩ := h
  have m0 : 0 ≤ y % R := Int.emod_nonneg _ (by omega)
  have m1 : y % R < R := Int.emod_lt_of_pos _ (by omega)
  have e := Int.mul_ediv_add_emod y R
  refine ⟨?_, ?_, Int.ediv_nonneg (by omega) (by omega), fun h0 => ⟨by simp, ?_⟩⟩
  · intro x hx
    rcases List.mem_append.1 hx with hx | hx
    · exact hd x hx
    · simp at hx; subst hx; exact ⟨m0, m1⟩
  · rw [valR_append, List.length_append, List.length_singleton, Int.pow_succ]
    simp only [valR, Int.mul_zero, Int.add_zero]
    have e2 : R ^ ds.length * R * (y / R) = R ^ ds.length * (R * (y / R)) := Int.mul_assoc _ _ _
    have e3 : R ^ ds.length * y = R ^ ds.length * (R * (y / R)) + R ^ ds.length * (y % R) := by
      rw [← Int.mul_add]; exact congrArg _ e.symm
    rw [e2]; omega
  · have e' : y % R = y := by rw [h0, Int.mul_zero, Int.zero_add] at e; exact e
    rw [List.getLastD_concat, e']
    omega

theorem TxRel.len {R z y : Int} {ds : List Int} (h : TxRel R z ds y) (hR : 2 ≤ R) (hy : 0 < y) : R ^ ds.length ≤ z := by
  obtain ⟨hd, hv, _, _⟩ := h
  have h3 := valR_nonneg (show 0 ≤ R by omega) hd
  have h4 : R ^ ds.length * 1 ≤ R ^ ds.length * y := Int.mul_le_mul_of_nonneg_left (by omega) (Int.pow_nonneg (by omega))
  omega

theorem TxRel.done {R z : Int} {ds : List Int} (h : TxRel R z ds 0) : DigitsOf R z ds := by
  obtain ⟨hd, hv, _, hz⟩ := h
  exact ⟨hd, by simpa using hv, (hz rfl).1, (hz rfl).2⟩

/-- The digits of ys from k on are divided by R. -/
def RDiv (R : Int) (ys qs : List Int) (k : Nat) (r : Int) : Prop :=
  k ≤ ys.length ∧ 0 ≤ r ∧ r < R ∧ qs.length = ys.length - k ∧ DigR 65536 qs ∧ valR 65536 (ys.drop k) = R * valR 65536 qs + r

theorem RDiv.start {R : Int} (ys : List Int) (hR : 2 ≤ R) : RDiv R ys [] ys.length 0 :=
  ⟨Nat.le_refl _, by omega, by omega, by simp, fun d h => by simp at h, by simp [valR]⟩

theorem RDiv.step {R : Int} {ys qs : List Int} {k : Nat} {r x : Int} (h : RDiv R ys qs k r) (hR : 2 ≤ R) (hR2 : R ≤ 36) (hk : k ≠ 0) (hy : DigR 65536 ys) (hx : ys.getD (k - 1) 0 = x) :
    0 ≤ x ∧ x < 65536 ∧ RDiv R ys ((r * 65536 + x) / R :: qs) (k - 1) ((r * 65536 + x) % R) := by
  obtain ⟨hkn, r0, r1, hl, hd, hv⟩ := h
  have hk1 : k - 1 < ys.length := by omega
  have hxd : 0 ≤ x ∧ x < 65536 := by
    rw [← hx]
    have e : ys.getD (k - 1) 0 = ys[k - 1] := by simp [List.getD, hk1]
    rw [e]; exact hy _ (List.getElem_mem hk1)
  have z0 : 0 ≤ r * 65536 + x := by omega
  refine ⟨hxd.1, hxd.2, by omega, Int.emod_nonneg _ (by omega), Int.emod_lt_of_pos _ (by omega), by simp [hl]; omega, ?_, ?_⟩
  · intro d hm
    rcases List.mem_cons.1 hm with rfl | hm
    · exact ⟨Int.ediv_nonneg z0 (by omega), Int.ediv_lt_of_lt_mul (by omega) (by omega)⟩
    · exact hd d hm
  · rw [drop_cons ys (k - 1) hk1, hx]
    simp only [valR]
    rw [show k - 1 + 1 = k from by omega, hv]
    have e1 := Int.mul_ediv_add_emod (r * 65536 + x) R
    have e2 : R * ((r * 65536 + x) / R + 65536 * valR 65536 qs) = R * ((r * 65536 + x) / R) + 65536 * (R * valR 65536 qs) := by
      rw [Int.mul_add]; grind
    rw [e2]; omega

theorem RDiv.done {R : Int} {ys qs : List Int} {r : Int} (h : RDiv R ys qs 0 r) (hR : 2 ≤ R) : valR 65536 qs = valR 65536 ys / R ∧ r = valR 65536 ys % R ∧ DigR 65536 qs ∧ qs.length = ys.length := by
  obtain ⟨_, r0, r1, hl, hd, hv⟩ := h
  rw [List.drop_zero] at hv
  refine ⟨?_, ?_, hd, hl⟩
  · rw [hv, Int.add_comm, Int.add_mul_ediv_left _ _ (by omega), Int.ediv_eq_zero_of_lt r0 r1]; omega
  · rw [hv, Int.add_comm, Int.add_mul_emod_self_left, Int.emod_eq_of_lt r0 r1]

theorem valR_lt {R : Int} (hR : 1 ≤ R) {l : List Int} (h : DigR R l) : valR R l < R ^ l.length := by
  induction l with
  | nil => simp [valR]
  | cons d l ih =>
    have h1 := ih (fun x hx => h x (List.mem_cons_of_mem _ hx))
    have h2 := h d (List.mem_cons_self ..)
    have h3 : R * (valR R l + 1) ≤ R * R ^ l.length := Int.mul_le_mul_of_nonneg_left h1 (by omega)
    rw [Int.mul_add, Int.mul_one] at h3
    rw [List.length_cons, Int.pow_succ, Int.mul_comm (R ^ l.length) R]
    simp only [valR]
    omega

theorem pow_mono65 (n : Nat) : (65536 : Int) ^ n ≤ BB ^ n := by
  rw [BB_def]
  induction n with
  | zero => simp
  | succ n ih =>
    rw [Int.pow_succ, Int.pow_succ]
    have h0 : (0 : Int) ≤ 65536 ^ n := Int.pow_nonneg (by decide)
    omega

/-! ### Bytes -/

theorem bs_append (S T : ByteArray) : bs (S ++ T) = bs S ++ bs T := by
  unfold bs
  rw [← List.map_append]
  congr 1

theorem nameOf_byte {d : Int} (h0 : 0 ≤ d) (h1 : d < 36) : 0 ≤ nameOf d ∧ nameOf d < 256 := by
  unfold nameOf; split <;> omega

def DIG : ByteArray := { data := #[48, 49, 50, 51, 52, 53, 54, 55, 56, 57, 65, 66, 67, 68, 69, 70, 71, 72, 73, 74, 75, 76, 77, 78, 79, 80, 81, 82, 83, 84, 85, 86, 87, 88, 89, 90] }

theorem dig_name : ∀ r : Nat, r < 36 → bs (DIG.extract r (r + 1)) = [nameOf r] := by
  intro r hr
  have : ∀ r : Fin 36, bs (DIG.extract r.val (r.val + 1)) = [nameOf r.val] := by decide
  exact this ⟨r, hr⟩

theorem bs_strOf {xs : List Int} (h : ∀ x ∈ xs, 0 ≤ x ∧ x < 256) : bs (strOf xs) = xs := by
  unfold bs strOf
  simp only [List.map_map]
  refine (List.map_congr_left (fun x hx => ?_)).trans (List.map_id _)
  have := h x hx
  simp only [Function.comp, UInt8.toNat_ofNat', id]
  omega

/-- The digits of a number are its only ones. -/
theorem digits_unique {R : Int} (hR : 2 ≤ R) : ∀ {ds es : List Int} {z : Int}, DigitsOf R z ds → DigitsOf R z es → ds = es := by
  have key : ∀ (ds es : List Int), DigR R ds → DigR R es → (ds ≠ [] → ds.getLastD 0 ≠ 0) → (es ≠ [] → es.getLastD 0 ≠ 0) → valR R ds = valR R es → ds = es := by
    have pos : ∀ es : List Int, DigR R es → (es ≠ [] → es.getLastD 0 ≠ 0) → valR R es = 0 → es = [] := by
      intro es
      induction es with
      | nil => intros; rfl
      | cons b es ih =>
        intro he hl hv
        exfalso
        have hb := he b (List.mem_cons_self ..)
        have he' : DigR R es := fun x hx => he x (List.mem_cons_of_mem _ hx)
        have h1 := valR_nonneg (show 0 ≤ R by omega) he'
        have h2 : 0 ≤ R * valR R es := Int.mul_nonneg (by omega) h1
        simp only [valR] at hv
        have h3 : R * valR R es = 0 := by omega
        have h4 : valR R es = 0 := by
          rcases Int.mul_eq_zero.1 h3 with h | h
          · omega
          · exact h
        have h5 := ih he' (fun hne => by
          have := hl (by simp)
          cases es with
          | nil => exact absurd rfl hne
          | cons c es => simpa [List.getLastD] using this) h4
        subst h5
        have := hl (by simp)
        simp [List.getLastD] at this
        omega
    intro ds
    induction ds with
    | nil => intro es _ he _ hle hv; exact (pos es he hle hv.symm).symm
    | cons a ds ih =>
      intro es hd he hld hle hv
      cases es with
      | nil => exact pos (a :: ds) hd hld hv
      | cons b es =>
        have ha := hd a (List.mem_cons_self ..)
        have hb := he b (List.mem_cons_self ..)
        have hd' : DigR R ds := fun x hx => hd x (List.mem_cons_of_mem _ hx)
        have he' : DigR R es := fun x hx => he x (List.mem_cons_of_mem _ hx)
        simp only [valR] at hv
        have e1 : (a + R * valR R ds) % R = a := by rw [Int.add_mul_emod_self_left]; exact Int.emod_eq_of_lt ha.1 ha.2
        have e2 : (b + R * valR R es) % R = b := by rw [Int.add_mul_emod_self_left]; exact Int.emod_eq_of_lt hb.1 hb.2
        have hab : a = b := by rw [← e1, ← e2, hv]
        subst hab
        have h3 : R * valR R ds = R * valR R es := by omega
        have h4 : valR R ds = valR R es := Int.eq_of_mul_eq_mul_left (by omega) h3
        rw [ih es hd' he' (fun hne => by
          have := hld (by simp)
          cases ds with
          | nil => exact absurd rfl hne
          | cons c ds => simpa [List.getLastD] using this) (fun hne => by
          have := hle (by simp)
          cases es with
          | nil => exact absurd rfl hne
          | cons c es => simpa [List.getLastD] using this) h4]
  intro ds es z h g
  exact key ds es h.1 g.1 (fun _ => h.2.2.2) (fun _ => g.2.2.2) (h.2.1.trans g.2.1.symm)

end Go.Proofs.Ytoanomgdkkbbmaa
