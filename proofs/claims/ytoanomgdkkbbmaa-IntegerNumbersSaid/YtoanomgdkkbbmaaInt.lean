/- Integers: a sign and the digits of the absolute value. -/
import Derived.Test.YtoanomgdkkbbmaaMul
namespace Go.Proofs.Ytoanomgdkkbbmaa
open Go.RowKit LM

/-- The number with a sign. -/
def withSign (neg : Bool) (a : Int) : Int := if neg then -a else a

/-- A value that reads as the integer z, with at most L digits. -/
def Ival (w : World) (v : Value) (z : Int) (L : Nat) : Prop :=
  ∃ neg s a, v = .agg #[.bool neg, s] ∧ Num w s a L ∧ 0 ≤ a ∧ z = withSign neg a ∧ (neg = true → a ≠ 0)

theorem Ival.below {w w' : World} {v : Value} {z : Int} {L : Nat} (h : Ival w v z L) (hb : Below w.heap.size w w') : Ival w' v z L := by
  obtain ⟨neg, s, a, e, hn, r⟩ := h
  exact ⟨neg, s, a, e, hn.below hb, r⟩

theorem Ival.mono {w : World} {v : Value} {z : Int} {L L' : Nat} (h : Ival w v z L) (hL : L ≤ L') : Ival w v z L' := by
  obtain ⟨neg, s, a, e, hn, r⟩ := h
  exact ⟨neg, s, a, e, hn.mono hL, r⟩

theorem trimmed_len {zs : List Int} {k : Nat} (hd : Dig zs) (ht : Trimmed (zs.take k)) (hk : k ≤ zs.length) (hv : val (zs.take k) = val zs) : (0 < k ↔ val zs ≠ 0) := by
  have := trimmed_zero (hd.take k) ht
  rw [hv] at this
  constructor
  · intro h0 h1
    have h2 := this.1 h1
    have h3 : (zs.take k).length = 0 := by rw [h2]; rfl
    rw [List.length_take] at h3
    omega
  · intro h0
    rcases Nat.eq_zero_or_pos k with h1 | h1
    · subst h1; exact absurd (this.2 rfl) h0
    · exact h1

theorem below_alloc (w : World) (o : Obj) : Below w.heap.size w (w.alloc o) := (Below.refl _ _).alloc (Nat.le_refl _) _

set_option maxHeartbeats 400000 in
theorem signed_row (neg : Bool) (A : Option Addr) (n c : Nat) (zs : List Int) (w : World) (h : Row .u32 w A n c zs) (hn : n ≤ 1073741824) (hd : Dig zs) :
    Calls Try.prog 70 #[.bool neg, .slice A n c] w fun e w' => ∃ v, e = .returned v ∧ Ival w' v (withSign neg (val zs)) n ∧ Below w.heap.size w w' := by
  have hb1 : Below w.heap.size w (w.alloc (.cells #[.bool false, .slice none 0 0] 28)) := (Below.refl _ _).alloc (Nat.le_refl _) _
  go_enter Try.func70, Try.ntmps70
  go_wp2_with fail
  refine (trim_any A n c zs _ (h.below hb1) hn).mono ?_
  rintro e w' ⟨k, hk, rfl, rfl, hv, ht⟩
  have hlen := h.1
  have hpos := trimmed_len hd ht (by omega) hv
  have hnum : Num w (.slice A k c) (val zs) n := ⟨_, _, _, _, rfl, h.take hk, hd.take _, ht, hv, hk⟩
  have hge := (val_bounds hd).1
  have HV := Lib.hid hv
  have HP := Lib.hid hpos
  have HN := Lib.hid hnum
  clear hv hpos hnum hlen ht
  cases neg with
  | false =>
    go_wp2
    exact bodyPost_ret (v := .agg #[.bool false, .slice A k c]) (by simp [results, Try.results70, go_sem]) rfl ⟨_, rfl, ⟨false, _, _, rfl, HN.out.below (below_alloc _ _), hge, rfl, by simp⟩, below_alloc _ _⟩
  | true =>
    by_cases hk0 : k = 0
    · have hz : val zs = 0 := by have := HP.out; omega
      have HZ := Lib.hid hz
      clear hz hge
      subst hk0
      go_wp2
      exact bodyPost_ret (v := .agg #[.bool false, .slice A 0 c]) (by simp [results, Try.results70, go_sem]) rfl ⟨_, rfl, ⟨false, _, _, rfl, HN.out.below (below_alloc _ _), by rw [HZ.out]; decide, by simp [withSign, HZ.out], by simp⟩, below_alloc _ _⟩
    · have hz : val zs ≠ 0 := by have := HP.out; omega
      have HZ := Lib.hid hz
      clear hz
      have hp : (0 : Int) < (k : Int) := by omega
      have hp' : 0 < k := by omega
      go_wp2
      exact bodyPost_ret (v := .agg #[.bool true, .slice A k c]) (by simp [results, Try.results70, go_sem]) rfl ⟨_, rfl, ⟨true, _, _, rfl, HN.out.below (below_alloc _ _), hge, rfl, fun _ => HZ.out⟩, below_alloc _ _⟩

theorem signed_num (neg : Bool) (s : Value) (a : Int) (L : Nat) (w : World) (h : Num w s a L) (hL : L ≤ 1073741824) :
    Calls Try.prog 70 #[.bool neg, s] w fun e w' => ∃ v, e = .returned v ∧ Ival w' v (withSign neg a) L ∧ Below w.heap.size w w' := by
  obtain ⟨A, n, c, zs, rfl, hr, hd, _, rfl, hn⟩ := h
  refine (signed_row neg A n c zs w hr (by omega) hd).mono ?_
  rintro e w' ⟨v, he, hv, hb⟩
  exact ⟨v, he, hv.mono hn, hb⟩

theorem Ival.form {w : World} {v : Value} {z : Int} {L : Nat} (h : Ival w v z L) : ∃ ng A n c, v = .agg #[.bool ng, .slice A n c] := by
  obtain ⟨ng, s, a, rfl, ⟨A, n, c, _, rfl, _⟩, _⟩ := h
  exact ⟨ng, A, n, c, rfl⟩

/-- 'signed', its result written out. -/
theorem signed_out (neg : Bool) (s : Value) (a : Int) (L : Nat) (w : World) (h : Num w s a L) (hL : L ≤ 1073741824) :
    Calls Try.prog 70 #[.bool neg, s] w fun e w' => ∃ ng A n c, e = .returned (.agg #[.bool ng, .slice A n c]) ∧ Ival w' (.agg #[.bool ng, .slice A n c]) (withSign neg a) L ∧ Below w.heap.size w w' := by
  refine (signed_num neg s a L w h hL).mono ?_
  rintro e w' ⟨v, rfl, hv, hb⟩
  obtain ⟨ng, A, n, c, rfl⟩ := hv.form
  exact ⟨ng, A, n, c, rfl, hv, hb⟩

/-- What an integer's parts are. -/
theorem Ival.parts {w : World} {ng : Bool} {s : Value} {z : Int} {L : Nat} (h : Ival w (.agg #[.bool ng, s]) z L) : ∃ a, Num w s a L ∧ 0 ≤ a ∧ z = withSign ng a ∧ (ng = true → a ≠ 0) := by
  obtain ⟨ng', s', a, e, r⟩ := h
  simp only [Value.agg.injEq] at e
  have h0 : (Value.bool ng) = .bool ng' := by have := congrArg (fun x => x[0]?) e; simpa using this
  have h1 : s = s' := by have := congrArg (fun x => x[1]?) e; simpa using this
  cases h0
  subst h1
  exact ⟨a, r⟩

/-- Two integers in boxes, and room for a result behind them. -/
def boxed2 (w : World) (u v : Value) (p q : Bool) : World :=
  ((w.alloc (.cells #[.bool p, u] 28)).alloc (.cells #[.bool q, v] 28)).alloc (.cells #[.bool false, .slice none 0 0] 28)

theorem boxes2 {w w' : World} {u v : Value} {p q : Bool} (h : Below (w.heap.size + 2) (((w.alloc (.cells #[.bool p, u] 28)).alloc (.cells #[.bool q, v] 28)).alloc (.cells #[.bool false, .slice none 0 0] 28)) w') :
    w'.cell? ⟨w.heap.size, 0, none⟩ = some (.bool p) ∧ w'.cell? ⟨w.heap.size, 1, none⟩ = some u ∧ w'.cell? ⟨w.heap.size + 1, 0, none⟩ = some (.bool q) ∧ w'.cell? ⟨w.heap.size + 1, 1, none⟩ = some v ∧
      Below (w.heap.size + 2) (((w.alloc (.cells #[.bool p, u] 28)).alloc (.cells #[.bool q, v] 28)).alloc (.cells #[.bool false, .slice none 0 0] 28)) w' := by
  refine ⟨?_, ?_, ?_, ?_, h⟩
  · rw [h.cell (by simp; try omega), World.cell?_alloc_past _ _ _ (by simp; try omega), World.cell?_alloc_past _ _ _ (by simp; try omega), World.cell?_alloc_at _ _ _ _ rfl]; rfl
  · rw [h.cell (by simp; try omega), World.cell?_alloc_past _ _ _ (by simp; try omega), World.cell?_alloc_past _ _ _ (by simp; try omega), World.cell?_alloc_at _ _ _ _ rfl]; rfl
  · rw [h.cell (by simp; try omega), World.cell?_alloc_past _ _ _ (by simp; try omega), World.cell?_alloc_at _ _ _ _ (by simp)]; rfl
  · rw [h.cell (by simp; try omega), World.cell?_alloc_past _ _ _ (by simp; try omega), World.cell?_alloc_at _ _ _ _ (by simp)]; rfl

theorem below_boxed2 (w : World) (x y z : Obj) : Below w.heap.size w ((((w.alloc x).alloc y).alloc z)) :=
  ((below_alloc w x).alloc (by simp) y).alloc (by simp; omega) z

/-- The room for the result, as it was made. -/
theorem room2 {w w' : World} {x y : Obj} (h : Below (w.heap.size + 3) (((w.alloc x).alloc y).alloc (.cells #[.bool false, .slice none 0 0] 28)) w') :
    w'.cell? ⟨w.heap.size + 1 + 1, 0, none⟩ = some (.bool false) ∧ w'.cell? ⟨w.heap.size + 1 + 1, 1, none⟩ = some (.slice none 0 0) ∧ w'.frozen? ⟨w.heap.size + 1 + 1, 0, none⟩ = false ∧ w'.frozen? ⟨w.heap.size + 1 + 1, 1, none⟩ = false := by
  refine ⟨?_, ?_, ?_, ?_⟩
  · rw [h.cell (by simp), World.cell?_alloc_at _ _ _ _ (by simp)]; rfl
  · rw [h.cell (by simp), World.cell?_alloc_at _ _ _ _ (by simp)]; rfl
  · rw [h.frozen (by simp)]; exact World.frozen?_alloc_at _ _ _ _ (by simp)
  · rw [h.frozen (by simp)]; exact World.frozen?_alloc_at _ _ _ _ (by simp)

theorem Row.setOther {K : IntKind} {w : World} {A : Option Addr} {n c : Nat} {xs : List Int} (h : Row K w A n c xs) {p : Addr} (hp : ∀ u, w.cell? p ≠ some (.int K u)) (v : Value) : Row K (w.setCell p v) A n c xs := by
  refine ⟨h.1, h.2.1, fun hn => ?_⟩
  obtain ⟨b, o, rfl, hlt, hc⟩ := h.2.2 hn
  refine ⟨b, o, rfl, by simpa [World.setCell] using hlt, fun i hi => ?_⟩
  have hne : p ≠ ⟨b, o + i, none⟩ := fun e => hp (xs.getD i 0) (by rw [e]; exact hc i hi)
  rw [World.cell?_setCell_other _ _ _ _ hne]
  exact hc i hi

theorem Num.setOther {w : World} {s : Value} {z : Int} {L : Nat} (h : Num w s z L) {p : Addr} (hp : ∀ u, w.cell? p ≠ some (.int .u32 u)) (v : Value) : Num (w.setCell p v) s z L := by
  obtain ⟨A, n, c, xs, e, hr, r⟩ := h
  exact ⟨A, n, c, xs, e, hr.setOther hp v, r⟩

theorem Ival.setOther {w : World} {s : Value} {z : Int} {L : Nat} (h : Ival w s z L) {p : Addr} (hp : ∀ u, w.cell? p ≠ some (.int .u32 u)) (v : Value) : Ival (w.setCell p v) s z L := by
  obtain ⟨neg, s, a, e, hn, r⟩ := h
  exact ⟨neg, s, a, e, hn.setOther hp v, r⟩

/-- The result is put into its room. -/
theorem Ival.stored {w : World} {s : Value} {z : Int} {L : Nat} (h : Ival w s z L) {r : Nat} (e1 : w.cell? ⟨r, 0, none⟩ = some (.bool false)) (e2 : w.cell? ⟨r, 1, none⟩ = some (.slice none 0 0)) (x y : Value) :
    Ival ((w.setCell ⟨r, 0, none⟩ x).setCell ⟨r, 1, none⟩ y) s z L := by
  refine (h.setOther (fun u => by rw [e1]; simp) x).setOther (fun u => ?_) y
  rw [World.cell?_setCell_other _ _ _ _ (by simp), e2]; simp

theorem withSign_mul (p q : Bool) (a b : Int) : withSign (p != q) (a * b) = withSign p a * withSign q b := by
  cases p <;> cases q <;> simp [withSign, Int.neg_mul, Int.mul_neg]

theorem withSign_add (p : Bool) (a b : Int) : withSign p (a + b) = withSign p a + withSign p b := by
  cases p <;> simp [withSign]; omega
theorem withSign_sub (p : Bool) (a b : Int) : withSign p (a - b) = withSign p a + withSign (!p) b := by
  cases p <;> simp [withSign] <;> omega
theorem withSign_bus (p : Bool) (a b : Int) : withSign (!p) (b - a) = withSign p a + withSign (!p) b := by
  cases p <;> simp [withSign] <;> omega

/-- The room for the result, where it is the first block; where one block lies ahead of it. -/
theorem room0 {w w' : World} (h : Below (w.heap.size + 1) (w.alloc (.cells #[.bool false, .slice none 0 0] 28)) w') :
    w'.cell? ⟨w.heap.size, 0, none⟩ = some (.bool false) ∧ w'.cell? ⟨w.heap.size, 1, none⟩ = some (.slice none 0 0) ∧ w'.frozen? ⟨w.heap.size, 0, none⟩ = false ∧ w'.frozen? ⟨w.heap.size, 1, none⟩ = false := by
  refine ⟨?_, ?_, ?_, ?_⟩
  · rw [h.cell (by simp), World.cell?_alloc_at _ _ _ _ (by simp)]; rfl
  · rw [h.cell (by simp), World.cell?_alloc_at _ _ _ _ (by simp)]; rfl
  · rw [h.frozen (by simp)]; exact World.frozen?_alloc_at _ _ _ _ (by simp)
  · rw [h.frozen (by simp)]; exact World.frozen?_alloc_at _ _ _ _ (by simp)

theorem room1 {w w' : World} {x : Obj} (h : Below (w.heap.size + 2) ((w.alloc x).alloc (.cells #[.bool false, .slice none 0 0] 28)) w') :
    w'.cell? ⟨w.heap.size + 1, 0, none⟩ = some (.bool false) ∧ w'.cell? ⟨w.heap.size + 1, 1, none⟩ = some (.slice none 0 0) ∧ w'.frozen? ⟨w.heap.size + 1, 0, none⟩ = false ∧ w'.frozen? ⟨w.heap.size + 1, 1, none⟩ = false := by
  refine ⟨?_, ?_, ?_, ?_⟩
  · rw [h.cell (by simp), World.cell?_alloc_at _ _ _ _ (by simp)]; rfl
  · rw [h.cell (by simp), World.cell?_alloc_at _ _ _ _ (by simp)]; rfl
  · rw [h.frozen (by simp)]; exact World.frozen?_alloc_at _ _ _ _ (by simp)
  · rw [h.frozen (by simp)]; exact World.frozen?_alloc_at _ _ _ _ (by simp)

end Go.Proofs.Ytoanomgdkkbbmaa
