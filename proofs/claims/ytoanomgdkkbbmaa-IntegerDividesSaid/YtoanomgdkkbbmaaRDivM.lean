/- The reference's divided. -/
import Derived.Test.YtoanomgdkkbbmaaRTimes
import Derived.Laws.AppendOwnNone
import Derived.Deep.RegionHeld
namespace Go.Proofs.Ytoanomgdkkbbmaa
open Go.RowKit LM

theorem append_nil_any {P : Program} {w : World} (base : Nat) (t ty e : TypeId) (i : TypeInfo) (size : Nat) (ht : P.underlying t = some (.slice e)) (hi : P.info? e = some i)
    (v : Value) (n : Nat) (xs : List Value) (hown : w.ownsRow base e size v n xs) (c : Nat) : (Builtin.append_ #[t, t] ty #[v, .slice none 0 c]).run P w = .ok v w := by
  rcases hown.2 with ⟨rfl, _⟩ | ⟨k, cap, cur, rfl, _, hk, hnc, hcm, hcs, htk⟩
  · simp [Builtin.append_, run_underlying ht, sizeOf, typeInfo, hi, Builtin.lenOf, Builtin.firstCells]
  · simp [Builtin.append_, run_underlying ht, sizeOf, typeInfo, hi, Builtin.lenOf, Builtin.firstCells, hnc, storeCells]

/-- An append of a row of integers, nil or not, to a row of the call's own. -/
theorem wpList_append_row {P : Program} {w : World} {ops : Array Oper} {rest : List Oper} {o : Oper} {a : Act} {Q : Exit → Act → World → Prop} (hgd : o.guard = none) (s x : Operand) (t : TypeId)
    (ho : o.op = .call { callee := .builtin .append, args := #[s, x], argTypes := #[t, t] })
    (base : Nat) (e : TypeId) (i : TypeInfo) (z : Value) (bytes : Nat) (ht : P.underlying t = some (.slice e)) (hi : P.info? e = some i) (hz : i.zero = some z)
    (hsize : i.size = 1) (hby : i.bytes = bytes) (hzs : z.cells.size = 1)
    (v : Value) (n : Nat) (xs : List Value) (hs : a.eval s = v) (hown : w.ownsRow base e 1 v n xs)
    (A : Option Addr) (m c : Nat) (ds : List Int) (hx : a.eval x = .slice A m c) (hr : Row .i64 w A m c ds)
    (h63 : n + m ≤ maxLen) (hbytes : (n + m) * bytes ≤ 140737488355328) (hbase : base ≤ w.heap.size)
    (h : ∀ v' w', w'.ownsRow base e 1 v' (n + m) (xs ++ ds.map (Value.int .i64)) → w.grownBy w' v.ownBlock → wpList P ops Q rest (a.put o.dst v') w') : wpList P ops Q (o :: rest) a w := by
  cases A with
  | none =>
    have hm : m = 0 := by
      rcases Nat.eq_zero_or_pos m with h0 | h0
      · exact h0
      · obtain ⟨b, o', e', _⟩ := hr.2.2 (by omega); cases e'
    have hds : ds = [] := List.eq_nil_of_length_eq_zero (by rw [hr.1]; exact hm)
    subst hm; subst hds
    refine wpList_plain hgd fun K hK => ?_
    have hrun := append_nil_any (P := P) (w := w) base t o.type e i 1 ht hi v n xs hown c
    unfold Oper.wp
    simp [execOp, ho, resolve, invoke, builtin, hs, hx, hrun, Result.andThen]
    exact hK _ _ (h v w (by simpa using hown) (World.grownBy.refl _ _))
  | some ad =>
    refine wpList_append_own _ hgd s x t ho base e i z 1 bytes ht hi hz hsize hby hzs (by decide) v n xs hs hown ad m c (ds.map (Value.int .i64)) hx (by simp [hr.1]) (fun j u hj => ?_) (ints_oneCell _ _) h63 hbytes hbase fun v' w' h2 h3 _ => h v' w' h2 h3
    have hjm : j < m := by have := (List.getElem?_eq_some_iff.1 hj).1; simp [hr.1] at this; exact this
    obtain ⟨b, o', e', _, hc⟩ := hr.2.2 (by omega)
    simp only [Option.some.injEq] at e'
    subst e'
    rw [Addr.add_lit, hc j hjm, ← hj]
    simp [List.getD, hr.1, hjm]

/-- trimmed keeps the place of its row. -/
theorem rtrim_some (a : Addr) (n c : Nat) (xs : List Int) (w : World) (h : Row .i64 w (some a) n c xs) (_hn : n ≤ 1073741824) :
    Calls Try.prog 110 #[.slice (some a) n c] w fun e w' => ∃ k, k ≤ n ∧ e = .returned (.slice (some a) k c) ∧ w = w' ∧ valR 65536 (xs.take k) = valR 65536 xs ∧ Trimmed (xs.take k) := by
  obtain ⟨hl, hc, hcell⟩ := h
  have HL := Lib.hid hl
  clear hl
  go_enter Try.func110, Try.ntmps110
  go_wp2_with fail
  go_loop [3] (fun s => ∃ k : Nat, k ≤ n ∧ s = .int .i64 k ∧ Hid (valR 65536 (xs.take k) = valR 65536 xs)) (fun s => (intOf s).toNat)
  case atStart => exact ⟨n, Nat.le_refl _, rfl, Lib.hid (by rw [List.take_of_length_le (by rw [HL.out]; exact Nat.le_refl _)])⟩
  case round =>
    obtain ⟨k, hk, rfl, Hv⟩ := hrel
    by_cases h0 : k = 0
    · subst h0
      go_wp2
      go_ret
      exact ⟨0, by omega, rfl, rfl, Hv.out, .inl rfl⟩
    · have hn0 : n ≠ 0 := by omega
      obtain ⟨b, o, e0, hb, hx⟩ := hcell hn0
      simp only [Option.some.injEq] at e0
      subst e0
      have hp : (0 : Int) < (k : Int) := by omega
      have hx1 := hx (k - 1) (by omega)
      obtain ⟨x, ex⟩ : ∃ x, xs.getD (k - 1) 0 = x := ⟨_, rfl⟩
      rw [ex] at hx1
      have EX := Lib.hid ex
      clear hx hcell ex
      have q1 : (0 : Int) ≤ (k : Int) - 1 := by omega
      have q2 : (k : Int) - 1 < (n : Int) := by omega
      have q3 : ((k : Int) - 1).toNat = k - 1 := by omega
      by_cases hx0 : x = 0
      · have HX0 := Lib.hid hx0
        subst hx0
        go_wp2
        refine ⟨⟨k - 1, by omega, by go_num, Lib.hid ?_⟩, by simp [intOf]; omega⟩
        have h1 := valR_take_zero 65536 xs (k - 1) EX.out
        rw [show k - 1 + 1 = k from by omega, Hv.out] at h1
        exact h1.symm
      · have hx2 : (x == 0) = false := by simpa using hx0
        go_wp2
        go_ret
        refine ⟨k, hk, rfl, rfl, Hv.out, .inr ?_⟩
        have hl := HL.out
        have e1 : (xs.take k).length = k := by rw [List.length_take]; omega
        have e2 : (xs.take k).getD (k - 1) 0 = xs.getD (k - 1) 0 := by
          rw [List.getD, List.getElem?_take, if_pos (by omega)]; rfl
        rw [e1, e2, EX.out]; exact hx0

theorem Row.far {K : IntKind} {w : World} {g o n c : Nat} {xs : List Int} (h : Row K w (some ⟨g, o, none⟩) n c xs) {p : Addr} (hp : p.block ≠ g) (v : Value) : Row K (w.setCell p v) (some ⟨g, o, none⟩) n c xs := by
  refine ⟨h.1, h.2.1, fun hn => ?_⟩
  obtain ⟨b, o', e, hlt, hc⟩ := h.2.2 hn
  simp only [Option.some.injEq, Addr.mk.injEq] at e
  obtain ⟨rfl, rfl, -⟩ := e
  refine ⟨g, o, rfl, by simpa [World.setCell] using hlt, fun i hi => ?_⟩
  rw [World.cell?_setCell_far _ _ _ _ (by simpa using hp)]; exact hc i hi

/-- Behind the places from m on: the digits of the quotient, and the remainder. -/
def DivRel (w wr : World) (n : Nat) (xs : List Int) (B : Int) (v : Value) (m : Nat) : Prop :=
  m ≤ n ∧ Below w.heap.size w wr ∧ (∃ qs : List Int, qs.length = n - m ∧ DigR 65536 qs ∧ valR 65536 qs = valR 65536 (xs.drop m) / B ∧
    Own64 wr w.heap.size w.heap.size n (List.replicate m 0 ++ qs)) ∧ RNum wr v (valR 65536 (xs.drop m) % B) (n - m)

theorem div_step {x r B : Int} (hB : 0 < B) (h0 : 0 ≤ r) (h1 : r < B) (hx : 0 ≤ x ∧ x < 65536) : 0 ≤ x + 65536 * r ∧ x + 65536 * r < 65536 * B ∧ 0 ≤ (x + 65536 * r) / B ∧ (x + 65536 * r) / B < 65536 := by
  have h2 : x + 65536 * r < 65536 * B := by omega
  exact ⟨by omega, h2, Int.ediv_nonneg (by omega) (by omega), Int.ediv_lt_of_lt_mul hB h2⟩

theorem drop_val {xs : List Int} {i : Nat} {x B : Int} (hi : i < xs.length) (ex : xs.getD i 0 = x) (hB : 0 < B) :
    valR 65536 (xs.drop i) / B = (x + 65536 * (valR 65536 (xs.drop (i + 1)) % B)) / B + 65536 * (valR 65536 (xs.drop (i + 1)) / B) ∧
    valR 65536 (xs.drop i) % B = (x + 65536 * (valR 65536 (xs.drop (i + 1)) % B)) % B := by
  have e1 : valR 65536 (xs.drop i) = x + 65536 * valR 65536 (xs.drop (i + 1)) := by rw [drop_cons xs i hi, ex]; rfl
  have h1 := Int.emod_add_mul_ediv (valR 65536 (xs.drop (i + 1))) B
  generalize valR 65536 (xs.drop (i + 1)) / B = q at *
  generalize valR 65536 (xs.drop (i + 1)) % B = r at *
  have e2 : valR 65536 (xs.drop i) = (x + 65536 * r) + B * (65536 * q) := by
    rw [e1, ← h1, Int.mul_add]
    have : B * (65536 * q) = 65536 * (B * q) := by rw [← Int.mul_assoc, Int.mul_comm B, Int.mul_assoc]
    omega
  rw [e2, Int.add_mul_ediv_left _ _ (by omega), Int.add_mul_emod_self_left]
  exact ⟨rfl, rfl⟩

/-- The halves: the digit lies between lo and hi. -/
def Half (R B lo hi : Int) : Prop := 0 ≤ lo ∧ lo < hi ∧ hi ≤ 65536 ∧ lo * B ≤ R ∧ R < hi * B

theorem Half.start {R B : Int} (h0 : 0 ≤ R) (h1 : R < 65536 * B) : Half R B 0 65536 := ⟨by decide, by decide, by decide, by omega, h1⟩

theorem Half.done {R B lo hi : Int} (h : Half R B lo hi) (hB : 0 < B) (hd : hi - lo ≤ 1) : R / B = lo := by
  obtain ⟨h0, h1, h2, h3, h4⟩ := h
  have e : hi = lo + 1 := by omega
  subst e
  rw [Int.add_mul, Int.one_mul] at h4
  have h5 : R = (R - lo * B) + B * lo := by rw [Int.mul_comm B]; omega
  rw [h5, Int.add_mul_ediv_left _ _ (by omega), Int.ediv_eq_zero_of_lt (by omega) (by omega)]; omega

theorem Half.mid {R B lo hi m : Int} (h : Half R B lo hi) (hm : m = (lo + hi) / 2) (hd : 1 < hi - lo) : (m * B ≤ R → Half R B m hi) ∧ (R < m * B → Half R B lo m) := by
  obtain ⟨h0, h1, h2, h3, h4⟩ := h
  exact ⟨fun g => ⟨by omega, by omega, h2, g, h4⟩, fun g => ⟨h0, by omega, by omega, h3, g⟩⟩

end Go.Proofs.Ytoanomgdkkbbmaa
