/- Of the proof of RationalNumbers: RDivM, RDiv. -/
import Derived.Test.YtbajnceoolkckaaGreatNm16
import Derived.Laws.AppendOwnNone
import Derived.Deep.RegionHeld
/- The reference's divided. -/
namespace Go.Proofs.YtbajnceoolkckaaGreat
open Go.RowKit LM

theorem append_nil_any {P : Program} {w : World} (base : Nat) (t ty e : TypeId) (i : TypeInfo) (size : Nat) (ht : P.underlying t = some (.slice e)) (hi : P.info? e = some i)
  (v : Value) (n : Nat) (xs : List Value) (hown : w.ownsRow base e size v n xs) (c : Nat) : (Builtin.append_ #[t, t] ty #[v, .slice none 0 c]).run P w = .ok v w := by
 rcases hown.2 with ⟨rfl, _⟩ | ⟨k, cap, cur, rfl, _, hk, hnc, hcm, hcs, htk⟩
 ·simp [Builtin.append_, run_underlying ht, sizeOf, typeInfo, hi, Builtin.lenOf, Builtin.firstCells]
 ·simp [Builtin.append_, run_underlying ht, sizeOf, typeInfo, hi, Builtin.lenOf, Builtin.firstCells, hnc, storeCells]

/-- An append of a row of integers, nil or not, to a row of the call's own. -/
theorem wpList_append_row {P : Program} {w : World} {ops : Array Oper} {rest : List Oper} {o : Oper} {a : Act} {Q : Exit → Act → World → Prop} (hgd : o.guard = none) (s x : Operand) (t : TypeId)
  (ho : o.op = .call { callee := .builtin .append, args := #[s, x], argTypes := #[t, t] })
  (base : Nat) (e : TypeId) (i : TypeInfo) (z : Value) (bytes : Nat) (ht : P.underlying t = some (.slice e)) (hi : P.info? e = some i) (hz : i.zero = some z)
  (hsize : i.size = 1) (hby : i.bytes = bytes) (hzs : z.cells.size = 1)
  (v : Value) (n : Nat) (xs : List Value) (hs : a.eval s = v) (hown : w.ownsRow base e 1 v n xs)
  (A : Option Addr) (m c : Nat) (ds : List Int) (hx : a.eval x = .slice A m c) (hr : Row .i64 w A m c ds)
  (h63 : n + m ≤ maxLen) (hbytes : (n + m) * bytes ≤ 140737488355328) (hbase : base ≤ w.heap.size)
  (h : ∀ v' w', w'.ownsRow base e 1 v' (n + m) (xs ++ ds.map (Value.int .i64)) → w.grownBy w' v.ownBlock → wpList P ops Q rest (a.put o.dst v') w') : wpList P ops Q (o :: rest) a w := by
 cases A with
 | none =>
  have hm : m = 0 := by
   rcases Nat.eq_zero_or_pos m with h0 | h0
   ·exact h0
   ·obtain ⟨b, o', e', _⟩ := hr.2.2 (by omega); cases e'
  have hds : ds = [] := List.eq_nil_of_length_eq_zero (by rw [hr.1]; exact hm)
  subst hm; subst hds
  refine wpList_plain hgd fun K hK => ?_
  have hrun := append_nil_any (P := P) (w := w) base t o.type e i 1 ht hi v n xs hown c
  unfold Oper.wp
  simp [execOp, ho, resolve, invoke, builtin, hs, hx, hrun, Result.andThen]
  exact hK _ _ (h v w (by simpa using hown) (World.grownBy.refl _ _))
 | some ad =>
  refine wpList_append_own _ hgd s x t ho base e i z 1 bytes ht hi hz hsize hby hzs (by decide) v n xs hs hown ad m c (ds.map (Value.int .i64)) hx (by simp [hr.1]) (fun j u hj => ?_) (ints_oneCell _ _) h63 hbytes hbase fun v' w' h2 h3 _ => h v' w' h2 h3
  have hjm : j < m := by have := (List.getElem?_eq_some_iff.1 hj).1; simp [hr.1] at this; exact this
  obtain ⟨b, o', e', _, hc⟩ := hr.2.2 (by omega)
  simp only [Option.some.injEq] at e'
  subst e'
  rw [Addr.add_lit, hc j hjm, ← hj]
  simp [List.getD, hr.1, hjm]

/-- trimmed keeps the place of its row. -/
theorem rtrim_some (a : Addr) (n c : Nat) (xs : List Int) (w : World) (h : Row .i64 w (some a) n c xs) (_hn : n ≤ 1073741824) :
  Calls Tryz.prog 150 #[.slice (some a) n c] w fun e w' => ∃ k, k ≤ n ∧ e = .returned (.slice (some a) k c) ∧ w = w' ∧ valR 65536 (xs.take k) = valR 65536 xs ∧ Trimmed (xs.take k) := by
 obtain ⟨hl, hc, hcell⟩ := h
 have HL := Lib.hid hl
 clear hl
 go_enter Tryz.func150, Tryz.ntmps150
 go_wp2_with fail
 go_loop [3] (fun s => ∃ k : Nat, k ≤ n ∧ s = .int .i64 k ∧ Hid (valR 65536 (xs.take k) = valR 65536 xs)) (fun s => (intOf s).toNat)
 case atStart => exact ⟨n, Nat.le_refl _, rfl, Lib.hid (by rw [List.take_of_length_le (by rw [HL.out]; exact Nat.le_refl _)])⟩
 case round =>
  obtain ⟨k, hk, rfl, Hv⟩ := hrel
  by_cases h0 : k = 0
  ·subst h0
   go_wp2
   go_ret
   exact ⟨0, by omega, rfl, rfl, Hv.out, .inl rfl⟩
  ·have hn0 : n ≠ 0 := by omega
   obtain ⟨b, o, e0, hb, hx⟩ := hcell hn0
   simp only [Option.some.injEq] at e0
   subst e0
   have hp : (0 : Int) < (k : Int) := by omega
   have hx1 := hx (k - 1) (by omega)
   obtain ⟨x, ex⟩ : ∃ x, xs.getD (k - 1) 0 = x := ⟨_, rfl⟩
   rw [ex] at hx1
   have EX := Lib.hid ex
   clear hx hcell ex
   have q1 : (0 : Int) ≤ (k : Int) - 1 := by omega
   have q2 : (k : Int) - 1 < (n : Int) := by omega
   have q3 : ((k : Int) - 1).toNat = k - 1 := by omega
   by_cases hx0 : x = 0
   ·have HX0 := Lib.hid hx0
    subst hx0
    go_wp2
    refine ⟨⟨k - 1, by omega, by go_num, Lib.hid ?_⟩, by simp [intOf]; omega⟩
    have h1 := valR_take_zero 65536 xs (k - 1) EX.out
    rw [show k - 1 + 1 = k from by omega, Hv.out] at h1
    exact h1.symm
   ·have hx2 : (x == 0) = false := by simpa using hx0
    go_wp2
    go_ret
    refine ⟨k, hk, rfl, rfl, Hv.out, .inr ?_⟩
    have hl := HL.out
    have e1 : (xs.take k).length = k := by rw [List.length_take]; omega
    have e2 : (xs.take k).getD (k - 1) 0 = xs.getD (k - 1) 0 := by
     rw [List.getD, List.getElem?_take, if_pos (by omega)]; rfl
    rw [e1, e2, EX.out]; exact hx0

theorem Row.far {K : IntKind} {w : World} {g o n c : Nat} {xs : List Int} (h : Row K w (some ⟨g, o, none⟩) n c xs) {p : Addr} (hp : p.block ≠ g) (v : Value) : Row K (w.setCell p v) (some ⟨g, o, none⟩) n c xs := by
 refine ⟨h.1, h.2.1, fun hn => ?_⟩
 obtain ⟨b, o', e, hlt, hc⟩ := h.2.2 hn
 simp only [Option.some.injEq, Addr.mk.injEq] at e
 obtain ⟨rfl, rfl, -⟩ := e
 refine ⟨g, o, rfl, by simpa [World.setCell] using hlt, fun i hi => ?_⟩
 rw [World.cell?_setCell_far _ _ _ _ (by simpa using hp)]; exact hc i hi

/-- Behind the places from m on: the digits of the quotient, and the remainder. -/
def DivRel (w wr : World) (n : Nat) (xs : List Int) (B : Int) (v : Value) (m : Nat) : Prop :=
 m ≤ n ∧ Below w.heap.size w wr ∧ (∃ qs : List Int, qs.length = n - m ∧ DigR 65536 qs ∧ valR 65536 qs = valR 65536 (xs.drop m) / B ∧
  Own64 wr w.heap.size w.heap.size n (List.replicate m 0 ++ qs)) ∧ RNum wr v (valR 65536 (xs.drop m) % B) (n - m)

theorem div_step {x r B : Int} (hB : 0 < B) (h0 : 0 ≤ r) (h1 : r < B) (hx : 0 ≤ x ∧ x < 65536) : 0 ≤ x + 65536 * r ∧ x + 65536 * r < 65536 * B ∧ 0 ≤ (x + 65536 * r) / B ∧ (x + 65536 * r) / B < 65536 := by
 have h2 : x + 65536 * r < 65536 * B := by omega
 exact ⟨by omega, h2, Int.ediv_nonneg (by omega) (by omega), Int.ediv_lt_of_lt_mul hB h2⟩

theorem drop_val {xs : List Int} {i : Nat} {x B : Int} (hi : i < xs.length) (ex : xs.getD i 0 = x) (hB : 0 < B) :
  valR 65536 (xs.drop i) / B = (x + 65536 * (valR 65536 (xs.drop (i + 1)) % B)) / B + 65536 * (valR 65536 (xs.drop (i + 1)) / B) ∧
  valR 65536 (xs.drop i) % B = (x + 65536 * (valR 65536 (xs.drop (i + 1)) % B)) % B := by
 have e1 : valR 65536 (xs.drop i) = x + 65536 * valR 65536 (xs.drop (i + 1)) := by rw [drop_cons xs i hi, ex]; rfl
 have h1 := Int.emod_add_mul_ediv (valR 65536 (xs.drop (i + 1))) B
 generalize valR 65536 (xs.drop (i + 1)) / B = q at *
 generalize valR 65536 (xs.drop (i + 1)) % B = r at *
 have e2 : valR 65536 (xs.drop i) = (x + 65536 * r) + B * (65536 * q) := by
  rw [e1, ← h1, Int.mul_add]
  have : B * (65536 * q) = 65536 * (B * q) := by rw [← Int.mul_assoc, Int.mul_comm B, Int.mul_assoc]
  omega
 rw [e2, Int.add_mul_ediv_left _ _ (by omega), Int.add_mul_emod_self_left]
 exact ⟨rfl, rfl⟩

/-- The halves: the digit lies between lo and hi. -/
def Half (R B lo hi : Int) : Prop := 0 ≤ lo ∧ lo < hi ∧ hi ≤ 65536 ∧ lo * B ≤ R ∧ R < hi * B

theorem Half.start {R B : Int} (h0 : 0 ≤ R) (h1 : R < 65536 * B) : Half R B 0 65536 := ⟨by decide, by decide, by decide, by omega, h1⟩

theorem Half.done {R B lo hi : Int} (h : Half R B lo hi) (hB : 0 < B) (hd : hi - lo ≤ 1) : R / B = lo := by
 obtain ⟨h0, h1, h2, h3, h4⟩ := h
 have e : hi = lo + 1 := by omega
 subst e
 rw [Int.add_mul, Int.one_mul] at h4
 have h5 : R = (R - lo * B) + B * lo := by rw [Int.mul_comm B]; omega
 rw [h5, Int.add_mul_ediv_left _ _ (by omega), Int.ediv_eq_zero_of_lt (by omega) (by omega)]; omega

theorem Half.mid {R B lo hi m : Int} (h : Half R B lo hi) (hm : m = (lo + hi) / 2) (hd : 1 < hi - lo) : (m * B ≤ R → Half R B m hi) ∧ (R < m * B → Half R B lo m) := by
 obtain ⟨h0, h1, h2, h3, h4⟩ := h
 exact ⟨fun g => ⟨by omega, by omega, h2, g, h4⟩, fun g => ⟨h0, by omega, by omega, h3, g⟩⟩

end Go.Proofs.YtbajnceoolkckaaGreat
/- The reference's divided: the walk. -/
namespace Go.Proofs.YtbajnceoolkckaaGreat
open Go.RowKit LM

theorem digit_row (w : World) (x : Int) : Row .i64 (w.alloc (.cells #[.int .i64 x] 3)) (some ⟨w.heap.size, 0, none⟩) 1 1 [x] := by
 refine ⟨rfl, Nat.le_refl _, fun _ => ⟨w.heap.size, 0, rfl, by simp, fun i hi => ?_⟩⟩
 obtain rfl : i = 0 := by omega
 rw [World.cell?_alloc_at _ _ _ _ rfl]; rfl

theorem rep_set (i : Nat) (qs : List Int) (u : Int) : (List.replicate (i + 1) 0 ++ qs).set i u = List.replicate i 0 ++ (u :: qs) := by
 rw [List.replicate_succ', List.append_assoc, List.set_append_right _ _ (by simp), List.length_replicate, Nat.sub_self]; rfl

set_option maxRecDepth 100000 in
set_option maxHeartbeats 8000000 in
theorem rdivided_any (A B : Option Addr) (n m c d : Nat) (xs ys : List Int) (w : World) (h : Row .i64 w A n c xs) (g : Row .i64 w B m d ys) (hn : n ≤ 100000) (hm : m ≤ 100000) (hdx : DigR 65536 xs) (hdy : DigR 65536 ys) (hpos : 0 < valR 65536 ys) :
  Calls Tryz.prog 122 #[.slice A n c, .slice B m d] w fun e w' => (∃ v1 v2, e = .returned (.tuple #[v1, v2]) ∧ RNum w' v1 (valR 65536 xs / valR 65536 ys) n ∧ RNum w' v2 (valR 65536 xs % valR 65536 ys) n) ∧ Below w.heap.size w w' := by
 obtain ⟨i0, hi, hz0, hz1, hz2⟩ := info_parts Tryz.info3
 have HGR := Lib.hid g
 obtain ⟨hl, hc, hcell⟩ := h
 have hb0 : ∀ i, i < n → ∃ b o, A = some ⟨b, o, none⟩ ∧ b < w.heap.size ∧ w.cell? ⟨b, o + i, none⟩ = some (.int .i64 (xs.getD i 0)) := fun i hi => by
  obtain ⟨b, o, e, hlt, hc2⟩ := hcell (by omega)
  exact ⟨b, o, e, hlt, hc2 i hi⟩
 have HX := Lib.hid hb0
 have HL := Lib.hid hl
 obtain ⟨Bv, hBv⟩ : ∃ Bv, valR 65536 ys = Bv := ⟨_, rfl⟩
 rw [hBv] at hpos ⊢
 have HBV := Lib.hid hBv
 clear hl hcell hb0 g hBv
 go_enter Tryz.func122, Tryz.ntmps122
 go_wp2_with (at_make; refine wpList_make_full _ rfl _ _ 32 rfl w.heap.size 3 i0 (.int .i64 0) 1 Tryz.underlying32 hi hz0 hz1 _ _ _ _ n rfl rfl (by omega) (by omega) (by rw [hz2]; omega) (by unfold maxLen; omega) (Nat.le_refl _) ?_; intro w1 hown hgrow)
 go_loopw [7, 8] (fun rv iv wr => ∃ (v : Int) (k : Nat), iv = .int .i64 v ∧ v = (k : Int) - 1 ∧ DivRel w wr n xs Bv rv k) (fun _ iv _ => (intOf iv + 1).toNat)
 case atStart =>
  refine ⟨_, n, rfl, rfl, Nat.le_refl _, (Below.refl _ _).grown hgrow (Nat.le_refl _) (fun _ h => by cases h), ⟨[], by simp, fun d h => by simp at h, by rw [List.drop_of_length_le (by rw [HL.out]; exact Nat.le_refl _)]; simp [valR], ?_⟩, ?_⟩
  ·rw [zeros_made64] at hown
   rw [List.append_nil]; exact hown
  ·rw [List.drop_of_length_le (by rw [HL.out]; exact Nat.le_refl _)]
   exact ⟨none, 0, 0, [], rfl, Row.nil_, fun d h => by simp at h, by simp [valR], Nat.zero_le _⟩
 case round =>
  obtain ⟨v, k, rfl, hv, hrel⟩ := hrel
  have HR := Lib.hid hrel
  clear hrel
  cases k with
  | zero =>
   have hv2 : v < 0 := by omega
   obtain ⟨_, hbl, ⟨qs, hql, hqd, hqv, ho⟩, hrn⟩ := HR.out
   have hrow : Row .i64 wr (some ⟨w.heap.size, 0, none⟩) n n qs := by
    rw [List.replicate_zero, List.nil_append] at ho; exact Row.of_own ho
   rw [List.drop_zero] at hqv hrn
   have HQD := Lib.hid hqd
   have HQV := Lib.hid hqv
   have HROW := Lib.hid hrow
   have HRN := Lib.hid hrn
   have HBL := Lib.hid hbl
   clear hv hql hqd hqv ho hrow hrn hbl
   go_wp2_with fail
   refine (rtrim_any _ _ _ _ _ HROW.out (by omega)).mono ?_
   rintro e w' ⟨A2, k2, c2, hk2, rfl, rfl, hr2, hv2', ht2⟩
   have HR2 := Lib.hid hr2
   have HV2 := Lib.hid hv2'
   clear hr2 hv2' ht2
   go_wp2
   go_ret2
   exact ⟨⟨_, _, rfl, ⟨_, _, _, _, rfl, HR2.out, HQD.out.take _, HV2.out.trans HQV.out, hk2⟩, HRN.out⟩, HBL.out⟩
  | succ i =>
   obtain rfl : v = (i : Int) := by omega
   clear hv
   obtain ⟨hin, hbl, ⟨qs, hql, hqd, hqv, ho⟩, A7, n7, c7, ds7, rfl, hr7, hd7, hv7, hn7⟩ := HR.out
   obtain ⟨b, o, rfl, hbx, hx⟩ := HX.out i hin
   obtain ⟨x, ex⟩ : ∃ x, xs.getD i 0 = x := ⟨_, rfl⟩
   rw [ex] at hx
   have bx := DigR.getD hdx i
   rw [ex] at bx
   have hcx := (hbl.cell (p := ⟨b, o + i, none⟩) hbx).trans hx
   obtain ⟨r, hr⟩ : ∃ r, valR 65536 (xs.drop (i + 1)) % Bv = r := ⟨_, rfl⟩
   obtain ⟨dq, dr⟩ := drop_val (xs := xs) (i := i) (x := x) (B := Bv) (by rw [HL.out]; exact hin) ex hpos
   rw [hr] at dq dr hv7
   have hr0 : 0 ≤ r := by rw [← hr]; exact Int.emod_nonneg _ (by omega)
   have hr1 : r < Bv := by rw [← hr]; exact Int.emod_lt_of_pos _ hpos
   obtain ⟨j0, j1, j2, j3⟩ := div_step hpos hr0 hr1 bx
   obtain ⟨Rv, hRv⟩ : ∃ Rv, x + 65536 * r = Rv := ⟨_, rfl⟩
   rw [hRv] at dq dr j0 j1 j2 j3
   have hHalf := Half.start j0 j1
   have HDQ := Lib.hid dq
   have HDR := Lib.hid dr
   have HQ := Lib.hid (And.intro hql (And.intro hqd hqv))
   have HOWN := Lib.hid ho
   have HR7 := Lib.hid hr7
   have HD7 := Lib.hid hd7
   have HV7 := Lib.hid hv7
   have HRV := Lib.hid hRv
   have HHALF := Lib.hid hHalf
   have HBL := Lib.hid hbl
   have hin2 : (i : Int) < (n : Int) := by omega
   have hwr : w.heap.size < wr.heap.size := (World.ownsRow.lt ho w.heap.size rfl).2
   have hb6 := below_alloc wr (.cells #[.int .i64 x] 3)
   have hlit := World.ownsRow_lit (base := wr.heap.size) (e := 3) (size := 1) wr #[.int .i64 x] 1 (Nat.le_refl _) (by unfold maxLen; omega) rfl
   have HLIT := Lib.hid hlit
   have HR7b := Lib.hid (hr7.below hb6)
   have hd8 : DigR 65536 (x :: ds7) := fun d hd => by
    rcases List.mem_cons.1 hd with h' | h'
    ·rw [h']; exact bx
    ·exact hd7 d h'
   have HD8 := Lib.hid hd8
   clear hx ex hr7 hd7 hv7 dq dr hRv hHalf hql hqd hqv ho hr hbl hlit j0 j1 j2 j3 hr0 hr1 hd8
   go_wp2_with (at_builtin; refine wpList_append_row (P := Tryz.prog) (w := wr.alloc (.cells #[.int .i64 x] 3)) rfl (.tmp 26) (.tmp 27) 32 rfl wr.heap.size 3 i0 (.int .i64 0) 8 Tryz.underlying32 hi hz0 hz1 hz2 rfl (.slice (some ⟨wr.heap.size, 0, none⟩) 1 1) 1 [.int .i64 x] rfl HLIT.out A7 n7 c7 ds7 rfl HR7b.out (by unfold maxLen; omega) (by omega) (by simp) ?_; intro v8 w7 hown8 hg8)
   have hbw7 := hb6.grown hg8 hb6.size (fun g hg => by simp [Value.ownBlock] at hg; omega)
   obtain ⟨g8, c8, rfl, hge8⟩ : ∃ g8 c8, v8 = .slice (some ⟨g8, 0, none⟩) (1 + n7) c8 ∧ wr.heap.size ≤ g8 := by
    rcases hown8.2 with ⟨_, h0⟩ | ⟨g8, cap, cur, e8, hg8', _⟩
    ·omega
    ·exact ⟨g8, cap, e8, hg8'⟩
   have hrow8 : Row .i64 w7 (some ⟨g8, 0, none⟩) (1 + n7) c8 (x :: ds7) := Row.of_own (xs := x :: ds7) (by simpa using hown8)
   have HROW8 := Lib.hid hrow8
   clear hrow8 hown8 hg8
   go_wp2_with fail
   refine (rtrim_some _ _ _ _ _ HROW8.out (by omega)).mono ?_
   rintro e w' ⟨k9, hk9, rfl, rfl, hv9, ht9⟩
   have hval9 : valR 65536 ((x :: ds7).take k9) = Rv := by
    rw [hv9, ← HRV.out, ← HV7.out]; rfl
   have hr9 := HROW8.out.take hk9
   have hd9 := HD8.out.take k9
   generalize ((x :: ds7).take k9) = rs at *
   have HR9 := Lib.hid hr9
   have HV9 := Lib.hid hval9
   have HT9 := Lib.hid ht9
   have HD9 := Lib.hid hd9
   have hw7 : wr.heap.size ≤ w7.heap.size := hbw7.size
   have HBW := Lib.hid (HBL.out.trans (hbw7.mono HBL.out.size))
   clear hr9 hv9 ht9 hval9 hd9
   go_wp2_with fail
   obtain ⟨wo, rfl⟩ : ∃ wo : World, wo = w7 := ⟨_, rfl⟩
   go_loopw [9, 10] (fun lv hv wx => ∃ lo hi : Int, lv = .int .i64 lo ∧ hv = .int .i64 hi ∧ Half Rv Bv lo hi ∧ Below wo.heap.size wo wx) (fun lv hv _ => (intOf hv - intOf lv).toNat)
   case atStart => exact ⟨0, 65536, rfl, rfl, HHALF.out, Below.refl _ _⟩
   case round =>
    obtain ⟨lo, hh, rfl, rfl, hhalf, hbx2⟩ := hrel
    have HH := Lib.hid hhalf
    obtain ⟨l0, l1, l2, -, -⟩ := hhalf
    have s1 : IntKind.i64.wrap (hh - lo) = hh - lo := by rw [IntKind.wrap_i64]; omega
    by_cases hgap : 1 < hh - lo
    ·obtain ⟨mv, hmv⟩ : ∃ mv, mv = (lo + hh) / 2 := ⟨_, rfl⟩
     have s2 : IntKind.i64.wrap (lo + hh) = lo + hh := by rw [IntKind.wrap_i64]; omega
     have s3 : (lo + hh).tdiv 2 = mv := by rw [hmv]; exact Int.tdiv_eq_ediv_of_nonneg (by omega)
     have s4 : IntKind.i64.wrap mv = mv := by rw [IntKind.wrap_i64]; omega
     have m0 : 0 ≤ mv := by omega
     have m1 : mv < 65536 := by omega
     have hgl : lo < mv := by omega
     have hgh : mv < hh := by omega
     have HMV := Lib.hid hmv
     have HMID := Lib.hid (HH.out.mid hmv hgap)
     have hb8 := below_alloc wr (.cells #[.int .i64 mv] 3)
     clear hmv
     go_wp2_with fail
     refine (rtimes_any B _ m 1 d 1 ys [mv] _ (((HGR.out.below HBW.out).below hbx2).below hb8) (digit_row wr mv) (by omega) (by decide) hdy (fun d hd => by simp at hd; rw [hd]; exact ⟨m0, m1⟩)).mono ?_
     rintro e w9 ⟨v9, rfl, ⟨A1, n1, c1, ds1, rfl, hr1, hd1, ht1, hv1, hn1⟩, hb9⟩
     have hp1 : valR 65536 ds1 = mv * Bv := by rw [hv1, HBV.out]; simp [valR, Int.mul_comm]
     have HP1 := Lib.hid hp1
     have HR1 := Lib.hid hr1
     have hb89 := hb8.trans (hb9.mono hb8.size)
     have HR9b := Lib.hid ((HR9.out.below hbx2).below hb89)
     clear hr1 hv1 hp1 s2 s3 s4
     go_wp2_with fail
     refine (rcompare_any A1 _ n1 k9 c1 c8 ds1 rs _ HR1.out HR9b.out (by omega) (by omega) hd1 HD9.out ht1 HT9.out).mono ?_
     rintro e w10 ⟨rfl, qd, rfl⟩
     rw [HP1.out, HV9.out]
     have hbd := below_drewN hb89 qd
     obtain ⟨cv, hcv⟩ : ∃ cv, cmpI (mv * Bv) Rv = cv := ⟨_, rfl⟩
     rw [hcv]
     by_cases hle : mv * Bv ≤ Rv
     ·have hcv0 : cv ≤ 0 := by rw [← hcv]; exact cmpI_le.2 hle
      have HN := Lib.hid (HMID.out.1 hle)
      clear hcv hle
      go_wp2_with fail
      exact ⟨⟨mv, hh, rfl, rfl, HN.out, hbx2.trans (hbd.mono hbx2.size)⟩, by simp [intOf]; omega⟩
     ·have hcv0 : ¬ cv ≤ 0 := by rw [← hcv]; exact fun h' => hle (cmpI_le.1 h')
      have HN := Lib.hid (HMID.out.2 (by omega))
      clear hcv hle
      go_wp2_with fail
      exact ⟨⟨lo, mv, rfl, rfl, HN.out, hbx2.trans (hbd.mono hbx2.size)⟩, by simp [intOf]; omega⟩
    ·have hlo := HH.out.done hpos (by omega)
     have HLO := Lib.hid hlo
     clear hlo
     have ho2 : Own64 wr w.heap.size w.heap.size n (List.replicate (i + 1) 0 ++ qs) := owns_below (owns_below HOWN.out hbw7) hbx2
     have hcu := ho2.cell hin
     have hfr := ho2.frozen i
     have hset := ho2.set i lo
     rw [rep_set] at hset
     have HSET := Lib.hid hset
     have hB2 := (HBW.out.trans (hbx2.mono HBW.out.size)).setCell (p := ⟨w.heap.size, i, none⟩) (Nat.le_refl _) (.int .i64 lo)
     have HR9c := Lib.hid ((HR9.out.below hbx2).far (p := ⟨w.heap.size, i, none⟩) (show w.heap.size ≠ g8 by omega) (.int .i64 lo))
     have hqd : DigR 65536 (lo :: qs) := fun d hd => by
      rcases List.mem_cons.1 hd with h' | h'
      ·rw [h']; exact ⟨l0, by omega⟩
      ·exact HQ.out.2.1 d h'
     have hqv : valR 65536 (lo :: qs) = valR 65536 (xs.drop i) / Bv := by
      rw [HDQ.out, HLO.out, ← HQ.out.2.2]; rfl
     have hql : (lo :: qs).length = n - i := by have := HQ.out.1; simp; omega
     have HQ2 := Lib.hid (And.intro hql (And.intro hqd hqv))
     have hmod := Int.emod_add_mul_ediv Rv Bv
     rw [HLO.out] at hmod
     have HMOD := Lib.hid hmod
     obtain ⟨u, hu⟩ : ∃ u, (List.replicate (i + 1) (0 : Int) ++ qs).getD i 0 = u := ⟨_, rfl⟩
     rw [hu] at hcu
     clear ho2 hset hqd hqv hql hmod hu
     by_cases hl0 : 0 < lo
     ·have hwz : (wr.setCell ⟨w.heap.size, i, none⟩ (.int .i64 lo)).heap.size = wr.heap.size := by simp [World.setCell]
      have hbs : Below wr.heap.size (wr.setCell ⟨w.heap.size, i, none⟩ (.int .i64 lo)) (wr.setCell ⟨w.heap.size, i, none⟩ (.int .i64 lo)) := Below.refl _ _
      have hbA := below_alloc (wr.setCell ⟨w.heap.size, i, none⟩ (.int .i64 lo)) (.cells #[.int .i64 lo] 3)
      have HGA := Lib.hid ((HGR.out.below hB2).below hbA)
      have HRA := Lib.hid (HR9c.out.below hbA)
      have hdr := digit_row (wr.setCell ⟨w.heap.size, i, none⟩ (.int .i64 lo)) lo
      have HSA := Lib.hid (show Own64 _ w.heap.size w.heap.size n (List.replicate i 0 ++ (lo :: qs)) from owns_below HSET.out hbA)
      rw [hwz] at hdr
      have HDRW := Lib.hid hdr
      have hBA := hB2.trans (hbA.mono hB2.size)
      clear hdr hwz hbs
      go_wp2_with fail
      refine (rtimes_any B _ m 1 d 1 ys [lo] _ HGA.out HDRW.out (by omega) (by decide) hdy (fun d hd => by simp at hd; rw [hd]; exact ⟨l0, by omega⟩)).mono ?_
      rintro e w9 ⟨v9, rfl, ⟨A1, n1, c1, ds1, rfl, hr1, hd1, ht1, hv1, hn1⟩, hb9⟩
      have hp1 : valR 65536 ds1 = lo * Bv := by rw [hv1, HBV.out]; simp [valR, Int.mul_comm]
      have hle : valR 65536 ds1 ≤ valR 65536 rs := by rw [hp1, HV9.out]; have := HH.out.2.2.2.1; exact this
      have hlen := len_of_val HD9.out hd1 ht1 hle
      rw [hr1.1, HR9.out.1] at hlen
      have HP1 := Lib.hid hp1
      have HR1 := Lib.hid hr1
      have HLE := Lib.hid hle
      have HSB := Lib.hid (show Own64 _ w.heap.size w.heap.size n (List.replicate i 0 ++ (lo :: qs)) from owns_below HSA.out hb9)
      have hB9 := hBA.trans (hb9.mono hBA.size)
      clear hr1 hv1 hp1 hle
      go_wp2_with fail
      refine (rminus_any _ A1 k9 n1 c8 c1 rs ds1 _ (HRA.out.below hb9) HR1.out (by omega) hlen HD9.out hd1 HLE.out).mono ?_
      rintro e w10 ⟨⟨v10, rfl, hn10⟩, hb10⟩
      have HN10 := Lib.hid hn10
      have HSC := Lib.hid (show Own64 _ w.heap.size w.heap.size n (List.replicate i 0 ++ (lo :: qs)) from owns_below HSB.out hb10)
      have hB10 := hB9.trans (hb10.mono hB9.size)
      clear hn10
      go_wp2_with fail
      refine ⟨⟨_, i, rfl, rfl, by omega, hB10, ⟨_, HQ2.out.1, HQ2.out.2.1, HQ2.out.2.2, HSC.out⟩, ?_⟩, by simp [intOf] <;> omega⟩
      obtain ⟨A11, n11, c11, ds11, e11, r11, d11, v11, l11⟩ := HN10.out
      refine ⟨A11, n11, c11, ds11, e11, r11, d11, ?_, by omega⟩
      rw [v11, HP1.out, HV9.out, HDR.out]
      have h1 := HMOD.out
      rw [Int.mul_comm Bv] at h1
      omega
     ·have hlz : lo = 0 := by omega
      have HLZ := Lib.hid hlz
      clear hlz
      go_wp2_with fail
      refine ⟨⟨_, i, rfl, rfl, by omega, hB2, ⟨_, HQ2.out.1, HQ2.out.2.1, HQ2.out.2.2, HSET.out⟩, ⟨_, k9, c8, rs, rfl, HR9c.out, HD9.out, ?_, by omega⟩⟩, by simp [intOf] <;> omega⟩
      rw [HV9.out, HDR.out]
      have h1 := HMOD.out
      rw [HLZ.out] at h1
      simp at h1
      omega

end Go.Proofs.YtbajnceoolkckaaGreat
