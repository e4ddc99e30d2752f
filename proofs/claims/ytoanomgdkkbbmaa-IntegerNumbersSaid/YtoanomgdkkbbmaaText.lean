/- chunk, reversed. -/
import Derived.Test.YtoanomgdkkbbmaaShortDiv
import Derived.Deep.LoopGhost
namespace Go.Proofs.Ytoanomgdkkbbmaa
open Go.RowKit LM

theorem chunk_any (R : Int) (w : World) (h0 : 2 ≤ R) (h1 : R ≤ 36) :
    Calls Try.prog 130 #[.int .i64 R] w fun e w' => (∃ k : Nat, e = .returned (.tuple #[.int .i64 k, .int .u32 (R ^ k)]) ∧ 1 ≤ k ∧ k ≤ 64 ∧ 2 ≤ R ^ k ∧ R ^ k < 4294967296) ∧ w = w' := by
  go_enter Try.func130, Try.ntmps130
  go_wp2_with fail
  go_loop [2, 4] (fun dv pv => ∃ (k : Nat) (p : Int), dv = .int .i64 k ∧ pv = .int .u64 p ∧ Hid (p = R ^ k) ∧ (k : Int) + 1 ≤ p ∧ k ≤ 64 ∧ 1 ≤ p ∧ p < 4294967296 ∧ Hid (1 ≤ p ∧ (2 : Int) ^ k ≤ p)) (fun _ pv => (4294967296 - intOf pv).toNat)
  case atStart => exact ⟨0, 1, rfl, rfl, Lib.hid (by simp), by simp, by omega, by omega, by omega, Lib.hid ⟨by omega, by simp⟩⟩
  case round =>
    obtain ⟨k, p, rfl, rfl, HP, hkp, hk64, hp1, hp2, H2⟩ := hrel
    obtain ⟨m, hm⟩ : ∃ m, p * R = m := ⟨_, rfl⟩
    have m0 : 2 * p ≤ m := by rw [← hm, Int.mul_comm p R]; exact Int.mul_le_mul_of_nonneg_right h0 (by omega)
    have m1 : m ≤ 36 * p := by rw [← hm, Int.mul_comm p R]; exact Int.mul_le_mul_of_nonneg_right h1 (by omega)
    by_cases hlt : m < 4294967296
    · have hz : m / 4294967296 = 0 := Int.ediv_eq_zero_of_lt (by omega) hlt
      have hz' : (m / 4294967296 == 0) = true := by rw [hz]; rfl
      have hk : k < 32 := by
        have h2 := H2.out.2
        rcases Nat.lt_or_ge k 32 with h | h
        · exact h
        · have h3 : (2 : Int) ^ 32 ≤ 2 ^ k := by
            have := Nat.pow_le_pow_right (show 0 < 2 by omega) h
            exact_mod_cast this
          have : (2 : Int) ^ 32 = 4294967296 := by decide
          omega
      clear hz
      go_wp2
      refine ⟨⟨k + 1, m, by go_num, rfl, Lib.hid ?_, by omega, by omega, by omega, hlt, Lib.hid ⟨by omega, ?_⟩⟩, by simp [intOf]; omega⟩
      · rw [← hm, HP.out, Int.pow_succ]
      · have := H2.out.2; rw [Int.pow_succ]; omega
    · have hq : 1 ≤ m / 4294967296 := Int.le_ediv_of_mul_le (by decide) (by omega)
      have hz' : (m / 4294967296 == 0) = false := by simp; omega
      have hk0 : 1 ≤ k := by
        rcases Nat.eq_zero_or_pos k with h | h
        · subst h
          have := HP.out
          simp at this
          omega
        · exact h
      have hp3 : 2 ≤ p := by omega
      clear hq
      go_wp2
      go_ret2
      refine ⟨⟨k, ?_, hk0, hk64, ?_, ?_⟩, rfl⟩
      · rw [← HP.out]; rfl
      · rw [← HP.out]; exact hp3
      · rw [← HP.out]; exact hp2

theorem Try.info5 : (Try.prog.info? 5).map (fun i => (i.zero, i.size, i.bytes)) = some (some (.int .u8 0), 1, 1) := by kernel_rfl

/-- The value of digits to the base R, the lowest first. -/
def valR (R : Int) : List Int → Int
  | [] => 0
  | d :: l => d + R * valR R l

/-- Digits of a radix. -/
def DigR (R : Int) (l : List Int) : Prop := ∀ d ∈ l, 0 ≤ d ∧ d < R

theorem valR_append (R : Int) (a b : List Int) : valR R (a ++ b) = valR R a + R ^ a.length * valR R b := by
  induction a with
  | nil => simp [valR]
  | cons d a ih =>
    rw [List.cons_append, valR, valR, ih, List.length_cons, Int.pow_succ, Int.mul_add]
    rw [Int.mul_comm (R ^ a.length) R, Int.mul_assoc]; omega

theorem valR_nonneg {R : Int} (hR : 0 ≤ R) {l : List Int} (h : DigR R l) : 0 ≤ valR R l := by
  induction l with
  | nil => simp [valR]
  | cons d l ih =>
    have h1 := ih (fun x hx => h x (List.mem_cons_of_mem _ hx))
    have h2 := h d (List.mem_cons_self ..)
    have := Int.mul_nonneg hR h1
    rw [valR]; omega

/-- The byte of a digit. -/
def nameOf (d : Int) : Int := if d < 10 then d + 48 else d + 55

/-- Digits lie apart from what grows. -/
def Apart (w : World) (v : Value) (B : Nat) : Prop := ∀ A n c, v = .slice A n c → n ≠ 0 → ∃ b o, A = some ⟨b, o, none⟩ ∧ (b < B ∨ ∃ cs fr, w.heap[b]? = some (.cells cs 99 fr))

theorem Num.apart {w w' : World} {v : Value} {z : Int} {L B : Nat} (h : Num w v z L) (ha : Apart w v B) {row : Option Nat} (hg : w.grownBy w' row) (hr : ∀ g, row = some g → B ≤ g ∧ ∃ cs fr, w.heap[g]? = some (.cells cs 5 fr)) : Num w' v z L ∧ Apart w' v B := by
  obtain ⟨A, n, c, xs, rfl, hrow, r⟩ := h
  have key : n ≠ 0 → ∃ b o, A = some ⟨b, o, none⟩ ∧ w'.heap[b]? = w.heap[b]? ∧ (b < B ∨ ∃ cs fr, w.heap[b]? = some (.cells cs 99 fr)) := by
    intro hn
    obtain ⟨b, o, hA, hc⟩ := ha A n c rfl hn
    obtain ⟨b', o', hA', hlt, _⟩ := hrow.2.2 hn
    have hbb : b = b' := by rw [hA] at hA'; simp at hA'; exact hA'.1
    subst hbb
    refine ⟨b, o, hA, hg.block b hlt (fun e => ?_), hc⟩
    obtain ⟨h1, cs', fr', h'⟩ := hr b e.symm
    rcases hc with hc | ⟨cs, fr, hc⟩
    · omega
    · rw [h'] at hc; simp at hc
  constructor
  · refine ⟨A, n, c, xs, rfl, ⟨hrow.1, hrow.2.1, fun hn => ?_⟩, r⟩
    obtain ⟨b, o, hA, he, _⟩ := key hn
    obtain ⟨b', o', hA', hlt, hc⟩ := hrow.2.2 hn
    rw [hA] at hA'
    simp only [Option.some.injEq, Addr.mk.injEq, and_true] at hA'
    obtain ⟨rfl, rfl⟩ := hA'
    exact ⟨b, o, hA, Nat.lt_of_lt_of_le hlt hg.size, fun i hi => (World.cell?_of_block (a := ⟨b, o + i, none⟩) he).trans (hc i hi)⟩
  · intro A' n' c' e hn
    simp only [Value.slice.injEq] at e
    obtain ⟨rfl, rfl, rfl⟩ := e
    obtain ⟨b, o, hA, he, hc⟩ := key hn
    exact ⟨b, o, hA, hc.imp id (fun ⟨cs, fr, h⟩ => ⟨cs, fr, he.trans h⟩)⟩

theorem Apart.below {w w' : World} {v : Value} {B : Nat} (h : Apart w v B) (hb : Below w.heap.size w w') : Apart w' v B := by
  intro A n c e hn
  obtain ⟨b, o, hA, hc⟩ := h A n c e hn
  exact ⟨b, o, hA, hc.imp id (fun ⟨cs, fr, hh⟩ => ⟨cs, fr, (hb.block b (Array.getElem?_eq_some_iff.1 hh).1).trans hh⟩)⟩

/-- Bytes of the call's own, for the digits ds. -/
def Names (w : World) (base : Nat) (v : Value) (ds : List Int) : Prop := w.ownsRow base 5 1 v ds.length (ds.map (fun d => Value.int .u8 (nameOf d)))

theorem pow_mono_left {R : Int} (h : 2 ≤ R) (a : Nat) : (2 : Int) ^ a ≤ R ^ a := by
  induction a with
  | zero => simp
  | succ a ih =>
    rw [Int.pow_succ, Int.pow_succ]
    have h1 : (0 : Int) ≤ 2 ^ a := Int.pow_nonneg (by decide)
    have h2 : (2 : Int) ^ a * 2 ≤ 2 ^ a * R := Int.mul_le_mul_of_nonneg_left h h1
    have h3 : (2 : Int) ^ a * R ≤ R ^ a * R := Int.mul_le_mul_of_nonneg_right ih (by omega)
    omega

theorem BB_two (L : Nat) : BB ^ L = (2 : Int) ^ (32 * L) := by
  rw [Int.pow_mul, BB_def]; rfl

theorem len_bound {R z : Int} {a L : Nat} (h : 2 ≤ R) (h1 : R ^ a ≤ z) (h2 : z < BB ^ L) : a < 32 * L := by
  rcases Nat.lt_or_ge a (32 * L) with h3 | h3
  · exact h3
  · have h4 : (2 : Int) ^ (32 * L) ≤ 2 ^ a := by
      have := Nat.pow_le_pow_right (show 0 < 2 by omega) h3
      exact_mod_cast this
    have := pow_mono_left h a
    rw [BB_two] at h2
    omega

theorem Num.lt {w : World} {v : Value} {z : Int} {L : Nat} (h : Num w v z L) : z < BB ^ L := by
  obtain ⟨_, n, _, xs, _, hr, hd, _, rfl, hn⟩ := h
  have h1 := (val_bounds hd).2
  rw [hr.1] at h1
  exact Int.lt_of_lt_of_le h1 (pow_le hn)

theorem ownsRow_block' {w : World} {base : Nat} {e : TypeId} {size : Nat} {v : Value} {n : Nat} {xs : List Value} (h : w.ownsRow base e size v n xs) : ∀ g, v.ownBlock = some g → ∃ cs fr, w.heap[g]? = some (.cells cs e fr) := by
  intro g hg
  rcases h.2 with ⟨rfl, _⟩ | ⟨g', cap, cur, rfl, _, hh, _⟩
  · simp [Value.ownBlock] at hg
  · simp [Value.ownBlock] at hg
    subst hg
    exact ⟨_, _, hh⟩

theorem ownsRow_below' {w w' : World} {base : Nat} {e : TypeId} {size : Nat} {v : Value} {n : Nat} {xs : List Value} (h : w.ownsRow base e size v n xs) (hb : Below w.heap.size w w') : w'.ownsRow base e size v n xs :=
  h.kept (row := none) ⟨hb.os, hb.tape, hb.output, hb.size, fun k hk _ => hb.block k hk⟩ (by cases v.ownBlock <;> simp)

theorem names_fin : ∀ n : Fin 36, ((({ data := #[48, 49, 50, 51, 52, 53, 54, 55, 56, 57, 65, 66, 67, 68, 69, 70, 71, 72, 73, 74, 75, 76, 77, 78, 79, 80, 81, 82, 83, 84, 85, 86, 87, 88, 89, 90] } : ByteArray)[n.val]'n.isLt).toNat : Int) = nameOf (n.val : Int) := by decide

theorem names_at (d : Int) (h0 : 0 ≤ d) (h1 : d < 36) (h : d.toNat < ({ data := #[48, 49, 50, 51, 52, 53, 54, 55, 56, 57, 65, 66, 67, 68, 69, 70, 71, 72, 73, 74, 75, 76, 77, 78, 79, 80, 81, 82, 83, 84, 85, 86, 87, 88, 89, 90] } : ByteArray).size) : ((({ data := #[48, 49, 50, 51, 52, 53, 54, 55, 56, 57, 65, 66, 67, 68, 69, 70, 71, 72, 73, 74, 75, 76, 77, 78, 79, 80, 81, 82, 83, 84, 85, 86, 87, 88, 89, 90] } : ByteArray)[d.toNat]'h).toNat : Int) = nameOf d := by
  obtain ⟨n, rfl⟩ := Int.eq_ofNat_of_zero_le h0
  exact names_fin ⟨n, by omega⟩

set_option maxRecDepth 100000 in
set_option maxHeartbeats 1000000 in
theorem reversed_any (u : Value) (z R : Int) (L : Nat) (w : World) (h : Num w u z L) (hL : L ≤ 1048576) (h0 : 2 ≤ R) (h1 : R ≤ 36) :
    Calls Try.prog 108 #[u, .int .i64 R] w fun e w' => (∃ v ds, e = .returned v ∧ Names w' w.heap.size v ds ∧ DigR R ds ∧ valR R ds = z ∧ ds.length ≤ 1073741824) ∧ Below w.heap.size w w' := by
  obtain ⟨i0, hi, hz0, hz1, hz2⟩ := info_parts Try.info5
  go_enter Try.func108, Try.ntmps108
  go_wp2_with fail
  refine (chunk_any R w h0 h1).mono ?_
  rintro e w1 ⟨⟨k, rfl, hk1, hk2, hP1, hP2⟩, rfl⟩
  obtain ⟨P, hP⟩ : ∃ P, R ^ k = P := ⟨_, rfl⟩
  rw [hP] at hP1 hP2
  rw [hP]
  have HP := Lib.hid hP
  clear hP
  have HH := Lib.hid h
  clear h
  go_wp2_with fail
  go_loopg [7, 8] z.toNat (fun g ov rv wr => ∃ (z' : Int) (ds : List Int), g = z'.toNat ∧ Num wr rv z' L ∧ Apart wr rv w.heap.size ∧ Names wr w.heap.size ov ds ∧ Hid (DigR R ds ∧ valR R ds + R ^ ds.length * z' = z) ∧ ds.length ≤ 1073741824 ∧ Below w.heap.size w wr)
  case atStart =>
    refine ⟨z, [], rfl, HH.out, ?_, World.ownsRow_nil _ _ _ _, Lib.hid ⟨fun d hd => by simp at hd, by simp [valR]⟩, by simp, Below.refl _ _⟩
    intro A n c e hn
    obtain ⟨A', n', c', xs, e', hr, _⟩ := HH.out
    rw [e] at e'
    simp only [Value.slice.injEq] at e'
    obtain ⟨rfl, rfl, rfl⟩ := e'
    obtain ⟨b, o, hA, hlt, _⟩ := hr.2.2 hn
    exact ⟨b, o, hA, .inl hlt⟩
  case round =>
    obtain ⟨z', ds, rfl, hnum, hap, hown, HD, hdl, hb⟩ := hrel
    obtain ⟨A, n, c, xs, rfl, hrow, hdx, htx, rfl, hnL⟩ := id hnum
    by_cases hn0 : n = 0
    · subst hn0
      have hz0 : val xs = 0 := (trimmed_zero hdx htx).2 (List.eq_nil_of_length_eq_zero hrow.1)
      have HO := Lib.hid hown
      have HZ := Lib.hid hz0
      clear hnum hap hown hrow hz0 htx hdx
      go_wp2_with fail
      go_ret
      refine ⟨⟨_, ds, rfl, HO.out, HD.out.1, ?_, hdl⟩, hb⟩
      have := HD.out.2
      rw [HZ.out] at this
      simpa using this
    · have hn1 : (0 : Int) < (n : Int) := by omega
      have hn2 : 0 < n := by omega
      have hpos : 1 ≤ val xs := by
        have h2 := val_ge hdx htx (by rw [hrow.1]; exact hn0)
        have := BB_pos (xs.length - 1)
        omega
      have hzL := HH.out.lt
      have hlen : ds.length < 32 * L := by
        refine len_bound (z := z) h0 ?_ hzL
        have h2 := HD.out.2
        have h3 := valR_nonneg (by omega) HD.out.1
        have h4 : R ^ ds.length * 1 ≤ R ^ ds.length * val xs := Int.mul_le_mul_of_nonneg_left hpos (Int.pow_nonneg (by omega))
        omega
      have HR := Lib.hid hrow
      have HO := Lib.hid hown
      clear hnum hap hown hrow htx hzL
      go_wp2_with fail
      refine (sdiv_words A n c xs P wr HR.out (by omega) hdx (by omega) hP2).mono ?_
      rintro e w2 ⟨rv2, rfl, hnum2, hw2, hb2⟩
      go_wp2_with fail
      have hws := hb.size
      have hgb : Below w.heap.size w w2 := hb.trans (hb2.mono hws)
      have hap2 : Apart w2 rv2 w.heap.size := by
        intro A' n' c' e hn'
        obtain ⟨b, o, cs, fr, hA, hh⟩ := hw2 A' n' c' e hn'
        exact ⟨b, o, hA, .inr ⟨cs, fr, hh⟩⟩
      have ho2 : Names w2 w.heap.size u7 ds := ownsRow_below' HO.out hb2
      have hp0 : 0 ≤ val xs % P := Int.emod_nonneg _ (by omega)
      have hp1 : val xs % P < P := Int.emod_lt_of_pos _ (by omega)
      obtain ⟨p0, hpp⟩ : ∃ p0, val xs % P = p0 := ⟨_, rfl⟩
      rw [hpp] at hp0 hp1 ⊢
      have HPP := Lib.hid hpp
      have HN2 := Lib.hid (hnum2.mono hnL)
      have HA2 := Lib.hid hap2
      have HO2 := Lib.hid ho2
      clear hpp hap2 ho2 hnum2 hw2
      obtain ⟨wo, rfl⟩ : ∃ wo : World, wo = wr := ⟨_, rfl⟩
      go_loopw [7, 9, 26] (fun ov pv jv wx => ∃ (j : Nat) (pt : Int) (es : List Int), jv = .int .i64 j ∧ pv = .int .u32 pt ∧ j ≤ k ∧ es.length = j ∧ Hid (DigR R es ∧ valR R es + R ^ j * pt = p0) ∧ 0 ≤ pt ∧ pt < 4294967296 ∧ Hid (Num wx rv2 (val xs / P) L ∧ Apart wx rv2 w.heap.size ∧ Names wx w.heap.size ov (ds ++ es)) ∧ Below w.heap.size w wx) (fun _ _ jv _ => k - (intOf jv).toNat)
      case atStart => exact ⟨0, p0, [], rfl, rfl, Nat.zero_le _, rfl, Lib.hid ⟨fun d hd => by simp at hd, by simp [valR]⟩, hp0, by omega, Lib.hid ⟨HN2.out, HA2.out, by rw [List.append_nil]; exact HO2.out⟩, hgb⟩
      case round =>
        obtain ⟨j, pt, es, rfl, rfl, hjk, hel, HE, hpt0, hpt1, HW, hbw⟩ := hrel
        have HEL := Lib.hid hel
        clear hel
        by_cases hlt : j < k
        · have hd0 : 0 ≤ pt % R := Int.emod_nonneg _ (by omega)
          have hd1 : pt % R < R := Int.emod_lt_of_pos _ (by omega)
          obtain ⟨d, hd⟩ : ∃ d, pt % R = d := ⟨_, rfl⟩
          rw [hd] at hd0 hd1
          have hd2 : d < 36 := by omega
          have hnm := names_at d hd0 hd2
          go_wp2_with (at_builtin; refine wpList_append_own _ rfl (.tmp 28) (.tmp 34) _ rfl w.heap.size 5 i0 (.int .u8 0) 1 1 Try.underlying126 hi hz0 hz1 hz2 rfl (by decide) _ _ _ rfl (HW.out.2.2.alloc _) ⟨wr.heap.size, 0, none⟩ 1 1 [.int .u8 (nameOf d)] rfl rfl ?c1 ?c2 ?c3 ?c4 ?c5 ?_)
          case c2 => rfl
          case c3 => unfold maxLen; have := HEL.out; omega
          case c4 => have := HEL.out; omega
          case c5 => have := hbw.size; omega
          intro v' w3 hown3 hg3 _
          have hb3 := below_alloc wr (.cells #[.int .u8 (nameOf d)] 5)
          have hrow3 : ∀ g, u7.ownBlock = some g → w.heap.size ≤ g ∧ ∃ cs fr, (wr.alloc (.cells #[.int .u8 (nameOf d)] 5)).heap[g]? = some (.cells cs 5 fr) := by
            intro g hg
            exact ⟨(HW.out.2.2.lt g hg).1, ownsRow_block' (HW.out.2.2.alloc _) g hg⟩
          obtain ⟨hn3, ha3⟩ := (HW.out.1.below hb3).apart (HW.out.2.1.below hb3) hg3 hrow3
          have hnm3 : Names w3 w.heap.size v' (ds ++ (es ++ [d])) := by
            unfold Names
            rw [List.length_append, List.length_append, List.length_singleton, List.map_append, List.map_append]
            exact hown3
          have hb4 : Below w.heap.size w w3 := (hbw.alloc hbw.size _).grown hg3 (by have := hbw.size; simp; omega) (fun g hg => (hrow3 g hg).1)
          have HW3 := Lib.hid (And.intro hn3 (And.intro ha3 hnm3))
          have hq0 : 0 ≤ pt / R := Int.ediv_nonneg hpt0 (by omega)
          have hq1 : pt / R ≤ pt := Int.ediv_le_self R hpt0
          clear hown3 hg3 hrow3 hn3 ha3 hnm3 hnm
          go_wp2
          refine ⟨⟨j + 1, pt / R, es ++ [d], by go_num, rfl, hlt, by rw [List.length_append, HEL.out]; rfl, Lib.hid ⟨?_, ?_⟩, hq0, by omega, HW3.out, hb4⟩, by simp [intOf]; omega⟩
          · intro x hx
            rcases List.mem_append.1 hx with hx | hx
            · exact HE.out.1 x hx
            · simp at hx; subst hx; exact ⟨hd0, hd1⟩
          · have h2 := HE.out.2
            rw [valR_append, HEL.out, Int.pow_succ]
            have h3 : pt = R * (pt / R) + d := by rw [← hd]; exact (Int.mul_ediv_add_emod pt R).symm
            have h4 : R ^ j * pt = R ^ j * (R * (pt / R)) + R ^ j * d := by rw [← Int.mul_add, ← h3]
            rw [h4] at h2
            simp only [valR, Int.mul_zero, Int.add_zero]
            rw [Int.mul_assoc]
            omega
        · obtain rfl : j = k := by omega
          have hpt : pt = 0 := by
            have h2 := HE.out.2
            have h3 := valR_nonneg (by omega : (0 : Int) ≤ R) HE.out.1
            rw [HP.out] at h2
            rcases Int.lt_or_eq_of_le hpt0 with h4 | h4
            · have h5 : P * 1 ≤ P * pt := Int.mul_le_mul_of_nonneg_left (by omega) (by omega)
              omega
            · exact h4.symm
          have HPT := Lib.hid hpt
          clear hpt
          go_wp2_with fail
          have hdl2 : (val xs / P).toNat < (val xs).toNat := by
            have : val xs / P < val xs := Int.ediv_lt_of_lt_mul (by omega) (by
              have h5 : val xs * 2 ≤ val xs * P := Int.mul_le_mul_of_nonneg_left hP1 (by omega)
              omega)
            have : 0 ≤ val xs / P := Int.ediv_nonneg (by omega) (by omega)
            omega
          go_roundg (val xs / P).toNat
          case measure => exact hdl2
          case rel =>
            refine ⟨val xs / P, ds ++ es, rfl, HW.out.1, HW.out.2.1, HW.out.2.2, Lib.hid ⟨?_, ?_⟩, by rw [List.length_append, HEL.out]; omega, hbw⟩
            · intro x hx
              rcases List.mem_append.1 hx with hx | hx
              · exact HD.out.1 x hx
              · exact HE.out.1 x hx
            · have h2 := HE.out.2
              rw [HPT.out, Int.mul_zero, Int.add_zero] at h2
              rw [valR_append, h2, List.length_append, HEL.out, Int.pow_add, HP.out, Int.mul_assoc, Int.add_assoc, ← Int.mul_add]
              have h3 : p0 + P * (val xs / P) = val xs := by rw [← HPP.out]; exact Int.emod_add_mul_ediv _ _
              rw [h3]
              exact HD.out.2

end Go.Proofs.Ytoanomgdkkbbmaa
