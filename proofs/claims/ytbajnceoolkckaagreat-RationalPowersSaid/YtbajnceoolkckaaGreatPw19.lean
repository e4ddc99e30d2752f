/- Of the proof of RationalPowers: PowInt, RAbs. -/
import Derived.Test.YtbajnceoolkckaaGreatPw18
/- Power, both sides, at every exponent that the law of powers lets by. -/
namespace Go.Proofs.YtbajnceoolkckaaGreat
open Go.RowKit LM

/-- What Power comes to where the result is not too large. -/
def powV (x n : Int) : Int := if n < 0 then 0 else x ^ n.toNat
def powE (n : Int) : Int := if n < 0 then 1 else 0

theorem two_lt_succ (N : Nat) : (2 : Int) ^ N < 2 ^ (N + 1) := by
 have := two_pos N
 rw [Int.pow_succ]; omega

set_option maxHeartbeats 1000000 in
theorem Power_zero (p : Bool) (A : Option Addr) (m c : Nat) (w : World) :
  Calls Tryz.prog 91 #[.agg #[.bool p, .slice A m c], .int .i64 ((0 : Nat) : Int)] w fun e w' => (∃ ng A2 n2 c2, e = .returned (.tuple #[.agg #[.bool ng, .slice A2 n2 c2], .int .i64 0]) ∧ Ival w' (.agg #[.bool ng, .slice A2 n2 c2]) 1 2) ∧ Below w.heap.size w w' := by
 have hW := below_two w (.cells #[.bool p, .slice A m c] 31) (.cells #[.bool false, .slice none 0 0] 31)
 go_enter Tryz.func91, Tryz.ntmps91
 go_wp2_with fail
 refine (new_int 1 _ (by omega) (by omega)).mono ?_
 rintro e w1 ⟨r, rfl, hr, hb1⟩
 obtain ⟨ng, A2, n2, c2, rfl⟩ := hr.form
 have hB1 := hb1.mono (B' := w.heap.size + 2) (by simp)
 obtain ⟨e1, e2, f1, f2⟩ := room1 hB1
 have HR := Lib.hid hr
 clear hr
 go_wp2
 refine bodyPost_ret (v := .tuple #[.agg #[.bool ng, .slice A2 n2 c2], .int .i64 0]) (by simp [results, Tryz.results91, go_sem, e1, e2]) rfl ⟨⟨_, _, _, _, rfl, HR.out.stored e1 e2 _ _⟩, ?_⟩
 exact ((hW.trans (hB1.mono (by omega))).setCell (by show _ ≤ _; simp) _).setCell (by show _ ≤ _; simp) _

theorem num_lt {w : World} {v : Value} {a : Int} {L : Nat} (h : Num w v a L) : a < 2 ^ (32 * L) := by
 obtain ⟨A, n, c, xs, _, hr, hd, ht, hv, hn⟩ := h
 have hb := val_bounds hd
 rw [hr.1, BB_two, hv] at hb
 have := two_mono (show 32 * n ≤ 32 * L by omega)
 omega

theorem IsLen.le {z : Int} {k N : Nat} (h : IsLen z k) (hz : z < 2 ^ N) : k ≤ N := by
 rcases h with ⟨_, rfl⟩ | ⟨h1, h2, _⟩
 ·exact Nat.zero_le _
 ·have := two_lt (show (2 : Int) ^ (k - 1) < 2 ^ N by omega)
  omega

theorem pow_short {p : Bool} {a : Int} {L n k : Nat} (h0 : 0 ≤ a) (ha : a < 2 ^ (32 * L)) (hL : L ≤ 16) (hn : n ≤ 40) (hk : IsLen (patOf (withSign p a ^ n)) k) : k ≤ 65536 := by
 have h1 := pow_mono_base h0 (Int.le_of_lt ha) n
 rw [← Int.pow_mul] at h1
 have h2 : 32 * L * n ≤ 512 * 40 := Nat.mul_le_mul (by omega) hn
 have h3 := two_mono (show 32 * L * n ≤ 20480 by omega)
 have h4 : (0 : Int) ≤ a ^ n := Int.pow_nonneg h0
 have h5 : patOf (withSign p a ^ n) ≤ a ^ n := by
  rw [← withSign_pow]
  generalize a ^ n = s at *
  unfold patOf withSign
  split <;> split <;> omega
 have h6 := two_lt_succ 20480
 have := hk.le (show patOf (withSign p a ^ n) < 2 ^ 20481 by omega)
 omega

theorem Power_int (u : Value) (x n : Int) (L : Nat) (w : World) (h : Ival w u x L) (hL : L ≤ 16) (hn : n ≤ 9223372036854775807) (hc : n ≤ 40 ∨ -1 ≤ x ∧ x ≤ 1) :
  Calls Tryz.prog 91 #[u, .int .i64 n] w fun e w' => (∃ ng A2 n2 c2, e = .returned (.tuple #[.agg #[.bool ng, .slice A2 n2 c2], .int .i64 (powE n)]) ∧ Ival w' (.agg #[.bool ng, .slice A2 n2 c2]) (powV x n) 200000) ∧ Below w.heap.size w w' := by
 by_cases hneg : n < 0
 ·have hE : powE n = 1 := if_pos hneg
  have hV : powV x n = 0 := if_pos hneg
  rw [hE, hV]
  obtain ⟨p, A, m, c, rfl⟩ := h.form
  refine (Power_bad p A m c n w hneg).mono ?_
  rintro e w' ⟨rfl, hb⟩
  exact ⟨⟨false, none, 0, 0, rfl, Ival.nought⟩, hb⟩
 ·have hE : powE n = 0 := if_neg hneg
  have hV : powV x n = x ^ n.toNat := if_neg hneg
  rw [hE, hV]
  obtain ⟨N, rfl⟩ : ∃ N : Nat, n = (N : Int) := ⟨n.toNat, by omega⟩
  rw [show ((N : Int)).toNat = N from by omega]
  by_cases hx : x ≤ -2 ∨ 2 ≤ x
  ·have hN : N ≤ 40 := by omega
   refine (Power_any u x L N w h (by omega) (by omega) hx).mono ?_
   rintro e w' ⟨⟨ng, A2, n2, c2, err, rfl, k, hk, hans⟩, hb⟩
   have hk2 : k ≤ 65536 := by
    obtain ⟨p, A, m, c, rfl⟩ := h.form
    obtain ⟨a, ha, ha0, rfl, ha1⟩ := h.parts
    exact pow_short ha0 (num_lt ha) hL hN hk
   rcases hans with ⟨hf, _⟩ | ⟨_, rfl, hv⟩
   ·omega
   ·exact ⟨⟨ng, A2, n2, c2, rfl, hv⟩, hb⟩
  ·by_cases hN0 : N = 0
   ·subst hN0
    obtain ⟨p, A, m, c, rfl⟩ := h.form
    refine (Power_zero p A m c w).mono ?_
    rintro e w' ⟨⟨ng, A2, n2, c2, rfl, hv⟩, hb⟩
    exact ⟨⟨ng, A2, n2, c2, rfl, by rw [Int.pow_zero]; exact hv.mono (by omega)⟩, hb⟩
   ·refine (Power_small u x L N w h (by omega) (by omega) hN0 (by omega)).mono ?_
    rintro e w' ⟨⟨ng, A2, n2, c2, rfl, hv⟩, hb⟩
    exact ⟨⟨ng, A2, n2, c2, rfl, hv.mono (by omega)⟩, hb⟩

end Go.Proofs.YtbajnceoolkckaaGreat
/- The reference's Abs. -/
namespace Go.Proofs.YtbajnceoolkckaaGreat
open Go.RowKit LM

theorem Rval.abs {w : World} {g : Bool} {A : Option Addr} {n c : Nat} {x : Int} {L : Nat} (h : Rval w (.agg #[.bool g, .slice A n c]) x L) : Rval w (.agg #[.bool false, .slice A n c]) (if x < 0 then -x else x) L := by
 obtain ⟨neg, A', n', c', ds, e, hr, hd, ht, hz, hp, hn⟩ := h
 simp only [Value.agg.injEq] at e
 injection e with e
 simp only [List.cons.injEq, Value.bool.injEq, Value.slice.injEq, and_true] at e
 obtain ⟨rfl, rfl, rfl, rfl⟩ := e
 refine ⟨false, A, n, c, ds, rfl, hr, hd, ht, ?_, (fun h => by cases h), hn⟩
 have h0 := valR_nonneg (by decide) hd
 rw [hz]
 cases g <;> simp [withSign] <;> omega

set_option maxHeartbeats 1000000 in
theorem rabs_any (u : Value) (x : Int) (L : Nat) (w : World) (h : Rval w u x L) :
  Calls Tryz.prog 29 #[u] w fun e w' => (∃ ng A2 n2 c2, e = .returned (.agg #[.bool ng, .slice A2 n2 c2]) ∧ Rval w' (.agg #[.bool ng, .slice A2 n2 c2]) (if x < 0 then -x else x) L) ∧ Below w.heap.size w w' := by
 obtain ⟨p, A, n, c, rfl⟩ := h.form
 have hW := below_two w (.cells #[.bool p, .slice A n c] 34) (.cells #[.bool false, .slice none 0 0] 34)
 have hA := h.abs
 obtain ⟨y, hy⟩ : ∃ y, (if x < 0 then -x else x) = y := ⟨_, rfl⟩
 rw [hy] at hA ⊢
 have HA := Lib.hid hA

 clear h hy hA
 go_enter Tryz.func29, Tryz.ntmps29
 go_wp2
 refine bodyPost_ret (v := .agg #[.bool false, .slice A n c]) (by simp [results, Tryz.results29, go_sem]) rfl ⟨⟨_, _, _, _, rfl, HA.out.below (below_two _ _ _)⟩, below_two _ _ _⟩

end Go.Proofs.YtbajnceoolkckaaGreat
