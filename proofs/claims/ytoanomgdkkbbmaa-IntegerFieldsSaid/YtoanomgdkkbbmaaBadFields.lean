/- Field and Deposit with a size or a position that is not permitted. -/
import Derived.Test.YtoanomgdkkbbmaaDeposit
import Derived.Test.YtoanomgdkkbbmaaRDeposit
namespace Go.Proofs.Ytoanomgdkkbbmaa
open Go.RowKit LM

/-- A size or a position that is permitted. -/
def Perm (n : Int) : Prop := 0 ≤ n ∧ n ≤ 65536
instance (n : Int) : Decidable (Perm n) := by unfold Perm; infer_instance
theorem perm_flag (n : Int) : (decide (0 ≤ n) && decide (n ≤ 65536)) = decide (Perm n) := by rw [Bool.eq_iff_iff, decide_eq_true_iff]; simp [Perm]
def permE (k p : Int) : Int := if Perm k ∧ Perm p then 0 else 1
def fieldV (x k p : Int) : Int := if Perm k ∧ Perm p then fieldOf x k.toNat p.toNat else 0
def depV (x y k p : Int) : Int := if Perm k ∧ Perm p then depOf x y k.toNat p.toNat else 0

set_option maxRecDepth 100000 in
set_option maxHeartbeats 1000000 in
theorem Field_bad (p : Bool) (A : Option Addr) (n c : Nat) (k a : Int) (w : World) (h : ¬ (Perm k ∧ Perm a)) :
    Calls Try.prog 56 #[.agg #[.bool p, .slice A n c], .int .i64 k, .int .i64 a] w fun e w' => e = .returned (.tuple #[.agg #[.bool false, .slice none 0 0], .int .i64 1]) ∧ Below w.heap.size w w' := by
  have hW : Below w.heap.size w ((w.alloc (.cells #[.bool p, .slice A n c] 28)).alloc (.cells #[.bool false, .slice none 0 0] 28)) := below_two w _ _
  obtain ⟨e1, e2, f1, f2⟩ := room1 (Below.refl (w.heap.size + 2) ((w.alloc (.cells #[.bool p, .slice A n c] 28)).alloc (.cells #[.bool false, .slice none 0 0] 28)))
  by_cases h1 : Perm k
  · have y1 := Lib.hid (show (decide (0 ≤ k) && decide (k ≤ 65536)) = true by rw [perm_flag]; simp [h1])
    have y2 := Lib.hid (show (decide (0 ≤ a) && decide (a ≤ 65536)) = false by rw [perm_flag]; simp; exact fun ha => h ⟨h1, ha⟩)
    clear h h1
    go_enter Try.func56, Try.ntmps56
    go_wp2_with fail
    refine (inField_any _ _).mono ?_
    rintro e w1 ⟨rfl, rfl⟩
    rw [y1.out]
    go_wp2_with fail
    refine (inField_any _ _).mono ?_
    rintro e w1 ⟨rfl, rfl⟩
    rw [y2.out]
    go_wp2
    refine bodyPost_ret (v := .tuple #[.agg #[.bool false, .slice none 0 0], .int .i64 1]) (by simp [results, Try.results56, go_sem, e1, e2]) rfl ⟨rfl, ?_⟩
    exact hW
  · have y1 := Lib.hid (show (decide (0 ≤ k) && decide (k ≤ 65536)) = false by rw [perm_flag]; simp [h1])
    clear h h1
    go_enter Try.func56, Try.ntmps56
    go_wp2_with fail
    refine (inField_any _ _).mono ?_
    rintro e w1 ⟨rfl, rfl⟩
    rw [y1.out]
    go_wp2
    refine bodyPost_ret (v := .tuple #[.agg #[.bool false, .slice none 0 0], .int .i64 1]) (by simp [results, Try.results56, go_sem, e1, e2]) rfl ⟨rfl, ?_⟩
    exact hW

set_option maxRecDepth 100000 in
set_option maxHeartbeats 1000000 in
theorem rField_bad (p : Bool) (A : Option Addr) (n c : Nat) (k a : Int) (w : World) (h : ¬ (Perm k ∧ Perm a)) :
    Calls Try.prog 57 #[.agg #[.bool p, .slice A n c], .int .i64 k, .int .i64 a] w fun e w' => e = .returned (.tuple #[.agg #[.bool false, .slice none 0 0], .int .i64 1]) ∧ Below w.heap.size w w' := by
  have hW : Below w.heap.size w ((w.alloc (.cells #[.bool p, .slice A n c] 31)).alloc (.cells #[.bool false, .slice none 0 0] 31)) := below_two w _ _
  obtain ⟨-, ⟨e1, e2, f1, f2⟩⟩ := sh_hold (Below.refl (w.heap.size + 2) ((w.alloc (.cells #[.bool p, .slice A n c] 31)).alloc (.cells #[.bool false, .slice none 0 0] 31)))
  by_cases h1 : Perm k
  · have y1 := Lib.hid (show (decide (0 ≤ k) && decide (k ≤ 65536)) = true by rw [perm_flag]; simp [h1])
    have y2 := Lib.hid (show (decide (0 ≤ a) && decide (a ≤ 65536)) = false by rw [perm_flag]; simp; exact fun ha => h ⟨h1, ha⟩)
    clear h h1
    go_enter Try.func57, Try.ntmps57
    go_wp2_with fail
    refine (within_any _ _).mono ?_
    rintro e w1 ⟨rfl, rfl⟩
    rw [y1.out]
    go_wp2_with fail
    refine (within_any _ _).mono ?_
    rintro e w1 ⟨rfl, rfl⟩
    rw [y2.out]
    go_wp2
    refine bodyPost_ret (v := .tuple #[.agg #[.bool false, .slice none 0 0], .int .i64 1]) (by simp [results, Try.results57, go_sem, e1, e2]) rfl ⟨rfl, ?_⟩
    exact hW
  · have y1 := Lib.hid (show (decide (0 ≤ k) && decide (k ≤ 65536)) = false by rw [perm_flag]; simp [h1])
    clear h h1
    go_enter Try.func57, Try.ntmps57
    go_wp2_with fail
    refine (within_any _ _).mono ?_
    rintro e w1 ⟨rfl, rfl⟩
    rw [y1.out]
    go_wp2
    refine bodyPost_ret (v := .tuple #[.agg #[.bool false, .slice none 0 0], .int .i64 1]) (by simp [results, Try.results57, go_sem, e1, e2]) rfl ⟨rfl, ?_⟩
    exact hW

set_option maxRecDepth 100000 in
set_option maxHeartbeats 1000000 in
theorem Deposit_bad (p q : Bool) (A B : Option Addr) (n c m d : Nat) (k a : Int) (w : World) (h : ¬ (Perm k ∧ Perm a)) :
    Calls Try.prog 58 #[.agg #[.bool p, .slice A n c], .agg #[.bool q, .slice B m d], .int .i64 k, .int .i64 a] w fun e w' => e = .returned (.tuple #[.agg #[.bool false, .slice none 0 0], .int .i64 1]) ∧ Below w.heap.size w w' := by
  have hW : Below w.heap.size w (((w.alloc (.cells #[.bool p, .slice A n c] 28)).alloc (.cells #[.bool q, .slice B m d] 28)).alloc (.cells #[.bool false, .slice none 0 0] 28)) := (below_two w _ _).alloc (by simp; omega) _
  obtain ⟨e1, e2, f1, f2⟩ := room2 (Below.refl (w.heap.size + 3) (((w.alloc (.cells #[.bool p, .slice A n c] 28)).alloc (.cells #[.bool q, .slice B m d] 28)).alloc (.cells #[.bool false, .slice none 0 0] 28)))
  by_cases h1 : Perm k
  · have y1 := Lib.hid (show (decide (0 ≤ k) && decide (k ≤ 65536)) = true by rw [perm_flag]; simp [h1])
    have y2 := Lib.hid (show (decide (0 ≤ a) && decide (a ≤ 65536)) = false by rw [perm_flag]; simp; exact fun ha => h ⟨h1, ha⟩)
    clear h h1
    go_enter Try.func58, Try.ntmps58
    go_wp2_with fail
    refine (inField_any _ _).mono ?_
    rintro e w1 ⟨rfl, rfl⟩
    rw [y1.out]
    go_wp2_with fail
    refine (inField_any _ _).mono ?_
    rintro e w1 ⟨rfl, rfl⟩
    rw [y2.out]
    go_wp2
    refine bodyPost_ret (v := .tuple #[.agg #[.bool false, .slice none 0 0], .int .i64 1]) (by simp [results, Try.results58, go_sem, e1, e2]) rfl ⟨rfl, ?_⟩
    exact hW
  · have y1 := Lib.hid (show (decide (0 ≤ k) && decide (k ≤ 65536)) = false by rw [perm_flag]; simp [h1])
    clear h h1
    go_enter Try.func58, Try.ntmps58
    go_wp2_with fail
    refine (inField_any _ _).mono ?_
    rintro e w1 ⟨rfl, rfl⟩
    rw [y1.out]
    go_wp2
    refine bodyPost_ret (v := .tuple #[.agg #[.bool false, .slice none 0 0], .int .i64 1]) (by simp [results, Try.results58, go_sem, e1, e2]) rfl ⟨rfl, ?_⟩
    exact hW

set_option maxRecDepth 100000 in
set_option maxHeartbeats 1000000 in
theorem rDeposit_bad (p q : Bool) (A B : Option Addr) (n c m d : Nat) (k a : Int) (w : World) (h : ¬ (Perm k ∧ Perm a)) :
    Calls Try.prog 59 #[.agg #[.bool p, .slice A n c], .agg #[.bool q, .slice B m d], .int .i64 k, .int .i64 a] w fun e w' => e = .returned (.tuple #[.agg #[.bool false, .slice none 0 0], .int .i64 1]) ∧ Below w.heap.size w w' := by
  have hW : Below w.heap.size w (((w.alloc (.cells #[.bool p, .slice A n c] 31)).alloc (.cells #[.bool q, .slice B m d] 31)).alloc (.cells #[.bool false, .slice none 0 0] 31)) := (below_two w _ _).alloc (by simp; omega) _
  obtain ⟨e1, e2, f1, f2⟩ := add_room (Below.refl (w.heap.size + 3) (((w.alloc (.cells #[.bool p, .slice A n c] 31)).alloc (.cells #[.bool q, .slice B m d] 31)).alloc (.cells #[.bool false, .slice none 0 0] 31)))
  by_cases h1 : Perm k
  · have y1 := Lib.hid (show (decide (0 ≤ k) && decide (k ≤ 65536)) = true by rw [perm_flag]; simp [h1])
    have y2 := Lib.hid (show (decide (0 ≤ a) && decide (a ≤ 65536)) = false by rw [perm_flag]; simp; exact fun ha => h ⟨h1, ha⟩)
    clear h h1
    go_enter Try.func59, Try.ntmps59
    go_wp2_with fail
    refine (within_any _ _).mono ?_
    rintro e w1 ⟨rfl, rfl⟩
    rw [y1.out]
    go_wp2_with fail
    refine (within_any _ _).mono ?_
    rintro e w1 ⟨rfl, rfl⟩
    rw [y2.out]
    go_wp2
    refine bodyPost_ret (v := .tuple #[.agg #[.bool false, .slice none 0 0], .int .i64 1]) (by simp [results, Try.results59, go_sem, e1, e2]) rfl ⟨rfl, ?_⟩
    exact hW
  · have y1 := Lib.hid (show (decide (0 ≤ k) && decide (k ≤ 65536)) = false by rw [perm_flag]; simp [h1])
    clear h h1
    go_enter Try.func59, Try.ntmps59
    go_wp2_with fail
    refine (within_any _ _).mono ?_
    rintro e w1 ⟨rfl, rfl⟩
    rw [y1.out]
    go_wp2
    refine bodyPost_ret (v := .tuple #[.agg #[.bool false, .slice none 0 0], .int .i64 1]) (by simp [results, Try.results59, go_sem, e1, e2]) rfl ⟨rfl, ?_⟩
    exact hW

theorem FieldE_int (u : Value) (x k a : Int) (L : Nat) (w : World) (h : Ival w u x L) (hL : L ≤ 50000) :
    Calls Try.prog 56 #[u, .int .i64 k, .int .i64 a] w fun e w' => (∃ ng A2 n2 c2, e = .returned (.tuple #[.agg #[.bool ng, .slice A2 n2 c2], .int .i64 (permE k a)]) ∧ Ival w' (.agg #[.bool ng, .slice A2 n2 c2]) (fieldV x k a) 5000) ∧ Below w.heap.size w w' := by
  by_cases hp : Perm k ∧ Perm a
  · have hE : permE k a = 0 := if_pos hp
    have hV : fieldV x k a = fieldOf x k.toNat a.toNat := if_pos hp
    obtain ⟨⟨k0, k1⟩, a0, a1⟩ := hp
    obtain ⟨K, rfl⟩ : ∃ K : Nat, k = (K : Int) := ⟨k.toNat, by omega⟩
    obtain ⟨P, rfl⟩ : ∃ P : Nat, a = (P : Int) := ⟨a.toNat, by omega⟩
    rw [hE, hV]
    refine (Field_val u x L K P w h hL (by omega) (by omega)).mono ?_
    rintro e w' ⟨⟨ng, A2, n2, c2, rfl, hv⟩, hb⟩
    exact ⟨⟨ng, A2, n2, c2, rfl, hv.mono (by omega)⟩, hb⟩
  · have hE : permE k a = 1 := if_neg hp
    have hV : fieldV x k a = 0 := if_neg hp
    rw [hE, hV]
    obtain ⟨p, A, n, c, rfl⟩ := h.form
    refine (Field_bad p A n c k a w hp).mono ?_
    rintro e w' ⟨rfl, hb⟩
    exact ⟨⟨false, none, 0, 0, rfl, Ival.nought⟩, hb⟩

theorem rFieldE_int (u : Value) (x k a : Int) (L : Nat) (w : World) (h : Rval w u x L) (hL : L ≤ 50000) :
    Calls Try.prog 57 #[u, .int .i64 k, .int .i64 a] w fun e w' => (∃ ng A2 n2 c2, e = .returned (.tuple #[.agg #[.bool ng, .slice A2 n2 c2], .int .i64 (permE k a)]) ∧ Rval w' (.agg #[.bool ng, .slice A2 n2 c2]) (fieldV x k a) 5000) ∧ Below w.heap.size w w' := by
  by_cases hp : Perm k ∧ Perm a
  · have hE : permE k a = 0 := if_pos hp
    have hV : fieldV x k a = fieldOf x k.toNat a.toNat := if_pos hp
    obtain ⟨⟨k0, k1⟩, a0, a1⟩ := hp
    obtain ⟨K, rfl⟩ : ∃ K : Nat, k = (K : Int) := ⟨k.toNat, by omega⟩
    obtain ⟨P, rfl⟩ : ∃ P : Nat, a = (P : Int) := ⟨a.toNat, by omega⟩
    rw [hE, hV]
    refine (rField_val u x L K P w h hL (by omega) (by omega)).mono ?_
    rintro e w' ⟨⟨ng, A2, n2, c2, rfl, hv⟩, hb⟩
    exact ⟨⟨ng, A2, n2, c2, rfl, hv.mono (by omega)⟩, hb⟩
  · have hE : permE k a = 1 := if_neg hp
    have hV : fieldV x k a = 0 := if_neg hp
    rw [hE, hV]
    obtain ⟨p, A, n, c, rfl⟩ := h.form
    refine (rField_bad p A n c k a w hp).mono ?_
    rintro e w' ⟨rfl, hb⟩
    exact ⟨⟨false, none, 0, 0, rfl, Rval.nought⟩, hb⟩

theorem DepositE_int (u v : Value) (x y k a : Int) (L M : Nat) (w : World) (h : Ival w u x L) (g : Ival w v y M) (hL : L ≤ 10000) (hM : M ≤ 10000) :
    Calls Try.prog 58 #[u, v, .int .i64 k, .int .i64 a] w fun e w' => (∃ ng A2 n2 c2, e = .returned (.tuple #[.agg #[.bool ng, .slice A2 n2 c2], .int .i64 (permE k a)]) ∧ Ival w' (.agg #[.bool ng, .slice A2 n2 c2]) (depV x y k a) 20000) ∧ Below w.heap.size w w' := by
  by_cases hp : Perm k ∧ Perm a
  · have hE : permE k a = 0 := if_pos hp
    have hV : depV x y k a = depOf x y k.toNat a.toNat := if_pos hp
    obtain ⟨⟨k0, k1⟩, a0, a1⟩ := hp
    obtain ⟨K, rfl⟩ : ∃ K : Nat, k = (K : Int) := ⟨k.toNat, by omega⟩
    obtain ⟨P, rfl⟩ : ∃ P : Nat, a = (P : Int) := ⟨a.toNat, by omega⟩
    rw [hE, hV]
    refine (Deposit_val u v x y L M K P w h g hL hM (by omega) (by omega)).mono ?_
    rintro e w' ⟨⟨ng, A2, n2, c2, rfl, hv⟩, hb⟩
    exact ⟨⟨ng, A2, n2, c2, rfl, hv.mono (by omega)⟩, hb⟩
  · have hE : permE k a = 1 := if_neg hp
    have hV : depV x y k a = 0 := if_neg hp
    rw [hE, hV]
    obtain ⟨p, A, n, c, rfl⟩ := h.form
    obtain ⟨q, B, m, d, rfl⟩ := g.form
    refine (Deposit_bad p q A B n c m d k a w hp).mono ?_
    rintro e w' ⟨rfl, hb⟩
    exact ⟨⟨false, none, 0, 0, rfl, Ival.nought⟩, hb⟩

theorem rDepositE_int (u v : Value) (x y k a : Int) (L M : Nat) (w : World) (h : Rval w u x L) (g : Rval w v y M) (hL : L ≤ 10000) (hM : M ≤ 10000) :
    Calls Try.prog 59 #[u, v, .int .i64 k, .int .i64 a] w fun e w' => (∃ ng A2 n2 c2, e = .returned (.tuple #[.agg #[.bool ng, .slice A2 n2 c2], .int .i64 (permE k a)]) ∧ Rval w' (.agg #[.bool ng, .slice A2 n2 c2]) (depV x y k a) 30000) ∧ Below w.heap.size w w' := by
  by_cases hp : Perm k ∧ Perm a
  · have hE : permE k a = 0 := if_pos hp
    have hV : depV x y k a = depOf x y k.toNat a.toNat := if_pos hp
    obtain ⟨⟨k0, k1⟩, a0, a1⟩ := hp
    obtain ⟨K, rfl⟩ : ∃ K : Nat, k = (K : Int) := ⟨k.toNat, by omega⟩
    obtain ⟨P, rfl⟩ : ∃ P : Nat, a = (P : Int) := ⟨a.toNat, by omega⟩
    rw [hE, hV]
    refine (rDeposit_val u v x y L M K P w h g hL hM (by omega) (by omega)).mono ?_
    rintro e w' ⟨⟨ng, A2, n2, c2, rfl, hv⟩, hb⟩
    exact ⟨⟨ng, A2, n2, c2, rfl, hv.mono (by omega)⟩, hb⟩
  · have hE : permE k a = 1 := if_neg hp
    have hV : depV x y k a = 0 := if_neg hp
    rw [hE, hV]
    obtain ⟨p, A, n, c, rfl⟩ := h.form
    obtain ⟨q, B, m, d, rfl⟩ := g.form
    refine (rDeposit_bad p q A B n c m d k a w hp).mono ?_
    rintro e w' ⟨rfl, hb⟩
    exact ⟨⟨false, none, 0, 0, rfl, Rval.nought⟩, hb⟩

end Go.Proofs.Ytoanomgdkkbbmaa
