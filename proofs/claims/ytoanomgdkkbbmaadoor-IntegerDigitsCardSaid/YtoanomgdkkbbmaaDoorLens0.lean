import Derived.Shelf.Small.Bits
import Derived.Shelf.Strconv.Itoa0
import Derived.Test.YtoanomgdkkbbmaaDoorProg
import Derived.Test.YtoanomgdkkbbmaaDoorRCore
import Derived.Test.YtoanomgdkkbbmaaDoorCore
import Derived.Test.YtoanomgdkkbbmaaDoorWords0
import Derived.Lib.ItoaNum

/- Contracts of math/bits at this program: Len32, Len, LeadingZeros32, Len64. -/
namespace Go.Proofs
open Go.Shelf
def Tryd.lays128_ren : Go.Shelf.Ren := ⟨fun | 128 => 87 | n => n, fun | 51 => 85 | 3 => 3 | 4 => 4 | 46 => 61 | 5 => 5 | 9 => 9 | n => n, fun | n => n⟩
theorem Tryd.lays128 : Go.Proofs.Lays.n128 Tryd.prog Tryd.lays128_ren := {
  mixed := by kernel_rfl
  f128 := Tryd.func87.trans (congrArg some (by kernel_rfl))
  t3 := Tryd.underlying3
  a3 := Tryd.isAgg3
  z3 := Tryd.sizeOf3
  v3 := Tryd.zeroValue3
  t4 := Tryd.underlying4
  a4 := Tryd.isAgg4
  z4 := Tryd.sizeOf4
  v4 := Tryd.zeroValue4
  t5 := Tryd.underlying5
  a5 := Tryd.isAgg5
  z5 := Tryd.sizeOf5
  v5 := Tryd.zeroValue5
  t9 := Tryd.underlying9
  a9 := Tryd.isAgg9
  z9 := Tryd.sizeOf9
  v9 := Tryd.zeroValue9
  t46 := Tryd.underlying61
  a46 := Tryd.isAgg61
  z46 := Tryd.sizeOf61
  v46 := Tryd.zeroValue61
  t51 := Tryd.underlying85
  a51 := Tryd.isAgg85
  z51 := Tryd.sizeOf85
  v51 := Tryd.zeroValue85 }
/-- bits.Len32: "Len32 returns the minimum number of bits required to represent x; the result is 0 for x == 0.": IT RETURNS 'Lib.bitLen x'; the world is as it was. ('h0', 'h1': x is a uint32.) (LAID: no walk: one application.) -/
theorem Tryd.bits_Len32 (x : Int) (w : World) (h0 : 0 ≤ x) (h1 : x ≤ 4294967295) :
    Calls Tryd.prog 87 #[.int .u32 x] w fun e w' => e = .returned (.int .i64 (Lib.bitLen x.toNat)) ∧ w' = w := Any.bits_Len32 Tryd.lays128 x w h0 h1
def Tryd.lays133_ren : Go.Shelf.Ren := ⟨fun | 133 => 76 | 128 => 87 | n => n, fun | 51 => 85 | 3 => 3 | 4 => 4 | 46 => 61 | 5 => 5 | 9 => 9 | n => n, fun | n => n⟩
theorem Tryd.lays133 : Go.Proofs.Lays.n133 Tryd.prog Tryd.lays133_ren := {
  mixed := by kernel_rfl
  f128 := Tryd.func87.trans (congrArg some (by kernel_rfl))
  f133 := Tryd.func76.trans (congrArg some (by kernel_rfl))
  t3 := Tryd.underlying3
  a3 := Tryd.isAgg3
  z3 := Tryd.sizeOf3
  v3 := Tryd.zeroValue3
  t4 := Tryd.underlying4
  a4 := Tryd.isAgg4
  z4 := Tryd.sizeOf4
  v4 := Tryd.zeroValue4
  t5 := Tryd.underlying5
  a5 := Tryd.isAgg5
  z5 := Tryd.sizeOf5
  v5 := Tryd.zeroValue5
  t9 := Tryd.underlying9
  a9 := Tryd.isAgg9
  z9 := Tryd.sizeOf9
  v9 := Tryd.zeroValue9
  t46 := Tryd.underlying61
  a46 := Tryd.isAgg61
  z46 := Tryd.sizeOf61
  v46 := Tryd.zeroValue61
  t51 := Tryd.underlying85
  a51 := Tryd.isAgg85
  z51 := Tryd.sizeOf85
  v51 := Tryd.zeroValue85 }
/-- bits.LeadingZeros32: "LeadingZeros32 returns the number of leading zero bits in x; the result is 32 for x == 0.": IT RETURNS '32 - Lib.bitLen x'; the world is as it was. ITS CALLEE bits.Len32 IS MET BY ITS OWN CONTRACT OFF THE SHELF (lay that first): entered in place it sends the kernel out of memory. (LAID: no walk: one application.) -/
theorem Tryd.bits_LeadingZeros32 (x : Int) (w : World) (h0 : 0 ≤ x) (h1 : x ≤ 4294967295) :
    Calls Tryd.prog 76 #[.int .u32 x] w fun e w' => e = .returned (.int .i64 (32 - (Lib.bitLen x.toNat : Int))) ∧ w' = w := Any.bits_LeadingZeros32 Tryd.lays133 x w h0 h1
end Go.Proofs

/- Of: the program's and the reference's integer of one argument. -/
namespace Go.Proofs.YtoanomgdkkbbmaaDoor
open Go.RowKit LM

/-- The argument in a box, rooms for two results behind it. -/
theorem of_boxes {w w' : World} {u : Value} {p : Bool} (h : Below (w.heap.size + 1) (((w.alloc (.cells #[.bool p, u] 24)).alloc (.cells #[.bool false, .slice none 0 0] 28)).alloc (.cells #[.bool false, .slice none 0 0] 53)) w') :
    w'.cell? ⟨w.heap.size, 0, none⟩ = some (.bool p) ∧ w'.cell? ⟨w.heap.size, 1, none⟩ = some u ∧ Below (w.heap.size + 1) (((w.alloc (.cells #[.bool p, u] 24)).alloc (.cells #[.bool false, .slice none 0 0] 28)).alloc (.cells #[.bool false, .slice none 0 0] 53)) w' := by
  refine ⟨?_, ?_, h⟩
  · rw [h.cell (by simp), World.cell?_alloc_past _ _ _ (by simp; omega), World.cell?_alloc_past _ _ _ (by simp), World.cell?_alloc_at _ _ _ _ rfl]; rfl
  · rw [h.cell (by simp), World.cell?_alloc_past _ _ _ (by simp; omega), World.cell?_alloc_past _ _ _ (by simp), World.cell?_alloc_at _ _ _ _ rfl]; rfl

theorem of_rooms {w w' : World} {x : Obj} (h : Below (w.heap.size + 3) (((w.alloc x).alloc (.cells #[.bool false, .slice none 0 0] 28)).alloc (.cells #[.bool false, .slice none 0 0] 53)) w') :
    (w'.cell? ⟨w.heap.size + 1, 0, none⟩ = some (.bool false) ∧ w'.cell? ⟨w.heap.size + 1, 1, none⟩ = some (.slice none 0 0) ∧ w'.frozen? ⟨w.heap.size + 1, 0, none⟩ = false ∧ w'.frozen? ⟨w.heap.size + 1, 1, none⟩ = false) ∧
    w'.cell? ⟨w.heap.size + 1 + 1, 0, none⟩ = some (.bool false) ∧ w'.cell? ⟨w.heap.size + 1 + 1, 1, none⟩ = some (.slice none 0 0) ∧ w'.frozen? ⟨w.heap.size + 1 + 1, 0, none⟩ = false ∧ w'.frozen? ⟨w.heap.size + 1 + 1, 1, none⟩ = false := by
  refine ⟨⟨?_, ?_, ?_, ?_⟩, ?_, ?_, ?_, ?_⟩
  · rw [h.cell (by simp), World.cell?_alloc_past _ _ _ (by simp), World.cell?_alloc_at _ _ _ _ (by simp)]; rfl
  · rw [h.cell (by simp), World.cell?_alloc_past _ _ _ (by simp), World.cell?_alloc_at _ _ _ _ (by simp)]; rfl
  · rw [h.frozen (by simp), World.frozen?_alloc_past _ _ _ (by simp)]; exact World.frozen?_alloc_at _ _ _ _ (by simp)
  · rw [h.frozen (by simp), World.frozen?_alloc_past _ _ _ (by simp)]; exact World.frozen?_alloc_at _ _ _ _ (by simp)
  · rw [h.cell (by simp), World.cell?_alloc_at _ _ _ _ (by simp)]; rfl
  · rw [h.cell (by simp), World.cell?_alloc_at _ _ _ _ (by simp)]; rfl
  · rw [h.frozen (by simp)]; exact World.frozen?_alloc_at _ _ _ _ (by simp)
  · rw [h.frozen (by simp)]; exact World.frozen?_alloc_at _ _ _ _ (by simp)

theorem Rval.stored2 {w : World} {s : Value} {z : Int} {L : Nat} (h : Rval w s z L) {r t : Nat} (hrt : r ≠ t) (e1 : w.cell? ⟨r, 0, none⟩ = some (.bool false)) (e2 : w.cell? ⟨r, 1, none⟩ = some (.slice none 0 0))
    (g1 : w.cell? ⟨t, 0, none⟩ = some (.bool false)) (g2 : w.cell? ⟨t, 1, none⟩ = some (.slice none 0 0)) (x y x' y' : Value) :
    Rval ((((w.setCell ⟨r, 0, none⟩ x).setCell ⟨r, 1, none⟩ y).setCell ⟨t, 0, none⟩ x').setCell ⟨t, 1, none⟩ y') s z L := by
  refine (h.stored e1 e2 x y).stored ?_ ?_ x' y'
  · rw [World.cell?_setCell_other _ _ _ _ (by simp <;> omega), World.cell?_setCell_other _ _ _ _ (by simp <;> omega), g1]
  · rw [World.cell?_setCell_other _ _ _ _ (by simp <;> omega), World.cell?_setCell_other _ _ _ _ (by simp <;> omega), g2]

end Go.Proofs.YtoanomgdkkbbmaaDoor

/- Numbers of binary digits: length, pattern, Length. -/
namespace Go.Proofs.YtoanomgdkkbbmaaDoor
open Go.RowKit LM

/-- z has k binary digits. -/
def IsLen (z : Int) (k : Nat) : Prop := (z = 0 ∧ k = 0) ∨ (1 ≤ k ∧ (2 : Int) ^ (k - 1) ≤ z ∧ z < 2 ^ k)

theorem two_pos (n : Nat) : (0 : Int) < 2 ^ n := Int.pow_pos (by decide)

theorem two_mono {m n : Nat} (h : m ≤ n) : (2 : Int) ^ m ≤ 2 ^ n := by
  obtain ⟨k, rfl⟩ := Nat.exists_eq_add_of_le h
  rw [Int.pow_add]
  have h1 := two_pos k
  have := Int.mul_le_mul_of_nonneg_left (show (1 : Int) ≤ 2 ^ k by omega) (Int.le_of_lt (two_pos m))
  omega

theorem two_lt {m n : Nat} (h : (2 : Int) ^ m < 2 ^ n) : m < n := by
  rcases Nat.lt_or_ge m n with h' | h'
  · exact h'
  · have := two_mono h'; omega

theorem IsLen.det {z : Int} {k m : Nat} (h : IsLen z k) (g : IsLen z m) : k = m := by
  rcases h with ⟨rfl, rfl⟩ | ⟨h1, h2, h3⟩ <;> rcases g with ⟨g0, rfl⟩ | ⟨g1, g2, g3⟩
  · rfl
  · have := two_pos (m - 1); omega
  · subst g0; have := two_pos (k - 1); omega
  · have a := two_lt (show (2 : Int) ^ (k - 1) < 2 ^ m by omega)
    have b := two_lt (show (2 : Int) ^ (m - 1) < 2 ^ k by omega)
    omega

theorem bitLen_is (x : Int) (h0 : 0 < x) (h1 : x < 4294967296) : IsLen x (Lib.bitLen x.toNat) ∧ Lib.bitLen x.toNat ≤ 32 := by
  obtain ⟨a, b, c⟩ := Lib.bitLenAux_bounds 64 x.toNat (by omega) (by omega)
  have e : Lib.bitLen x.toNat = Lib.bitLenAux 64 x.toNat := rfl
  rw [e]
  generalize Lib.bitLenAux 64 x.toNat = k at *
  have b' : (2 : Int) ^ (k - 1) ≤ x := by
    have : ((2 ^ (k - 1) : Nat) : Int) ≤ (x.toNat : Int) := by exact_mod_cast b
    rw [Int.natCast_pow] at this
    have e2 : (x.toNat : Int) = x := Int.toNat_of_nonneg (by omega)
    rw [e2] at this; exact this
  have c' : x < (2 : Int) ^ k := by
    have : (x.toNat : Int) < ((2 ^ k : Nat) : Int) := by exact_mod_cast c
    rw [Int.natCast_pow] at this
    have e2 : (x.toNat : Int) = x := Int.toNat_of_nonneg (by omega)
    rw [e2] at this; exact this
  refine ⟨.inr ⟨a, b', c'⟩, ?_⟩
  have h32 : x < (2 : Int) ^ 32 := by have : (2 : Int) ^ 32 = 4294967296 := by decide
                                      omega
  have := two_lt (show (2 : Int) ^ (k - 1) < 2 ^ 32 by omega)
  omega

theorem top_len {xs : List Int} {n : Nat} {t : Int} {b : Nat} (hd : Dig xs) (hl : xs.length = n) (hn : n ≠ 0) (ht : xs.getD (n - 1) 0 = t) (hb : IsLen t b) (ht0 : t ≠ 0) : IsLen (val xs) (32 * (n - 1) + b) := by
  rcases hb with ⟨h, _⟩ | ⟨b1, b2, b3⟩
  · exact absurd h ht0
  have e := val_take_succ xs (n - 1)
  rw [show n - 1 + 1 = n from by omega, List.take_of_length_le (by omega), ht, BB_two] at e
  have h1 := val_bounds (hd.take (n - 1))
  rw [List.length_take, hl, Nat.min_eq_left (by omega), BB_two] at h1
  generalize val (xs.take (n - 1)) = r at *
  have hp := two_pos (32 * (n - 1))
  refine .inr ⟨by omega, ?_, ?_⟩
  · rw [show 32 * (n - 1) + b - 1 = 32 * (n - 1) + (b - 1) from by omega, Int.pow_add, e]
    have := Int.mul_le_mul_of_nonneg_left b2 (Int.le_of_lt hp)
    omega
  · rw [Int.pow_add, e]
    have := Int.mul_le_mul_of_nonneg_left (show t + 1 ≤ 2 ^ b by omega) (Int.le_of_lt hp)
    rw [Int.mul_add, Int.mul_one] at this
    omega

/-- What is left of a number without its sign: of x, or of -1 - x. -/
def patOf (x : Int) : Int := if x < 0 then -1 - x else x

theorem row_one (w : World) (e : TypeId) : Row .u32 (w.alloc (.cells #[.int .u32 1] e)) (some ⟨w.heap.size, 0, none⟩) 1 1 [1] := by
  refine ⟨rfl, Nat.le_refl _, fun _ => ⟨w.heap.size, 0, rfl, by simp, fun i hi => ?_⟩⟩
  obtain rfl : i = 0 := by omega
  rw [World.cell?_alloc_at _ _ _ _ rfl]; rfl

end Go.Proofs.YtoanomgdkkbbmaaDoor

