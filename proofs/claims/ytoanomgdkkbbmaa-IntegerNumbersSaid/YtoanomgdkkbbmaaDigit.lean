/- digit and the reference's Digit: the value of a byte as a digit. -/
import Derived.Test.YtoanomgdkkbbmaaText2
namespace Go.Proofs.Ytoanomgdkkbbmaa
open Go.RowKit LM

/-- The value of a byte as a digit, 'bad' for other bytes. -/
def digVal (bad c : Int) : Int :=
  if 48 ≤ c ∧ c ≤ 57 then c - 48 else if 65 ≤ c ∧ c ≤ 90 then c - 55 else if 97 ≤ c ∧ c ≤ 122 then c - 87 else bad

theorem digit_is (c : Int) (w : World) (h0 : 0 ≤ c) (h1 : c < 256) :
    Calls Try.prog 131 #[.int .u8 c] w fun e w' => e = .returned (.int .i64 (digVal 99 c)) ∧ w = w' := by
  rcases (by omega : c < 48 ∨ (48 ≤ c ∧ c ≤ 57) ∨ (57 < c ∧ c < 65) ∨ (65 ≤ c ∧ c ≤ 90) ∨ (90 < c ∧ c < 97) ∨ (97 ≤ c ∧ c ≤ 122) ∨ 122 < c) with h | h | h | h | h | h | h
  · have e : digVal 99 c = 99 := by unfold digVal; rw [if_neg (by omega), if_neg (by omega), if_neg (by omega)]
    have a1 : ¬ (48 : Int) ≤ c := by omega
    have a2 : ¬ (65 : Int) ≤ c := by omega
    have a3 : ¬ (97 : Int) ≤ c := by omega
    rw [e]
    go_enter Try.func131, Try.ntmps131
    go_wp2_with fail
    go_ret
    first | exact ⟨rfl, rfl⟩ | rfl
  · have e : digVal 99 c = c - 48 := by unfold digVal; rw [if_pos (by omega)]
    have a1 : (48 : Int) ≤ c := by omega
    have a2 : c ≤ (57 : Int) := by omega
    have a3 : IntKind.u8.wrap (c - 48) = c - 48 := by rw [IntKind.wrap_u8]; omega
    have a4 : IntKind.i64.wrap (c - 48) = c - 48 := by rw [IntKind.wrap_i64]; omega
    rw [e]
    go_enter Try.func131, Try.ntmps131
    go_wp2_with fail
    go_ret
    first | exact ⟨rfl, rfl⟩ | rfl
  · have e : digVal 99 c = 99 := by unfold digVal; rw [if_neg (by omega), if_neg (by omega), if_neg (by omega)]
    have a0 : (48 : Int) ≤ c := by omega
    have a1 : ¬ c ≤ (57 : Int) := by omega
    have a2 : ¬ (65 : Int) ≤ c := by omega
    have a3 : ¬ (97 : Int) ≤ c := by omega
    rw [e]
    go_enter Try.func131, Try.ntmps131
    go_wp2_with fail
    go_ret
    first | exact ⟨rfl, rfl⟩ | rfl
  · have e : digVal 99 c = c - 55 := by unfold digVal; rw [if_neg (by omega), if_pos (by omega)]
    have a0 : (48 : Int) ≤ c := by omega
    have a1 : ¬ c ≤ (57 : Int) := by omega
    have a2 : (65 : Int) ≤ c := by omega
    have a3 : c ≤ (90 : Int) := by omega
    have a4 : IntKind.u8.wrap (c - 65) = c - 65 := by rw [IntKind.wrap_u8]; omega
    have a5 : IntKind.i64.wrap (c - 65) = c - 65 := by rw [IntKind.wrap_i64]; omega
    have a6 : IntKind.i64.wrap (c - 65 + 10) = c - 55 := by rw [IntKind.wrap_i64]; omega
    rw [e]
    go_enter Try.func131, Try.ntmps131
    go_wp2_with fail
    go_ret
    first | exact ⟨rfl, rfl⟩ | rfl
  · have e : digVal 99 c = 99 := by unfold digVal; rw [if_neg (by omega), if_neg (by omega), if_neg (by omega)]
    have a0 : (48 : Int) ≤ c := by omega
    have a1 : ¬ c ≤ (57 : Int) := by omega
    have a2 : (65 : Int) ≤ c := by omega
    have a4 : ¬ c ≤ (90 : Int) := by omega
    have a3 : ¬ (97 : Int) ≤ c := by omega
    rw [e]
    go_enter Try.func131, Try.ntmps131
    go_wp2_with fail
    go_ret
    first | exact ⟨rfl, rfl⟩ | rfl
  · have e : digVal 99 c = c - 87 := by unfold digVal; rw [if_neg (by omega), if_neg (by omega), if_pos (by omega)]
    have a0 : (48 : Int) ≤ c := by omega
    have a1 : ¬ c ≤ (57 : Int) := by omega
    have a2 : (65 : Int) ≤ c := by omega
    have a3 : ¬ c ≤ (90 : Int) := by omega
    have a7 : (97 : Int) ≤ c := by omega
    have a8 : c ≤ (122 : Int) := by omega
    have a4 : IntKind.u8.wrap (c - 97) = c - 97 := by rw [IntKind.wrap_u8]; omega
    have a5 : IntKind.i64.wrap (c - 97) = c - 97 := by rw [IntKind.wrap_i64]; omega
    have a6 : IntKind.i64.wrap (c - 97 + 10) = c - 87 := by rw [IntKind.wrap_i64]; omega
    rw [e]
    go_enter Try.func131, Try.ntmps131
    go_wp2_with fail
    go_ret
    first | exact ⟨rfl, rfl⟩ | rfl
  · have e : digVal 99 c = 99 := by unfold digVal; rw [if_neg (by omega), if_neg (by omega), if_neg (by omega)]
    have a0 : (48 : Int) ≤ c := by omega
    have a1 : ¬ c ≤ (57 : Int) := by omega
    have a2 : (65 : Int) ≤ c := by omega
    have a4 : ¬ c ≤ (90 : Int) := by omega
    have a3 : (97 : Int) ≤ c := by omega
    have a5 : ¬ c ≤ (122 : Int) := by omega
    rw [e]
    go_enter Try.func131, Try.ntmps131
    go_wp2_with fail
    go_ret
    first | exact ⟨rfl, rfl⟩ | rfl

theorem Digit_ref (c : Int) (w : World) (h0 : 0 ≤ c) (h1 : c < 256) :
    Calls Try.prog 112 #[.int .u8 c] w fun e w' => e = .returned (.int .i64 (digVal 36 c)) ∧ w = w' := by
  rcases (by omega : c < 48 ∨ (48 ≤ c ∧ c ≤ 57) ∨ (57 < c ∧ c < 65) ∨ (65 ≤ c ∧ c ≤ 90) ∨ (90 < c ∧ c < 97) ∨ (97 ≤ c ∧ c ≤ 122) ∨ 122 < c) with h | h | h | h | h | h | h
  · have e : digVal 36 c = 36 := by unfold digVal; rw [if_neg (by omega), if_neg (by omega), if_neg (by omega)]
    have a1 : ¬ (48 : Int) ≤ c := by omega
    have a2 : ¬ (65 : Int) ≤ c := by omega
    have a3 : ¬ (97 : Int) ≤ c := by omega
    rw [e]
    go_enter Try.func112, Try.ntmps112
    go_wp2_with fail
    go_ret
    first | exact ⟨rfl, rfl⟩ | rfl
  · have e : digVal 36 c = c - 48 := by unfold digVal; rw [if_pos (by omega)]
    have a1 : (48 : Int) ≤ c := by omega
    have a2 : c ≤ (57 : Int) := by omega
    have a3 : IntKind.u8.wrap (c - 48) = c - 48 := by rw [IntKind.wrap_u8]; omega
    have a4 : IntKind.i64.wrap (c - 48) = c - 48 := by rw [IntKind.wrap_i64]; omega
    rw [e]
    go_enter Try.func112, Try.ntmps112
    go_wp2_with fail
    go_ret
    first | exact ⟨rfl, rfl⟩ | rfl
  · have e : digVal 36 c = 36 := by unfold digVal; rw [if_neg (by omega), if_neg (by omega), if_neg (by omega)]
    have a0 : (48 : Int) ≤ c := by omega
    have a1 : ¬ c ≤ (57 : Int) := by omega
    have a2 : ¬ (65 : Int) ≤ c := by omega
    have a3 : ¬ (97 : Int) ≤ c := by omega
    rw [e]
    go_enter Try.func112, Try.ntmps112
    go_wp2_with fail
    go_ret
    first | exact ⟨rfl, rfl⟩ | rfl
  · have e : digVal 36 c = c - 55 := by unfold digVal; rw [if_neg (by omega), if_pos (by omega)]
    have a0 : (48 : Int) ≤ c := by omega
    have a1 : ¬ c ≤ (57 : Int) := by omega
    have a2 : (65 : Int) ≤ c := by omega
    have a3 : c ≤ (90 : Int) := by omega
    have a4 : IntKind.u8.wrap (c - 65) = c - 65 := by rw [IntKind.wrap_u8]; omega
    have a5 : IntKind.i64.wrap (c - 65) = c - 65 := by rw [IntKind.wrap_i64]; omega
    have a6 : IntKind.i64.wrap (c - 65 + 10) = c - 55 := by rw [IntKind.wrap_i64]; omega
    rw [e]
    go_enter Try.func112, Try.ntmps112
    go_wp2_with fail
    go_ret
    first | exact ⟨rfl, rfl⟩ | rfl
  · have e : digVal 36 c = 36 := by unfold digVal; rw [if_neg (by omega), if_neg (by omega), if_neg (by omega)]
    have a0 : (48 : Int) ≤ c := by omega
    have a1 : ¬ c ≤ (57 : Int) := by omega
    have a2 : (65 : Int) ≤ c := by omega
    have a4 : ¬ c ≤ (90 : Int) := by omega
    have a3 : ¬ (97 : Int) ≤ c := by omega
    rw [e]
    go_enter Try.func112, Try.ntmps112
    go_wp2_with fail
    go_ret
    first | exact ⟨rfl, rfl⟩ | rfl
  · have e : digVal 36 c = c - 87 := by unfold digVal; rw [if_neg (by omega), if_neg (by omega), if_pos (by omega)]
    have a0 : (48 : Int) ≤ c := by omega
    have a1 : ¬ c ≤ (57 : Int) := by omega
    have a2 : (65 : Int) ≤ c := by omega
    have a3 : ¬ c ≤ (90 : Int) := by omega
    have a7 : (97 : Int) ≤ c := by omega
    have a8 : c ≤ (122 : Int) := by omega
    have a4 : IntKind.u8.wrap (c - 97) = c - 97 := by rw [IntKind.wrap_u8]; omega
    have a5 : IntKind.i64.wrap (c - 97) = c - 97 := by rw [IntKind.wrap_i64]; omega
    have a6 : IntKind.i64.wrap (c - 97 + 10) = c - 87 := by rw [IntKind.wrap_i64]; omega
    rw [e]
    go_enter Try.func112, Try.ntmps112
    go_wp2_with fail
    go_ret
    first | exact ⟨rfl, rfl⟩ | rfl
  · have e : digVal 36 c = 36 := by unfold digVal; rw [if_neg (by omega), if_neg (by omega), if_neg (by omega)]
    have a0 : (48 : Int) ≤ c := by omega
    have a1 : ¬ c ≤ (57 : Int) := by omega
    have a2 : (65 : Int) ≤ c := by omega
    have a4 : ¬ c ≤ (90 : Int) := by omega
    have a3 : (97 : Int) ≤ c := by omega
    have a5 : ¬ c ≤ (122 : Int) := by omega
    rw [e]
    go_enter Try.func112, Try.ntmps112
    go_wp2_with fail
    go_ret
    first | exact ⟨rfl, rfl⟩ | rfl

end Go.Proofs.Ytoanomgdkkbbmaa
