/- words64, New, Div32, short. -/
import Derived.Test.YtoanomgdkkbbmaaClone
namespace Go.Proofs.Ytoanomgdkkbbmaa
open Go.RowKit LM

theorem or_join (h l : Int) (h0 : 0 ≤ h) (h1 : h < 4294967296) (l0 : 0 ≤ l) (l1 : l < 4294967296) : bits BinOp.or IntKind.u64 (h * 4294967296) l = h * 4294967296 + l := by
  obtain ⟨H, rfl⟩ := Int.eq_ofNat_of_zero_le h0
  obtain ⟨L, rfl⟩ := Int.eq_ofNat_of_zero_le l0
  have e : ((H : Int) * 4294967296) = ((H * 4294967296 : Nat) : Int) := by omega
  rw [e, u64_or_nat _ _ (by omega) (by omega), nat_join 32 _ _ (by omega) (by omega)]
  omega

theorem words64_any (u : Int) (w : World) (h0 : 0 ≤ u) (h1 : u < 18446744073709551616) :
    Calls Try.prog 71 #[.int .u64 u] w fun e w' => ∃ r, e = .returned r ∧ Num w' r u 2 ∧ Below w.heap.size w w' := by
  have hb := below_alloc w (.cells #[.int .u32 (u % 4294967296), .int .u32 (u / 4294967296)] 99)
  have hown := World.ownsRow_lit (base := w.heap.size) (size := 1) (e := 99) w #[.int .u32 (u % 4294967296), .int .u32 (u / 4294967296)] 2 (Nat.le_refl _) (by unfold maxLen; omega) rfl
  have hrow : Row .u32 (w.alloc (.cells #[.int .u32 (u % 4294967296), .int .u32 (u / 4294967296)] 99)) (some ⟨w.heap.size, 0, none⟩) 2 2 [u % 4294967296, u / 4294967296] := Row.of_own hown
  have hd : Dig [u % 4294967296, u / 4294967296] := by
    rw [Dig.cons_iff, Dig.cons_iff, BB_def]
    exact ⟨⟨by omega, by omega⟩, ⟨by omega, by omega⟩, Dig.nil⟩
  have hv : val [u % 4294967296, u / 4294967296] = u := by simp only [val, BB_def]; omega
  have HR := Lib.hid hrow
  have HV := Lib.hid hv
  clear hown hrow hv
  go_enter Try.func71, Try.ntmps71
  go_wp2_with fail
  refine (trim_any _ 2 2 [u % 4294967296, u / 4294967296] _ HR.out (by omega)).mono ?_
  rintro e w' ⟨j, hj, rfl, rfl, hvj, htj⟩
  have HVJ := Lib.hid hvj
  have HT := Lib.hid htj
  clear hvj htj
  go_wp2
  go_ret
  exact ⟨_, rfl, ⟨_, _, _, _, rfl, HR.out.take hj, hd.take _, HT.out, HVJ.out.trans HV.out, hj⟩, hb⟩

theorem new_int (n : Int) (w : World) (h0 : -9223372036854775808 ≤ n) (h1 : n ≤ 9223372036854775807) :
    Calls Try.prog 17 #[.int .i64 n] w fun e w' => ∃ r, e = .returned r ∧ Ival w' r n 2 ∧ Below w.heap.size w w' := by
  have hW := below_alloc w (.cells #[.bool false, .slice none 0 0] 28)
  by_cases hn : n < 0
  · have hw : IntKind.u64.wrap (-IntKind.u64.wrap n) = -n := by rw [IntKind.wrap_u64, IntKind.wrap_u64]; omega
    have HW := Lib.hid hw
    clear hw
    go_enter Try.func17, Try.ntmps17
    go_wp2_with fail
    refine (words64_any _ _ (by rw [HW.out]; omega) (by rw [HW.out]; omega)).mono ?_
    rintro e w1 ⟨r1, rfl, hr1, hb1⟩
    rw [HW.out] at hr1
    go_wp2_with fail
    refine (signed_out true _ _ _ _ hr1 (by omega)).mono ?_
    rintro e w2 ⟨ng, A2, n2, c2, rfl, hv2, hb2⟩
    have hB := (hb1.mono (B' := w.heap.size + 1) (by simp)).trans (hb2.mono (B' := w.heap.size + 1) (by have := hb1.size; simpa using this))
    obtain ⟨e1, e2, f1, f2⟩ := room0 hB
    go_wp2
    refine bodyPost_ret (v := .agg #[.bool ng, .slice A2 n2 c2]) (by simp [results, Try.results17, go_sem, e1, e2]) rfl ⟨_, rfl, ?_, ?_⟩
    · have e0 : withSign true (-n) = n := by simp [withSign]
      rw [← e0]; exact hv2.stored e1 e2 _ _
    · exact ((hW.trans (hB.mono (by omega))).setCell (Nat.le_refl _) _).setCell (Nat.le_refl _) _
  · go_enter Try.func17, Try.ntmps17
    go_wp2_with fail
    refine (words64_any _ _ (by omega) (by omega)).mono ?_
    rintro e w1 ⟨r1, rfl, hr1, hb1⟩
    go_wp2_with fail
    refine (signed_out false _ _ _ _ hr1 (by omega)).mono ?_
    rintro e w2 ⟨ng, A2, n2, c2, rfl, hv2, hb2⟩
    have hB := (hb1.mono (B' := w.heap.size + 1) (by simp)).trans (hb2.mono (B' := w.heap.size + 1) (by have := hb1.size; simpa using this))
    obtain ⟨e1, e2, f1, f2⟩ := room0 hB
    go_wp2
    refine bodyPost_ret (v := .agg #[.bool ng, .slice A2 n2 c2]) (by simp [results, Try.results17, go_sem, e1, e2]) rfl ⟨_, rfl, hv2.stored e1 e2 _ _, ?_⟩
    exact ((hW.trans (hB.mono (by omega))).setCell (Nat.le_refl _) _).setCell (Nat.le_refl _) _

theorem div32_any (h l y : Int) (w : World) (h0 : 0 ≤ h) (hy : h < y) (hy1 : y < 4294967296) (l0 : 0 ≤ l) (l1 : l < 4294967296) :
    Calls Try.prog 135 #[.int .u32 h, .int .u32 l, .int .u32 y] w fun e w' => e = .returned (.tuple #[.int .u32 ((h * 4294967296 + l) / y), .int .u32 ((h * 4294967296 + l) % y)]) ∧ ∃ q, w' = w.drewN q := by
  have hj := or_join h l h0 (by omega) l0 l1
  obtain ⟨z, hz⟩ : ∃ z, h * 4294967296 + l = z := ⟨_, rfl⟩
  rw [hz] at hj
  have z0 : 0 ≤ z := by omega
  have z1 : z < 18446744073709551616 := by omega
  have q0 : 0 ≤ z / y := Int.ediv_nonneg z0 (by omega)
  have q1 : z / y < 4294967296 := Int.ediv_lt_of_lt_mul (by omega) (by omega)
  have r0 : 0 ≤ z % y := Int.emod_nonneg _ (by omega)
  have r1 : z % y < y := Int.emod_lt_of_pos _ (by omega)
  rw [hz]
  clear hz
  have y0 : (y != 0) = true := by simp; omega
  have y1 : (y == 0) = false := by simp; omega
  go_enter Try.func135, Try.ntmps135
  go_wp2_with fail
  go_quiet (fail)
  go_wp2
  go_ret2
  exact ⟨rfl, _, rfl⟩

end Go.Proofs.Ytoanomgdkkbbmaa
