/- The reference's New. -/
import Derived.Test.YtoanomgdkkbbmaaRef
namespace Go.Proofs.Ytoanomgdkkbbmaa
open Go.RowKit LM

/-- Numbers of the call's own. -/
def Ints64 (w : World) (base : Nat) (v : Value) (ds : List Int) : Prop := w.ownsRow base 3 1 v ds.length (ds.map (Value.int .i64))

theorem room31 {w w' : World} (h : Below (w.heap.size + 1) (w.alloc (.cells #[.bool false, .slice none 0 0] 31)) w') :
    w'.cell? ⟨w.heap.size, 0, none⟩ = some (.bool false) ∧ w'.cell? ⟨w.heap.size, 1, none⟩ = some (.slice none 0 0) ∧ w'.frozen? ⟨w.heap.size, 0, none⟩ = false ∧ w'.frozen? ⟨w.heap.size, 1, none⟩ = false := by
  refine ⟨?_, ?_, ?_, ?_⟩
  · rw [h.cell (by simp), World.cell?_alloc_at _ _ _ _ (by simp)]; rfl
  · rw [h.cell (by simp), World.cell?_alloc_at _ _ _ _ (by simp)]; rfl
  · rw [h.frozen (by simp)]; exact World.frozen?_alloc_at _ _ _ _ (by simp)
  · rw [h.frozen (by simp)]; exact World.frozen?_alloc_at _ _ _ _ (by simp)

theorem Rval.stored {w : World} {s : Value} {z : Int} {L : Nat} (h : Rval w s z L) {r : Nat} (e1 : w.cell? ⟨r, 0, none⟩ = some (.bool false)) (e2 : w.cell? ⟨r, 1, none⟩ = some (.slice none 0 0)) (x y : Value) :
    Rval ((w.setCell ⟨r, 0, none⟩ x).setCell ⟨r, 1, none⟩ y) s z L := by
  obtain ⟨neg, A, n, c, ds, e, hr, t⟩ := h
  refine ⟨neg, A, n, c, ds, e, (hr.setOther (fun u => by rw [e1]; simp) x).setOther (fun u => ?_) y, t⟩
  rw [World.cell?_setCell_other _ _ _ _ (by simp), e2]; simp

theorem cell_one (w : World) (x : Value) {e : TypeId} : ∀ (j : Nat) (u : Value), [x][j]? = some u → (w.alloc (.cells #[x] e)).cell? ((⟨w.heap.size, 0, none⟩ : Addr).add j) = some u := by
  intro j u hj
  match j, hj with
  | 0, hj =>
    simp at hj; subst hj
    rw [Addr.add_lit, World.cell?_alloc_at _ _ _ _ rfl]; rfl

theorem one_cell {K : IntKind} (x : Int) : ∀ u ∈ [Value.int K x], u.oneCell' = true := by
  intro u hu; simp at hu; subst hu; rfl

set_option maxHeartbeats 1000000 in
theorem rnew_any (n : Int) (w : World) (h0 : -9223372036854775808 ≤ n) (h1 : n ≤ 9223372036854775807) :
    Calls Try.prog 18 #[.int .i64 n] w fun e w' => (∃ ng A2 n2 c2, e = .returned (.agg #[.bool ng, .slice A2 n2 c2]) ∧ Rval w' (.agg #[.bool ng, .slice A2 n2 c2]) n 64) ∧ Below w.heap.size w w' := by
  obtain ⟨i0, hi, hz0, hz1, hz2⟩ := info_parts Try.info3
  have hW := below_alloc w (.cells #[.bool false, .slice none 0 0] 31)
  by_cases hlt0 : n < 0
  · have hw : IntKind.u64.wrap (-IntKind.u64.wrap n) = -n := by rw [IntKind.wrap_u64, IntKind.wrap_u64]; omega
    go_enter Try.func18, Try.ntmps18
    go_wp2_with fail
    go_loopw [3, 4] (fun uv dv wr => ∃ (u' : Int) (ds : List Int), uv = .int .u64 u' ∧ 0 ≤ u' ∧ u' < 18446744073709551616 ∧ Ints64 wr (w.heap.size + 1) dv ds ∧ Hid (DigR 65536 ds ∧ valR 65536 ds + 65536 ^ ds.length * u' = (-n)) ∧ ds.length ≤ 64 ∧ Below (w.heap.size + 1) (w.alloc (.cells #[.bool false, .slice none 0 0] 31)) wr) (fun uv _ _ => (intOf uv).toNat)
    case atStart => exact ⟨(-n), [], rfl, by omega, by omega, World.ownsRow_nil _ _ _ _, Lib.hid ⟨fun d hd => by simp at hd, by simp [valR]⟩, by simp, Below.refl _ _⟩
    case round =>
      obtain ⟨u', ds, rfl, hu0, hu1, hown, HD, hdl, hb⟩ := hrel
      have HO := Lib.hid hown
      clear hown
      by_cases hu : 0 < u'
      · have hlen : ds.length < 64 := by
          refine len_bound (R := 65536) (z := (-n)) (L := 2) (by decide) ?_ (by rw [BB_def]; omega)
          have h2 := HD.out.2
          have h3 := valR_nonneg (by decide : (0 : Int) ≤ 65536) HD.out.1
          have h4 : 65536 ^ ds.length * 1 ≤ 65536 ^ ds.length * u' := Int.mul_le_mul_of_nonneg_left (by omega) (Int.pow_nonneg (by decide))
          omega
        go_wp2_with (at_builtin; refine wpList_append_own _ rfl (.tmp 13) (.tmp 17) _ rfl (w.heap.size + 1) 3 i0 (.int .i64 0) 1 8 Try.underlying29 hi hz0 hz1 hz2 rfl (by decide) _ _ _ rfl (HO.out.alloc _) ⟨wr.heap.size, 0, none⟩ 1 1 [.int .i64 (u' % 65536)] rfl rfl ?c1 ?c2 ?c3 ?c4 ?c5 ?_)
        case c1 => exact cell_one _ _
        case c2 => exact one_cell _
        case c3 => unfold maxLen; omega
        case c4 => omega
        case c5 => have := hb.size; simp at this ⊢; omega
        intro v' w3 hown3 hg3 _
        have hb3 : Below (w.heap.size + 1) (w.alloc (.cells #[.bool false, .slice none 0 0] 31)) w3 := by
          have hs := hb.size
          simp at hs
          exact (hb.alloc (by omega) _).grown hg3 (by simp; omega) (fun g hg => (HO.out.lt g hg).1)
        have ho3 : Ints64 w3 (w.heap.size + 1) v' (ds ++ [u' % 65536]) := by
          unfold Ints64; rw [List.length_append, List.length_singleton, List.map_append]; exact hown3
        have HO3 := Lib.hid ho3
        clear hown3 hg3 ho3
        go_wp2
        refine ⟨⟨u' / 65536, _, rfl, by omega, by omega, HO3.out, Lib.hid ⟨?_, ?_⟩, by simp; omega, hb3⟩, by simp [intOf]; omega⟩
        · intro x hx
          rcases List.mem_append.1 hx with hx | hx
          · exact HD.out.1 x hx
          · simp at hx; subst hx; omega
        · have h2 := HD.out.2
          rw [valR_append, List.length_append, List.length_singleton, Int.pow_succ]
          have h3 : 65536 ^ ds.length * u' = 65536 ^ ds.length * (65536 * (u' / 65536)) + 65536 ^ ds.length * (u' % 65536) := by
            rw [← Int.mul_add]
            exact congrArg _ (by omega : u' = 65536 * (u' / 65536) + u' % 65536)
          rw [h3] at h2
          simp only [valR, Int.mul_zero, Int.add_zero]
          rw [Int.mul_assoc]
          omega
      · obtain rfl : u' = 0 := by omega
        obtain ⟨A, c, rfl, hrow⟩ := Row.of_ownsRow HO.out
        have hv : valR 65536 ds = (-n) := by have := HD.out.2; simpa using this
        have HV := Lib.hid hv
        clear hv
        go_wp2_with fail
        refine (rmade_any true A _ c ds _ hrow (by omega) HD.out.1).mono ?_
        rintro e w4 ⟨ng, A2, n2, c2, rfl, hr, hb4⟩
        have hB := hb.trans (hb4.mono (B' := w.heap.size + 1) (by have := hb.size; simpa using this))
        obtain ⟨e1, e2, f1, f2⟩ := room31 hB
        have HR := Lib.hid hr
        clear hr
        go_wp2
        refine bodyPost_ret (v := .agg #[.bool ng, .slice A2 n2 c2]) (by simp [results, Try.results18, go_sem, e1, e2]) rfl ⟨⟨_, _, _, _, rfl, ?_⟩, ?_⟩
        · have e0 : withSign true (valR 65536 ds) = n := by rw [HV.out]; simp [withSign]
          rw [← e0]
          obtain ⟨neg', A', n', c', ds', ev, r1, r2, r3, r4, r5, r6⟩ := HR.out.stored e1 e2 (.bool ng) (.slice A2 n2 c2)
          exact ⟨neg', A', n', c', ds', ev, r1, r2, r3, r4, r5, by omega⟩
        · exact ((hW.trans (hB.mono (by omega))).setCell (Nat.le_refl _) _).setCell (Nat.le_refl _) _
  · have hdec : decide (n < 0) = false := by simpa using hlt0
    go_enter Try.func18, Try.ntmps18
    go_wp2_with fail
    go_loopw [3, 4] (fun uv dv wr => ∃ (u' : Int) (ds : List Int), uv = .int .u64 u' ∧ 0 ≤ u' ∧ u' < 18446744073709551616 ∧ Ints64 wr (w.heap.size + 1) dv ds ∧ Hid (DigR 65536 ds ∧ valR 65536 ds + 65536 ^ ds.length * u' = n) ∧ ds.length ≤ 64 ∧ Below (w.heap.size + 1) (w.alloc (.cells #[.bool false, .slice none 0 0] 31)) wr) (fun uv _ _ => (intOf uv).toNat)
    case atStart => exact ⟨n, [], rfl, by omega, by omega, World.ownsRow_nil _ _ _ _, Lib.hid ⟨fun d hd => by simp at hd, by simp [valR]⟩, by simp, Below.refl _ _⟩
    case round =>
      obtain ⟨u', ds, rfl, hu0, hu1, hown, HD, hdl, hb⟩ := hrel
      have HO := Lib.hid hown
      clear hown
      by_cases hu : 0 < u'
      · have hlen : ds.length < 64 := by
          refine len_bound (R := 65536) (z := n) (L := 2) (by decide) ?_ (by rw [BB_def]; omega)
          have h2 := HD.out.2
          have h3 := valR_nonneg (by decide : (0 : Int) ≤ 65536) HD.out.1
          have h4 : 65536 ^ ds.length * 1 ≤ 65536 ^ ds.length * u' := Int.mul_le_mul_of_nonneg_left (by omega) (Int.pow_nonneg (by decide))
          omega
        go_wp2_with (at_builtin; refine wpList_append_own _ rfl (.tmp 13) (.tmp 17) _ rfl (w.heap.size + 1) 3 i0 (.int .i64 0) 1 8 Try.underlying29 hi hz0 hz1 hz2 rfl (by decide) _ _ _ rfl (HO.out.alloc _) ⟨wr.heap.size, 0, none⟩ 1 1 [.int .i64 (u' % 65536)] rfl rfl ?c1 ?c2 ?c3 ?c4 ?c5 ?_)
        case c1 => exact cell_one _ _
        case c2 => exact one_cell _
        case c3 => unfold maxLen; omega
        case c4 => omega
        case c5 => have := hb.size; simp at this ⊢; omega
        intro v' w3 hown3 hg3 _
        have hb3 : Below (w.heap.size + 1) (w.alloc (.cells #[.bool false, .slice none 0 0] 31)) w3 := by
          have hs := hb.size
          simp at hs
          exact (hb.alloc (by omega) _).grown hg3 (by simp; omega) (fun g hg => (HO.out.lt g hg).1)
        have ho3 : Ints64 w3 (w.heap.size + 1) v' (ds ++ [u' % 65536]) := by
          unfold Ints64; rw [List.length_append, List.length_singleton, List.map_append]; exact hown3
        have HO3 := Lib.hid ho3
        clear hown3 hg3 ho3
        go_wp2
        refine ⟨⟨u' / 65536, _, rfl, by omega, by omega, HO3.out, Lib.hid ⟨?_, ?_⟩, by simp; omega, hb3⟩, by simp [intOf]; omega⟩
        · intro x hx
          rcases List.mem_append.1 hx with hx | hx
          · exact HD.out.1 x hx
          · simp at hx; subst hx; omega
        · have h2 := HD.out.2
          rw [valR_append, List.length_append, List.length_singleton, Int.pow_succ]
          have h3 : 65536 ^ ds.length * u' = 65536 ^ ds.length * (65536 * (u' / 65536)) + 65536 ^ ds.length * (u' % 65536) := by
            rw [← Int.mul_add]
            exact congrArg _ (by omega : u' = 65536 * (u' / 65536) + u' % 65536)
          rw [h3] at h2
          simp only [valR, Int.mul_zero, Int.add_zero]
          rw [Int.mul_assoc]
          omega
      · obtain rfl : u' = 0 := by omega
        obtain ⟨A, c, rfl, hrow⟩ := Row.of_ownsRow HO.out
        have hv : valR 65536 ds = n := by have := HD.out.2; simpa using this
        have HV := Lib.hid hv
        clear hv
        go_wp2_with fail
        refine (rmade_any false A _ c ds _ hrow (by omega) HD.out.1).mono ?_
        rintro e w4 ⟨ng, A2, n2, c2, rfl, hr, hb4⟩
        have hB := hb.trans (hb4.mono (B' := w.heap.size + 1) (by have := hb.size; simpa using this))
        obtain ⟨e1, e2, f1, f2⟩ := room31 hB
        have HR := Lib.hid hr
        clear hr
        go_wp2
        refine bodyPost_ret (v := .agg #[.bool ng, .slice A2 n2 c2]) (by simp [results, Try.results18, go_sem, e1, e2]) rfl ⟨⟨_, _, _, _, rfl, ?_⟩, ?_⟩
        · have e0 : withSign false (valR 65536 ds) = n := by rw [HV.out]; simp [withSign]
          rw [← e0]
          obtain ⟨neg', A', n', c', ds', ev, r1, r2, r3, r4, r5, r6⟩ := HR.out.stored e1 e2 (.bool ng) (.slice A2 n2 c2)
          exact ⟨neg', A', n', c', ds', ev, r1, r2, r3, r4, r5, by omega⟩
        · exact ((hW.trans (hB.mono (by omega))).setCell (Nat.le_refl _) _).setCell (Nat.le_refl _) _

end Go.Proofs.Ytoanomgdkkbbmaa
