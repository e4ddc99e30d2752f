/- The reference's Limbs: the digits in words. -/
import Derived.Test.YtoanomgdkkbbmaaRefNew
namespace Go.Proofs.Ytoanomgdkkbbmaa
open Go.RowKit LM

theorem valR_take_succ (R : Int) (ds : List Int) (n : Nat) : valR R (ds.take (n + 1)) = valR R (ds.take n) + R ^ n * ds.getD n 0 := by
  by_cases hn : n < ds.length
  · rw [take_snoc ds n hn, valR_append, List.length_take, Nat.min_eq_left (by omega)]; simp [valR]
  · rw [List.take_of_length_le (by omega), List.take_of_length_le (by omega), getD_out ds n (by omega)]; simp

theorem valR_take_two (ds : List Int) (k : Nat) : valR 65536 (ds.take (2 * (k + 1))) = valR 65536 (ds.take (2 * k)) + BB ^ k * (ds.getD (2 * k) 0 + ds.getD (2 * k + 1) 0 * 65536) := by
  rw [show 2 * (k + 1) = 2 * k + 1 + 1 from by omega, valR_take_succ, valR_take_succ, Int.pow_succ, Int.mul_add]
  have e : (65536 : Int) ^ (2 * k) = BB ^ k := by rw [Int.pow_mul, BB_def]; rfl
  rw [e]
  grind

theorem DigR.getD_lt {ds : List Int} (h : DigR 65536 ds) (k : Nat) : 0 ≤ ds.getD k 0 ∧ ds.getD k 0 < 65536 := by
  by_cases hk : k < ds.length
  · exact h _ (by simp [List.getD, hk])
  · rw [getD_out ds k (by omega)]; omega

/-- Words of the call's own. -/
def OwnW (w : World) (base : Nat) (v : Value) (ls : List Int) : Prop := w.ownsRow base 99 1 v ls.length (ls.map (Value.int .u32))

/-- The first k words. -/
def Paired (ds ls : List Int) (n k : Nat) : Prop := ls.length = k ∧ Dig ls ∧ val ls = valR 65536 (ds.take (2 * k)) ∧ (n ≤ 2 * k → Trimmed ls)

theorem Paired.step {ds ls : List Int} {n k : Nat} (h : Paired ds ls n k) (hl : ds.length = n) (hd : DigR 65536 ds) (ht : Trimmed ds) (hk : 2 * k < n) {x : Int} (hx : x = ds.getD (2 * k) 0 + ds.getD (2 * k + 1) 0 * 65536) : Paired ds (ls ++ [x]) n (k + 1) := by
  obtain ⟨h1, h2, h3, h4⟩ := h
  have b0 := hd.getD_lt (2 * k)
  have b1 := hd.getD_lt (2 * k + 1)
  refine ⟨by simp [h1], h2.snoc (by omega) (by rw [BB_def]; omega), ?_, fun hn => .inr ?_⟩
  · rw [val_snoc, h3, h1, valR_take_two, hx]
  · have e : (ls ++ [x]).getD ((ls ++ [x]).length - 1) 0 = x := by simp [List.getD]
    rw [e]
    rcases ht with h0 | h0
    · omega
    · by_cases hn1 : n = 2 * k + 1
      · rw [hl, show n - 1 = 2 * k from by omega] at h0; omega
      · rw [hl, show n - 1 = 2 * k + 1 from by omega] at h0; omega

set_option maxRecDepth 100000 in
set_option maxHeartbeats 1000000 in
theorem rlimbs_any (ng : Bool) (A : Option Addr) (n c : Nat) (ds : List Int) (w : World) (h : Row .i64 w A n c ds) (hn : n ≤ 1048576) (hd : DigR 65536 ds) (ht : Trimmed ds) :
    Calls Try.prog 76 #[.agg #[.bool ng, .slice A n c]] w fun e w' => (∃ A' k c' ls, e = .returned (.slice A' k c') ∧ Row .u32 w' A' k c' ls ∧ Dig ls ∧ Trimmed ls ∧ val ls = valR 65536 ds) ∧ Below w.heap.size w w' := by
  obtain ⟨i0, hi, hz0, hz1, hz2⟩ := info_parts Try.info99
  have hW := below_alloc w (.cells #[.bool ng, .slice A n c] 31)
  have HR := Lib.hid h
  have HD := Lib.hid hd
  have HT := Lib.hid ht
  have HL := Lib.hid h.1
  have hb0 : ∀ w', Below (w.heap.size + 1) (w.alloc (.cells #[.bool ng, .slice A n c] 31)) w' → w'.cell? ⟨w.heap.size, 1, none⟩ = some (.slice A n c) := fun w' hb => by
    rw [hb.cell (by simp), World.cell?_alloc_at _ _ _ _ (by simp)]; rfl
  have HB := Lib.hid hb0
  clear h hd ht hb0
  go_enter Try.func76, Try.ntmps76
  go_wp2_with fail
  go_loopw [3, 4] (fun dv iv wr => ∃ (k : Nat) (ls : List Int), iv = .int .i64 ((2 * k : Nat) : Int) ∧ 2 * k ≤ n + 1 ∧ OwnW wr (w.heap.size + 1) dv ls ∧ Hid (Paired ds ls n k) ∧ Below (w.heap.size + 1) (w.alloc (.cells #[.bool ng, .slice A n c] 31)) wr) (fun _ iv _ => n + 1 - (intOf iv).toNat)
  case atStart => exact ⟨0, [], rfl, by omega, World.ownsRow_nil _ _ _ _, Lib.hid ⟨rfl, Dig.nil, by simp [val, valR], fun _ => .inl rfl⟩, Below.refl _ _⟩
  case round =>
    obtain ⟨k, ls, rfl, hk, hown, HP, hb⟩ := hrel
    have HO := Lib.hid hown
    have c1 := HB.out wr hb
    clear hown
    obtain ⟨m, hm⟩ : ∃ m, 2 * k = m := ⟨_, rfl⟩
    have HM := Lib.hid hm
    rw [hm] at hk ⊢
    clear hm
    by_cases hlt : m < n
    · have hn0 : n ≠ 0 := by omega
      obtain ⟨b, o, rfl, hbb, hx⟩ := (HR.out.below (hW.trans (hb.mono (by omega)))).2.2 hn0
      have hx1 : wr.cell? _ = _ := hx m hlt
      have g0 := HD.out.getD_lt m
      have g1 := HD.out.getD_lt (m + 1)
      obtain ⟨x, ex⟩ : ∃ x, ds.getD m 0 = x := ⟨_, rfl⟩
      obtain ⟨y, ey⟩ : ∃ y, ds.getD (m + 1) 0 = y := ⟨_, rfl⟩
      rw [ex] at hx1 g0
      rw [ey] at g1
      have EX := Lib.hid ex
      have EY := Lib.hid ey
      clear ex ey
      have hll := Lib.hid HP.out.1
      have hkm : k ≤ m := by have := HM.out; omega
      by_cases hlt2 : m + 1 < n
      · have hy1 : wr.cell? _ = _ := hx (m + 1) hlt2
        rw [EY.out] at hy1
        clear hx
        have hlt3 : (m : Int) + 1 < (n : Int) := by omega
        go_wp2_with (at_builtin; refine wpList_append_own _ rfl (.tmp 35) (.tmp 37) _ rfl (w.heap.size + 1) 99 i0 (.int .u32 0) 1 4 Try.underlying22 hi hz0 hz1 hz2 rfl (by decide) _ _ _ rfl (HO.out.alloc _) ⟨wr.heap.size, 0, none⟩ 1 1 [.int .u32 (x + y * 65536)] rfl rfl ?c1 ?c2 ?c3 ?c4 ?c5 ?_)
        case c1 => exact cell_one _ _
        case c2 => exact one_cell _
        case c3 => have := hll.out; unfold maxLen; omega
        case c4 => have := hll.out; omega
        case c5 => have := hb.size; simp at this ⊢; omega
        intro v' w3 hown3 hg3 _
        have hb3 : Below (w.heap.size + 1) (w.alloc (.cells #[.bool ng, .slice (some ⟨b, o, none⟩) n c] 31)) w3 := by
          have hs := hb.size
          simp at hs
          exact (hb.alloc (by omega) _).grown hg3 (by simp; omega) (fun g hg => (HO.out.lt g hg).1)
        have ho3 : OwnW w3 (w.heap.size + 1) v' (ls ++ [x + y * 65536]) := by
          unfold OwnW; rw [List.length_append, List.length_singleton, List.map_append]; exact hown3
        have HO3 := Lib.hid ho3
        have HP3 := Lib.hid (HP.out.step HL.out HD.out HT.out (by have := HM.out; omega) (x := x + y * 65536) (by rw [HM.out, EX.out, EY.out]))
        clear hown3 hg3 ho3
        go_wp2
        exact ⟨⟨k + 1, _, by have := HM.out; simp; omega, by have := HM.out; omega, HO3.out, HP3, hb3⟩, by have := HM.out; simp [intOf]; omega⟩
      · clear hx
        have hy0 : y = 0 := by rw [← EY.out]; exact getD_out ds _ (by rw [HL.out]; omega)
        have hlt3 : ¬ (m : Int) + 1 < (n : Int) := by omega
        go_wp2_with (at_builtin; refine wpList_append_own _ rfl (.tmp 35) (.tmp 37) _ rfl (w.heap.size + 1) 99 i0 (.int .u32 0) 1 4 Try.underlying22 hi hz0 hz1 hz2 rfl (by decide) _ _ _ rfl (HO.out.alloc _) ⟨wr.heap.size, 0, none⟩ 1 1 [.int .u32 x] rfl rfl ?c1 ?c2 ?c3 ?c4 ?c5 ?_)
        case c2 => rfl
        case c3 => have := hll.out; unfold maxLen; omega
        case c4 => have := hll.out; omega
        case c5 => have := hb.size; simp at this ⊢; omega
        intro v' w3 hown3 hg3 _
        have hb3 : Below (w.heap.size + 1) (w.alloc (.cells #[.bool ng, .slice (some ⟨b, o, none⟩) n c] 31)) w3 := by
          have hs := hb.size
          simp at hs
          exact (hb.alloc (by omega) _).grown hg3 (by simp; omega) (fun g hg => (HO.out.lt g hg).1)
        have ho3 : OwnW w3 (w.heap.size + 1) v' (ls ++ [x]) := by
          unfold OwnW; rw [List.length_append, List.length_singleton, List.map_append]; exact hown3
        have HO3 := Lib.hid ho3
        have HP3 := Lib.hid (HP.out.step HL.out HD.out HT.out (by have := HM.out; omega) (x := x) (by rw [HM.out, EX.out, EY.out, hy0]; simp))
        clear hown3 hg3 ho3
        go_wp2
        exact ⟨⟨k + 1, _, by have := HM.out; simp; omega, by have := HM.out; omega, HO3.out, HP3, hb3⟩, by have := HM.out; simp [intOf]; omega⟩
    · obtain ⟨A', c', rfl, hrow⟩ := Row.of_ownsRow HO.out
      go_wp2
      go_ret
      obtain ⟨p1, p2, p3, p4⟩ := HP.out
      refine ⟨⟨_, _, _, ls, rfl, hrow, p2, p4 (by have := HM.out; omega), ?_⟩, hW.trans (hb.mono (by omega))⟩
      rw [p3, List.take_of_length_le (by rw [HL.out, HM.out]; omega)]

end Go.Proofs.Ytoanomgdkkbbmaa
