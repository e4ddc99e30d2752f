/- The reference's Make. -/
import Derived.Test.YtoanomgdkkbbmaaRefLimbs
import Derived.Deep.RegionLawGrows
import Derived.Deep.RegionLaw
namespace Go.Proofs.Ytoanomgdkkbbmaa
open Go.RowKit LM

theorem step_own {P : Program} {ops : Array Oper} {o : Oper} {a : Act} {w : World} {K : Act → World → Prop} {Q : Exit → Act → World → Prop} {E : Prop}
    (hg : o.guard = none) (s x : Operand) (t : TypeId) (hop : o.op = Op.call { callee := Callee.builtin Builtin.append, args := #[s, x], argTypes := #[t, t] })
    (base : Nat) (e : TypeId) (i : TypeInfo) (z : Value) (size bytes : Nat) (h1 : P.underlying t = some (.slice e)) (h2 : P.info? e = some i) (h3 : i.zero = some z) (h4 : i.size = size) (h5 : i.bytes = bytes) (h6 : z.cells.size = size) (h7 : 0 < size)
    (v : Value) (n : Nat) (olds : List Value) (hs : a.eval s = v) (hown : w.ownsRow base e size v n olds)
    (ad : Addr) (m c : Nat) (news : List Value) (hx : a.eval x = .slice (some ad) m c) (hn : news.length = m * size) (hc : ∀ j u, news[j]? = some u → w.cell? (ad.add j) = some u) (h1c : ∀ u ∈ news, u.oneCell' = true)
    (b1 : n + m ≤ maxLen) (b2 : (n + m) * bytes ≤ 140737488355328) (hb : base ≤ w.heap.size)
    (hK : ∀ v' w', w'.ownsRow base e size v' (n + m) (olds ++ news) → w.grownBy w' v.ownBlock → K (a.put o.dst v') w') :
    if Region.wanted o (yielded ops a.tmps) = true then Oper.wp P o a w K Q else E := by
  have hw : Region.wanted o (yielded ops a.tmps) = true := by simp [Region.wanted, hg]
  rw [if_pos hw]
  obtain ⟨v', w', hrun, r1, r2, _⟩ := run_append_own (P := P) w base t o.type e i z size bytes h1 h2 h3 h4 h5 h6 h7 v n olds hown ad m c news hn hc h1c b1 b2 hb
  unfold Oper.wp
  simp [execOp, hop, resolve, invoke, builtin, hs, hx, hrun, Result.andThen]
  exact hK v' w' r1 r2

theorem two_cells (w : World) (x y : Value) {e : TypeId} : ∀ (j : Nat) (u : Value), [x, y][j]? = some u → (w.alloc (.cells #[x, y] e)).cell? ((⟨w.heap.size, 0, none⟩ : Addr).add j) = some u := by
  intro j u hj
  match j, hj with
  | 0, hj => simp at hj; subst hj; rw [Addr.add_lit, World.cell?_alloc_at _ _ _ _ rfl]; rfl
  | 1, hj => simp at hj; subst hj; rw [Addr.add_lit, World.cell?_alloc_at _ _ _ _ rfl]; rfl

theorem pair_step {ds xs : List Int} {k : Nat} {x : Int} (h : DigR 65536 ds ∧ valR 65536 ds = val (xs.take k)) (hl : ds.length = 2 * k) (hx : xs.getD k 0 = x) (h0 : 0 ≤ x) (h1 : x < 4294967296) :
    DigR 65536 (ds ++ [x % 65536, x / 65536]) ∧ valR 65536 (ds ++ [x % 65536, x / 65536]) = val (xs.take (k + 1)) := by
  constructor
  · intro d hd
    rcases List.mem_append.1 hd with hd | hd
    · exact h.1 d hd
    · simp at hd
      rcases hd with rfl | rfl <;> omega
  · rw [valR_append, val_take_succ, h.2, hl, hx]
    have e : (65536 : Int) ^ (2 * k) = BB ^ k := by rw [Int.pow_mul, BB_def]; rfl
    rw [e]
    have e2 : valR 65536 [x % 65536, x / 65536] = x := by simp [valR]; omega
    rw [e2]

set_option maxRecDepth 100000 in
set_option maxHeartbeats 1000000 in
theorem rmake_any (p : Bool) (A : Option Addr) (n c : Nat) (xs : List Int) (w : World) (h : Row .u32 w A n c xs) (hn : n ≤ 1048576) (hd : Dig xs) :
    Calls Try.prog 69 #[.bool p, .slice A n c] w fun e w' => (∃ ng A2 n2 c2, e = .returned (.agg #[.bool ng, .slice A2 n2 c2]) ∧ Rval w' (.agg #[.bool ng, .slice A2 n2 c2]) (withSign p (val xs)) (2 * n)) ∧ Below w.heap.size w w' := by
  obtain ⟨i0, hi, hz0, hz1, hz2⟩ := info_parts Try.info3
  have hW := below_alloc w (.cells #[.bool false, .slice none 0 0] 31)
  have HR := Lib.hid h
  have HD := Lib.hid hd
  have HL := Lib.hid h.1
  clear h hd
  go_enter Try.func69, Try.ntmps69
  go_wp2_with fail
  go_loopw [5, 6] (fun dv iv wr => ∃ (k : Nat) (ds : List Int), iv = .int .i64 k ∧ k ≤ n ∧ Ints64 wr (w.heap.size + 1) dv ds ∧ ds.length = 2 * k ∧ Hid (DigR 65536 ds ∧ valR 65536 ds = val (xs.take k)) ∧ Below (w.heap.size + 1) (w.alloc (.cells #[.bool false, .slice none 0 0] 31)) wr) (fun _ iv _ => n - (intOf iv).toNat)
  case atStart => exact ⟨0, [], rfl, Nat.zero_le _, World.ownsRow_nil _ _ _ _, rfl, Lib.hid ⟨fun d hd => by simp at hd, by simp [valR, val]⟩, Below.refl _ _⟩
  case round =>
    obtain ⟨k, ds, rfl, hk, hown, hdl, HP, hb⟩ := hrel
    have HO := Lib.hid hown
    clear hown
    have HO2 : Hid (wr.ownsRow (w.heap.size + 1) 3 1 u5 (2 * k) (ds.map (Value.int .i64))) := Lib.hid (by have h := HO.out; unfold Ints64 at h; rw [hdl] at h; exact h)
    by_cases hlt : k < n
    · have hn0 : n ≠ 0 := by omega
      obtain ⟨b, o, rfl, hbb, hx⟩ := (HR.out.below (hW.trans (hb.mono (by omega)))).2.2 hn0
      have hx1 : wr.cell? _ = _ := hx k hlt
      have g0 := HD.out.getD k
      obtain ⟨x, ex⟩ : ∃ x, xs.getD k 0 = x := ⟨_, rfl⟩
      rw [ex] at hx1 g0
      rw [BB_def] at g0
      have EX := Lib.hid ex
      have e1 : x.tmod 65536 = x % 65536 := Int.tmod_eq_emod_of_nonneg g0.1
      have e2 : x.tdiv 65536 = x / 65536 := Int.tdiv_eq_ediv_of_nonneg g0.1
      have e3 : IntKind.i64.wrap (x % 65536) = x % 65536 := by rw [IntKind.wrap_i64]; omega
      have e4 : IntKind.u32.wrap (x / 65536) = x / 65536 := by rw [IntKind.wrap_u32]; omega
      have e5 : IntKind.i64.wrap (x / 65536) = x / 65536 := by rw [IntKind.wrap_i64]; omega
      clear ex hx
      go_wp2_with fail
      have hbs : w.heap.size + 1 ≤ wr.heap.size := by have := hb.size; simpa using this
      go_region_law (refine step_own rfl (.tmp 13) (.tmp 26) 29 rfl (w.heap.size + 1) 3 i0 (.int .i64 0) 1 8 Try.underlying29 hi hz0 hz1 hz2 rfl (by decide) u5 (2 * k) (ds.map (Value.int .i64)) (by simp [Act.eval]) (HO2.out.alloc _) ⟨wr.heap.size, 0, none⟩ 2 2 [.int .i64 (x % 65536), .int .i64 (x / 65536)] (by simp [Act.eval]) rfl (two_cells _ _ _) ?h3 ?h4 ?h5 ?h6 ?_; (case h3 => (intro u hu; simp at hu; rcases hu with rfl | rfl <;> rfl)); (case h4 => (unfold maxLen; omega)); (case h5 => omega); (case h6 => (show _ ≤ _; simp; omega)); intro v' w3 hown3 hg3)
      all_goals
        have hb3 : Below (w.heap.size + 1) (w.alloc (.cells #[.bool false, .slice none 0 0] 31)) w3 :=
          ((hb.alloc hbs _).drew).grown hg3 (by show _ ≤ _; simp; omega) (fun g hg => (HO2.out.lt g hg).1)
        have ho3 : Ints64 w3 (w.heap.size + 1) v' (ds ++ [x % 65536, x / 65536]) := by
          unfold Ints64; rw [List.length_append, hdl, List.map_append]; exact hown3
        have HO3 := Lib.hid ho3
        have HP3 := Lib.hid (pair_step HP.out hdl EX.out g0.1 g0.2)
        clear hown3 hg3 ho3
        go_wp2
        exact ⟨⟨k + 1, _, by go_num, hlt, HO3.out, by simp [hdl]; omega, HP3, hb3⟩, by simp [intOf]; omega⟩
    · obtain rfl : k = n := by omega
      obtain ⟨A', c', rfl, hrow⟩ := Row.of_ownsRow HO2.out
      have hv : valR 65536 ds = val xs := by rw [HP.out.2, List.take_of_length_le (by rw [HL.out]; exact Nat.le_refl _)]
      have HV := Lib.hid hv
      clear hv
      go_wp2_with fail
      refine (rmade_any p A' _ c' ds _ hrow (by omega) HP.out.1).mono ?_
      rintro e w4 ⟨ng, A2, n2, c2, rfl, hr, hb4⟩
      have hB := hb.trans (hb4.mono (B' := w.heap.size + 1) (by have := hb.size; simpa using this))
      obtain ⟨e1, e2, f1, f2⟩ := room31 hB
      have HR4 := Lib.hid hr
      clear hr
      go_wp2
      refine bodyPost_ret (v := .agg #[.bool ng, .slice A2 n2 c2]) (by simp [results, Try.results69, go_sem, e1, e2]) rfl ⟨⟨_, _, _, _, rfl, ?_⟩, ?_⟩
      · rw [← HV.out]
        obtain ⟨neg', A', n', c', ds', ev, r1, r2, r3, r4, r5, r6⟩ := HR4.out.stored e1 e2 (.bool ng) (.slice A2 n2 c2)
        exact ⟨neg', A', n', c', ds', ev, r1, r2, r3, r4, r5, by omega⟩
      · exact ((hW.trans (hB.mono (by omega))).setCell (Nat.le_refl _) _).setCell (Nat.le_refl _) _

end Go.Proofs.Ytoanomgdkkbbmaa
