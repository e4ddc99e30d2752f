/- The reference's Parse. -/
import Derived.Test.YtoanomgdkkbbmaaRMath
namespace Go.Proofs.Ytoanomgdkkbbmaa
open Go.RowKit LM

/-- The answer of the reference's Parse in memory. -/
def RParsed (w : World) (R : Int) (S : ByteArray) (e : Ending) (w' : World) : Prop :=
  ∃ n A l c z err, e = .returned (.tuple #[.agg #[.bool n, .slice A l c], .int .i64 err]) ∧ Rval w' (.agg #[.bool n, .slice A l c]) z 20000 ∧ ParseRel R (bs S) z err ∧ Below w.heap.size w w'

theorem Rval.zero20 {w : World} : Rval w (.agg #[.bool false, .slice none 0 0]) 0 20000 :=
  ⟨false, none, 0, 0, [], rfl, Row.nil_, fun d h => by simp at h, .inl rfl, rfl, (fun h => by cases h), Nat.zero_le _⟩

set_option maxRecDepth 100000 in
set_option maxHeartbeats 1000000 in
theorem rParse_bad (S : ByteArray) (R : Int) (w : World) (hR : R < 2 ∨ 36 < R) : Calls Try.prog 63 #[.string S, .int .i64 R] w (RParsed w R S) := by
  have hW := below_alloc w (.cells #[.bool false, .slice none 0 0] 31)
  obtain ⟨e1, e2, f1, f2⟩ := room31 (Below.refl (w.heap.size + 1) (w.alloc (.cells #[.bool false, .slice none 0 0] 31)))
  by_cases hR2 : R < 2
  · go_enter Try.func63, Try.ntmps63
    go_wp2
    refine bodyPost_ret (v := .tuple #[.agg #[.bool false, .slice none 0 0], .int .i64 1]) (by simp [results, Try.results63, go_sem, e1, e2]) rfl ⟨_, _, _, _, 0, 1, rfl, Rval.zero20, .inl ⟨hR, rfl, rfl⟩, ?_⟩
    exact hW
  · have hR3 : 36 < R := by omega
    have HRR := Lib.hid hR
    clear hR
    go_enter Try.func63, Try.ntmps63
    go_wp2
    refine bodyPost_ret (v := .tuple #[.agg #[.bool false, .slice none 0 0], .int .i64 1]) (by simp [results, Try.results63, go_sem, e1, e2]) rfl ⟨_, _, _, _, 0, 1, rfl, Rval.zero20, .inl ⟨HRR.out, rfl, rfl⟩, ?_⟩
    exact hW

set_option maxRecDepth 100000 in
set_option maxHeartbeats 4000000 in
theorem rParse_empty (S : ByteArray) (R : Int) (w : World) (hR : ¬ (R < 2 ∨ 36 < R)) (hS : S.size = 0) : Calls Try.prog 63 #[.string S, .int .i64 R] w (RParsed w R S) := by
  have h0 : 2 ≤ R := by omega
  have h1 : R ≤ 36 := by omega
  clear hR
  have hW := below_alloc w (.cells #[.bool false, .slice none 0 0] 31)
  obtain ⟨e1, e2, f1, f2⟩ := room31 (Below.refl (w.heap.size + 1) (w.alloc (.cells #[.bool false, .slice none 0 0] 31)))
  have HTnil := Lib.hid (show bs S = [] from List.eq_nil_of_length_eq_zero (by rw [bs_length]; exact hS))
  have HBody := Lib.hid (show bodyOf (bs S) = bs S by rw [HTnil.out]; rfl)
  go_enter Try.func63, Try.ntmps63
  go_wp2
  refine bodyPost_ret (v := .tuple #[.agg #[.bool false, .slice none 0 0], .int .i64 2]) (by simp [results, Try.results63, go_sem, e1, e2]) rfl ⟨_, _, _, _, 0, 2, rfl, Rval.zero20, .inr (.inr ⟨h0, h1, ?_, rfl, rfl⟩), ?_⟩
  · rw [HBody.out]; exact fun h => h.1 HTnil.out
  · exact hW

set_option maxRecDepth 100000 in
set_option maxHeartbeats 4000000 in
theorem rParse_neg (S : ByteArray) (R : Int) (w : World) (hS2 : S.size ≤ 20000) (hR : ¬ (R < 2 ∨ 36 < R)) (hS : S.size ≠ 0) (hh : (bs S).headD 0 = 45) : Calls Try.prog 63 #[.string S, .int .i64 R] w (RParsed w R S) := by
  have h0 : 2 ≤ R := by omega
  have h1 : R ≤ 36 := by omega
  clear hR
  have hW := below_alloc w (.cells #[.bool false, .slice none 0 0] 31)
  obtain ⟨e1, e2, f1, f2⟩ := room31 (Below.refl (w.heap.size + 1) (w.alloc (.cells #[.bool false, .slice none 0 0] 31)))
  have hle : ¬ (20000 : Int) < (S.size : Int) := by omega
  have hlt : 0 < S.size := by omega
  have hb0 := bs_byte S 0 hlt
  obtain ⟨c0, hc⟩ : ∃ c0, (S[0].toNat : Int) = c0 := ⟨_, rfl⟩
  have hhd := bs_head S hlt
  rw [hc] at hhd hb0
  have hsz : (1 : Int) ≤ (S.size : Int) := by omega
  have hsp : (0 : Int) < (S.size : Int) := by omega
  obtain ⟨T, hT⟩ : ∃ T, S.extract 1 S.size = T := ⟨_, rfl⟩
  have hTb : bs T = (bs S).tail := by rw [← hT, bs_from S 1 (by omega)]; simp
  have hTS : T.size ≤ 20000 := by rw [← bs_length, hTb, List.length_tail, bs_length]; omega
  have h45 : c0 = 45 := hhd.symm.trans hh
  have HBody := Lib.hid (show bodyOf (bs S) = bs T by unfold bodyOf; rw [hhd, hTb, if_pos (.inl h45)])
  have HHd := Lib.hid (show decide ((bs S).headD 0 = 45) = true by rw [hhd]; simpa using h45)
  rw [h45] at hc
  clear hTb hhd h45 hb0 hh
  by_cases hTz : T.size = 0
  · have hTz0 : ((T.size : Int) == 0) = true := by simp [hTz]
    have HTnil := Lib.hid (show bs T = [] from List.eq_nil_of_length_eq_zero (by rw [bs_length]; exact hTz))
    go_enter Try.func63, Try.ntmps63
    go_wp2
    refine bodyPost_ret (v := .tuple #[.agg #[.bool false, .slice none 0 0], .int .i64 2]) (by simp [results, Try.results63, go_sem, e1, e2]) rfl ⟨_, _, _, _, 0, 2, rfl, Rval.zero20, .inr (.inr ⟨h0, h1, ?_, rfl, rfl⟩), ?_⟩
    · rw [HBody.out]; exact fun h => h.1 HTnil.out
    · exact hW
  · have hTz0 : ((T.size : Int) == 0) = false := by rw [beq_eq_false_iff_ne]; omega
    have HTne := Lib.hid (show bs T ≠ [] from fun h => hTz (by rw [← bs_length, h]; rfl))
    obtain ⟨i0, hii, hz0, hz1, hz2⟩ := info_parts Try.info3
    go_enter Try.func63, Try.ntmps63
    go_wp2_with fail
    go_loopw [7, 8] (fun dv iv wr => ∃ (i : Nat) (ds : List Int), iv = .int .i64 i ∧ i ≤ T.size ∧ Ints64 wr (w.heap.size + 1) dv ds ∧ Hid (RRead R (bs T) i ds) ∧ Below (w.heap.size + 1) (w.alloc (.cells #[.bool false, .slice none 0 0] 31)) wr) (fun _ iv _ => T.size - (intOf iv).toNat)
    case atStart => exact ⟨0, [], rfl, Nat.zero_le _, World.ownsRow_nil _ _ _ _, Lib.hid ⟨Nat.zero_le _, fun c h => by simp at h, fun d h => by simp at h, by simp [valR, horner], Nat.le_refl _⟩, Below.refl _ _⟩
    case round =>
      obtain ⟨i, ds, rfl, hi, hown, HD, hb⟩ := hrel
      have HO := Lib.hid hown
      obtain ⟨A, cp, rfl, hrow⟩ := Row.of_ownsRow HO.out
      obtain ⟨n, hn⟩ : ∃ n, ds.length = n := ⟨_, rfl⟩
      have HROW := Lib.hid hrow
      have hni : n ≤ i := by rw [← hn]; exact HD.out.2.2.2.2
      have HB := Lib.hid hb
      have HNN := Lib.hid hn
      have hbs : w.heap.size + 1 ≤ wr.heap.size := by have := hb.size; simpa using this
      clear hown hrow hb
      rw [hn]
      by_cases hlt : i < T.size
      · have hbj := bs_byte T i hlt
        obtain ⟨c, hc⟩ : ∃ c, ((T[i].toNat : Int)) = c := ⟨_, rfl⟩
        have HC := Lib.hid (show (bs T).getD i 0 = c by rw [bs_get T i hlt, hc])
        rw [hc] at hbj
        have HIL := Lib.hid (show i < (bs T).length by rw [bs_length]; exact hlt)
        clear hn
        go_wp2_with fail
        refine (Digit_ref c _ hbj.1 hbj.2).mono ?_
        rintro e wd ⟨rfl, rfl⟩
        obtain ⟨d, hd⟩ : ∃ d, digVal 36 c = d := ⟨_, rfl⟩
        have hd0 : 0 ≤ d := by rw [← hd]; exact digVal_nonneg (by decide)
        have HDV := Lib.hid hd
        have HSAME := Lib.hid (digVal_same (c := c) h1)
        rw [hd]
        clear hd
        by_cases hdR : d < R
        · have HD99 := Lib.hid (show digVal 99 c = d by rw [← HSAME.out.2 (HSAME.out.1.1 (by rw [HDV.out]; exact hdR)), HDV.out])
          have HLT := Lib.hid (show digVal 99 c < R by rw [HD99.out]; exact hdR)
          go_wp2_with fail
          obtain ⟨wo, rfl⟩ : ∃ wo : World, wo = wr := ⟨_, rfl⟩
          go_loopw [9, 10] (fun cv kv wx => ∃ (k : Nat) (cs : List Int) (cc : Int), cv = .int .i64 cc ∧ kv = .int .i64 k ∧ k ≤ n ∧ Ints64 wx (w.heap.size + 1) (.slice A n cp) cs ∧ Hid (TimesRel R d ds cs k cc) ∧ Below (w.heap.size + 1) (w.alloc (.cells #[.bool false, .slice none 0 0] 31)) wx) (fun _ kv _ => n - (intOf kv).toNat)
          case atStart => exact ⟨0, ds, d, rfl, rfl, Nat.zero_le _, by have := HO.out; rw [HNN.out] at this; exact this, Lib.hid (TimesRel.start HD.out.2.2.1 hd0 hdR), HB.out⟩
          case round =>
            obtain ⟨k, cs, cc, rfl, rfl, hkn, hown, HT, hb⟩ := hrel
            have HX := Lib.hid hown
            have HBX := Lib.hid hb
            have hbx : w.heap.size + 1 ≤ wr.heap.size := by have := hb.size; simpa using this
            clear hown hb
            have hcl : cs.length = n := by rw [HT.out.1, HNN.out]
            have HCL := Lib.hid hcl
            clear hcl
            have hc0 := HT.out.2.2.2.1
            have hc1 := HT.out.2.2.2.2.1
            by_cases hk2 : k < n
            · obtain ⟨g, rfl, hg, hcell, hfr, hset⟩ := HX.out.at HCL.out hk2
              obtain ⟨x, hx⟩ : ∃ x, cs.getD k 0 = x := ⟨_, rfl⟩
              rw [hx] at hcell
              obtain ⟨x0, x1, p0, p1, hstep⟩ := HT.out.step h0 (by rw [HNN.out]; exact hk2) hx
              have HST := Lib.hid hstep
              have hown' := hset ((x * R + cc) % 65536)
              have HOW := Lib.hid hown'
              have HBN := Lib.hid (HBX.out.setCell (p := ⟨g, k, none⟩) hg (.int .i64 ((x * R + cc) % 65536)))
              clear hx hset hstep hown'
              have q1 : IntKind.i64.wrap (x * R) = x * R := by rw [IntKind.wrap_i64]; omega
              have q2 : IntKind.i64.wrap (x * R + cc) = x * R + cc := by rw [IntKind.wrap_i64]; omega
              have q3 : (x * R + cc).tmod 65536 = (x * R + cc) % 65536 := Int.tmod_eq_emod_of_nonneg (by omega)
              have q4 : (x * R + cc).tdiv 65536 = (x * R + cc) / 65536 := Int.tdiv_eq_ediv_of_nonneg (by omega)
              have q5 : IntKind.i64.wrap ((x * R + cc) % 65536) = (x * R + cc) % 65536 := by rw [IntKind.wrap_i64]; omega
              have q6 : IntKind.i64.wrap ((x * R + cc) / 65536) = (x * R + cc) / 65536 := by rw [IntKind.wrap_i64]; omega
              go_wp2_with fail
              go_roundw
              case rel => exact ⟨k + 1, _, _, rfl, by go_num, hk2, HOW.out, HST, HBN.out⟩
              case measure => simp [intOf]; omega
            · obtain rfl : k = n := by omega
              by_cases hcz : 0 < cc
              · have HX2 : Hid (wr.ownsRow (w.heap.size + 1) 3 1 (.slice A k cp) k (cs.map (Value.int .i64))) := Lib.hid (by have h := HX.out; unfold Ints64 at h; rw [HCL.out] at h; exact h)
                go_wp2_with (at_builtin; refine wpList_append_own _ rfl (.tmp 87) (.tmp 89) _ rfl (w.heap.size + 1) 3 i0 (.int .i64 0) 1 8 Try.underlying29 hii hz0 hz1 hz2 rfl (by decide) _ _ _ rfl (HX2.out.alloc _) ⟨wr.heap.size, 0, none⟩ 1 1 [.int .i64 cc] rfl rfl ?c1 ?c2 ?c3 ?c4 ?c5 ?_)
                case c1 => exact cell_one _ _
                case c2 => exact one_cell _
                case c3 => unfold maxLen; omega
                case c4 => omega
                case c5 => simp; omega
                intro v' w3 hown3 hg3 _
                have hb3 : Below (w.heap.size + 1) (w.alloc (.cells #[.bool false, .slice none 0 0] 31)) w3 :=
                  (HBX.out.alloc hbx _).grown hg3 (by simp; omega) (fun g hg => (HX2.out.lt g hg).1)
                have ho3 : Ints64 w3 (w.heap.size + 1) v' (cs ++ [cc]) := by
                  unfold Ints64; rw [List.length_append, List.length_singleton, List.map_append, HCL.out]; exact hown3
                have HO3 := Lib.hid ho3
                have HTF : TimesRel R (digVal 99 c) ds cs ds.length cc := by rw [HD99.out, HNN.out]; exact HT.out
                have HNX := Lib.hid (HD.out.next1 HIL.out HC.out HLT.out h1 HTF)
                clear hown3 hg3 ho3 HTF
                go_wp2
                exact ⟨⟨i + 1, _, by go_num, hlt, HO3.out, HNX, hb3⟩, by simp [intOf]; omega⟩
              · obtain rfl : cc = 0 := by omega
                have HTF : TimesRel R (digVal 99 c) ds cs ds.length 0 := by rw [HD99.out, HNN.out]; exact HT.out
                have HNX := Lib.hid (HD.out.next0 HIL.out HC.out HLT.out HTF)
                clear HTF
                go_wp2
                exact ⟨⟨i + 1, _, by go_num, hlt, HX.out, HNX, HBX.out⟩, by simp [intOf]; omega⟩
        · have hbad := HD.out.bad HIL.out HC.out (fun h => hdR (by have := HSAME.out.1.2 h; rw [HDV.out] at this; exact this))
          have HBAD := Lib.hid hbad
          obtain ⟨e1, e2, f1, f2⟩ := room31 HB.out
          clear hbad
          go_wp2
          refine bodyPost_ret (v := .tuple #[.agg #[.bool false, .slice none 0 0], .int .i64 2]) (by simp [results, Try.results63, go_sem, e1, e2]) rfl ⟨_, _, _, _, 0, 2, rfl, Rval.zero20, .inr (.inr ⟨h0, h1, ?_, rfl, rfl⟩), ?_⟩
          · rw [HBody.out]; exact fun h => HBAD.out h.2
          · exact ((hW.trans (HB.out.mono (by omega))).setCell (Nat.le_refl _) _).setCell (Nat.le_refl _) _
      · obtain rfl : i = T.size := by omega
        have hall := HD.out
        have HOK := Lib.hid (show AllOk R (bs T) ∧ valR 65536 ds = horner R 0 (bs T) by
          refine ⟨?_, ?_⟩
          · have := hall.2.1; rw [List.take_of_length_le (by rw [bs_length]; exact Nat.le_refl _)] at this; exact this
          · have := hall.2.2.2.1; rw [List.take_of_length_le (by rw [bs_length]; exact Nat.le_refl _)] at this; exact this)
        have hrow := HROW.out
        rw [hn] at hrow
        have HROW2 := Lib.hid hrow
        clear hall hrow
        go_wp2_with fail
        refine (rmade_any true A n cp ds _ HROW2.out (by omega) HD.out.2.2.1).mono ?_
        rintro e w4 ⟨ng, A2, n2, c2, rfl, hr, hb4⟩
        have hB := HB.out.trans (hb4.mono (B' := w.heap.size + 1) hbs)
        obtain ⟨e1, e2, f1, f2⟩ := room31 hB
        have HR := Lib.hid hr
        clear hr
        go_wp2
        refine bodyPost_ret (v := .tuple #[.agg #[.bool ng, .slice A2 n2 c2], .int .i64 0]) (by simp [results, Try.results63, go_sem, e1, e2]) rfl ⟨_, _, _, _, withSign true (valR 65536 ds), 0, rfl, ?_, .inr (.inl ⟨h0, h1, ?_, ?_, ?_, rfl⟩), ?_⟩
        · obtain ⟨neg', A', n', c', ds', ev, r1, r2, r3, r4, r5, r6⟩ := HR.out.stored e1 e2 (.bool ng) (.slice A2 n2 c2)
          exact ⟨neg', A', n', c', ds', ev, r1, r2, r3, r4, r5, by omega⟩
        · rw [HBody.out]; exact HTne.out
        · rw [HBody.out]; exact HOK.out.1
        · rw [HBody.out, HHd.out, HOK.out.2]
        · exact ((hW.trans (hB.mono (by omega))).setCell (Nat.le_refl _) _).setCell (Nat.le_refl _) _

set_option maxRecDepth 100000 in
set_option maxHeartbeats 4000000 in
theorem rParse_pos (S : ByteArray) (R : Int) (w : World) (hS2 : S.size ≤ 20000) (hR : ¬ (R < 2 ∨ 36 < R)) (hS : S.size ≠ 0) (hh : (bs S).headD 0 = 43) : Calls Try.prog 63 #[.string S, .int .i64 R] w (RParsed w R S) := by
  have h0 : 2 ≤ R := by omega
  have h1 : R ≤ 36 := by omega
  clear hR
  have hW := below_alloc w (.cells #[.bool false, .slice none 0 0] 31)
  obtain ⟨e1, e2, f1, f2⟩ := room31 (Below.refl (w.heap.size + 1) (w.alloc (.cells #[.bool false, .slice none 0 0] 31)))
  have hle : ¬ (20000 : Int) < (S.size : Int) := by omega
  have hlt : 0 < S.size := by omega
  have hb0 := bs_byte S 0 hlt
  obtain ⟨c0, hc⟩ : ∃ c0, (S[0].toNat : Int) = c0 := ⟨_, rfl⟩
  have hhd := bs_head S hlt
  rw [hc] at hhd hb0
  have hsz : (1 : Int) ≤ (S.size : Int) := by omega
  have hsp : (0 : Int) < (S.size : Int) := by omega
  obtain ⟨T, hT⟩ : ∃ T, S.extract 1 S.size = T := ⟨_, rfl⟩
  have hTb : bs T = (bs S).tail := by rw [← hT, bs_from S 1 (by omega)]; simp
  have hTS : T.size ≤ 20000 := by rw [← bs_length, hTb, List.length_tail, bs_length]; omega
  have h43 : c0 = 43 := hhd.symm.trans hh
  have HBody := Lib.hid (show bodyOf (bs S) = bs T by unfold bodyOf; rw [hhd, hTb, if_pos (.inr h43)])
  have HHd := Lib.hid (show decide ((bs S).headD 0 = 45) = false by rw [hhd, h43]; decide)
  rw [h43] at hc
  clear hTb hhd h43 hb0 hh
  by_cases hTz : T.size = 0
  · have hTz0 : ((T.size : Int) == 0) = true := by simp [hTz]
    have HTnil := Lib.hid (show bs T = [] from List.eq_nil_of_length_eq_zero (by rw [bs_length]; exact hTz))
    go_enter Try.func63, Try.ntmps63
    go_wp2
    refine bodyPost_ret (v := .tuple #[.agg #[.bool false, .slice none 0 0], .int .i64 2]) (by simp [results, Try.results63, go_sem, e1, e2]) rfl ⟨_, _, _, _, 0, 2, rfl, Rval.zero20, .inr (.inr ⟨h0, h1, ?_, rfl, rfl⟩), ?_⟩
    · rw [HBody.out]; exact fun h => h.1 HTnil.out
    · exact hW
  · have hTz0 : ((T.size : Int) == 0) = false := by rw [beq_eq_false_iff_ne]; omega
    have HTne := Lib.hid (show bs T ≠ [] from fun h => hTz (by rw [← bs_length, h]; rfl))
    obtain ⟨i0, hii, hz0, hz1, hz2⟩ := info_parts Try.info3
    go_enter Try.func63, Try.ntmps63
    go_wp2_with fail
    go_loopw [7, 8] (fun dv iv wr => ∃ (i : Nat) (ds : List Int), iv = .int .i64 i ∧ i ≤ T.size ∧ Ints64 wr (w.heap.size + 1) dv ds ∧ Hid (RRead R (bs T) i ds) ∧ Below (w.heap.size + 1) (w.alloc (.cells #[.bool false, .slice none 0 0] 31)) wr) (fun _ iv _ => T.size - (intOf iv).toNat)
    case atStart => exact ⟨0, [], rfl, Nat.zero_le _, World.ownsRow_nil _ _ _ _, Lib.hid ⟨Nat.zero_le _, fun c h => by simp at h, fun d h => by simp at h, by simp [valR, horner], Nat.le_refl _⟩, Below.refl _ _⟩
    case round =>
      obtain ⟨i, ds, rfl, hi, hown, HD, hb⟩ := hrel
      have HO := Lib.hid hown
      obtain ⟨A, cp, rfl, hrow⟩ := Row.of_ownsRow HO.out
      obtain ⟨n, hn⟩ : ∃ n, ds.length = n := ⟨_, rfl⟩
      have HROW := Lib.hid hrow
      have hni : n ≤ i := by rw [← hn]; exact HD.out.2.2.2.2
      have HB := Lib.hid hb
      have HNN := Lib.hid hn
      have hbs : w.heap.size + 1 ≤ wr.heap.size := by have := hb.size; simpa using this
      clear hown hrow hb
      rw [hn]
      by_cases hlt : i < T.size
      · have hbj := bs_byte T i hlt
        obtain ⟨c, hc⟩ : ∃ c, ((T[i].toNat : Int)) = c := ⟨_, rfl⟩
        have HC := Lib.hid (show (bs T).getD i 0 = c by rw [bs_get T i hlt, hc])
        rw [hc] at hbj
        have HIL := Lib.hid (show i < (bs T).length by rw [bs_length]; exact hlt)
        clear hn
        go_wp2_with fail
        refine (Digit_ref c _ hbj.1 hbj.2).mono ?_
        rintro e wd ⟨rfl, rfl⟩
        obtain ⟨d, hd⟩ : ∃ d, digVal 36 c = d := ⟨_, rfl⟩
        have hd0 : 0 ≤ d := by rw [← hd]; exact digVal_nonneg (by decide)
        have HDV := Lib.hid hd
        have HSAME := Lib.hid (digVal_same (c := c) h1)
        rw [hd]
        clear hd
        by_cases hdR : d < R
        · have HD99 := Lib.hid (show digVal 99 c = d by rw [← HSAME.out.2 (HSAME.out.1.1 (by rw [HDV.out]; exact hdR)), HDV.out])
          have HLT := Lib.hid (show digVal 99 c < R by rw [HD99.out]; exact hdR)
          go_wp2_with fail
          obtain ⟨wo, rfl⟩ : ∃ wo : World, wo = wr := ⟨_, rfl⟩
          go_loopw [9, 10] (fun cv kv wx => ∃ (k : Nat) (cs : List Int) (cc : Int), cv = .int .i64 cc ∧ kv = .int .i64 k ∧ k ≤ n ∧ Ints64 wx (w.heap.size + 1) (.slice A n cp) cs ∧ Hid (TimesRel R d ds cs k cc) ∧ Below (w.heap.size + 1) (w.alloc (.cells #[.bool false, .slice none 0 0] 31)) wx) (fun _ kv _ => n - (intOf kv).toNat)
          case atStart => exact ⟨0, ds, d, rfl, rfl, Nat.zero_le _, by have := HO.out; rw [HNN.out] at this; exact this, Lib.hid (TimesRel.start HD.out.2.2.1 hd0 hdR), HB.out⟩
          case round =>
            obtain ⟨k, cs, cc, rfl, rfl, hkn, hown, HT, hb⟩ := hrel
            have HX := Lib.hid hown
            have HBX := Lib.hid hb
            have hbx : w.heap.size + 1 ≤ wr.heap.size := by have := hb.size; simpa using this
            clear hown hb
            have hcl : cs.length = n := by rw [HT.out.1, HNN.out]
            have HCL := Lib.hid hcl
            clear hcl
            have hc0 := HT.out.2.2.2.1
            have hc1 := HT.out.2.2.2.2.1
            by_cases hk2 : k < n
            · obtain ⟨g, rfl, hg, hcell, hfr, hset⟩ := HX.out.at HCL.out hk2
              obtain ⟨x, hx⟩ : ∃ x, cs.getD k 0 = x := ⟨_, rfl⟩
              rw [hx] at hcell
              obtain ⟨x0, x1, p0, p1, hstep⟩ := HT.out.step h0 (by rw [HNN.out]; exact hk2) hx
              have HST := Lib.hid hstep
              have hown' := hset ((x * R + cc) % 65536)
              have HOW := Lib.hid hown'
              have HBN := Lib.hid (HBX.out.setCell (p := ⟨g, k, none⟩) hg (.int .i64 ((x * R + cc) % 65536)))
              clear hx hset hstep hown'
              have q1 : IntKind.i64.wrap (x * R) = x * R := by rw [IntKind.wrap_i64]; omega
              have q2 : IntKind.i64.wrap (x * R + cc) = x * R + cc := by rw [IntKind.wrap_i64]; omega
              have q3 : (x * R + cc).tmod 65536 = (x * R + cc) % 65536 := Int.tmod_eq_emod_of_nonneg (by omega)
              have q4 : (x * R + cc).tdiv 65536 = (x * R + cc) / 65536 := Int.tdiv_eq_ediv_of_nonneg (by omega)
              have q5 : IntKind.i64.wrap ((x * R + cc) % 65536) = (x * R + cc) % 65536 := by rw [IntKind.wrap_i64]; omega
              have q6 : IntKind.i64.wrap ((x * R + cc) / 65536) = (x * R + cc) / 65536 := by rw [IntKind.wrap_i64]; omega
              go_wp2_with fail
              go_roundw
              case rel => exact ⟨k + 1, _, _, rfl, by go_num, hk2, HOW.out, HST, HBN.out⟩
              case measure => simp [intOf]; omega
            · obtain rfl : k = n := by omega
              by_cases hcz : 0 < cc
              · have HX2 : Hid (wr.ownsRow (w.heap.size + 1) 3 1 (.slice A k cp) k (cs.map (Value.int .i64))) := Lib.hid (by have h := HX.out; unfold Ints64 at h; rw [HCL.out] at h; exact h)
                go_wp2_with (at_builtin; refine wpList_append_own _ rfl (.tmp 87) (.tmp 89) _ rfl (w.heap.size + 1) 3 i0 (.int .i64 0) 1 8 Try.underlying29 hii hz0 hz1 hz2 rfl (by decide) _ _ _ rfl (HX2.out.alloc _) ⟨wr.heap.size, 0, none⟩ 1 1 [.int .i64 cc] rfl rfl ?c1 ?c2 ?c3 ?c4 ?c5 ?_)
                case c1 => exact cell_one _ _
                case c2 => exact one_cell _
                case c3 => unfold maxLen; omega
                case c4 => omega
                case c5 => simp; omega
                intro v' w3 hown3 hg3 _
                have hb3 : Below (w.heap.size + 1) (w.alloc (.cells #[.bool false, .slice none 0 0] 31)) w3 :=
                  (HBX.out.alloc hbx _).grown hg3 (by simp; omega) (fun g hg => (HX2.out.lt g hg).1)
                have ho3 : Ints64 w3 (w.heap.size + 1) v' (cs ++ [cc]) := by
                  unfold Ints64; rw [List.length_append, List.length_singleton, List.map_append, HCL.out]; exact hown3
                have HO3 := Lib.hid ho3
                have HTF : TimesRel R (digVal 99 c) ds cs ds.length cc := by rw [HD99.out, HNN.out]; exact HT.out
                have HNX := Lib.hid (HD.out.next1 HIL.out HC.out HLT.out h1 HTF)
                clear hown3 hg3 ho3 HTF
                go_wp2
                exact ⟨⟨i + 1, _, by go_num, hlt, HO3.out, HNX, hb3⟩, by simp [intOf]; omega⟩
              · obtain rfl : cc = 0 := by omega
                have HTF : TimesRel R (digVal 99 c) ds cs ds.length 0 := by rw [HD99.out, HNN.out]; exact HT.out
                have HNX := Lib.hid (HD.out.next0 HIL.out HC.out HLT.out HTF)
                clear HTF
                go_wp2
                exact ⟨⟨i + 1, _, by go_num, hlt, HX.out, HNX, HBX.out⟩, by simp [intOf]; omega⟩
        · have hbad := HD.out.bad HIL.out HC.out (fun h => hdR (by have := HSAME.out.1.2 h; rw [HDV.out] at this; exact this))
          have HBAD := Lib.hid hbad
          obtain ⟨e1, e2, f1, f2⟩ := room31 HB.out
          clear hbad
          go_wp2
          refine bodyPost_ret (v := .tuple #[.agg #[.bool false, .slice none 0 0], .int .i64 2]) (by simp [results, Try.results63, go_sem, e1, e2]) rfl ⟨_, _, _, _, 0, 2, rfl, Rval.zero20, .inr (.inr ⟨h0, h1, ?_, rfl, rfl⟩), ?_⟩
          · rw [HBody.out]; exact fun h => HBAD.out h.2
          · exact ((hW.trans (HB.out.mono (by omega))).setCell (Nat.le_refl _) _).setCell (Nat.le_refl _) _
      · obtain rfl : i = T.size := by omega
        have hall := HD.out
        have HOK := Lib.hid (show AllOk R (bs T) ∧ valR 65536 ds = horner R 0 (bs T) by
          refine ⟨?_, ?_⟩
          · have := hall.2.1; rw [List.take_of_length_le (by rw [bs_length]; exact Nat.le_refl _)] at this; exact this
          · have := hall.2.2.2.1; rw [List.take_of_length_le (by rw [bs_length]; exact Nat.le_refl _)] at this; exact this)
        have hrow := HROW.out
        rw [hn] at hrow
        have HROW2 := Lib.hid hrow
        clear hall hrow
        go_wp2_with fail
        refine (rmade_any false A n cp ds _ HROW2.out (by omega) HD.out.2.2.1).mono ?_
        rintro e w4 ⟨ng, A2, n2, c2, rfl, hr, hb4⟩
        have hB := HB.out.trans (hb4.mono (B' := w.heap.size + 1) hbs)
        obtain ⟨e1, e2, f1, f2⟩ := room31 hB
        have HR := Lib.hid hr
        clear hr
        go_wp2
        refine bodyPost_ret (v := .tuple #[.agg #[.bool ng, .slice A2 n2 c2], .int .i64 0]) (by simp [results, Try.results63, go_sem, e1, e2]) rfl ⟨_, _, _, _, withSign false (valR 65536 ds), 0, rfl, ?_, .inr (.inl ⟨h0, h1, ?_, ?_, ?_, rfl⟩), ?_⟩
        · obtain ⟨neg', A', n', c', ds', ev, r1, r2, r3, r4, r5, r6⟩ := HR.out.stored e1 e2 (.bool ng) (.slice A2 n2 c2)
          exact ⟨neg', A', n', c', ds', ev, r1, r2, r3, r4, r5, by omega⟩
        · rw [HBody.out]; exact HTne.out
        · rw [HBody.out]; exact HOK.out.1
        · rw [HBody.out, HHd.out, HOK.out.2]
        · exact ((hW.trans (hB.mono (by omega))).setCell (Nat.le_refl _) _).setCell (Nat.le_refl _) _

set_option maxRecDepth 100000 in
set_option maxHeartbeats 4000000 in
theorem rParse_none (S : ByteArray) (R : Int) (w : World) (hS2 : S.size ≤ 20000) (hR : ¬ (R < 2 ∨ 36 < R)) (hS : S.size ≠ 0) (hh : (bs S).headD 0 ≠ 45) (hg : (bs S).headD 0 ≠ 43) : Calls Try.prog 63 #[.string S, .int .i64 R] w (RParsed w R S) := by
  have h0 : 2 ≤ R := by omega
  have h1 : R ≤ 36 := by omega
  clear hR
  have hW := below_alloc w (.cells #[.bool false, .slice none 0 0] 31)
  obtain ⟨e1, e2, f1, f2⟩ := room31 (Below.refl (w.heap.size + 1) (w.alloc (.cells #[.bool false, .slice none 0 0] 31)))
  have hle : ¬ (20000 : Int) < (S.size : Int) := by omega
  have hlt : 0 < S.size := by omega
  have hb0 := bs_byte S 0 hlt
  obtain ⟨c0, hc⟩ : ∃ c0, (S[0].toNat : Int) = c0 := ⟨_, rfl⟩
  have hhd := bs_head S hlt
  rw [hc] at hhd hb0
  have hsz : (1 : Int) ≤ (S.size : Int) := by omega
  have hsp : (0 : Int) < (S.size : Int) := by omega
  have HBody := Lib.hid (show bodyOf (bs S) = bs S by unfold bodyOf; rw [if_neg (by omega)])
  have HHd := Lib.hid (show decide ((bs S).headD 0 = 45) = false by simpa using hh)
  rw [hhd] at hh hg
  have q1 : (c0 == 45) = false := by simpa using hh
  have q2 : (c0 == 43) = false := by simpa using hg
  have hTS := hS2
  clear hhd
  by_cases hTz : S.size = 0
  · exact absurd hTz hS
  · have hTz0 : ((S.size : Int) == 0) = false := by rw [beq_eq_false_iff_ne]; omega
    have HTne := Lib.hid (show bs S ≠ [] from fun h => hTz (by rw [← bs_length, h]; rfl))
    obtain ⟨i0, hii, hz0, hz1, hz2⟩ := info_parts Try.info3
    go_enter Try.func63, Try.ntmps63
    go_wp2_with fail
    go_loopw [7, 8] (fun dv iv wr => ∃ (i : Nat) (ds : List Int), iv = .int .i64 i ∧ i ≤ S.size ∧ Ints64 wr (w.heap.size + 1) dv ds ∧ Hid (RRead R (bs S) i ds) ∧ Below (w.heap.size + 1) (w.alloc (.cells #[.bool false, .slice none 0 0] 31)) wr) (fun _ iv _ => S.size - (intOf iv).toNat)
    case atStart => exact ⟨0, [], rfl, Nat.zero_le _, World.ownsRow_nil _ _ _ _, Lib.hid ⟨Nat.zero_le _, fun c h => by simp at h, fun d h => by simp at h, by simp [valR, horner], Nat.le_refl _⟩, Below.refl _ _⟩
    case round =>
      obtain ⟨i, ds, rfl, hi, hown, HD, hb⟩ := hrel
      have HO := Lib.hid hown
      obtain ⟨A, cp, rfl, hrow⟩ := Row.of_ownsRow HO.out
      obtain ⟨n, hn⟩ : ∃ n, ds.length = n := ⟨_, rfl⟩
      have HROW := Lib.hid hrow
      have hni : n ≤ i := by rw [← hn]; exact HD.out.2.2.2.2
      have HB := Lib.hid hb
      have HNN := Lib.hid hn
      have hbs : w.heap.size + 1 ≤ wr.heap.size := by have := hb.size; simpa using this
      clear hown hrow hb
      rw [hn]
      by_cases hlt : i < S.size
      · have hbj := bs_byte S i hlt
        obtain ⟨c, hc⟩ : ∃ c, ((S[i].toNat : Int)) = c := ⟨_, rfl⟩
        have HC := Lib.hid (show (bs S).getD i 0 = c by rw [bs_get S i hlt, hc])
        rw [hc] at hbj
        have HIL := Lib.hid (show i < (bs S).length by rw [bs_length]; exact hlt)
        clear hn
        go_wp2_with fail
        refine (Digit_ref c _ hbj.1 hbj.2).mono ?_
        rintro e wd ⟨rfl, rfl⟩
        obtain ⟨d, hd⟩ : ∃ d, digVal 36 c = d := ⟨_, rfl⟩
        have hd0 : 0 ≤ d := by rw [← hd]; exact digVal_nonneg (by decide)
        have HDV := Lib.hid hd
        have HSAME := Lib.hid (digVal_same (c := c) h1)
        rw [hd]
        clear hd
        by_cases hdR : d < R
        · have HD99 := Lib.hid (show digVal 99 c = d by rw [← HSAME.out.2 (HSAME.out.1.1 (by rw [HDV.out]; exact hdR)), HDV.out])
          have HLT := Lib.hid (show digVal 99 c < R by rw [HD99.out]; exact hdR)
          go_wp2_with fail
          obtain ⟨wo, rfl⟩ : ∃ wo : World, wo = wr := ⟨_, rfl⟩
          go_loopw [9, 10] (fun cv kv wx => ∃ (k : Nat) (cs : List Int) (cc : Int), cv = .int .i64 cc ∧ kv = .int .i64 k ∧ k ≤ n ∧ Ints64 wx (w.heap.size + 1) (.slice A n cp) cs ∧ Hid (TimesRel R d ds cs k cc) ∧ Below (w.heap.size + 1) (w.alloc (.cells #[.bool false, .slice none 0 0] 31)) wx) (fun _ kv _ => n - (intOf kv).toNat)
          case atStart => exact ⟨0, ds, d, rfl, rfl, Nat.zero_le _, by have := HO.out; rw [HNN.out] at this; exact this, Lib.hid (TimesRel.start HD.out.2.2.1 hd0 hdR), HB.out⟩
          case round =>
            obtain ⟨k, cs, cc, rfl, rfl, hkn, hown, HT, hb⟩ := hrel
            have HX := Lib.hid hown
            have HBX := Lib.hid hb
            have hbx : w.heap.size + 1 ≤ wr.heap.size := by have := hb.size; simpa using this
            clear hown hb
            have hcl : cs.length = n := by rw [HT.out.1, HNN.out]
            have HCL := Lib.hid hcl
            clear hcl
            have hc0 := HT.out.2.2.2.1
            have hc1 := HT.out.2.2.2.2.1
            by_cases hk2 : k < n
            · obtain ⟨g, rfl, hg, hcell, hfr, hset⟩ := HX.out.at HCL.out hk2
              obtain ⟨x, hx⟩ : ∃ x, cs.getD k 0 = x := ⟨_, rfl⟩
              rw [hx] at hcell
              obtain ⟨x0, x1, p0, p1, hstep⟩ := HT.out.step h0 (by rw [HNN.out]; exact hk2) hx
              have HST := Lib.hid hstep
              have hown' := hset ((x * R + cc) % 65536)
              have HOW := Lib.hid hown'
              have HBN := Lib.hid (HBX.out.setCell (p := ⟨g, k, none⟩) hg (.int .i64 ((x * R + cc) % 65536)))
              clear hx hset hstep hown'
              have q1 : IntKind.i64.wrap (x * R) = x * R := by rw [IntKind.wrap_i64]; omega
              have q2 : IntKind.i64.wrap (x * R + cc) = x * R + cc := by rw [IntKind.wrap_i64]; omega
              have q3 : (x * R + cc).tmod 65536 = (x * R + cc) % 65536 := Int.tmod_eq_emod_of_nonneg (by omega)
              have q4 : (x * R + cc).tdiv 65536 = (x * R + cc) / 65536 := Int.tdiv_eq_ediv_of_nonneg (by omega)
              have q5 : IntKind.i64.wrap ((x * R + cc) % 65536) = (x * R + cc) % 65536 := by rw [IntKind.wrap_i64]; omega
              have q6 : IntKind.i64.wrap ((x * R + cc) / 65536) = (x * R + cc) / 65536 := by rw [IntKind.wrap_i64]; omega
              go_wp2_with fail
              go_roundw
              case rel => exact ⟨k + 1, _, _, rfl, by go_num, hk2, HOW.out, HST, HBN.out⟩
              case measure => simp [intOf]; omega
            · obtain rfl : k = n := by omega
              by_cases hcz : 0 < cc
              · have HX2 : Hid (wr.ownsRow (w.heap.size + 1) 3 1 (.slice A k cp) k (cs.map (Value.int .i64))) := Lib.hid (by have h := HX.out; unfold Ints64 at h; rw [HCL.out] at h; exact h)
                go_wp2_with (at_builtin; refine wpList_append_own _ rfl (.tmp 87) (.tmp 89) _ rfl (w.heap.size + 1) 3 i0 (.int .i64 0) 1 8 Try.underlying29 hii hz0 hz1 hz2 rfl (by decide) _ _ _ rfl (HX2.out.alloc _) ⟨wr.heap.size, 0, none⟩ 1 1 [.int .i64 cc] rfl rfl ?c1 ?c2 ?c3 ?c4 ?c5 ?_)
                case c1 => exact cell_one _ _
                case c2 => exact one_cell _
                case c3 => unfold maxLen; omega
                case c4 => omega
                case c5 => simp; omega
                intro v' w3 hown3 hg3 _
                have hb3 : Below (w.heap.size + 1) (w.alloc (.cells #[.bool false, .slice none 0 0] 31)) w3 :=
                  (HBX.out.alloc hbx _).grown hg3 (by simp; omega) (fun g hg => (HX2.out.lt g hg).1)
                have ho3 : Ints64 w3 (w.heap.size + 1) v' (cs ++ [cc]) := by
                  unfold Ints64; rw [List.length_append, List.length_singleton, List.map_append, HCL.out]; exact hown3
                have HO3 := Lib.hid ho3
                have HTF : TimesRel R (digVal 99 c) ds cs ds.length cc := by rw [HD99.out, HNN.out]; exact HT.out
                have HNX := Lib.hid (HD.out.next1 HIL.out HC.out HLT.out h1 HTF)
                clear hown3 hg3 ho3 HTF
                go_wp2
                exact ⟨⟨i + 1, _, by go_num, hlt, HO3.out, HNX, hb3⟩, by simp [intOf]; omega⟩
              · obtain rfl : cc = 0 := by omega
                have HTF : TimesRel R (digVal 99 c) ds cs ds.length 0 := by rw [HD99.out, HNN.out]; exact HT.out
                have HNX := Lib.hid (HD.out.next0 HIL.out HC.out HLT.out HTF)
                clear HTF
                go_wp2
                exact ⟨⟨i + 1, _, by go_num, hlt, HX.out, HNX, HBX.out⟩, by simp [intOf]; omega⟩
        · have hbad := HD.out.bad HIL.out HC.out (fun h => hdR (by have := HSAME.out.1.2 h; rw [HDV.out] at this; exact this))
          have HBAD := Lib.hid hbad
          obtain ⟨e1, e2, f1, f2⟩ := room31 HB.out
          clear hbad
          go_wp2
          refine bodyPost_ret (v := .tuple #[.agg #[.bool false, .slice none 0 0], .int .i64 2]) (by simp [results, Try.results63, go_sem, e1, e2]) rfl ⟨_, _, _, _, 0, 2, rfl, Rval.zero20, .inr (.inr ⟨h0, h1, ?_, rfl, rfl⟩), ?_⟩
          · rw [HBody.out]; exact fun h => HBAD.out h.2
          · exact ((hW.trans (HB.out.mono (by omega))).setCell (Nat.le_refl _) _).setCell (Nat.le_refl _) _
      · obtain rfl : i = S.size := by omega
        have hall := HD.out
        have HOK := Lib.hid (show AllOk R (bs S) ∧ valR 65536 ds = horner R 0 (bs S) by
          refine ⟨?_, ?_⟩
          · have := hall.2.1; rw [List.take_of_length_le (by rw [bs_length]; exact Nat.le_refl _)] at this; exact this
          · have := hall.2.2.2.1; rw [List.take_of_length_le (by rw [bs_length]; exact Nat.le_refl _)] at this; exact this)
        have hrow := HROW.out
        rw [hn] at hrow
        have HROW2 := Lib.hid hrow
        clear hall hrow
        go_wp2_with fail
        refine (rmade_any false A n cp ds _ HROW2.out (by omega) HD.out.2.2.1).mono ?_
        rintro e w4 ⟨ng, A2, n2, c2, rfl, hr, hb4⟩
        have hB := HB.out.trans (hb4.mono (B' := w.heap.size + 1) hbs)
        obtain ⟨e1, e2, f1, f2⟩ := room31 hB
        have HR := Lib.hid hr
        clear hr
        go_wp2
        refine bodyPost_ret (v := .tuple #[.agg #[.bool ng, .slice A2 n2 c2], .int .i64 0]) (by simp [results, Try.results63, go_sem, e1, e2]) rfl ⟨_, _, _, _, withSign false (valR 65536 ds), 0, rfl, ?_, .inr (.inl ⟨h0, h1, ?_, ?_, ?_, rfl⟩), ?_⟩
        · obtain ⟨neg', A', n', c', ds', ev, r1, r2, r3, r4, r5, r6⟩ := HR.out.stored e1 e2 (.bool ng) (.slice A2 n2 c2)
          exact ⟨neg', A', n', c', ds', ev, r1, r2, r3, r4, r5, by omega⟩
        · rw [HBody.out]; exact HTne.out
        · rw [HBody.out]; exact HOK.out.1
        · rw [HBody.out, HHd.out, HOK.out.2]
        · exact ((hW.trans (hB.mono (by omega))).setCell (Nat.le_refl _) _).setCell (Nat.le_refl _) _

theorem rParse_any (S : ByteArray) (R : Int) (w : World) (hS2 : S.size ≤ 20000) : Calls Try.prog 63 #[.string S, .int .i64 R] w (RParsed w R S) := by
  by_cases hR : R < 2 ∨ 36 < R
  · exact rParse_bad S R w hR
  by_cases hS : S.size = 0
  · exact rParse_empty S R w hR hS
  by_cases hh : (bs S).headD 0 = 45
  · exact rParse_neg S R w hS2 hR hS hh
  by_cases hg : (bs S).headD 0 = 43
  · exact rParse_pos S R w hS2 hR hS hg
  exact rParse_none S R w hS2 hR hS hh hg

end Go.Proofs.Ytoanomgdkkbbmaa
