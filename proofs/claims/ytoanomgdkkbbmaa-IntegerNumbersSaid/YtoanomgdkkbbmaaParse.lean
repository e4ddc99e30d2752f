/- Parse. -/
import Derived.Test.YtoanomgdkkbbmaaFrom
namespace Go.Proofs.Ytoanomgdkkbbmaa
open Go.RowKit LM

/-- The digits of a text behind its sign. -/
def bodyOf (cs : List Int) : List Int := if cs.headD 0 = 45 ∨ cs.headD 0 = 43 then cs.tail else cs

/-- What Parse answers: a number and an error. -/
def ParseRel (R : Int) (cs : List Int) (z err : Int) : Prop :=
  ((R < 2 ∨ 36 < R) ∧ z = 0 ∧ err = 1) ∨
  (2 ≤ R ∧ R ≤ 36 ∧ bodyOf cs ≠ [] ∧ AllOk R (bodyOf cs) ∧ z = withSign (decide (cs.headD 0 = 45)) (horner R 0 (bodyOf cs)) ∧ err = 0) ∨
  (2 ≤ R ∧ R ≤ 36 ∧ ¬ (bodyOf cs ≠ [] ∧ AllOk R (bodyOf cs)) ∧ z = 0 ∧ err = 2)

theorem ParseRel.det {R : Int} {cs : List Int} {z z' r r' : Int} (h : ParseRel R cs z r) (g : ParseRel R cs z' r') : z = z' ∧ r = r' := by
  unfold ParseRel at h g
  rcases h with h | h | h <;> rcases g with g | g | g
  · exact ⟨h.2.1.trans g.2.1.symm, h.2.2.trans g.2.2.symm⟩
  · exfalso; have := h.1; have := g.1; have := g.2.1; omega
  · exfalso; have := h.1; have := g.1; have := g.2.1; omega
  · exfalso; have := g.1; have := h.1; have := h.2.1; omega
  · exact ⟨h.2.2.2.2.1.trans g.2.2.2.2.1.symm, h.2.2.2.2.2.trans g.2.2.2.2.2.symm⟩
  · exact absurd ⟨h.2.2.1, h.2.2.2.1⟩ g.2.2.1
  · exfalso; have := g.1; have := h.1; have := h.2.1; omega
  · exact absurd ⟨g.2.2.1, g.2.2.2.1⟩ h.2.2.1
  · exact ⟨h.2.2.2.1.trans g.2.2.2.1.symm, h.2.2.2.2.trans g.2.2.2.2.symm⟩

/-- The answer of Parse in memory. -/
def Parsed (w : World) (R : Int) (S : ByteArray) (e : Ending) (w' : World) : Prop :=
  ∃ n A l c z err, e = .returned (.tuple #[.agg #[.bool n, .slice A l c], .int .i64 err]) ∧ Ival w' (.agg #[.bool n, .slice A l c]) z 20000 ∧ ParseRel R (bs S) z err ∧ Below w.heap.size w w'

set_option maxHeartbeats 400000 in
theorem fromDigits_empty (S : ByteArray) (R : Int) (w : World) (hS : S.size = 0) :
    Calls Try.prog 111 #[.string S, .int .i64 R] w fun e w' => e = .returned (.tuple #[.slice none 0 0, .bool false]) ∧ w = w' := by
  have hem : S.toList.isEmpty = true := isEmpty_zero hS
  go_enter Try.func111, Try.ntmps111
  go_wp2_with fail
  go_ret2
  first | exact ⟨rfl, rfl⟩ | rfl

/-- What fromDigits answers of any text. -/
def FromAns (w : World) (R : Int) (T : ByteArray) (e : Ending) (w' : World) : Prop :=
  ((∃ v, e = .returned (.tuple #[v, .bool true]) ∧ Num w' v (horner R 0 (bs T)) 20000 ∧ bs T ≠ [] ∧ AllOk R (bs T)) ∨ (e = .returned (.tuple #[.slice none 0 0, .bool false]) ∧ ¬ (bs T ≠ [] ∧ AllOk R (bs T)))) ∧ Below w.heap.size w w'

theorem fromDigits_ans (T : ByteArray) (R : Int) (w : World) (h0 : 2 ≤ R) (h1 : R ≤ 36) (hS2 : T.size ≤ 20000) :
    Calls Try.prog 111 #[.string T, .int .i64 R] w (FromAns w R T) := by
  by_cases hT : T.size = 0
  · refine (fromDigits_empty T R w hT).mono ?_
    rintro e w' ⟨rfl, rfl⟩
    exact ⟨.inr ⟨rfl, fun h => h.1 (List.eq_nil_of_length_eq_zero (by rw [bs_length]; exact hT))⟩, Below.refl _ _⟩
  · refine (fromDigits_any T R w h0 h1 hT hS2).mono ?_
    rintro e w' ⟨h, hb⟩
    refine ⟨?_, hb⟩
    rcases h with ⟨v, he, hn, hok⟩ | ⟨he, hbad⟩
    · refine .inl ⟨v, he, hn.mono hS2, fun h => hT ?_, hok⟩
      rw [← bs_length, h]; rfl
    · exact .inr ⟨he, fun h => hbad h.2⟩

theorem bs_head (S : ByteArray) (h : 0 < S.size) : (bs S).headD 0 = (S[0].toNat : Int) := by
  rw [← bs_get S 0 h]
  cases bs S <;> rfl

theorem Ival.zero20 {w : World} : Ival w (.agg #[.bool false, .slice none 0 0]) 0 20000 :=
  ⟨false, _, 0, rfl, ⟨none, 0, 0, [], rfl, Row.nil_, Dig.nil, .inl rfl, rfl, Nat.zero_le _⟩, Int.le_refl _, rfl, fun h => by cases h⟩

set_option maxRecDepth 100000 in
set_option maxHeartbeats 1000000 in
theorem Parse_bad (S : ByteArray) (R : Int) (w : World) (hR : R < 2 ∨ 36 < R) : Calls Try.prog 62 #[.string S, .int .i64 R] w (Parsed w R S) := by
  have hW := below_alloc w (.cells #[.bool false, .slice none 0 0] 28)
  obtain ⟨e1, e2, f1, f2⟩ := room0 (Below.refl (w.heap.size + 1) (w.alloc (.cells #[.bool false, .slice none 0 0] 28)))
  by_cases hR2 : R < 2
  · go_enter Try.func62, Try.ntmps62
    go_wp2
    refine bodyPost_ret (v := .tuple #[.agg #[.bool false, .slice none 0 0], .int .i64 1]) (by simp [results, Try.results62, go_sem, e1, e2]) rfl ⟨_, _, _, _, 0, 1, rfl, Ival.zero20, .inl ⟨hR, rfl, rfl⟩, ?_⟩
    exact hW
  · have hR3 : 36 < R := by omega
    have HRR := Lib.hid hR
    clear hR
    go_enter Try.func62, Try.ntmps62
    go_wp2
    refine bodyPost_ret (v := .tuple #[.agg #[.bool false, .slice none 0 0], .int .i64 1]) (by simp [results, Try.results62, go_sem, e1, e2]) rfl ⟨_, _, _, _, 0, 1, rfl, Ival.zero20, .inl ⟨HRR.out, rfl, rfl⟩, ?_⟩
    exact hW

set_option maxRecDepth 100000 in
set_option maxHeartbeats 2000000 in
theorem Parse_any (S : ByteArray) (R : Int) (w : World) (hS2 : S.size ≤ 20000) : Calls Try.prog 62 #[.string S, .int .i64 R] w (Parsed w R S) := by
  by_cases hR : R < 2 ∨ 36 < R
  · exact Parse_bad S R w hR
  have h0 : 2 ≤ R := by omega
  have h1 : R ≤ 36 := by omega
  clear hR
  have hW := below_alloc w (.cells #[.bool false, .slice none 0 0] 28)
  have hle : ¬ (20000 : Int) < (S.size : Int) := by omega
  by_cases hS : S.size = 0
  · have hem := isEmpty_zero hS
    have hTS := hS2
    have hnil : bs S = [] := List.eq_nil_of_length_eq_zero (by rw [bs_length]; exact hS)
    have HBody := Lib.hid (show bodyOf (bs S) = bs S by rw [hnil]; rfl)
    have HHd := Lib.hid (show decide ((bs S).headD 0 = 45) = false by rw [hnil]; rfl)
    clear hnil
    go_enter Try.func62, Try.ntmps62
    go_wp2_with fail
    refine (fromDigits_ans S R _ h0 h1 hTS).mono ?_
    rintro e w1 ⟨hans, hb1⟩
    have hb1' := hb1.mono (B' := w.heap.size + 1) (by simp)
    obtain ⟨e1, e2, f1, f2⟩ := room0 hb1'
    rcases hans with ⟨v, rfl, hn, hne, hok⟩ | ⟨rfl, hbad⟩
    · have HN := Lib.hid hn
      have HOK := Lib.hid (And.intro hne hok)
      clear hn hne hok
      go_wp2_with fail
      refine (signed_out false _ _ 20000 _ HN.out (by decide)).mono ?_
      rintro e w2 ⟨ng, A, n, c, rfl, hv, hb2⟩
      have hb2' := hb1'.trans (hb2.mono (B' := w.heap.size + 1) (by have := hb1'.size; simpa using this))
      have HV := Lib.hid hv
      clear hv e1 e2 f1 f2
      obtain ⟨e1, e2, f1, f2⟩ := room0 hb2'
      go_wp2
      refine bodyPost_ret (v := .tuple #[.agg #[.bool ng, .slice A n c], .int .i64 0]) (by simp [results, Try.results62, go_sem, e1, e2]) rfl ⟨_, _, _, _, _, 0, rfl, HV.out.stored e1 e2 _ _, .inr (.inl ⟨h0, h1, ?_, ?_, ?_, rfl⟩), ?_⟩
      · rw [HBody.out]; exact HOK.out.1
      · rw [HBody.out]; exact HOK.out.2
      · rw [HBody.out, HHd.out]
      · exact ((hW.trans (hb2'.mono (by omega))).setCell (Nat.le_refl _) _).setCell (Nat.le_refl _) _
    · have HBAD := Lib.hid hbad
      clear hbad
      go_wp2
      refine bodyPost_ret (v := .tuple #[.agg #[.bool false, .slice none 0 0], .int .i64 2]) (by simp [results, Try.results62, go_sem, e1, e2]) rfl ⟨_, _, _, _, 0, 2, rfl, Ival.zero20, .inr (.inr ⟨h0, h1, ?_, rfl, rfl⟩), ?_⟩
      · rw [HBody.out]; exact HBAD.out
      · exact ((hW.trans (hb1'.mono (by omega))).setCell (Nat.le_refl _) _).setCell (Nat.le_refl _) _
  · have hem := isEmpty_size hS
    have hlt : 0 < S.size := by omega
    have hb0 := bs_byte S 0 hlt
    obtain ⟨c0, hc⟩ : ∃ c0, (S[0].toNat : Int) = c0 := ⟨_, rfl⟩
    have hhd := bs_head S hlt
    rw [hc] at hhd hb0
    have hsz : (1 : Int) ≤ (S.size : Int) := by omega
    obtain ⟨T, hT⟩ : ∃ T, S.extract 1 S.size = T := ⟨_, rfl⟩
    have hTb : bs T = (bs S).tail := by rw [← hT, bs_from S 1 (by omega)]; simp
    have hTS : T.size ≤ 20000 := by rw [← bs_length, hTb, List.length_tail, bs_length]; omega
    by_cases h45 : c0 = 45
    · have HBody := Lib.hid (show bodyOf (bs S) = bs T by unfold bodyOf; rw [hhd, hTb, if_pos (.inl h45)])
      have HHd := Lib.hid (show decide ((bs S).headD 0 = 45) = true by rw [hhd]; simpa using h45)
      rw [h45] at hc
      clear hTb hhd h45 hb0
      go_enter Try.func62, Try.ntmps62
      go_wp2_with fail
      refine (fromDigits_ans T R _ h0 h1 hTS).mono ?_
      rintro e w1 ⟨hans, hb1⟩
      have hb1' := hb1.mono (B' := w.heap.size + 1) (by simp)
      obtain ⟨e1, e2, f1, f2⟩ := room0 hb1'
      rcases hans with ⟨v, rfl, hn, hne, hok⟩ | ⟨rfl, hbad⟩
      · have HN := Lib.hid hn
        have HOK := Lib.hid (And.intro hne hok)
        clear hn hne hok
        go_wp2_with fail
        refine (signed_out true _ _ 20000 _ HN.out (by decide)).mono ?_
        rintro e w2 ⟨ng, A, n, c, rfl, hv, hb2⟩
        have hb2' := hb1'.trans (hb2.mono (B' := w.heap.size + 1) (by have := hb1'.size; simpa using this))
        have HV := Lib.hid hv
        clear hv e1 e2 f1 f2
        obtain ⟨e1, e2, f1, f2⟩ := room0 hb2'
        go_wp2
        refine bodyPost_ret (v := .tuple #[.agg #[.bool ng, .slice A n c], .int .i64 0]) (by simp [results, Try.results62, go_sem, e1, e2]) rfl ⟨_, _, _, _, _, 0, rfl, HV.out.stored e1 e2 _ _, .inr (.inl ⟨h0, h1, ?_, ?_, ?_, rfl⟩), ?_⟩
        · rw [HBody.out]; exact HOK.out.1
        · rw [HBody.out]; exact HOK.out.2
        · rw [HBody.out, HHd.out]
        · exact ((hW.trans (hb2'.mono (by omega))).setCell (Nat.le_refl _) _).setCell (Nat.le_refl _) _
      · have HBAD := Lib.hid hbad
        clear hbad
        go_wp2
        refine bodyPost_ret (v := .tuple #[.agg #[.bool false, .slice none 0 0], .int .i64 2]) (by simp [results, Try.results62, go_sem, e1, e2]) rfl ⟨_, _, _, _, 0, 2, rfl, Ival.zero20, .inr (.inr ⟨h0, h1, ?_, rfl, rfl⟩), ?_⟩
        · rw [HBody.out]; exact HBAD.out
        · exact ((hW.trans (hb1'.mono (by omega))).setCell (Nat.le_refl _) _).setCell (Nat.le_refl _) _
    · by_cases h43 : c0 = 43
      · have HBody := Lib.hid (show bodyOf (bs S) = bs T by unfold bodyOf; rw [hhd, hTb, if_pos (.inr h43)])
        have HHd := Lib.hid (show decide ((bs S).headD 0 = 45) = false by rw [hhd]; simpa using h45)
        rw [h43] at hc
        clear hTb hhd h43 hb0 h45
        go_enter Try.func62, Try.ntmps62
        go_wp2_with fail
        refine (fromDigits_ans T R _ h0 h1 hTS).mono ?_
        rintro e w1 ⟨hans, hb1⟩
        have hb1' := hb1.mono (B' := w.heap.size + 1) (by simp)
        obtain ⟨e1, e2, f1, f2⟩ := room0 hb1'
        rcases hans with ⟨v, rfl, hn, hne, hok⟩ | ⟨rfl, hbad⟩
        · have HN := Lib.hid hn
          have HOK := Lib.hid (And.intro hne hok)
          clear hn hne hok
          go_wp2_with fail
          refine (signed_out false _ _ 20000 _ HN.out (by decide)).mono ?_
          rintro e w2 ⟨ng, A, n, c, rfl, hv, hb2⟩
          have hb2' := hb1'.trans (hb2.mono (B' := w.heap.size + 1) (by have := hb1'.size; simpa using this))
          have HV := Lib.hid hv
          clear hv e1 e2 f1 f2
          obtain ⟨e1, e2, f1, f2⟩ := room0 hb2'
          go_wp2
          refine bodyPost_ret (v := .tuple #[.agg #[.bool ng, .slice A n c], .int .i64 0]) (by simp [results, Try.results62, go_sem, e1, e2]) rfl ⟨_, _, _, _, _, 0, rfl, HV.out.stored e1 e2 _ _, .inr (.inl ⟨h0, h1, ?_, ?_, ?_, rfl⟩), ?_⟩
          · rw [HBody.out]; exact HOK.out.1
          · rw [HBody.out]; exact HOK.out.2
          · rw [HBody.out, HHd.out]
          · exact ((hW.trans (hb2'.mono (by omega))).setCell (Nat.le_refl _) _).setCell (Nat.le_refl _) _
        · have HBAD := Lib.hid hbad
          clear hbad
          go_wp2
          refine bodyPost_ret (v := .tuple #[.agg #[.bool false, .slice none 0 0], .int .i64 2]) (by simp [results, Try.results62, go_sem, e1, e2]) rfl ⟨_, _, _, _, 0, 2, rfl, Ival.zero20, .inr (.inr ⟨h0, h1, ?_, rfl, rfl⟩), ?_⟩
          · rw [HBody.out]; exact HBAD.out
          · exact ((hW.trans (hb1'.mono (by omega))).setCell (Nat.le_refl _) _).setCell (Nat.le_refl _) _
      · have HBody := Lib.hid (show bodyOf (bs S) = bs S by unfold bodyOf; rw [hhd, if_neg (by omega)])
        have HHd := Lib.hid (show decide ((bs S).headD 0 = 45) = false by rw [hhd]; simpa using h45)
        clear hTb hhd hTS hT
        have q1 : (c0 == 45) = false := by simpa using h45
        have q2 : (c0 == 43) = false := by simpa using h43
        have hTS := hS2
        go_enter Try.func62, Try.ntmps62
        go_wp2_with fail
        refine (fromDigits_ans S R _ h0 h1 hTS).mono ?_
        rintro e w1 ⟨hans, hb1⟩
        have hb1' := hb1.mono (B' := w.heap.size + 1) (by simp)
        obtain ⟨e1, e2, f1, f2⟩ := room0 hb1'
        rcases hans with ⟨v, rfl, hn, hne, hok⟩ | ⟨rfl, hbad⟩
        · have HN := Lib.hid hn
          have HOK := Lib.hid (And.intro hne hok)
          clear hn hne hok
          go_wp2_with fail
          refine (signed_out false _ _ 20000 _ HN.out (by decide)).mono ?_
          rintro e w2 ⟨ng, A, n, c, rfl, hv, hb2⟩
          have hb2' := hb1'.trans (hb2.mono (B' := w.heap.size + 1) (by have := hb1'.size; simpa using this))
          have HV := Lib.hid hv
          clear hv e1 e2 f1 f2
          obtain ⟨e1, e2, f1, f2⟩ := room0 hb2'
          go_wp2
          refine bodyPost_ret (v := .tuple #[.agg #[.bool ng, .slice A n c], .int .i64 0]) (by simp [results, Try.results62, go_sem, e1, e2]) rfl ⟨_, _, _, _, _, 0, rfl, HV.out.stored e1 e2 _ _, .inr (.inl ⟨h0, h1, ?_, ?_, ?_, rfl⟩), ?_⟩
          · rw [HBody.out]; exact HOK.out.1
          · rw [HBody.out]; exact HOK.out.2
          · rw [HBody.out, HHd.out]
          · exact ((hW.trans (hb2'.mono (by omega))).setCell (Nat.le_refl _) _).setCell (Nat.le_refl _) _
        · have HBAD := Lib.hid hbad
          clear hbad
          go_wp2
          refine bodyPost_ret (v := .tuple #[.agg #[.bool false, .slice none 0 0], .int .i64 2]) (by simp [results, Try.results62, go_sem, e1, e2]) rfl ⟨_, _, _, _, 0, 2, rfl, Ival.zero20, .inr (.inr ⟨h0, h1, ?_, rfl, rfl⟩), ?_⟩
          · rw [HBody.out]; exact HBAD.out
          · exact ((hW.trans (hb1'.mono (by omega))).setCell (Nat.le_refl _) _).setCell (Nat.le_refl _) _

end Go.Proofs.Ytoanomgdkkbbmaa
