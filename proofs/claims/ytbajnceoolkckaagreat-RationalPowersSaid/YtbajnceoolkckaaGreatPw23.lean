/- Of the proof of RationalPowers: RatF, Box. -/
import Derived.Test.YtbajnceoolkckaaGreatPw22
import Derived.Test.YtbajnceoolkckaaGreatPw21
import Derived.Test.YtbajnceoolkckaaGreatPw05
open List renaming getElem_toArray → gEA, getElem_cons_succ → gES, getElem_cons_zero → gEZ, setIfInBounds_toArray → sTA, set_cons_zero → sCZ, set_cons_succ → sCS
/- Fractions: Neg, Abs, inverse. -/
namespace Go.Proofs.YtbajnceoolkckaaGreat
open Go.RowKit LM

/-- What answers with a fraction. -/
def RatRes (L : Nat) (n d : Int) (w : World) (e : Ending) (w' : World) : Prop :=
 (∃ g1 A1 n1 c1 g2 A2 n2 c2, e = .returned (.agg #[.bool g1, .slice A1 n1 c1, .bool g2, .slice A2 n2 c2]) ∧ Rat w' (.agg #[.bool g1, .slice A1 n1 c1, .bool g2, .slice A2 n2 c2]) n d L) ∧ Below w.heap.size w w'

theorem Rat.form {w : World} {v : Value} {n d : Int} {L : Nat} (h : Rat w v n d L) : ∃ g1 A1 n1 c1 g2 A2 n2 c2, v = .agg #[.bool g1, .slice A1 n1 c1, .bool g2, .slice A2 n2 c2] := by
 obtain ⟨g1, A1, n1, c1, g2, A2, n2, c2, e, _⟩ := h
 exact ⟨g1, A1, n1, c1, g2, A2, n2, c2, e⟩

theorem Rat.parts {w : World} {g1 g2 : Bool} {A1 A2 : Option Addr} {n1 c1 n2 c2 : Nat} {n d : Int} {L : Nat} (h : Rat w (.agg #[.bool g1, .slice A1 n1 c1, .bool g2, .slice A2 n2 c2]) n d L) :
  Ival w (.agg #[.bool g1, .slice A1 n1 c1]) n L ∧ Ival w (.agg #[.bool g2, .slice A2 n2 c2]) (dn d) L ∧ 0 < d ∧ Int.gcd n d = 1 := by
 obtain ⟨g1', A1', n1', c1', g2', A2', n2', c2', e, h1, h2, h3⟩ := h
 have e0 := congrArg (fun v => match v with | Value.agg a => a[0]? | _ => none) e
 have e1 := congrArg (fun v => match v with | Value.agg a => a[1]? | _ => none) e
 have e2 := congrArg (fun v => match v with | Value.agg a => a[2]? | _ => none) e
 have e3 := congrArg (fun v => match v with | Value.agg a => a[3]? | _ => none) e
 simp at e0 e1 e2 e3
 obtain ⟨rfl, rfl, rfl⟩ := e1
 obtain ⟨rfl, rfl, rfl⟩ := e3
 subst e0 e2
 exact ⟨h1, h2, h3⟩

theorem Rat.fx {w : World} {s : Value} {n d : Int} {L : Nat} (h : Rat w s n d L) {b : Nat} {g : Bool} {A : Option Addr} {k c : Nat} (F : Fx w b (.bool g) (.slice A k c)) (x y : Value) : Rat ((w.setCell ⟨b, 0, none⟩ x).setCell ⟨b, 1, none⟩ y) s n d L := by
 obtain ⟨g1, A1, n1, c1, g2, A2, n2, c2, e, h1, h2, h3⟩ := h
 exact ⟨g1, A1, n1, c1, g2, A2, n2, c2, e, h1.fx F x y, h2.fx F x y, h3⟩

theorem Rat.mk' {w : World} {g1 g2 : Bool} {A1 A2 : Option Addr} {n1 c1 n2 c2 : Nat} {n d : Int} {L : Nat} (h1 : Ival w (.agg #[.bool g1, .slice A1 n1 c1]) n L) (h2 : Ival w (.agg #[.bool g2, .slice A2 n2 c2]) (dn d) L) (h3 : 0 < d) (h4 : Int.gcd n d = 1) :
  Rat w (.agg #[.bool g1, .slice A1 n1 c1, .bool g2, .slice A2 n2 c2]) n d L := ⟨_, _, _, _, _, _, _, _, rfl, h1, h2, h3, h4⟩

theorem Rat.put4 {w : World} {s : Value} {n d : Int} {L : Nat} (h : Rat w s n d L) {b : Nat} (F : Fx4 w b (.bool false) (.slice none 0 0) (.bool false) (.slice none 0 0)) (x0 x1 x2 x3 : Value) : Rat (put4 w b x0 x1 x2 x3) s n d L := by
 obtain ⟨g1, A1, n1, c1, g2, A2, n2, c2, e, h1, h2, h3⟩ := h
 exact ⟨g1, A1, n1, c1, g2, A2, n2, c2, e, h1.put4 F _ _ _ _, h2.put4 F _ _ _ _, h3⟩

set_option maxRecDepth 100000 in
set_option maxHeartbeats 4000000 in
theorem Neg_any (v : Value) (n d : Int) (L : Nat) (w : World) (h : Rat w v n d L) (hL : L ≤ 1000000) :
  Calls Tryz.prog 36 #[v] w (RatRes L (-n) d w) := by
 obtain ⟨g1, A1, n1, c1, e1, B1, m1, d1, rfl⟩ := h.form
 obtain ⟨hw, F0, F1, hs⟩ := two44 w (.bool g1) (.slice A1 n1 c1) (.bool e1) (.slice B1 m1 d1) (.bool false) (.slice none 0 0) (.bool false) (.slice none 0 0)
 have X := Lib.hid (h.below hw)
 obtain ⟨W0, hW0⟩ : ∃ W0, (w.alloc (.cells #[.bool g1, .slice A1 n1 c1, .bool e1, .slice B1 m1 d1] 38)).alloc (.cells #[.bool false, .slice none 0 0, .bool false, .slice none 0 0] 38) = W0 := ⟨_, rfl⟩
 rw [hW0] at hw F0 F1 hs X
 have B0 := Lib.hid F0
 have BR := Lib.hid F1
 clear F0 F1 h
 go_enter Tryz.func36, Tryz.ntmps36
 go_upto_region 1 with fail
 clear hW0
 have X1 := Lib.hid X.out.parts.1
 have X2 := Lib.hid X.out.parts.2.1
 have hd := X.out.parts.2.2.1
 have hco := X.out.parts.2.2.2
 clear X
 have HT := Lib.hid (fun (w' : World) (hb : Below W0.heap.size W0 w') => (show w'.cell? ⟨w.heap.size, 0, none⟩ = some (.bool g1) ∧ w'.cell? ⟨w.heap.size, 1, none⟩ = some (.slice A1 n1 c1) ∧ w'.cell? ⟨w.heap.size, 2, none⟩ = some (.bool e1) ∧ w'.cell? ⟨w.heap.size, 3, none⟩ = some (.slice B1 m1 d1) from ⟨(B0.out.below hb).c0, (B0.out.below hb).c1, (B0.out.below hb).c2, (B0.out.below hb).c3⟩))
 have HP := Lib.hid (fun (w' : World) (x0 x1 x2 x3 : Value) (h : w'.cell? ⟨w.heap.size, 0, none⟩ = some (.bool g1) ∧ w'.cell? ⟨w.heap.size, 1, none⟩ = some (.slice A1 n1 c1) ∧ w'.cell? ⟨w.heap.size, 2, none⟩ = some (.bool e1) ∧ w'.cell? ⟨w.heap.size, 3, none⟩ = some (.slice B1 m1 d1)) => (show (fun w' => w'.cell? ⟨w.heap.size, 0, none⟩ = some (.bool g1) ∧ w'.cell? ⟨w.heap.size, 1, none⟩ = some (.slice A1 n1 c1) ∧ w'.cell? ⟨w.heap.size, 2, none⟩ = some (.bool e1) ∧ w'.cell? ⟨w.heap.size, 3, none⟩ = some (.slice B1 m1 d1)) (put4 w' (w.heap.size + 1) x0 x1 x2 x3) from ⟨(cell_put4 (by omega) _ _ _ _).trans h.1, (cell_put4 (by omega) _ _ _ _).trans h.2.1, (cell_put4 (by omega) _ _ _ _).trans h.2.2.1, (cell_put4 (by omega) _ _ _ _).trans h.2.2.2⟩))
 have hB := (Below.refl W0.heap.size W0).drew
 replace X1 := Lib.hid (X1.out.below hB)
 replace X2 := Lib.hid (X2.out.below hB)
 refine wp_region_held_drew (S := fun w' => w'.cell? ⟨w.heap.size, 0, none⟩ = some (.bool g1) ∧ w'.cell? ⟨w.heap.size, 1, none⟩ = some (.slice A1 n1 c1) ∧ w'.cell? ⟨w.heap.size, 2, none⟩ = some (.bool e1) ∧ w'.cell? ⟨w.heap.size, 3, none⟩ = some (.slice B1 m1 d1)) (by kernel_rfl) (HT.out _ hB) (fun hHeldn => ?_)
 clear hHeldn
 generalize W0.drew = wr0 at *
 refine wpAnyH_taken (i := 0) (d := some 3) (v := ?_) rfl rfl (by kernel_rfl) (by kernel_rfl) (by kernel_rfl) (fun _ _ _ h => h) (Or.inl ⟨by rfl, ?_⟩) (by first | assumption | exact HT.out _ hB) ?_
 rotate_left 1
 ·(intro w hSw; (try dsimp only at hSw); go_simp; try with_reducible rfl)
 try simp only [Act.put, sTA, sCZ, sCS]
 refine wpAnyH_taken (i := 3) (d := some 6) (v := ?_) rfl rfl (by kernel_rfl) (by kernel_rfl) (by kernel_rfl) (fun _ _ _ h => h) (Or.inl ⟨by rfl, ?_⟩) (by first | assumption | exact HT.out _ hB) ?_
 rotate_left 1
 ·(intro w hSw; (try dsimp only at hSw); go_simp; try with_reducible rfl)
 try simp only [Act.put, sTA, sCZ, sCS]
 refine wpAnyH_taken (i := 1) (d := some 4) (v := ?_) rfl rfl (by kernel_rfl) (by kernel_rfl) (by kernel_rfl) (fun _ _ _ h => h) (Or.inl ⟨by rfl, ?_⟩) (by first | assumption | exact HT.out _ hB) ?_
 rotate_left 1
 ·(intro w hSw; (try dsimp only at hSw); go_simp; try with_reducible rfl)
 try simp only [Act.put, sTA, sCZ, sCS]
 refine wpAnyH_taken (i := 4) (d := some 7) (v := ?_) rfl rfl (by kernel_rfl) (by kernel_rfl) (by kernel_rfl) (fun _ _ _ h => h) (Or.inl ⟨by rfl, ?_⟩) (by first | assumption | exact HT.out _ hB) ?_
 rotate_left 1
 ·(intro w hSw; (try dsimp only at hSw); go_simp; try with_reducible rfl)
 try simp only [Act.put, sTA, sCZ, sCS]
 refine wpAnyH_ready (rs := [2]) (by kernel_rfl) (by simp) ?_
 refine AllReadyH.cons rfl (fun K hK => ?_) AllReadyH.nil
 (try simp only [gEA]); (try simp only [gES]); (try simp only [gEZ])
 go_simp
 (go_at_call 62; refine (neg_t _ n L _ X1.out hL).mono ?_; rintro e wc1 ⟨⟨gt1, At1, nt1, ct1, rfl, hz⟩, hb⟩)
 replace X1 := Lib.hid (X1.out.below hb)
 replace X2 := Lib.hid (X2.out.below hb)
 replace hB := Below.trans hB (hb.mono hB.size)
 have T1 := Lib.hid hz
 refine hK.out _ _ (HT.out _ hB) (fun hHeldn => ?_)
 clear hK K hHeldn
 try simp only [Act.put, sTA, sCZ, sCS]
 clear hb hz
 refine wpAnyH_taken (i := 5) (d := some 8) (v := ?_) rfl rfl (by kernel_rfl) (by kernel_rfl) (by kernel_rfl) (fun _ _ _ h => h) (Or.inl ⟨by rfl, ?_⟩) (by first | assumption | exact HT.out _ hB) ?_
 rotate_left 1
 ·(intro w hSw; (try dsimp only at hSw); go_simp; try with_reducible rfl)
 try simp only [Act.put, sTA, sCZ, sCS]
 refine wpAnyH_ready (rs := [6]) (by kernel_rfl) (by simp) ?_
 refine AllReadyH.cons rfl (fun K hK => ?_) AllReadyH.nil
 (try simp only [gEA]); (try simp only [gES]); (try simp only [gEZ])
 have R4 := BR.out.below hB
 obtain ⟨r0, r1, r2, r3, r4, r5, r6, r7, r8⟩ := id R4
 go_simp
 refine hK.out _ _ (HP.out _ (.bool gt1) (.slice At1 nt1 ct1) (.bool e1) (.slice B1 m1 d1) (HT.out _ hB)) (fun hHeldn => ?_)
 clear hK K hHeldn
 try simp only [Act.put, sTA, sCZ, sCS]
 refine wpAnyH_done (by kernel_rfl) ?_ _
 go_wp2
 refine bodyPost_ret (v := .agg #[.bool gt1, .slice At1 nt1 ct1, .bool e1, .slice B1 m1 d1]) (by simp [results, Tryz.results36, go_sem, r0, r1, r2, r3]) rfl ⟨⟨_, _, _, _, _, _, _, _, rfl, (Rat.mk' T1.out X2.out hd (by rw [Int.neg_gcd]; exact hco)).put4 R4 _ _ _ _⟩, below_put4 (hw.trans (hB.mono hw.size)) (by omega) _ _ _ _⟩

/-- The absolute value. -/
def absI (n : Int) : Int := if n < 0 then -n else n

theorem absI_gcd (n d : Int) : Int.gcd (absI n) d = Int.gcd n d := by
 unfold absI; split
 ·rw [Int.neg_gcd]
 ·rfl

set_option maxRecDepth 100000 in
set_option maxHeartbeats 4000000 in
theorem Abs_any (v : Value) (n d : Int) (L : Nat) (w : World) (h : Rat w v n d L) (hL : L ≤ 1000000) :
  Calls Tryz.prog 38 #[v] w (RatRes L (absI n) d w) := by
 obtain ⟨g1, A1, n1, c1, e1, B1, m1, d1, rfl⟩ := h.form
 obtain ⟨hw, F0, F1, hs⟩ := two44 w (.bool g1) (.slice A1 n1 c1) (.bool e1) (.slice B1 m1 d1) (.bool false) (.slice none 0 0) (.bool false) (.slice none 0 0)
 have X := Lib.hid (h.below hw)
 obtain ⟨W0, hW0⟩ : ∃ W0, (w.alloc (.cells #[.bool g1, .slice A1 n1 c1, .bool e1, .slice B1 m1 d1] 38)).alloc (.cells #[.bool false, .slice none 0 0, .bool false, .slice none 0 0] 38) = W0 := ⟨_, rfl⟩
 rw [hW0] at hw F0 F1 hs X
 have B0 := Lib.hid F0
 have BR := Lib.hid F1
 clear F0 F1 h
 go_enter Tryz.func38, Tryz.ntmps38
 go_upto_region 1 with fail
 clear hW0
 have X1 := Lib.hid X.out.parts.1
 have X2 := Lib.hid X.out.parts.2.1
 have hd := X.out.parts.2.2.1
 have hco := X.out.parts.2.2.2
 clear X
 have HT := Lib.hid (fun (w' : World) (hb : Below W0.heap.size W0 w') => (show w'.cell? ⟨w.heap.size, 0, none⟩ = some (.bool g1) ∧ w'.cell? ⟨w.heap.size, 1, none⟩ = some (.slice A1 n1 c1) ∧ w'.cell? ⟨w.heap.size, 2, none⟩ = some (.bool e1) ∧ w'.cell? ⟨w.heap.size, 3, none⟩ = some (.slice B1 m1 d1) from ⟨(B0.out.below hb).c0, (B0.out.below hb).c1, (B0.out.below hb).c2, (B0.out.below hb).c3⟩))
 have HP := Lib.hid (fun (w' : World) (x0 x1 x2 x3 : Value) (h : w'.cell? ⟨w.heap.size, 0, none⟩ = some (.bool g1) ∧ w'.cell? ⟨w.heap.size, 1, none⟩ = some (.slice A1 n1 c1) ∧ w'.cell? ⟨w.heap.size, 2, none⟩ = some (.bool e1) ∧ w'.cell? ⟨w.heap.size, 3, none⟩ = some (.slice B1 m1 d1)) => (show (fun w' => w'.cell? ⟨w.heap.size, 0, none⟩ = some (.bool g1) ∧ w'.cell? ⟨w.heap.size, 1, none⟩ = some (.slice A1 n1 c1) ∧ w'.cell? ⟨w.heap.size, 2, none⟩ = some (.bool e1) ∧ w'.cell? ⟨w.heap.size, 3, none⟩ = some (.slice B1 m1 d1)) (put4 w' (w.heap.size + 1) x0 x1 x2 x3) from ⟨(cell_put4 (by omega) _ _ _ _).trans h.1, (cell_put4 (by omega) _ _ _ _).trans h.2.1, (cell_put4 (by omega) _ _ _ _).trans h.2.2.1, (cell_put4 (by omega) _ _ _ _).trans h.2.2.2⟩))
 have hB := (Below.refl W0.heap.size W0).drew
 replace X1 := Lib.hid (X1.out.below hB)
 replace X2 := Lib.hid (X2.out.below hB)
 refine wp_region_held_drew (S := fun w' => w'.cell? ⟨w.heap.size, 0, none⟩ = some (.bool g1) ∧ w'.cell? ⟨w.heap.size, 1, none⟩ = some (.slice A1 n1 c1) ∧ w'.cell? ⟨w.heap.size, 2, none⟩ = some (.bool e1) ∧ w'.cell? ⟨w.heap.size, 3, none⟩ = some (.slice B1 m1 d1)) (by kernel_rfl) (HT.out _ hB) (fun hHeldn => ?_)
 clear hHeldn
 generalize W0.drew = wr0 at *
 refine wpAnyH_taken (i := 0) (d := some 3) (v := ?_) rfl rfl (by kernel_rfl) (by kernel_rfl) (by kernel_rfl) (fun _ _ _ h => h) (Or.inl ⟨by rfl, ?_⟩) (by first | assumption | exact HT.out _ hB) ?_
 rotate_left 1
 ·(intro w hSw; (try dsimp only at hSw); go_simp; try with_reducible rfl)
 try simp only [Act.put, sTA, sCZ, sCS]
 refine wpAnyH_taken (i := 3) (d := some 6) (v := ?_) rfl rfl (by kernel_rfl) (by kernel_rfl) (by kernel_rfl) (fun _ _ _ h => h) (Or.inl ⟨by rfl, ?_⟩) (by first | assumption | exact HT.out _ hB) ?_
 rotate_left 1
 ·(intro w hSw; (try dsimp only at hSw); go_simp; try with_reducible rfl)
 try simp only [Act.put, sTA, sCZ, sCS]
 refine wpAnyH_taken (i := 1) (d := some 4) (v := ?_) rfl rfl (by kernel_rfl) (by kernel_rfl) (by kernel_rfl) (fun _ _ _ h => h) (Or.inl ⟨by rfl, ?_⟩) (by first | assumption | exact HT.out _ hB) ?_
 rotate_left 1
 ·(intro w hSw; (try dsimp only at hSw); go_simp; try with_reducible rfl)
 try simp only [Act.put, sTA, sCZ, sCS]
 refine wpAnyH_taken (i := 4) (d := some 7) (v := ?_) rfl rfl (by kernel_rfl) (by kernel_rfl) (by kernel_rfl) (fun _ _ _ h => h) (Or.inl ⟨by rfl, ?_⟩) (by first | assumption | exact HT.out _ hB) ?_
 rotate_left 1
 ·(intro w hSw; (try dsimp only at hSw); go_simp; try with_reducible rfl)
 try simp only [Act.put, sTA, sCZ, sCS]
 refine wpAnyH_ready (rs := [2]) (by kernel_rfl) (by simp) ?_
 refine AllReadyH.cons rfl (fun K hK => ?_) AllReadyH.nil
 (try simp only [gEA]); (try simp only [gES]); (try simp only [gEZ])
 go_simp
 (go_at_call 69; refine (abs_int _ n L _ X1.out (by omega)).mono ?_; rintro e wc1 ⟨⟨gt1, At1, nt1, ct1, rfl, hz⟩, hb⟩)
 replace X1 := Lib.hid (X1.out.below hb)
 replace X2 := Lib.hid (X2.out.below hb)
 replace hB := Below.trans hB (hb.mono hB.size)
 have T1 := Lib.hid hz
 refine hK.out _ _ (HT.out _ hB) (fun hHeldn => ?_)
 clear hK K hHeldn
 try simp only [Act.put, sTA, sCZ, sCS]
 clear hb hz
 refine wpAnyH_taken (i := 5) (d := some 8) (v := ?_) rfl rfl (by kernel_rfl) (by kernel_rfl) (by kernel_rfl) (fun _ _ _ h => h) (Or.inl ⟨by rfl, ?_⟩) (by first | assumption | exact HT.out _ hB) ?_
 rotate_left 1
 ·(intro w hSw; (try dsimp only at hSw); go_simp; try with_reducible rfl)
 try simp only [Act.put, sTA, sCZ, sCS]
 refine wpAnyH_ready (rs := [6]) (by kernel_rfl) (by simp) ?_
 refine AllReadyH.cons rfl (fun K hK => ?_) AllReadyH.nil
 (try simp only [gEA]); (try simp only [gES]); (try simp only [gEZ])
 have R4 := BR.out.below hB
 obtain ⟨r0, r1, r2, r3, r4, r5, r6, r7, r8⟩ := id R4
 go_simp
 refine hK.out _ _ (HP.out _ (.bool gt1) (.slice At1 nt1 ct1) (.bool e1) (.slice B1 m1 d1) (HT.out _ hB)) (fun hHeldn => ?_)
 clear hK K hHeldn
 try simp only [Act.put, sTA, sCZ, sCS]
 refine wpAnyH_done (by kernel_rfl) ?_ _
 go_wp2
 refine bodyPost_ret (v := .agg #[.bool gt1, .slice At1 nt1 ct1, .bool e1, .slice B1 m1 d1]) (by simp [results, Tryz.results38, go_sem, r0, r1, r2, r3]) rfl ⟨⟨_, _, _, _, _, _, _, _, rfl, (Rat.mk' T1.out X2.out hd ((absI_gcd n d).trans hco)).put4 R4 _ _ _ _⟩, below_put4 (hw.trans (hB.mono hw.size)) (by omega) _ _ _ _⟩

theorem upN_pos {n : Int} (h : n ≠ 0) : 0 < upN n n := by unfold upN; split <;> omega

set_option maxRecDepth 100000 in
set_option maxHeartbeats 4000000 in
theorem inverse_any (v : Value) (n d : Int) (L : Nat) (w : World) (h : Rat w v n d L) (hL : L ≤ 1000000) (hL2 : 2 ≤ L) (hn : n ≠ 0) :
  Calls Tryz.prog 88 #[v] w (RatRes L (upN d n) (upN n n) w) := by
 obtain ⟨g1, A1, n1, c1, e1, B1, m1, d1, rfl⟩ := h.form
 obtain ⟨hw, F0, F1, hs⟩ := two44 w (.bool g1) (.slice A1 n1 c1) (.bool e1) (.slice B1 m1 d1) (.bool false) (.slice none 0 0) (.bool false) (.slice none 0 0)
 have X := Lib.hid (h.below hw)
 obtain ⟨W0, hW0⟩ : ∃ W0, (w.alloc (.cells #[.bool g1, .slice A1 n1 c1, .bool e1, .slice B1 m1 d1] 38)).alloc (.cells #[.bool false, .slice none 0 0, .bool false, .slice none 0 0] 38) = W0 := ⟨_, rfl⟩
 rw [hW0] at hw F0 F1 hs X
 have B0 := Lib.hid F0
 have BR := Lib.hid F1
 clear F0 F1 h
 go_enter Tryz.func88, Tryz.ntmps88
 go_upto_region 1 with fail
 clear hW0
 have X1 := Lib.hid X.out.parts.1
 have hd := X.out.parts.2.2.1
 have hco := X.out.parts.2.2.2
 have HT := Lib.hid (fun (w' : World) (hb : Below W0.heap.size W0 w') => (show w'.cell? ⟨w.heap.size, 0, none⟩ = some (.bool g1) ∧ w'.cell? ⟨w.heap.size, 1, none⟩ = some (.slice A1 n1 c1) ∧ w'.cell? ⟨w.heap.size, 2, none⟩ = some (.bool e1) ∧ w'.cell? ⟨w.heap.size, 3, none⟩ = some (.slice B1 m1 d1) from ⟨(B0.out.below hb).c0, (B0.out.below hb).c1, (B0.out.below hb).c2, (B0.out.below hb).c3⟩))
 have HP := Lib.hid (fun (w' : World) (x0 x1 x2 x3 : Value) (h : w'.cell? ⟨w.heap.size, 0, none⟩ = some (.bool g1) ∧ w'.cell? ⟨w.heap.size, 1, none⟩ = some (.slice A1 n1 c1) ∧ w'.cell? ⟨w.heap.size, 2, none⟩ = some (.bool e1) ∧ w'.cell? ⟨w.heap.size, 3, none⟩ = some (.slice B1 m1 d1)) => (show (fun w' => w'.cell? ⟨w.heap.size, 0, none⟩ = some (.bool g1) ∧ w'.cell? ⟨w.heap.size, 1, none⟩ = some (.slice A1 n1 c1) ∧ w'.cell? ⟨w.heap.size, 2, none⟩ = some (.bool e1) ∧ w'.cell? ⟨w.heap.size, 3, none⟩ = some (.slice B1 m1 d1)) (put4 w' (w.heap.size + 1) x0 x1 x2 x3) from ⟨(cell_put4 (by omega) _ _ _ _).trans h.1, (cell_put4 (by omega) _ _ _ _).trans h.2.1, (cell_put4 (by omega) _ _ _ _).trans h.2.2.1, (cell_put4 (by omega) _ _ _ _).trans h.2.2.2⟩))
 have hB := (Below.refl W0.heap.size W0).drew
 replace X := Lib.hid (X.out.below hB)
 replace X1 := Lib.hid (X1.out.below hB)
 refine wp_region_held_drew (S := fun w' => w'.cell? ⟨w.heap.size, 0, none⟩ = some (.bool g1) ∧ w'.cell? ⟨w.heap.size, 1, none⟩ = some (.slice A1 n1 c1) ∧ w'.cell? ⟨w.heap.size, 2, none⟩ = some (.bool e1) ∧ w'.cell? ⟨w.heap.size, 3, none⟩ = some (.slice B1 m1 d1)) (by kernel_rfl) (HT.out _ hB) (fun hHeldn => ?_)
 clear hHeldn
 generalize W0.drew = wr0 at *
 refine wpAnyH_taken (i := 0) (d := some 3) (v := ?_) rfl rfl (by kernel_rfl) (by kernel_rfl) (by kernel_rfl) (fun _ _ _ h => h) (Or.inl ⟨by rfl, ?_⟩) (by first | assumption | exact HT.out _ hB) ?_
 rotate_left 1
 ·(intro w hSw; (try dsimp only at hSw); go_simp; try with_reducible rfl)
 try simp only [Act.put, sTA, sCZ, sCS]
 refine wpAnyH_taken (i := 2) (d := some 5) (v := ?_) rfl rfl (by kernel_rfl) (by kernel_rfl) (by kernel_rfl) (fun _ _ _ h => h) (Or.inl ⟨by rfl, ?_⟩) (by first | assumption | exact HT.out _ hB) ?_
 rotate_left 1
 ·(intro w hSw; (try dsimp only at hSw); go_simp; try with_reducible rfl)
 try simp only [Act.put, sTA, sCZ, sCS]
 refine wpAnyH_taken (i := 3) (d := some 6) (v := ?_) rfl rfl (by kernel_rfl) (by kernel_rfl) (by kernel_rfl) (fun _ _ _ h => h) (Or.inl ⟨by rfl, ?_⟩) (by first | assumption | exact HT.out _ hB) ?_
 rotate_left 1
 ·(intro w hSw; (try dsimp only at hSw); go_simp; try with_reducible rfl)
 try simp only [Act.put, sTA, sCZ, sCS]
 refine wpAnyH_ready (rs := [1]) (by kernel_rfl) (by simp) ?_
 refine AllReadyH.cons rfl (fun K hK => ?_) AllReadyH.nil
 (try simp only [gEA]); (try simp only [gES]); (try simp only [gEZ])
 go_simp
 (go_at_call 67; refine (Denominator_any _ n d L _ X.out hL2).mono ?_; rintro e wc1 ⟨⟨gt1, At1, nt1, ct1, rfl, hz⟩, hb⟩)
 replace X := Lib.hid (X.out.below hb)
 replace X1 := Lib.hid (X1.out.below hb)
 replace hB := Below.trans hB (hb.mono hB.size)
 have T1 := Lib.hid hz
 refine hK.out _ _ (HT.out _ hB) (fun hHeldn => ?_)
 clear hK K hHeldn
 try simp only [Act.put, sTA, sCZ, sCS]
 clear hb hz
 refine wpAnyH_ready (rs := [4]) (by kernel_rfl) (by simp) ?_
 refine AllReadyH.cons rfl (fun K hK => ?_) AllReadyH.nil
 (try simp only [gEA]); (try simp only [gES]); (try simp only [gEZ])
 go_simp
 (go_at_call 92; refine (coprime_c _ _ d n L _ T1.out X1.out hL).mono ?_; rintro e wc2 ⟨⟨gn, An, nn, cn, gd, Ad, nd, cd, rfl, hz, hzd⟩, hb⟩)
 replace X := Lib.hid (X.out.below hb)
 replace X1 := Lib.hid (X1.out.below hb)
 replace T1 := Lib.hid (T1.out.below hb)
 replace hB := Below.trans hB (hb.mono hB.size)
 have T3 := Lib.hid hz
 have T4 := Lib.hid hzd
 refine hK.out _ _ (HT.out _ hB) (fun hHeldn => ?_)
 clear hK K hHeldn
 try simp only [Act.put, sTA, sCZ, sCS]
 clear hb hz hzd
 refine wpAnyH_ready (rs := [5]) (by kernel_rfl) (by simp) ?_
 refine AllReadyH.cons rfl (fun K hK => ?_) AllReadyH.nil
 (try simp only [gEA]); (try simp only [gES]); (try simp only [gEZ])
 have R4 := BR.out.below hB
 obtain ⟨r0, r1, r2, r3, r4, r5, r6, r7, r8⟩ := id R4
 go_simp
 refine hK.out _ _ (HP.out _ (.bool gn) (.slice An nn cn) (.bool gd) (.slice Ad nd cd) (HT.out _ hB)) (fun hHeldn => ?_)
 clear hK K hHeldn
 try simp only [Act.put, sTA, sCZ, sCS]
 refine wpAnyH_done (by kernel_rfl) ?_ _
 go_wp2
 refine bodyPost_ret (v := .agg #[.bool gn, .slice An nn cn, .bool gd, .slice Ad nd cd]) (by simp [results, Tryz.results88, go_sem, r0, r1, r2, r3]) rfl ⟨⟨_, _, _, _, _, _, _, _, rfl, (Rat.mk' T3.out T4.out (upN_pos hn) (by rw [gcd_upN, Int.gcd_comm]; exact hco)).put4 R4 _ _ _ _⟩, below_put4 (hw.trans (hB.mono hw.size)) (by omega) _ _ _ _⟩

end Go.Proofs.YtbajnceoolkckaaGreat
/- Boxes of integers and fractions that may be written: what they hold. -/
namespace Go.Proofs.YtbajnceoolkckaaGreat
open Go.RowKit LM

/-- A box that holds an integer, and may be written. -/
def IBox (w : World) (b : Nat) (z : Int) (L : Nat) : Prop :=
 ∃ g A n c, Fx w b (.bool g) (.slice A n c) ∧ Ival w (.agg #[.bool g, .slice A n c]) z L

theorem IBox.mk {w : World} {b : Nat} {g : Bool} {A : Option Addr} {n c : Nat} {z : Int} {L : Nat} (F : Fx w b (.bool g) (.slice A n c)) (V : Ival w (.agg #[.bool g, .slice A n c]) z L) : IBox w b z L := ⟨g, A, n, c, F, V⟩
theorem IBox.lt {w : World} {b : Nat} {z : Int} {L : Nat} (h : IBox w b z L) : b < w.heap.size := by
 obtain ⟨g, A, n, c, F, _⟩ := h; exact F.2.2.2.2
theorem IBox.below {w w' : World} {b : Nat} {z : Int} {L : Nat} (h : IBox w b z L) (hb : Below w.heap.size w w') : IBox w' b z L := by
 obtain ⟨g, A, n, c, F, V⟩ := h; exact ⟨g, A, n, c, F.below hb, V.below hb⟩
theorem IBox.mono {w : World} {b : Nat} {z : Int} {L M : Nat} (h : IBox w b z L) (hl : L ≤ M) : IBox w b z M := by
 obtain ⟨g, A, n, c, F, V⟩ := h; exact ⟨g, A, n, c, F, V.mono hl⟩
theorem IBox.new (w : World) {g : Bool} {A : Option Addr} {n c : Nat} {z : Int} {L : Nat} (t : TypeId) (V : Ival w (.agg #[.bool g, .slice A n c]) z L) : IBox (w.alloc (.cells #[.bool g, .slice A n c] t)) w.heap.size z L :=
 ⟨g, A, n, c, Fx.new w _ _ t, V.below (below_alloc _ _)⟩
theorem IBox.nought (w : World) (t : TypeId) (L : Nat) : IBox (w.alloc (.cells #[.bool false, .slice none 0 0] t)) w.heap.size 0 L := IBox.new w t Ival.nought
theorem IBox.other {w : World} {b b' : Nat} {y z : Int} {L M : Nat} (h : IBox w b z L) (F : IBox w b' y M) (hne : b' ≠ b) (u v : Value) : IBox ((w.setCell ⟨b', 0, none⟩ u).setCell ⟨b', 1, none⟩ v) b z L := by
 obtain ⟨g, A, n, c, G, V⟩ := h; obtain ⟨g', A', n', c', G', _⟩ := F
 exact ⟨g, A, n, c, G.other hne u v, V.fx G' u v⟩
theorem IBox.store {w : World} {b : Nat} {y z : Int} {L M : Nat} (F : IBox w b y M) {g : Bool} {A : Option Addr} {n c : Nat} (V : Ival w (.agg #[.bool g, .slice A n c]) z L) : IBox ((w.setCell ⟨b, 0, none⟩ (.bool g)).setCell ⟨b, 1, none⟩ (.slice A n c)) b z L := by
 obtain ⟨g', A', n', c', G', _⟩ := F
 exact ⟨g, A, n, c, G'.store _ _, V.fx G' _ _⟩
theorem Ival.at {w : World} {s : Value} {z : Int} {L : Nat} (h : Ival w s z L) {b : Nat} {y : Int} {M : Nat} (F : IBox w b y M) (u v : Value) : Ival ((w.setCell ⟨b, 0, none⟩ u).setCell ⟨b, 1, none⟩ v) s z L := by
 obtain ⟨g', A', n', c', G', _⟩ := F
 exact h.fx G' u v

/-- A pointer to a box, of number n or more. -/
def PBox (n : Nat) (w : World) (x : Value) (z : Int) (L : Nat) : Prop := ∃ k, x = .pointer (some ⟨k, 0, none⟩) ∧ n ≤ k ∧ IBox w k z L

theorem PBox.below {n : Nat} {w w' : World} {x : Value} {z : Int} {L : Nat} (h : PBox n w x z L) (hb : Below w.heap.size w w') : PBox n w' x z L := by
 obtain ⟨k, e, hk, F⟩ := h; exact ⟨k, e, hk, F.below hb⟩
theorem PBox.other {n : Nat} {w : World} {x : Value} {z y : Int} {L M k : Nat} (h : PBox n w x z L) (F : IBox w k y M) (hne : x ≠ .pointer (some ⟨k, 0, none⟩)) (u v : Value) : PBox n ((w.setCell ⟨k, 0, none⟩ u).setCell ⟨k, 1, none⟩ v) x z L := by
 obtain ⟨j, rfl, hj, G⟩ := h
 exact ⟨j, rfl, hj, G.other F (fun e => hne (by rw [e])) u v⟩
theorem PBox.fresh {n : Nat} {w : World} {x : Value} {z : Int} {L : Nat} (h : PBox n w x z L) : x ≠ .pointer (some ⟨w.heap.size, 0, none⟩) := by
 obtain ⟨j, rfl, hj, G⟩ := h
 intro e
 have := G.lt
 injection e with e1
 injection e1 with e2
 injection e2 with e3
 omega

/-- A box that holds a fraction, and may be written. -/
def QBox (w : World) (b : Nat) (n d : Int) (L : Nat) : Prop :=
 ∃ g1 A1 n1 c1 g2 A2 n2 c2, Fx4 w b (.bool g1) (.slice A1 n1 c1) (.bool g2) (.slice A2 n2 c2) ∧ Rat w (.agg #[.bool g1, .slice A1 n1 c1, .bool g2, .slice A2 n2 c2]) n d L

theorem QBox.lt {w : World} {b : Nat} {n d : Int} {L : Nat} (h : QBox w b n d L) : b < w.heap.size := by
 obtain ⟨g1, A1, n1, c1, g2, A2, n2, c2, F, _⟩ := h; exact F.lt
theorem QBox.below {w w' : World} {b : Nat} {n d : Int} {L : Nat} (h : QBox w b n d L) (hb : Below w.heap.size w w') : QBox w' b n d L := by
 obtain ⟨g1, A1, n1, c1, g2, A2, n2, c2, F, V⟩ := h
 exact ⟨g1, A1, n1, c1, g2, A2, n2, c2, F.below hb, V.below hb⟩
theorem QBox.new (w : World) {g1 g2 : Bool} {A1 A2 : Option Addr} {n1 c1 n2 c2 : Nat} {n d : Int} {L : Nat} (t : TypeId) (V : Rat w (.agg #[.bool g1, .slice A1 n1 c1, .bool g2, .slice A2 n2 c2]) n d L) : QBox (w.alloc (.cells #[.bool g1, .slice A1 n1 c1, .bool g2, .slice A2 n2 c2] t)) w.heap.size n d L :=
 ⟨g1, A1, n1, c1, g2, A2, n2, c2, Fx4.new w _ _ _ _ t, V.below (below_alloc _ _)⟩

end Go.Proofs.YtbajnceoolkckaaGreat
