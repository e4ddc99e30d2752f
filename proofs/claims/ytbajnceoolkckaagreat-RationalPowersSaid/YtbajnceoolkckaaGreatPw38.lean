/- Of the proof of RationalPowers: RatW, RatX, RatY, RatPl, RatZ, RatNum. -/
import Derived.Test.YtbajnceoolkckaaGreatPw37
import Derived.Test.YtbajnceoolkckaaGreatPw32
import Derived.Test.YtbajnceoolkckaaGreatPw36
import Derived.Test.YtbajnceoolkckaaGreatPw35
import Derived.Test.YtbajnceoolkckaaGreatPw15
/- Fractions: of of the laws: a slice of fractions of the program's own. -/
namespace Go.Proofs.YtbajnceoolkckaaGreat
open Go.RowKit LM

theorem Tryz.info38 : (Tryz.prog.info? 38).map (fun i => (i.zero, i.size, i.bytes)) = some (some (.agg #[.bool false, .slice none 0 0, .bool false, .slice none 0 0]), 4, 64) := by kernel_rfl

/-- Fractions in a slice of the program's own. -/
def OwnRats (w : World) (base : Nat) (v : Value) (xs : List (Int × Int)) (L : Nat) : Prop :=
 ∃ vs, vs.length = xs.length ∧ w.ownsRow base 38 4 v xs.length (flat vs) ∧ NIrow w v ∧ ∀ i, i < xs.length → Rat w (vs.getD i .nilFunc) (xs.getD i (0, 1)).1 (xs.getD i (0, 1)).2 L

theorem OwnRats.nil (w : World) (base L : Nat) : OwnRats w base (.slice none 0 0) [] L := ⟨[], rfl, World.ownsRow_nil .., NIrow.nil w, fun i hi => absurd hi (by simp)⟩

theorem OwnRats.below {w w' : World} {base : Nat} {v : Value} {xs : List (Int × Int)} {L : Nat} (h : OwnRats w base v xs L) (hb : Below w.heap.size w w') : OwnRats w' base v xs L := by
 obtain ⟨vs, hl, ho, hn, hv⟩ := h
 exact ⟨vs, hl, ownsRow_below ho hb, hn.below hb, fun i hi => (hv i hi).below hb⟩

theorem flat_snoc4 (vs : List Value) (p q : Bool) (x y : Value) : flat (vs ++ [.agg #[.bool p, x, .bool q, y]]) = flat vs ++ [.bool p, x, .bool q, y] := by
 simp [flat, Value.cells]

theorem flat_get4 : ∀ (vs : List Value) (i : Nat), (∀ j, j < vs.length → ∃ g A n c q B m d, vs.getD j .nilFunc = .agg #[.bool g, .slice A n c, .bool q, .slice B m d]) → i < vs.length → ∀ g A n c q B m d, vs.getD i .nilFunc = .agg #[.bool g, .slice A n c, .bool q, .slice B m d] →
  (flat vs)[4 * i]? = some (.bool g) ∧ (flat vs)[4 * i + 1]? = some (.slice A n c) ∧ (flat vs)[4 * i + 2]? = some (.bool q) ∧ (flat vs)[4 * i + 3]? = some (.slice B m d)
 | [], i, _, hi, _, _, _, _, _, _, _, _, _ => absurd hi (by simp)
 | v :: vs, 0, hf, hi, g, A, n, c, q, B, m, d, e => by
  simp at e
  subst e
  simp [flat, Value.cells]
 | v :: vs, i + 1, hf, hi, g, A, n, c, q, B, m, d, e => by
  obtain ⟨g0, A0, n0, c0, q0, B0, m0, d0, e0⟩ := hf 0 (by simp)
  simp at e0
  subst e0
  have := flat_get4 vs i (fun j hj => by have := hf (j + 1) (by simpa using hj); simpa using this) (by simpa using hi) g A n c q B m d (by simpa using e)
  rw [show 4 * (i + 1) = 4 * i + 4 from by omega, show 4 * i + 4 + 1 = 4 * i + 1 + 4 from by omega, show 4 * i + 4 + 2 = 4 * i + 2 + 4 from by omega, show 4 * i + 4 + 3 = 4 * i + 3 + 4 from by omega]
  simpa [flat, Value.cells] using this

/-- An element of such a slice. -/
theorem OwnRats.get {w : World} {base : Nat} {v : Value} {xs : List (Int × Int)} {L : Nat} (h : OwnRats w base v xs L) {i : Nat} (hi : i < xs.length) :
  ∃ b cap g A n c q B m d, v = .slice (some ⟨b, 0, none⟩) xs.length cap ∧ base ≤ b ∧ b < w.heap.size ∧ w.cell? ⟨b, i * 4, none⟩ = some (.bool g) ∧ w.cell? ⟨b, i * 4 + 1, none⟩ = some (.slice A n c) ∧ w.cell? ⟨b, i * 4 + 2, none⟩ = some (.bool q) ∧ w.cell? ⟨b, i * 4 + 3, none⟩ = some (.slice B m d) ∧
   Rat w (.agg #[.bool g, .slice A n c, .bool q, .slice B m d]) (xs.getD i (0, 1)).1 (xs.getD i (0, 1)).2 L := by
 obtain ⟨vs, hl, ho, hn, hv⟩ := h
 have hform : ∀ j, j < vs.length → ∃ g A n c q B m d, vs.getD j .nilFunc = .agg #[.bool g, .slice A n c, .bool q, .slice B m d] := fun j hj => (hv j (by omega)).form
 obtain ⟨g, A, n, c, q, B, m, d, e⟩ := hform i (by omega)
 obtain ⟨f0, f1, f2, f3⟩ := flat_get4 vs i hform (by omega) g A n c q B m d e
 have hvi := hv i hi
 rw [e] at hvi
 rcases ho.2 with ⟨_, h0⟩ | ⟨b, cap, cur, rfl, hb, hh, hrest⟩
 ·omega
 ·have h0 := ho.cells (g := b) rfl (4 * i) _ f0
  have h1 := ho.cells (g := b) rfl (4 * i + 1) _ f1
  have h2 := ho.cells (g := b) rfl (4 * i + 2) _ f2
  have h3 := ho.cells (g := b) rfl (4 * i + 3) _ f3
  have hadd : ∀ j, (⟨b, 0, none⟩ : Addr).add j = ⟨b, j, none⟩ := fun j => by unfold Addr.add; split <;> simp_all
  rw [hadd] at h0 h1 h2 h3
  exact ⟨b, cap, g, A, n, c, q, B, m, d, rfl, hb, (Array.getElem?_eq_some_iff.1 hh).1, by rw [Nat.mul_comm]; exact h0, by rw [Nat.mul_comm]; exact h1, by rw [Nat.mul_comm]; exact h2, by rw [Nat.mul_comm]; exact h3, hvi⟩

theorem OwnRats.snoc {w w' : World} {base : Nat} {v v' : Value} {xs : List (Int × Int)} {L : Nat} {vs : List Value} {x : Int × Int} {g q : Bool} {A B : Option Addr} {n c m d : Nat} (hl : vs.length = xs.length) (hv : ∀ i, i < xs.length → Rat w (vs.getD i .nilFunc) (xs.getD i (0, 1)).1 (xs.getD i (0, 1)).2 L) (hz : Rat w (.agg #[.bool g, .slice A n c, .bool q, .slice B m d]) x.1 x.2 L)
  (hni : NIrow w v) (ho : w'.ownsRow base 38 4 v' (xs.length + 1) (flat vs ++ [.bool g, .slice A n c, .bool q, .slice B m d])) (hg : w.grownBy w' v.ownBlock) (hn : NIrow w' v') : OwnRats w' base v' (xs ++ [x]) L := by
 refine ⟨vs ++ [.agg #[.bool g, .slice A n c, .bool q, .slice B m d]], by simp [hl], ?_, hn, fun i hi => ?_⟩
 ·rw [flat_snoc4, List.length_append]; exact ho
 ·rw [List.length_append, List.length_singleton] at hi
  by_cases h : i < xs.length
  ·have e1 : (vs ++ [Value.agg #[.bool g, .slice A n c, .bool q, .slice B m d]]).getD i .nilFunc = vs.getD i .nilFunc := by simp [List.getD, List.getElem?_append_left, hl, h]
   have e2 : (xs ++ [x]).getD i (0, 1) = xs.getD i (0, 1) := by simp [List.getD, List.getElem?_append_left, h]
   rw [e1, e2]; exact (hv i h).off hni hg
  ·obtain rfl : i = xs.length := by omega
   have e1 : (vs ++ [Value.agg #[.bool g, .slice A n c, .bool q, .slice B m d]]).getD xs.length .nilFunc = .agg #[.bool g, .slice A n c, .bool q, .slice B m d] := by simp [List.getD, hl]
   have e2 : (xs ++ [x]).getD xs.length (0, 1) = x := by simp [List.getD]
   rw [e1, e2]; exact hz.off hni hg

theorem wpList_append_rat (w : World) {ops : Array Oper} {rest : List Oper} {o : Oper} {a : Act} {Q : Exit → Act → World → Prop} (hgd : o.guard = none) (s x : Operand)
  (ho : o.op = .call { callee := .builtin .append, args := #[s, x], argTypes := #[92, 92] })
  {base : Nat} {v : Value} {xs : List (Int × Int)} {L : Nat} (hs : a.eval s = v) (hown : OwnRats w base v xs L) {b : Nat} {g q : Bool} {A B : Option Addr} {n c m d : Nat} {z : Int × Int} (hx : a.eval x = .slice (some ⟨b, 0, none⟩) 1 1)
  (h0 : w.cell? ⟨b, 0, none⟩ = some (.bool g)) (h1 : w.cell? ⟨b, 1, none⟩ = some (.slice A n c)) (h2 : w.cell? ⟨b, 2, none⟩ = some (.bool q)) (h3 : w.cell? ⟨b, 3, none⟩ = some (.slice B m d)) (hz : Rat w (.agg #[.bool g, .slice A n c, .bool q, .slice B m d]) z.1 z.2 L) (hlen : xs.length ≤ 1000000) (hbase : base ≤ w.heap.size)
  (h : ∀ v' w', OwnRats w' base v' (xs ++ [z]) L → NIrow w v → w.grownBy w' v.ownBlock → (∀ g, v.ownBlock = some g → base ≤ g) → wpList Tryz.prog ops Q rest (a.put o.dst v') w') : wpList Tryz.prog ops Q (o :: rest) a w := by
 obtain ⟨i0, hi, hz0, hz1, hz2⟩ := info_parts Tryz.info38
 obtain ⟨vs, hl, ow, hni, hv⟩ := hown
 refine wpList_append_ni w hgd s x 92 ho base 38 i0 (.agg #[.bool false, .slice none 0 0, .bool false, .slice none 0 0]) 4 64 Tryz.underlying92 hi hz0 hz1 hz2 rfl (by decide) v xs.length (flat vs) hs ow ⟨b, 0, none⟩ 1 1 [.bool g, .slice A n c, .bool q, .slice B m d] hx rfl ?_ ?_ (by unfold maxLen; omega) (by omega) hbase hni ?_ ?_ ?_
 ·intro j u hj
  match j, hj with
  | 0, hj => simp at hj; subst hj; simpa [Addr.add] using h0
  | 1, hj => simp at hj; subst hj; simpa [Addr.add] using h1
  | 2, hj => simp at hj; subst hj; simpa [Addr.add] using h2
  | 3, hj => simp at hj; subst hj; simpa [Addr.add] using h3
 ·intro u hu; simp at hu; rcases hu with rfl | rfl | rfl | rfl <;> rfl
 ·intro y hy; simp [Value.cells] at hy; rcases hy with rfl | rfl | rfl | rfl
  ·exact noInt_bool _
  ·exact noInt_slice _ _ _
  ·exact noInt_bool _
  ·exact noInt_slice _ _ _
 ·intro y hy; simp at hy; rcases hy with rfl | rfl | rfl | rfl
  ·exact noInt_bool _
  ·exact noInt_slice _ _ _
  ·exact noInt_bool _
  ·exact noInt_slice _ _ _
 ·intro v' w' ho' hg hn'
  exact h v' w' (OwnRats.snoc hl hv hz hni ho' hg hn') hni hg (fun g hg' => (ow.lt g hg').1)

theorem take_snoc' {zs : List (Int × Int)} {N k : Nat} (hz : zs.length = N) (hk : k < N) : zs.take (k + 1) = zs.take k ++ [zs.getD k (0, 1)] := by
 rw [List.take_succ_eq_append_getElem (by omega)]
 simp [List.getD, List.getElem?_eq_getElem (show k < zs.length by omega)]

/-- An array of fractions as the laws get them. -/
def GivenQ (w : World) (g N L : Nat) (zs : List (Int × Int)) : Prop :=
 zs.length = N ∧ g < w.heap.size ∧ ∀ i, i < N → ∃ p A n c xs q B m d ys, w.cell? ⟨g, i * 4, none⟩ = some (.bool p) ∧ w.cell? ⟨g, i * 4 + 1, none⟩ = some (.slice A n c) ∧ w.cell? ⟨g, i * 4 + 2, none⟩ = some (.bool q) ∧ w.cell? ⟨g, i * 4 + 3, none⟩ = some (.slice B m d) ∧
  Row .u32 w A n c xs ∧ Dig xs ∧ n ≤ L ∧ Row .u32 w B m d ys ∧ Dig ys ∧ m ≤ L ∧ zs.getD i (0, 1) = (ofN (withSign p (val xs)) (withSign q (val ys)), ofD (withSign p (val xs)) (withSign q (val ys)))

set_option maxRecDepth 100000 in
set_option maxHeartbeats 4000000 in
theorem ofList_any (g N L : Nat) (zs : List (Int × Int)) (w : World) (h : GivenQ w g N L zs) (hN : N ≤ 1000) (hL : L ≤ 400) :
  Calls Tryz.prog 60 #[.slice (some ⟨g, 0, none⟩) N N] w fun e w' => (∃ v, e = .returned v ∧ OwnRats w' w.heap.size v zs (L + 4)) ∧ Below w.heap.size w w' := by
 obtain ⟨hzl, hg, hgive⟩ := h
 have HZ := Lib.hid hzl
 have HG := Lib.hid hgive
 clear hzl hgive
 go_enter Tryz.func60, Tryz.ntmps60
 go_wp2_with fail
 go_loopw [3, 10] (fun vv iv wr => ∃ k : Nat, iv = .int .i64 k ∧ k ≤ N ∧ Hid (OwnRats wr w.heap.size vv (zs.take k) (L + 4)) ∧ Hid (Below w.heap.size w wr)) (fun _ iv _ => N - (intOf iv).toNat)
 case atStart => exact ⟨0, rfl, Nat.zero_le _, Lib.hid (OwnRats.nil _ _ _), Lib.hid (Below.refl _ _)⟩
 case round =>
  obtain ⟨k, rfl, hk, hv, hb⟩ := hrel
  by_cases hlt : k < N
  ·obtain ⟨p, A, n, c, xs, q, B, m, d, ys, c0, c1, c2, c3, hr1, hd1, hn1, hr2, hd2, hn2, hz⟩ := HG.out k hlt
   have e0 : wr.cell? ⟨g, k * 4, none⟩ = _ := (hb.out.cell (p := ⟨g, k * 4, none⟩) hg).trans c0
   have e1 : wr.cell? ⟨g, k * 4 + 1, none⟩ = _ := (hb.out.cell (p := ⟨g, k * 4 + 1, none⟩) hg).trans c1
   have e2 : wr.cell? ⟨g, k * 4 + 2, none⟩ = _ := (hb.out.cell (p := ⟨g, k * 4 + 2, none⟩) hg).trans c2
   have e3 : wr.cell? ⟨g, k * 4 + 3, none⟩ = _ := (hb.out.cell (p := ⟨g, k * 4 + 3, none⟩) hg).trans c3
   have hA := below_alloc wr (.cells #[.bool p, .slice A n c, .bool q, .slice B m d] 26)
   have R1 := Lib.hid ((hr1.below hb.out).below hA)
   have R2 := Lib.hid ((hr2.below hb.out).below hA)
   have HD := Lib.hid (And.intro hd1 hd2)
   have HL := Lib.hid (And.intro hn1 hn2)
   have HZk := Lib.hid hz
   replace hv := Lib.hid (hv.out.below hA)
   replace hb := Lib.hid (hb.out.trans (hA.mono hb.out.size))
   clear c0 c1 c2 c3 hr1 hr2 hd1 hd2 hn1 hn2 hz hA
   go_wp2_with fail
   refine (ofQ_any p q A B n c m d xs ys _ R1.out HD.out.1 R2.out HD.out.2 (by have := HL.out; omega) (by have := HL.out; omega)).mono ?_
   rintro e w1 ⟨⟨q1, K1, m1, d1, q2, K2, m2, d2, q3, K3, m3, d3, q4, K4, m4, d4, rfl, hq, -⟩, hb1⟩
   have HQ := Lib.hid hq
   replace hv := Lib.hid (hv.out.below hb1)
   replace hb := Lib.hid (hb.out.trans (hb1.mono hb.out.size))
   clear hq hb1 e0 e1 e2 e3 R1 R2
   have hX := below_two w1 (.cells #[.bool q1, .slice K1 m1 d1, .bool q2, .slice K2 m2 d2] 38) (.cells #[.bool q3, .slice K3 m3 d3, .bool q4, .slice K4 m4 d4] 43)
   have B6 := Lib.hid ((Fx4.new w1 (.bool q1) (.slice K1 m1 d1) (.bool q2) (.slice K2 m2 d2) 38).below (below_alloc _ (.cells #[.bool q3, .slice K3 m3 d3, .bool q4, .slice K4 m4 d4] 43)))
   replace HQ := Lib.hid (HQ.out.below hX)
   replace hv := Lib.hid (hv.out.below hX)
   replace hb := Lib.hid (hb.out.trans (hX.mono hb.out.size))
   clear hX
   go_upto_region 6 with fail
   generalize (w1.alloc (.cells #[.bool q1, .slice K1 m1 d1, .bool q2, .slice K2 m2 d2] 38)).alloc (.cells #[.bool q3, .slice K3 m3 d3, .bool q4, .slice K4 m4 d4] 43) = W2 at *
   generalize w1.heap.size = j6 at *
   have HX := Lib.hid (below_alloc W2 (.cells #[.bool q1, .slice K1 m1 d1, .bool q2, .slice K2 m2 d2] 38))
   obtain ⟨f0, f1, f2, f3, -, -, -, -, -⟩ := B6.out
   have hbz := hb.out.size
   go_wp2_with (at_builtin; refine wpList_append_rat _ rfl (.tmp 19) (.tmp 21) rfl (xs := zs.take k) (L := L + 4) (z := zs.getD k (0, 1)) rfl (hv.out.below HX.out) rfl (World.cell?_alloc_at _ _ _ _ rfl) (World.cell?_alloc_at _ _ _ _ rfl) (World.cell?_alloc_at _ _ _ _ rfl) (World.cell?_alloc_at _ _ _ _ rfl) ?c1 ?c2 ?c3 ?_)
   case c1 => rw [HZk.out]; exact (HQ.out.below HX.out).mono (by have := HL.out; omega)
   case c2 => rw [List.length_take]; omega
   case c3 => have := HX.out.size; omega
   intro v' w2 hown hni hgr hge
   have hbn := Lib.hid ((hb.out.trans (HX.out.mono hb.out.size)).grown hgr (by have := HX.out.size; omega) (fun j hj => hge j hj))
   have HO := Lib.hid hown
   clear hown hni hgr hge
   go_wp2
   exact ⟨⟨k + 1, by go_num, hlt, Lib.hid (by rw [take_snoc' HZ.out hlt]; exact HO.out), hbn⟩, by simp [intOf]; omega⟩
  ·obtain rfl : k = N := by omega
   go_wp2
   go_ret
   have := hv.out
   rw [List.take_of_length_le (by rw [HZ.out]; exact Nat.le_refl _)] at this
   exact ⟨⟨_, rfl, this⟩, hb.out⟩

end Go.Proofs.YtbajnceoolkckaaGreat
/- Fractions by their values: what sums, products and comparisons answer. -/
namespace Go.Proofs.YtbajnceoolkckaaGreat
open Go.RowKit LM

/-- A fraction whose value is Q over P. -/
def VRat (w : World) (v : Value) (Q P : Int) (L : Nat) : Prop := ∃ N D, Rat w v N D L ∧ N * P = Q * D ∧ 0 < P

theorem VRat.below {w w' : World} {v : Value} {Q P : Int} {L : Nat} (h : VRat w v Q P L) (hb : Below w.heap.size w w') : VRat w' v Q P L := by
 obtain ⟨N, D, hr, h⟩ := h; exact ⟨N, D, hr.below hb, h⟩
theorem VRat.form {w : World} {v : Value} {Q P : Int} {L : Nat} (h : VRat w v Q P L) : ∃ g1 A1 n1 c1 g2 A2 n2 c2, v = .agg #[.bool g1, .slice A1 n1 c1, .bool g2, .slice A2 n2 c2] := by
 obtain ⟨N, D, hr, h⟩ := h; exact hr.form
theorem VRat.mono {w : World} {v : Value} {Q P : Int} {L M : Nat} (h : VRat w v Q P L) (hl : L ≤ M) : VRat w v Q P M := by
 obtain ⟨N, D, hr, h⟩ := h; exact ⟨N, D, hr.mono hl, h⟩
theorem Rat.d0 {w : World} {v : Value} {n d : Int} {L : Nat} (h : Rat w v n d L) : 0 < d := by
 obtain ⟨g1, A1, n1, c1, g2, A2, n2, c2, e, h1, h2, h3, h4⟩ := h; exact h3
theorem Rat.v {w : World} {v : Value} {n d : Int} {L : Nat} (h : Rat w v n d L) : VRat w v n d L := ⟨n, d, h, rfl, h.d0⟩

/-- What answers with a fraction of a value. -/
def VRes (L : Nat) (Q P : Int) (w : World) (e : Ending) (w' : World) : Prop :=
 (∃ g1 A1 n1 c1 g2 A2 n2 c2, e = .returned (.agg #[.bool g1, .slice A1 n1 c1, .bool g2, .slice A2 n2 c2]) ∧ VRat w' (.agg #[.bool g1, .slice A1 n1 c1, .bool g2, .slice A2 n2 c2]) Q P L) ∧ Below w.heap.size w w'

theorem cancel {a b c : Int} (hc : 0 < c) (h : a * c = b * c) : a = b := Int.eq_of_mul_eq_mul_right (by omega) h

theorem mul_v (u v : Value) (Q1 P1 Q2 P2 : Int) (L : Nat) (w : World) (h : VRat w u Q1 P1 L) (g : VRat w v Q2 P2 L) (hL : L ≤ 400000) (hL2 : 2 ≤ L) :
  Calls Tryz.prog 44 #[u, v] w (VRes (2 * L + 5) (Q1 * Q2) (P1 * P2) w) := by
 obtain ⟨N1, D1, h, h1, h0⟩ := h
 obtain ⟨N2, D2, g, g1, g0⟩ := g
 refine (Mul_q u v N1 D1 N2 D2 L w h g hL hL2).mono ?_
 rintro e w' ⟨N, D, hc, ⟨y1, y2, y3, y4, y5, y6, y7, y8, rfl, hr⟩, hb⟩
 refine ⟨⟨y1, y2, y3, y4, y5, y6, y7, y8, rfl, N, D, hr.mono (by omega), ?_, Int.mul_pos h0 g0⟩, hb⟩
 refine cancel (Int.mul_pos h.d0 g.d0) ?_
 clear h g hr hb
 grind

theorem cmpI_scale {a b k : Int} (hk : 0 < k) : cmpI (a * k) (b * k) = cmpI a b := by
 rcases Int.lt_trichotomy a b with h | h | h
 ·rw [cmpI_lt h, cmpI_lt (Int.mul_lt_mul_of_pos_right h hk)]
 ·rw [h]; rw [cmpI_eq rfl, cmpI_eq rfl]
 ·rw [cmpI_gt h, cmpI_gt (Int.mul_lt_mul_of_pos_right h hk)]

theorem cross_cmp {N1 D1 N2 D2 Q1 P1 Q2 P2 : Int} (h1 : N1 * P1 = Q1 * D1) (g1 : N2 * P2 = Q2 * D2) (h0 : 0 < P1) (g0 : 0 < P2) (d1 : 0 < D1) (d2 : 0 < D2) : cmpI (N1 * D2) (N2 * D1) = cmpI (Q1 * P2) (Q2 * P1) := by
 rw [← cmpI_scale (a := N1 * D2) (Int.mul_pos h0 g0), ← cmpI_scale (a := Q1 * P2) (Int.mul_pos d1 d2)]
 have e1 : N1 * D2 * (P1 * P2) = Q1 * P2 * (D1 * D2) := by grind
 have e2 : N2 * D1 * (P1 * P2) = Q2 * P1 * (D1 * D2) := by grind
 rw [e1, e2]

theorem same_v (u v : Value) (Q1 P1 Q2 P2 : Int) (L : Nat) (w : World) (h : VRat w u Q1 P1 L) (g : VRat w v Q2 P2 L) (hL : L ≤ 400000) :
  Calls Tryz.prog 61 #[u, v] w fun e w' => e = .returned (.bool (cmpI (Q1 * P2) (Q2 * P1) == 0)) ∧ Below w.heap.size w w' := by
 obtain ⟨N1, D1, h, h1, h0⟩ := h
 obtain ⟨N2, D2, g, g1, g0⟩ := g
 rw [← cross_cmp h1 g1 h0 g0 h.d0 g.d0]
 exact same_any u v N1 D1 N2 D2 L w h g hL

theorem same_v_yes (u v : Value) (Q1 P1 Q2 P2 : Int) (L : Nat) (w : World) (h : VRat w u Q1 P1 L) (g : VRat w v Q2 P2 L) (hL : L ≤ 400000) (he : Q1 * P2 = Q2 * P1) :
  Calls Tryz.prog 61 #[u, v] w fun e w' => e = .returned (.bool true) ∧ Below w.heap.size w w' := by
 refine (same_v u v Q1 P1 Q2 P2 L w h g hL).mono ?_
 rintro e w' ⟨rfl, hb⟩
 refine ⟨?_, hb⟩
 rw [cmpI_eq he]; rfl

end Go.Proofs.YtbajnceoolkckaaGreat
/- Texts of fractions, read back. -/
namespace Go.Proofs.YtbajnceoolkckaaGreat
open Go.RowKit LM

theorem QText.err {R n d err : Int} {T : ByteArray} (h0 : 2 ≤ R) (h1 : R ≤ 36) (h : QText R n d T err) : err = 0 := by
 obtain ⟨T1, ht1, _⟩ := h
 exact (ht1.of h0 h1).1

theorem QText.det {R n d e1 e2 : Int} {S T : ByteArray} (h : QText R n d S e1) (g : QText R n d T e2) : S = T := by
 obtain ⟨T1, a1, h⟩ := h
 obtain ⟨T2, a2, g⟩ := g
 obtain ⟨rfl, rfl⟩ := a1.det a2
 rcases h with ⟨h0, rfl⟩ | ⟨h0, h1, S2, b1, rfl⟩ <;> rcases g with ⟨g0, rfl⟩ | ⟨g0, g1, U2, b2, rfl⟩
 ·rfl
 ·rcases h0 with h0 | h0
  ·exact absurd g0 h0
  ·exact absurd h0 g1
 ·rcases g0 with g0 | g0
  ·exact absurd h0 g0
  ·exact absurd g0 h1
 ·rw [(b1.det b2).1]

theorem Rat.bound {w : World} {v : Value} {n d : Int} {L : Nat} (h : Rat w v n d L) (hL : 1 ≤ L) : (if n < 0 then -n else n) < BB ^ L ∧ (if d < 0 then -d else d) < BB ^ L := by
 obtain ⟨g1, A1, n1, c1, g2, A2, n2, c2, e, h1, h2, h3, h4⟩ := h
 refine ⟨ival_lt h1, ?_⟩
 have := ival_lt h2
 unfold dn at this
 rw [if_neg (by omega : ¬ d < 0)]
 split at this
 ·have hp : (1 : Int) < BB ^ L := by
   obtain ⟨m, rfl⟩ : ∃ m, L = m + 1 := ⟨L - 1, by omega⟩
   have : (0 : Int) < BB ^ m := Int.pow_pos (by decide)
   have hB : BB = 4294967296 := rfl
   have h5 := Int.mul_le_mul_of_nonneg_right (show 1 ≤ BB ^ m by omega) (show 0 ≤ BB by decide)
   rw [Int.pow_succ]
   omega
  omega
 ·rw [if_neg (by omega)] at this; exact this

theorem Rat.cop {w : World} {v : Value} {n d : Int} {L : Nat} (h : Rat w v n d L) : Int.gcd n d = 1 := by
 obtain ⟨g1, A1, n1, c1, g2, A2, n2, c2, e, h1, h2, h3, h4⟩ := h; exact h4

end Go.Proofs.YtbajnceoolkckaaGreat
/- Powers and roots of fractions, as the law wants them. -/
namespace Go.Proofs.YtbajnceoolkckaaGreat
open Go.RowKit LM

theorem sq_cop {x y : Int} (h : Int.gcd x y = 1) : Int.gcd (x * x) (y * y) = 1 := by
 have hc : Nat.Coprime x.natAbs y.natAbs := h
 show Nat.Coprime (x * x).natAbs (y * y).natAbs
 rw [Int.natAbs_mul, Int.natAbs_mul]
 exact Nat.Coprime.mul_left (hc.mul_right hc) (hc.mul_right hc)

/-- A fraction times itself. -/
theorem Mul_sq (u v : Value) (x y : Int) (L : Nat) (w : World) (h : Rat w u x y L) (g : Rat w v x y L) (hL : L ≤ 400000) (hL2 : 2 ≤ L) :
  Calls Tryz.prog 44 #[u, v] w (RatRes (L + 2 + (L + 2)) (x * x) (y * y) w) := by
 refine (Mul_q u v x y x y L w h g hL hL2).mono ?_
 rintro e w' ⟨N, D, hND, ⟨g1, A1, n1, c1, g2, A2, n2, c2, he, hr⟩, hb⟩
 obtain ⟨e1, e2⟩ := frac_unique hr.d0 (Int.mul_pos h.d0 h.d0) hr.cop (sq_cop h.cop) hND
 subst e1 e2
 exact ⟨⟨g1, A1, n1, c1, g2, A2, n2, c2, he, hr⟩, hb⟩

theorem sq_eq {a b : Int} (h : a * a = b * b) : a = b ∨ a = -b := by
 have e : (a - b) * (a + b) = 0 := by grind
 rcases Int.mul_eq_zero.1 e with h | h
 ·exact Or.inl (by omega)
 ·exact Or.inr (by omega)

/-- The root of a square. -/
theorem Root_sq (u : Value) (x y : Int) (L : Nat) (w : World) (h : Rat w u (x * x) (y * y) L) (hy : 0 < y) (hL : L ≤ 30000) (hL2 : 2 ≤ L) :
  Calls Tryz.prog 34 #[u] w (RatErr (L + 1) (absI x) y 0 w) := by
 refine (Root_q u (x * x) (y * y) L w h hL hL2).mono ?_
 have hxx : 0 ≤ x * x := by
  rcases Int.le_total 0 x with h | h
  ·exact Int.mul_nonneg h h
  ·exact Int.mul_nonneg_of_nonpos_of_nonpos h h
 rintro e w' (⟨h1, _⟩ | ⟨_, h1, _⟩ | ⟨r, s, hr0, hs0, hr, hs, hh⟩)
 ·omega
 ·exact absurd ⟨x, y, rfl, rfl⟩ h1
 ·have e1 : s = y := by
   rcases sq_eq hs with h | h <;> omega
  have e2 : r = absI x := by
   unfold absI
   rcases sq_eq hr with h | h <;> split <;> omega
  subst e1 e2
  exact hh

/-- The numerator and the denominator of a power. -/
def pN (x y k : Int) : Int := if 0 ≤ k then x ^ k.natAbs else (upN y x) ^ k.natAbs
def pD (x y k : Int) : Int := if 0 ≤ k then y ^ k.natAbs else (upN x x) ^ k.natAbs

theorem up_eps (x : Int) : ∃ e : Int, (∀ y, upN y x = e * y) := by
 by_cases h : x < 0
 ·exact ⟨-1, fun y => by unfold upN; rw [if_pos h]; omega⟩
 ·exact ⟨1, fun y => by unfold upN; rw [if_neg h]; omega⟩

theorem pow_law (x y i k : Int) : pN x y i * pN x y k * pD x y (i + k) = pN x y (i + k) * (pD x y i * pD x y k) := by
 obtain ⟨e, he⟩ := up_eps x
 unfold pN pD
 rw [he, he]
 by_cases hi : 0 ≤ i
 ·by_cases hk : 0 ≤ k
  ·rw [if_pos hi, if_pos hk, if_pos (by omega), if_pos (by omega), if_pos hi, if_pos hk, show (i + k).natAbs = i.natAbs + k.natAbs from by omega]
   simp only [Int.pow_add, Int.mul_pow, Int.mul_assoc, Int.mul_comm, Int.mul_left_comm]
  ·by_cases hs : 0 ≤ i + k
   ·rw [if_pos hi, if_neg hk, if_pos hs, if_pos hs, if_pos hi, if_neg hk, show i.natAbs = (i + k).natAbs + k.natAbs from by omega]
    simp only [Int.pow_add, Int.mul_pow, Int.mul_assoc, Int.mul_comm, Int.mul_left_comm]
   ·rw [if_pos hi, if_neg hk, if_neg hs, if_neg hs, if_pos hi, if_neg hk, show k.natAbs = (i + k).natAbs + i.natAbs from by omega]
    simp only [Int.pow_add, Int.mul_pow, Int.mul_assoc, Int.mul_comm, Int.mul_left_comm]
 ·by_cases hk : 0 ≤ k
  ·by_cases hs : 0 ≤ i + k
   ·rw [if_neg hi, if_pos hk, if_pos hs, if_pos hs, if_neg hi, if_pos hk, show k.natAbs = (i + k).natAbs + i.natAbs from by omega]
    simp only [Int.pow_add, Int.mul_pow, Int.mul_assoc, Int.mul_comm, Int.mul_left_comm]
   ·rw [if_neg hi, if_pos hk, if_neg hs, if_neg hs, if_neg hi, if_pos hk, show i.natAbs = (i + k).natAbs + k.natAbs from by omega]
    simp only [Int.pow_add, Int.mul_pow, Int.mul_assoc, Int.mul_comm, Int.mul_left_comm]
  ·rw [if_neg hi, if_neg hk, if_neg (by omega), if_neg (by omega), if_neg hi, if_neg hk, show (i + k).natAbs = i.natAbs + k.natAbs from by omega]
   simp only [Int.pow_add, Int.mul_pow, Int.mul_assoc, Int.mul_comm, Int.mul_left_comm]

theorem pow_lt {a : Int} {L p : Nat} (h : (if a < 0 then -a else a) < BB ^ L) (hL : L ≤ 16) (hp : p ≤ 10) : ((a ^ p).natAbs : Int) < BB ^ 200 := by
 have hB : BB = ((4294967296 : Nat) : Int) := rfl
 obtain ⟨B, hBn⟩ : ∃ B : Nat, 4294967296 = B := ⟨_, rfl⟩
 have hB2 : 1 < B := by omega
 rw [hBn] at hB
 have h1 : a.natAbs < B ^ L := by
  have : (a.natAbs : Int) < ((B ^ L : Nat) : Int) := by
   rw [Int.natCast_pow, ← hB]; split at h <;> omega
  exact_mod_cast this
 have h2 : a.natAbs ^ p ≤ (B ^ L) ^ p := Nat.pow_le_pow_left (Nat.le_of_lt h1) p
 have h3 : (B ^ L) ^ p ≤ B ^ 160 := by rw [← Nat.pow_mul]; exact Nat.pow_le_pow_right (by omega) (by have := Nat.mul_le_mul hL hp; omega)
 have h4 : B ^ 160 < B ^ 200 := Nat.pow_lt_pow_right hB2 (by decide)
 rw [Int.natAbs_pow, hB, ← Int.natCast_pow]
 exact Int.ofNat_lt.2 (Nat.lt_of_le_of_lt (Nat.le_trans h2 h3) h4)

theorem Ival.tight2 {w : World} {v : Value} {z : Int} {L K : Nat} (h : Ival w v z L) (hz : (z.natAbs : Int) < BB ^ K) : Ival w v z K := by
 obtain ⟨neg, s, a, e, hn, ha, hs, hneg⟩ := h
 have haz : a < BB ^ K := by
  cases neg with
  | false => simp [withSign] at hs; omega
  | true => simp [withSign] at hs; omega
 exact ⟨neg, s, a, e, hn.tight haz, ha, hs, hneg⟩
theorem Rat.tight2 {w : World} {v : Value} {n d : Int} {L K : Nat} (h : Rat w v n d L) (hn : (n.natAbs : Int) < BB ^ K) (hd : (d.natAbs : Int) < BB ^ K) : Rat w v n d K := by
 obtain ⟨g1, A1, n1, c1, g2, A2, n2, c2, e, h1, h2, h3⟩ := h
 refine ⟨g1, A1, n1, c1, g2, A2, n2, c2, e, h1.tight2 hn, h2.tight2 ?_, h3⟩
 unfold dn
 split
 ·exact Int.pow_pos (by decide)
 ·exact hd

/-- A power of a fraction other than 0. -/
theorem Power_nz (v : Value) (x y k : Int) (L : Nat) (w : World) (h : Rat w v x y L) (hL : L ≤ 16) (hL2 : 2 ≤ L) (hx : x ≠ 0) (hk1 : -10 ≤ k) (hk2 : k ≤ 10) :
  Calls Tryz.prog 32 #[v, .int .i64 k] w (RatErr 200 (pN x y k) (pD x y k) 0 w) := by
 refine (Power_q v x y k L w h hL hL2 (by omega) (by omega)).mono ?_
 have hb := h.bound (by omega)
 rintro e w' (⟨_, h0, _⟩ | ⟨a, b, hb0, hab, hc, ⟨g1, A1, n1, c1, g2, A2, n2, c2, he, hr⟩, hB⟩)
 ·exact absurd h0 hx
 ·have hab2 : (if a < 0 then -a else a) < BB ^ L ∧ (if b < 0 then -b else b) < BB ^ L ∧ a ^ k.natAbs = pN x y k ∧ b ^ k.natAbs = pD x y k := by
   rcases hc with ⟨hk0, rfl, rfl⟩ | ⟨hk0, _, rfl, rfl⟩
   ·exact ⟨hb.1, hb.2, by unfold pN; rw [if_pos hk0], by unfold pD; rw [if_pos hk0]⟩
   ·refine ⟨?_, ?_, by unfold pN; rw [if_neg (by omega)], by unfold pD; rw [if_neg (by omega)]⟩
    ·have := hb.2; unfold upN; split at this <;> (repeat' split) <;> omega
    ·have := hb.1; unfold upN; split at this <;> (repeat' split) <;> omega
  refine ⟨⟨g1, A1, n1, c1, g2, A2, n2, c2, he, ?_⟩, hB⟩
  rw [← hab2.2.2.1, ← hab2.2.2.2]
  exact hr.tight2 (pow_lt hab2.1 hL (by omega)) (pow_lt hab2.2.1 hL (by omega))

end Go.Proofs.YtbajnceoolkckaaGreat
/- The reference's fractions: Sign, Whole, over, Neg, Add, Sub, Cmp; and Is. -/
namespace Go.Proofs.YtbajnceoolkckaaGreat
open Go.RowKit LM

theorem RQ.parts {w : World} {g1 g2 : Bool} {A1 A2 : Option Addr} {n1 c1 n2 c2 : Nat} {n d : Int} {L : Nat} (h : RQ w (.agg #[.bool g1, .slice A1 n1 c1, .bool g2, .slice A2 n2 c2]) n d L) :
  Rval w (.agg #[.bool g1, .slice A1 n1 c1]) n L ∧ Rval w (.agg #[.bool g2, .slice A2 n2 c2]) d L ∧ 0 < d ∧ Int.gcd n d = 1 := by
 obtain ⟨g1', A1', n1', c1', g2', A2', n2', c2', e, h1, h2, h3, h4⟩ := h
 injection e with e
 injection e with e
 simp at e
 obtain ⟨⟨⟩, ⟨rfl, rfl, rfl⟩, ⟨⟩, ⟨rfl, rfl, rfl⟩⟩ := e
 exact ⟨h1, h2, h3, h4⟩

theorem RQ.pos {w : World} {v : Value} {n d : Int} {L : Nat} (h : RQ w v n d L) : 0 < d := by
 obtain ⟨_, _, _, _, _, _, _, _, _, _, _, h3, _⟩ := h; exact h3
end Go.Proofs.YtbajnceoolkckaaGreat
/- The law of numbers of chapter 3, walked. -/
namespace Go.Proofs.YtbajnceoolkckaaGreat
open Go.RowKit LM

/-- The one word of the library's that a comparison of texts may read. -/
def MCell (M : Int) (w : World) : Prop := w.cell? ⟨0, 0, none⟩ = some (.int .i64 M)
theorem MCell.below {w w' : World} {M : Int} (h : MCell M w) (hb : Below w.heap.size w w') : MCell M w' := (hb.cell (p := ⟨0, 0, none⟩) (World.block_lt_of_cell? _ _ h)).trans h
theorem awake_m (w : World) (M : Int) (h : MCell M w) : Calls Tryz.prog 14 #[] w fun e w' => e = .returned (.bool true) ∧ Below w.heap.size w w' := awake_any w M h

theorem lensQ1 (w : World) {g : Nat} (hg : w.heap.size = g) (p0 p1 : Bool) (A0 A1 : Option Addr) (n0 n1 c0 c1 : Nat) :
  LensQ (w.alloc (.cells #[.bool p0, .slice A0 n0 c0, .bool p1, .slice A1 n1 c1] 26)) g 1 [(n0, n1)] := by
 subst hg
 refine ⟨rfl, by simp, fun i hi => ?_⟩
 match i, hi with
 | 0, _ => exact ⟨p0, A0, c0, p1, A1, c1, World.cell?_alloc_at _ _ _ _ rfl, World.cell?_alloc_at _ _ _ _ rfl, World.cell?_alloc_at _ _ _ _ rfl, World.cell?_alloc_at _ _ _ _ rfl⟩

theorem Fx4.new1 (w : World) (v0 v1 v2 v3 : Value) (t : TypeId) (o : Obj) : Fx4 ((w.alloc (.cells #[v0, v1, v2, v3] t)).alloc o) w.heap.size v0 v1 v2 v3 := (Fx4.new w v0 v1 v2 v3 t).below (below_alloc _ _)
theorem Fx4.new2 (w : World) (v0 v1 v2 v3 : Value) (t : TypeId) (C : Array Value) (s : TypeId) : Fx4 ((w.alloc (.cells C s)).alloc (.cells #[v0, v1, v2, v3] t)) (w.heap.size + 1) v0 v1 v2 v3 := by
 have h := Fx4.new (w.alloc (.cells C s)) v0 v1 v2 v3 t
 rw [show (w.alloc (.cells C s)).heap.size = w.heap.size + 1 from by simp] at h
 exact h
end Go.Proofs.YtbajnceoolkckaaGreat
