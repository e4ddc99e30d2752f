import Derived.Test.YtoanomgdkkbbmaaDoorRCore
import Derived.Test.YtoanomgdkkbbmaaDoorWords0
import Derived.Test.YtoanomgdkkbbmaaDoorTexts0
import Derived.Test.YtoanomgdkkbbmaaDoorCore
import Derived.OrdersHeld

/- Small sums for the call that keeps the law awake. -/
namespace Go.Proofs.YtoanomgdkkbbmaaDoor
open Go.RowKit LM

theorem digits_one {xs : List Int} {a : Int} (hd : Dig xs) (ht : Trimmed xs) (h0 : 0 < a) (h1 : a < BB) (h : val xs = a) : xs = [a] :=
  val_inj_trimmed hd (Dig.one (by omega) h1) ht (.inr (by simp; omega)) (by rw [h]; simp [val])

theorem valR_zero_last {R : Int} (hR : 0 < R) : ∀ (l : List Int), DigR R l → valR R l = 0 → ∀ e, e = 0 ∨ l ≠ [] → l.getLastD e = 0
  | [], _, _, e, h => by rcases h with h | h; exact h; exact absurd rfl h
  | d :: l, hd, h, e, _ => by
    have h1 := hd d (by simp)
    have h2 : DigR R l := fun x hx => hd x (by simp [hx])
    have h3 := valR_nonneg (by omega : (0 : Int) ≤ R) h2
    have h4 : 0 ≤ R * valR R l := Int.mul_nonneg (by omega) h3
    simp only [valR] at h
    have h5 : d = 0 := by omega
    have h6 : R * valR R l = 0 := by omega
    have h7 : valR R l = 0 := by
      rcases Int.mul_eq_zero.1 h6 with h | h
      · omega
      · exact h
    rw [List.getLastD_cons]
    exact valR_zero_last hR l h2 h7 d (.inl h5)

theorem text_ff {ds : List Int} (h : DigitsOf 16 255 ds) : strOf (textBytes false ds) = ⟨#[70, 70]⟩ := by
  obtain ⟨hd, hv, hn, hl⟩ := h
  match ds, hd, hv, hn, hl with
  | [d], hd, hv, _, _ =>
    have := hd d (by simp)
    simp only [valR] at hv
    omega
  | d :: e :: l, hd, hv, _, hl =>
    have b0 := hd d (by simp)
    have b1 := hd e (by simp)
    have h2 : DigR 16 l := fun x hx => hd x (by simp [hx])
    have h3 := valR_nonneg (by omega : (0 : Int) ≤ 16) h2
    simp only [valR] at hv
    have hv0 : valR 16 l = 0 := by omega
    have hd0 : d = 15 := by omega
    have he0 : e = 15 := by omega
    have hl0 : l = [] := by
      rcases l with _ | ⟨x, l⟩
      · rfl
      · exfalso
        rw [List.getLastD_cons, List.getLastD_cons] at hl
        exact hl (valR_zero_last (by omega) _ h2 hv0 e (.inr (by simp)))
    subst hd0 he0 hl0
    rfl

theorem comb_and {x y c : Int} (h : Comb 8 x y c) (hx : 0 ≤ x ∧ x < BB) : c = ((x.toNat &&& y.toNat : Nat) : Int) := by
  obtain ⟨hc, hb⟩ := h
  have e : c.toNat = x.toNat &&& y.toNat := by
    refine Nat.eq_of_testBit_eq fun i => ?_
    rw [Nat.testBit_and]
    by_cases hi : i < 32
    · rw [hb i hi]
      cases x.toNat.testBit i <;> cases y.toNat.testBit i <;> decide
    · have p32 : (2 : Nat) ^ 32 ≤ 2 ^ i := Nat.pow_le_pow_right (by omega) (by omega)
      rw [BB_def] at hc hx
      rw [Nat.testBit_lt_two_pow (by omega : c.toNat < 2 ^ i), Nat.testBit_lt_two_pow (by omega : x.toNat < 2 ^ i)]
      rfl
  omega

theorem two_digits {ws : List Int} {x y : Int} (hd : Dig ws) (hl : ws.length = 2) (hx : 0 ≤ x ∧ x < BB) (hy : 0 ≤ y ∧ y < BB) (h : val ws = x + BB * y) : ws = [x, y] :=
  val_inj hd ((Dig.cons_iff).2 ⟨hx, Dig.one hy.1 hy.2⟩) (by simp [hl]) (by rw [h]; simp [val])

theorem boole_four {z : Int} (h : Booled 8 (-4) 7 2 z) : z = 4 := by
  obtain ⟨wx, wy, os, hx, hy, ho, dx, dy, dz, vx, vy, hc, hz⟩ := h
  obtain rfl := two_digits (x := 4294967292) (y := 4294967295) dx hx (by rw [BB_def]; omega) (by rw [BB_def]; omega) (by rw [vx, BB_def]; decide)
  obtain rfl := two_digits (x := 7) (y := 0) dy hy (by rw [BB_def]; omega) (by rw [BB_def]; omega) (by rw [vy, BB_def]; decide)
  have c0 := comb_and (hc 0 (by omega)) (by rw [BB_def]; simp)
  have c1 := comb_and (hc 1 (by omega)) (by rw [BB_def]; simp)
  match os, ho with
  | [o0, o1], _ =>
    have e0 : o0 = 4 := by simpa using c0
    have e1 : o1 = 0 := by simpa using c1
    subst e0 e1
    simpa [val] using hz

theorem div_seven (u v : Value) (w : World) (h : Ival w u (-7) 2) (g : Ival w v 2 2) :
    Calls Tryd.prog 18 #[u, v] w fun e w' => ∃ n1 A1 l1 c1 n2 A2 l2 c2, e = .returned (.tuple #[.agg #[.bool n1, .slice A1 l1 c1], .agg #[.bool n2, .slice A2 l2 c2], .int .i64 0]) ∧
      Ival w' (.agg #[.bool n1, .slice A1 l1 c1]) (-3) 2 ∧ Ival w' (.agg #[.bool n2, .slice A2 l2 c2]) (-1) 2 ∧ Below w.heap.size w w' := by
  have hg0 := g
  obtain ⟨p, s, a, rfl, hn, ha0, hz, hp⟩ := h
  obtain ⟨q, t, b, rfl, gn, gb0, gz, gq⟩ := g
  obtain ⟨A, n, c, xs, rfl, r⟩ := id hn
  obtain ⟨B, m, d, ys, rfl, hr, hd, ht, hv, hm⟩ := id gn
  have hpa : p = true ∧ a = 7 := by cases p <;> simp [withSign] at hz <;> first | omega | exact ⟨rfl, by omega⟩
  have hqb : q = false ∧ b = 2 := by cases q <;> simp [withSign] at gz <;> first | omega | exact ⟨rfl, by omega⟩
  obtain ⟨rfl, rfl⟩ := hpa
  obtain ⟨rfl, rfl⟩ := hqb
  have hys := digits_one hd ht (by omega) (by rw [BB_def]; omega) hv
  have hm1 : m = 1 := by rw [← hr.1, hys]; rfl
  subst hm1
  refine (Divide_of true false A B n c 1 d 7 2 2 2 2 w hn gn (by omega) (by omega) hg0 (fun w1 hb1 => ?_)).mono ?_
  · exact divide_one _ B d 7 2 2 ys w1 (hn.below hb1) (hr.below hb1) hd ht hv (by omega) (by omega)
  · rintro e w' ⟨n1, A1, l1, c1, n2, A2, l2, c2, he, h1, h2, hb⟩
    exact ⟨n1, A1, l1, c1, n2, A2, l2, c2, he, h1, h2, hb⟩

theorem boole_int (u v : Value) (w : World) (h : Ival w u (-4) 2) (g : Ival w v 7 2) :
    Calls Tryd.prog 19 #[u, .int .i64 8, v] w fun e w' => ∃ ng A2 n2 c2, e = .returned (.tuple #[.agg #[.bool ng, .slice A2 n2 c2], .int .i64 0]) ∧ Ival w' (.agg #[.bool ng, .slice A2 n2 c2]) 4 2 ∧ Below w.heap.size w w' := by
  obtain ⟨p, s, a, rfl, ⟨A, n, c, xs, rfl, hr, hd, ht, hv, hn⟩, ha0, hz, hp⟩ := h
  obtain ⟨q, t, b, rfl, ⟨B, m, d, ys, rfl, gr, gd, gt, gv, gm⟩, gb0, gz, gq⟩ := g
  have hpa : p = true ∧ a = 4 := by cases p <;> simp [withSign] at hz <;> first | omega | exact ⟨rfl, by omega⟩
  have hqb : q = false ∧ b = 7 := by cases q <;> simp [withSign] at gz <;> first | omega | exact ⟨rfl, by omega⟩
  obtain ⟨rfl, rfl⟩ := hpa
  obtain ⟨rfl, rfl⟩ := hqb
  have hxs := digits_one hd ht (by omega) (by rw [BB_def]; omega) hv
  have hys := digits_one gd gt (by omega) (by rw [BB_def]; omega) gv
  have hn1 : n = 1 := by rw [← hr.1, hxs]; rfl
  have hm1 : m = 1 := by rw [← gr.1, hys]; rfl
  subst hn1 hm1
  refine (Boole_any true false A B 1 c 1 d 4 7 8 w ⟨xs, hr, hd, hv⟩ ⟨ys, gr, gd, gv⟩ (by omega) (by omega) (by omega) (by omega)).mono ?_
  rintro e w' ⟨⟨z, ng, A2, n2, c2, rfl, hi, hz'⟩, hb⟩
  obtain rfl := boole_four hz'
  exact ⟨ng, A2, n2, c2, rfl, hi, hb⟩

theorem text_int (u : Value) (w : World) (h : Ival w u 255 2) :
    Calls Tryd.prog 7 #[u, .int .i64 16] w fun e w' => e = .returned (.tuple #[.string ⟨#[70, 70]⟩, .int .i64 0]) ∧ Below w.heap.size w w' := by
  refine (Text_some u 255 16 2 w h (by omega) (by omega) (by omega) (by omega)).mono ?_
  rintro e w' ⟨⟨ds, hds, rfl⟩, hb⟩
  refine ⟨?_, hb⟩
  have := text_ff (by simpa using hds)
  rw [← this]; rfl

end Go.Proofs.YtoanomgdkkbbmaaDoor

/- awake: small sums with known answers. -/
namespace Go.Proofs.YtoanomgdkkbbmaaDoor
open Go.RowKit LM

/-- Three integers in boxes. -/
theorem awake_boxes {w3 w8 w' : World} {p q r : Bool} {u v x : Value} (h1 : Below (w3.heap.size + 2) ((w3.alloc (.cells #[.bool p, u] 28)).alloc (.cells #[.bool q, v] 28)) w8) (h2 : Below (w8.heap.size + 1) (w8.alloc (.cells #[.bool r, x] 28)) w') :
    w'.cell? ⟨w3.heap.size, 0, none⟩ = some (.bool p) ∧ w'.cell? ⟨w3.heap.size, 1, none⟩ = some u ∧ w'.cell? ⟨w3.heap.size + 1, 0, none⟩ = some (.bool q) ∧ w'.cell? ⟨w3.heap.size + 1, 1, none⟩ = some v ∧
    w'.cell? ⟨w8.heap.size, 0, none⟩ = some (.bool r) ∧ w'.cell? ⟨w8.heap.size, 1, none⟩ = some x ∧ Below (w8.heap.size + 1) (w8.alloc (.cells #[.bool r, x] 28)) w' := by
  have hs := h1.size
  simp at hs
  refine ⟨?_, ?_, ?_, ?_, ?_, ?_, h2⟩
  · rw [h2.cell (by simp; omega), World.cell?_alloc_past _ _ _ (by show _ < _; omega), h1.cell (by simp), World.cell?_alloc_past _ _ _ (by simp), World.cell?_alloc_at _ _ _ _ rfl]; rfl
  · rw [h2.cell (by simp; omega), World.cell?_alloc_past _ _ _ (by show _ < _; omega), h1.cell (by simp), World.cell?_alloc_past _ _ _ (by simp), World.cell?_alloc_at _ _ _ _ rfl]; rfl
  · rw [h2.cell (by simp; omega), World.cell?_alloc_past _ _ _ (by show _ < _; omega), h1.cell (by simp), World.cell?_alloc_at _ _ _ _ (by simp)]; rfl
  · rw [h2.cell (by simp; omega), World.cell?_alloc_past _ _ _ (by show _ < _; omega), h1.cell (by simp), World.cell?_alloc_at _ _ _ _ (by simp)]; rfl
  · rw [h2.cell (by simp), World.cell?_alloc_at _ _ _ _ rfl]; rfl
  · rw [h2.cell (by simp), World.cell?_alloc_at _ _ _ _ rfl]; rfl

set_option maxRecDepth 100000 in
set_option maxHeartbeats 400000 in
theorem awake_any (w : World) : Calls Tryd.prog 5 #[] w fun e w' => e = .returned (.bool true) ∧ Below w.heap.size w w' := by
  go_enter Tryd.func5, Tryd.ntmps5
  go_wp2_with fail
  refine (new_int (-7) _ (by omega) (by omega)).mono ?_
  rintro e w1 ⟨r1, rfl, hv1, hb1⟩
  have H1 := Lib.hid hv1
  clear hv1
  go_wp2_with fail
  refine (new_int 2 _ (by omega) (by omega)).mono ?_
  rintro e w2 ⟨r2, rfl, hv2, hb2⟩
  have H2 := Lib.hid hv2
  clear hv2
  go_wp2_with fail
  refine (div_seven _ _ _ (H1.out.below hb2) H2.out).mono ?_
  rintro e w3 ⟨n1, A1, l1, c1, n2, A2, l2, c2, rfl, hq, hr, hb3⟩
  have HQ := Lib.hid hq
  have HR := Lib.hid hr
  clear hq hr
  go_wp2_with fail
  have hW := below_two w3 (.cells #[.bool n1, .slice A1 l1 c1] 28) (.cells #[.bool n2, .slice A2 l2 c2] 28)
  refine (new_int 255 _ (by omega) (by omega)).mono ?_
  rintro e w4 ⟨r4, rfl, hv4, hb4⟩
  have hB4 := hb4.mono (B' := w3.heap.size + 2) (by simp)
  have H4 := Lib.hid hv4
  clear hv4
  go_wp2_with fail
  refine (text_int _ _ H4.out).mono ?_
  rintro e w5 ⟨rfl, hb5⟩
  have hB5 := hB4.trans (hb5.mono (by have := hB4.size; simpa using this))
  go_wp2_with fail
  refine (new_int (-4) _ (by omega) (by omega)).mono ?_
  rintro e w6 ⟨r6, rfl, hv6, hb6⟩
  have hB6 := hB5.trans (hb6.mono (by have := hB5.size; simpa using this))
  have H6 := Lib.hid hv6
  clear hv6
  go_wp2_with fail
  refine (new_int 7 _ (by omega) (by omega)).mono ?_
  rintro e w7 ⟨r7, rfl, hv7, hb7⟩
  have hB7 := hB6.trans (hb7.mono (by have := hB6.size; simpa using this))
  have H7 := Lib.hid hv7
  clear hv7
  go_wp2_with fail
  refine (boole_int _ _ _ (H6.out.below hb7) H7.out).mono ?_
  rintro e w8 ⟨ng8, A8, n8, c8, rfl, hv8, hb8⟩
  have hB8 := hB7.trans (hb8.mono (by have := hB7.size; simpa using this))
  have hA8 := below_alloc w8 (.cells #[.bool ng8, .slice A8 n8 c8] 28)
  have H8 := Lib.hid (hv8.below hA8)
  have h38 := hW.trans (hB8.mono (by omega))
  have HQ8 := Lib.hid ((HQ.out.below h38).below hA8)
  have HR8 := Lib.hid ((HR.out.below h38).below hA8)
  have HS := Lib.hid (fun w' => awake_boxes (w' := w') (r := ng8) (x := .slice A8 n8 c8) hB8)
  have hs8 := hB8.size
  have hall := ((hb1.trans (hb2.mono hb1.size)).trans (hb3.mono (Nat.le_trans hb1.size hb2.size))).trans (h38.mono (Nat.le_trans hb1.size (Nat.le_trans hb2.size hb3.size)))
  have HALL := Lib.hid hall
  have hC8 := Below.drew (Below.refl (w8.heap.size + 1) (w8.alloc (.cells #[.bool ng8, .slice A8 n8 c8] 28)))
  clear hv8 hb4 hb5 hb6 hb7 hb8 hB4 hB5 hB6 hB7 hB8 hW hall h38 hA8 hb1 hb2 hb3
  simp only [World.size_alloc] at hs8
  go_wp2_with fail
  go_region_held3 (fun w' => w'.cell? ⟨w3.heap.size, 0, none⟩ = some (.bool n1) ∧ w'.cell? ⟨w3.heap.size, 1, none⟩ = some (.slice A1 l1 c1) ∧ w'.cell? ⟨w3.heap.size + 1, 0, none⟩ = some (.bool n2) ∧ w'.cell? ⟨w3.heap.size + 1, 1, none⟩ = some (.slice A2 l2 c2) ∧
      w'.cell? ⟨w8.heap.size, 0, none⟩ = some (.bool ng8) ∧ w'.cell? ⟨w8.heap.size, 1, none⟩ = some (.slice A8 n8 c8) ∧ Below (w8.heap.size + 1) (w8.alloc (.cells #[.bool ng8, .slice A8 n8 c8] 28)) w')
    (first | (with_reducible exact HS.out _ hC14) | (with_reducible exact HS.out _ hC13) | (with_reducible exact HS.out _ hC12) | (with_reducible exact HS.out _ hC11) | (with_reducible exact HS.out _ hC10) | (with_reducible exact HS.out _ hC9) | (with_reducible exact HS.out _ hC8))
    (first
      | (go_at_call 20; refine (is_yes _ _ 4 2 64 _ (H8.out.below (hC13.mono (by simp))) HR13.out (by omega) (by omega)).mono ?_; rintro e w14 ⟨rfl, hb14⟩; have hC14 := Below.trans hC13 (hb14.mono (by have := hC13.size; simpa using this)))
      | (go_at_call 21; have hK := hC12; clear hK; refine (rnew_any 4 _ (by omega) (by omega)).mono ?_; rintro e w13 ⟨⟨ng13, A13, n13, c13, rfl, hr13⟩, hb13⟩; have HR13 := Lib.hid hr13; clear hr13; have hC13 := Below.trans hC12 (hb13.mono (by have := hC12.size; simpa using this)))
      | (go_at_call 20; refine (is_yes _ _ (-1) 2 64 _ (HR8.out.below (hC11.mono (by simp))) HR11.out (by omega) (by omega)).mono ?_; rintro e w12 ⟨rfl, hb12⟩; have hC12 := Below.trans hC11 (hb12.mono (by have := hC11.size; simpa using this)))
      | (go_at_call 21; have hK := hC10; clear hK; refine (rnew_any (-1) _ (by omega) (by omega)).mono ?_; rintro e w11 ⟨⟨ng11, A11, n11, c11, rfl, hr11⟩, hb11⟩; have HR11 := Lib.hid hr11; clear hr11; have hC11 := Below.trans hC10 (hb11.mono (by have := hC10.size; simpa using this)))
      | (go_at_call 20; refine (is_yes _ _ (-3) 2 64 _ (HQ8.out.below (hC9.mono (by simp))) HR9.out (by omega) (by omega)).mono ?_; rintro e w10 ⟨rfl, hb10⟩; have hC10 := Below.trans hC9 (hb10.mono (by have := hC9.size; simpa using this)))
      | (go_at_call 21; refine (rnew_any (-3) _ (by omega) (by omega)).mono ?_; rintro e w9 ⟨⟨ng9, A9, n9, c9, rfl, hr9⟩, hb9⟩; have HR9 := Lib.hid hr9; clear hr9; have hC9 := Below.trans hC8 (hb9.mono (by simp))))
  go_wp2
  go_ret
  exact ⟨rfl, (HALL.out.trans ((below_alloc w8 _).mono HALL.out.size)).trans (hC14.mono (Nat.le_succ_of_le HALL.out.size))⟩

end Go.Proofs.YtoanomgdkkbbmaaDoor

/- Short. -/
namespace Go.Proofs.YtoanomgdkkbbmaaDoor
open Go.RowKit LM

theorem below_alloc' (w : World) (o : Obj) : Below w.heap.size w (w.alloc o) := (Below.refl _ _).alloc (Nat.le_refl _) _

theorem short1_any (p : Bool) (A : Option Addr) (n c : Nat) (most : Int) (b : Nat) (w : World) (hb : b < w.heap.size) (hc : w.cell? ⟨b, 0, none⟩ = some (.int .i64 most)) :
    Calls Tryd.prog 16 #[.agg #[.bool p, .slice A n c], .pointer (some ⟨b, 0, none⟩)] w fun e w' => e = .returned (.bool (decide (most < (n : Int)))) ∧ Below w.heap.size w w' := by
  go_enter Tryd.func16, Tryd.ntmps16
  go_wp2
  go_ret
  exact ⟨rfl, below_alloc' _ _⟩

/-- An array of signs and limbs: how many limbs. -/
def Lens (w : World) (g N : Nat) (lens : List Nat) : Prop :=
  lens.length = N ∧ g < w.heap.size ∧ ∀ i, i < N → ∃ p A c, w.cell? ⟨g, i * 2, none⟩ = some (.bool p) ∧ w.cell? ⟨g, i * 2 + 1, none⟩ = some (.slice A (lens.getD i 0) c)

theorem Lens.below {w w' : World} {g N : Nat} {lens : List Nat} (h : Lens w g N lens) (hb : Below w.heap.size w w') : Lens w' g N lens := by
  obtain ⟨h1, h2, h3⟩ := h
  refine ⟨h1, Nat.lt_of_lt_of_le h2 hb.size, fun i hi => ?_⟩
  obtain ⟨p, A, c, c0, c1⟩ := h3 i hi
  exact ⟨p, A, c, (hb.cell (p := ⟨g, i * 2, none⟩) h2).trans c0, (hb.cell (p := ⟨g, i * 2 + 1, none⟩) h2).trans c1⟩

/-- Is one too long? -/
def tooLong (lens : List Nat) (most : Int) : Bool := lens.any (fun n => decide (most < (n : Int)))

theorem tooLong_yes {lens : List Nat} {most : Int} {k : Nat} (hk : k < lens.length) (h : most < (lens.getD k 0 : Int)) : tooLong lens most = true := by
  unfold tooLong
  rw [List.any_eq_true]
  refine ⟨lens[k], List.getElem_mem hk, ?_⟩
  have : lens.getD k 0 = lens[k] := by simp [List.getD, hk]
  rw [this] at h
  simpa using h

theorem tooLong_no {lens : List Nat} {most : Int} (h : ∀ i, i < lens.length → ¬ most < (lens.getD i 0 : Int)) : tooLong lens most = false := by
  unfold tooLong
  rw [List.any_eq_false]
  intro n hn
  obtain ⟨i, hi, rfl⟩ := List.mem_iff_getElem.1 hn
  have := h i hi
  have e : lens.getD i 0 = lens[i] := by simp [List.getD, hi]
  rw [e] at this
  simpa using this

set_option maxHeartbeats 400000 in
theorem index_any (g N : Nat) (lens : List Nat) (most : Int) (b : Nat) (w : World) (h : Lens w g N lens) (hN : N ≤ 1000) (hb : b < w.heap.size) (hc : w.cell? ⟨b, 0, none⟩ = some (.int .i64 most)) :
    Calls Tryd.prog 38 #[.slice (some ⟨g, 0, none⟩) N N, .func (Fn.func 16) #[] #[.pointer (some ⟨b, 0, none⟩)]] w fun e w' => (∃ r : Int, e = .returned (.int .i64 r) ∧ decide (0 ≤ r) = tooLong lens most) ∧ Below w.heap.size w w' := by
  obtain ⟨hl, hg, hlens⟩ := h
  have HL := Lib.hid hl
  have HH := Lib.hid hlens
  clear hl hlens
  go_enter Tryd.func38, Tryd.ntmps38
  go_wp2_with fail
  go_loopw [8] (fun iv wr => ∃ k : Nat, iv = .int .i64 k ∧ k ≤ N ∧ Hid (∀ i, i < k → ¬ most < (lens.getD i 0 : Int)) ∧ Below w.heap.size w wr) (fun iv _ => N - (intOf iv).toNat)
  case atStart => exact ⟨0, rfl, Nat.zero_le _, Lib.hid (fun i hi => absurd hi (by omega)), Below.refl _ _⟩
  case round =>
    obtain ⟨k, rfl, hk, HA, hbw⟩ := hrel
    by_cases hlt : k < N
    · obtain ⟨p, A, c, c0, c1⟩ := HH.out k hlt
      have d0 : wr.cell? ⟨g, k * 2, none⟩ = _ := (hbw.cell (p := ⟨g, k * 2, none⟩) hg).trans c0
      have d1 : wr.cell? ⟨g, k * 2 + 1, none⟩ = _ := (hbw.cell (p := ⟨g, k * 2 + 1, none⟩) hg).trans c1
      have hcb := (hbw.cell (p := ⟨b, 0, none⟩) hb).trans hc
      have hbr : b < wr.heap.size := Nat.lt_of_lt_of_le hb hbw.size
      clear c0 c1
      obtain ⟨m, hm⟩ : ∃ m, lens.getD k 0 = m := ⟨_, rfl⟩
      rw [hm] at d1
      have HM := Lib.hid hm
      clear hm
      by_cases hlong : most < (m : Int)
      · go_wp2_with (go_at_call 16; refine (short1_any p A m c most b _ hbr hcb).mono ?_; rintro e w1 ⟨rfl, hb1⟩)
        go_ret
        refine ⟨⟨(k : Int), rfl, ?_⟩, hbw.trans (hb1.mono hbw.size)⟩
        rw [tooLong_yes (k := k) (by rw [HL.out]; exact hlt) (by rw [HM.out]; exact hlong)]
        simp
      · go_wp2_with (go_at_call 16; refine (short1_any p A m c most b _ hbr hcb).mono ?_; rintro e w1 ⟨rfl, hb1⟩)
        refine ⟨⟨k + 1, by go_num, hlt, Lib.hid (fun i hi => ?_), hbw.trans (hb1.mono hbw.size)⟩, by simp [intOf]; omega⟩
        by_cases hik : i = k
        · subst hik; rw [HM.out]; exact Int.not_lt.2 hlong
        · exact Int.not_lt.2 (HA.out i (by omega))
    · obtain rfl : k = N := by omega
      go_wp2
      go_ret
      refine ⟨⟨-1, rfl, ?_⟩, hbw⟩
      rw [tooLong_no (fun i hi => Int.not_lt.2 (HA.out i (by rw [HL.out] at hi; exact hi)))]
      decide

theorem contains_any (g N : Nat) (lens : List Nat) (most : Int) (b : Nat) (w : World) (h : Lens w g N lens) (hN : N ≤ 1000) (hb : b < w.heap.size) (hc : w.cell? ⟨b, 0, none⟩ = some (.int .i64 most)) :
    Calls Tryd.prog 15 #[.slice (some ⟨g, 0, none⟩) N N, .func (Fn.func 16) #[] #[.pointer (some ⟨b, 0, none⟩)]] w fun e w' => e = .returned (.bool (tooLong lens most)) ∧ Below w.heap.size w w' := by
  go_enter Tryd.func15, Tryd.ntmps15
  go_wp2_with fail
  refine (index_any g N lens most b w h hN hb hc).mono ?_
  rintro e w1 ⟨⟨r, rfl, hr⟩, hb1⟩
  have HR := Lib.hid hr
  clear hr
  go_wp2
  go_ret
  exact ⟨by rw [← HR.out]; rfl, hb1⟩

theorem short_any (g N : Nat) (lens : List Nat) (most : Int) (w : World) (h : Lens w g N lens) (hN : N ≤ 1000) :
    Calls Tryd.prog 4 #[.int .i64 most, .slice (some ⟨g, 0, none⟩) N N] w fun e w' => e = .returned (.bool (!tooLong lens most)) ∧ Below w.heap.size w w' := by
  have hmf : ∀ (fn : Fn) (first cap : Array Value) (w : World), (Instr.makeFunc fn first cap).run Tryd.prog w = .ok (.func fn first cap) w := fun _ _ _ _ => rfl
  have hA := below_alloc' w (.cells #[.int .i64 most] 3)
  have hc : (w.alloc (.cells #[.int .i64 most] 3)).cell? ⟨w.heap.size, 0, none⟩ = some (.int .i64 most) := by rw [World.cell?_alloc_at _ _ _ _ rfl]; rfl
  have HC := Lib.hid hc
  clear hc
  go_enter Tryd.func4, Tryd.ntmps4
  go_wp2_with fail
  refine (contains_any g N lens most w.heap.size _ (h.below hA) hN (by simp) HC.out).mono ?_
  rintro e w1 ⟨rfl, hb1⟩
  go_wp2
  go_ret
  exact ⟨rfl, hA.trans (hb1.mono (by simp))⟩

end Go.Proofs.YtoanomgdkkbbmaaDoor

/- IntegerRing: the walk. -/
namespace Go.Proofs.YtoanomgdkkbbmaaDoor
open Go.RowKit LM

/-- The three arguments in boxes. -/
theorem ring_boxes {w w1 : World} {p0 p1 p2 : Bool} {u0 u1 u2 : Value} (h : Below (w.heap.size + 1 + 1 + 1) (((w.alloc (.cells #[.bool p0, u0] 24)).alloc (.cells #[.bool p1, u1] 24)).alloc (.cells #[.bool p2, u2] 24)) w1) :
    w1.cell? ⟨w.heap.size, 0, none⟩ = some (.bool p0) ∧ w1.cell? ⟨w.heap.size, 1, none⟩ = some u0 ∧ w1.cell? ⟨w.heap.size + 1, 0, none⟩ = some (.bool p1) ∧ w1.cell? ⟨w.heap.size + 1, 1, none⟩ = some u1 ∧
    w1.cell? ⟨w.heap.size + 1 + 1, 0, none⟩ = some (.bool p2) ∧ w1.cell? ⟨w.heap.size + 1 + 1, 1, none⟩ = some u2 := by
  refine ⟨?_, ?_, ?_, ?_, ?_, ?_⟩
  · rw [h.cell (by simp; omega), World.cell?_alloc_past _ _ _ (by simp; omega), World.cell?_alloc_past _ _ _ (by simp), World.cell?_alloc_at _ _ _ _ rfl]; rfl
  · rw [h.cell (by simp; omega), World.cell?_alloc_past _ _ _ (by simp; omega), World.cell?_alloc_past _ _ _ (by simp), World.cell?_alloc_at _ _ _ _ rfl]; rfl
  · rw [h.cell (by simp), World.cell?_alloc_past _ _ _ (by simp), World.cell?_alloc_at _ _ _ _ (by simp)]; rfl
  · rw [h.cell (by simp), World.cell?_alloc_past _ _ _ (by simp), World.cell?_alloc_at _ _ _ _ (by simp)]; rfl
  · rw [h.cell (by simp), World.cell?_alloc_at _ _ _ _ (by simp)]; rfl
  · rw [h.cell (by simp), World.cell?_alloc_at _ _ _ _ (by simp)]; rfl

theorem arr_lens (w : World) {g : Nat} (hg : w.heap.size = g) (p0 p1 p2 : Bool) (A0 A1 A2 : Option Addr) (n0 c0 n1 c1 n2 c2 : Nat) :
    Lens (w.alloc (.cells #[.bool p0, .slice A0 n0 c0, .bool p1, .slice A1 n1 c1, .bool p2, .slice A2 n2 c2] 24)) g 3 [n0, n1, n2] := by
  subst hg
  refine ⟨rfl, by simp, fun i hi => ?_⟩
  match i, hi with
  | 0, _ => exact ⟨p0, A0, c0, World.cell?_alloc_at _ _ _ _ rfl, World.cell?_alloc_at _ _ _ _ rfl⟩
  | 1, _ => exact ⟨p1, A1, c1, World.cell?_alloc_at _ _ _ _ rfl, World.cell?_alloc_at _ _ _ _ rfl⟩
  | 2, _ => exact ⟨p2, A2, c2, World.cell?_alloc_at _ _ _ _ rfl, World.cell?_alloc_at _ _ _ _ rfl⟩

theorem arr_given {w w1 : World} {p0 p1 p2 : Bool} {A0 A1 A2 : Option Addr} {n0 c0 n1 c1 n2 c2 : Nat} {xs0 xs1 xs2 : List Int} {L : Nat}
    (h0 : Row .u32 w A0 n0 c0 xs0) (h1 : Row .u32 w A1 n1 c1 xs1) (h2 : Row .u32 w A2 n2 c2 xs2) (d0 : Dig xs0) (d1 : Dig xs1) (d2 : Dig xs2) (b0 : n0 ≤ L) (b1 : n1 ≤ L) (b2 : n2 ≤ L)
    (h : Below w.heap.size w w1) {g : Nat} (hg : w1.heap.size = g) :
    Given (w1.alloc (.cells #[.bool p0, .slice A0 n0 c0, .bool p1, .slice A1 n1 c1, .bool p2, .slice A2 n2 c2] 24)) g 3 L [withSign p0 (val xs0), withSign p1 (val xs1), withSign p2 (val xs2)] := by
  subst hg
  have hb := h.trans ((below_alloc w1 (.cells #[.bool p0, .slice A0 n0 c0, .bool p1, .slice A1 n1 c1, .bool p2, .slice A2 n2 c2] 24)).mono h.size)
  refine ⟨rfl, by simp, fun i hi => ?_⟩
  match i, hi with
  | 0, _ => exact ⟨p0, A0, n0, c0, xs0, World.cell?_alloc_at _ _ _ _ rfl, World.cell?_alloc_at _ _ _ _ rfl, h0.below hb, d0, b0, rfl⟩
  | 1, _ => exact ⟨p1, A1, n1, c1, xs1, World.cell?_alloc_at _ _ _ _ rfl, World.cell?_alloc_at _ _ _ _ rfl, h1.below hb, d1, b1, rfl⟩
  | 2, _ => exact ⟨p2, A2, n2, c2, xs2, World.cell?_alloc_at _ _ _ _ rfl, World.cell?_alloc_at _ _ _ _ rfl, h2.below hb, d2, b2, rfl⟩

/-- Three integers of a list, written out. -/
theorem ints_three {w : World} {base L : Nat} {v : Value} {vs : List Value} {x y z : Int} (h : Ints w base v 3 L vs [x, y, z]) :
    ∃ g c q0 B0 m0 e0 q1 B1 m1 e1 q2 B2 m2 e2, v = .slice (some ⟨g, 0, none⟩) 3 c ∧ base ≤ g ∧ g < w.heap.size ∧
      (w.cell? ⟨g, 0, none⟩ = some (.bool q0) ∧ w.cell? ⟨g, 1, none⟩ = some (.slice B0 m0 e0) ∧ w.cell? ⟨g, 2, none⟩ = some (.bool q1) ∧ w.cell? ⟨g, 3, none⟩ = some (.slice B1 m1 e1) ∧ w.cell? ⟨g, 4, none⟩ = some (.bool q2) ∧ w.cell? ⟨g, 5, none⟩ = some (.slice B2 m2 e2)) ∧
      Ival w (.agg #[.bool q0, .slice B0 m0 e0]) x L ∧ Ival w (.agg #[.bool q1, .slice B1 m1 e1]) y L ∧ Ival w (.agg #[.bool q2, .slice B2 m2 e2]) z L := by
  obtain ⟨hl, ho, hall⟩ := h
  match vs, hl with
  | [v0, v1, v2], _ =>
    have i0 := (hall 0 (by omega)).1
    have i1 := (hall 1 (by omega)).1
    have i2 := (hall 2 (by omega)).1
    simp at i0 i1 i2
    obtain ⟨q0, B0, m0, e0, rfl⟩ := i0.form
    obtain ⟨q1, B1, m1, e1, rfl⟩ := i1.form
    obtain ⟨q2, B2, m2, e2, rfl⟩ := i2.form
    have hf : flat [.agg #[.bool q0, .slice B0 m0 e0], .agg #[.bool q1, .slice B1 m1 e1], .agg #[.bool q2, .slice B2 m2 e2]] = [.bool q0, .slice B0 m0 e0, .bool q1, .slice B1 m1 e1, .bool q2, .slice B2 m2 e2] := by
      simp [flat, Value.cells]
    rw [hf] at ho
    rcases id ho.2 with ⟨_, h0⟩ | ⟨g, cap, cur, rfl, hg, hh, _⟩
    · omega
    · exact ⟨g, cap, q0, B0, m0, e0, q1, B1, m1, e1, q2, B2, m2, e2, rfl, hg, (Array.getElem?_eq_some_iff.1 hh).1, ⟨ho.cellAt 0 (by omega), ho.cellAt 1 (by omega), ho.cellAt 2 (by omega), ho.cellAt 3 (by omega), ho.cellAt 4 (by omega), ho.cellAt 5 (by omega)⟩, i0, i1, i2⟩

/-- Three integers in boxes of the call's own, in some order. -/
def Box3 (w : World) (q0 q1 q2 : Bool) (u0 u1 u2 : Value) (v8 v9 v10 : Value) (wx : World) : Prop :=
  ∃ b8 b9 b10, v8 = .pointer (some ⟨b8, 0, none⟩) ∧ v9 = .pointer (some ⟨b9, 0, none⟩) ∧ v10 = .pointer (some ⟨b10, 0, none⟩) ∧ (b8 < wx.heap.size ∧ b9 < wx.heap.size ∧ b10 < wx.heap.size) ∧
    wx.cell? ⟨b8, 0, none⟩ = some (.bool q0) ∧ wx.cell? ⟨b8, 1, none⟩ = some u0 ∧ wx.cell? ⟨b9, 0, none⟩ = some (.bool q1) ∧ wx.cell? ⟨b9, 1, none⟩ = some u1 ∧ wx.cell? ⟨b10, 0, none⟩ = some (.bool q2) ∧ wx.cell? ⟨b10, 1, none⟩ = some u2 ∧ Below w.heap.size w wx

theorem three_new {w : World} {r0 r1 r2 : Bool} {x0 x1 x2 : Value} : ∃ wx, wx = (((w.alloc (.cells #[.bool r0, x0] 28)).alloc (.cells #[.bool r1, x1] 28)).alloc (.cells #[.bool r2, x2] 28)).drew ∧
    (w.heap.size < wx.heap.size ∧ w.heap.size + 1 < wx.heap.size ∧ w.heap.size + 1 + 1 < wx.heap.size) ∧
    wx.cell? ⟨w.heap.size, 0, none⟩ = some (.bool r0) ∧ wx.cell? ⟨w.heap.size, 1, none⟩ = some x0 ∧ wx.cell? ⟨w.heap.size + 1, 0, none⟩ = some (.bool r1) ∧ wx.cell? ⟨w.heap.size + 1, 1, none⟩ = some x1 ∧
    wx.cell? ⟨w.heap.size + 1 + 1, 0, none⟩ = some (.bool r2) ∧ wx.cell? ⟨w.heap.size + 1 + 1, 1, none⟩ = some x2 ∧ Below w.heap.size w wx := by
  refine ⟨_, rfl, ⟨by show _ < _; simp; omega, by show _ < _; simp, by show _ < _; simp⟩, ?_, ?_, ?_, ?_, ?_, ?_, ?_⟩
  · show World.cell? (((w.alloc _).alloc _).alloc _) _ = _
    rw [World.cell?_alloc_past _ _ _ (by simp; omega), World.cell?_alloc_past _ _ _ (by simp), World.cell?_alloc_at _ _ _ _ rfl]; rfl
  · show World.cell? (((w.alloc _).alloc _).alloc _) _ = _
    rw [World.cell?_alloc_past _ _ _ (by simp; omega), World.cell?_alloc_past _ _ _ (by simp), World.cell?_alloc_at _ _ _ _ rfl]; rfl
  · show World.cell? (((w.alloc _).alloc _).alloc _) _ = _
    rw [World.cell?_alloc_past _ _ _ (by simp), World.cell?_alloc_at _ _ _ _ (by simp)]; rfl
  · show World.cell? (((w.alloc _).alloc _).alloc _) _ = _
    rw [World.cell?_alloc_past _ _ _ (by simp), World.cell?_alloc_at _ _ _ _ (by simp)]; rfl
  · show World.cell? (((w.alloc _).alloc _).alloc _) _ = _
    rw [World.cell?_alloc_at _ _ _ _ (by simp)]; rfl
  · show World.cell? (((w.alloc _).alloc _).alloc _) _ = _
    rw [World.cell?_alloc_at _ _ _ _ (by simp)]; rfl
  · exact ((below_two w _ _).alloc (by simp; omega) _).drew

/-- Whatever the order in which the boxes were made. -/
theorem box3_any {w : World} {q0 q1 q2 : Bool} {u0 u1 u2 : Value} :
    Box3 w q0 q1 q2 u0 u1 u2 (.pointer (some ⟨w.heap.size, 0, none⟩)) (.pointer (some ⟨w.heap.size + 1, 0, none⟩)) (.pointer (some ⟨w.heap.size + 1 + 1, 0, none⟩)) (((w.alloc (.cells #[.bool q0, u0] 28)).alloc (.cells #[.bool q1, u1] 28)).alloc (.cells #[.bool q2, u2] 28)).drew ∧
    Box3 w q0 q1 q2 u0 u1 u2 (.pointer (some ⟨w.heap.size, 0, none⟩)) (.pointer (some ⟨w.heap.size + 1 + 1, 0, none⟩)) (.pointer (some ⟨w.heap.size + 1, 0, none⟩)) (((w.alloc (.cells #[.bool q0, u0] 28)).alloc (.cells #[.bool q2, u2] 28)).alloc (.cells #[.bool q1, u1] 28)).drew ∧
    Box3 w q0 q1 q2 u0 u1 u2 (.pointer (some ⟨w.heap.size + 1, 0, none⟩)) (.pointer (some ⟨w.heap.size, 0, none⟩)) (.pointer (some ⟨w.heap.size + 1 + 1, 0, none⟩)) (((w.alloc (.cells #[.bool q1, u1] 28)).alloc (.cells #[.bool q0, u0] 28)).alloc (.cells #[.bool q2, u2] 28)).drew ∧
    Box3 w q0 q1 q2 u0 u1 u2 (.pointer (some ⟨w.heap.size + 1 + 1, 0, none⟩)) (.pointer (some ⟨w.heap.size, 0, none⟩)) (.pointer (some ⟨w.heap.size + 1, 0, none⟩)) (((w.alloc (.cells #[.bool q1, u1] 28)).alloc (.cells #[.bool q2, u2] 28)).alloc (.cells #[.bool q0, u0] 28)).drew ∧
    Box3 w q0 q1 q2 u0 u1 u2 (.pointer (some ⟨w.heap.size + 1, 0, none⟩)) (.pointer (some ⟨w.heap.size + 1 + 1, 0, none⟩)) (.pointer (some ⟨w.heap.size, 0, none⟩)) (((w.alloc (.cells #[.bool q2, u2] 28)).alloc (.cells #[.bool q0, u0] 28)).alloc (.cells #[.bool q1, u1] 28)).drew ∧
    Box3 w q0 q1 q2 u0 u1 u2 (.pointer (some ⟨w.heap.size + 1 + 1, 0, none⟩)) (.pointer (some ⟨w.heap.size + 1, 0, none⟩)) (.pointer (some ⟨w.heap.size, 0, none⟩)) (((w.alloc (.cells #[.bool q2, u2] 28)).alloc (.cells #[.bool q1, u1] 28)).alloc (.cells #[.bool q0, u0] 28)).drew := by
  refine ⟨?_, ?_, ?_, ?_, ?_, ?_⟩
  · obtain ⟨wx, e, ⟨s0, s1, s2⟩, h0, h1, h2, h3, h4, h5, hb⟩ := three_new (w := w) (r0 := q0) (r1 := q1) (r2 := q2) (x0 := u0) (x1 := u1) (x2 := u2)
    rw [← e]
    exact ⟨_, _, _, rfl, rfl, rfl, ⟨s0, s1, s2⟩, h0, h1, h2, h3, h4, h5, hb⟩
  · obtain ⟨wx, e, ⟨s0, s1, s2⟩, h0, h1, h2, h3, h4, h5, hb⟩ := three_new (w := w) (r0 := q0) (r1 := q2) (r2 := q1) (x0 := u0) (x1 := u2) (x2 := u1)
    rw [← e]
    exact ⟨_, _, _, rfl, rfl, rfl, ⟨s0, s2, s1⟩, h0, h1, h4, h5, h2, h3, hb⟩
  · obtain ⟨wx, e, ⟨s0, s1, s2⟩, h0, h1, h2, h3, h4, h5, hb⟩ := three_new (w := w) (r0 := q1) (r1 := q0) (r2 := q2) (x0 := u1) (x1 := u0) (x2 := u2)
    rw [← e]
    exact ⟨_, _, _, rfl, rfl, rfl, ⟨s1, s0, s2⟩, h2, h3, h0, h1, h4, h5, hb⟩
  · obtain ⟨wx, e, ⟨s0, s1, s2⟩, h0, h1, h2, h3, h4, h5, hb⟩ := three_new (w := w) (r0 := q1) (r1 := q2) (r2 := q0) (x0 := u1) (x1 := u2) (x2 := u0)
    rw [← e]
    exact ⟨_, _, _, rfl, rfl, rfl, ⟨s2, s0, s1⟩, h4, h5, h0, h1, h2, h3, hb⟩
  · obtain ⟨wx, e, ⟨s0, s1, s2⟩, h0, h1, h2, h3, h4, h5, hb⟩ := three_new (w := w) (r0 := q2) (r1 := q0) (r2 := q1) (x0 := u2) (x1 := u0) (x2 := u1)
    rw [← e]
    exact ⟨_, _, _, rfl, rfl, rfl, ⟨s1, s2, s0⟩, h2, h3, h4, h5, h0, h1, hb⟩
  · obtain ⟨wx, e, ⟨s0, s1, s2⟩, h0, h1, h2, h3, h4, h5, hb⟩ := three_new (w := w) (r0 := q2) (r1 := q1) (r2 := q0) (x0 := u2) (x1 := u1) (x2 := u0)
    rw [← e]
    exact ⟨_, _, _, rfl, rfl, rfl, ⟨s2, s1, s0⟩, h4, h5, h2, h3, h0, h1, hb⟩

theorem cmp_is (u v : Value) (x y a : Int) (L M : Nat) (w : World) (h : Ival w u x L) (g : Ival w v y M) (hL : L ≤ 1073741824) (hM : M ≤ 1073741824) (ha : cmpI x y = a) :
    Calls Tryd.prog 36 #[u, v] w fun e w' => e = .returned (.int .i64 a) ∧ Below w.heap.size w w' := ha ▸ cmp_int u v x y L M w h g hL hM

theorem sign_is (u : Value) (x a : Int) (L : Nat) (w : World) (h : Ival w u x L) (ha : cmpI x 0 = a) :
    Calls Tryd.prog 10 #[u] w fun e w' => e = .returned (.int .i64 a) ∧ Below w.heap.size w w' := ha ▸ sign_int u x L w h

theorem cmpI_cases (x y : Int) : (cmpI x y = -1 ∧ cmpI y x = 1 ∧ x < y) ∨ (cmpI x y = 0 ∧ cmpI y x = 0 ∧ x = y) ∨ (cmpI x y = 1 ∧ cmpI y x = -1 ∧ y < x) := by
  rcases Int.lt_trichotomy x y with h | h | h
  · exact .inl ⟨cmpI_lt h, cmpI_gt h, h⟩
  · exact .inr (.inl ⟨cmpI_eq h, cmpI_eq h.symm, h⟩)
  · exact .inr (.inr ⟨cmpI_gt h, cmpI_lt h, h⟩)

theorem cmpI_add (x y z : Int) : cmpI (x + z) (y + z) = cmpI x y := by
  rcases cmpI_cases x y with ⟨h, _, g⟩ | ⟨h, _, g⟩ | ⟨h, _, g⟩
  · rw [h, cmpI_lt (by omega)]
  · rw [h, cmpI_eq (by omega)]
  · rw [h, cmpI_gt (by omega)]

theorem cmpI_mul (x y z : Int) (hz : 0 < z) : cmpI (x * z) (y * z) = cmpI x y := by
  rcases cmpI_cases x y with ⟨h, _, g⟩ | ⟨h, _, g⟩ | ⟨h, _, g⟩
  · rw [h, cmpI_lt (Int.mul_lt_mul_of_pos_right g hz)]
  · rw [h, cmpI_eq (by rw [g])]
  · rw [h, cmpI_gt (Int.mul_lt_mul_of_pos_right g hz)]

theorem cmpI_le {x y : Int} : cmpI x y ≤ 0 ↔ x ≤ y := by
  rcases cmpI_cases x y with ⟨h, _, g⟩ | ⟨h, _, g⟩ | ⟨h, _, g⟩ <;> rw [h] <;> omega

theorem cmpI_pos {x y : Int} : 0 < cmpI x y ↔ y < x := by
  rcases cmpI_cases x y with ⟨h, _, g⟩ | ⟨h, _, g⟩ | ⟨h, _, g⟩ <;> rw [h] <;> omega

theorem Ival.zero (w : World) : Ival w (.agg #[.bool false, .slice none 0 0]) 0 0 :=
  ⟨false, _, 0, rfl, ⟨none, 0, 0, [], rfl, Row.nil_, Dig.nil, .inl rfl, rfl, Nat.le_refl _⟩, Int.le_refl _, rfl, by simp⟩

/-- The boxes in a later world. -/
theorem box_held {w w' : World} {b8 b9 b10 : Nat} (s8 : b8 < w.heap.size) (s9 : b9 < w.heap.size) (s10 : b10 < w.heap.size) {u0 u1 u2 u3 u4 u5 : Value} (h0 : w.cell? ⟨b8, 0, none⟩ = some u0) (h1 : w.cell? ⟨b8, 1, none⟩ = some u1) (h2 : w.cell? ⟨b9, 0, none⟩ = some u2) (h3 : w.cell? ⟨b9, 1, none⟩ = some u3) (h4 : w.cell? ⟨b10, 0, none⟩ = some u4) (h5 : w.cell? ⟨b10, 1, none⟩ = some u5) (h : Below w.heap.size w w') :
    w'.cell? ⟨b8, 0, none⟩ = some u0 ∧ w'.cell? ⟨b8, 1, none⟩ = some u1 ∧ w'.cell? ⟨b9, 0, none⟩ = some u2 ∧ w'.cell? ⟨b9, 1, none⟩ = some u3 ∧ w'.cell? ⟨b10, 0, none⟩ = some u4 ∧ w'.cell? ⟨b10, 1, none⟩ = some u5 ∧ Below w.heap.size w w' :=
  ⟨(h.cell (by exact s8)).trans h0, (h.cell (by exact s8)).trans h1, (h.cell (by exact s9)).trans h2, (h.cell (by exact s9)).trans h3, (h.cell (by exact s10)).trans h4, (h.cell (by exact s10)).trans h5, h⟩

theorem below_step {w w' : World} (h : Below w.heap.size w w') (o : Obj) : Below w.heap.size w (w'.alloc o) := h.alloc h.size o

theorem ints_held {w w' : World} {g : Nat} (hg : g < w.heap.size) {u0 u1 u2 u3 u4 u5 : Value} (h0 : w.cell? ⟨g, 0, none⟩ = some u0) (h1 : w.cell? ⟨g, 1, none⟩ = some u1) (h2 : w.cell? ⟨g, 2, none⟩ = some u2) (h3 : w.cell? ⟨g, 3, none⟩ = some u3) (h4 : w.cell? ⟨g, 4, none⟩ = some u4) (h5 : w.cell? ⟨g, 5, none⟩ = some u5) (h : Below w.heap.size w w') :
    w'.cell? ⟨g, 0, none⟩ = some u0 ∧ w'.cell? ⟨g, 1, none⟩ = some u1 ∧ w'.cell? ⟨g, 2, none⟩ = some u2 ∧ w'.cell? ⟨g, 3, none⟩ = some u3 ∧ w'.cell? ⟨g, 4, none⟩ = some u4 ∧ w'.cell? ⟨g, 5, none⟩ = some u5 ∧ Below w.heap.size w w' :=
  ⟨(h.cell (by exact hg)).trans h0, (h.cell (by exact hg)).trans h1, (h.cell (by exact hg)).trans h2, (h.cell (by exact hg)).trans h3, (h.cell (by exact hg)).trans h4, (h.cell (by exact hg)).trans h5, h⟩

end Go.Proofs.YtoanomgdkkbbmaaDoor

/- Taking an operation of a drawn region first, its slot said outright. -/
namespace Go.Proofs.YtoanomgdkkbbmaaDoor
open Go.RowKit LM

theorem wpAnyH_taken {P : Program} {md : Region.Mode} {ops : Array Oper} {Q : Exit → Act → World → Prop} {S : World → Prop} {i : Nat} {oi : Oper} {d : Option Tmp} {v : Value} {fuel : Nat} {listed : Array Bool} {a : Act} {w : World}
    (hi : ops[i]? = some oi) (hd : oi.dst = d)
    (hs : Region.noSelect ops = true) (hf : Region.free md ops listed i = true) (hr : (Region.ready md ops listed).contains i = true)
    (hQ : ∀ c a w, Q (.panic c) (a.put oi.dst v) w → Q (.panic c) a w) (hy : YieldsIf P ops S oi v a) (hS : S w)
    (h : wpAnyH P md ops Q S fuel (listed.setIfInBounds i true) (a.put d v) w) : wpAnyH P md ops Q S (fuel + 1) listed a w := by
  subst hd
  exact wpAnyH_take hi hs hf hr hQ hy hS h

end Go.Proofs.YtoanomgdkkbbmaaDoor

