/- Small sums for the call that keeps the law awake. -/
import Derived.Test.YtoanomgdkkbbmaaIs
import Derived.Test.YtoanomgdkkbbmaaBoole
import Derived.Test.YtoanomgdkkbbmaaText2
import Derived.Test.YtoanomgdkkbbmaaDivide
namespace Go.Proofs.Ytoanomgdkkbbmaa
open Go.RowKit LM

theorem digits_one {xs : List Int} {a : Int} (hd : Dig xs) (ht : Trimmed xs) (h0 : 0 < a) (h1 : a < BB) (h : val xs = a) : xs = [a] :=
  val_inj_trimmed hd (Dig.one (by omega) h1) ht (.inr (by simp; omega)) (by rw [h]; simp [val])

theorem valR_zero_last {R : Int} (hR : 0 < R) : ∀ (l : List Int), DigR R l → valR R l = 0 → ∀ e, e = 0 ∨ l ≠ [] → l.getLastD e = 0
  | [], _, _, e, h => by rcases h with h | h; exact h; exact absurd rfl h
  | d :: l, hd, h, e, _ => by
    have h1 := hd d (by simp)
    have h2 : DigR R l := fun x hx => hd x (by simp [hx])
    have h3 := valR_nonneg (by omega : (0 : Int) ≤ R) h2
    have h4 : 0 ≤ R * valR R l := Int.mul_nonneg (by omega) h3
    simp only [valR] at h
    have h5 : d = 0 := by omega
    have h6 : R * valR R l = 0 := by omega
    have h7 : valR R l = 0 := by
      rcases Int.mul_eq_zero.1 h6 with h | h
      · omega
      · exact h
    rw [List.getLastD_cons]
    exact valR_zero_last hR l h2 h7 d (.inl h5)

theorem text_ff {ds : List Int} (h : DigitsOf 16 255 ds) : strOf (textBytes false ds) = ⟨#[70, 70]⟩ := by
  obtain ⟨hd, hv, hn, hl⟩ := h
  match ds, hd, hv, hn, hl with
  | [d], hd, hv, _, _ =>
    have := hd d (by simp)
    simp only [valR] at hv
    omega
  | d :: e :: l, hd, hv, _, hl =>
    have b0 := hd d (by simp)
    have b1 := hd e (by simp)
    have h2 : DigR 16 l := fun x hx => hd x (by simp [hx])
    have h3 := valR_nonneg (by omega : (0 : Int) ≤ 16) h2
    simp only [valR] at hv
    have hv0 : valR 16 l = 0 := by omega
    have hd0 : d = 15 := by omega
    have he0 : e = 15 := by omega
    have hl0 : l = [] := by
      rcases l with _ | ⟨x, l⟩
      · rfl
      · exfalso
        rw [List.getLastD_cons, List.getLastD_cons] at hl
        exact hl (valR_zero_last (by omega) _ h2 hv0 e (.inr (by simp)))
    subst hd0 he0 hl0
    rfl

theorem comb_and {x y c : Int} (h : Comb 8 x y c) (hx : 0 ≤ x ∧ x < BB) : c = ((x.toNat &&& y.toNat : Nat) : Int) := by
  obtain ⟨hc, hb⟩ := h
  have e : c.toNat = x.toNat &&& y.toNat := by
    refine Nat.eq_of_testBit_eq fun i => ?_
    rw [Nat.testBit_and]
    by_cases hi : i < 32
    · rw [hb i hi]
      cases x.toNat.testBit i <;> cases y.toNat.testBit i <;> decide
    · have p32 : (2 : Nat) ^ 32 ≤ 2 ^ i := Nat.pow_le_pow_right (by omega) (by omega)
      rw [BB_def] at hc hx
      rw [Nat.testBit_lt_two_pow (by omega : c.toNat < 2 ^ i), Nat.testBit_lt_two_pow (by omega : x.toNat < 2 ^ i)]
      rfl
  omega

theorem two_digits {ws : List Int} {x y : Int} (hd : Dig ws) (hl : ws.length = 2) (hx : 0 ≤ x ∧ x < BB) (hy : 0 ≤ y ∧ y < BB) (h : val ws = x + BB * y) : ws = [x, y] :=
  val_inj hd ((Dig.cons_iff).2 ⟨hx, Dig.one hy.1 hy.2⟩) (by simp [hl]) (by rw [h]; simp [val])

theorem boole_four {z : Int} (h : Booled 8 (-4) 7 2 z) : z = 4 := by
  obtain ⟨wx, wy, os, hx, hy, ho, dx, dy, dz, vx, vy, hc, hz⟩ := h
  obtain rfl := two_digits (x := 4294967292) (y := 4294967295) dx hx (by rw [BB_def]; omega) (by rw [BB_def]; omega) (by rw [vx, BB_def]; decide)
  obtain rfl := two_digits (x := 7) (y := 0) dy hy (by rw [BB_def]; omega) (by rw [BB_def]; omega) (by rw [vy, BB_def]; decide)
  have c0 := comb_and (hc 0 (by omega)) (by rw [BB_def]; simp)
  have c1 := comb_and (hc 1 (by omega)) (by rw [BB_def]; simp)
  match os, ho with
  | [o0, o1], _ =>
    have e0 : o0 = 4 := by simpa using c0
    have e1 : o1 = 0 := by simpa using c1
    subst e0 e1
    simpa [val] using hz

theorem div_seven (u v : Value) (w : World) (h : Ival w u (-7) 2) (g : Ival w v 2 2) :
    Calls Try.prog 30 #[u, v] w fun e w' => ∃ n1 A1 l1 c1 n2 A2 l2 c2, e = .returned (.tuple #[.agg #[.bool n1, .slice A1 l1 c1], .agg #[.bool n2, .slice A2 l2 c2], .int .i64 0]) ∧
      Ival w' (.agg #[.bool n1, .slice A1 l1 c1]) (-3) 2 ∧ Ival w' (.agg #[.bool n2, .slice A2 l2 c2]) (-1) 2 ∧ Below w.heap.size w w' := by
  have hg0 := g
  obtain ⟨p, s, a, rfl, hn, ha0, hz, hp⟩ := h
  obtain ⟨q, t, b, rfl, gn, gb0, gz, gq⟩ := g
  obtain ⟨A, n, c, xs, rfl, r⟩ := id hn
  obtain ⟨B, m, d, ys, rfl, hr, hd, ht, hv, hm⟩ := id gn
  have hpa : p = true ∧ a = 7 := by cases p <;> simp [withSign] at hz <;> first | omega | exact ⟨rfl, by omega⟩
  have hqb : q = false ∧ b = 2 := by cases q <;> simp [withSign] at gz <;> first | omega | exact ⟨rfl, by omega⟩
  obtain ⟨rfl, rfl⟩ := hpa
  obtain ⟨rfl, rfl⟩ := hqb
  have hys := digits_one hd ht (by omega) (by rw [BB_def]; omega) hv
  have hm1 : m = 1 := by rw [← hr.1, hys]; rfl
  subst hm1
  refine (Divide_of true false A B n c 1 d 7 2 2 2 2 w hn gn (by omega) (by omega) hg0 (fun w1 hb1 => ?_)).mono ?_
  · exact divide_one _ B d 7 2 2 ys w1 (hn.below hb1) (hr.below hb1) hd ht hv (by omega) (by omega)
  · rintro e w' ⟨n1, A1, l1, c1, n2, A2, l2, c2, he, h1, h2, hb⟩
    exact ⟨n1, A1, l1, c1, n2, A2, l2, c2, he, h1, h2, hb⟩

theorem boole_int (u v : Value) (w : World) (h : Ival w u (-4) 2) (g : Ival w v 7 2) :
    Calls Try.prog 51 #[u, .int .i64 8, v] w fun e w' => ∃ ng A2 n2 c2, e = .returned (.tuple #[.agg #[.bool ng, .slice A2 n2 c2], .int .i64 0]) ∧ Ival w' (.agg #[.bool ng, .slice A2 n2 c2]) 4 2 ∧ Below w.heap.size w w' := by
  obtain ⟨p, s, a, rfl, ⟨A, n, c, xs, rfl, hr, hd, ht, hv, hn⟩, ha0, hz, hp⟩ := h
  obtain ⟨q, t, b, rfl, ⟨B, m, d, ys, rfl, gr, gd, gt, gv, gm⟩, gb0, gz, gq⟩ := g
  have hpa : p = true ∧ a = 4 := by cases p <;> simp [withSign] at hz <;> first | omega | exact ⟨rfl, by omega⟩
  have hqb : q = false ∧ b = 7 := by cases q <;> simp [withSign] at gz <;> first | omega | exact ⟨rfl, by omega⟩
  obtain ⟨rfl, rfl⟩ := hpa
  obtain ⟨rfl, rfl⟩ := hqb
  have hxs := digits_one hd ht (by omega) (by rw [BB_def]; omega) hv
  have hys := digits_one gd gt (by omega) (by rw [BB_def]; omega) gv
  have hn1 : n = 1 := by rw [← hr.1, hxs]; rfl
  have hm1 : m = 1 := by rw [← gr.1, hys]; rfl
  subst hn1 hm1
  refine (Boole_any true false A B 1 c 1 d 4 7 8 w ⟨xs, hr, hd, hv⟩ ⟨ys, gr, gd, gv⟩ (by omega) (by omega) (by omega) (by omega)).mono ?_
  rintro e w' ⟨⟨z, ng, A2, n2, c2, rfl, hi, hz'⟩, hb⟩
  obtain rfl := boole_four hz'
  exact ⟨ng, A2, n2, c2, rfl, hi, hb⟩

theorem text_int (u : Value) (w : World) (h : Ival w u 255 2) :
    Calls Try.prog 60 #[u, .int .i64 16] w fun e w' => e = .returned (.tuple #[.string ⟨#[70, 70]⟩, .int .i64 0]) ∧ Below w.heap.size w w' := by
  refine (Text_some u 255 16 2 w h (by omega) (by omega) (by omega) (by omega)).mono ?_
  rintro e w' ⟨⟨ds, hds, rfl⟩, hb⟩
  refine ⟨?_, hb⟩
  have := text_ff (by simpa using hds)
  rw [← this]; rfl

end Go.Proofs.Ytoanomgdkkbbmaa
