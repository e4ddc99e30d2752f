/- Of the proof of RationalField: RatY. -/
import Derived.Test.YtbajnceoolkckaaGreatPk35
import Derived.Test.YtbajnceoolkckaaGreatPk31
/- Texts of fractions, read back. -/
namespace Go.Proofs.YtbajnceoolkckaaGreat
open Go.RowKit LM

theorem prefix_one (b : UInt8) (l : List UInt8) : List.isPrefixOf [47] (b :: l) = (47 == b) := by simp [List.isPrefixOf]

theorem index_bar : ∀ (l r : List UInt8), (∀ b ∈ l, b ≠ 47) → Lib.index (l ++ 47 :: r) [47] = l.length
 | [], r, _ => by simp [Lib.index]
 | b :: l, r, h => by
  have hb : b ≠ 47 := h b (by simp)
  have ih := index_bar l r (fun x hx => h x (by simp [hx]))
  rw [List.cons_append]
  unfold Lib.index
  rw [prefix_one, if_neg (by simpa using fun e : 47 = b => hb e.symm), ih, if_neg (by simp)]
  simp

theorem index_none : ∀ (l : List UInt8), (∀ b ∈ l, b ≠ 47) → Lib.index l [47] = -1
 | [], _ => by simp [Lib.index]
 | b :: l, h => by
  have hb : b ≠ 47 := h b (by simp)
  have ih := index_none l (fun x hx => h x (by simp [hx]))
  unfold Lib.index
  rw [prefix_one, if_neg (by simpa using fun e : 47 = b => hb e.symm), ih, if_pos (by simp)]

/-- No stroke in the text of an integer. -/
theorem TextOf.nobar {R x : Int} {ds : List Int} {T : ByteArray} (h : TextOf R x ds T) (_hR : R ≤ 36) : ∀ b ∈ T.data.toList, b ≠ 47 := by
 obtain ⟨hd, hv, hne, hl, ht⟩ := h
 intro b hb e
 have h1 : ((b.toNat : Nat) : Int) ∈ bs T := List.mem_map.2 ⟨b, hb, rfl⟩
 rw [e, ht] at h1
 unfold textBytes at h1
 rw [List.mem_append, List.mem_reverse, List.mem_map] at h1
 rcases h1 with h1 | ⟨d, hm, h2⟩
 ·split at h1
  ·simp at h1
  ·simp at h1
 ·have h3 := hd d hm
  have h4 : nameOf d = 47 := h2
  unfold nameOf at h4
  split at h4 <;> omega

theorem cut_none {T : ByteArray} (h : ∀ b ∈ T.data.toList, b ≠ 47) : bs (topOf T) = bs T ∧ hasBar T = false := by
 unfold topOf hasBar Lib.cut
 rw [index_none _ h, if_neg (by decide)]
 exact ⟨by simp [bs], rfl⟩

theorem cut_bar {T1 T2 : ByteArray} (h : ∀ b ∈ T1.data.toList, b ≠ 47) : bs (topOf (T1 ++ ⟨#[47]⟩ ++ T2)) = bs T1 ∧ bs (botOf (T1 ++ ⟨#[47]⟩ ++ T2)) = bs T2 ∧ hasBar (T1 ++ ⟨#[47]⟩ ++ T2) = true := by
 have e : (T1 ++ ⟨#[47]⟩ ++ T2).data.toList = T1.data.toList ++ 47 :: T2.data.toList := by simp
 unfold topOf botOf hasBar Lib.cut
 rw [e, index_bar _ _ h, if_pos (by omega)]
 refine ⟨?_, ?_, rfl⟩
 ·simp [bs]
 ·have e1 : (T1.data.toList.length : Int).toNat + [(47 : UInt8)].length = T1.data.toList.length + 1 := by simp
  rw [e1]
  have e2 : (T1.data.toList ++ 47 :: T2.data.toList).drop (T1.data.toList.length + 1) = T2.data.toList := by
   rw [List.drop_append]
   simp
  rw [e2]

theorem parse_text {R x z r : Int} {ds : List Int} {T : ByteArray} (h0 : 2 ≤ R) (h1 : R ≤ 36) (h : TextOf R x ds T) (hp : ParseRel R (bs T) z r) : z = x ∧ r = 0 := by
 obtain ⟨hd, hv, hne, hl, ht⟩ := h
 have hh := body_head h1 hd hne 0
 refine parse_back (f := nameOf) (s := if x < 0 then [45] else []) (m := 0) h0 h1 hd hv hne (fun d hm => digVal_name (hd d hm).1 (by have := (hd d hm).2; omega)) ?_ ?_ hp
 ·by_cases hx : x < 0
  ·exact .inl ⟨if_pos hx, hx⟩
  ·exact .inr (.inr ⟨if_neg hx, hx, by omega, by omega, rfl⟩)
 ·rw [ht]
  unfold textBytes
  by_cases hx : x < 0
  ·simp [hx]
  ·simp [hx]

theorem new_id {n d : Int} (hd : 0 < d) (hg : Int.gcd n d = 1) : newN n d = n ∧ newD n d = d ∧ divE d = 0 := by
 have h0 : d ≠ 0 := by omega
 obtain ⟨a, b, c, _⟩ := new_pos (x := n) (y := d) (by omega) h0
 rw [a, b, c, hg]
 simp

theorem qtext_back {R n d err n' d' e' : Int} {T : ByteArray} (h0 : 2 ≤ R) (h1 : R ≤ 36) (hd : 0 < d) (hg : Int.gcd n d = 1) (hT : QText R n d T err) (hs : T.size ≤ 20000) (hP : ParseQ R T n' d' e') : err = 0 ∧ n' = n ∧ d' = d ∧ e' = 0 := by
 obtain ⟨T1, ht1, hT⟩ := hT
 obtain ⟨rfl, ds1, hof1⟩ := ht1.of h0 h1
 have hnb1 := hof1.nobar h1
 rcases hP with ⟨h, _⟩ | ⟨_, h, _⟩ | ⟨_, _, z, e1, hp, hP⟩
 ·omega
 ·omega
 ·rcases hT with ⟨h | h, rfl⟩ | ⟨_, hd1, T2, ht2, rfl⟩
  ·exact absurd rfl h
  ·obtain ⟨c1, c2⟩ := cut_none hnb1
   rw [c1] at hp
   obtain ⟨rfl, rfl⟩ := parse_text h0 h1 hof1 hp
   rcases hP with ⟨_, k1, k2, k3⟩ | ⟨_, k, _⟩
   ·exact ⟨rfl, k1, by omega, k3⟩
   ·rw [c2] at k; cases k
  ·obtain ⟨-, ds2, hof2⟩ := ht2.of h0 h1
   obtain ⟨c1, c2, c3⟩ := cut_bar (T2 := T2) hnb1
   rw [c1] at hp
   obtain ⟨rfl, rfl⟩ := parse_text h0 h1 hof1 hp
   have hsg : ¬ signed47 (T1 ++ ⟨#[47]⟩ ++ T2) := by
    unfold signed47
    rw [c2]
    obtain ⟨gd, gv, gne, gl, gt⟩ := hof2
    have hh := body_head h1 gd gne 0
    have e : bs T2 = (ds2.map nameOf).reverse := by rw [gt, decide_eq_false (by omega : ¬ d < 0)]; rfl
    rw [e]; omega
   rcases hP with ⟨k | k, _⟩ | ⟨_, _, ⟨k, _⟩ | ⟨_, y, e2, hq, hP⟩⟩
   ·exact absurd rfl k
   ·rw [c3] at k; cases k
   ·exact absurd k hsg
   ·rw [c2] at hq
    obtain ⟨rfl, rfl⟩ := parse_text h0 h1 hof2 hq
    obtain ⟨i1, i2, i3⟩ := new_id hd hg
    rcases hP with ⟨k, _⟩ | ⟨_, k1, k2, k3⟩
    ·exact absurd rfl k
    ·exact ⟨rfl, k1.trans i1, k2.trans i2, k3.trans i3⟩

theorem ByteArray.size_append' (S T : ByteArray) : (S ++ T).size = S.size + T.size := by simp

theorem qtext_size {R n d err : Int} {T : ByteArray} {L : Nat} (hT : QText R n d T err) (hn : (if n < 0 then -n else n) < BB ^ L) (hd : (if d < 0 then -d else d) < BB ^ L) (hL : 1 ≤ L) : T.size ≤ 64 * L + 5 := by
 obtain ⟨T1, ht1, hT⟩ := hT
 have s1 := ht1.size hn hL
 rcases hT with ⟨_, rfl⟩ | ⟨_, _, T2, ht2, rfl⟩
 ·omega
 ·have s2 := ht2.size hd hL
  rw [ByteArray.size_append', ByteArray.size_append']
  have : (⟨#[47]⟩ : ByteArray).size = 1 := rfl
  omega

theorem QText.err {R n d err : Int} {T : ByteArray} (h0 : 2 ≤ R) (h1 : R ≤ 36) (h : QText R n d T err) : err = 0 := by
 obtain ⟨T1, ht1, _⟩ := h
 exact (ht1.of h0 h1).1

theorem QText.det {R n d e1 e2 : Int} {S T : ByteArray} (h : QText R n d S e1) (g : QText R n d T e2) : S = T := by
 obtain ⟨T1, a1, h⟩ := h
 obtain ⟨T2, a2, g⟩ := g
 obtain ⟨rfl, rfl⟩ := a1.det a2
 rcases h with ⟨h0, rfl⟩ | ⟨h0, h1, S2, b1, rfl⟩ <;> rcases g with ⟨g0, rfl⟩ | ⟨g0, g1, U2, b2, rfl⟩
 ·rfl
 ·rcases h0 with h0 | h0
  ·exact absurd g0 h0
  ·exact absurd h0 g1
 ·rcases g0 with g0 | g0
  ·exact absurd h0 g0
  ·exact absurd g0 h1
 ·rw [(b1.det b2).1]

theorem Rat.bound {w : World} {v : Value} {n d : Int} {L : Nat} (h : Rat w v n d L) (hL : 1 ≤ L) : (if n < 0 then -n else n) < BB ^ L ∧ (if d < 0 then -d else d) < BB ^ L := by
 obtain ⟨g1, A1, n1, c1, g2, A2, n2, c2, e, h1, h2, h3, h4⟩ := h
 refine ⟨ival_lt h1, ?_⟩
 have := ival_lt h2
 unfold dn at this
 rw [if_neg (by omega : ¬ d < 0)]
 split at this
 ·have hp : (1 : Int) < BB ^ L := by
   obtain ⟨m, rfl⟩ : ∃ m, L = m + 1 := ⟨L - 1, by omega⟩
   have : (0 : Int) < BB ^ m := Int.pow_pos (by decide)
   have hB : BB = 4294967296 := rfl
   have h5 := Int.mul_le_mul_of_nonneg_right (show 1 ≤ BB ^ m by omega) (show 0 ≤ BB by decide)
   rw [Int.pow_succ]
   omega
  omega
 ·rw [if_neg (by omega)] at this; exact this

theorem Rat.cop {w : World} {v : Value} {n d : Int} {L : Nat} (h : Rat w v n d L) : Int.gcd n d = 1 := by
 obtain ⟨g1, A1, n1, c1, g2, A2, n2, c2, e, h1, h2, h3, h4⟩ := h; exact h4

/-- The texts are equal just if the fractions are. -/
theorem texts_same {R n d m c e1 e2 : Int} {S T : ByteArray} (h0 : 2 ≤ R) (h1 : R ≤ 36) (hd : 0 < d) (hc : 0 < c) (g1 : Int.gcd n d = 1) (g2 : Int.gcd m c = 1) (h : QText R n d S e1) (g : QText R m c T e2) {n' d' e' : Int} (hq : ParseQ R S n' d' e') (hs : S.size ≤ 20000) :
  S = T ↔ n * c = m * d := by
 constructor
 ·rintro rfl
  obtain ⟨-, a1, a2, -⟩ := qtext_back h0 h1 hd g1 h hs hq
  obtain ⟨-, b1, b2, -⟩ := qtext_back h0 h1 hc g2 g hs hq
  rw [← a1, ← a2, ← b1, ← b2]
 ·intro e
  obtain ⟨rfl, rfl⟩ := frac_unique hd hc g1 g2 e
  exact h.det g

end Go.Proofs.YtbajnceoolkckaaGreat
