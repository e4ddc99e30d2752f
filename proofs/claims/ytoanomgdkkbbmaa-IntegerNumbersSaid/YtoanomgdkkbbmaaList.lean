/- made, over a list. -/
import Derived.Test.YtoanomgdkkbbmaaMade
namespace Go.Proofs.Ytoanomgdkkbbmaa
open Go.RowKit LM

theorem Try.info28 : (Try.prog.info? 28).map (fun i => (i.zero, i.size, i.bytes)) = some (some (.agg #[.bool false, .slice none 0 0]), 2, 32) := by kernel_rfl

/-- An array of signs and limbs, whose numbers are zs. -/
def Given (w : World) (g N L : Nat) (zs : List Int) : Prop :=
  zs.length = N ∧ g < w.heap.size ∧ ∀ i, i < N → ∃ p A n c xs, w.cell? ⟨g, i * 2, none⟩ = some (.bool p) ∧ w.cell? ⟨g, i * 2 + 1, none⟩ = some (.slice A n c) ∧ Row .u32 w A n c xs ∧ Dig xs ∧ n ≤ L ∧ withSign p (val xs) = zs.getD i 0

def flat (vs : List Value) : List Value := vs.flatMap (fun v => v.cells.toList)

/-- Integers in a slice of the program's own. -/
def Ints (w : World) (base : Nat) (v : Value) (k L : Nat) (vs : List Value) (zs : List Int) : Prop :=
  vs.length = k ∧ w.ownsRow base 28 2 v k (flat vs) ∧ ∀ i, i < k → Ival w (vs.getD i .nilFunc) (zs.getD i 0) L ∧ Typed w (vs.getD i .nilFunc)

theorem flat_snoc (vs : List Value) (p : Bool) (x : Value) : flat (vs ++ [.agg #[.bool p, x]]) = flat vs ++ [.bool p, x] := by
  simp [flat, Value.cells]

theorem Ints.next {wr w1 w2 : World} {base k L n : Nat} {u v' : Value} {vs : List Value} {zs : List Int} {p ng : Bool} {A2 : Option Addr} {n2 c2 : Nat} {xs : List Int}
    (h : Ints wr base u k L vs zs) (hW : Below wr.heap.size wr w1) (hown : w1.ownsRow base 28 2 u k (flat vs)) (hv : Ival w1 (.agg #[.bool ng, .slice A2 n2 c2]) (withSign p (val xs)) n) (ht : Typed w1 (.agg #[.bool ng, .slice A2 n2 c2]))
    (hz : withSign p (val xs) = zs.getD k 0) (hn : n ≤ L) (hown2 : w2.ownsRow base 28 2 v' (k + 1) (flat vs ++ [.bool ng, .slice A2 n2 c2])) (hg : (w1.alloc (.cells #[.bool ng, .slice A2 n2 c2] 28)).grownBy w2 u.ownBlock) (_hk : k < zs.length) :
    Ints w2 base v' (k + 1) L (vs ++ [.agg #[.bool ng, .slice A2 n2 c2]]) zs := by
  obtain ⟨hl, ho, hall⟩ := h
  refine ⟨by simp [hl], by rw [flat_snoc]; exact hown2, fun i hi => ?_⟩
  have hb := below_alloc w1 (.cells #[.bool ng, .slice A2 n2 c2] 28)
  have hrow : ∀ g, u.ownBlock = some g → ∃ cs fr, (w1.alloc (.cells #[.bool ng, .slice A2 n2 c2] 28)).heap[g]? = some (.cells cs 28 fr) := ownsRow_block (hown.alloc _)
  by_cases hik : i < k
  · have e : (vs ++ [Value.agg #[.bool ng, .slice A2 n2 c2]]).getD i .nilFunc = vs.getD i .nilFunc := by simp [List.getD, List.getElem?_append_left, hl, hik]
    rw [e]
    obtain ⟨h1, h2⟩ := hall i hik
    exact ((h1.below hW).below hb).apart ((h2.below hW).below hb) hg hrow
  · obtain rfl : i = k := by omega
    have e : (vs ++ [Value.agg #[.bool ng, .slice A2 n2 c2]]).getD i .nilFunc = .agg #[.bool ng, .slice A2 n2 c2] := by simp [List.getD, hl]
    rw [e, ← hz]
    exact ((hv.mono hn).below hb).apart (ht.below hb) hg hrow

set_option maxHeartbeats 1000000 in
theorem made_any (g N L : Nat) (zs : List Int) (w : World) (h : Given w g N L zs) (hN : N ≤ 1000) (hL : L ≤ 1048576) :
    Calls Try.prog 64 #[.slice (some ⟨g, 0, none⟩) N N] w fun e w' => ∃ v vs, e = .returned v ∧ Ints w' w.heap.size v N L vs zs ∧ Below w.heap.size w w' := by
  obtain ⟨i0, hi, hz0, hz1, hz2⟩ := info_parts Try.info28
  obtain ⟨hzl, hg, hgive⟩ := h
  have HZ := Lib.hid hzl
  have HG := Lib.hid hgive
  clear hzl hgive
  go_enter Try.func64, Try.ntmps64
  go_wp2_with fail
  go_loopw [3, 8] (fun v iv wr => ∃ (k : Nat) (vs : List Value), iv = .int .i64 k ∧ k ≤ N ∧ Ints wr w.heap.size v k L vs zs ∧ Below w.heap.size w wr) (fun _ iv _ => N - (intOf iv).toNat)
  case atStart => exact ⟨0, [], rfl, Nat.zero_le _, ⟨rfl, World.ownsRow_nil _ _ _ _, fun i hi => absurd hi (by omega)⟩, Below.refl _ _⟩
  case round =>
    obtain ⟨k, vs, rfl, hk, hints, hb⟩ := hrel
    have HI := Lib.hid hints
    clear hints
    by_cases hlt : k < N
    · obtain ⟨p, A, n, c, xs, c0, c1, hrow, hdx, hn, hz⟩ := HG.out k hlt
      have d0 : wr.cell? ⟨g, k * 2, none⟩ = _ := (hb.cell (p := ⟨g, k * 2, none⟩) hg).trans c0
      have d1 : wr.cell? ⟨g, k * 2 + 1, none⟩ = _ := (hb.cell (p := ⟨g, k * 2 + 1, none⟩) hg).trans c1
      have hgr : g < wr.heap.size := Nat.lt_of_lt_of_le hg hb.size
      have HR := Lib.hid (hrow.below hb)
      have HZk := Lib.hid hz
      clear hrow hz c0 c1
      go_wp2_with fail
      have hA := below_alloc wr (.cells #[.bool p, .slice A n c] 24)
      refine (make_typed p A n c xs _ (HR.out.below hA) (by omega) hdx).mono ?_
      rintro e w1 ⟨ng, A2, n2, c2, rfl, hv, ht, hb1⟩
      have hW1 : Below wr.heap.size wr w1 := hA.trans (hb1.mono (by simp))
      have hown1 := ownsRow_below HI.out.2.1 hW1
      have hrs := hW1.size
      have hws := hb.size
      have HO := Lib.hid hown1
      clear hown1
      go_wp2_with (at_builtin; refine wpList_append_own _ rfl (.tmp 12) (.tmp 18) _ rfl w.heap.size 28 i0 (.agg #[.bool false, .slice none 0 0]) 2 32 Try.underlying81 hi hz0 hz1 hz2 rfl (by decide) _ k (flat vs) rfl (HO.out.alloc _) ⟨w1.heap.size, 0, none⟩ 1 1 [.bool ng, .slice A2 n2 c2] rfl rfl ?c1 ?c2 ?c3 ?c4 ?c5 ?_)
      case c1 =>
        intro j u hj
        match j, hj with
        | 0, hj => simp at hj; subst hj; simp [Addr.add]
        | 1, hj => simp at hj; subst hj; simp [Addr.add]
      case c2 => intro u hu; simp at hu; rcases hu with rfl | rfl <;> rfl
      case c3 => unfold maxLen; omega
      case c4 => omega
      case c5 => simp; omega
      intro v' w2 hown2 hg2 _
      have hg3 : (w1.alloc (.cells #[.bool ng, .slice A2 n2 c2] 28)).grownBy w2 (Value.ownBlock u3) := hg2
      have hnext := HI.out.next hW1 HO.out hv ht HZk.out hn hown2 hg3 (by have := HZ.out; omega)
      have hbn : Below w.heap.size w w2 := ((hb.trans (hW1.mono hws)).alloc (by omega) _).grown hg3 (by simp; omega) (fun q hq => (HO.out.lt q hq).1)
      have HN := Lib.hid hnext
      clear hnext hown2 hg2 hg3
      go_wp2
      exact ⟨⟨k + 1, _, by go_num, hlt, HN.out, hbn⟩, by simp [intOf]; omega⟩
    · obtain rfl : k = N := by omega
      go_wp2
      go_ret
      exact ⟨_, vs, rfl, HI.out, hb⟩

end Go.Proofs.Ytoanomgdkkbbmaa
