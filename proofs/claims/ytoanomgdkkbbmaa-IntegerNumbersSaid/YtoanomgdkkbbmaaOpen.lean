/- How a law's argument, a sign and limbs that came in, is read. -/
import Derived.Test.YtoanomgdkkbbmaaBase
import Derived.WalkKit
import Derived.ProofKit
import Derived.OpenShut
import Derived.ChangeOld
import Derived.ChangeSame
import Derived.Below
import Derived.Lib.SmallJoins
namespace Go.Proofs.Ytoanomgdkkbbmaa
open Go.ChangeShapes Go.WideShapes Go.ChangeAt Go.RowKit Go.Joins

theorem Try.cells24 : Try.prog.cellsOf 24 = 2 := by kernel_rfl
theorem Try.cells99 : Try.prog.cellsOf 99 = 1 := by kernel_rfl
theorem Try.laid : laidOutB Try.prog = true := by kernel_rfl
theorem Try.own : ownKnob Try.prog.godebug = none := by kernel_rfl

theorem cell_lt {w : World} {a : Addr} {v : Value} (h : w.cell? a = some v) : a.block < w.heap.size := by
  by_cases hb : a.block < w.heap.size
  · exact hb
  · exfalso
    have : w.heap[a.block]? = none := by simp; omega
    simp [World.cell?, this] at h

set_option maxRecDepth 100000 in
theorem arg24 {H : Type} {enc : TypeId × Value → H} {W : World} {r : Reach} {b0 : Nat} {v : Value} {d : DataW H} {p : List MemPlace} (hv : Value.okWide Try.prog W r b0 24 v) (h : DataW.Trod enc Try.prog W 0 (fun _ => true) true 24 v d p) :
    ∃ neg A n c xs, v = .agg #[.bool neg, .slice A n c] ∧ Row .u32 W A n c xs ∧ LM.Dig xs := by
  obtain ⟨v0, v1, y0, y1, m, rfl, _, _, hy0, hy1⟩ := open_agg2 Try.underlying24 (by kernel_rfl) Try.cells24 hv h
  obtain ⟨b, h0, _⟩ := DataW.trod_bool Try.underlying4 hy0
  simp at h0
  subst h0
  rcases open_ints Try.underlying22 Try.underlying99 Try.cells99 hy1 with ⟨hcs, _⟩ | ⟨x, l, c, zs, hcs, _, hl, hm, hz, _, hcell, hwz⟩
  · simp at hcs
    subst hcs
    exact ⟨b, none, 0, 0, [], rfl, Row.nil_, LM.Dig.nil⟩
  · simp at hcs hz
    subst hcs
    refine ⟨b, some x, l, c, zs.take l, rfl, ⟨by rw [List.length_take]; omega, hl, fun hn => ?_⟩, fun i hi => ?_⟩
    · obtain ⟨g, o, spot⟩ := x
      have hc0 := hcell 0 (by omega)
      have hs : spot = none := by simpa [Addr.add] using World.cell?_spot hc0
      subst hs
      refine ⟨g, o, rfl, by simpa [Addr.add] using cell_lt hc0, fun i hi => ?_⟩
      have := hcell i (by omega)
      rw [Addr.add_lit] at this
      simpa [List.getD, hi] using this
    · rw [List.length_take] at hi
      have hi' : i < zs.length := by omega
      have e : (zs.take l).getD i 0 = zs[i] := by simp [List.getD, hi', show i < l by omega]
      rw [e]
      have := hwz zs[i] (List.getElem_mem hi')
      simp [Lit.wf, IntKind.min, IntKind.max, IntKind.signed, IntKind.bits] at this
      rw [LM.BB_def]
      omega

end Go.Proofs.Ytoanomgdkkbbmaa
