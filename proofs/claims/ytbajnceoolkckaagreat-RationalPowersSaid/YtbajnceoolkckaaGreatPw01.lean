/- Of the proof of RationalPowers: RatOpen. -/
import Derived.Test.YtbajnceoolkckaaGreatPw00
import Derived.Shelf.Vars
import Derived.HandedShaped
/-
  A fraction that comes in: four cells, two of them words of 32 bits.
-/
namespace Go.Proofs.YtbajnceoolkckaaGreat
open Go.ChangeShapes Go.WideShapes Go.ChangeAt Go.RowKit Go.Joins

theorem Tryz.cells22 : Tryz.prog.cellsOf 22 = 1 := by kernel_rfl
theorem Tryz.cells26 : Tryz.prog.cellsOf 26 = 4 := by kernel_rfl

set_option maxRecDepth 100000 in
/-- One of the two integers, cell by cell. -/
theorem cells24 {H : Type} {enc : TypeId × Value → H} {W : World} {fuel : Nat} {c0 c1 : Value} {y : DataW H × List MemPlace} (h : DataW.trod enc Tryz.prog W 0 (fun _ => true) true fuel 24 [c0, c1] = some y) :
  ∃ neg A n c xs, c0 = .bool neg ∧ c1 = .slice A n c ∧ Row .u32 W A n c xs ∧ LM.Dig xs := by
 obtain ⟨y0, y1, n, _, _, hy0, hy1⟩ := trod_struct2 Tryz.underlying24 h
 have hy0 : DataW.trod enc Tryz.prog W 0 (fun _ => true) true n 4 [c0] = some y0 := hy0
 have hy1 : DataW.trod enc Tryz.prog W 0 (fun _ => true) true n 22 [c1] = some y1 := hy1
 obtain ⟨b, h0, _⟩ := DataW.trod_bool Tryz.underlying4 hy0
 simp at h0
 subst h0
 rcases open_ints Tryz.underlying22 Tryz.underlying135 Tryz.cells135 hy1 with ⟨hcs, _⟩ | ⟨x, l, c, zs, hcs, _, hl, hm, hz, _, hcell, hwz⟩
 ·have hcs : c1 = .slice none 0 0 := by simpa [Tryz.cells22] using hcs
  subst hcs
  exact ⟨b, none, 0, 0, [], rfl, rfl, Row.nil_, LM.Dig.nil⟩
 ·have hcs : c1 = .slice (some x) l c := by simpa [Tryz.cells22] using hcs
  simp at hz
  subst hcs
  refine ⟨b, some x, l, c, zs.take l, rfl, rfl, ⟨by rw [List.length_take]; omega, hl, fun hn => ?_⟩, fun i hi => ?_⟩
  ·obtain ⟨g, o, spot⟩ := x
   have hc0 := hcell 0 (by omega)
   have hs : spot = none := by simpa [Addr.add] using World.cell?_spot hc0
   subst hs
   refine ⟨g, o, rfl, by simpa [Addr.add] using cell_lt hc0, fun i hi => ?_⟩
   have := hcell i (by omega)
   rw [Addr.add_lit] at this
   simpa [List.getD, hi] using this
  ·rw [List.length_take] at hi
   have hi' : i < zs.length := by omega
   have e : (zs.take l).getD i 0 = zs[i] := by simp [List.getD, hi', show i < l by omega]
   rw [e]
   have := hwz zs[i] (List.getElem_mem hi')
   simp [Lit.wf, IntKind.min, IntKind.max, IntKind.signed, IntKind.bits] at this
   rw [LM.BB_def]
   omega

set_option maxRecDepth 100000 in
/-- A fraction, opened. -/
theorem arg26 {H : Type} {enc : TypeId × Value → H} {W : World} {r : Reach} {b0 : Nat} {v : Value} {d : DataW H} {p : List MemPlace} (hv : Value.okWide Tryz.prog W r b0 26 v) (h : DataW.Trod enc Tryz.prog W 0 (fun _ => true) true 26 v d p) :
  ∃ p0 A0 n0 c0 xs0 p1 A1 n1 c1 xs1, v = .agg #[.bool p0, .slice A0 n0 c0, .bool p1, .slice A1 n1 c1] ∧ Row .u32 W A0 n0 c0 xs0 ∧ LM.Dig xs0 ∧ Row .u32 W A1 n1 c1 xs1 ∧ LM.Dig xs1 := by
 obtain ⟨cs, rfl, hsz⟩ := okWide_struct Tryz.underlying26 hv
 obtain ⟨a0, a1, a2, a3, rfl⟩ := array4 (hsz.trans Tryz.cells26)
 obtain ⟨fuel, hf⟩ := h
 obtain ⟨y0, y1, n, _, _, h0, h1⟩ := trod_struct2 Tryz.underlying26 hf
 have h0 : DataW.trod enc Tryz.prog W 0 (fun _ => true) true n 24 [a0, a1] = some y0 := by simpa [Value.cells, Tryz.cells24] using h0
 have h1 : DataW.trod enc Tryz.prog W 0 (fun _ => true) true n 24 [a2, a3] = some y1 := by simpa [Value.cells, Tryz.cells24] using h1
 obtain ⟨p0, A0, n0, c0, xs0, rfl, rfl, g0, e0⟩ := cells24 h0
 obtain ⟨p1, A1, n1, c1, xs1, rfl, rfl, g1, e1⟩ := cells24 h1
 exact ⟨p0, A0, n0, c0, xs0, p1, A1, n1, c1, xs1, rfl, g0, e0, g1, e1⟩

/-- The one word of the library's that a comparison of texts may read: some number. -/
theorem maxlen (W : World) (h : W.ShapedOpen Tryz.prog) : ∃ m, W.cell? ⟨0, 0, none⟩ = some (.int .i64 m) :=
 cell_of_shapedOpen_int (t := 3) (zero := #[.int .i64 0]) h (of_decide_eq_true (by kernel_rfl)) (by kernel_rfl) (by kernel_rfl) (by kernel_rfl) (by kernel_rfl) (by kernel_rfl)

end Go.Proofs.YtbajnceoolkckaaGreat
