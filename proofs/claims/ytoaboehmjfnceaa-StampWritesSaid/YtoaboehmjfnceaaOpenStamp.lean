/-
  A stamp by value, opened: for the frames.
-/
import Derived.Test.YtoaboehmjfnceaaCmp
import Derived.Lib.SmallJoins
import Derived.ChangeShapes
namespace Go.Proofs.Ytoaboehmjfnceaa
open Go.RowKit Go.Joins Go.ChangeShapes Go.WideShapes

theorem cellsStamp : Try.prog.cellsOf 23 = 2 := by kernel_rfl
set_option maxRecDepth 100000 in
theorem open_stamp {H : Type} {enc : TypeId × Value → H} {w : World} {base : Nat} {spare : Nat → Bool} {held : Bool} {r : Reach} {b0 : Nat} {v : Value} {d : DataW H} {p : List MemPlace}
    (hv : Value.okWide Try.prog w r b0 23 v) (h : DataW.Trod enc Try.prog w base spare held 23 v d p) :
    ∃ t u, v = .agg (stampCells t u) ∧ (Lit.int .i64 t).wf = true ∧ (Lit.int .i64 u).wf = true := by
  obtain ⟨c0, c1, y0, y1, m, rfl, rfl, rfl, hy0, hy1⟩ := open_agg2 Try.underlying23 (by kernel_rfl) cellsStamp hv h
  obtain ⟨t, e0, _, wt⟩ := DataW.trod_int Try.underlying2 hy0
  obtain ⟨u, e1, _, wu⟩ := DataW.trod_int Try.underlying3 hy1
  simp at e0 e1
  subst e0 e1
  exact ⟨t, u, rfl, wt, wu⟩
end Go.Proofs.Ytoaboehmjfnceaa
