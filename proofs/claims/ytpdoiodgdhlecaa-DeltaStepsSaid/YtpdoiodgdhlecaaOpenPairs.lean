/-
  A slice of pairs of ints that came in, opened.
-/
import Derived.Test.YtpdoiodgdhlecaaTwoRows
import Derived.Test.YtpdoiodgdhlecaaOpen
import Derived.Deep.Slices
namespace Go.Proofs.Ytpdoiodgdhlecaa
open Go.RowKit Go.ChangeShapes Go.WideShapes Go.Deep

section
variable {H : Type} {enc : TypeId × Value → H} {w : World} {base : Nat} {spare : Nat → Bool} {held : Bool}
set_option maxRecDepth 100000 in
theorem open_pairs {fuel : Nat} {cs : List Value} {x : DataW H × List MemPlace} (h : DataW.trod enc Try.prog w base spare held fuel 33 cs = some x) :
    ∃ a ps c, cs = [.slice a ps.length c] ∧ PairsAt w a ps ∧ ps.length ≤ c ∧ c ≤ 9223372036854775807 := by
  rcases open_slice Try.underlying33 h with ⟨rfl, rfl⟩ | ⟨a, len, cap, m, n, D, Pl, rfl, hb, hl, hm, hmm, rfl, hx⟩
  · exact ⟨none, [], 0, rfl, fun i hi => absurd hi (by simp), Nat.le_refl _, by omega⟩
  · have hlm : len ≤ m := by rw [hmm]; split <;> omega
    have ce : Try.prog.cellsOf 34 = 2 := by kernel_rfl
    have each : ∀ i, i < len → ∃ p : Int × Int, w.cell? (a.add (i * 2)) = some (.int .i64 p.1) ∧ w.cell? (a.add (i * 2 + 1)) = some (.int .i64 p.2) := by
      intro i hi
      obtain ⟨cs', h1, h2⟩ := hx i (by omega)
      rw [ce] at h1
      obtain ⟨_, hlen, hcell⟩ := World.cells?_some h1
      obtain ⟨xs, k, _, _, hl2, hxl, hel⟩ := DataW.trod_array Try.underlying34 h2
      have ci : Try.prog.cellsOf 3 = 1 := by kernel_rfl
      rw [ci] at hel
      match xs, hxl, cs', hlen with
      | [y0, y1], _, [v0, v1], _ =>
        have g0 := hel 0 (by omega)
        have g1 := hel 1 (by omega)
        simp at g0 g1
        obtain ⟨z0, e0, _, _⟩ := DataW.trod_int Try.underlying3 g0
        obtain ⟨z1, e1, _, _⟩ := DataW.trod_int Try.underlying3 g1
        simp at e0 e1
        subst e0 e1
        have c0 := hcell 0 (by omega)
        have c1 := hcell 1 (by omega)
        rw [add_add] at c0 c1
        exact ⟨(z0, z1), by simpa using c0, by simpa using c1⟩
    obtain ⟨q, hq⟩ := choose_lt each
    have hlen : ((List.range len).map q).length = len := by simp
    refine ⟨some a, (List.range len).map q, cap, by rw [hlen], ?_, by rw [hlen]; exact hl, by unfold maxLen at hm; omega⟩
    intro i hi
    have hi' : i < len := by simpa using hi
    obtain ⟨h1, h2⟩ := hq i hi'
    obtain ⟨h01, _⟩ := hq 0 (by omega)
    obtain ⟨b, off, spot⟩ := a
    have hspot : spot = none := by simpa [Addr.add] using World.cell?_spot h01
    subst hspot
    rw [add_plain] at h1 h2
    refine ⟨b, off, rfl, ?_, ?_⟩
    · rw [h1]; simp
    · rw [h2]; simp
end
end Go.Proofs.Ytpdoiodgdhlecaa
