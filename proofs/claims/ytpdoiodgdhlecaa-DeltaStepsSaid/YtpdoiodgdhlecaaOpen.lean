/-
  Arguments opened: an array of bytes; a slice of strings.
-/
import Derived.Test.YtpdoiodgdhlecaaBase
import Derived.ProofKit
import Derived.OpenShut
import Derived.SliceStrings
namespace Go.Proofs.Ytpdoiodgdhlecaa
open Go.ChangeShapes Go.WideShapes Go.ChangeAt Go.RowKit

theorem okWide_array' {P : Program} {w : World} {r : Reach} {base n : Nat} {t e : TypeId} {v : Value} (ht : P.underlying t = some (.array n e)) (h : Value.okWide P w r base t v) : ∃ cs, v = .agg cs ∧ cs.size = P.cellsOf t := by
  simp only [Value.okWide, ht] at h
  obtain ⟨cs, h1, h2, _⟩ := h
  exact ⟨cs, h1, h2⟩

theorem open_bytes_array {H : Type} {enc : TypeId × Value → H} {P : Program} {w : World} {b0 base n : Nat} {r : Reach} {spare : Nat → Bool} {held : Bool} {t e : TypeId} {v : Value} {d : DataW H} {p : List MemPlace}
    (ht : P.underlying t = some (.array n e)) (he : P.underlying e = some (.int .u8)) (hce : P.cellsOf e = 1) (hct : P.cellsOf t = n)
    (hv : Value.okWide P w r b0 t v) (h : DataW.Trod enc P w base spare held t v d p) :
    ∃ l : List UInt8, l.length = n ∧ v = .agg (bvs l).toArray := by
  obtain ⟨cs, rfl, hsz⟩ := okWide_array' ht hv
  obtain ⟨fuel, hf⟩ := h
  obtain ⟨xs, m, _, _, hl, hxl, hel⟩ := DataW.trod_array ht hf
  rw [hce] at hel
  have hcs : (Value.agg cs).cells = cs := by simp [Value.cells]
  rw [hcs] at hel hl
  have hlen : cs.toList.length = n := by rw [hl, hct]
  have each : ∀ i, (hi : i < n) → ∃ z : Int, cs.toList[i]'(by omega) = .int .u8 z ∧ 0 ≤ z ∧ z ≤ 255 := by
    intro i hi
    have h1 := hel i hi
    have h2 : xs[i]? = some (xs[i]'(by omega)) := List.getElem?_eq_getElem (by omega)
    rw [h2, Nat.mul_one] at h1
    have h3 : (cs.toList.drop i).take 1 = [cs.toList[i]'(by omega)] := by
      rw [List.drop_eq_getElem_cons (by omega)]; rfl
    rw [h3] at h1
    obtain ⟨z, e0, _, wz⟩ := DataW.trod_int he h1
    refine ⟨z, by simpa using e0, bounds_u8 wz⟩
  refine ⟨cs.toList.map (fun v => UInt8.ofNat (intOf v).toNat), by simpa using hlen, ?_⟩
  congr 1
  apply Array.toList_inj.1
  apply List.ext_getElem
  · simp [bvs]
  · intro i h1 h2
    obtain ⟨z, hz, hz0, hz1⟩ := each i (by omega)
    rw [hz]
    simp only [bvs, List.map_map, List.getElem_map, Function.comp, bv]
    rw [hz]
    simp only [intOf]
    rw [UInt8.toNat_ofNat']
    congr 1
    omega

/-- What a row is told of a slice of strings that came in. -/
def IsStrs (w : World) (a : Option Addr) (len cap : Nat) (ss : List ByteArray) : Prop :=
  (a = none ∧ len = 0 ∧ cap = 0 ∧ ss = []) ∨
  ∃ x, a = some x ∧ len ≤ cap ∧ cap ≤ maxLen ∧ ss.length = cap ∧ (∀ i, i < ss.length → w.cell? (x.add i) = some (.string (ss.getD i ByteArray.empty))) ∧ ∀ s ∈ ss, s.size ≤ maxLen
/-- The cells behind a slice's address read as the strings ss. -/
def StrsAt (w : World) (a : Option Addr) (ss : List ByteArray) : Prop :=
  ∀ i, (h : i < ss.length) → ∃ b off, a = some ⟨b, off, none⟩ ∧ w.cell? ⟨b, off + i, none⟩ = some (.string ss[i]) ∧ ss[i].size ≤ 9223372036854775807
theorem StrsAt.later {w w' : World} {a : Option Addr} {ss : List ByteArray} (h : StrsAt w a ss) (hb : Below w.heap.size w w') : StrsAt w' a ss := by
  intro i hi
  obtain ⟨b, off, ha, hc, hw⟩ := h i hi
  exact ⟨b, off, ha, cell_later hb hc, hw⟩
theorem IsStrs.strs {w : World} {a : Option Addr} {len cap : Nat} {ss : List ByteArray} (h : IsStrs w a len cap ss) :
    ∃ l : List ByteArray, l.length = len ∧ len ≤ cap ∧ cap ≤ 9223372036854775807 ∧ StrsAt w a l := by
  rcases h with ⟨rfl, rfl, rfl, rfl⟩ | ⟨x, rfl, hl, hm, hz, hcell, hwz⟩
  · exact ⟨[], rfl, Nat.le_refl _, by omega, fun i hi => absurd hi (by simp)⟩
  · refine ⟨ss.take len, by simp; omega, hl, by unfold maxLen at hm; omega, ?_⟩
    intro i hi
    have hi' : i < len := by simp at hi; omega
    have hc0 := hcell 0 (by omega)
    obtain ⟨b, off, spot⟩ := x
    have hspot : spot = none := by simpa [Addr.add] using World.cell?_spot hc0
    subst hspot
    refine ⟨b, off, rfl, ?_⟩
    have hc' := hcell i (by omega)
    rw [add_plain] at hc'
    have hzi : ss.getD i ByteArray.empty = ss[i] := by simp [List.getD_eq_getElem?_getD, List.getElem?_eq_getElem (show i < ss.length by omega)]
    rw [List.getElem_take]
    have := hwz ss[i] (List.getElem_mem _)
    exact ⟨by rw [hc', hzi], by unfold maxLen at this; omega⟩
end Go.Proofs.Ytpdoiodgdhlecaa
