/-
  Byte slices: what a walk is told of one that came in, and of one that the program made.
-/
import Derived.Test.YtpdoiodgdhlecaaRows
import Derived.WalkKit
import Derived.WalkSpells
import Derived.WalkLawsBesides
import Derived.OpenShut
import Derived.Lib.SlBytesConst
namespace Go.Proofs.Ytpdoiodgdhlecaa
open Go.RowKit

/-- A byte as the model has it. -/
def bv (c : UInt8) : Value := .int .u8 (c.toNat : Int)
def bvs (l : List UInt8) : List Value := l.map bv
theorem bvs_length (l : List UInt8) : (bvs l).length = l.length := by simp [bvs]
theorem bvs_append (l m : List UInt8) : bvs (l ++ m) = bvs l ++ bvs m := by simp [bvs]
theorem bvs_get (l : List UInt8) (i : Nat) (h : i < l.length) : (bvs l)[i]? = some (.int .u8 (l[i].toNat : Int)) := by
  simp [bvs, bv, List.getElem?_map, List.getElem?_eq_getElem h]

theorem add_plain (b off i : Nat) : (⟨b, off, none⟩ : Addr).add i = ⟨b, off + i, none⟩ := by
  unfold Addr.add; split <;> simp_all
/-- The cells behind a slice's address read as the bytes l. -/
def BytesAt (w : World) (a : Option Addr) (l : List UInt8) : Prop :=
  ∀ i, (h : i < l.length) → ∃ b off, a = some ⟨b, off, none⟩ ∧ w.cell? ⟨b, off + i, none⟩ = some (.int .u8 (l[i].toNat : Int))

theorem BytesAt.nil (w : World) (a : Option Addr) : BytesAt w a [] := fun i h => absurd h (by simp)
theorem BytesAt.later {w w' : World} {a : Option Addr} {l : List UInt8} (h : BytesAt w a l) (hb : Below w.heap.size w w') : BytesAt w' a l := by
  intro i hi
  obtain ⟨b, off, ha, hc⟩ := h i hi
  exact ⟨b, off, ha, cell_later hb hc⟩
theorem BytesAt.at {w : World} {b off : Nat} {l : List UInt8} (h : BytesAt w (some ⟨b, off, none⟩) l) (i : Nat) (hi : i < l.length) : w.cell? ⟨b, off + i, none⟩ = some (.int .u8 (l[i].toNat : Int)) := by
  obtain ⟨b', off', ha, hc⟩ := h i hi
  obtain ⟨rfl, rfl⟩ : b = b' ∧ off = off' := by simpa using ha
  exact hc
theorem BytesAt.addr {w : World} {a : Option Addr} {l : List UInt8} (h : BytesAt w a l) (hl : 0 < l.length) : ∃ b off, a = some ⟨b, off, none⟩ := by
  obtain ⟨b, off, ha, _⟩ := h 0 hl
  exact ⟨b, off, ha⟩
theorem BytesAt.alloc_new (w : World) (l : List UInt8) (arr : Array Value) (T : TypeId) (h : arr.toList.take l.length = bvs l) : BytesAt (w.alloc (.cells arr T)) (some ⟨w.heap.size, 0, none⟩) l := by
  intro i hi
  refine ⟨_, _, rfl, ?_⟩
  rw [World.cell?_alloc_at _ _ _ _ rfl, Nat.zero_add]
  have h2 := bvs_get l i hi
  rw [← h, List.getElem?_take] at h2
  simpa [hi] using h2
theorem BytesAt.alloc_mark (w : World) (l : List UInt8) (arr : Array Value) (T : TypeId) (m : Nat × Nat) (h : arr.toList.take l.length = bvs l) : BytesAt (w.alloc (.cells arr T m)) (some ⟨w.heap.size, 0, none⟩) l := by
  intro i hi
  refine ⟨_, _, rfl, ?_⟩
  rw [World.cell?_alloc_mark, Nat.zero_add]
  have h2 := bvs_get l i hi
  rw [← h, List.getElem?_take] at h2
  simpa [hi] using h2
theorem BytesAt.row {w : World} {base : Nat} {e : TypeId} {v : Value} {n : Nat} {l : List UInt8} (h : w.ownsRow base e 1 v n (bvs l)) :
    ∃ a cap, v = .slice a l.length cap ∧ BytesAt w a l ∧ n = l.length ∧ l.length ≤ cap ∧ cap ≤ 9223372036854775807 := by
  have hn : n = l.length := by have := h.1; rw [bvs_length] at this; omega
  subst hn
  rcases h.2 with ⟨rfl, h0⟩ | ⟨g, cap, cur, rfl, hb, hg, hnc, hcm, hcs, htake⟩
  · have : l = [] := List.eq_nil_of_length_eq_zero h0
    subst this
    exact ⟨none, 0, rfl, BytesAt.nil _ _, rfl, Nat.le_refl _, by omega⟩
  · refine ⟨_, cap, rfl, ?_, rfl, hnc, by unfold maxLen at hcm; omega⟩
    intro i hi
    refine ⟨_, _, rfl, ?_⟩
    have := h.cells (g := g) rfl i _ (bvs_get l i hi)
    rwa [add_plain] at this

theorem BytesAt.rowAt {w : World} {base : Nat} {e : TypeId} {g n cap : Nat} {l : List UInt8} (h : w.ownsRow base e 1 (.slice (Option.some ⟨g, 0, none⟩) n cap) n (bvs l)) : BytesAt w (Option.some ⟨g, 0, none⟩) l := by
  obtain ⟨a, c, hv, hb, _⟩ := BytesAt.row h
  injection hv with h1 h2 h3
  rw [h1]
  exact hb
theorem ownsRow_cast {w : World} {base : Nat} {e : TypeId} {size : Nat} {v : Value} {n n' : Nat} {xs xs' : List Value} (h : w.ownsRow base e size v n xs) (hn : n = n') (hx : xs = xs') : w.ownsRow base e size v n' xs' := by
  subst hn hx; exact h
theorem bvs_one (c : UInt8) : bvs [c] = [.int .u8 (c.toNat : Int)] := rfl
theorem bv_oneCell (c : UInt8) : ∀ u ∈ [Value.int .u8 (c.toNat : Int)], u.oneCell' = true := by intro u hu; simp at hu; subst hu; rfl
/-- What a row is told of a slice of bytes that came in. -/
def IsRow (k : IntKind) (w : World) (a : Option Addr) (len cap : Nat) (zs : List Int) : Prop :=
  (a = none ∧ len = 0 ∧ cap = 0 ∧ zs = []) ∨
  ∃ x, a = some x ∧ len ≤ cap ∧ cap ≤ maxLen ∧ zs.length = cap ∧ (∀ i, i < zs.length → w.cell? (x.add i) = some (.int k (zs.getD i 0))) ∧ ∀ n ∈ zs, (Lit.int k n).wf = true

theorem IsRow.bytes {w : World} {a : Option Addr} {len cap : Nat} {zs : List Int} (h : IsRow .u8 w a len cap zs) :
    ∃ l : List UInt8, l.length = len ∧ len ≤ cap ∧ cap ≤ 9223372036854775807 ∧ BytesAt w a l := by
  rcases h with ⟨rfl, rfl, rfl, rfl⟩ | ⟨x, rfl, hl, hm, hz, hcell, hwz⟩
  · exact ⟨[], rfl, Nat.le_refl _, by omega, BytesAt.nil _ _⟩
  · refine ⟨(zs.take len).map (fun z => UInt8.ofNat z.toNat), by simp; omega, hl, by unfold maxLen at hm; omega, ?_⟩
    intro i hi
    have hi' : i < len := by simp at hi; omega
    have hc0 := hcell 0 (by omega)
    obtain ⟨b, off, spot⟩ := x
    have hspot : spot = none := by simpa [Addr.add] using World.cell?_spot hc0
    subst hspot
    refine ⟨b, off, rfl, ?_⟩
    have hc' := hcell i (by omega)
    rw [add_plain] at hc'
    rw [hc']
    have hzi : zs.getD i 0 = zs[i] := by simp [List.getD_eq_getElem?_getD, List.getElem?_eq_getElem (show i < zs.length by omega)]
    have hb := bounds_u8 (hwz zs[i] (List.getElem_mem _))
    have he : ((List.map (fun z => UInt8.ofNat z.toNat) (List.take len zs))[i]).toNat = (zs[i]).toNat := by
      simp only [List.getElem_map, List.getElem_take]
      rw [UInt8.toNat_ofNat']
      omega
    rw [he, hzi]
    congr 2
    omega

/-- The cells behind a slice's address read as the numbers zs. -/
def IntsAt (k : IntKind) (w : World) (a : Option Addr) (zs : List Int) : Prop :=
  ∀ i, (h : i < zs.length) → ∃ b off, a = some ⟨b, off, none⟩ ∧ w.cell? ⟨b, off + i, none⟩ = some (.int k zs[i]) ∧ (Lit.int k zs[i]).wf = true
theorem IntsAt.later {k : IntKind} {w w' : World} {a : Option Addr} {zs : List Int} (h : IntsAt k w a zs) (hb : Below w.heap.size w w') : IntsAt k w' a zs := by
  intro i hi
  obtain ⟨b, off, ha, hc, hw⟩ := h i hi
  exact ⟨b, off, ha, cell_later hb hc, hw⟩
theorem IsRow.ints {k : IntKind} {w : World} {a : Option Addr} {len cap : Nat} {zs : List Int} (h : IsRow k w a len cap zs) :
    ∃ l : List Int, l.length = len ∧ len ≤ cap ∧ cap ≤ 9223372036854775807 ∧ IntsAt k w a l := by
  rcases h with ⟨rfl, rfl, rfl, rfl⟩ | ⟨x, rfl, hl, hm, hz, hcell, hwz⟩
  · exact ⟨[], rfl, Nat.le_refl _, by omega, fun i hi => absurd hi (by simp)⟩
  · refine ⟨zs.take len, by simp; omega, hl, by unfold maxLen at hm; omega, ?_⟩
    intro i hi
    have hi' : i < len := by simp at hi; omega
    have hc0 := hcell 0 (by omega)
    obtain ⟨b, off, spot⟩ := x
    have hspot : spot = none := by simpa [Addr.add] using World.cell?_spot hc0
    subst hspot
    refine ⟨b, off, rfl, ?_⟩
    have hc' := hcell i (by omega)
    rw [add_plain] at hc'
    have hzi : zs.getD i 0 = zs[i] := by simp [List.getD_eq_getElem?_getD, List.getElem?_eq_getElem (show i < zs.length by omega)]
    rw [List.getElem_take]
    exact ⟨by rw [hc', hzi], hwz zs[i] (List.getElem_mem _)⟩
end Go.Proofs.Ytpdoiodgdhlecaa
