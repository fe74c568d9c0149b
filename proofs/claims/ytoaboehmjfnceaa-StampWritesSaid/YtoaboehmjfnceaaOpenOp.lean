/-
  An operation by value, opened: for the frames.
-/
import Derived.Test.YtoaboehmjfnceaaOpenStamp
import Derived.Test.YtoaboehmjfnceaaOp
import Derived.Test.YtoaboehmjfnceaaStampEq
import Derived.Test.YtoaboehmjfnceaaOpen
import Derived.Deep.SlicePairs
import Derived.SizedLaws
namespace Go.Proofs.Ytoaboehmjfnceaa
open Go.RowKit Go.Joins Go.ChangeShapes Go.WideShapes Go.Deep
set_option linter.unusedSimpArgs false
set_option linter.unusedVariables false

/-- What the machine's numbers give of an operation that came in. -/
structure OpWf (k t r nt nr pt pr : Int) (ss : List (Int × Int)) (c : Nat) : Prop where
  kind : (Lit.int .i64 k).wf = true
  t : (Lit.int .i64 t).wf = true
  r : (Lit.int .i64 r).wf = true
  nt : (Lit.int .i64 nt).wf = true
  nr : (Lit.int .i64 nr).wf = true
  pt : (Lit.int .i64 pt).wf = true
  pr : (Lit.int .i64 pr).wf = true
  over : ∀ p ∈ ss, (Lit.int .i64 p.1).wf = true ∧ (Lit.int .i64 p.2).wf = true
  cap : ss.length ≤ c
  most : c ≤ maxLen
theorem cells7 {α : Type} (l : List α) : l = (l.drop 0).take 1 ++ ((l.drop 1).take 2 ++ ((l.drop 3).take 2 ++ ((l.drop 5).take 2 ++ ((l.drop 7).take 1 ++ ((l.drop 8).take 32 ++ l.drop 40))))) := by
  have h : ∀ a b : Nat, l.drop a = (l.drop a).take b ++ l.drop (a + b) := fun a b => by rw [← List.drop_drop, List.take_append_drop]
  have h0 := h 0 1
  have h1 := h 1 2
  have h2 := h 3 2
  have h3 := h 5 2
  have h4 := h 7 1
  have h5 := h 8 32
  simp only [Nat.reduceAdd, List.drop_zero] at h0 h1 h2 h3 h4 h5
  rw [← h5, ← h4, ← h3, ← h2, ← h1, List.drop_zero, ← h0]
theorem bytes_trod {H : Type} {enc : TypeId × Value → H} {P : Program} {w : World} {base n : Nat} {spare : Nat → Bool} {held : Bool} {t e : TypeId} {fuel : Nat} {cs : List Value} {x : DataW H × List MemPlace}
    (ht : P.underlying t = some (.array n e)) (he : P.underlying e = some (.int .u8)) (hce : P.cellsOf e = 1) (hct : P.cellsOf t = n)
    (hf : DataW.trod enc P w base spare held fuel t cs = some x) : ∃ l : List UInt8, l.length = n ∧ cs = bvs l := by
  obtain ⟨xs, m, _, _, hl, hxl, hel⟩ := DataW.trod_array ht hf
  rw [hce] at hel
  have hlen : cs.length = n := by rw [hl, hct]
  have each : ∀ i, (hi : i < n) → ∃ z : Int, cs[i]'(by omega) = .int .u8 z ∧ 0 ≤ z ∧ z ≤ 255 := by
    intro i hi
    have h1 := hel i hi
    have h2 : xs[i]? = some (xs[i]'(by omega)) := List.getElem?_eq_getElem (by omega)
    rw [h2, Nat.mul_one] at h1
    have h3 : (cs.drop i).take 1 = [cs[i]'(by omega)] := by
      rw [List.drop_eq_getElem_cons (by omega)]; rfl
    rw [h3] at h1
    obtain ⟨z, e0, _, wz⟩ := DataW.trod_int he h1
    refine ⟨z, by simpa using e0, bounds_u8 wz⟩
  refine ⟨cs.map (fun v => UInt8.ofNat (intOf v).toNat), by simpa using hlen, ?_⟩
  apply List.ext_getElem
  · simp [bvs]
  · intro i h1 h2
    obtain ⟨z, hz, hz0, hz1⟩ := each i (by omega)
    rw [hz]
    simp only [bvs, List.map_map, List.getElem_map, Function.comp, bv]
    rw [hz]
    simp only [intOf]
    rw [UInt8.toNat_ofNat']
    congr 1
    omega

section
variable {H : Type} {enc : TypeId × Value → H} {w : World} {base : Nat} {spare : Nat → Bool} {held : Bool}

set_option maxRecDepth 100000 in
theorem stamp_trod {fuel : Nat} {cs : List Value} {x : DataW H × List MemPlace} (h : DataW.trod enc Try.prog w base spare held fuel 23 cs = some x) :
    ∃ t u, cs = [.int .i64 t, .int .i64 u] ∧ (Lit.int .i64 t).wf = true ∧ (Lit.int .i64 u).wf = true := by
  obtain ⟨y0, y1, n, _, hl, h0, h1⟩ := trod_struct2 Try.underlying23 h
  rw [cellsStamp] at hl
  match cs, hl with
  | [c0, c1], _ =>
    obtain ⟨t, e0, _, wt⟩ := DataW.trod_int Try.underlying2 h0
    obtain ⟨u, e1, _, wu⟩ := DataW.trod_int Try.underlying3 h1
    rw [show Try.prog.cellsOf 2 = 1 by kernel_rfl] at e0
    rw [show Try.prog.cellsOf 3 = 1 by kernel_rfl] at e1
    simp at e0 e1
    subst e0 e1
    exact ⟨t, u, rfl, wt, wu⟩
set_option maxRecDepth 100000 in
/-- A slice of stamps. -/
theorem stamps_trod {fuel : Nat} {cs : List Value} {x : DataW H × List MemPlace} (h : DataW.trod enc Try.prog w base spare held fuel 31 cs = some x) :
    ∃ a ss c, cs = [.slice a ss.length c] ∧ StampsAt w a ss ∧ (∀ p ∈ ss, (Lit.int .i64 p.1).wf = true ∧ (Lit.int .i64 p.2).wf = true) ∧ ss.length ≤ c ∧ c ≤ maxLen ∧ ((x.1.weights Try.prog 31).all (· ≤ reachBytes) = true → ss.length ≤ 4611686018427387903) := by
  rcases open_slice_pairs Try.underlying31 Try.underlying23 cellsStamp rfl rfl (by kernel_rfl) (by kernel_rfl) h with ⟨rfl, rfl⟩ | ⟨a, len, cap, m, n, V0, V1, D0, D1, P0, P1, rfl, hb, hl, hm, hmm, rfl, hx⟩
  · exact ⟨none, [], 0, rfl, stamps_none, by simp, Nat.le_refl _, by unfold maxLen; omega, fun _ => by simp⟩
  · have hlm : len ≤ m := by rw [hmm]; split <;> omega
    have hv : ∀ i, i < len → (∃ t, V0 i = .int .i64 t ∧ (Lit.int .i64 t).wf = true) ∧ ∃ u, V1 i = .int .i64 u ∧ (Lit.int .i64 u).wf = true := fun i hi => by
      obtain ⟨_, _, h0, h1⟩ := hx i (by omega)
      obtain ⟨t, e0, _, wt⟩ := DataW.trod_int Try.underlying2 h0
      obtain ⟨u, e1, _, wu⟩ := DataW.trod_int Try.underlying3 h1
      simp at e0 e1
      exact ⟨⟨t, e0, wt⟩, u, e1, wu⟩
    have hlen : len = ((List.range len).map fun i => (intOf (V0 i), intOf (V1 i))).length := by simp
    refine ⟨some a, (List.range len).map fun i => (intOf (V0 i), intOf (V1 i)), cap, by rw [← hlen], ?_, ?_, by rw [← hlen]; exact hl, hm, ?_⟩
    · intro i hi
      have hi' : i < len := by simpa using hi
      obtain ⟨⟨t, e0, _⟩, u, e1, _⟩ := hv i hi'
      obtain ⟨c0, c1, _, _⟩ := hx i (by omega)
      obtain ⟨c00, _, _, _⟩ := hx 0 (by omega)
      obtain ⟨b, off, spot⟩ := a
      have hspot : spot = none := by simpa [Addr.add] using World.cell?_spot c00
      subst hspot
      rw [add_plain] at c0 c1
      refine ⟨b, off, rfl, ?_, ?_⟩
      · rw [c0, e0]
        simp [e0, intOf]
      · rw [show off + i * 2 + 1 = off + (i * 2 + 1) by omega, c1, e1]
        simp [e1, intOf]
    · intro p hp
      obtain ⟨i, hi, rfl⟩ := List.mem_map.1 hp
      obtain ⟨⟨t, e0, wt⟩, u, e1, wu⟩ := hv i (by simpa using hi)
      rw [e0, e1]
      exact ⟨wt, wu⟩
    · intro hsz
      rw [← hlen]
      have h9 := List.all_eq_true.1 hsz (m * Try.prog.bytesOf 23) (by
        simp only [DataW.weights, Try.underlying31, List.length_map, List.length_range]
        rw [show len + (m - len) = m by omega]
        simp)
      rw [show Try.prog.bytesOf 23 = 16 by kernel_rfl] at h9
      unfold reachBytes at h9
      simp at h9
      omega
theorem cellsOp : Try.prog.cellsOf 33 = 41 := by kernel_rfl
set_option maxRecDepth 100000 in
theorem op_trod {fuel : Nat} {cs : List Value} {x : DataW H × List MemPlace} (h : DataW.trod enc Try.prog w base spare held fuel 33 cs = some x) :
    ∃ k t r nt nr pt pr s d a ss c, cs = (opCells k t r nt nr pt pr s d (.slice a ss.length c)).toList ∧ d.length = 32 ∧ s.size ≤ maxLen ∧ StampsAt w a ss ∧
      ((Lit.int .i64 k).wf = true ∧ (Lit.int .i64 t).wf = true ∧ (Lit.int .i64 r).wf = true ∧ (Lit.int .i64 nt).wf = true ∧ (Lit.int .i64 nr).wf = true ∧ (Lit.int .i64 pt).wf = true ∧ (Lit.int .i64 pr).wf = true) ∧
      (∀ p ∈ ss, (Lit.int .i64 p.1).wf = true ∧ (Lit.int .i64 p.2).wf = true) ∧ ss.length ≤ c ∧ c ≤ maxLen ∧ ((x.1.weights Try.prog 33).all (· ≤ reachBytes) = true → ss.length ≤ 4611686018427387903) := by
  obtain ⟨xs, n, _, rfl, hl, hxl, hf⟩ := DataW.trod_struct Try.underlying33 h
  rw [cellsOp] at hl
  have hx7 : xs.length = 7 := hxl
  have hg : ∀ i, (hi : i < 7) → xs[i]? = some (xs[i]'(by omega)) := fun i hi => List.getElem?_eq_getElem (by omega)
  have f0 := hf 0 _ rfl
  have f1 := hf 1 _ rfl
  have f2 := hf 2 _ rfl
  have f3 := hf 3 _ rfl
  have f4 := hf 4 _ rfl
  have f5 := hf 5 _ rfl
  have f6 := hf 6 _ rfl
  rw [hg 0 (by omega)] at f0
  rw [hg 1 (by omega)] at f1
  rw [hg 2 (by omega)] at f2
  rw [hg 3 (by omega)] at f3
  rw [hg 4 (by omega)] at f4
  rw [hg 5 (by omega)] at f5
  rw [hg 6 (by omega)] at f6
  obtain ⟨k, e0, _, wk⟩ := DataW.trod_int Try.underlying3 f0
  obtain ⟨t, r, e1, wt, wr⟩ := stamp_trod f1
  obtain ⟨nt, nr, e2, wnt, wnr⟩ := stamp_trod f2
  obtain ⟨pt, pr, e3, wpt, wpr⟩ := stamp_trod f3
  obtain ⟨s, e4, _, ws⟩ := DataW.trod_string Try.underlying9 f4
  obtain ⟨d, hd, e5⟩ := bytes_trod Try.underlying30 Try.underlying5 (by kernel_rfl) (by kernel_rfl) f5
  obtain ⟨a, ss, c, e6, hat, hwf, hlc, hcm, hw⟩ := stamps_trod f6
  have hseg := cells7 cs
  dsimp only [List.getElem_toArray, List.getElem_cons_zero, List.getElem_cons_succ] at e0 e1 e2 e3 e4 e5 e6
  rw [show Try.prog.cellsOf 3 = 1 by kernel_rfl] at e0
  rw [cellsStamp] at e1 e2 e3
  rw [show Try.prog.cellsOf 9 = 1 by kernel_rfl] at e4
  rw [show Try.prog.cellsOf 30 = 32 by kernel_rfl] at e5
  rw [show Try.prog.cellsOf 31 = 1 by kernel_rfl, List.take_of_length_le (by simp; omega)] at e6
  rw [e0, e1, e2, e3, e4, e5, e6] at hseg
  refine ⟨k, t, r, nt, nr, pt, pr, s, d, a, ss, c, ?_, hd, ws, hat, ⟨wk, wt, wr, wnt, wnr, wpt, wpr⟩, hwf, hlc, hcm, fun hsz => hw ?_⟩
  · rw [hseg]
    simp [opCells]
  · rw [List.all_eq_true] at hsz ⊢
    intro z hz
    refine hsz z ?_
    simp only [DataW.weights, Try.underlying33]
    exact DataW.weights_mem_each (j := 6) rfl (by rw [List.getElem?_map, hg 6 (by omega)]; rfl) z hz
end

set_option maxRecDepth 100000 in
theorem open_op {H : Type} {enc : TypeId × Value → H} {w : World} {base : Nat} {spare : Nat → Bool} {held : Bool} {r : Reach} {b0 : Nat} {v : Value} {d : DataW H} {p : List MemPlace} {ts : List TypeId} {ds : List (DataW H)} {j : Nat}
    (hsz : (DataW.weightsEach Try.prog ts ds).all (· ≤ reachBytes) = true) (ht : ts[j]? = some 33) (hd : ds[j]? = some d)
    (hv : Value.okWide Try.prog w r b0 33 v) (h : DataW.Trod enc Try.prog w base spare held 33 v d p) :
    ∃ k t r nt nr pt pr s d a ss c, v = .agg (opCells k t r nt nr pt pr s d (.slice a ss.length c)) ∧ d.length = 32 ∧ s.size ≤ maxLen ∧ StampsAt w a ss ∧ OpWf k t r nt nr pt pr ss c ∧ ss.length ≤ 4611686018427387903 := by
  obtain ⟨cs, rfl, -⟩ := okWide_struct Try.underlying33 hv
  obtain ⟨fuel, hf⟩ := h
  obtain ⟨k, t, r, nt, nr, pt, pr, s, dl, a, ss, c, e, h1, h2, h3, h4, h5, h6, h7, h8⟩ := op_trod hf
  have hcs : (Value.agg cs).cells = cs := by simp [Value.cells]
  rw [hcs] at e
  refine ⟨k, t, r, nt, nr, pt, pr, s, dl, a, ss, c, ?_, h1, h2, h3, ⟨h4.1, h4.2.1, h4.2.2.1, h4.2.2.2.1, h4.2.2.2.2.1, h4.2.2.2.2.2.1, h4.2.2.2.2.2.2, h5, h6, h7⟩, h8 ?_⟩
  · rw [Array.toList_inj.1 e]
  · rw [List.all_eq_true] at hsz ⊢
    exact fun z hz => hsz z (DataW.weights_mem_each ht hd z hz)
end Go.Proofs.Ytoaboehmjfnceaa
