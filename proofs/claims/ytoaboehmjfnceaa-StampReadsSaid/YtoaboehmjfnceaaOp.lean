/-
  Operations as the model has them; the walks of stamp.goodPlace and goodMove.
-/
import Derived.Test.YtoaboehmjfnceaaCmp
import Derived.Test.YtoaboehmjfnceaaIdEq
import Derived.Test.YtoaboehmjfnceaaReadId
namespace Go.Proofs.Ytoaboehmjfnceaa
open Go.RowKit

theorem quiet_load_mid {P : Program} {C : World → Prop} {o : Oper} {a : Act} {K : Act → Prop} (ty : TypeId) (x : Operand) (ho : o.op = .load ty x)
    (b off : Nat) (hx : a.eval x = .pointer (some ⟨b, off, none⟩)) (X : Array Value) (d : TypeDesc) (hg : ∀ w, C w → w.rangeAt b off X.toList)
    (hu : P.underlying ty = some d) (hd : d.isRow = true) (hi : (P.info? ty).map (·.size) = some X.size)
    (h : K (a.put o.dst (.agg X))) : o.quiet P a C K :=
  ⟨_, fun w hw => by
    unfold Oper.quietAt execOp
    have h1 := run_loadAt_mid (P := P) w b off ty X.toList d (hg w hw) hu hd (by rw [hi]; simp)
    simp only [ho, hx, Sem.run_bind, Result.andThen_ok, h1]
    exact ⟨rfl, rfl⟩, h⟩
theorem eq_stamps (t r u s : Int) (w : World) : (Op.equalIn 10000 23 (.agg (stampCells t r)) (.agg (stampCells u s))).run Try.prog w = .ok (decide (t = u ∧ r = s)) w := by
  unfold stampCells
  by_cases h1 : t = u
  · by_cases h2 : r = s
    · go_simp
    · go_simp
  · go_simp

/-- An operation as the model has it. -/
def opCells (k t r nt nr pt pr : Int) (s : ByteArray) (d : List UInt8) (ov : Value) : Array Value :=
  (([.int .i64 k, .int .i64 t, .int .i64 r, .int .i64 nt, .int .i64 nr, .int .i64 pt, .int .i64 pr, .string s] : List Value) ++ bvs d ++ [ov]).toArray
theorem opCells_size (k t r nt nr pt pr : Int) (s : ByteArray) (d : List UInt8) (ov : Value) (h : d.length = 32) : (opCells k t r nt nr pt pr s d ov).size = 41 := by
  simp [opCells, bvs_length, h]
theorem sizeOp (k t r nt nr pt pr : Int) (s : ByteArray) (d : List UInt8) (ov : Value) (h : d.length = 32) : (Try.prog.info? 33).map (·.size) = some (opCells k t r nt nr pt pr s d ov).size := by
  rw [opCells_size _ _ _ _ _ _ _ _ _ _ h]
  kernel_rfl

/-- What a walk reads of an operation that lies in block g, in every world of a class. -/
structure OpIn (C : World → Prop) (g : Nat) (k t r nt nr pt pr : Int) (s : ByteArray) (d : List UInt8) (ov : Value) : Prop where
  whole : ∀ w, C w → w.heap[g]? = some (.cells (opCells k t r nt nr pt pr s d ov) 33 (0, 0))
  kind : ∀ w, C w → w.cell? ⟨g, 0, none⟩ = some (.int .i64 k)
  at_ : ∀ w, C w → w.rangeAt g 1 (stampCells t r).toList
  node : ∀ w, C w → w.rangeAt g 3 (stampCells nt nr).toList
  parent : ∀ w, C w → w.rangeAt g 5 (stampCells pt pr).toList
  name : ∀ w, C w → w.cell? ⟨g, 7, none⟩ = some (.string s)
  data : ∀ w, C w → w.rangeAt g 8 (bvs d).toArray.toList
  over : ∀ w, C w → w.cell? ⟨g, 40, none⟩ = some ov
theorem opIn_of {C : World → Prop} {g : Nat} {k t r nt nr pt pr : Int} {s : ByteArray} {d : List UInt8} {ov : Value} (hd : d.length = 32) (h : ∀ w, C w → w.heap[g]? = some (.cells (opCells k t r nt nr pt pr s d ov) 33 (0, 0))) : OpIn C g k t r nt nr pt pr s d ov := by
  have hc : ∀ w, C w → ∀ i, w.cell? ⟨g, i, none⟩ = (opCells k t r nt nr pt pr s d ov)[i]? := fun w hw i => cell_of_block (h w hw)
  have h2 : ∀ (x y : Int) (o : Nat), (opCells k t r nt nr pt pr s d ov)[o]? = some (.int .i64 x) → (opCells k t r nt nr pt pr s d ov)[o + 1]? = some (.int .i64 y) → ∀ w, C w → w.rangeAt g o (stampCells x y).toList := by
    intro x y o h0 h1 w hw j v hv
    rw [hc w hw]
    match j, hv with
    | 0, hv => simp [stampCells] at hv; subst hv; exact h0
    | 1, hv => simp [stampCells] at hv; subst hv; exact h1
    | j + 2, hv => simp [stampCells] at hv
  refine ⟨h, fun w hw => ?_, h2 t r 1 rfl rfl, h2 nt nr 3 rfl rfl, h2 pt pr 5 rfl rfl, fun w hw => ?_, fun w hw j v hv => ?_, fun w hw => ?_⟩
  · rw [hc w hw]; rfl
  · rw [hc w hw]; rfl
  · rw [hc w hw]
    have hj : j < 32 := by
      have := (List.getElem?_eq_some_iff.1 hv).1
      simpa [bvs_length, hd] using this
    simp only [opCells, List.append_assoc, List.getElem?_toArray]
    rw [List.getElem?_append_right (by simp)]
    rw [List.getElem?_append_left (by simp [bvs_length, hd]; omega)]
    simpa using hv
  · rw [hc w hw]
    simp only [opCells, List.getElem?_toArray]
    rw [List.getElem?_append_right (by simp [bvs_length, hd])]
    simp [bvs_length, hd]
/-- The class of worlds behind the box. -/
theorem opIn_box {w1 : World} {k t r nt nr pt pr : Int} {s : ByteArray} {d : List UInt8} {ov : Value} (hd : d.length = 32) {g : Nat} (h1 : w1.heap[g]? = some (.cells (opCells k t r nt nr pt pr s d ov) 33 (0, 0))) :
    OpIn (fun W => Below w1.heap.size w1 W) g k t r nt nr pt pr s d ov :=
  opIn_of hd fun W h => by rw [h.block _ (lt_of_block h1)]; exact h1

/-- May a node be moved there? -/
def placeB (t r : Int) : Bool := decide (t = 0 ∧ r = 0) || (decide (t = 0 ∧ r = 1) || rightB t r)
end Go.Proofs.Ytoaboehmjfnceaa
