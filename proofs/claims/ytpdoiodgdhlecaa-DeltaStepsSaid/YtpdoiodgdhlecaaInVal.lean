/-
  The reference's reader: a plain value; failed and Done.
-/
import Derived.Test.YtpdoiodgdhlecaaReadNum
import Derived.Test.YtpdoiodgdhlecaaReadId
import Derived.Test.YtpdoiodgdhlecaaStep
import Derived.Laws.ResultCell
namespace Go.Proofs.Ytpdoiodgdhlecaa
open Go.RowKit

/-- The reference's reader as the model has it. -/
def inCells (a : Option Addr) (n c : Nat) (f : Bool) : Array Value := #[.slice a n c, .bool f]
theorem sizeIn (a : Option Addr) (n c : Nat) (f : Bool) : (Try.prog.info? 44).map (·.size) = some (inCells a n c f).size := by
  show _ = some 2
  kernel_rfl
theorem oneIn (a : Option Addr) (n c : Nat) (f : Bool) : (inCells a n c f).all (·.oneCell') = true := by simp [inCells, Value.oneCell']
/-- What is left of the reference's reader lies so in memory. -/
def InAt (w : World) (a : Option Addr) (c : Nat) (l : List UInt8) : Prop := BytesAt w a l ∧ l.length ≤ c ∧ c ≤ 9223372036854775807
theorem InAt.later {w w' : World} {a : Option Addr} {c : Nat} {l : List UInt8} (h : InAt w a c l) (hb : Below w.heap.size w w') : InAt w' a c l := ⟨h.1.later hb, h.2⟩
theorem BytesAt.drop' {w : World} {b off : Nat} {l : List UInt8} (h : BytesAt w (some ⟨b, off, none⟩) l) (k : Nat) : BytesAt w (some ⟨b, off + k, none⟩) (l.drop k) := by
  intro i hi
  refine ⟨_, _, rfl, ?_⟩
  have hi' : k + i < l.length := by simp at hi; omega
  have := h.at (k + i) hi'
  rw [Nat.add_assoc, this]
  simp [List.getElem_drop]
theorem results_cell_any {P : Program} {fn : Func} {p : Tmp} {ty : TypeId} (h : fn.results = #[.cell p ty]) (tmps : Array Value) (w : World) (g : Nat) (t : TypeId) (cs : Array Value) (d : TypeDesc)
    (hp : tmps.getD p undef = .pointer (some ⟨g, 0, none⟩)) (hg : w.heap[g]? = some (.cells cs t (0, 0))) (hu : P.underlying ty = some d) (hd : (match d with | .struct _ | .array _ _ => true | _ => false) = true) (hi : (P.info? ty).map (·.size) = some cs.size) :
    (results fn tmps).run P w = .ok (.agg cs) w := results_cell_row h tmps w g t cs (0, 0) d hp hg hu hd hi

set_option maxRecDepth 100000 in
theorem failed_any (w : World) : Calls Try.prog 31 #[] w fun e w' => e = .returned (.agg (inCells none 0 0 true)) ∧ Below w.heap.size w w' := by
  have hh : (w.alloc (.cells (inCells none 0 0 false) 44)).heap[w.heap.size]? = some (.cells (inCells none 0 0 false) 44 (0, 0)) := heap_alloc_new w _
  have hb : Below w.heap.size w (w.alloc (.cells (inCells none 0 0 false) 44)) := (Below.refl _ w).alloc (Nat.le_refl _) _
  have HH := Lib.hid hh
  clear hh
  go_enter Try.func31, Try.ntmps31
  go_wp2_with (refine wpList_store_row rfl 44 (.tmp 0) (.tmp 1) rfl w.heap.size (inCells none 0 0 true) rfl rfl 44 (inCells none 0 0 false) HH.out (sizeIn _ _ _ _) rfl (oneIn _ _ _ _) ?_)
  refine bodyPost_ret (v := .agg (inCells none 0 0 true)) (results_cell_row rfl _ _ w.heap.size 44 _ (0, 0) _ rfl (setRow_heap _ w.heap.size _ (inCells none 0 0 true) _ _ HH.out) Try.underlying44 rfl (sizeIn _ _ _ _)) rfl ?_
  exact ⟨rfl, below_grownBy (Nat.le_refl _) hb ⟨rfl, rfl, rfl, by simp, fun k _ hk => setRow_other _ w.heap.size k _ (fun e => hk (by rw [e]))⟩ (Nat.le_refl _)⟩

end Go.Proofs.Ytpdoiodgdhlecaa
