/-
  The walk of Read.
-/
import Derived.Test.YtpdoiodgdhlecaaReadNum
import Derived.Test.YtpdoiodgdhlecaaStep
import Derived.Laws.Tables
namespace Go.Proofs.Ytpdoiodgdhlecaa
open Go.RowKit

/-- A reader of its own was made. -/
def ReadMade (l : List UInt8) (w : World) (e : Ending) (w' : World) : Prop :=
  ∃ R Q, e = .returned (.pointer (some ⟨R, 0, none⟩)) ∧ w.heap.size ≤ R ∧ Reads w' R Q l false ∧ Below w.heap.size w w'

set_option maxRecDepth 100000 in
set_option maxHeartbeats 400000 in
theorem read_any (a : Option Addr) (l : List UInt8) (cap : Nat) (w : World) (hb : BytesAt w a l) (hl : l.length ≤ 281474976710656) :
    Calls Try.prog 27 #[.slice a l.length cap] w (ReadMade l w) := by
  go_enter Try.func27, Try.ntmps27
  go_wp2_with fail
  refine (cloned_exact a l cap 0 w hb (by omega)).mono ?_
  rintro e w1 ⟨rfl, hown, hbel⟩
  go_wp2_with fail
  go_ret
  have hB := BytesAt.rowAt hown
  have hlt := hown.lt w.heap.size rfl
  have hb2 : Below w1.heap.size w1 (w1.alloc (.cells #[.slice (some ⟨w.heap.size, 0, none⟩) l.length l.length, .bool false] 80)) := (Below.refl _ _).alloc (Nat.le_refl _) _
  refine ⟨w1.heap.size, w.heap.size, rfl, hbel.size, ⟨by omega, by simp; omega, some ⟨w.heap.size, 0, none⟩, l.length, heap_alloc_new w1 _, hB.later hb2, ?_, Nat.le_refl _, by omega⟩, hbel.trans (hb2.mono hbel.size)⟩
  intro x hx
  injection hx with hx
  rw [← hx]
end Go.Proofs.Ytpdoiodgdhlecaa
