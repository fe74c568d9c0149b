/-
  The reference's tables, written out; known sums.
-/
import Derived.Test.YtkgclhkpncegnaaDoorRefMath
import Derived.Test.YtkgclhkpncegnaaDoorHexing
namespace Go.Proofs.YtkgclhkpncegnaaDoor
open Go.RowKit
set_option linter.unusedSimpArgs false
set_option linter.unusedVariables false

theorem row_start : (rowS startS).toList = wl (wordS startS) 8 := by rfl
theorem words_of_block {w : World} {g n : Nat} {arr : Array Value} {W : Nat → BitVec 32} {T : TypeId} (h : w.heap[g]? = some (.cells arr T (0, 0))) (ha : arr.toList = wl W n) : WordsAt w g W n := by
  intro i hi
  rw [cell_of_block h]
  have h1 := wl_get W n i hi
  rw [← ha] at h1
  simpa [vw] using h1

set_option maxRecDepth 100000 in
set_option maxHeartbeats 4000000 in
theorem known_any (w : World) : Calls Tryd.prog 18 #[] w fun e w' => ∃ g1 g2, e = .returned (.agg #[.slice (some ⟨g1, 0, none⟩) 8 8, .slice (some ⟨g2, 0, none⟩) 64 64]) ∧ WordsAt w' g1 (wordS startS) 8 ∧ WordsAt w' g2 keyAt 64 ∧ Below w.heap.size w w' := by
  go_enter Tryd.func18, Tryd.ntmps18
  go_wp2_with fail
  refine bodyPost_ret (v := .agg #[.slice (some ⟨w.heap.size + 1, 0, none⟩) 8 8, .slice (some ⟨w.heap.size + 1 + 1, 0, none⟩) 64 64]) (results_cell_row rfl _ _ w.heap.size 26 #[.slice (some ⟨w.heap.size + 1, 0, none⟩) 8 8, .slice (some ⟨w.heap.size + 1 + 1, 0, none⟩) 64 64] (0, 0) _ rfl (by rw [heap_alloc_old _ _ (by simp; omega), heap_alloc_old _ _ (by simp)]; exact heap_alloc_new _ _) Tryd.underlying26 rfl (by kernel_rfl)) rfl ?_
  refine ⟨w.heap.size + 1, w.heap.size + 1 + 1, rfl, ?_, ?_, (((Below.refl _ w).alloc (Nat.le_refl _) _).alloc (by simp) _).alloc (by simp; omega) _⟩
  · refine words_of_block (arr := rowS startS) (T := 45) ?_ row_start
    rw [heap_alloc_old _ _ (by simp)]
    exact heap_alloc_eq _ _ _ (by simp)
  · refine words_of_block (arr := (wl keyAt 64).toArray) (T := 45) ?_ rfl
    exact heap_alloc_eq _ _ _ (by simp)
def txt56 : List UInt8 := [97, 98, 99, 100, 98, 99, 100, 101, 99, 100, 101, 102, 100, 101, 102, 103, 101, 102, 103, 104, 102, 103, 104, 105, 103, 104, 105, 106, 104, 105, 106, 107, 105, 106, 107, 108, 106, 107, 108, 109, 107, 108, 109, 110, 108, 109, 110, 111, 109, 110, 111, 112, 110, 111, 112, 113]
theorem sum_nil_hex : hexL (sumL []) = "e3b0c44298fc1c149afbf4c8996fb92427ae41e4649b934ca495991b7852b855".toUTF8.data.toList := by
  rw [← sumE_eq]
  decide +kernel
theorem sum_56_hex : hexL (sumL txt56) = "248d6a61d20638b8e5c026930c3e6039a33ce45964ff2167f6ecedd419db06c1".toUTF8.data.toList := by
  rw [← sumE_eq]
  decide +kernel
end Go.Proofs.YtkgclhkpncegnaaDoor
