/-
  The state ahead of the first block; the bytes of a state.
-/
import Derived.Test.YtkgclhkpncegnaaDoorBlocks
namespace Go.Proofs.YtkgclhkpncegnaaDoor
open Go.RowKit
set_option linter.unusedSimpArgs false
set_option linter.unusedVariables false

def startS : St := ⟨1779033703#32, 3144134277#32, 1013904242#32, 2773480762#32, 1359893119#32, 2600822924#32, 528734635#32, 1541459225#32⟩

set_option maxHeartbeats 2000000 in
set_option maxRecDepth 100000 in
theorem start_any (w : World) : Calls Tryd.prog 22 #[] w fun e w' => e = .returned (.agg (rowS startS)) ∧ Below w.heap.size w w' := by
  obtain ⟨w1, hw1⟩ : ∃ w1, w1 = w.alloc (.cells lit8 47) := ⟨_, rfl⟩
  have hb1 : Below w.heap.size w w1 := by rw [hw1]; exact (Below.refl _ w).alloc (Nat.le_refl _) _
  have hr1 : w1.heap[w.heap.size]? = some (.cells lit8 47 (0, 0)) := by rw [hw1]; exact heap_alloc_new w _
  obtain ⟨Z, hZ⟩ : ∃ x, x = rowS startS := ⟨_, rfl⟩
  have hZ1 : Z.all (·.oneCell') = true := by rw [hZ]; exact rowS_all _
  have hZs : (Tryd.prog.info? 47).map (·.size) = some Z.size := by rw [hZ, rowS_size]; kernel_rfl
  have hZ8 : lit8.size = Z.size := by rw [hZ, rowS_size]; rfl
  have hZr : Z = #[.int .u32 1779033703, .int .u32 3144134277, .int .u32 1013904242, .int .u32 2773480762, .int .u32 1359893119, .int .u32 2600822924, .int .u32 528734635, .int .u32 1541459225] := by rw [hZ]; rfl
  rw [← hZ]
  have HW1 := Lib.hid hw1
  have HR := Lib.hid hr1
  have HB := Lib.hid hb1
  have HZ1 := Lib.hid hZ1
  have HZS := Lib.hid hZs
  have HZ8 := Lib.hid hZ8
  have HZR := Lib.hid hZr
  clear hw1 hr1 hb1 hZ hZ1 hZs hZ8 hZr
  go_enter Tryd.func22, Tryd.ntmps22
  go_upto_region 1 with (fail)
  change Code.wp _ _ _ _ (w.alloc (.cells lit8 47))
  rw [← HW1.out]
  go_wp2_with (refine wpList_store_row rfl 47 (.tmp 0) (.tmp 1) rfl w.heap.size Z rfl (by rw [HZR.out]; rfl) 47 lit8 HR.out HZS.out HZ8.out HZ1.out ?_)
  refine bodyPost_ret (v := .agg Z) (results_cell_row rfl _ _ w.heap.size 47 Z (0, 0) _ rfl (setRow_heap w1 w.heap.size _ Z _ _ HR.out) Tryd.underlying47 rfl HZS.out) rfl ?_
  exact ⟨rfl, below_setRow HB.out (Nat.le_refl _) Z⟩

def byteS (s : St) (k : Nat) : UInt8 := UInt8.ofNat ((wordS s (k / 4)).toNat / 2 ^ (8 * (3 - k % 4)))
def bTo (s : St) (m k : Nat) : UInt8 := if k < m then byteS s k else 0
def brow (B : Nat → UInt8) (n : Nat) : Array Value := ((List.range n).map fun k => Value.int .u8 ((B k).toNat : Int)).toArray
/-- The bytes of a state. -/
def idOf (s : St) : List UInt8 := (List.range 32).map (byteS s)
theorem brow_size (B : Nat → UInt8) (n : Nat) : (brow B n).size = n := by simp [brow]
theorem brow_get (B : Nat → UInt8) (n k : Nat) (h : k < n) : (brow B n)[k]? = some (.int .u8 ((B k).toNat : Int)) := by simp [brow, h]
theorem brow_set (s : St) (i n : Nat) (h : i < n) : (brow (bTo s i) n).setIfInBounds i (.int .u8 ((byteS s i).toNat : Int)) = brow (bTo s (i + 1)) n := by
  apply Array.ext
  · simp [brow]
  · intro k h1 h2
    have hk : k < n := by simpa [brow_size] using h1
    rw [Array.getElem_setIfInBounds]
    by_cases e : i = k
    · subst e; simp [brow, bTo]
    · rw [if_neg e]
      have : (k < i) = (k < i + 1) := by apply propext; omega
      simp [brow, bTo, this]
    · simpa [brow_size] using hk
theorem brow_all (s : St) : brow (bTo s 32) 32 = (bvs (idOf s)).toArray := by
  unfold brow idOf bvs
  rw [List.map_map]
  apply congrArg List.toArray
  apply List.map_congr_left
  intro k hk
  have : k < 32 := by simpa using hk
  simp [bTo, this]
  rfl
theorem brow_zero (s : St) : brow (bTo s 0) 32 = Array.replicate 32 (.int .u8 0) := by
  have : bTo s 0 = fun _ => 0 := by funext k; simp [bTo]
  rw [this]
  rfl
end Go.Proofs.YtkgclhkpncegnaaDoor
