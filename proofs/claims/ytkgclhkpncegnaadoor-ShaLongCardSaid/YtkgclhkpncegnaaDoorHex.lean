/-
  The walks of sha.Hex and the reference's Hex.
-/
import Derived.Test.YtkgclhkpncegnaaDoorHexMath
namespace Go.Proofs.YtkgclhkpncegnaaDoor
open Go.RowKit

set_option maxRecDepth 100000 in
set_option maxHeartbeats 1000000 in
theorem hex_any (idl : List UInt8) (w : World) (hid : idl.length = 32) :
    Calls Tryd.prog 17 #[.agg (bvs idl).toArray] w fun e w' => e = .returned (.string ⟨(hexL idl).toArray⟩) ∧ Below w.heap.size w w' := by
  obtain ⟨X, hX⟩ : ∃ X, X = bvs idl := ⟨_, rfl⟩
  rw [← hX]
  have hXl : X.length = 32 := by rw [hX, bvs_length, hid]
  have hsz : (Tryd.prog.info? 29).map (·.size) = some X.toArray.size := by rw [List.size_toArray, hXl]; kernel_rfl
  have HSZ := Lib.hid hsz
  have HX := Lib.hid hX
  have hx0 : (w.alloc (.cells X.toArray 29)).heap[w.heap.size]? = some (.cells X.toArray 29 (0, 0)) := heap_alloc_new w _
  have hx1 : ∀ o, ((w.alloc (.cells X.toArray 29)).alloc o).heap[w.heap.size]? = some (.cells X.toArray 29 (0, 0)) := by
    intro o; rw [heap_alloc_old _ _ (by simp)]; exact hx0
  have HX1 := Lib.hid hx1
  clear hsz hX hx0 hx1
  go_enter Tryd.func17, Tryd.ntmps17
  go_wp2_with (refine wpList_load_row rfl 29 (.tmp 1) rfl w.heap.size rfl 29 X.toArray (0, 0) _ (HX1.out _) Tryd.underlying29 rfl HSZ.out ?_)
  go_loopw [4, 5, 7] (fun _ _ s7 wr => ∃ k : Nat, k ≤ 32 ∧ s7 = .int .i64 (k : Int) ∧ wr.heap[w.heap.size + 1]? = some (.cells (bvs (hexL (idl.take k)) ++ zeros (64 - 2 * k)).toArray 75 (0, 0)) ∧ Below w.heap.size w wr) (fun _ _ s7 _ => 32 - (intOf s7).toNat)
  case atStart =>
    refine ⟨0, by omega, rfl, ?_, ?_⟩
    · rw [show w.heap.size + 1 = (w.alloc (.cells X.toArray 29)).heap.size by simp]
      exact heap_alloc_new _ _
    exact ((Below.refl _ w).alloc (Nat.le_refl _) _).alloc (by simp) _
  case round =>
    obtain ⟨k, hk, rfl, hg, hbr⟩ := hrel
    have HG := Lib.hid hg
    clear hg
    by_cases hlt : k < 32
    · obtain ⟨c, hc⟩ : ∃ c, c = idl[k]'(by omega) := ⟨_, rfl⟩
      have hsn := hexL_snoc idl k (by omega)
      rw [← hc] at hsn
      have hlen := hexL_length (idl.take k)
      rw [List.length_take, Nat.min_eq_left (by omega)] at hlen
      have hxk : ∀ w', (Instr.index 29 (.agg X.toArray) (.int .i64 (k : Int))).run Tryd.prog w' = .ok (.int .u8 (c.toNat : Int)) w' := by
        intro w'
        rw [HX.out, hc]
        exact run_index_bytes w' _ 32 Tryd.underlying29 idl k hlt (by omega)
      have c8 := c.toNat_lt
      have hz := zeros_two k hlt
      have hgz := HG.out
      rw [hz] at hgz
      have hAl : (bvs (hexL (idl.take k))).length = 2 * k := by rw [bvs_length, hlen]
      obtain ⟨A, hA⟩ : ∃ A, A = bvs (hexL (idl.take k)) := ⟨_, rfl⟩
      rw [← hA] at hgz hAl
      have c0 : wr.cell? ⟨w.heap.size + 1, 2 * k, none⟩ = some (.int .u8 0) := by
        rw [cell_of_block hgz, ← hAl]
        simp
      have c1 : wr.cell? ⟨w.heap.size + 1, 2 * k + 1, none⟩ = some (.int .u8 0) := by
        rw [cell_of_block hgz, ← hAl]
        simp
      have f0 : ∀ j, wr.frozen? ⟨w.heap.size + 1, j, none⟩ = false := fun j => free_of_block HG.out
      have HC := Lib.hid hc
      have HSN := Lib.hid hsn
      have HGZ := Lib.hid hgz
      have HAL := Lib.hid hAl
      have HA := Lib.hid hA
      clear hc hlen hsn hgz hAl hA hz
      go_wp2_with fail
      go_roundw
      case rel =>
        refine ⟨k + 1, by omega, by go_num, ?_, (hbr.setCell (by show w.heap.size ≤ w.heap.size + 1; omega) _).setCell (by show w.heap.size ≤ w.heap.size + 1; omega) _⟩
        have e2 := heap_setCell_same _ _ (2 * k + 1) _ _ (.int .u8 ((dig (c.toNat % 16)).toNat : Int)) (heap_setCell_same wr _ (2 * k) _ _ (.int .u8 ((dig (c.toNat / 16)).toNat : Int)) HGZ.out)
        rw [two_set A _ _ _ _ _ _ HAL.out, HA.out] at e2
        rw [HSN.out, bvs_append]
        simp only [tab_at]
        exact e2
      case measure => simp [intOf]; omega
    · have hall : idl.take k = idl := List.take_of_length_le (by omega)
      have hg := HG.out
      rw [hall, show 64 - 2 * k = 0 by omega] at hg
      have hB : BytesAt wr (some ⟨w.heap.size + 1, 0, none⟩) (hexL idl) := by
        intro i hi
        refine ⟨_, _, rfl, ?_⟩
        rw [Nat.zero_add, cell_of_block hg]
        simpa [zeros] using bvs_get (hexL idl) i hi
      have hcv := conv_bytes hB 64
      rw [hexL_length, hid] at hcv
      clear hg hB hall HG
      go_wp2_with fail
      go_ret
      exact ⟨rfl, hbr⟩
end Go.Proofs.YtkgclhkpncegnaaDoor
