/-
  The walk of stateID.
-/
import Derived.Test.YtkgclhkpncegnaaDoorState
namespace Go.Proofs.YtkgclhkpncegnaaDoor
open Go.RowKit
set_option linter.unusedSimpArgs false
set_option linter.unusedVariables false

theorem byte_val (s : St) (k j : Nat) (hj : j < 4) : ((wordS s k).toNat : Int) / 2 ^ (8 * (3 - j)) % 256 = ((byteS s (4 * k + j)).toNat : Int) := by
  have e1 : (4 * k + j) / 4 = k := by omega
  have e2 : (4 * k + j) % 4 = j := by omega
  unfold byteS
  rw [e1, e2, UInt8.toNat_ofNat', Int.natCast_emod, Int.natCast_ediv, Int.natCast_pow]
  rfl
theorem infoU32 : (Tryd.prog.info? 45).map (fun i => (i.zero, i.size, i.bytes)) = some (some (.int .u32 0), 1, 4) := by kernel_rfl
theorem plainU32 : Tryd.prog.plainKey 45 = true := by kernel_rfl
theorem index_word (w : World) (s : St) (i : Nat) (hi : i < 8) : (Instr.index 47 (.agg (rowS s)) (.int .i64 (i : Int))).run Tryd.prog w = .ok (.int .u32 ((wordS s i).toNat : Int)) w := by
  obtain ⟨i0, hi0, hz0, hz1, hz2⟩ := info_parts infoU32
  have hp : (part 45 (rowS s) i).run Tryd.prog w = .ok (.int .u32 ((wordS s i).toNat : Int)) w := run_part_plain w plainU32 (by rw [rowS_wrow, wrow_get _ _ _ hi]; rfl)
  have h2 : (0 : Int) ≤ (i : Int) ∧ (i : Int) < ((8 : Nat) : Int) := by omega
  simp [Instr.index, asIntOf, run_underlying Tryd.underlying47, sizeOf, typeInfo, hi0, hz1, h2, hi, hp]

set_option maxHeartbeats 2000000 in
set_option maxRecDepth 100000 in
theorem id_any (s : St) (w : World) : Calls Tryd.prog 23 #[.agg (rowS s)] w fun e w' => e = .returned (.agg (bvs (idOf s)).toArray) ∧ Below w.heap.size w w' := by
  obtain ⟨X, hX⟩ : ∃ X, X = rowS s := ⟨_, rfl⟩
  have hXs : (Tryd.prog.info? 47).map (·.size) = some X.size := by rw [hX, rowS_size]; kernel_rfl
  have hix : ∀ k : Nat, k < 8 → ∀ w, (Instr.index 47 (.agg X) (.int .i64 (k : Int))).run Tryd.prog w = .ok (.int .u32 ((wordS s k).toNat : Int)) w := fun k h w => by rw [hX]; exact index_word w s k h
  obtain ⟨w1, hw1⟩ : ∃ w1, w1 = ((w.alloc (.cells X 47)).alloc (.cells (Array.replicate 32 (.int .u8 0)) 29)).alloc (.cells (Array.replicate 32 (.int .u8 0)) 29) := ⟨_, rfl⟩
  have hb1 : Below w.heap.size w w1 := by rw [hw1]; exact (((Below.refl _ w).alloc (Nat.le_refl _) _).alloc (by simp) _).alloc (by simp; omega) _
  have hx1 : w1.heap[w.heap.size]? = some (.cells X 47 (0, 0)) := by
    rw [hw1, heap_alloc_old _ _ (by simp; omega), heap_alloc_old _ _ (by simp)]; exact heap_alloc_new w _
  have hr1 : w1.heap[w.heap.size + 1]? = some (.cells (Array.replicate 32 (.int .u8 0)) 29 (0, 0)) := by
    rw [hw1, heap_alloc_old _ _ (by simp), show w.heap.size + 1 = (w.alloc (.cells X 47)).heap.size by simp]; exact heap_alloc_new _ _
  have hi1 : w1.heap[w.heap.size + 1 + 1]? = some (.cells (brow (bTo s 0) 32) 29 (0, 0)) := by
    rw [brow_zero, hw1, show w.heap.size + 1 + 1 = ((w.alloc (.cells X 47)).alloc (.cells (Array.replicate 32 (.int .u8 0)) 29)).heap.size by simp]; exact heap_alloc_new _ _
  rw [← hX]
  have HW1 := Lib.hid hw1
  have HB := Lib.hid hb1
  have HX1 := Lib.hid hx1
  have HR := Lib.hid hr1
  have HI := Lib.hid hi1
  have HXS := Lib.hid hXs
  have HIX := Lib.hid hix
  clear hX hXs hix hw1 hb1 hx1 hr1 hi1
  go_enter Tryd.func23, Tryd.ntmps23
  go_upto_region 2 with (fail)
  change Code.wp _ _ _ _ (((w.alloc (.cells X 47)).alloc (.cells (Array.replicate 32 (.int .u8 0)) 29)).alloc (.cells (Array.replicate 32 (.int .u8 0)) 29))
  rw [← HW1.out]
  go_wp2_with (refine wpList_load_row rfl 47 (.tmp 1) rfl w.heap.size rfl 47 X (0, 0) _ HX1.out Tryd.underlying47 rfl HXS.out ?_)
  go_loopw [4, 5, 6, 8, 12] (fun _ _ _ s8 _ wr => ∃ k : Nat, k ≤ 8 ∧ s8 = .int .i64 (k : Int) ∧ wr.heap[w.heap.size + 1 + 1]? = some (.cells (brow (bTo s (4 * k)) 32) 29 (0, 0)) ∧ Below (w.heap.size + 1 + 1) w1 wr) (fun _ _ _ s8 _ _ => 8 - (intOf s8).toNat)
  case atStart => exact ⟨0, by omega, rfl, HI.out, Below.refl _ _⟩
  case round =>
    obtain ⟨k, hk, rfl, hg, hbr⟩ := hrel
    by_cases hlt : k < 8
    · have hix := HIX.out k hlt
      have HG := Lib.hid hg
      have hx := (wordS s k).isLt
      clear hg
      go_wp2_with fail
      obtain ⟨x, hxw⟩ : ∃ x, x = wordS s k := ⟨_, rfl⟩
      rw [← hxw] at hx ⊢
      have HXW := Lib.hid hxw
      clear hxw hix
      go_loopw [6, 12] (fun _ s12 wr => ∃ j : Nat, j ≤ 4 ∧ s12 = .int .i64 (j : Int) ∧ wr.heap[w.heap.size + 1 + 1]? = some (.cells (brow (bTo s (4 * k + j)) 32) 29 (0, 0)) ∧ Below (w.heap.size + 1 + 1) w1 wr) (fun _ s12 _ => 4 - (intOf s12).toNat)
      case atStart => exact ⟨0, by omega, rfl, HG.out, hbr⟩
      case round =>
        clear hbr HG
        obtain ⟨j, hj, rfl, hg, hbr⟩ := hrel
        by_cases hlt2 : j < 4
        · have cz : wr.cell? ⟨w.heap.size + 1 + 1, 4 * k + j, none⟩ = some (.int .u8 0) := by
            rw [cell_of_block hg, brow_get _ _ _ (by omega)]
            simp [bTo]
          have fz : wr.frozen? ⟨w.heap.size + 1 + 1, 4 * k + j, none⟩ = false := free_of_block hg
          have HG := Lib.hid hg
          clear hg
          go_wp2_with fail
          refine ⟨⟨j + 1, by omega, by go_num, ?_, ?_⟩, by simp [intOf]; omega⟩
          · rw [HXW.out, byte_val s k j hlt2, show 4 * k + (j + 1) = 4 * k + j + 1 from rfl, ← brow_set _ _ _ (by omega)]
            exact heap_setCell_same wr _ (4 * k + j) _ _ _ HG.out
          · exact hbr.setCell (Nat.le_refl _) _
        · have hj4 : j = 4 := by omega
          subst hj4
          have HG := Lib.hid hg
          clear hg
          go_wp2_with fail
          exact ⟨⟨k + 1, by omega, by go_num, HG.out, hbr⟩, by simp [intOf]; omega⟩
    · have hk8 : k = 8 := by omega
      subst hk8
      have hr : wr.heap[w.heap.size + 1]? = some (.cells (Array.replicate 32 (.int .u8 0)) 29 (0, 0)) := by rw [hbr.block _ (by omega)]; exact HR.out
      rw [show 4 * 8 = 32 from rfl, brow_all] at hg
      obtain ⟨Z, hZ⟩ : ∃ x, x = (bvs (idOf s)).toArray := ⟨_, rfl⟩
      have hZz : Z.size = 32 := by rw [hZ, ← brow_all, brow_size]
      have hZ1 : Z.all (·.oneCell') = true := by rw [hZ]; simpa using bvs_oneCell (idOf s)
      have hZs : (Tryd.prog.info? 29).map (·.size) = some Z.size := by rw [hZz]; kernel_rfl
      have hZ8 : (Array.replicate 32 (Value.int .u8 0)).size = Z.size := by rw [hZz]; rfl
      rw [← hZ] at hg
      have HGG := Lib.hid hg
      have HRE := Lib.hid hr
      have HZ := Lib.hid hZ
      have HZ1 := Lib.hid hZ1
      have HZS := Lib.hid hZs
      have HZ8 := Lib.hid hZ8
      have hBB : Below w.heap.size w wr := HB.out.trans (hbr.mono (by omega))
      clear hg hr hZ hZ1 hZs hZ8 hZz
      go_wp2_with (first | (refine wpList_load_row rfl 29 (.tmp 3) rfl (w.heap.size + 1 + 1) rfl 29 Z (0, 0) _ HGG.out Tryd.underlying29 rfl HZS.out ?_) | (refine wpList_store_row rfl 29 (.tmp 2) (.tmp 28) rfl (w.heap.size + 1) Z rfl rfl 29 _ HRE.out HZS.out HZ8.out HZ1.out ?_))
      refine bodyPost_ret (v := .agg Z) (results_cell_row rfl _ _ (w.heap.size + 1) 29 Z (0, 0) _ rfl (setRow_heap wr (w.heap.size + 1) _ Z _ _ HRE.out) Tryd.underlying29 rfl HZS.out) rfl ?_
      exact ⟨by rw [HZ.out], below_setRow hBB (by omega) Z⟩
end Go.Proofs.YtkgclhkpncegnaaDoor
