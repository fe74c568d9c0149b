/-
  The walk of ShaHex.
-/
import Derived.Test.YtcgfkgkajifpbaaDrawn
namespace Go.Proofs.Ytcgfkgkajifpbaa
open Go.RowKit

set_option maxRecDepth 100000 in
set_option maxHeartbeats 1000000 in
theorem shaHex_any (idl : List UInt8) (s : ByteArray) (w : World) (hid : idl.length = 32) :
    Calls Try.prog 3 #[.agg (bvs idl).toArray, .string s] w fun e w' => e = .returned (.bool true) ∧ Below w.heap.size w w' := by
  have hh1 := fun w => hex_any idl w hid
  have hh2 := fun w => refhex_any idl w hid
  have hp1 := fun w => parse_any s w
  have hp2 := fun w => refparse_any s w
  unfold Parsed at hp1 hp2
  obtain ⟨S, hS⟩ : ∃ S : ByteArray, S = ⟨(hexL idl).toArray⟩ := ⟨_, rfl⟩
  obtain ⟨X, hX⟩ : ∃ X, X = (bvs idl).toArray := ⟨_, rfl⟩
  obtain ⟨Y, hY⟩ : ∃ Y, Y = (bvs (parseL s.data.toList)).toArray := ⟨_, rfl⟩
  obtain ⟨b, hb⟩ : ∃ b, b = parseB s.data.toList := ⟨_, rfl⟩
  have hpl : (parseL s.data.toList).length = 32 := by
    unfold parseL
    split
    · exact parsed_length _ _
    · simp
  have hXs : (Try.prog.info? 23).map (·.size) = some X.size := by rw [hX]; exact sizeId _ hid
  have hYz : Y.size = 32 := by rw [hY, List.size_toArray, bvs_length, hpl]
  have hYs : (Try.prog.info? 23).map (·.size) = some Y.size := by rw [hYz]; exact sizeID
  have hYs2 : (Try.prog.info? 22).map (·.size) = some Y.size := by rw [hYz]; exact sizeArr
  have hY1 : Y.all (·.oneCell') = true := by rw [hY]; simpa using bvs_oneCell (parseL s.data.toList)
  have hYl : lit32.size = Y.size := by rw [hYz, lit32_size]
  have heq : ∀ w', (Op.equalIn 10000 23 (.agg Y) (.agg Y)).run Try.prog w' = .ok true w' := by
    intro w'
    rw [hY, eq_ids w' _ _ hpl hpl, decide_eq_true rfl]
  rw [← hS, ← hX] at hh1 hh2
  rw [← hY, ← hb] at hp1 hp2
  rw [← hX]
  obtain ⟨w0, hw0⟩ : ∃ w0, w0 = w.alloc (.cells X 23) := ⟨_, rfl⟩
  have hx0 : w0.heap[w.heap.size]? = some (.cells X 23 (0, 0)) := by rw [hw0]; exact heap_alloc_new w _
  have hb0 : Below w.heap.size w w0 := by rw [hw0]; exact (Below.refl _ w).alloc (Nat.le_refl _) _
  have hlt0 := lt_of_block hx0
  have hxl : ∀ w', Below w0.heap.size w0 w' → w'.heap[w.heap.size]? = some (.cells X 23 (0, 0)) := fun w' h => by rw [h.block _ hlt0]; exact hx0
  have hc6 := fun w => calls_from (Nat.le_refl _) (w0 := w0) hexing_any w
  have hc7 := fun w => calls_from (Nat.le_refl _) (w0 := w0) hh1 w
  have hc8 := fun w => calls_from (Nat.le_refl _) (w0 := w0) hh2 w
  have hbd : Below w0.heap.size w0 w0.drew := (Below.refl _ w0).drew
  have HC6 := Lib.hid hc6
  have HC7 := Lib.hid hc7
  have HC8 := Lib.hid hc8
  have HP1 := Lib.hid hp1
  have HP2 := Lib.hid hp2
  have HXL := Lib.hid hxl
  have HXS := Lib.hid hXs
  have HYS := Lib.hid hYs
  have HYS2 := Lib.hid hYs2
  have HY1 := Lib.hid hY1
  have HYL := Lib.hid hYl
  clear hc6 hc7 hc8 hh1 hh2 hp1 hp2 hS hX hY hb hxl hXs hYs hYs2 hYz hY1 hYl hx0 hpl
  go_enter Try.func3, Try.ntmps3
  go_upto_region 1 with (fail)
  rw [← hw0]
  clear hw0
  refine wp_region_below (w0 := w0) (B := w0.heap.size) (by kernel_rfl) (by kernel_rfl) (Below.refl _ w0) ?_
  repeat (first
    | go_big_quiet_skip
    | (go_big_quiet_want
       first
         | (refine quiet_load_row 23 (.tmp 2) rfl w.heap.size rfl 23 X (0, 0) _ HXL.out Try.underlying23 rfl HXS.out ?_
            simp only [Act.put, List.setIfInBounds_toArray, List.set_cons_zero, List.set_cons_succ]
            go_big_quiet_on)
         | (refine quiet_enter _ _ _ ?_ HC6.out ?_
            · intro w; go_simp
            simp only [Act.put, List.setIfInBounds_toArray, List.set_cons_zero, List.set_cons_succ]
            go_big_quiet_on)
         | (refine quiet_enter _ _ _ ?_ HC7.out ?_
            · intro w; go_simp
            simp only [Act.put, List.setIfInBounds_toArray, List.set_cons_zero, List.set_cons_succ]
            go_big_quiet_on)
         | (refine quiet_enter _ _ _ ?_ HC8.out ?_
            · intro w; go_simp
            simp only [Act.put, List.setIfInBounds_toArray, List.set_cons_zero, List.set_cons_succ]
            go_big_quiet_on)
         | (go_big_quiet_op
            refine ⟨_, fun _ _ => rfl, ?_⟩
            go_big_quiet_on)
         | (go_big_quiet_op
            go_big_quiet_on)))
  refine wpQuiet_nil ?_
  intro w1 hb1
  go_wp2_with fail
  refine (HP1.out w1).mono ?_
  rintro e w2 ⟨rfl, hb2⟩
  have hb2' : Below w.heap.size w w2 := hb0.trans ((hb1.trans (hb2.mono hb1.size)).mono (by omega))
  have hh2 : (w2.alloc zid).heap[w2.heap.size]? = some (.cells lit32 23 (0, 0)) := heap_alloc_new w2 _
  have HH2 := Lib.hid hh2
  clear hh2 hb1 hb2 hb0 hbd
  go_wp2_with (refine wpList_store_row_then rfl 23 (.tmp 5) (.tmp 21) rfl w2.heap.size Y rfl rfl 23 lit32 HH2.out HYS.out HYL.out HY1.out ?_)
  refine Lib.hid ?_
  change wpList _ _ _ _ _ ((w2.alloc (.cells lit32 23)).setRow w2.heap.size Y)
  obtain ⟨hn1, hn2⟩ := new_id w2 23 Y
  obtain ⟨w3, hw3⟩ : ∃ w3, w3 = (w2.alloc (.cells lit32 23)).setRow w2.heap.size Y := ⟨_, rfl⟩
  rw [← hw3] at hn1 hn2 ⊢
  have hb3' := hb2'.trans (hn2.mono hb2'.size)
  have HN1 := Lib.hid hn1
  clear hw3 hn2 hn1 HH2
  go_wp2_with fail
  refine (HP2.out w3).mono ?_
  rintro e w4 ⟨rfl, hb4⟩
  have hb4' := hb3'.trans (hb4.mono hb3'.size)
  have hn4 : w4.heap[w2.heap.size]? = some (.cells Y 23 (0, 0)) := by rw [hb4.block _ (lt_of_block HN1.out)]; exact HN1.out
  have hh4 : (w4.alloc zarr).heap[w4.heap.size]? = some (.cells lit32 22 (0, 0)) := heap_alloc_new w4 _
  have HH4 := Lib.hid hh4
  clear hh4 hb4 hb3'
  go_wp2_with (refine wpList_store_row_then rfl 22 (.tmp 7) (.tmp 26) rfl w4.heap.size Y rfl rfl 22 lit32 HH4.out HYS2.out HYL.out HY1.out ?_)
  refine Lib.hid ?_
  change wpList _ _ _ _ _ ((w4.alloc (.cells lit32 22)).setRow w4.heap.size Y)
  obtain ⟨hm1, hm2⟩ := new_id w4 22 Y
  obtain ⟨w5, hw5⟩ : ∃ w5, w5 = (w4.alloc (.cells lit32 22)).setRow w4.heap.size Y := ⟨_, rfl⟩
  rw [← hw5] at hm1 hm2 ⊢
  have hb5' := hb4'.trans (hm2.mono hb4'.size)
  have hn5 : w5.heap[w2.heap.size]? = some (.cells Y 23 (0, 0)) := by rw [hm2.block _ (lt_of_block hn4)]; exact hn4
  have HN5 := Lib.hid hn5
  have HM1 := Lib.hid hm1
  clear hw5 hm1 hm2 hn4 hn5 HH4
  go_wp2_with (first | (refine wpList_load_row_g (by first | rfl | simp [Region.wanted, yielded]) 23 (.tmp 5) rfl w2.heap.size rfl 23 Y (0, 0) _ HN5.out Try.underlying23 rfl HYS.out ?_) | (refine wpList_load_row_g (by first | rfl | simp [Region.wanted, yielded]) 22 (.tmp 7) rfl w4.heap.size rfl 22 Y (0, 0) _ HM1.out Try.underlying22 rfl HYS2.out ?_))
  go_ret
  exact ⟨rfl, hb5'⟩

theorem shaHex_walk (w : World) (l : List UInt8) (hl : l.length = 32) (s : ByteArray) (_ : s.size ≤ maxLen) :
    Calls Try.prog 3 #[.agg (bvs l).toArray, .string s] w fun e w' => e = .returned (.bool true) ∧ Below w.heap.size w w' := shaHex_any l s w hl
end Go.Proofs.Ytcgfkgkajifpbaa
