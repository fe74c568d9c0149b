/-
  The walk of ShaCmp.
-/
import Derived.Test.YtcgfkgkajifpbaaCmp
namespace Go.Proofs.Ytcgfkgkajifpbaa
open Go.RowKit

/-- The IDs of the law's own example, as the model writes them. -/
def litOne (n : Int) : Array Value := #[.int .u8 n, .int .u8 0, .int .u8 0, .int .u8 0, .int .u8 0, .int .u8 0, .int .u8 0, .int .u8 0, .int .u8 0, .int .u8 0, .int .u8 0, .int .u8 0, .int .u8 0, .int .u8 0, .int .u8 0, .int .u8 0, .int .u8 0, .int .u8 0, .int .u8 0, .int .u8 0, .int .u8 0, .int .u8 0, .int .u8 0, .int .u8 0, .int .u8 0, .int .u8 0, .int .u8 0, .int .u8 0, .int .u8 0, .int .u8 0, .int .u8 0, .int .u8 0]
theorem litOne_one : litOne 1 = (bvs (1 :: List.replicate 31 0)).toArray := by kernel_rfl
theorem litOne_two : litOne 2 = (bvs (2 :: List.replicate 31 0)).toArray := by kernel_rfl
theorem one_two : Lib.compareBytes (1 :: List.replicate 31 0) (2 :: List.replicate 31 0) = -1 := by decide

set_option maxRecDepth 100000 in
set_option maxHeartbeats 2000000 in
theorem shaCmp_any (l m : List UInt8) (w : World) (hl : l.length = 32) (hm : m.length = 32) :
    Calls Try.prog 5 #[.agg (bvs l).toArray, .agg (bvs m).toArray] w fun e w' => e = .returned (.bool true) ∧ Below w.heap.size w w' := by
  have hex := fun w => cmp_any (1 :: List.replicate 31 0) (2 :: List.replicate 31 0) w (by simp) (by simp)
  rw [one_two, ← litOne_one, ← litOne_two] at hex
  have hc1 := fun w => cmp_any l m w hl hm
  have hc2 := fun w => refcmp_any l m w hl hm
  have hc3 := fun w => cmp_any m l w hm hl
  rw [cmp_swap l m] at hc3
  have hh1 := fun w => hex_any l w hl
  have hh2 := fun w => hex_any m w hm
  have hlen : l.length = m.length := by omega
  have hless := less_cmp (hexL l) (hexL m)
  rw [cmp_hex l m hlen] at hless
  have hrg := cmp_range l m
  have hz := cmp_zero l m
  obtain ⟨cv, hcv⟩ : ∃ cv, cv = Lib.compareBytes l m := ⟨_, rfl⟩
  obtain ⟨S, hS⟩ : ∃ S : ByteArray, S = ⟨(hexL l).toArray⟩ := ⟨_, rfl⟩
  obtain ⟨T, hT⟩ : ∃ T : ByteArray, T = ⟨(hexL m).toArray⟩ := ⟨_, rfl⟩
  have hlt : Op.bytesLess S.toList T.toList = decide (cv < 0) := by
    rw [hS, hT, ByteArray.toList_mk, ByteArray.toList_mk, hless, hcv]
  have hdz : decide (l = m) = (cv == 0) := by
    rw [hcv]
    by_cases h : l = m
    · rw [decide_eq_true h, hz.2 h]; rfl
    · rw [decide_eq_false h]
      symm
      rw [beq_eq_false_iff_ne]
      exact fun h2 => h (hz.1 h2)
  have hneg : IntKind.i64.wrap (-cv) = -cv := by rw [IntKind.wrap_i64]; omega
  obtain ⟨X, hX⟩ : ∃ X, X = (bvs l).toArray := ⟨_, rfl⟩
  obtain ⟨Y, hY⟩ : ∃ Y, Y = (bvs m).toArray := ⟨_, rfl⟩
  have hXs : (Try.prog.info? 23).map (·.size) = some X.size := by rw [hX]; exact sizeId _ hl
  have hYs : (Try.prog.info? 23).map (·.size) = some Y.size := by rw [hY]; exact sizeId _ hm
  have heq : ∀ w', (Op.equalIn 10000 23 (.agg X) (.agg Y)).run Try.prog w' = .ok (cv == 0) w' := by
    intro w'
    rw [hX, hY, eq_ids w' _ _ hl hm, hdz]
  rw [← hX, ← hY, ← hcv] at hc1 hc2 hc3
  rw [← hX, ← hS] at hh1
  rw [← hY, ← hT] at hh2
  rw [← hX, ← hY]
  obtain ⟨w0, hw0⟩ : ∃ w0, w0 = (w.alloc (.cells X 23)).alloc (.cells Y 23) := ⟨_, rfl⟩
  have hA : w0.heap[w.heap.size]? = some (.cells X 23 (0, 0)) := by
    rw [hw0, heap_alloc_old _ _ (by simp)]; exact heap_alloc_new w _
  have hB : w0.heap[w.heap.size + 1]? = some (.cells Y 23 (0, 0)) := by
    rw [hw0, show w.heap.size + 1 = (w.alloc (.cells X 23)).heap.size by simp]; exact heap_alloc_new _ _
  have hb0 : Below w.heap.size w w0 := by rw [hw0]; exact ((Below.refl _ w).alloc (Nat.le_refl _) _).alloc (by simp) _
  have hlA : ∀ w', Below w0.heap.size w0 w' → w'.heap[w.heap.size]? = some (.cells X 23 (0, 0)) := fun w' h => by rw [h.block _ (lt_of_block hA)]; exact hA
  have hlB : ∀ w', Below w0.heap.size w0 w' → w'.heap[w.heap.size + 1]? = some (.cells Y 23 (0, 0)) := fun w' h => by rw [h.block _ (lt_of_block hB)]; exact hB
  have hd1 := fun w => calls_from (Nat.le_refl _) (w0 := w0) hc1 w
  have hd2 := fun w => calls_from (Nat.le_refl _) (w0 := w0) hc2 w
  have hd3 := fun w => calls_from (Nat.le_refl _) (w0 := w0) hc3 w
  have hd4 := fun w => calls_from (Nat.le_refl _) (w0 := w0) hh1 w
  have hd5 := fun w => calls_from (Nat.le_refl _) (w0 := w0) hh2 w
  have HEX := Lib.hid hex
  have HC1 := Lib.hid hc1
  have HD2 := Lib.hid hd2
  have HD3 := Lib.hid hd3
  have HD4 := Lib.hid hd4
  have HD5 := Lib.hid hd5
  have HLA := Lib.hid hlA
  have HLB := Lib.hid hlB
  have HXS := Lib.hid hXs
  have HYS := Lib.hid hYs
  clear hex hc1 hc2 hc3 hd1 hd2 hd3 hd4 hd5 hh1 hh2 hlA hlB hXs hYs hA hB hX hY hS hT hless hrg hz hdz hcv hlen
  go_enter Try.func5, Try.ntmps5
  go_upto_region 1 with (fail)
  rw [← hw0]
  clear hw0
  go_wp2_with fail
  refine (hexing_any w0).mono ?_
  rintro e w1 ⟨rfl, hb1⟩
  go_wp2_with fail
  refine (HEX.out w1).mono ?_
  rintro e w2 ⟨rfl, hb2⟩
  have hb2' := hb1.trans (hb2.mono hb1.size)
  clear hb1 hb2
  have hx2 := HLA.out w2 hb2'
  have hy2 := HLB.out w2 hb2'
  have HX2 := Lib.hid hx2
  have HY2 := Lib.hid hy2
  clear hx2 hy2
  go_wp2_with (first | (refine wpList_load_row rfl 23 (.tmp 2) rfl w.heap.size rfl 23 X (0, 0) _ HX2.out Try.underlying23 rfl HXS.out ?_) | (refine wpList_load_row rfl 23 (.tmp 3) rfl (w.heap.size + 1) rfl 23 Y (0, 0) _ HY2.out Try.underlying23 rfl HYS.out ?_))
  refine (HC1.out w2).mono ?_
  rintro e w3 ⟨rfl, hb3⟩
  have hb3' := hb2'.trans (hb3.mono hb2'.size)
  clear hb2' hb3 HX2 HY2
  go_wp2_with fail
  refine wp_region_below (w0 := w0) (B := w0.heap.size) (by kernel_rfl) (by kernel_rfl) hb3' ?_
  repeat (first
    | go_big_quiet_skip
    | (go_big_quiet_want
       first
         | (refine quiet_load_row 23 (.tmp 2) rfl w.heap.size rfl 23 X (0, 0) _ HLA.out Try.underlying23 rfl HXS.out ?_
            simp only [Act.put, List.setIfInBounds_toArray, List.set_cons_zero, List.set_cons_succ]
            go_big_quiet_on)
         | (refine quiet_load_row 23 (.tmp 3) rfl (w.heap.size + 1) rfl 23 Y (0, 0) _ HLB.out Try.underlying23 rfl HYS.out ?_
            simp only [Act.put, List.setIfInBounds_toArray, List.set_cons_zero, List.set_cons_succ]
            go_big_quiet_on)
         | (refine quiet_enter _ _ _ ?_ HD2.out ?_
            · intro w; go_simp
            simp only [Act.put, List.setIfInBounds_toArray, List.set_cons_zero, List.set_cons_succ]
            go_big_quiet_on)
         | (refine quiet_enter _ _ _ ?_ HD3.out ?_
            · intro w; go_simp
            simp only [Act.put, List.setIfInBounds_toArray, List.set_cons_zero, List.set_cons_succ]
            go_big_quiet_on)
         | (refine quiet_enter _ _ _ ?_ HD4.out ?_
            · intro w; go_simp
            simp only [Act.put, List.setIfInBounds_toArray, List.set_cons_zero, List.set_cons_succ]
            go_big_quiet_on)
         | (refine quiet_enter _ _ _ ?_ HD5.out ?_
            · intro w; go_simp
            simp only [Act.put, List.setIfInBounds_toArray, List.set_cons_zero, List.set_cons_succ]
            go_big_quiet_on)
         | (go_big_quiet_op
            refine ⟨_, fun _ _ => rfl, ?_⟩
            go_big_quiet_on)
         | (go_big_quiet_op
            go_big_quiet_on)))
  refine wpQuiet_nil ?_
  intro w4 hb4
  go_wp2_with fail
  go_ret
  exact ⟨rfl, hb0.trans (hb4.mono hb0.size)⟩

theorem shaCmp_walk (w : World) (l : List UInt8) (hl : l.length = 32) (m : List UInt8) (hm : m.length = 32) :
    Calls Try.prog 5 #[.agg (bvs l).toArray, .agg (bvs m).toArray] w fun e w' => e = .returned (.bool true) ∧ Below w.heap.size w w' := shaCmp_any l m w hl hm
end Go.Proofs.Ytcgfkgkajifpbaa
