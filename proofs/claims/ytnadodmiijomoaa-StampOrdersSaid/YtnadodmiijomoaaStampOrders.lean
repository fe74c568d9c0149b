/-
  The walk of the law StampOrders.
-/
import Derived.Test.YtnadodmiijomoaaAlive
import Derived.Test.YtnadodmiijomoaaRefName
namespace Go.Proofs.Ytnadodmiijomoaa
open Go.RowKit

set_option maxRecDepth 100000 in
set_option maxHeartbeats 2000000 in
theorem stampOrders_walk (w : World) (t0 r0 : Int) (_ : (Lit.int .i64 t0).wf = true) (_ : (Lit.int .i64 r0).wf = true) (t1 r1 : Int) (_ : (Lit.int .i64 t1).wf = true) (_ : (Lit.int .i64 r1).wf = true) (s : ByteArray) (hm : s.size ≤ maxLen) :
    Calls Try.prog 3 #[.agg (stampCells t0 r0), .agg (stampCells t1 r1), .string s] w fun e w' => e = .returned (.bool true) ∧ Below w.heap.size w w' := by
  obtain ⟨w3, hw3⟩ : ∃ w3, w3 = (w.alloc (.cells (stampCells t0 r0) 23)).alloc (.cells (stampCells t1 r1) 23) := ⟨_, rfl⟩
  have hA : w3.heap[w.heap.size]? = some (.cells (stampCells t0 r0) 23 (0, 0)) := by rw [hw3, heap_alloc_old _ _ (by simp), heap_alloc_eq _ _ _ rfl]
  have hB : w3.heap[w.heap.size + 1]? = some (.cells (stampCells t1 r1) 23 (0, 0)) := by rw [hw3, heap_alloc_eq _ _ _ (by simp)]
  have hb3 : Below w.heap.size w w3 := by rw [hw3]; exact ((Below.refl _ w).alloc (Nat.le_refl _) _).alloc (by simp) _
  have hz3 := lt_of_block hB
  have HA := Lib.hid hA
  have HB := Lib.hid hB
  have HW3 := Lib.hid hw3
  clear hA hB hw3
  go_enter Try.func3, Try.ntmps3
  go_upto_region 1 with (fail)
  change Code.wp _ _ _ _ ((w.alloc (.cells (stampCells t0 r0) 23)).alloc (.cells (stampCells t1 r1) 23))
  rw [← HW3.out]
  go_wp2_with fail
  refine (alive_any _).mono ?_
  rintro e w5 ⟨rfl, hb4⟩
  have HA5 := Lib.hid (show ∀ W, Below w5.heap.size w5 W → W.heap[w.heap.size]? = some (.cells (stampCells t0 r0) 23 (0, 0)) from fun W h => by rw [h.block _ (by have := hb4.size; omega), hb4.block _ (by omega)]; exact HA.out)
  have HB5 := Lib.hid (show ∀ W, Below w5.heap.size w5 W → W.heap[w.heap.size + 1]? = some (.cells (stampCells t1 r1) 23 (0, 0)) from fun W h => by rw [h.block _ (by have := hb4.size; omega), hb4.block _ hz3]; exact HB.out)
  have hb05 := hb3.trans (hb4.mono hb3.size)
  have H05 := Lib.hid hb05
  clear HA HB hb3 hb4 hb05 hz3 HW3
  obtain ⟨cab, hcab⟩ : ∃ c, c = cmpS t0 r0 t1 r1 := ⟨_, rfl⟩
  obtain ⟨cba, hcba⟩ : ∃ c, c = cmpS t1 r1 t0 r0 := ⟨_, rfl⟩
  obtain ⟨rb, hrb⟩ : ∃ b, b = rightB t0 r0 := ⟨_, rfl⟩
  obtain ⟨nb, hnb⟩ : ∃ b, b = nameV s (badB s) := ⟨_, rfl⟩
  have hcase : (cab = 1 ∧ cba = -1) ∨ (cab = 0 ∧ cba = 0) ∨ (cab = -1 ∧ cba = 1) := by
    have h1 := cmpS_range t0 r0 t1 r1
    have h3 := cmpS_neg t0 r0 t1 r1
    rw [← hcab] at h1 h3
    rw [← hcba] at h3
    omega
  have k1 := fun W => cmp_any t0 r0 t1 r1 W
  have k2 := fun W => refcmp_any t0 r0 t1 r1 W
  have k3 := fun W => cmp_any t1 r1 t0 r0 W
  have k4 := fun W => right_any t0 r0 W
  have k5 := fun W => refright_any t0 r0 W
  have k6 := fun W => name_any s W hm
  have k7 := fun W => refname_any s W hm
  rw [← hcab] at k1 k2
  rw [← hcba] at k3
  rw [← hrb] at k4 k5
  rw [← hnb] at k6 k7
  have er : (rb == rb) = true := by cases rb <;> rfl
  have en : (nb == nb) = true := by cases nb <;> rfl
  clear hcab hcba hrb hnb
  have hs : Below w5.heap.size w5 w5.drew := (Below.refl _ _).drew
  rcases hcase with ⟨rfl, rfl⟩ | ⟨rfl, rfl⟩ | ⟨rfl, rfl⟩
  all_goals
    have K1 := Lib.hid k1
    have K2 := Lib.hid k2
    have K3 := Lib.hid k3
    have K4 := Lib.hid k4
    have K5 := Lib.hid k5
    have K6 := Lib.hid k6
    have K7 := Lib.hid k7
    clear k1 k2 k3 k4 k5 k6 k7
    go_upto_region 3 with (fail)
    refine wp_region_sched (fun W => Below w5.heap.size w5 W) [([0, 1, 3, 4], 2), ([], 5), ([6, 7, 8, 9, 11, 12], 10), ([], 13), ([14, 15, 16, 17, 18, 20], 19), ([], 21), ([22, 23, 24, 25, 27], 26), ([], 28)] [29, 30, 31] (by kernel_rfl) (by kernel_rfl) (fun _ _ d _ _ h => by cases d <;> exact h) (by kernel_rfl) (of_decide_eq_true (by kernel_rfl)) hs ?_
    refine wpSched_cons ?_
    dsimp only [opsAt, List.filterMap, List.getElem?_cons_zero, List.getElem?_cons_succ]
    repeat (first
      | go_big_quiet_skip
      | (go_big_quiet_want
         first
           | (refine quiet_load_row' 23 (.tmp 3) rfl w.heap.size rfl 23 (stampCells t0 r0) (0, 0) _ HA5.out Try.underlying23 rfl (sizeStamp _ _) ?_
              simp only [Act.put, List.setIfInBounds_toArray, List.set_cons_zero, List.set_cons_succ]
              go_big_quiet_on)
           | (refine quiet_load_row' 23 (.tmp 4) rfl (w.heap.size + 1) rfl 23 (stampCells t1 r1) (0, 0) _ HB5.out Try.underlying23 rfl (sizeStamp _ _) ?_
              simp only [Act.put, List.setIfInBounds_toArray, List.set_cons_zero, List.set_cons_succ]
              go_big_quiet_on)
           | (go_big_quiet_op
              refine ⟨_, fun _ _ => rfl, ?_⟩
              go_big_quiet_on)
           | (go_big_quiet_op
              go_big_quiet_on)))
    refine wpQuiet_nil ?_
    intro KK hKK
    go_simp
    first
      | (refine (K1.out _).mono ?_
         rintro e w3 ⟨rfl, hb3⟩
         replace hs := hs.trans (hb3.mono hs.size)
         clear hb3)
      | skip
    refine hKK _ _ hs ?_
    clear hKK KK
    try simp only [Act.put, List.setIfInBounds_toArray, List.set_cons_zero, List.set_cons_succ]
    refine wpSched_cons ?_
    dsimp only [opsAt, List.filterMap, List.getElem?_cons_zero, List.getElem?_cons_succ]
    repeat (first
      | go_big_quiet_skip
      | (go_big_quiet_want
         first
           | (go_big_quiet_op
              refine ⟨_, fun _ _ => rfl, ?_⟩
              go_big_quiet_on)
           | (go_big_quiet_op
              go_big_quiet_on)))
    refine wpQuiet_nil ?_
    intro KK hKK
    go_simp
    first
      | (refine (K2.out _).mono ?_
         rintro e w3 ⟨rfl, hb3⟩
         replace hs := hs.trans (hb3.mono hs.size)
         clear hb3)
      | skip
    refine hKK _ _ hs ?_
    clear hKK KK
    try simp only [Act.put, List.setIfInBounds_toArray, List.set_cons_zero, List.set_cons_succ]
    refine wpSched_cons ?_
    dsimp only [opsAt, List.filterMap, List.getElem?_cons_zero, List.getElem?_cons_succ]
    repeat (first
      | go_big_quiet_skip
      | (go_big_quiet_want
         first
           | (refine quiet_load_row' 23 (.tmp 3) rfl w.heap.size rfl 23 (stampCells t0 r0) (0, 0) _ HA5.out Try.underlying23 rfl (sizeStamp _ _) ?_
              simp only [Act.put, List.setIfInBounds_toArray, List.set_cons_zero, List.set_cons_succ]
              go_big_quiet_on)
           | (refine quiet_load_row' 23 (.tmp 4) rfl (w.heap.size + 1) rfl 23 (stampCells t1 r1) (0, 0) _ HB5.out Try.underlying23 rfl (sizeStamp _ _) ?_
              simp only [Act.put, List.setIfInBounds_toArray, List.set_cons_zero, List.set_cons_succ]
              go_big_quiet_on)
           | (go_big_quiet_op
              refine ⟨_, fun _ _ => rfl, ?_⟩
              go_big_quiet_on)
           | (go_big_quiet_op
              go_big_quiet_on)))
    refine wpQuiet_nil ?_
    intro KK hKK
    go_simp
    first
      | (refine (K3.out _).mono ?_
         rintro e w3 ⟨rfl, hb3⟩
         replace hs := hs.trans (hb3.mono hs.size)
         clear hb3)
      | skip
    refine hKK _ _ hs ?_
    clear hKK KK
    try simp only [Act.put, List.setIfInBounds_toArray, List.set_cons_zero, List.set_cons_succ]
    refine wpSched_cons ?_
    dsimp only [opsAt, List.filterMap, List.getElem?_cons_zero, List.getElem?_cons_succ]
    repeat (first
      | go_big_quiet_skip
      | (go_big_quiet_want
         first
           | (go_big_quiet_op
              refine ⟨_, fun _ _ => rfl, ?_⟩
              go_big_quiet_on)
           | (go_big_quiet_op
              go_big_quiet_on)))
    refine wpQuiet_nil ?_
    intro KK hKK
    go_simp
    first
      | (refine (K1.out _).mono ?_
         rintro e w3 ⟨rfl, hb3⟩
         replace hs := hs.trans (hb3.mono hs.size)
         clear hb3)
      | skip
    refine hKK _ _ hs ?_
    clear hKK KK
    try simp only [Act.put, List.setIfInBounds_toArray, List.set_cons_zero, List.set_cons_succ]
    refine wpSched_cons ?_
    dsimp only [opsAt, List.filterMap, List.getElem?_cons_zero, List.getElem?_cons_succ]
    repeat (first
      | go_big_quiet_skip
      | (go_big_quiet_want
         first
           | (refine quiet_load_row' 23 (.tmp 3) rfl w.heap.size rfl 23 (stampCells t0 r0) (0, 0) _ HA5.out Try.underlying23 rfl (sizeStamp _ _) ?_
              simp only [Act.put, List.setIfInBounds_toArray, List.set_cons_zero, List.set_cons_succ]
              go_big_quiet_on)
           | (refine quiet_load_row' 23 (.tmp 4) rfl (w.heap.size + 1) rfl 23 (stampCells t1 r1) (0, 0) _ HB5.out Try.underlying23 rfl (sizeStamp _ _) ?_
              simp only [Act.put, List.setIfInBounds_toArray, List.set_cons_zero, List.set_cons_succ]
              go_big_quiet_on)
           | (go_big_quiet_op
              refine ⟨_, fun _ _ => rfl, ?_⟩
              go_big_quiet_on)
           | (go_big_quiet_op
              go_big_quiet_on)))
    refine wpQuiet_nil ?_
    intro KK hKK
    go_simp
    first
      | (refine (K4.out _).mono ?_
         rintro e w3 ⟨rfl, hb3⟩
         replace hs := hs.trans (hb3.mono hs.size)
         clear hb3)
      | skip
    refine hKK _ _ hs ?_
    clear hKK KK
    try simp only [Act.put, List.setIfInBounds_toArray, List.set_cons_zero, List.set_cons_succ]
    refine wpSched_cons ?_
    dsimp only [opsAt, List.filterMap, List.getElem?_cons_zero, List.getElem?_cons_succ]
    repeat (first
      | go_big_quiet_skip
      | (go_big_quiet_want
         first
           | (go_big_quiet_op
              refine ⟨_, fun _ _ => rfl, ?_⟩
              go_big_quiet_on)
           | (go_big_quiet_op
              go_big_quiet_on)))
    refine wpQuiet_nil ?_
    intro KK hKK
    go_simp
    first
      | (refine (K5.out _).mono ?_
         rintro e w3 ⟨rfl, hb3⟩
         replace hs := hs.trans (hb3.mono hs.size)
         clear hb3)
      | skip
    refine hKK _ _ hs ?_
    clear hKK KK
    try simp only [Act.put, List.setIfInBounds_toArray, List.set_cons_zero, List.set_cons_succ]
    refine wpSched_cons ?_
    dsimp only [opsAt, List.filterMap, List.getElem?_cons_zero, List.getElem?_cons_succ]
    repeat (first
      | go_big_quiet_skip
      | (go_big_quiet_want
         first
           | (go_big_quiet_op
              refine ⟨_, fun _ _ => rfl, ?_⟩
              go_big_quiet_on)
           | (go_big_quiet_op
              go_big_quiet_on)))
    refine wpQuiet_nil ?_
    intro KK hKK
    go_simp
    first
      | (refine (K6.out _).mono ?_
         rintro e w3 ⟨rfl, hb3⟩
         replace hs := hs.trans (hb3.mono hs.size)
         clear hb3)
      | skip
    refine hKK _ _ hs ?_
    clear hKK KK
    try simp only [Act.put, List.setIfInBounds_toArray, List.set_cons_zero, List.set_cons_succ]
    refine wpSched_cons ?_
    dsimp only [opsAt, List.filterMap, List.getElem?_cons_zero, List.getElem?_cons_succ]
    repeat (first
      | go_big_quiet_skip
      | (go_big_quiet_want
         first
           | (go_big_quiet_op
              refine ⟨_, fun _ _ => rfl, ?_⟩
              go_big_quiet_on)
           | (go_big_quiet_op
              go_big_quiet_on)))
    refine wpQuiet_nil ?_
    intro KK hKK
    go_simp
    first
      | (refine (K7.out _).mono ?_
         rintro e w3 ⟨rfl, hb3⟩
         replace hs := hs.trans (hb3.mono hs.size)
         clear hb3)
      | skip
    refine hKK _ _ hs ?_
    clear hKK KK
    try simp only [Act.put, List.setIfInBounds_toArray, List.set_cons_zero, List.set_cons_succ]
    refine wpSched_nil ?_
    dsimp only [opsAt, List.filterMap, List.getElem?_cons_zero, List.getElem?_cons_succ]
    repeat (first
      | go_big_quiet_skip
      | (go_big_quiet_want
         first
           | (go_big_quiet_op
              refine ⟨_, fun _ _ => rfl, ?_⟩
              go_big_quiet_on)
           | (go_big_quiet_op
              go_big_quiet_on)))
    refine wpQuiet_nil ?_
    go_wp2_with fail
    go_ret
    exact ⟨rfl, H05.out.trans (hs.mono H05.out.size)⟩
end Go.Proofs.Ytnadodmiijomoaa
