/-
  The walk of the law StampBounds.
-/
import Derived.Test.YtnadodmiijomoaaAlive
import Derived.Test.YtnadodmiijomoaaOpenStamp
namespace Go.Proofs.Ytnadodmiijomoaa
open Go.RowKit

theorem cmpS_trans (a b c d e f : Int) (h : cmpS a b c d ≤ 0) (k : cmpS c d e f ≤ 0) : cmpS a b e f ≤ 0 := by
  rw [cmpS_le] at *
  omega

theorem right_cases (t r : Int) : (decide (1 ≤ t) = false ∧ Hid (rightB t r = false)) ∨ (decide (1 ≤ t) = true ∧ decide (t ≤ 1099511627776) = false ∧ Hid (rightB t r = false)) ∨ (decide (1 ≤ t) = true ∧ decide (t ≤ 1099511627776) = true ∧ decide (1 ≤ r) = false ∧ Hid (rightB t r = false)) ∨ (decide (1 ≤ t) = true ∧ decide (t ≤ 1099511627776) = true ∧ decide (1 ≤ r) = true ∧ decide (r ≤ 65536) = false ∧ Hid (rightB t r = false)) ∨ (decide (1 ≤ t) = true ∧ decide (t ≤ 1099511627776) = true ∧ decide (1 ≤ r) = true ∧ decide (r ≤ 65536) = true ∧ Hid (rightB t r = true)) := by
  have e : rightB t r = (decide (1 ≤ t) && decide (t ≤ 1099511627776) && (decide (1 ≤ r) && decide (r ≤ 65536))) := rfl
  rw [e]
  cases decide (1 ≤ t)
  · exact .inl ⟨rfl, Lib.hid (by simp)⟩
  · cases decide (t ≤ 1099511627776)
    · exact .inr (.inl ⟨rfl, rfl, Lib.hid (by simp)⟩)
    · cases decide (1 ≤ r)
      · exact .inr (.inr (.inl ⟨rfl, rfl, rfl, Lib.hid (by simp)⟩))
      · cases decide (r ≤ 65536)
        · exact .inr (.inr (.inr (.inl ⟨rfl, rfl, rfl, rfl, Lib.hid (by simp)⟩)))
        · exact .inr (.inr (.inr (.inr ⟨rfl, rfl, rfl, rfl, Lib.hid (by simp)⟩)))

set_option maxRecDepth 100000 in
set_option maxHeartbeats 1000000 in
theorem stampBounds_walk (w : World) (t0 r0 : Int) (_ : (Lit.int .i64 t0).wf = true) (_ : (Lit.int .i64 r0).wf = true) (t1 r1 : Int) (_ : (Lit.int .i64 t1).wf = true) (_ : (Lit.int .i64 r1).wf = true) (t2 r2 : Int) (_ : (Lit.int .i64 t2).wf = true) (_ : (Lit.int .i64 r2).wf = true) :
    Calls Try.prog 10 #[.agg (stampCells t0 r0), .agg (stampCells t1 r1), .agg (stampCells t2 r2)] w fun e w' => e = .returned (.bool true) ∧ Below w.heap.size w w' := by
  obtain ⟨w3, hw3⟩ : ∃ w3, w3 = ((w.alloc (.cells (stampCells t0 r0) 23)).alloc (.cells (stampCells t1 r1) 23)).alloc (.cells (stampCells t2 r2) 23) := ⟨_, rfl⟩
  have hA : w3.heap[w.heap.size]? = some (.cells (stampCells t0 r0) 23 (0, 0)) := by rw [hw3, heap_alloc_old _ _ (by simp; omega), heap_alloc_old _ _ (by simp), heap_alloc_eq _ _ _ rfl]
  have hB : w3.heap[w.heap.size + 1]? = some (.cells (stampCells t1 r1) 23 (0, 0)) := by rw [hw3, heap_alloc_old _ _ (by simp), heap_alloc_eq _ _ _ (by simp)]
  have hC : w3.heap[w.heap.size + 1 + 1]? = some (.cells (stampCells t2 r2) 23 (0, 0)) := by rw [hw3, heap_alloc_eq _ _ _ (by simp)]
  have hb3 : Below w.heap.size w w3 := by rw [hw3]; exact (((Below.refl _ w).alloc (Nat.le_refl _) _).alloc (by simp) _).alloc (by simp <;> omega) _
  have hz3 := lt_of_block hC
  have HA := Lib.hid hA
  have HB := Lib.hid hB
  have HC := Lib.hid hC
  have HW3 := Lib.hid hw3
  clear hA hB hC hw3
  go_enter Try.func10, Try.ntmps10
  go_upto_region 1 with (fail)
  change Code.wp _ _ _ _ (((w.alloc (.cells (stampCells t0 r0) 23)).alloc (.cells (stampCells t1 r1) 23)).alloc (.cells (stampCells t2 r2) 23))
  rw [← HW3.out]
  go_wp2_with fail
  refine (alive_any _).mono ?_
  rintro e w4 ⟨rfl, hb4⟩
  have HA4 := Lib.hid (show w4.heap[w.heap.size]? = some (.cells (stampCells t0 r0) 23 (0, 0)) by rw [hb4.block _ (by omega)]; exact HA.out)
  have HB4 := Lib.hid (show w4.heap[w.heap.size + 1]? = some (.cells (stampCells t1 r1) 23 (0, 0)) by rw [hb4.block _ (by omega)]; exact HB.out)
  have HC4 := Lib.hid (show w4.heap[w.heap.size + 1 + 1]? = some (.cells (stampCells t2 r2) 23 (0, 0)) by rw [hb4.block _ hz3]; exact HC.out)
  have hz4 : w.heap.size + 1 + 1 < w4.heap.size := Nat.lt_of_lt_of_le hz3 hb4.size
  have hb04 := hb3.trans (hb4.mono hb3.size)
  clear HA HB HC hb3 hb4 hz3 HW3
  have a0 : w4.cell? ⟨w.heap.size, 0, none⟩ = some (.int .i64 t0) := cell_of_block HA4.out
  have a1 : w4.cell? ⟨w.heap.size, 1, none⟩ = some (.int .i64 r0) := cell_of_block HA4.out
  have b0 : w4.cell? ⟨w.heap.size + 1, 0, none⟩ = some (.int .i64 t1) := cell_of_block HB4.out
  have b1 : w4.cell? ⟨w.heap.size + 1, 1, none⟩ = some (.int .i64 r1) := cell_of_block HB4.out
  have c0 : w4.cell? ⟨w.heap.size + 1 + 1, 0, none⟩ = some (.int .i64 t2) := cell_of_block HC4.out
  have c1 : w4.cell? ⟨w.heap.size + 1 + 1, 1, none⟩ = some (.int .i64 r2) := cell_of_block HC4.out
  go_wp2_with fail
  clear a0 a1 b0 b1 c0 c1
  obtain ⟨ss, hss⟩ : ∃ ss, ss = [(t0, r0), (t1, r1), (t2, r2)] := ⟨_, rfl⟩
  obtain ⟨w5, hw5⟩ : ∃ w5, w5 = w4.alloc (.cells (stampRow ss).toArray 23) := ⟨_, rfl⟩
  have e5 : w4.alloc (.cells #[.int .i64 t0, .int .i64 r0, .int .i64 t1, .int .i64 r1, .int .i64 t2, .int .i64 r2] 23) = w5 := by rw [hw5, hss]; rfl
  rw [e5]
  have hb5 : Below w4.heap.size w4 w5 := by rw [hw5]; exact (Below.refl _ _).alloc (Nat.le_refl _) _
  have hS : w5.heap[w4.heap.size]? = some (.cells (stampRow ss).toArray 23 (0, 0)) := by rw [hw5]; exact heap_alloc_new _ _
  have hz5 := lt_of_block hS
  have hl3 : ss.length = 3 := by rw [hss]; rfl
  have HA5 := Lib.hid (show ∀ W, Below w5.heap.size w5 W → W.heap[w.heap.size]? = some (.cells (stampCells t0 r0) 23 (0, 0)) from fun W h => by rw [h.block _ (by omega), hb5.block _ (by omega)]; exact HA4.out)
  have HB5 := Lib.hid (show ∀ W, Below w5.heap.size w5 W → W.heap[w.heap.size + 1]? = some (.cells (stampCells t1 r1) 23 (0, 0)) from fun W h => by rw [h.block _ (by omega), hb5.block _ (by omega)]; exact HB4.out)
  have HC5 := Lib.hid (show ∀ W, Below w5.heap.size w5 W → W.heap[w.heap.size + 1 + 1]? = some (.cells (stampCells t2 r2) 23 (0, 0)) from fun W h => by rw [h.block _ (by omega), hb5.block _ hz4]; exact HC4.out)
  have HS := Lib.hid (show ∀ W, Below w5.heap.size w5 W → W.heap[w4.heap.size]? = some (.cells (stampRow ss).toArray 23 (0, 0)) from fun W h => by rw [h.block _ hz5]; exact hS)
  have hb05 := hb04.trans (hb5.mono hb04.size)
  have H05 := Lib.hid hb05
  have HL3 := Lib.hid hl3
  have hzw : w.heap.size ≤ w5.heap.size := hb05.size
  clear hw5 e5 hS hss hb5 hb04 hb05 HA4 HB4 HC4 hl3
  go_loopw [8, 16] (fun _ s16 wr => ∃ k : Nat, k ≤ 3 ∧ s16 = .int .i64 (k : Int) ∧ Hid (Below w5.heap.size w5 wr)) (fun _ s16 _ => 3 - (intOf s16).toNat)
  case atStart => exact ⟨0, Nat.zero_le _, rfl, Lib.hid (Below.refl _ _)⟩
  case round =>
    obtain ⟨k, hk, rfl, hbr⟩ := hrel
    by_cases hlt : k < 3
    · have hkz : k < ss.length := by rw [HL3.out]; exact hlt
      obtain ⟨t, ht⟩ : ∃ t, t = ss[k].1 := ⟨_, rfl⟩
      obtain ⟨r, hr⟩ : ∃ r, r = ss[k].2 := ⟨_, rfl⟩
      have hgr := HS.out wr hbr.out
      have hc1 : wr.cell? ⟨w4.heap.size, k * 2, none⟩ = some (.int .i64 t) := by
        rw [cell_of_block hgr, ht, Nat.mul_comm]
        simpa using (stampRow_get ss k hkz).1
      have hc2 : wr.cell? ⟨w4.heap.size, k * 2 + 1, none⟩ = some (.int .i64 r) := by
        rw [cell_of_block hgr, hr, Nat.mul_comm]
        simpa using (stampRow_get ss k hkz).2
      clear ht hr hgr hkz
      obtain ⟨w6, hw6⟩ : ∃ w6, w6 = wr.alloc (.cells (stampCells t r) 23) := ⟨_, rfl⟩
      have e6 : wr.alloc (.cells #[.int .i64 t, .int .i64 r] 23) = w6 := hw6.symm
      have hg6 : w6.heap[wr.heap.size]? = some (.cells (stampCells t r) 23 (0, 0)) := by rw [hw6]; exact heap_alloc_new _ _
      have hz6 := lt_of_block hg6
      have G6 := Lib.hid (show ∀ W, Below w6.heap.size w6 W → W.heap[wr.heap.size]? = some (.cells (stampCells t r) 23 (0, 0)) from fun W h => by rw [h.block _ hz6]; exact hg6)
      have C0 := Lib.hid (show ∀ W, Below w6.heap.size w6 W → W.cell? ⟨wr.heap.size, 0, none⟩ = some (.int .i64 t) from fun W h => cell_of_block (G6.out W h))
      have C1 := Lib.hid (show ∀ W, Below w6.heap.size w6 W → W.cell? ⟨wr.heap.size, 1, none⟩ = some (.int .i64 r) from fun W h => cell_of_block (G6.out W h))
      have hb6 : Below w5.heap.size w5 w6 := by rw [hw6]; exact hbr.out.alloc hbr.out.size _
      have HB6 := Lib.hid hb6
      clear hw6 hg6 hb6
      go_wp2_with fail
      clear e6 hc1 hc2
      have hs : Below w6.heap.size w6 w6.drew := (Below.refl _ _).drew
      have hright := fun W => right_any t r W
      rcases right_cases t r with ⟨h1, H⟩ | ⟨h1, h2, H⟩ | ⟨h1, h2, h3, H⟩ | ⟨h1, h2, h3, h4, H⟩ | ⟨h1, h2, h3, h4, H⟩
      all_goals
        rw [H.out] at hright
        have HR := Lib.hid hright
        clear hright
        refine wp_region_sched (fun W => Below w6.heap.size w6 W) [([0, 2, 3, 4], 1)] [5, 6, 7, 8, 9, 10, 11, 12, 13, 14, 15, 16, 17, 18, 19, 20] (by kernel_rfl) (by kernel_rfl) (fun _ _ d _ _ h => by cases d <;> exact h) (by kernel_rfl) (of_decide_eq_true (by kernel_rfl)) hs ?_
        refine wpSched_cons ?_
        dsimp only [opsAt, List.filterMap, List.getElem?_cons_zero, List.getElem?_cons_succ]
        repeat (first
          | go_big_quiet_skip
          | (go_big_quiet_want
             first
               | (refine quiet_load_row' 23 (.tmp 8) rfl wr.heap.size rfl 23 (stampCells t r) (0, 0) _ G6.out Try.underlying23 rfl (sizeStamp _ _) ?_
                  simp only [Act.put, List.setIfInBounds_toArray, List.set_cons_zero, List.set_cons_succ]
                  go_big_quiet_on)
               | (refine quiet_load_cell 2 (.tmp 22) rfl ⟨wr.heap.size, 0, none⟩ rfl (.int .i64 t) _ C0.out Try.underlying2 rfl ?_
                  simp only [Act.put, List.setIfInBounds_toArray, List.set_cons_zero, List.set_cons_succ]
                  go_big_quiet_on)
               | (go_big_quiet_op
                  refine ⟨_, fun _ _ => rfl, ?_⟩
                  go_big_quiet_on)
               | (go_big_quiet_op
                  go_big_quiet_on)))
        refine wpQuiet_nil ?_
        intro KK hKK
        go_simp
        first
          | (refine (HR.out _).mono ?_
             rintro e w3 ⟨rfl, hb3⟩
             replace hs := hs.trans (hb3.mono hs.size)
             clear hb3)
          | skip
        refine hKK _ _ hs ?_
        clear hKK KK
        try simp only [Act.put, List.setIfInBounds_toArray, List.set_cons_zero, List.set_cons_succ]
        refine wpSched_nil ?_
        dsimp only [opsAt, List.filterMap, List.getElem?_cons_zero, List.getElem?_cons_succ]
        repeat (first
          | go_big_quiet_skip
          | (go_big_quiet_want
             first
               | (refine quiet_load_cell 2 (.tmp 22) rfl ⟨wr.heap.size, 0, none⟩ rfl (.int .i64 t) _ C0.out Try.underlying2 rfl ?_
                  simp only [Act.put, List.setIfInBounds_toArray, List.set_cons_zero, List.set_cons_succ]
                  go_big_quiet_on)
               | (refine quiet_load_cell 2 (.tmp 26) rfl ⟨wr.heap.size, 0, none⟩ rfl (.int .i64 t) _ C0.out Try.underlying2 rfl ?_
                  simp only [Act.put, List.setIfInBounds_toArray, List.set_cons_zero, List.set_cons_succ]
                  go_big_quiet_on)
               | (refine quiet_load_cell 3 (.tmp 31) rfl ⟨wr.heap.size, 1, none⟩ rfl (.int .i64 r) _ C1.out Try.underlying3 rfl ?_
                  simp only [Act.put, List.setIfInBounds_toArray, List.set_cons_zero, List.set_cons_succ]
                  go_big_quiet_on)
               | (refine quiet_load_cell 3 (.tmp 36) rfl ⟨wr.heap.size, 1, none⟩ rfl (.int .i64 r) _ C1.out Try.underlying3 rfl ?_
                  simp only [Act.put, List.setIfInBounds_toArray, List.set_cons_zero, List.set_cons_succ]
                  go_big_quiet_on)
               | (go_big_quiet_op
                  refine ⟨_, fun _ _ => rfl, ?_⟩
                  go_big_quiet_on)
               | (go_big_quiet_op
                  go_big_quiet_on)))
        refine wpQuiet_nil ?_
        go_wp2_with fail
        go_roundw
        case rel => exact ⟨k + 1, by omega, by go_num, Lib.hid (HB6.out.trans (hs.mono HB6.out.size))⟩
        case measure => simp [intOf]; omega
    · clear hk
      obtain ⟨cab, hcab⟩ : ∃ c, c = cmpS t0 r0 t1 r1 := ⟨_, rfl⟩
      obtain ⟨cba, hcba⟩ : ∃ c, c = cmpS t1 r1 t0 r0 := ⟨_, rfl⟩
      obtain ⟨cbc, hcbc⟩ : ∃ c, c = cmpS t1 r1 t2 r2 := ⟨_, rfl⟩
      obtain ⟨cac, hcac⟩ : ∃ c, c = cmpS t0 r0 t2 r2 := ⟨_, rfl⟩
      obtain ⟨eb, heb⟩ : ∃ e, e = decide (t0 = t1 ∧ r0 = r1) := ⟨_, rfl⟩
      have hcase : (cab = 1 ∧ cba = -1 ∧ eb = false) ∨ (cab = 0 ∧ cba = 0 ∧ eb = true ∧ ¬ cbc ≤ 0) ∨ (cab = 0 ∧ cba = 0 ∧ eb = true ∧ cbc ≤ 0 ∧ cac ≤ 0) ∨ (cab = -1 ∧ cba = 1 ∧ eb = false ∧ ¬ cbc ≤ 0) ∨ (cab = -1 ∧ cba = 1 ∧ eb = false ∧ cbc ≤ 0 ∧ cac ≤ 0) := by
        have h1 := cmpS_range t0 r0 t1 r1
        have h2 := cmpS_zero t0 r0 t1 r1
        have h3 := cmpS_neg t0 r0 t1 r1
        have h4 := cmpS_trans t0 r0 t1 r1 t2 r2
        rw [← hcab] at h1 h2 h3 h4
        rw [← hcba] at h3
        rw [← hcbc] at h4
        rw [← hcac] at h4
        have h5 : eb = decide (cab = 0) := by rw [heb]; exact decide_eq_decide.2 h2.symm
        clear h2
        by_cases hbc : cbc ≤ 0
        · have h6 : cab = 1 ∨ cab = 0 ∨ cab = -1 := by omega
          rcases h6 with rfl | rfl | rfl
          · exact .inl ⟨rfl, by omega, by rw [h5]; rfl⟩
          · exact .inr (.inr (.inl ⟨rfl, by omega, by rw [h5]; rfl, hbc, h4 (by omega) hbc⟩))
          · exact .inr (.inr (.inr (.inr ⟨rfl, by omega, by rw [h5]; rfl, hbc, h4 (by omega) hbc⟩)))
        · have h6 : cab = 1 ∨ cab = 0 ∨ cab = -1 := by omega
          rcases h6 with rfl | rfl | rfl
          · exact .inl ⟨rfl, by omega, by rw [h5]; rfl⟩
          · exact .inr (.inl ⟨rfl, by omega, by rw [h5]; rfl, hbc⟩)
          · exact .inr (.inr (.inr (.inl ⟨rfl, by omega, by rw [h5]; rfl, hbc⟩)))
      have kab := fun W => cmp_any t0 r0 t1 r1 W
      have kba := fun W => cmp_any t1 r1 t0 r0 W
      have kbc := fun W => cmp_any t1 r1 t2 r2 W
      have kac := fun W => cmp_any t0 r0 t2 r2 W
      have q : ∀ w', (Op.equalIn 10000 23 (.agg (stampCells t0 r0)) (.agg (stampCells t1 r1))).run Try.prog w' = .ok eb w' := fun w' => by rw [heb]; exact eq_stamps _ _ _ _ w'
      rw [← hcab] at kab
      rw [← hcba] at kba
      rw [← hcbc] at kbc
      rw [← hcac] at kac
      clear hcab hcba hcbc hcac heb
      have hs := hbr.out
      clear hbr
      rcases hcase with ⟨rfl, rfl, rfl⟩ | ⟨rfl, rfl, rfl, h1⟩ | ⟨rfl, rfl, rfl, h1, h2⟩ | ⟨rfl, rfl, rfl, h1⟩ | ⟨rfl, rfl, rfl, h1, h2⟩
      all_goals
        have KAB := Lib.hid kab
        have KBA := Lib.hid kba
        have KBC := Lib.hid kbc
        have KAC := Lib.hid kac
        clear kab kba kbc kac
        go_upto_region 9 with (fail)
        refine wp_region_lex (fun W => Below w5.heap.size w5 W) [([0, 1], 2), ([3, 4, 5, 6], 7), ([8, 9, 10, 11, 12], 13)] [14, 15] (by kernel_rfl) (by kernel_rfl) hs ?_
        refine wpSched_cons ?_
        dsimp only [opsAt, List.filterMap, List.getElem?_cons_zero, List.getElem?_cons_succ]
        repeat (first
          | go_big_quiet_skip
          | (go_big_quiet_want
             first
               | (refine quiet_load_row' 23 (.tmp 3) rfl w.heap.size rfl 23 (stampCells t0 r0) (0, 0) _ HA5.out Try.underlying23 rfl (sizeStamp _ _) ?_
                  simp only [Act.put, List.setIfInBounds_toArray, List.set_cons_zero, List.set_cons_succ]
                  go_big_quiet_on)
               | (refine quiet_load_row' 23 (.tmp 4) rfl (w.heap.size + 1) rfl 23 (stampCells t1 r1) (0, 0) _ HB5.out Try.underlying23 rfl (sizeStamp _ _) ?_
                  simp only [Act.put, List.setIfInBounds_toArray, List.set_cons_zero, List.set_cons_succ]
                  go_big_quiet_on)
               | (refine quiet_load_row' 23 (.tmp 5) rfl (w.heap.size + 1 + 1) rfl 23 (stampCells t2 r2) (0, 0) _ HC5.out Try.underlying23 rfl (sizeStamp _ _) ?_
                  simp only [Act.put, List.setIfInBounds_toArray, List.set_cons_zero, List.set_cons_succ]
                  go_big_quiet_on)
               | (go_big_quiet_op
                  refine ⟨_, fun _ _ => rfl, ?_⟩
                  go_big_quiet_on)
               | (go_big_quiet_op
                  go_big_quiet_on)))
        refine wpQuiet_nil ?_
        intro KK hKK
        go_simp
        first
          | (refine (KAB.out _).mono ?_
             rintro e w3 ⟨rfl, hb3⟩
             replace hs := hs.trans (hb3.mono hs.size)
             clear hb3)
          | skip
        refine hKK _ _ hs ?_
        clear hKK KK
        try simp only [Act.put, List.setIfInBounds_toArray, List.set_cons_zero, List.set_cons_succ]
        refine wpSched_cons ?_
        dsimp only [opsAt, List.filterMap, List.getElem?_cons_zero, List.getElem?_cons_succ]
        repeat (first
          | go_big_quiet_skip
          | (go_big_quiet_want
             first
               | (refine quiet_load_row' 23 (.tmp 3) rfl w.heap.size rfl 23 (stampCells t0 r0) (0, 0) _ HA5.out Try.underlying23 rfl (sizeStamp _ _) ?_
                  simp only [Act.put, List.setIfInBounds_toArray, List.set_cons_zero, List.set_cons_succ]
                  go_big_quiet_on)
               | (refine quiet_load_row' 23 (.tmp 4) rfl (w.heap.size + 1) rfl 23 (stampCells t1 r1) (0, 0) _ HB5.out Try.underlying23 rfl (sizeStamp _ _) ?_
                  simp only [Act.put, List.setIfInBounds_toArray, List.set_cons_zero, List.set_cons_succ]
                  go_big_quiet_on)
               | (refine quiet_load_row' 23 (.tmp 5) rfl (w.heap.size + 1 + 1) rfl 23 (stampCells t2 r2) (0, 0) _ HC5.out Try.underlying23 rfl (sizeStamp _ _) ?_
                  simp only [Act.put, List.setIfInBounds_toArray, List.set_cons_zero, List.set_cons_succ]
                  go_big_quiet_on)
               | (go_big_quiet_op
                  refine ⟨_, fun _ _ => rfl, ?_⟩
                  go_big_quiet_on)
               | (go_big_quiet_op
                  go_big_quiet_on)))
        refine wpQuiet_nil ?_
        intro KK hKK
        go_simp
        first
          | (refine (KBC.out _).mono ?_
             rintro e w3 ⟨rfl, hb3⟩
             replace hs := hs.trans (hb3.mono hs.size)
             clear hb3)
          | skip
        refine hKK _ _ hs ?_
        clear hKK KK
        try simp only [Act.put, List.setIfInBounds_toArray, List.set_cons_zero, List.set_cons_succ]
        refine wpSched_cons ?_
        dsimp only [opsAt, List.filterMap, List.getElem?_cons_zero, List.getElem?_cons_succ]
        repeat (first
          | go_big_quiet_skip
          | (go_big_quiet_want
             first
               | (refine quiet_load_row' 23 (.tmp 3) rfl w.heap.size rfl 23 (stampCells t0 r0) (0, 0) _ HA5.out Try.underlying23 rfl (sizeStamp _ _) ?_
                  simp only [Act.put, List.setIfInBounds_toArray, List.set_cons_zero, List.set_cons_succ]
                  go_big_quiet_on)
               | (refine quiet_load_row' 23 (.tmp 4) rfl (w.heap.size + 1) rfl 23 (stampCells t1 r1) (0, 0) _ HB5.out Try.underlying23 rfl (sizeStamp _ _) ?_
                  simp only [Act.put, List.setIfInBounds_toArray, List.set_cons_zero, List.set_cons_succ]
                  go_big_quiet_on)
               | (refine quiet_load_row' 23 (.tmp 5) rfl (w.heap.size + 1 + 1) rfl 23 (stampCells t2 r2) (0, 0) _ HC5.out Try.underlying23 rfl (sizeStamp _ _) ?_
                  simp only [Act.put, List.setIfInBounds_toArray, List.set_cons_zero, List.set_cons_succ]
                  go_big_quiet_on)
               | (go_big_quiet_op
                  refine ⟨_, fun _ _ => rfl, ?_⟩
                  go_big_quiet_on)
               | (go_big_quiet_op
                  go_big_quiet_on)))
        refine wpQuiet_nil ?_
        intro KK hKK
        go_simp
        first
          | (refine (KAC.out _).mono ?_
             rintro e w3 ⟨rfl, hb3⟩
             replace hs := hs.trans (hb3.mono hs.size)
             clear hb3)
          | skip
        refine hKK _ _ hs ?_
        clear hKK KK
        try simp only [Act.put, List.setIfInBounds_toArray, List.set_cons_zero, List.set_cons_succ]
        refine wpSched_nil ?_
        dsimp only [opsAt, List.filterMap, List.getElem?_cons_zero, List.getElem?_cons_succ]
        repeat (first
          | go_big_quiet_skip
          | (go_big_quiet_want
             first
               | (go_big_quiet_op
                  refine ⟨_, fun _ _ => rfl, ?_⟩
                  go_big_quiet_on)
               | (go_big_quiet_op
                  go_big_quiet_on)))
        refine wpQuiet_nil ?_
        go_upto_region 11 with (fail)
        refine wp_region_sched (fun W => Below w5.heap.size w5 W) [([0, 1, 4, 5, 6], 2), ([3, 7, 8, 9, 10, 12, 13], 11), ([], 14)] [15, 16, 17, 18] (by kernel_rfl) (by kernel_rfl) (fun _ _ d _ _ h => by cases d <;> exact h) (by kernel_rfl) (of_decide_eq_true (by kernel_rfl)) hs.drew ?_
        replace hs := hs.drew
        refine wpSched_cons ?_
        dsimp only [opsAt, List.filterMap, List.getElem?_cons_zero, List.getElem?_cons_succ]
        repeat (first
          | go_big_quiet_skip
          | (go_big_quiet_want
             first
               | (refine quiet_load_row' 23 (.tmp 3) rfl w.heap.size rfl 23 (stampCells t0 r0) (0, 0) _ HA5.out Try.underlying23 rfl (sizeStamp _ _) ?_
                  simp only [Act.put, List.setIfInBounds_toArray, List.set_cons_zero, List.set_cons_succ]
                  go_big_quiet_on)
               | (refine quiet_load_row' 23 (.tmp 4) rfl (w.heap.size + 1) rfl 23 (stampCells t1 r1) (0, 0) _ HB5.out Try.underlying23 rfl (sizeStamp _ _) ?_
                  simp only [Act.put, List.setIfInBounds_toArray, List.set_cons_zero, List.set_cons_succ]
                  go_big_quiet_on)
               | (refine quiet_load_row' 23 (.tmp 5) rfl (w.heap.size + 1 + 1) rfl 23 (stampCells t2 r2) (0, 0) _ HC5.out Try.underlying23 rfl (sizeStamp _ _) ?_
                  simp only [Act.put, List.setIfInBounds_toArray, List.set_cons_zero, List.set_cons_succ]
                  go_big_quiet_on)
               | (go_big_quiet_op
                  refine ⟨_, fun _ _ => rfl, ?_⟩
                  go_big_quiet_on)
               | (go_big_quiet_op
                  go_big_quiet_on)))
        refine wpQuiet_nil ?_
        intro KK hKK
        go_simp
        first
          | (refine (KAB.out _).mono ?_
             rintro e w3 ⟨rfl, hb3⟩
             replace hs := hs.trans (hb3.mono hs.size)
             clear hb3)
          | skip
        refine hKK _ _ hs ?_
        clear hKK KK
        try simp only [Act.put, List.setIfInBounds_toArray, List.set_cons_zero, List.set_cons_succ]
        refine wpSched_cons ?_
        dsimp only [opsAt, List.filterMap, List.getElem?_cons_zero, List.getElem?_cons_succ]
        repeat (first
          | go_big_quiet_skip
          | (go_big_quiet_want
             first
               | (refine quiet_load_row' 23 (.tmp 3) rfl w.heap.size rfl 23 (stampCells t0 r0) (0, 0) _ HA5.out Try.underlying23 rfl (sizeStamp _ _) ?_
                  simp only [Act.put, List.setIfInBounds_toArray, List.set_cons_zero, List.set_cons_succ]
                  go_big_quiet_on)
               | (refine quiet_load_row' 23 (.tmp 4) rfl (w.heap.size + 1) rfl 23 (stampCells t1 r1) (0, 0) _ HB5.out Try.underlying23 rfl (sizeStamp _ _) ?_
                  simp only [Act.put, List.setIfInBounds_toArray, List.set_cons_zero, List.set_cons_succ]
                  go_big_quiet_on)
               | (refine quiet_load_row' 23 (.tmp 5) rfl (w.heap.size + 1 + 1) rfl 23 (stampCells t2 r2) (0, 0) _ HC5.out Try.underlying23 rfl (sizeStamp _ _) ?_
                  simp only [Act.put, List.setIfInBounds_toArray, List.set_cons_zero, List.set_cons_succ]
                  go_big_quiet_on)
               | (go_big_quiet_op
                  refine ⟨_, fun _ _ => rfl, ?_⟩
                  go_big_quiet_on)
               | (go_big_quiet_op
                  go_big_quiet_on)))
        refine wpQuiet_nil ?_
        intro KK hKK
        go_simp
        first
          | (refine (KAB.out _).mono ?_
             rintro e w3 ⟨rfl, hb3⟩
             replace hs := hs.trans (hb3.mono hs.size)
             clear hb3)
          | skip
        refine hKK _ _ hs ?_
        clear hKK KK
        try simp only [Act.put, List.setIfInBounds_toArray, List.set_cons_zero, List.set_cons_succ]
        refine wpSched_cons ?_
        dsimp only [opsAt, List.filterMap, List.getElem?_cons_zero, List.getElem?_cons_succ]
        repeat (first
          | go_big_quiet_skip
          | (go_big_quiet_want
             first
               | (go_big_quiet_op
                  refine ⟨_, fun _ _ => rfl, ?_⟩
                  go_big_quiet_on)
               | (go_big_quiet_op
                  go_big_quiet_on)))
        refine wpQuiet_nil ?_
        intro KK hKK
        go_simp
        first
          | (refine (KBA.out _).mono ?_
             rintro e w3 ⟨rfl, hb3⟩
             replace hs := hs.trans (hb3.mono hs.size)
             clear hb3)
          | skip
        refine hKK _ _ hs ?_
        clear hKK KK
        try simp only [Act.put, List.setIfInBounds_toArray, List.set_cons_zero, List.set_cons_succ]
        refine wpSched_nil ?_
        dsimp only [opsAt, List.filterMap, List.getElem?_cons_zero, List.getElem?_cons_succ]
        repeat (first
          | go_big_quiet_skip
          | (go_big_quiet_want
             first
               | (go_big_quiet_op
                  refine ⟨_, fun _ _ => rfl, ?_⟩
                  go_big_quiet_on)
               | (go_big_quiet_op
                  go_big_quiet_on)))
        refine wpQuiet_nil ?_
        go_wp2_with fail
        go_ret
        exact ⟨rfl, H05.out.trans (hs.mono H05.out.size)⟩
end Go.Proofs.Ytnadodmiijomoaa
