/-
  The walk of the reference's Tables.
-/
import Derived.Test.YtkgclhkpncegnaaDoorTabKit
import Derived.Test.YtkgclhkpncegnaaDoorPlan
namespace Go.Proofs.YtkgclhkpncegnaaDoor
open Go.RowKit
set_option linter.unusedSimpArgs false
set_option linter.unusedVariables false

theorem sizeT (v1 v2 : Value) : (Tryd.prog.info? 26).map (·.size) = some (#[v1, v2] : Array Value).size := by
  show _ = some 2
  kernel_rfl
theorem own_one {w : World} {base n : Nat} {e : TypeId} {v : Value} {xs : List Value} (h : w.ownsRow base e 1 v n xs) : v.oneCell' = true := by
  obtain ⟨a, c, rfl⟩ := own_any h
  rfl

theorem grownBy_setRow' (w : World) (g : Nat) (X : Array Value) : w.grownBy (w.setRow g X) (some g) := ⟨rfl, rfl, rfl, by simp, fun k _ hk => setRow_other _ g k _ (fun e => hk (by rw [e]))⟩

set_option maxRecDepth 100000 in
set_option maxHeartbeats 8000000 in
theorem tables_any (w : World) : Calls Tryd.prog 8 #[] w fun e w' => ∃ bf br cf cr, e = .returned (.agg #[.slice (some ⟨bf, 0, none⟩) 8 cf, .slice (some ⟨br, 0, none⟩) 64 cr]) ∧ WordsAt w' bf (wordS startS) 8 ∧ WordsAt w' br keyAt 64 ∧ 8 ≤ cf ∧ 64 ≤ cr ∧ Below w.heap.size w w' := by
  obtain ⟨i0, hi, hz0, hz1, hz2⟩ := info_parts infoW
  obtain ⟨w0, hw0⟩ : ∃ w0, w0 = (w.alloc (.cells #[.slice none 0 0, .slice none 0 0] 26)).alloc (.cells #[.slice none 0 0, .slice none 0 0] 26) := ⟨_, rfl⟩
  have hr0 : w0.heap[w.heap.size]? = some (.cells #[.slice none 0 0, .slice none 0 0] 26 (0, 0)) := by rw [hw0, heap_alloc_old _ _ (by simp)]; exact heap_alloc_new w _
  have ht0 : w0.heap[w.heap.size + 1]? = some (.cells #[.slice none 0 0, .slice none 0 0] 26 (0, 0)) := by
    rw [hw0, show w.heap.size + 1 = (w.alloc (.cells #[.slice none 0 0, .slice none 0 0] 26)).heap.size by simp]; exact heap_alloc_new _ _
  have hb0 : Below w.heap.size w w0 := by rw [hw0]; exact ((Below.refl _ w).alloc (Nat.le_refl _) _).alloc (by simp) _
  obtain ⟨w1, hw1⟩ : ∃ w1, w1 = w0.setRow (w.heap.size + 1) #[.slice none 0 0, .slice none 0 0] := ⟨_, rfl⟩
  have ht1 : w1.heap[w.heap.size + 1]? = some (.cells #[.slice none 0 0, .slice none 0 0] 26 (0, 0)) := by rw [hw1]; exact setRow_heap w0 _ _ _ _ _ ht0
  have hr1 : w1.heap[w.heap.size]? = some (.cells #[.slice none 0 0, .slice none 0 0] 26 (0, 0)) := by rw [hw1, setRow_other _ _ _ _ (by omega)]; exact hr0
  have hb1 : Below w.heap.size w w1 := by rw [hw1]; exact below_setRow hb0 (by omega) _
  have HT0 := Lib.hid ht0
  have HW0 := Lib.hid hw0
  have HW1 := Lib.hid hw1
  have HT1 := Lib.hid ht1
  have HR1 := Lib.hid hr1
  have HB1 := Lib.hid hb1
  clear hw0 hr0 ht0 hb0 hw1 ht1 hr1 hb1
  go_enter Tryd.func8, Tryd.ntmps8
  go_upto_region 2 with (refine wpList_store_row rfl 26 (.tmp 1) (.tmp 4) rfl (w.heap.size + 1) #[.slice none 0 0, .slice none 0 0] rfl rfl 26 #[.slice none 0 0, .slice none 0 0] (by have := HT0.out; rw [HW0.out] at this; exact this) (sizeT _ _) rfl (by simp [Value.oneCell']) ?_)
  change Code.wp _ _ _ _ (((w.alloc (.cells #[.slice none 0 0, .slice none 0 0] 26)).alloc (.cells #[.slice none 0 0, .slice none 0 0] 26)).setRow (w.heap.size + 1) #[.slice none 0 0, .slice none 0 0])
  rw [← HW0.out, ← HW1.out]
  clear HT0 HW0 HW1
  go_wp2_with fail
  refine (primes_any w1).mono ?_
  rintro e w2 ⟨gp, cp, rfl, hps, hcp, hmp, hb2⟩
  obtain ⟨T, hT⟩ : ∃ T, T = w.heap.size + 1 := ⟨_, rfl⟩
  obtain ⟨B, hB⟩ : ∃ B, B = w2.heap.size := ⟨_, rfl⟩
  have hta : TabAt w T gp B 0 0 (.slice none 0 0) (.slice none 0 0) w2 := by
    have h1 : w2.heap[T]? = some (.cells #[.slice none 0 0, .slice none 0 0] 26 (0, 0)) := by rw [hT, hb2.block _ (lt_of_block HT1.out)]; exact HT1.out
    refine ⟨h1, World.ownsRow_nil _ _ _ _, World.ownsRow_nil _ _ _ _, fun _ => rfl, fun _ => rfl, hps, HB1.out.trans (hb2.mono HB1.out.size), by rw [hB]; exact Nat.le_refl _, by rw [hB]; exact lt_of_block h1, by rw [hB]; exact World.block_lt_of_cell? w2 _ (hps 0 (by omega)), ?_, by omega, by rw [hb2.block _ (lt_of_block HR1.out)]; exact HR1.out⟩
    intro e
    have h2 := hps 0 (by omega)
    rw [e, cell_of_block h1] at h2
    simp at h2
  have HTA := Lib.hid hta
  rw [← hT]
  clear hT hB hta hps hb2 HT1 HR1 HB1
  go_wp2_with fail
  go_loopw [3] (fun s3 wx => ∃ (k k1 : Nat) (v1 v2 : Value), k ≤ 64 ∧ k1 = min k 8 ∧ s3 = .int .i64 (k : Int) ∧ Hid (TabAt w T gp B k1 k v1 v2 wx)) (fun s3 _ => 64 - (intOf s3).toNat)
  case atStart => exact ⟨0, 0, _, _, by omega, by omega, rfl, HTA⟩
  case round =>
    clear HTA
    obtain ⟨k, k1, v1, v2, hk, hk1, rfl, HT⟩ := hrel
    by_cases hlt : k < 64
    · obtain ⟨p, hp⟩ : ∃ p, p = (prs 312).getD k 0 := ⟨_, rfl⟩
      have hp3 : p ≤ 1000 := by rw [hp]; exact prime_small k
      obtain ⟨X, hX⟩ : ∃ X, X = keyAt k := ⟨_, rfl⟩
      have hpl : ∀ W, (Below w.heap.size w W ∧ PsAt gp W) → W.cell? ⟨gp, k, none⟩ = some (.int .i64 (p : Int)) := fun W h => by rw [hp]; exact h.2 k hlt
      have hr3 : ∀ W, Calls Tryd.prog 20 #[.int .i64 (p : Int), .int .i64 3] W fun e w' => e = .returned (.int .u32 (X.toNat : Int)) ∧ Below W.heap.size W w' := fun W => by
        have h1 := root_any p 3 (Or.inr rfl) hp3 W
        rw [hp, root3_key k hlt, ← hp, ← hX] at h1
        exact h1
      have HPL := Lib.hid hpl
      have HR3 := Lib.hid hr3
      have HX := Lib.hid hX
      have HP := Lib.hid hp
      have hcp64 : 64 ≤ cp := hcp
      clear hpl hr3 hX hp
      go_upto_region 6 with (fail)
      refine wp_region_plan (fun W => Below w.heap.size w W ∧ PsAt gp W) (.two [0, 2, 3, 4, 5] 1 (.one [] 6 (.one [] 7 (.one [] 8 (.one [9] 10 (.done []))))) 6 (.two [] 1 (.one [] 7 (.one [] 8 (.one [9] 10 (.done [])))) 7 (.one [] 1 (.one [] 8 (.one [9] 10 (.done [])))))) (by kernel_rfl) (by kernel_rfl) (fun _ _ d _ _ h => by cases d <;> exact h) (by kernel_rfl) (of_decide_eq_true (by kernel_rfl)) ⟨HT.out.below.drew, HT.out.ps⟩ ?_
      have ht := HT.out.later (Below.refl _ _).drew
      have c1 := cell_of_block (i := 1) ht.blk
      simp only [List.getElem?_toArray, List.getElem?_cons_zero, List.getElem?_cons_succ] at c1
      have HT0 := Lib.hid ht
      clear ht HT
      refine wpPlan_two ?_
      dsimp only [opsAt, List.filterMap, List.getElem?_cons_zero, List.getElem?_cons_succ]
      repeat (first
        | go_big_quiet_skip
        | (go_big_quiet_want
           first
             | (refine quiet_load_cell 3 (.tmp 14) rfl ⟨gp, k, none⟩ rfl (.int .i64 (p : Int)) _ HPL.out Tryd.underlying3 rfl ?_
                simp only [Act.put, List.setIfInBounds_toArray, List.set_cons_zero, List.set_cons_succ]
                go_big_quiet_on)
             | (go_big_quiet_op
                first | refine ⟨_, fun _ _ => rfl, ?_⟩ | refine ⟨_, fun _ _ _ => rfl, ?_⟩ | refine ⟨_, fun _ _ _ _ => rfl, ?_⟩
                go_big_quiet_on)
             | (go_big_quiet_op
                go_big_quiet_on)))
      refine wpQuiet_nil ⟨?_, ?_⟩
      intro KK hKK
      go_simp
      refine hKK _ _ ⟨HT0.out.below, HT0.out.ps⟩ ?_
      clear hKK KK c1
      try simp only [Act.put, List.setIfInBounds_toArray, List.set_cons_zero, List.set_cons_succ]
      refine wpPlan_one ?_
      dsimp only [opsAt, List.filterMap, List.getElem?_cons_zero, List.getElem?_cons_succ]
      repeat (first
        | go_big_quiet_skip
        | (go_big_quiet_want
           first
             | (go_big_quiet_op
                first | refine ⟨_, fun _ _ => rfl, ?_⟩ | refine ⟨_, fun _ _ _ => rfl, ?_⟩ | refine ⟨_, fun _ _ _ _ => rfl, ?_⟩
                go_big_quiet_on)
             | (go_big_quiet_op
                go_big_quiet_on)))
      refine wpQuiet_nil ?_
      intro KK hKK
      go_simp
      refine (HR3.out _).mono ?_
      rintro e w9 ⟨rfl, hb9⟩
      have ht9 := Lib.hid (HT0.out.later hb9)
      refine hKK _ _ ⟨ht9.out.below, ht9.out.ps⟩ ?_
      clear hKK KK hb9 HT0
      try simp only [Act.put, List.setIfInBounds_toArray, List.set_cons_zero, List.set_cons_succ]
      refine wpPlan_one ?_
      dsimp only [opsAt, List.filterMap, List.getElem?_cons_zero, List.getElem?_cons_succ]
      repeat (first
        | go_big_quiet_skip
        | (go_big_quiet_want
           first
             | (go_big_quiet_op
                first | refine ⟨_, fun _ _ => rfl, ?_⟩ | refine ⟨_, fun _ _ _ => rfl, ?_⟩ | refine ⟨_, fun _ _ _ _ => rfl, ?_⟩
                go_big_quiet_on)
             | (go_big_quiet_op
                go_big_quiet_on)))
      refine wpQuiet_nil ?_
      intro KK hKK
      go_simp
      have ht10 := Lib.hid (ht9.out.later ((Below.refl _ w9).alloc (Nat.le_refl _) (.cells #[.int .u32 (X.toNat : Int)] 45)))
      refine hKK _ _ ⟨ht10.out.below, ht10.out.ps⟩ ?_
      clear hKK KK ht9
      rotate_left
      clear c1
      intro KK hKK
      go_simp
      refine (HR3.out _).mono ?_
      rintro e w9 ⟨rfl, hb9⟩
      have ht9 := Lib.hid (HT0.out.later hb9)
      refine hKK _ _ ⟨ht9.out.below, ht9.out.ps⟩ ?_
      clear hKK KK hb9 HT0
      try simp only [Act.put, List.setIfInBounds_toArray, List.set_cons_zero, List.set_cons_succ]
      refine wpPlan_two ?_
      dsimp only [opsAt, List.filterMap, List.getElem?_cons_zero, List.getElem?_cons_succ]
      repeat (first
        | go_big_quiet_skip
        | (go_big_quiet_want
           first
             | (go_big_quiet_op
                first | refine ⟨_, fun _ _ => rfl, ?_⟩ | refine ⟨_, fun _ _ _ => rfl, ?_⟩ | refine ⟨_, fun _ _ _ _ => rfl, ?_⟩
                go_big_quiet_on)
             | (go_big_quiet_op
                go_big_quiet_on)))
      refine wpQuiet_nil ⟨?_, ?_⟩
      have c1 := cell_of_block (i := 1) ht9.out.blk
      simp only [List.getElem?_toArray, List.getElem?_cons_zero, List.getElem?_cons_succ] at c1
      intro KK hKK
      go_simp
      refine hKK _ _ ⟨ht9.out.below, ht9.out.ps⟩ ?_
      clear hKK KK c1
      try simp only [Act.put, List.setIfInBounds_toArray, List.set_cons_zero, List.set_cons_succ]
      refine wpPlan_one ?_
      dsimp only [opsAt, List.filterMap, List.getElem?_cons_zero, List.getElem?_cons_succ]
      repeat (first
        | go_big_quiet_skip
        | (go_big_quiet_want
           first
             | (go_big_quiet_op
                first | refine ⟨_, fun _ _ => rfl, ?_⟩ | refine ⟨_, fun _ _ _ => rfl, ?_⟩ | refine ⟨_, fun _ _ _ _ => rfl, ?_⟩
                go_big_quiet_on)
             | (go_big_quiet_op
                go_big_quiet_on)))
      refine wpQuiet_nil ?_
      intro KK hKK
      go_simp
      have ht10 := Lib.hid (ht9.out.later ((Below.refl _ w9).alloc (Nat.le_refl _) (.cells #[.int .u32 (X.toNat : Int)] 45)))
      refine hKK _ _ ⟨ht10.out.below, ht10.out.ps⟩ ?_
      clear hKK KK ht9
      rotate_left
      intro KK hKK
      go_simp
      have ht10 := Lib.hid (ht9.out.later ((Below.refl _ w9).alloc (Nat.le_refl _) (.cells #[.int .u32 (X.toNat : Int)] 45)))
      refine hKK _ _ ⟨ht10.out.below, ht10.out.ps⟩ ?_
      clear hKK KK ht9
      try simp only [Act.put, List.setIfInBounds_toArray, List.set_cons_zero, List.set_cons_succ]
      refine wpPlan_one ?_
      dsimp only [opsAt, List.filterMap, List.getElem?_cons_zero, List.getElem?_cons_succ]
      repeat (first
        | go_big_quiet_skip
        | (go_big_quiet_want
           first
             | (go_big_quiet_op
                first | refine ⟨_, fun _ _ => rfl, ?_⟩ | refine ⟨_, fun _ _ _ => rfl, ?_⟩ | refine ⟨_, fun _ _ _ _ => rfl, ?_⟩
                go_big_quiet_on)
             | (go_big_quiet_op
                go_big_quiet_on)))
      refine wpQuiet_nil ?_
      have c1 := cell_of_block (i := 1) ht10.out.blk
      simp only [List.getElem?_toArray, List.getElem?_cons_zero, List.getElem?_cons_succ] at c1
      intro KK hKK
      go_simp
      refine hKK _ _ ⟨ht10.out.below, ht10.out.ps⟩ ?_
      clear hKK KK c1
      all_goals
        try simp only [Act.put, List.setIfInBounds_toArray, List.set_cons_zero, List.set_cons_succ]
        refine wpPlan_one ?_
        dsimp only [opsAt, List.filterMap, List.getElem?_cons_zero, List.getElem?_cons_succ]
        repeat (first
          | go_big_quiet_skip
          | (go_big_quiet_want
             first
               | (go_big_quiet_op
                  first | refine ⟨_, fun _ _ => rfl, ?_⟩ | refine ⟨_, fun _ _ _ => rfl, ?_⟩ | refine ⟨_, fun _ _ _ _ => rfl, ?_⟩
                  go_big_quiet_on)
               | (go_big_quiet_op
                  go_big_quiet_on)))
        refine wpQuiet_nil ?_
        intro KK hKK
        refine step_append_own rfl (.tmp 11) (.tmp 17) 24 rfl B 45 i0 (.int .u32 0) 1 4 Tryd.underlying24 hi hz0 hz1 hz2 rfl (by decide) _ k _ rfl ht10.out.rounds ⟨w9.heap.size, 0, none⟩ 1 1 [.int .u32 (X.toNat : Int)] rfl rfl (cell_one_new _ _ _) (vw_one _) (by unfold maxLen; omega) (by omega) ht10.out.size ?_
        intro v' w11 hown' hgr' _
        have hown2 := Lib.hid (ownsRow_cast hown' rfl (by rw [wl_succ, ← HX.out]; rfl : _ = wl keyAt (k + 1)))
        obtain ⟨hT1, hps1, hbel1, hsz1, hres1⟩ := ht10.out.grown ht10.out.rounds hgr'
        have ht12 := Lib.hid (TabAt.addRound ht10.out hown2.out hgr')
        obtain ⟨a11, c11, rfl⟩ := own_any hown2.out
        refine hKK _ _ ⟨hbel1, hps1⟩ ?_
        clear hKK KK hgr' hown' hown2 hps1 hbel1 hsz1 hres1 ht10
        try simp only [Act.put, List.setIfInBounds_toArray, List.set_cons_zero, List.set_cons_succ]
        refine wpPlan_one ?_
        dsimp only [opsAt, List.filterMap, List.getElem?_cons_zero, List.getElem?_cons_succ]
        repeat (first
          | go_big_quiet_skip
          | (go_big_quiet_want
             first
               | (go_big_quiet_op
                  first | refine ⟨_, fun _ _ => rfl, ?_⟩ | refine ⟨_, fun _ _ _ => rfl, ?_⟩ | refine ⟨_, fun _ _ _ _ => rfl, ?_⟩
                  go_big_quiet_on)
               | (go_big_quiet_op
                  go_big_quiet_on)))
        refine wpQuiet_nil ?_
        have c2 : w11.cell? ⟨T, 1, none⟩ = some v2 := cell_of_block hT1
        have f2 : w11.frozen? ⟨T, 1, none⟩ = false := free_of_block hT1
        clear hT1
        intro KK hKK
        go_simp
        refine hKK _ _ ⟨ht12.out.below, ht12.out.ps⟩ ?_
        clear hKK KK c2 f2
        try simp only [Act.put, List.setIfInBounds_toArray, List.set_cons_zero, List.set_cons_succ]
        refine wpPlan_done ?_
        dsimp only [opsAt, List.filterMap, List.getElem?_cons_zero, List.getElem?_cons_succ]
        repeat (first
          | go_big_quiet_skip
          | (go_big_quiet_want
             first
               | (go_big_quiet_op
                  first | refine ⟨_, fun _ _ => rfl, ?_⟩ | refine ⟨_, fun _ _ _ => rfl, ?_⟩ | refine ⟨_, fun _ _ _ _ => rfl, ?_⟩
                  go_big_quiet_on)
               | (go_big_quiet_op
                  go_big_quiet_on)))
        refine wpQuiet_nil ?_
        obtain ⟨w12, hw12⟩ : ∃ x, x = w11.setCell ⟨T, 1, none⟩ (.slice a11 (k + 1) c11) := ⟨_, rfl⟩
        rw [← hw12] at ht12 ⊢
        have HT := ht12
        clear hw12 ht12 HX HR3
        by_cases hk8 : k < 8
        · obtain rfl : k = k1 := by omega
          clear hk1
          obtain ⟨X, hX⟩ : ∃ X, X = wordS startS k := ⟨_, rfl⟩
          have hr2 : ∀ W, Calls Tryd.prog 20 #[.int .i64 (p : Int), .int .i64 2] W fun e w' => e = .returned (.int .u32 (X.toNat : Int)) ∧ Below W.heap.size W w' := fun W => by
            have h1 := root_any p 2 (Or.inl rfl) hp3 W
            rw [HP.out, root2_key k hk8, ← HP.out, ← hX] at h1
            exact h1
          have HR2 := Lib.hid hr2
          have HX := Lib.hid hX
          clear hr2 hX
          go_upto_region 8 with (fail)
          refine wp_region_plan (fun W => Below w.heap.size w W ∧ PsAt gp W) (.two [0, 2, 3, 4, 5] 1 (.one [] 6 (.one [] 7 (.one [] 8 (.one [9] 10 (.done []))))) 6 (.two [] 1 (.one [] 7 (.one [] 8 (.one [9] 10 (.done [])))) 7 (.one [] 1 (.one [] 8 (.one [9] 10 (.done [])))))) (by kernel_rfl) (by kernel_rfl) (fun _ _ d _ _ h => by cases d <;> exact h) (by kernel_rfl) (of_decide_eq_true (by kernel_rfl)) ⟨HT.out.below.drew, HT.out.ps⟩ ?_
          have ht := HT.out.later (Below.refl _ _).drew
          have c1 := cell_of_block (i := 0) ht.blk
          simp only [List.getElem?_toArray, List.getElem?_cons_zero, List.getElem?_cons_succ] at c1
          have HT0 := Lib.hid ht
          clear ht HT
          refine wpPlan_two ?_
          dsimp only [opsAt, List.filterMap, List.getElem?_cons_zero, List.getElem?_cons_succ]
          repeat (first
            | go_big_quiet_skip
            | (go_big_quiet_want
               first
                 | (refine quiet_load_cell 3 (.tmp 26) rfl ⟨gp, k, none⟩ rfl (.int .i64 (p : Int)) _ HPL.out Tryd.underlying3 rfl ?_
                    simp only [Act.put, List.setIfInBounds_toArray, List.set_cons_zero, List.set_cons_succ]
                    go_big_quiet_on)
                 | (go_big_quiet_op
                    first | refine ⟨_, fun _ _ => rfl, ?_⟩ | refine ⟨_, fun _ _ _ => rfl, ?_⟩ | refine ⟨_, fun _ _ _ _ => rfl, ?_⟩
                    go_big_quiet_on)
                 | (go_big_quiet_op
                    go_big_quiet_on)))
          refine wpQuiet_nil ⟨?_, ?_⟩
          intro KK hKK
          go_simp
          refine hKK _ _ ⟨HT0.out.below, HT0.out.ps⟩ ?_
          clear hKK KK c1
          try simp only [Act.put, List.setIfInBounds_toArray, List.set_cons_zero, List.set_cons_succ]
          refine wpPlan_one ?_
          dsimp only [opsAt, List.filterMap, List.getElem?_cons_zero, List.getElem?_cons_succ]
          repeat (first
            | go_big_quiet_skip
            | (go_big_quiet_want
               first
                 | (go_big_quiet_op
                    first | refine ⟨_, fun _ _ => rfl, ?_⟩ | refine ⟨_, fun _ _ _ => rfl, ?_⟩ | refine ⟨_, fun _ _ _ _ => rfl, ?_⟩
                    go_big_quiet_on)
                 | (go_big_quiet_op
                    go_big_quiet_on)))
          refine wpQuiet_nil ?_
          intro KK hKK
          go_simp
          refine (HR2.out _).mono ?_
          rintro e w9 ⟨rfl, hb9⟩
          have ht9 := Lib.hid (HT0.out.later hb9)
          refine hKK _ _ ⟨ht9.out.below, ht9.out.ps⟩ ?_
          clear hKK KK hb9 HT0
          try simp only [Act.put, List.setIfInBounds_toArray, List.set_cons_zero, List.set_cons_succ]
          refine wpPlan_one ?_
          dsimp only [opsAt, List.filterMap, List.getElem?_cons_zero, List.getElem?_cons_succ]
          repeat (first
            | go_big_quiet_skip
            | (go_big_quiet_want
               first
                 | (go_big_quiet_op
                    first | refine ⟨_, fun _ _ => rfl, ?_⟩ | refine ⟨_, fun _ _ _ => rfl, ?_⟩ | refine ⟨_, fun _ _ _ _ => rfl, ?_⟩
                    go_big_quiet_on)
                 | (go_big_quiet_op
                    go_big_quiet_on)))
          refine wpQuiet_nil ?_
          intro KK hKK
          go_simp
          have ht10 := Lib.hid (ht9.out.later ((Below.refl _ w9).alloc (Nat.le_refl _) (.cells #[.int .u32 (X.toNat : Int)] 45)))
          refine hKK _ _ ⟨ht10.out.below, ht10.out.ps⟩ ?_
          clear hKK KK ht9
          rotate_left
          clear c1
          intro KK hKK
          go_simp
          refine (HR2.out _).mono ?_
          rintro e w9 ⟨rfl, hb9⟩
          have ht9 := Lib.hid (HT0.out.later hb9)
          refine hKK _ _ ⟨ht9.out.below, ht9.out.ps⟩ ?_
          clear hKK KK hb9 HT0
          try simp only [Act.put, List.setIfInBounds_toArray, List.set_cons_zero, List.set_cons_succ]
          refine wpPlan_two ?_
          dsimp only [opsAt, List.filterMap, List.getElem?_cons_zero, List.getElem?_cons_succ]
          repeat (first
            | go_big_quiet_skip
            | (go_big_quiet_want
               first
                 | (go_big_quiet_op
                    first | refine ⟨_, fun _ _ => rfl, ?_⟩ | refine ⟨_, fun _ _ _ => rfl, ?_⟩ | refine ⟨_, fun _ _ _ _ => rfl, ?_⟩
                    go_big_quiet_on)
                 | (go_big_quiet_op
                    go_big_quiet_on)))
          refine wpQuiet_nil ⟨?_, ?_⟩
          have c1 := cell_of_block (i := 0) ht9.out.blk
          simp only [List.getElem?_toArray, List.getElem?_cons_zero, List.getElem?_cons_succ] at c1
          intro KK hKK
          go_simp
          refine hKK _ _ ⟨ht9.out.below, ht9.out.ps⟩ ?_
          clear hKK KK c1
          try simp only [Act.put, List.setIfInBounds_toArray, List.set_cons_zero, List.set_cons_succ]
          refine wpPlan_one ?_
          dsimp only [opsAt, List.filterMap, List.getElem?_cons_zero, List.getElem?_cons_succ]
          repeat (first
            | go_big_quiet_skip
            | (go_big_quiet_want
               first
                 | (go_big_quiet_op
                    first | refine ⟨_, fun _ _ => rfl, ?_⟩ | refine ⟨_, fun _ _ _ => rfl, ?_⟩ | refine ⟨_, fun _ _ _ _ => rfl, ?_⟩
                    go_big_quiet_on)
                 | (go_big_quiet_op
                    go_big_quiet_on)))
          refine wpQuiet_nil ?_
          intro KK hKK
          go_simp
          have ht10 := Lib.hid (ht9.out.later ((Below.refl _ w9).alloc (Nat.le_refl _) (.cells #[.int .u32 (X.toNat : Int)] 45)))
          refine hKK _ _ ⟨ht10.out.below, ht10.out.ps⟩ ?_
          clear hKK KK ht9
          rotate_left
          intro KK hKK
          go_simp
          have ht10 := Lib.hid (ht9.out.later ((Below.refl _ w9).alloc (Nat.le_refl _) (.cells #[.int .u32 (X.toNat : Int)] 45)))
          refine hKK _ _ ⟨ht10.out.below, ht10.out.ps⟩ ?_
          clear hKK KK ht9
          try simp only [Act.put, List.setIfInBounds_toArray, List.set_cons_zero, List.set_cons_succ]
          refine wpPlan_one ?_
          dsimp only [opsAt, List.filterMap, List.getElem?_cons_zero, List.getElem?_cons_succ]
          repeat (first
            | go_big_quiet_skip
            | (go_big_quiet_want
               first
                 | (go_big_quiet_op
                    first | refine ⟨_, fun _ _ => rfl, ?_⟩ | refine ⟨_, fun _ _ _ => rfl, ?_⟩ | refine ⟨_, fun _ _ _ _ => rfl, ?_⟩
                    go_big_quiet_on)
                 | (go_big_quiet_op
                    go_big_quiet_on)))
          refine wpQuiet_nil ?_
          have c1 := cell_of_block (i := 0) ht10.out.blk
          simp only [List.getElem?_toArray, List.getElem?_cons_zero, List.getElem?_cons_succ] at c1
          intro KK hKK
          go_simp
          refine hKK _ _ ⟨ht10.out.below, ht10.out.ps⟩ ?_
          clear hKK KK c1
          all_goals
            try simp only [Act.put, List.setIfInBounds_toArray, List.set_cons_zero, List.set_cons_succ]
            refine wpPlan_one ?_
            dsimp only [opsAt, List.filterMap, List.getElem?_cons_zero, List.getElem?_cons_succ]
            repeat (first
              | go_big_quiet_skip
              | (go_big_quiet_want
                 first
                   | (go_big_quiet_op
                      first | refine ⟨_, fun _ _ => rfl, ?_⟩ | refine ⟨_, fun _ _ _ => rfl, ?_⟩ | refine ⟨_, fun _ _ _ _ => rfl, ?_⟩
                      go_big_quiet_on)
                   | (go_big_quiet_op
                      go_big_quiet_on)))
            refine wpQuiet_nil ?_
            intro KK hKK
            refine step_append_own rfl (.tmp 23) (.tmp 29) 24 rfl B 45 i0 (.int .u32 0) 1 4 Tryd.underlying24 hi hz0 hz1 hz2 rfl (by decide) _ k _ rfl ht10.out.first ⟨w9.heap.size, 0, none⟩ 1 1 [.int .u32 (X.toNat : Int)] rfl rfl (cell_one_new _ _ _) (vw_one _) (by unfold maxLen; omega) (by omega) ht10.out.size ?_
            intro v' w11 hown' hgr' _
            have hown2 := Lib.hid (ownsRow_cast hown' rfl (by rw [wl_succ, ← HX.out]; rfl : _ = wl (wordS startS) (k + 1)))
            obtain ⟨hT1, hps1, hbel1, hsz1, hres1⟩ := ht10.out.grown ht10.out.first hgr'
            have ht12 := Lib.hid (TabAt.addFirst ht10.out hown2.out hgr')
            obtain ⟨a11, c11, rfl⟩ := own_any hown2.out
            refine hKK _ _ ⟨hbel1, hps1⟩ ?_
            clear hKK KK hgr' hown' hown2 hps1 hbel1 hsz1 hres1 ht10
            try simp only [Act.put, List.setIfInBounds_toArray, List.set_cons_zero, List.set_cons_succ]
            refine wpPlan_one ?_
            dsimp only [opsAt, List.filterMap, List.getElem?_cons_zero, List.getElem?_cons_succ]
            repeat (first
              | go_big_quiet_skip
              | (go_big_quiet_want
                 first
                   | (go_big_quiet_op
                      first | refine ⟨_, fun _ _ => rfl, ?_⟩ | refine ⟨_, fun _ _ _ => rfl, ?_⟩ | refine ⟨_, fun _ _ _ _ => rfl, ?_⟩
                      go_big_quiet_on)
                   | (go_big_quiet_op
                      go_big_quiet_on)))
            refine wpQuiet_nil ?_
            have c2 : w11.cell? ⟨T, 0, none⟩ = some v1 := cell_of_block hT1
            have f2 : w11.frozen? ⟨T, 0, none⟩ = false := free_of_block hT1
            clear hT1
            intro KK hKK
            go_simp
            refine hKK _ _ ⟨ht12.out.below, ht12.out.ps⟩ ?_
            clear hKK KK c2 f2
            try simp only [Act.put, List.setIfInBounds_toArray, List.set_cons_zero, List.set_cons_succ]
            refine wpPlan_done ?_
            dsimp only [opsAt, List.filterMap, List.getElem?_cons_zero, List.getElem?_cons_succ]
            repeat (first
              | go_big_quiet_skip
              | (go_big_quiet_want
                 first
                   | (go_big_quiet_op
                      first | refine ⟨_, fun _ _ => rfl, ?_⟩ | refine ⟨_, fun _ _ _ => rfl, ?_⟩ | refine ⟨_, fun _ _ _ _ => rfl, ?_⟩
                      go_big_quiet_on)
                   | (go_big_quiet_op
                      go_big_quiet_on)))
            refine wpQuiet_nil ?_
            go_wp2_with fail
            go_roundw
            case rel => exact ⟨k + 1, k + 1, _, _, by omega, by omega, by go_num, ht12⟩
            case measure => first | (simp [intOf]; done) | (simp [intOf]; omega)
        · go_wp2_with fail
          go_roundw
          case rel => exact ⟨k + 1, k1, v1, _, by omega, by omega, by go_num, HT⟩
          case measure => first | (simp [intOf]; done) | (simp [intOf]; omega)

    · obtain rfl : k = 64 := by omega
      obtain rfl : k1 = 8 := by omega
      have hone : (#[v1, v2] : Array Value).all (·.oneCell') = true := by simp [own_one HT.out.first, own_one HT.out.rounds]
      have HONE := Lib.hid hone
      clear hone
      go_wp2_with (first | (refine wpList_load_row rfl 26 (.tmp 1) rfl T rfl 26 #[v1, v2] (0, 0) _ HT.out.blk Tryd.underlying26 rfl (sizeT _ _) ?_) | (refine wpList_store_row rfl 26 (.tmp 0) (.tmp 32) rfl w.heap.size #[v1, v2] rfl rfl 26 #[.slice none 0 0, .slice none 0 0] HT.out.res (sizeT _ _) rfl HONE.out ?_))
      refine bodyPost_ret (v := .agg #[v1, v2]) (results_cell_row rfl _ _ w.heap.size 26 #[v1, v2] (0, 0) _ rfl (setRow_heap _ w.heap.size _ _ _ _ HT.out.res) Tryd.underlying26 rfl (sizeT _ _)) rfl ?_
      have hlt0 : w.heap.size < B := Nat.lt_trans HT.out.hw0 HT.out.tb
      have hf := own_other HT.out.first (grownBy_setRow' wr w.heap.size #[v1, v2]) (fun g hv he => by injection he with he; have := own_ge HT.out.first hv; omega)
      have hr := own_other HT.out.rounds (grownBy_setRow' wr w.heap.size #[v1, v2]) (fun g hv he => by injection he with he; have := own_ge HT.out.rounds hv; omega)
      obtain ⟨a1, c1, rfl⟩ := own_any HT.out.first
      obtain ⟨a2, c2, rfl⟩ := own_any HT.out.rounds
      obtain ⟨bf, rfl⟩ := own_addr HT.out.first (by omega)
      obtain ⟨br, rfl⟩ := own_addr HT.out.rounds (by omega)
      exact ⟨bf, br, c1, c2, rfl, WordsAt.row hf, WordsAt.row hr, own_cap hf, own_cap hr, below_setRow HT.out.below (Nat.le_refl _) _⟩
end Go.Proofs.YtkgclhkpncegnaaDoor
