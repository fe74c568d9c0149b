/-
  The walks of cmp.Compare, cmp.Or, stamp.Cmp and Right.
-/
import Derived.Test.YtoaboehmjfnceaaQuiet
import Derived.Test.YtoaboehmjfnceaaReader
namespace Go.Proofs.Ytoaboehmjfnceaa
open Go.RowKit

def cmpI (x y : Int) : Int := if x < y then -1 else if y < x then 1 else 0
theorem cmpI_range (x y : Int) : -1 ≤ cmpI x y ∧ cmpI x y ≤ 1 := by unfold cmpI; split <;> (try split) <;> omega
/-- The order of stamps. -/
def cmpS (t r u s : Int) : Int := if cmpI t u = 0 then cmpI r s else cmpI t u
theorem cmpS_range (t r u s : Int) : -1 ≤ cmpS t r u s ∧ cmpS t r u s ≤ 1 := by
  have h1 := cmpI_range t u
  have h2 := cmpI_range r s
  unfold cmpS; split <;> omega
theorem cmpS_zero (t r u s : Int) : cmpS t r u s = 0 ↔ t = u ∧ r = s := by
  unfold cmpS cmpI; repeat' split
  all_goals omega
theorem cmpS_neg (t r u s : Int) : cmpS u s t r = -cmpS t r u s := by
  unfold cmpS cmpI; repeat' split
  all_goals omega
theorem cmpS_le (t r u s : Int) : cmpS t r u s ≤ 0 ↔ t < u ∨ (t = u ∧ r ≤ s) := by
  unfold cmpS cmpI; repeat' split
  all_goals omega

theorem nan64_any (x : Int) (w : World) : Calls Try.prog 68 #[.int .i64 x] w fun e w' => e = .returned (.bool false) ∧ w = w' := by
  go_enter Try.func68, Try.ntmps68
  go_wp2
  go_ret
  exact ⟨by simp, rfl⟩
theorem nan_any (x : Int) (w : World) : Calls Try.prog 69 #[.int .i64 x] w fun e w' => e = .returned (.bool false) ∧ w = w' := by
  go_enter Try.func69, Try.ntmps69
  go_wp2
  go_ret
  exact ⟨by simp, rfl⟩
theorem compare64_any (x y : Int) (w : World) : Calls Try.prog 37 #[.int .i64 x, .int .i64 y] w fun e w' => e = .returned (.int .i64 (cmpI x y)) ∧ w = w' := by
  have hc : (x < y ∧ Hid (cmpI x y = -1)) ∨ (¬ x < y ∧ y < x ∧ Hid (cmpI x y = 1)) ∨ (¬ x < y ∧ ¬ y < x ∧ Hid (cmpI x y = 0)) := by
    unfold cmpI
    by_cases h : x < y
    · exact .inl ⟨h, Lib.hid (by rw [if_pos h])⟩
    · by_cases h2 : y < x
      · exact .inr (.inl ⟨h, h2, Lib.hid (by rw [if_neg h, if_pos h2])⟩)
      · exact .inr (.inr ⟨h, h2, Lib.hid (by rw [if_neg h, if_neg h2])⟩)
  rcases hc with ⟨h1, H⟩ | ⟨h1, h2, H⟩ | ⟨h1, h2, H⟩
  all_goals
    go_enter Try.func37, Try.ntmps37
    go_wp2_with fail
    refine (nan64_any _ _).mono ?_
    rintro e w1 ⟨rfl, rfl⟩
    go_wp2_with fail
    refine (nan64_any _ _).mono ?_
    rintro e w1 ⟨rfl, rfl⟩
    go_wp2_with fail
    go_ret
    exact ⟨by rw [H.out]; rfl, rfl⟩
theorem compare_any (x y : Int) (w : World) : Calls Try.prog 38 #[.int .i64 x, .int .i64 y] w fun e w' => e = .returned (.int .i64 (cmpI x y)) ∧ w = w' := by
  have hc : (x < y ∧ Hid (cmpI x y = -1)) ∨ (¬ x < y ∧ y < x ∧ Hid (cmpI x y = 1)) ∨ (¬ x < y ∧ ¬ y < x ∧ Hid (cmpI x y = 0)) := by
    unfold cmpI
    by_cases h : x < y
    · exact .inl ⟨h, Lib.hid (by rw [if_pos h])⟩
    · by_cases h2 : y < x
      · exact .inr (.inl ⟨h, h2, Lib.hid (by rw [if_neg h, if_pos h2])⟩)
      · exact .inr (.inr ⟨h, h2, Lib.hid (by rw [if_neg h, if_neg h2])⟩)
  rcases hc with ⟨h1, H⟩ | ⟨h1, h2, H⟩ | ⟨h1, h2, H⟩
  all_goals
    go_enter Try.func38, Try.ntmps38
    go_wp2_with fail
    refine (nan_any _ _).mono ?_
    rintro e w1 ⟨rfl, rfl⟩
    go_wp2_with fail
    refine (nan_any _ _).mono ?_
    rintro e w1 ⟨rfl, rfl⟩
    go_wp2_with fail
    go_ret
    exact ⟨by rw [H.out]; rfl, rfl⟩

/-- The first of two numbers that is not 0. -/
def orI (x y : Int) : Int := if x = 0 then y else x
theorem or_any (x y : Int) (g : Nat) (w : World) (h0 : w.cell? ⟨g, 0, none⟩ = some (.int .i64 x)) (h1 : w.cell? ⟨g, 1, none⟩ = some (.int .i64 y)) :
    Calls Try.prog 36 #[.slice (some ⟨g, 0, none⟩) 2 2] w fun e w' => e = .returned (.int .i64 (orI x y)) ∧ w = w' := by
  by_cases hx : x = 0
  · have ho : orI x y = y := by unfold orI; rw [if_pos hx]
    subst hx
    have HO := Lib.hid ho
    clear ho
    by_cases hy : y = 0
    · subst hy
      go_enter Try.func36, Try.ntmps36
      go_wp2_with fail
      refine wp_loop_rounds 3 ?_
      rw [rounds_succ]
      go_wp2_with fail
      rw [rounds_succ]
      go_wp2_with fail
      rw [rounds_succ]
      go_wp2_with fail
      go_ret
      exact ⟨by rw [HO.out]; rfl, rfl⟩
    · have hb : ((y : Int) != 0) = true := by simpa using hy
      go_enter Try.func36, Try.ntmps36
      go_wp2_with fail
      refine wp_loop_rounds 2 ?_
      rw [rounds_succ]
      go_wp2_with fail
      rw [rounds_succ]
      go_wp2_with fail
      go_ret
      exact ⟨by rw [HO.out]; rfl, rfl⟩
  · have ho : orI x y = x := by unfold orI; rw [if_neg hx]
    have HO := Lib.hid ho
    have hb : ((x : Int) != 0) = true := by simpa using hx
    clear ho
    go_enter Try.func36, Try.ntmps36
    go_wp2_with fail
    refine wp_loop_rounds 1 ?_
    rw [rounds_succ]
    go_wp2_with fail
    go_ret
    exact ⟨by rw [HO.out]; rfl, rfl⟩

/-- A stamp as the model has it. -/
def stampCells (t r : Int) : Array Value := #[.int .i64 t, .int .i64 r]
theorem sizeStamp (t r : Int) : (Try.prog.info? 23).map (·.size) = some (stampCells t r).size := by
  show _ = some 2
  kernel_rfl
theorem oneStamp (t r : Int) : (stampCells t r).all (·.oneCell') = true := by simp [stampCells, Value.oneCell']

set_option maxRecDepth 100000 in
set_option maxHeartbeats 1000000 in
theorem cmp_any (t r u s : Int) (w : World) : Calls Try.prog 12 #[.agg (stampCells t r), .agg (stampCells u s)] w fun e w' => e = .returned (.int .i64 (cmpS t r u s)) ∧ Below w.heap.size w w' := by
  obtain ⟨w2, hw2⟩ : ∃ w2, w2 = (w.alloc (.cells (stampCells t r) 23)).alloc (.cells (stampCells u s) 23) := ⟨_, rfl⟩
  have hA : w2.heap[w.heap.size]? = some (.cells (stampCells t r) 23 (0, 0)) := by rw [hw2, heap_alloc_old _ _ (by simp), heap_alloc_eq _ _ _ rfl]
  have hB : w2.heap[w.heap.size + 1]? = some (.cells (stampCells u s) 23 (0, 0)) := by rw [hw2, heap_alloc_eq _ _ _ (by simp)]
  have hb2 : Below w.heap.size w w2 := by rw [hw2]; exact ((Below.refl _ w).alloc (Nat.le_refl _) _).alloc (by simp) _
  have hz2 := lt_of_block hB
  have c0 : ∀ W, Below w2.heap.size w2 W → W.cell? ⟨w.heap.size, 0, none⟩ = some (.int .i64 t) := fun W h => by rw [h.cell (p := ⟨w.heap.size, 0, none⟩) (by show w.heap.size < _; omega)]; exact cell_of_block hA
  have c1 : ∀ W, Below w2.heap.size w2 W → W.cell? ⟨w.heap.size, 1, none⟩ = some (.int .i64 r) := fun W h => by rw [h.cell (p := ⟨w.heap.size, 1, none⟩) (by show w.heap.size < _; omega)]; exact cell_of_block hA
  have c2 : ∀ W, Below w2.heap.size w2 W → W.cell? ⟨w.heap.size + 1, 0, none⟩ = some (.int .i64 u) := fun W h => by rw [h.cell (p := ⟨w.heap.size + 1, 0, none⟩) hz2]; exact cell_of_block hB
  have c3 : ∀ W, Below w2.heap.size w2 W → W.cell? ⟨w.heap.size + 1, 1, none⟩ = some (.int .i64 s) := fun W h => by rw [h.cell (p := ⟨w.heap.size + 1, 1, none⟩) hz2]; exact cell_of_block hB
  have hor : orI (cmpI t u) (cmpI r s) = cmpS t r u s := rfl
  have HW := Lib.hid hw2
  have C0 := Lib.hid c0
  have C1 := Lib.hid c1
  have C2 := Lib.hid c2
  have C3 := Lib.hid c3
  have HOR := Lib.hid hor
  clear hA hB hw2 c0 c1 c2 c3 hor
  go_enter Try.func12, Try.ntmps12
  go_upto_region 1 with (fail)
  change Code.wp _ _ _ _ ((w.alloc (.cells (stampCells t r) 23)).alloc (.cells (stampCells u s) 23))
  rw [← HW.out]
  refine wp_region_sched (fun W => Below w2.heap.size w2 W) [([0, 1, 2, 3, 5, 6, 7, 8], 4), ([], 9), ([], 10), ([], 11)] [12] (by kernel_rfl) (by kernel_rfl) (fun _ _ d _ _ h => by cases d <;> exact h) (by kernel_rfl) (of_decide_eq_true (by kernel_rfl)) (Below.refl _ _).drew ?_
  refine wpSched_cons ?_
  dsimp only [opsAt, List.filterMap, List.getElem?_cons_zero, List.getElem?_cons_succ]
  repeat (first
    | go_big_quiet_skip
    | (go_big_quiet_want
       first
         | (refine quiet_load_cell 2 (.tmp 5) rfl ⟨w.heap.size, 0, none⟩ rfl (.int .i64 t) _ C0.out Try.underlying2 rfl ?_
            simp only [Act.put, List.setIfInBounds_toArray, List.set_cons_zero, List.set_cons_succ]
            go_big_quiet_on)
         | (refine quiet_load_cell 2 (.tmp 7) rfl ⟨w.heap.size + 1, 0, none⟩ rfl (.int .i64 u) _ C2.out Try.underlying2 rfl ?_
            simp only [Act.put, List.setIfInBounds_toArray, List.set_cons_zero, List.set_cons_succ]
            go_big_quiet_on)
         | (refine quiet_load_cell 3 (.tmp 10) rfl ⟨w.heap.size, 1, none⟩ rfl (.int .i64 r) _ C1.out Try.underlying3 rfl ?_
            simp only [Act.put, List.setIfInBounds_toArray, List.set_cons_zero, List.set_cons_succ]
            go_big_quiet_on)
         | (refine quiet_load_cell 3 (.tmp 12) rfl ⟨w.heap.size + 1, 1, none⟩ rfl (.int .i64 s) _ C3.out Try.underlying3 rfl ?_
            simp only [Act.put, List.setIfInBounds_toArray, List.set_cons_zero, List.set_cons_succ]
            go_big_quiet_on)
         | (go_big_quiet_op
            refine ⟨_, fun _ _ => rfl, ?_⟩
            go_big_quiet_on)
         | (go_big_quiet_op
            go_big_quiet_on)))
  refine wpQuiet_nil ?_
  intro KK hKK
  go_simp
  refine (compare64_any t u _).mono ?_
  rintro e w3 ⟨rfl, rfl⟩
  refine hKK _ _ (Below.refl _ _).drew ?_
  clear hKK KK
  try simp only [Act.put, List.setIfInBounds_toArray, List.set_cons_zero, List.set_cons_succ]
  refine wpSched_cons ?_
  dsimp only [opsAt, List.filterMap, List.getElem?_cons_zero, List.getElem?_cons_succ]
  refine wpQuiet_nil ?_
  intro KK hKK
  go_simp
  refine (compare_any r s _).mono ?_
  rintro e w3 ⟨rfl, rfl⟩
  refine hKK _ _ (Below.refl _ _).drew ?_
  clear hKK KK
  try simp only [Act.put, List.setIfInBounds_toArray, List.set_cons_zero, List.set_cons_succ]
  refine wpSched_cons ?_
  dsimp only [opsAt, List.filterMap, List.getElem?_cons_zero, List.getElem?_cons_succ]
  refine wpQuiet_nil ?_
  intro KK hKK
  go_simp
  skip
  refine hKK _ _ ((Below.refl _ _).drew.alloc (Nat.le_refl _) _) ?_
  clear hKK KK
  try simp only [Act.put, List.setIfInBounds_toArray, List.set_cons_zero, List.set_cons_succ]
  refine wpSched_cons ?_
  dsimp only [opsAt, List.filterMap, List.getElem?_cons_zero, List.getElem?_cons_succ]
  refine wpQuiet_nil ?_
  intro KK hKK
  go_simp
  refine (or_any (cmpI t u) (cmpI r s) w2.heap.size _ (cell_of_block (heap_alloc_new w2.drew _)) (cell_of_block (heap_alloc_new w2.drew _))).mono ?_
  rintro e w3 ⟨rfl, rfl⟩
  refine hKK _ _ ((Below.refl _ _).drew.alloc (Nat.le_refl _) _) ?_
  clear hKK KK
  try simp only [Act.put, List.setIfInBounds_toArray, List.set_cons_zero, List.set_cons_succ]
  refine wpSched_nil ?_
  dsimp only [opsAt, List.filterMap, List.getElem?_cons_zero, List.getElem?_cons_succ]
  repeat (first
    | go_big_quiet_skip
    | (go_big_quiet_want
       first
         | (go_big_quiet_op
            refine ⟨_, fun _ _ => rfl, ?_⟩
            go_big_quiet_on)
         | (go_big_quiet_op
            go_big_quiet_on)))
  refine wpQuiet_nil ?_
  go_wp2
  go_ret
  exact ⟨by rw [HOR.out]; rfl, hb2.drew.alloc hb2.size _⟩

def rightB (t r : Int) : Bool := decide (1 ≤ t) && decide (t ≤ 1099511627776) && (decide (1 ≤ r) && decide (r ≤ 65536))
theorem rightB_iff (t r : Int) : rightB t r = true ↔ 1 ≤ t ∧ t ≤ 1099511627776 ∧ 1 ≤ r ∧ r ≤ 65536 := by
  unfold rightB; simp [and_assoc]

set_option maxRecDepth 100000 in
set_option maxHeartbeats 1000000 in
theorem right_any (t r : Int) (w : World) : Calls Try.prog 14 #[.agg (stampCells t r)] w fun e w' => e = .returned (.bool (rightB t r)) ∧ Below w.heap.size w w' := by
  have hb1 : Below w.heap.size w (w.alloc (.cells (stampCells t r) 23)) := (Below.refl _ w).alloc (Nat.le_refl _) _
  have hcase : (¬ 1 ≤ t ∧ Hid (rightB t r = false)) ∨ (1 ≤ t ∧ ¬ t ≤ 1099511627776 ∧ Hid (rightB t r = false)) ∨ (1 ≤ t ∧ t ≤ 1099511627776 ∧ ¬ 1 ≤ r ∧ Hid (rightB t r = false)) ∨ (1 ≤ t ∧ t ≤ 1099511627776 ∧ 1 ≤ r ∧ ¬ r ≤ 65536 ∧ Hid (rightB t r = false)) ∨ (1 ≤ t ∧ t ≤ 1099511627776 ∧ 1 ≤ r ∧ r ≤ 65536 ∧ Hid (rightB t r = true)) := by
    have hf : ¬ (1 ≤ t ∧ t ≤ 1099511627776 ∧ 1 ≤ r ∧ r ≤ 65536) → rightB t r = false := fun h => by
      rw [← Bool.not_eq_true]; exact fun h2 => h ((rightB_iff t r).1 h2)
    by_cases h1 : 1 ≤ t
    · by_cases h2 : t ≤ 1099511627776
      · by_cases h3 : 1 ≤ r
        · by_cases h4 : r ≤ 65536
          · exact .inr (.inr (.inr (.inr ⟨h1, h2, h3, h4, Lib.hid ((rightB_iff t r).2 ⟨h1, h2, h3, h4⟩)⟩)))
          · exact .inr (.inr (.inr (.inl ⟨h1, h2, h3, h4, Lib.hid (hf fun h => h4 h.2.2.2)⟩)))
        · exact .inr (.inr (.inl ⟨h1, h2, h3, Lib.hid (hf fun h => h3 h.2.2.1)⟩))
      · exact .inr (.inl ⟨h1, h2, Lib.hid (hf fun h => h2 h.2.1)⟩)
    · exact .inl ⟨h1, Lib.hid (hf fun h => h1 h.1)⟩
  unfold stampCells at hb1 ⊢
  rcases hcase with ⟨h1, H⟩ | ⟨h1, h2, H⟩ | ⟨h1, h2, h3, H⟩ | ⟨h1, h2, h3, h4, H⟩ | ⟨h1, h2, h3, h4, H⟩
  all_goals
    rw [H.out]
    go_enter Try.func14, Try.ntmps14
    go_wp2_with fail
    go_ret
    exact ⟨rfl, hb1⟩
end Go.Proofs.Ytoaboehmjfnceaa
