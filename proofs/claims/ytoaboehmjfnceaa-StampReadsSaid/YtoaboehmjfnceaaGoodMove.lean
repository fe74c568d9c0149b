/-
  The walks of stamp.goodPlace and goodMove.
-/
import Derived.Test.YtoaboehmjfnceaaOp
namespace Go.Proofs.Ytoaboehmjfnceaa
open Go.RowKit

set_option maxRecDepth 100000 in
set_option maxHeartbeats 1000000 in
theorem place_any (t r : Int) (w : World) : Calls Try.prog 71 #[.agg (stampCells t r)] w fun e w' => e = .returned (.bool (placeB t r)) ∧ Below w.heap.size w w' := by
  have hw0 : Below w.heap.size w (((w.alloc (.cells #[.int .i64 t, .int .i64 r] 23)).alloc (.cells #[.int .i64 0, .int .i64 0] 23)).alloc (.cells #[.int .i64 0, .int .i64 1] 23)) := (((Below.refl _ w).alloc (Nat.le_refl _) _).alloc (by simp) _).alloc (by simp <;> omega) _
  have hcase : (t = 0 ∧ r = 0 ∧ Hid (placeB t r = true)) ∨ (t = 0 ∧ r = 1 ∧ Hid (placeB t r = true)) ∨ (t = 0 ∧ ((r : Int) == 0) = false ∧ ((r : Int) == 1) = false ∧ Hid (placeB t r = rightB t r)) ∨ (((t : Int) == 0) = false ∧ Hid (placeB t r = rightB t r)) := by
    by_cases h : t = 0
    · by_cases h0 : r = 0
      · exact .inl ⟨h, h0, Lib.hid (by unfold placeB; simp [h, h0])⟩
      · by_cases h1 : r = 1
        · exact .inr (.inl ⟨h, h1, Lib.hid (by unfold placeB; simp [h, h1])⟩)
        · exact .inr (.inr (.inl ⟨h, by simpa using h0, by simpa using h1, Lib.hid (by unfold placeB; simp [h0, h1])⟩))
    · exact .inr (.inr (.inr ⟨by simpa using h, Lib.hid (by unfold placeB; simp [h])⟩))
  rcases hcase with ⟨rfl, rfl, H⟩ | ⟨rfl, rfl, H⟩ | ⟨rfl, h1, h2, H⟩ | ⟨h1, H⟩
  · rw [H.out]
    unfold stampCells
    go_enter Try.func71, Try.ntmps71
    go_wp2_with fail
    go_ret
    exact ⟨rfl, hw0⟩
  · rw [H.out]
    unfold stampCells
    go_enter Try.func71, Try.ntmps71
    go_wp2_with fail
    go_ret
    exact ⟨rfl, hw0⟩
  · rw [H.out]
    unfold stampCells
    go_enter Try.func71, Try.ntmps71
    go_wp2_with fail
    refine (right_any 0 r _).mono ?_
    rintro e w2 ⟨rfl, hb2⟩
    go_wp2_with fail
    go_ret
    exact ⟨rfl, hw0.trans (hb2.mono hw0.size)⟩
  · rw [H.out]
    unfold stampCells
    go_enter Try.func71, Try.ntmps71
    go_wp2_with fail
    refine (right_any t r _).mono ?_
    rintro e w2 ⟨rfl, hb2⟩
    go_wp2_with fail
    go_ret
    exact ⟨rfl, hw0.trans (hb2.mono hw0.size)⟩

/-- Is an operation with right stamps a right Move? nb: is its name one? n: how many it stands over. -/
def moveB (t r nt nr pt pr : Int) (nb : Bool) (d : List UInt8) (n : Nat) : Bool := decide (cmpS nt nr t r ≤ 0) && (placeB pt pr && (nb && (decide (d = id0) && decide (n = 0))))

set_option maxRecDepth 100000 in
set_option maxHeartbeats 2000000 in
theorem goodMove_any (k t r nt nr pt pr : Int) (s : ByteArray) (d : List UInt8) (a : Option Addr) (n c : Nat) (nb : Bool) (w : World) (hd : d.length = 32)
    (hname : ∀ W, Calls Try.prog 16 #[.string s] W fun e w' => e = .returned (.bool nb) ∧ Below W.heap.size W w') :
    Calls Try.prog 40 #[.agg (opCells k t r nt nr pt pr s d (.slice a n c))] w fun e w' => e = .returned (.bool (moveB t r nt nr pt pr nb d n)) ∧ Below w.heap.size w w' := by
  obtain ⟨X, hX⟩ : ∃ X, X = opCells k t r nt nr pt pr s d (.slice a n c) := ⟨_, rfl⟩
  obtain ⟨w1, hw1⟩ : ∃ w1, w1 = w.alloc (.cells X 33) := ⟨_, rfl⟩
  have hb1 : Below w.heap.size w w1 := by rw [hw1]; exact (Below.refl _ w).alloc (Nat.le_refl _) _
  have hO : OpIn (fun W => Below w1.heap.size w1 W) w.heap.size k t r nt nr pt pr s d (.slice a n c) := opIn_box hd (by rw [hw1, hX]; exact heap_alloc_new _ _)
  obtain ⟨db, hdb⟩ : ∃ db, db = decide (d = id0) := ⟨_, rfl⟩
  have heq : ∀ w', (Op.equalIn 10000 30 (.agg (bvs d).toArray) (.agg #[Value.int IntKind.u8 0, Value.int IntKind.u8 0, Value.int IntKind.u8 0, Value.int IntKind.u8 0, Value.int IntKind.u8 0, Value.int IntKind.u8 0, Value.int IntKind.u8 0, Value.int IntKind.u8 0, Value.int IntKind.u8 0, Value.int IntKind.u8 0, Value.int IntKind.u8 0, Value.int IntKind.u8 0, Value.int IntKind.u8 0, Value.int IntKind.u8 0, Value.int IntKind.u8 0, Value.int IntKind.u8 0, Value.int IntKind.u8 0, Value.int IntKind.u8 0, Value.int IntKind.u8 0, Value.int IntKind.u8 0, Value.int IntKind.u8 0, Value.int IntKind.u8 0, Value.int IntKind.u8 0, Value.int IntKind.u8 0, Value.int IntKind.u8 0, Value.int IntKind.u8 0, Value.int IntKind.u8 0, Value.int IntKind.u8 0, Value.int IntKind.u8 0, Value.int IntKind.u8 0, Value.int IntKind.u8 0, Value.int IntKind.u8 0])).run Try.prog w' = .ok db w' := fun w' => by rw [eq_id0 w' d hd, hdb]; rfl
  obtain ⟨D, hD⟩ : ∃ D, D = (bvs d).toArray := ⟨_, rfl⟩
  have hDs : (Try.prog.info? 30).map (·.size) = some D.size := by rw [hD, List.size_toArray, bvs_length, hd]; kernel_rfl
  rw [← hD] at heq
  have hdat := hO.data
  rw [← hD] at hdat
  obtain ⟨cv, hcv⟩ : ∃ cv, cv = cmpS nt nr t r := ⟨_, rfl⟩
  obtain ⟨pb, hpb⟩ : ∃ pb, pb = placeB pt pr := ⟨_, rfl⟩
  have hc1 := fun W => cmp_any nt nr t r W
  have hc2 := fun W => place_any pt pr W
  rw [← hcv] at hc1
  rw [← hpb] at hc2
  obtain ⟨mb, hmb⟩ : ∃ mb, mb = moveB t r nt nr pt pr nb d n := ⟨_, rfl⟩
  have hmv : mb = (decide (cv ≤ 0) && (pb && (nb && (db && decide (n = 0))))) := by rw [hmb, hdb, hcv, hpb]; rfl
  have hcase : (¬ cv ≤ 0 ∧ mb = false) ∨ (cv ≤ 0 ∧ pb = false ∧ mb = false) ∨ (cv ≤ 0 ∧ pb = true ∧ nb = false ∧ mb = false) ∨ (cv ≤ 0 ∧ pb = true ∧ nb = true ∧ db = false ∧ mb = false) ∨ (cv ≤ 0 ∧ pb = true ∧ nb = true ∧ db = true ∧ ((n : Int) == 0) = false ∧ mb = false) ∨ (cv ≤ 0 ∧ pb = true ∧ nb = true ∧ db = true ∧ n = 0 ∧ mb = true) := by
    rw [hmv]
    by_cases h1 : cv ≤ 0
    · cases pb
      · exact .inr (.inl ⟨h1, rfl, by simp⟩)
      · cases nb
        · exact .inr (.inr (.inl ⟨h1, rfl, rfl, by simp⟩))
        · cases db
          · exact .inr (.inr (.inr (.inl ⟨h1, rfl, rfl, rfl, by simp⟩)))
          · by_cases h2 : n = 0
            · exact .inr (.inr (.inr (.inr (.inr ⟨h1, rfl, rfl, rfl, h2, by simp [h1, h2]⟩))))
            · exact .inr (.inr (.inr (.inr (.inl ⟨h1, rfl, rfl, rfl, by simp; omega, by simp [h2]⟩))))
    · exact .inl ⟨h1, by simp [h1]⟩
  rw [← hmb, ← hX]
  have HO := Lib.hid hO
  have HDT := Lib.hid hdat
  have HDS := Lib.hid hDs
  have HC1 := Lib.hid hc1
  have HC2 := Lib.hid hc2
  have HC3 := Lib.hid hname
  have HW1 := Lib.hid hw1
  clear hX hw1 hO hdat hDs hc1 hc2 hname hdb hD hcv hpb hmb hmv hd
  rcases hcase with ⟨h1, rfl⟩ | ⟨h1, rfl, rfl⟩ | ⟨h1, rfl, rfl, rfl⟩ | ⟨h1, rfl, rfl, rfl, rfl⟩ | ⟨h1, rfl, rfl, rfl, h2, rfl⟩ | ⟨h1, rfl, rfl, rfl, rfl, rfl⟩
  all_goals
    go_enter Try.func40, Try.ntmps40
    go_upto_region 1 with (fail)
    rw [← HW1.out]
    have hs : Below w1.heap.size w1 w1 := Below.refl _ _
    refine wp_region_lex (fun W => Below w1.heap.size w1 W) [([0, 1, 2, 3], 4), ([5, 6, 7, 8], 9), ([10, 11, 12, 13], 14), ([15, 16, 17, 18, 19, 20, 21, 22, 23, 24], 25)] [26, 27, 28] (by kernel_rfl) (by kernel_rfl) hs ?_
    refine wpSched_cons ?_
    dsimp only [opsAt, List.filterMap, List.getElem?_cons_zero, List.getElem?_cons_succ]
    repeat (first
      | go_big_quiet_skip
      | (go_big_quiet_want
         first
           | (refine quiet_load_mid 23 (.tmp 3) rfl w.heap.size 3 rfl (stampCells nt nr) _ HO.out.node Try.underlying23 rfl (sizeStamp _ _) ?_
              simp only [Act.put, List.setIfInBounds_toArray, List.set_cons_zero, List.set_cons_succ]
              go_big_quiet_on)
           | (refine quiet_load_mid 23 (.tmp 5) rfl w.heap.size 1 rfl (stampCells t r) _ HO.out.at_ Try.underlying23 rfl (sizeStamp _ _) ?_
              simp only [Act.put, List.setIfInBounds_toArray, List.set_cons_zero, List.set_cons_succ]
              go_big_quiet_on)
           | (go_big_quiet_op
              refine ⟨_, fun _ _ => rfl, ?_⟩
              go_big_quiet_on)
           | (go_big_quiet_op
              go_big_quiet_on)))
    refine wpQuiet_nil ?_
    intro KK hKK
    go_simp
    first
      | (refine (HC1.out _).mono ?_
         rintro e w3 ⟨rfl, hb3⟩
         replace hs := hs.trans (hb3.mono hs.size)
         clear hb3)
      | skip
    refine hKK _ _ hs ?_
    clear hKK KK
    try simp only [Act.put, List.setIfInBounds_toArray, List.set_cons_zero, List.set_cons_succ]
    refine wpSched_cons ?_
    dsimp only [opsAt, List.filterMap, List.getElem?_cons_zero, List.getElem?_cons_succ]
    repeat (first
      | go_big_quiet_skip
      | (go_big_quiet_want
         first
           | (refine quiet_load_mid 23 (.tmp 10) rfl w.heap.size 5 rfl (stampCells pt pr) _ HO.out.parent Try.underlying23 rfl (sizeStamp _ _) ?_
              simp only [Act.put, List.setIfInBounds_toArray, List.set_cons_zero, List.set_cons_succ]
              go_big_quiet_on)
           | (go_big_quiet_op
              refine ⟨_, fun _ _ => rfl, ?_⟩
              go_big_quiet_on)
           | (go_big_quiet_op
              go_big_quiet_on)))
    refine wpQuiet_nil ?_
    intro KK hKK
    go_simp
    first
      | (refine (HC2.out _).mono ?_
         rintro e w3 ⟨rfl, hb3⟩
         replace hs := hs.trans (hb3.mono hs.size)
         clear hb3)
      | skip
    refine hKK _ _ hs ?_
    clear hKK KK
    try simp only [Act.put, List.setIfInBounds_toArray, List.set_cons_zero, List.set_cons_succ]
    refine wpSched_cons ?_
    dsimp only [opsAt, List.filterMap, List.getElem?_cons_zero, List.getElem?_cons_succ]
    repeat (first
      | go_big_quiet_skip
      | (go_big_quiet_want
         first
           | (refine quiet_load_cell 9 (.tmp 15) rfl ⟨w.heap.size, 7, none⟩ rfl (.string s) _ HO.out.name Try.underlying9 rfl ?_
              simp only [Act.put, List.setIfInBounds_toArray, List.set_cons_zero, List.set_cons_succ]
              go_big_quiet_on)
           | (go_big_quiet_op
              refine ⟨_, fun _ _ => rfl, ?_⟩
              go_big_quiet_on)
           | (go_big_quiet_op
              go_big_quiet_on)))
    refine wpQuiet_nil ?_
    intro KK hKK
    go_simp
    first
      | (refine (HC3.out _).mono ?_
         rintro e w3 ⟨rfl, hb3⟩
         replace hs := hs.trans (hb3.mono hs.size)
         clear hb3)
      | skip
    refine hKK _ _ hs ?_
    clear hKK KK
    try simp only [Act.put, List.setIfInBounds_toArray, List.set_cons_zero, List.set_cons_succ]
    refine wpSched_cons ?_
    dsimp only [opsAt, List.filterMap, List.getElem?_cons_zero, List.getElem?_cons_succ]
    repeat (first
      | go_big_quiet_skip
      | (go_big_quiet_want
         first
           | (refine quiet_load_mid 30 (.tmp 20) rfl w.heap.size 8 rfl D _ HDT.out Try.underlying30 rfl HDS.out ?_
              simp only [Act.put, List.setIfInBounds_toArray, List.set_cons_zero, List.set_cons_succ]
              go_big_quiet_on)
           | (refine quiet_load_cell 31 (.tmp 26) rfl ⟨w.heap.size, 40, none⟩ rfl (.slice a _ c) _ HO.out.over Try.underlying31 rfl ?_
              simp only [Act.put, List.setIfInBounds_toArray, List.set_cons_zero, List.set_cons_succ]
              go_big_quiet_on)
           | (go_big_quiet_op
              refine ⟨_, fun _ _ => rfl, ?_⟩
              go_big_quiet_on)
           | (go_big_quiet_op
              go_big_quiet_on)))
    refine wpQuiet_nil ?_
    intro KK hKK
    go_simp
    refine hKK _ _ hs ?_
    clear hKK KK
    try simp only [Act.put, List.setIfInBounds_toArray, List.set_cons_zero, List.set_cons_succ]
    refine wpSched_nil ?_
    dsimp only [opsAt, List.filterMap, List.getElem?_cons_zero, List.getElem?_cons_succ]
    repeat (first
      | go_big_quiet_skip
      | (go_big_quiet_want
         first
           | (go_big_quiet_op
              refine ⟨_, fun _ _ => rfl, ?_⟩
              go_big_quiet_on)
           | (go_big_quiet_op
              go_big_quiet_on)))
    refine wpQuiet_nil ?_
    go_wp2
    go_ret
    exact ⟨rfl, hb1.trans (hs.mono hb1.size)⟩
end Go.Proofs.Ytoaboehmjfnceaa
