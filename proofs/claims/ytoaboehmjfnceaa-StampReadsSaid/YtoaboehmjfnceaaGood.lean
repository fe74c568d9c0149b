/-
  The walk of stamp.Good.
-/
import Derived.Test.YtoaboehmjfnceaaGoodMove
namespace Go.Proofs.Ytoaboehmjfnceaa
open Go.RowKit

/-- Is an operation right? mv: is it a right Move; ed: is it a right Edit, its stamps being right? -/
def goodV (k t r nt nr : Int) (mv ed : Bool) : Bool := rightB t r && (rightB nt nr && (if k = 1 then mv else if k = 2 then ed else false))

set_option maxRecDepth 100000 in
set_option maxHeartbeats 2000000 in
theorem good_of (k t r nt nr pt pr : Int) (s : ByteArray) (d : List UInt8) (ov : Value) (mv ed : Bool) (w : World) (hd : d.length = 32)
    (hmove : k = 1 → ∀ W, Calls Try.prog 40 #[.agg (opCells k t r nt nr pt pr s d ov)] W fun e w' => e = .returned (.bool mv) ∧ Below W.heap.size W w')
    (hedit : k = 2 → ∀ W, Below w.heap.size w W → Calls Try.prog 41 #[.agg (opCells k t r nt nr pt pr s d ov)] W fun e w' => e = .returned (.bool ed) ∧ Below W.heap.size W w') :
    Calls Try.prog 18 #[.agg (opCells k t r nt nr pt pr s d ov)] w fun e w' => e = .returned (.bool (goodV k t r nt nr mv ed)) ∧ Below w.heap.size w w' := by
  obtain ⟨X, hX⟩ : ∃ X, X = opCells k t r nt nr pt pr s d ov := ⟨_, rfl⟩
  obtain ⟨w1, hw1⟩ : ∃ w1, w1 = w.alloc (.cells X 33) := ⟨_, rfl⟩
  have hb1 : Below w.heap.size w w1 := by rw [hw1]; exact (Below.refl _ w).alloc (Nat.le_refl _) _
  have hO : OpIn (fun W => Below w1.heap.size w1 W) w.heap.size k t r nt nr pt pr s d ov := opIn_box hd (by rw [hw1, hX]; exact heap_alloc_new _ _)
  have hXs : (Try.prog.info? 33).map (·.size) = some X.size := by rw [hX]; exact sizeOp _ _ _ _ _ _ _ _ _ _ hd
  obtain ⟨ab, hab⟩ : ∃ ab, ab = rightB t r := ⟨_, rfl⟩
  obtain ⟨nb, hnb⟩ : ∃ nb, nb = rightB nt nr := ⟨_, rfl⟩
  have hc1 := fun W => right_any t r W
  have hc2 := fun W => right_any nt nr W
  rw [← hab] at hc1
  rw [← hnb] at hc2
  obtain ⟨gb, hgb⟩ : ∃ gb, gb = goodV k t r nt nr mv ed := ⟨_, rfl⟩
  have hgv : gb = (ab && (nb && (if k = 1 then mv else if k = 2 then ed else false))) := by rw [hgb, hab, hnb]; rfl
  have hcase : (ab = false ∧ gb = false) ∨ (ab = true ∧ nb = false ∧ gb = false) ∨ (ab = true ∧ nb = true ∧ k = 1 ∧ gb = mv) ∨ (ab = true ∧ nb = true ∧ k = 2 ∧ gb = ed) ∨ (ab = true ∧ nb = true ∧ ((k : Int) == 1) = false ∧ ((k : Int) == 2) = false ∧ gb = false) := by
    rw [hgv]
    cases ab
    · exact .inl ⟨rfl, by simp⟩
    · cases nb
      · exact .inr (.inl ⟨rfl, rfl, by simp⟩)
      · by_cases h1 : k = 1
        · exact .inr (.inr (.inl ⟨rfl, rfl, h1, by simp [h1]⟩))
        · by_cases h2 : k = 2
          · exact .inr (.inr (.inr (.inl ⟨rfl, rfl, h2, by simp [h2]⟩)))
          · exact .inr (.inr (.inr (.inr ⟨rfl, rfl, by simpa using h1, by simpa using h2, by simp [h1, h2]⟩)))
  have hwh := hO.whole
  rw [← hX] at hwh hmove hedit
  rw [← hgb, ← hX]
  have HO := Lib.hid hO
  have HWH := Lib.hid hwh
  have HXS := Lib.hid hXs
  have HC1 := Lib.hid hc1
  have HC2 := Lib.hid hc2
  have HM := Lib.hid hmove
  have HE := Lib.hid hedit
  have HW1 := Lib.hid hw1
  clear hX hw1 hO hwh hXs hc1 hc2 hmove hedit hab hnb hgb hgv hd
  rcases hcase with ⟨rfl, rfl⟩ | ⟨rfl, rfl, rfl⟩ | ⟨rfl, rfl, rfl, rfl⟩ | ⟨rfl, rfl, rfl, rfl⟩ | ⟨rfl, rfl, h1, h2, rfl⟩
  all_goals
    go_enter Try.func18, Try.ntmps18
    go_upto_region 1 with (fail)
    rw [← HW1.out]
    have hs : Below w1.heap.size w1 w1 := Below.refl _ _
    refine wp_region_lex (fun W => Below w1.heap.size w1 W) [([0, 1], 2), ([3, 4, 5, 6], 7)] [8, 9, 10] (by kernel_rfl) (by kernel_rfl) hs ?_
    refine wpSched_cons ?_
    dsimp only [opsAt, List.filterMap, List.getElem?_cons_zero, List.getElem?_cons_succ]
    repeat (first
      | go_big_quiet_skip
      | (go_big_quiet_want
         first
           | (refine quiet_load_mid 23 (.tmp 4) rfl w.heap.size 1 rfl (stampCells t r) _ HO.out.at_ Try.underlying23 rfl (sizeStamp _ _) ?_
              simp only [Act.put, List.setIfInBounds_toArray, List.set_cons_zero, List.set_cons_succ]
              go_big_quiet_on)
           | (go_big_quiet_op
              refine ⟨_, fun _ _ => rfl, ?_⟩
              go_big_quiet_on)
           | (go_big_quiet_op
              go_big_quiet_on)))
    refine wpQuiet_nil ?_
    intro KK hKK
    go_simp
    first
      | (refine (HC1.out _).mono ?_
         rintro e w3 ⟨rfl, hb3⟩
         replace hs := hs.trans (hb3.mono hs.size)
         clear hb3)
      | skip
    refine hKK _ _ hs ?_
    clear hKK KK
    try simp only [Act.put, List.setIfInBounds_toArray, List.set_cons_zero, List.set_cons_succ]
    refine wpSched_cons ?_
    dsimp only [opsAt, List.filterMap, List.getElem?_cons_zero, List.getElem?_cons_succ]
    repeat (first
      | go_big_quiet_skip
      | (go_big_quiet_want
         first
           | (refine quiet_load_mid 23 (.tmp 9) rfl w.heap.size 3 rfl (stampCells nt nr) _ HO.out.node Try.underlying23 rfl (sizeStamp _ _) ?_
              simp only [Act.put, List.setIfInBounds_toArray, List.set_cons_zero, List.set_cons_succ]
              go_big_quiet_on)
           | (go_big_quiet_op
              refine ⟨_, fun _ _ => rfl, ?_⟩
              go_big_quiet_on)
           | (go_big_quiet_op
              go_big_quiet_on)))
    refine wpQuiet_nil ?_
    intro KK hKK
    go_simp
    first
      | (refine (HC2.out _).mono ?_
         rintro e w3 ⟨rfl, hb3⟩
         replace hs := hs.trans (hb3.mono hs.size)
         clear hb3)
      | skip
    refine hKK _ _ hs ?_
    clear hKK KK
    try simp only [Act.put, List.setIfInBounds_toArray, List.set_cons_zero, List.set_cons_succ]
    refine wpSched_nil ?_
    dsimp only [opsAt, List.filterMap, List.getElem?_cons_zero, List.getElem?_cons_succ]
    repeat (first
      | go_big_quiet_skip
      | (go_big_quiet_want
         first
           | (go_big_quiet_op
              refine ⟨_, fun _ _ => rfl, ?_⟩
              go_big_quiet_on)
           | (go_big_quiet_op
              go_big_quiet_on)))
    refine wpQuiet_nil ?_
    have hck := HO.out.kind _ hs
    go_wp2_with (refine wpList_load_row rfl 33 (.tmp 1) rfl w.heap.size rfl 33 X (0, 0) _ (HWH.out _ hs) Try.underlying33 rfl HXS.out ?_)
    first
      | (refine (HM.out (by trivial) _).mono ?_
         rintro e w3 ⟨rfl, hb3⟩
         replace hs := hs.trans (hb3.mono hs.size)
         clear hb3
         go_wp2_with fail)
      | (refine (HE.out (by trivial) _ (hb1.trans (hs.mono hb1.size))).mono ?_
         rintro e w3 ⟨rfl, hb3⟩
         replace hs := hs.trans (hb3.mono hs.size)
         clear hb3
         go_wp2_with fail)
      | skip
    go_ret
    exact ⟨rfl, hb1.trans (hs.mono hb1.size)⟩
end Go.Proofs.Ytoaboehmjfnceaa
