/-
  The walk of the law StampGood.
-/
import Derived.Test.YtoaboehmjfnceaaAlive
import Derived.Test.YtoaboehmjfnceaaRefGood
import Derived.Test.YtoaboehmjfnceaaRefSame
import Derived.Test.YtoaboehmjfnceaaOpWf
namespace Go.Proofs.Ytoaboehmjfnceaa
open Go.RowKit
set_option linter.unusedSimpArgs false
set_option linter.unusedVariables false

set_option maxRecDepth 100000 in
set_option maxHeartbeats 2000000 in
theorem stampGood_walk (w : World) (k t r nt nr pt pr : Int) (s : ByteArray) (d : List UInt8) (a : Option Addr) (ss : List (Int × Int)) (c : Nat) (hd : d.length = 32) (hm : s.size ≤ maxLen) (ha : StampsAt w a ss) (_ : OpWf k t r nt nr pt pr ss c) (hl : ss.length ≤ 4611686018427387903)
    (k' t' r' nt' nr' pt' pr' : Int) (s' : ByteArray) (d' : List UInt8) (a' : Option Addr) (ss' : List (Int × Int)) (c' : Nat) (hd' : d'.length = 32) (_ : s'.size ≤ maxLen) (ha' : StampsAt w a' ss') (_ : OpWf k' t' r' nt' nr' pt' pr' ss' c') (_ : ss'.length ≤ 4611686018427387903) :
    Calls Try.prog 4 #[.agg (opCells k t r nt nr pt pr s d (.slice a ss.length c)), .agg (opCells k' t' r' nt' nr' pt' pr' s' d' (.slice a' ss'.length c'))] w fun e w' => e = .returned (.bool true) ∧ Below w.heap.size w w' := by
  obtain ⟨X, hX⟩ : ∃ X, X = opCells k t r nt nr pt pr s d (.slice a ss.length c) := ⟨_, rfl⟩
  obtain ⟨Y, hY⟩ : ∃ Y, Y = opCells k' t' r' nt' nr' pt' pr' s' d' (.slice a' ss'.length c') := ⟨_, rfl⟩
  obtain ⟨w1, hw1⟩ : ∃ w1, w1 = (w.alloc (.cells X 33)).alloc (.cells Y 33) := ⟨_, rfl⟩
  have hb1 : Below w.heap.size w w1 := by rw [hw1]; exact ((Below.refl _ w).alloc (Nat.le_refl _) _).alloc (by simp) _
  have hA1 : w1.heap[w.heap.size]? = some (.cells X 33 (0, 0)) := by rw [hw1, heap_alloc_old _ _ (by simp), heap_alloc_eq _ _ _ rfl]
  have hB1 : w1.heap[w.heap.size + 1]? = some (.cells Y 33 (0, 0)) := by rw [hw1, heap_alloc_eq _ _ _ (by simp)]
  have hXs : (Try.prog.info? 33).map (·.size) = some X.size := by rw [hX]; exact sizeOp _ _ _ _ _ _ _ _ _ _ hd
  have hYs : (Try.prog.info? 33).map (·.size) = some Y.size := by rw [hY]; exact sizeOp _ _ _ _ _ _ _ _ _ _ hd'
  have zA := lt_of_block hA1
  have zB := lt_of_block hB1
  have hA : ∀ W, Below w1.heap.size w1 W → W.heap[w.heap.size]? = some (.cells X 33 (0, 0)) := fun W h => by rw [h.block _ zA]; exact hA1
  have hB : ∀ W, Below w1.heap.size w1 W → W.heap[w.heap.size + 1]? = some (.cells Y 33 (0, 0)) := fun W h => by rw [h.block _ zB]; exact hB1
  have hat := fun W (h : Below w1.heap.size w1 W) => (ha.later hb1).later h
  have hat' := fun W (h : Below w1.heap.size w1 W) => (ha'.later hb1).later h
  obtain ⟨gb, hgb⟩ : ∃ b, b = goodOpB k t r nt nr pt pr s d ss := ⟨_, rfl⟩
  obtain ⟨sb, hsb⟩ : ∃ b, b = sameOpB k t r nt nr pt pr s d ss k' t' r' nt' nr' pt' pr' s' d' ss' := ⟨_, rfl⟩
  have k1 := fun W h => goodop_any k t r nt nr pt pr s d a ss c W hd hm (hat W h) hl
  have k2 := fun W h => refgood_any k t r nt nr pt pr s d a ss c W hd hm (hat W h) hl
  have k3 := fun W h => sameop_any k t r nt nr pt pr s d a ss c k' t' r' nt' nr' pt' pr' s' d' a' ss' c' W hd hd' (hat W h) (hat' W h) hl
  have k4 := fun W h => refsame_any k t r nt nr pt pr s d a ss c k' t' r' nt' nr' pt' pr' s' d' a' ss' c' W hd hd' (hat W h) (hat' W h) hl
  have k5 := fun W h => sameop_any k t r nt nr pt pr s d a ss c k t r nt nr pt pr s d a ss c W hd hd (hat W h) (hat W h) hl
  rw [← hgb, ← hX] at k1 k2
  rw [← hsb, ← hX, ← hY] at k3 k4
  rw [sameOpB_refl, ← hX] at k5
  have e1 : (gb == gb) = true := by cases gb <;> rfl
  have e2 : (sb == sb) = true := by cases sb <;> rfl
  rw [← hX, ← hY]
  have HA := Lib.hid hA
  have HB := Lib.hid hB
  have HXS := Lib.hid hXs
  have HYS := Lib.hid hYs
  have K1 := Lib.hid k1
  have K2 := Lib.hid k2
  have K3 := Lib.hid k3
  have K4 := Lib.hid k4
  have K5 := Lib.hid k5
  have HW1 := Lib.hid hw1
  clear hX hY hw1 hA1 hB1 hXs hYs zA zB hA hB hat hat' ha ha' hgb hsb k1 k2 k3 k4 k5
  go_enter Try.func4, Try.ntmps4
  go_upto_region 1 with (fail)
  change Code.wp _ _ _ _ ((w.alloc (.cells X 33)).alloc (.cells Y 33))
  rw [← HW1.out]
  have hs : Below w1.heap.size w1 w1.drew := (Below.refl _ _).drew
  refine wp_region_sched (fun W => Below w1.heap.size w1 W) [([], 0), ([1, 2, 4], 3), ([], 5), ([6, 7, 8, 9, 10, 12, 13], 11), ([], 14), ([15, 16, 17, 18, 19], 20)] [21, 22] (by kernel_rfl) (by kernel_rfl) (fun _ _ d _ _ h => by cases d <;> exact h) (by kernel_rfl) (of_decide_eq_true (by kernel_rfl)) hs ?_
  refine wpSched_cons ?_
  dsimp only [opsAt, List.filterMap, List.getElem?_cons_zero, List.getElem?_cons_succ]
  repeat (first
    | go_big_quiet_skip
    | (go_big_quiet_want
       first
         | (go_big_quiet_op
            refine ⟨_, fun _ _ => rfl, ?_⟩
            go_big_quiet_on)
         | (go_big_quiet_op
            go_big_quiet_on)))
  refine wpQuiet_nil ?_
  intro KK hKK
  go_simp
  first
    | (refine (alive_any _).mono ?_
       rintro e w3 ⟨rfl, hb3⟩
       replace hs := hs.trans (hb3.mono hs.size)
       clear hb3)
    | skip
  refine hKK _ _ hs ?_
  clear hKK KK
  try simp only [Act.put, List.setIfInBounds_toArray, List.set_cons_zero, List.set_cons_succ]
  refine wpSched_cons ?_
  dsimp only [opsAt, List.filterMap, List.getElem?_cons_zero, List.getElem?_cons_succ]
  repeat (first
    | go_big_quiet_skip
    | (go_big_quiet_want
       first
         | (refine quiet_load_row' 33 (.tmp 2) rfl w.heap.size rfl 33 X (0, 0) _ HA.out Try.underlying33 rfl HXS.out ?_
            simp only [Act.put, List.setIfInBounds_toArray, List.set_cons_zero, List.set_cons_succ]
            go_big_quiet_on)
         | (go_big_quiet_op
            refine ⟨_, fun _ _ => rfl, ?_⟩
            go_big_quiet_on)
         | (go_big_quiet_op
            go_big_quiet_on)))
  refine wpQuiet_nil ?_
  intro KK hKK
  go_simp
  first
    | (refine (K1.out _ hs).mono ?_
       rintro e w3 ⟨rfl, hb3⟩
       replace hs := hs.trans (hb3.mono hs.size)
       clear hb3)
    | skip
  refine hKK _ _ hs ?_
  clear hKK KK
  try simp only [Act.put, List.setIfInBounds_toArray, List.set_cons_zero, List.set_cons_succ]
  refine wpSched_cons ?_
  dsimp only [opsAt, List.filterMap, List.getElem?_cons_zero, List.getElem?_cons_succ]
  repeat (first
    | go_big_quiet_skip
    | (go_big_quiet_want
       first
         | (go_big_quiet_op
            refine ⟨_, fun _ _ => rfl, ?_⟩
            go_big_quiet_on)
         | (go_big_quiet_op
            go_big_quiet_on)))
  refine wpQuiet_nil ?_
  intro KK hKK
  go_simp
  first
    | (refine (K2.out _ hs).mono ?_
       rintro e w3 ⟨rfl, hb3⟩
       replace hs := hs.trans (hb3.mono hs.size)
       clear hb3)
    | skip
  refine hKK _ _ hs ?_
  clear hKK KK
  try simp only [Act.put, List.setIfInBounds_toArray, List.set_cons_zero, List.set_cons_succ]
  refine wpSched_cons ?_
  dsimp only [opsAt, List.filterMap, List.getElem?_cons_zero, List.getElem?_cons_succ]
  repeat (first
    | go_big_quiet_skip
    | (go_big_quiet_want
       first
         | (refine quiet_load_row' 33 (.tmp 2) rfl w.heap.size rfl 33 X (0, 0) _ HA.out Try.underlying33 rfl HXS.out ?_
            simp only [Act.put, List.setIfInBounds_toArray, List.set_cons_zero, List.set_cons_succ]
            go_big_quiet_on)
         | (refine quiet_load_row' 33 (.tmp 3) rfl (w.heap.size + 1) rfl 33 Y (0, 0) _ HB.out Try.underlying33 rfl HYS.out ?_
            simp only [Act.put, List.setIfInBounds_toArray, List.set_cons_zero, List.set_cons_succ]
            go_big_quiet_on)
         | (go_big_quiet_op
            refine ⟨_, fun _ _ => rfl, ?_⟩
            go_big_quiet_on)
         | (go_big_quiet_op
            go_big_quiet_on)))
  refine wpQuiet_nil ?_
  intro KK hKK
  go_simp
  first
    | (refine (K3.out _ hs).mono ?_
       rintro e w3 ⟨rfl, hb3⟩
       replace hs := hs.trans (hb3.mono hs.size)
       clear hb3)
    | skip
  refine hKK _ _ hs ?_
  clear hKK KK
  try simp only [Act.put, List.setIfInBounds_toArray, List.set_cons_zero, List.set_cons_succ]
  refine wpSched_cons ?_
  dsimp only [opsAt, List.filterMap, List.getElem?_cons_zero, List.getElem?_cons_succ]
  repeat (first
    | go_big_quiet_skip
    | (go_big_quiet_want
       first
         | (go_big_quiet_op
            refine ⟨_, fun _ _ => rfl, ?_⟩
            go_big_quiet_on)
         | (go_big_quiet_op
            go_big_quiet_on)))
  refine wpQuiet_nil ?_
  intro KK hKK
  go_simp
  first
    | (refine (K4.out _ hs).mono ?_
       rintro e w3 ⟨rfl, hb3⟩
       replace hs := hs.trans (hb3.mono hs.size)
       clear hb3)
    | skip
  refine hKK _ _ hs ?_
  clear hKK KK
  try simp only [Act.put, List.setIfInBounds_toArray, List.set_cons_zero, List.set_cons_succ]
  refine wpSched_cons ?_
  dsimp only [opsAt, List.filterMap, List.getElem?_cons_zero, List.getElem?_cons_succ]
  repeat (first
    | go_big_quiet_skip
    | (go_big_quiet_want
       first
         | (refine quiet_load_row' 33 (.tmp 2) rfl w.heap.size rfl 33 X (0, 0) _ HA.out Try.underlying33 rfl HXS.out ?_
            simp only [Act.put, List.setIfInBounds_toArray, List.set_cons_zero, List.set_cons_succ]
            go_big_quiet_on)
         | (go_big_quiet_op
            refine ⟨_, fun _ _ => rfl, ?_⟩
            go_big_quiet_on)
         | (go_big_quiet_op
            go_big_quiet_on)))
  refine wpQuiet_nil ?_
  intro KK hKK
  go_simp
  first
    | (refine (K5.out _ hs).mono ?_
       rintro e w3 ⟨rfl, hb3⟩
       replace hs := hs.trans (hb3.mono hs.size)
       clear hb3)
    | skip
  refine hKK _ _ hs ?_
  clear hKK KK
  try simp only [Act.put, List.setIfInBounds_toArray, List.set_cons_zero, List.set_cons_succ]
  refine wpSched_nil ?_
  dsimp only [opsAt, List.filterMap, List.getElem?_cons_zero, List.getElem?_cons_succ]
  repeat (first
    | go_big_quiet_skip
    | (go_big_quiet_want
       first
         | (go_big_quiet_op
            refine ⟨_, fun _ _ => rfl, ?_⟩
            go_big_quiet_on)
         | (go_big_quiet_op
            go_big_quiet_on)))
  refine wpQuiet_nil ?_
  go_wp2_with fail
  go_ret
  exact ⟨rfl, hb1.trans (hs.mono hb1.size)⟩
end Go.Proofs.Ytoaboehmjfnceaa
