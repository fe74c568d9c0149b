/-
  The walk of pollardlaw02.reading: Read is alive.
-/
import Derived.Test.YtcdklimpekknnabReadId
namespace Go.Proofs.Ytcdklimpekknnab
open Go.RowKit

theorem rnum300 : rnum [172, 2, 1, 97] 1000 = some (300, [1, 97]) := by decide +kernel
theorem rtextA : rtext [1, 97] 1 = some ([97], []) := by decide +kernel

set_option maxRecDepth 100000 in
set_option maxHeartbeats 400000 in
theorem reading_any (w : World) :
    Calls Try.prog 22 #[] w fun e w' => e = .returned (.bool true) ∧ Below w.heap.size w w' := by
  go_enter Try.func22, Try.ntmps22
  go_wp2_with fail
  refine (read_any _ [172, 2, 1, 97] _ _ (BytesAt.alloc_new _ _ _ _ rfl) (by decide)).mono ?_
  rintro e w1 ⟨R, Q, rfl, hRw, hr1, hb1⟩
  have hw0 : Below w.heap.size w (w.alloc (.cells #[Value.int .u8 172, Value.int .u8 2, Value.int .u8 1, Value.int .u8 97] 5)) := (Below.refl _ _).alloc (Nat.le_refl _) _
  have hw1 := hw0.trans (hb1.mono hw0.size)
  have hR : w.heap.size ≤ R := Nat.le_trans hw0.size hRw
  clear hw0 hb1 hRw
  go_wp2_with fail
  refine (rnum_some R Q _ false 1000 300 [1, 97] w1 hr1 rnum300).mono ?_
  rintro e w2 ⟨rfl, hr2, hg2⟩
  have hw2 := below_grownBy (Nat.le_refl _) hw1 hg2 hR
  clear hw1 hg2 hr1
  go_wp2_with fail
  refine (rtext_some R Q _ false 1 [97] [] w2 hr2 rtextA).mono ?_
  rintro e w3 ⟨rfl, hr3, hg3⟩
  have hw3 := below_grownBy (Nat.le_refl _) hw2 hg3 hR
  clear hw2 hg3 hr2
  go_wp2_with fail
  refine (done_any R Q _ false w3 hr3).mono ?_
  rintro e w' ⟨rfl, rfl⟩
  go_wp2_with fail
  refine (good_any R Q _ false _ hr3).mono ?_
  rintro e w' ⟨rfl, rfl⟩
  go_wp2_with fail
  go_ret
  exact ⟨rfl, hw3⟩
end Go.Proofs.Ytcdklimpekknnab
