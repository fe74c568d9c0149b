/-
  Three rotations; two rotations and a shift.
-/
import Derived.Test.YtkgclhkpncegnaaDoorRot
import Derived.BigQuiet
import Derived.Deep.QuietTactic
import Derived.Deep.DeepCutAuto
import Derived.Lib.Hide
namespace Go.Proofs.YtkgclhkpncegnaaDoor
open Go.RowKit
set_option linter.unusedSimpArgs false
set_option linter.unusedVariables false

def turnB (x : BitVec 32) (i j k : Nat) : BitVec 32 := rr x i ^^^ rr x j ^^^ rr x k
def shiftB (x : BitVec 32) (i j k : Nat) : BitVec 32 := rr x i ^^^ rr x j ^^^ x >>> k


set_option maxHeartbeats 1000000 in
set_option maxRecDepth 100000 in
theorem turned_any (x : BitVec 32) (i j k : Nat) (hi : 0 < i ∧ i < 32) (hj : 0 < j ∧ j < 32) (hk : 0 < k ∧ k < 32) (w : World) :
    Calls Tryd.prog 44 #[vw x, .int .i64 (i : Int), .int .i64 (j : Int), .int .i64 (k : Int)] w fun e w' => e = .returned (vw (turnB x i j k)) ∧ w' = w := by
  have h1 := rot_any x
  have e1 := hi.1
  have e2 := hi.2
  have e3 := hj.1
  have e4 := hj.2
  have e5 := hk.1
  have e6 := hk.2
  unfold vw at *
  go_enter Tryd.func44, Tryd.ntmps44
  go_wp2_with (first | (go_at_call 50; refine (h1 _ (by assumption) (by assumption) _).mono ?_; rintro _ _ ⟨rfl, rfl⟩))
  rw [b32_xor, b32_xor]
  go_ret
  exact ⟨rfl, rfl⟩

theorem shr_word (x : BitVec 32) (k : Nat) : (x.toNat : Int) / 2 ^ k = ((x >>> k).toNat : Int) := by
  rw [BitVec.toNat_ushiftRight, Nat.shiftRight_eq_div_pow, Int.natCast_ediv, Int.natCast_pow]; rfl

set_option maxHeartbeats 1000000 in
set_option maxRecDepth 100000 in
theorem shifted_any (x : BitVec 32) (i j k : Nat) (hi : 0 < i ∧ i < 32) (hj : 0 < j ∧ j < 32) (hk : k < 32) (w : World) :
    Calls Tryd.prog 49 #[vw x, .int .i64 (i : Int), .int .i64 (j : Int), .int .i64 (k : Int)] w fun e w' => e = .returned (vw (shiftB x i j k)) ∧ Below w.heap.size w w' := by
  have h1 := fun w0 => calls_from' (Nat.le_refl _) (w0 := w) (fun w1 => (rot_any x i hi.1 hi.2 w1).mono fun _ _ h => ⟨h.1, h.2 ▸ Below.refl _ _⟩) w0
  have h2 := fun w0 => calls_from' (Nat.le_refl _) (w0 := w) (fun w1 => (rot_any x j hj.1 hj.2 w1).mono fun _ _ h => ⟨h.1, h.2 ▸ Below.refl _ _⟩) w0
  have e1 := hi.1
  have e2 := hi.2
  have e3 := hj.1
  have e4 := hj.2
  unfold vw at *
  have H1 := Lib.hid h1
  have H2 := Lib.hid h2
  clear h1 h2
  go_enter Tryd.func49, Tryd.ntmps49
  go_upto_region 1 with (fail)
  refine wp_region_below' (w0 := w) (B := w.heap.size) (by kernel_rfl) (by kernel_rfl) (Below.refl _ w) ?_
  repeat (first
    | go_big_quiet_skip
    | (go_big_quiet_want
       first
         | (refine quiet_enter' _ _ _ ?_ H1.out ?_
            · intro w; go_simp
            simp only [Act.put, List.setIfInBounds_toArray, List.set_cons_zero, List.set_cons_succ]
            go_big_quiet_on)
         | (refine quiet_enter' _ _ _ ?_ H2.out ?_
            · intro w; go_simp
            simp only [Act.put, List.setIfInBounds_toArray, List.set_cons_zero, List.set_cons_succ]
            go_big_quiet_on)
         | (go_big_quiet_op
            first | refine ⟨_, fun _ _ => rfl, ?_⟩ | refine ⟨_, fun _ _ _ => rfl, ?_⟩ | refine ⟨_, fun _ _ _ _ => rfl, ?_⟩
            go_big_quiet_on)
         | (go_big_quiet_op
            go_big_quiet_on)))
  refine wpQuiet_nil ?_
  intro w1 hb1
  go_wp2_with fail
  rw [shr_word, b32_xor, b32_xor]
  go_ret
  exact ⟨rfl, hb1⟩
end Go.Proofs.YtkgclhkpncegnaaDoor
