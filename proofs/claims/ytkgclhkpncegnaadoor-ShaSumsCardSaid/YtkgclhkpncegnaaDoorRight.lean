/-
  A word turned to the right, as the reference makes it.
-/
import Derived.Test.YtkgclhkpncegnaaDoorTurned
namespace Go.Proofs.YtkgclhkpncegnaaDoor
open Go.RowKit
set_option linter.unusedSimpArgs false
set_option linter.unusedVariables false

theorem right_or (x : BitVec 32) (n : Nat) (h0 : 0 < n) (hn : n < 32) :
    bits .or .u32 ((x.toNat : Int) / 2 ^ n) ((x.toNat : Int) * 2 ^ (32 - n) % 4294967296) = ((rr x n).toNat : Int) := by
  have h1 : (x.toNat : Int) * 2 ^ (32 - n) % 4294967296 = ((x <<< (32 - n)).toNat : Int) := by
    rw [BitVec.toNat_shiftLeft, Nat.shiftLeft_eq, Int.natCast_emod, Int.natCast_mul, Int.natCast_pow]; rfl
  have h2 : (x.toNat : Int) / 2 ^ n = ((x >>> n).toNat : Int) := by
    rw [BitVec.toNat_ushiftRight, Nat.shiftRight_eq_div_pow, Int.natCast_ediv, Int.natCast_pow]; rfl
  rw [h1, h2, b32_or]
  unfold rr
  rw [BitVec.rotateRight_def, Nat.mod_eq_of_lt hn]

set_option maxRecDepth 100000 in
theorem right_any (x : BitVec 32) (n : Nat) (h0 : 0 < n) (hn : n < 32) (w : World) :
    Calls Tryd.prog 26 #[vw x, .int .u64 (n : Int)] w fun e w' => e = .returned (vw (rr x n)) ∧ w' = w := by
  have hx := x.isLt
  have hr := right_or x n h0 hn
  have HR := Lib.hid hr
  clear hr
  unfold vw
  go_enter Tryd.func26, Tryd.ntmps26
  go_wp2_with fail
  rw [HR.out]
  go_ret
  exact ⟨rfl, rfl⟩
end Go.Proofs.YtkgclhkpncegnaaDoor
