/-
  The words of SHA-256: rotations, as the program makes them.
-/
import Derived.Test.YtkgclhkpncegnaaDoorBase
import Derived.Test.YtkgclhkpncegnaaDoorQuiet
import Derived.Laws.BitsAllLaws
import Derived.Below
namespace Go.Proofs.YtkgclhkpncegnaaDoor
open Go.RowKit
set_option linter.unusedSimpArgs false
set_option linter.unusedVariables false

theorem b32_xor (x y : BitVec 32) : bits .xor .u32 (x.toNat : Int) (y.toNat : Int) = ((x ^^^ y).toNat : Int) := by
  rw [u32_xor_nat _ _ (by have := x.isLt; omega) (by have := y.isLt; omega), BitVec.toNat_xor]
theorem b32_and (x y : BitVec 32) : bits .and .u32 (x.toNat : Int) (y.toNat : Int) = ((x &&& y).toNat : Int) := by
  rw [u32_and_nat _ _ (by have := x.isLt; omega) (by have := y.isLt; omega), BitVec.toNat_and]
theorem b32_or (x y : BitVec 32) : bits .or .u32 (x.toNat : Int) (y.toNat : Int) = ((x ||| y).toNat : Int) := by
  rw [u32_or_nat _ _ (by have := x.isLt; omega) (by have := y.isLt; omega), BitVec.toNat_or]
/-- A word as the model has it. -/
def vw (x : BitVec 32) : Value := .int .u32 (x.toNat : Int)

/-- A rotation to the right, kept from the walk's laws. -/
def rr (x : BitVec 32) (n : Nat) : BitVec 32 := x.rotateRight n

theorem rot_count : ∀ n : Fin 33, 0 < n.val → n.val < 32 → bits .and .u64 (IntKind.u64.wrap (-(n.val : Int))) 31 = 32 - (n.val : Int) := by decide +kernel

theorem rot_or (x : BitVec 32) (n : Nat) (h0 : 0 < n) (hn : n < 32) :
    bits .or .u32 ((x.toNat : Int) * 2 ^ (32 - n) % 4294967296) ((x.toNat : Int) / 2 ^ (32 - (32 - n))) = ((x.rotateRight n).toNat : Int) := by
  have e : 32 - (32 - n) = n := by omega
  have h1 : (x.toNat : Int) * 2 ^ (32 - n) % 4294967296 = ((x <<< (32 - n)).toNat : Int) := by
    rw [BitVec.toNat_shiftLeft, Nat.shiftLeft_eq, Int.natCast_emod, Int.natCast_mul, Int.natCast_pow]; rfl
  have h2 : (x.toNat : Int) / 2 ^ n = ((x >>> n).toNat : Int) := by
    rw [BitVec.toNat_ushiftRight, Nat.shiftRight_eq_div_pow, Int.natCast_ediv, Int.natCast_pow]; rfl
  rw [e, h1, h2, b32_or, BitVec.rotateRight_def, Nat.mod_eq_of_lt hn, BitVec.or_comm]

set_option maxRecDepth 100000 in
theorem rot_any (x : BitVec 32) (n : Nat) (h0 : 0 < n) (hn : n < 32) (w : World) :
    Calls Tryd.prog 50 #[vw x, .int .i64 (-(n : Int))] w fun e w' => e = .returned (vw (rr x n)) ∧ w' = w := by
  have hk := rot_count ⟨n, by omega⟩ h0 hn
  simp only at hk
  have hx := x.isLt
  unfold vw
  go_enter Tryd.func50, Tryd.ntmps50
  go_wp2_with fail
  rw [rot_or x n h0 hn]
  go_ret
  exact ⟨rfl, rfl⟩
end Go.Proofs.YtkgclhkpncegnaaDoor
