/-
  The walks of sha.digitValue and the reference's unhex.
-/
import Derived.Test.YtkgclhkpncegnaaDoorHexMath
namespace Go.Proofs.YtkgclhkpncegnaaDoor
open Go.RowKit

def unh (n : Nat) : Option Nat := if 48 ≤ n ∧ n ≤ 57 then some (n - 48) else if 97 ≤ n ∧ n ≤ 102 then some (n - 87) else none
theorem unh_lt {n v : Nat} (h : unh n = some v) : v < 16 := by
  unfold unh at h
  split at h
  · injection h with h; omega
  · split at h
    · injection h with h; omega
    · cases h

set_option maxRecDepth 100000 in
theorem digit_any (r : Nat) (hr : r ≤ 2147483647) (w : World) :
    Calls Tryd.prog 40 #[.int .i32 (r : Int)] w fun e w' => e = .returned (.tuple #[.int .u8 (((unh r).getD 0 : Nat) : Int), .bool (unh r).isSome]) ∧ w = w' := by
  by_cases h1 : 48 ≤ r
  · by_cases h2 : r ≤ 57
    · have e : unh r = some (r - 48) := by unfold unh; rw [if_pos ⟨h1, h2⟩]
      rw [e]
      have e2 : (((some (r - 48)).getD 0 : Nat) : Int) = (r : Int) - 48 := by simp; omega
      rw [e2]
      clear e e2
      go_enter Tryd.func40, Tryd.ntmps40
      go_wp2
      go_ret2
      simp
    · by_cases h3 : 97 ≤ r
      · by_cases h4 : r ≤ 102
        · have e : unh r = some (r - 87) := by unfold unh; rw [if_neg (by omega), if_pos ⟨h3, h4⟩]
          rw [e]
          have e2 : (((some (r - 87)).getD 0 : Nat) : Int) = (r : Int) - 87 := by simp; omega
          rw [e2]
          clear e e2
          go_enter Tryd.func40, Tryd.ntmps40
          go_wp2
          go_ret2
          simp
          try omega
        · have e : unh r = none := by unfold unh; rw [if_neg (by omega), if_neg (by omega)]
          rw [e]
          clear e
          go_enter Tryd.func40, Tryd.ntmps40
          go_wp2
          go_ret2
          simp
      · have e : unh r = none := by unfold unh; rw [if_neg (by omega), if_neg (by omega)]
        rw [e]
        clear e
        go_enter Tryd.func40, Tryd.ntmps40
        go_wp2
        go_ret2
        simp
  · have e : unh r = none := by unfold unh; rw [if_neg (by omega), if_neg (by omega)]
    rw [e]
    clear e
    go_enter Tryd.func40, Tryd.ntmps40
    go_wp2
    go_ret2
    simp

/-- The reference's digit: -1 of none. -/
def unhI (n : Nat) : Int := match unh n with | some v => v | none => -1
theorem unhI_some {n v : Nat} (h : unh n = some v) : unhI n = v := by unfold unhI; rw [h]
theorem unhI_none {n : Nat} (h : unh n = none) : unhI n = -1 := by unfold unhI; rw [h]
end Go.Proofs.YtkgclhkpncegnaaDoor
