/-
  The walk of the reference's Sum: its loops.
-/
import Derived.Test.YtkgclhkpncegnaaDoorRefMath
import Derived.Test.YtkgclhkpncegnaaDoorPair
namespace Go.Proofs.YtkgclhkpncegnaaDoor
open Go.RowKit
set_option linter.unusedSimpArgs false
set_option linter.unusedVariables false

/-- The bodies of the loops of a text, in their order. -/
def loopsOf : Code → List Code
  | .loop c => c :: loopsOf c
  | .seq a b => loopsOf a ++ loopsOf b
  | .block _ c => loopsOf c
  | .scope c => loopsOf c
  | .cond _ a b => loopsOf a ++ loopsOf b
  | _ => []
/-- The i-th loop of the reference's Sum. -/
noncomputable def sumLoop (i : Nat) : Code := (loopsOf ((Tryd.f10.body).getD .skip)).getD i .skip

theorem wp_outer {P : Program} {c : Code} {n : Nat} {K : Act → World → Prop} {a : Act} {w : World} (Q' : Exit → Act → World → Prop) (h : Code.wp P c (Exit.inBlock n (Exit.then K (fun _ _ _ => False))) a w) :
    Code.wp P c (Exit.inBlock n (Exit.then K Q')) a w :=
  Code.wp_mono (fun e a w hq => by
    cases e with
    | normal => exact hq
    | exit i =>
      by_cases hi : i = n
      · subst hi
        simp only [Exit.inBlock, if_true] at hq ⊢
        exact hq
      · simp only [Exit.inBlock, if_neg hi] at hq
        exact hq.elim
    | _ => exact hq.elim) h
theorem word_plus (x0 x1 x2 x3 : UInt8) : ((x0.toNat : Int) * 16777216 + (x1.toNat : Int) * 65536 + (x2.toNat : Int) * 256 + (x3.toNat : Int)) = ((wordB x0 x1 x2 x3).toNat : Int) := by
  have h0 := x0.toNat_lt
  have h1 := x1.toNat_lt
  have h2 := x2.toNat_lt
  have h3 := x3.toNat_lt
  have e : (wordB x0 x1 x2 x3).toNat = x0.toNat * 16777216 + x1.toNat * 65536 + x2.toNat * 256 + x3.toNat := by
    unfold wordB
    rw [BitVec.toNat_or, BitVec.toNat_or, BitVec.toNat_or, BitVec.toNat_shiftLeft, BitVec.toNat_shiftLeft, BitVec.toNat_shiftLeft, BitVec.toNat_ofNat, BitVec.toNat_ofNat, BitVec.toNat_ofNat, BitVec.toNat_ofNat]
    rw [Nat.mod_eq_of_lt (a := x0.toNat) (by omega), Nat.mod_eq_of_lt (a := x1.toNat) (by omega), Nat.mod_eq_of_lt (a := x2.toNat) (by omega), Nat.mod_eq_of_lt (a := x3.toNat) (by omega)]
    have m0 : x0.toNat <<< 24 % 2 ^ 32 = x0.toNat <<< 24 := by rw [Nat.shiftLeft_eq]; exact Nat.mod_eq_of_lt (by omega)
    have m1 : x1.toNat <<< 16 % 2 ^ 32 = x1.toNat * 2 ^ 16 := by rw [Nat.shiftLeft_eq]; exact Nat.mod_eq_of_lt (by omega)
    have m2 : x2.toNat <<< 8 % 2 ^ 32 = x2.toNat * 2 ^ 8 := by rw [Nat.shiftLeft_eq]; exact Nat.mod_eq_of_lt (by omega)
    have s1 : x0.toNat <<< 24 + x1.toNat * 2 ^ 16 = (x0.toNat * 256 + x1.toNat) <<< 16 := by simp only [Nat.shiftLeft_eq]; omega
    have s2 : (x0.toNat * 256 + x1.toNat) <<< 16 + x2.toNat * 2 ^ 8 = ((x0.toNat * 256 + x1.toNat) * 256 + x2.toNat) <<< 8 := by simp only [Nat.shiftLeft_eq]; omega
    have s3 : ((x0.toNat * 256 + x1.toNat) * 256 + x2.toNat) <<< 8 + x3.toNat = x0.toNat * 16777216 + x1.toNat * 65536 + x2.toNat * 256 + x3.toNat := by simp only [Nat.shiftLeft_eq]; omega
    rw [m0, m1, m2, ← Nat.shiftLeft_add_eq_or_of_lt (by omega : x1.toNat * 2 ^ 16 < 2 ^ 24), s1, ← Nat.shiftLeft_add_eq_or_of_lt (by omega : x2.toNat * 2 ^ 8 < 2 ^ 16), s2, ← Nat.shiftLeft_add_eq_or_of_lt (by omega : x3.toNat < 2 ^ 8), s3]
  rw [e]
  omega

end Go.Proofs.YtkgclhkpncegnaaDoor
