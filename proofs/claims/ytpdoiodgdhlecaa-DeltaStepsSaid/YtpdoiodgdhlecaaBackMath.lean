/-
  What is written is read back: a number.
-/
import Derived.Test.YtpdoiodgdhlecaaFirstMath
import Derived.Test.YtpdoiodgdhlecaaDeltaMath
namespace Go.Proofs.Ytpdoiodgdhlecaa
open Go

theorem fnum_enc : ∀ (m N i : Nat) (rest : List UInt8), N ≤ m → (N ≠ 0 ∨ i = 0) → i + (encNum N).length ≤ 9 → fnum i (encNum N ++ rest) = some (N, (encNum N).length) := by
  intro m
  induction m with
  | zero =>
    intro N i rest hm hz hl
    have hN : N < 128 := by omega
    rw [encNum_small hN] at hl ⊢
    have hc : (UInt8.ofNat N).toNat = N := by rw [UInt8.toNat_ofNat', Nat.mod_eq_of_lt (by omega)]
    simp only [List.length_cons, List.length_nil] at hl
    rw [List.cons_append, fnum, hc, if_neg (by omega), if_pos hN, if_neg (by omega)]
    rfl
  | succ m ih =>
    intro N i rest hm hz hl
    by_cases hN : N < 128
    · rw [encNum_small hN] at hl ⊢
      have hc : (UInt8.ofNat N).toNat = N := by rw [UInt8.toNat_ofNat', Nat.mod_eq_of_lt (by omega)]
      simp only [List.length_cons, List.length_nil] at hl
      rw [List.cons_append, fnum, hc, if_neg (by omega), if_pos hN, if_neg (by omega)]
      rfl
    · rw [encNum_big hN] at hl ⊢
      have hc : (UInt8.ofNat (N % 128 + 128)).toNat = N % 128 + 128 := by rw [UInt8.toNat_ofNat', Nat.mod_eq_of_lt (by omega)]
      simp only [List.length_cons] at hl
      rw [List.cons_append, fnum, hc, if_neg (by omega), if_neg (by omega), ih (N / 128) (i + 1) rest (by omega) (by omega) (by omega)]
      have e1 : (N % 128 + 128) % 128 + 128 * (N / 128) = N := by omega
      simp only [Option.map_some, List.length_cons]
      rw [e1]
theorem first_enc (N : Nat) (rest : List UInt8) (h : N ≤ 4611686018427387904) : firstN (encNum N ++ rest) = N ∧ firstS (encNum N ++ rest) = (encNum N).length := by
  have h9 := encNum_le9 h
  have := fnum_enc N N 0 rest (Nat.le_refl _) (Or.inr rfl) (by omega)
  unfold firstN firstS
  rw [this]
  exact ⟨rfl, rfl⟩
theorem rnum_enc (N : Nat) (rest : List UInt8) (most : Int) (h : N ≤ 4611686018427387904) (hm : (N : Int) ≤ most) : rnum (encNum N ++ rest) most = some (N, rest) := by
  obtain ⟨h1, h2⟩ := first_enc N rest h
  have hp := encNum_pos N
  unfold rnum
  rw [h1, h2, if_neg (by omega), List.drop_left]
end Go.Proofs.Ytpdoiodgdhlecaa
