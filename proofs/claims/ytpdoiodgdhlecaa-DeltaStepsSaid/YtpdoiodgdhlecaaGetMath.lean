/-
  The reference's reading of a number: as plain functions.
-/
import Derived.Test.YtpdoiodgdhlecaaFirstMath
namespace Go.Proofs.Ytpdoiodgdhlecaa
open Go

theorem rnum_none_of (l : List UInt8) (most : Int) (h : firstS l = 0 ∨ most < (firstN l : Int) ∨ 4611686018427387904 < firstN l) : rnum l most = none := by
  unfold rnum
  rw [if_pos h]
theorem pow128 (k : Nat) (h : k ≤ 8) : 128 ^ k ≤ 72057594037927936 ∧ (k ≤ 7 → 128 ^ k ≤ 562949953421312) := by
  have : ∀ k : Fin 9, 128 ^ k.1 ≤ 72057594037927936 ∧ (k.1 ≤ 7 → 128 ^ k.1 ≤ 562949953421312) := by decide
  exact this ⟨k, by omega⟩
theorem get_step (l : List UInt8) (k : Nat) (h : k < l.length) (hk : k ≤ 8) (hg : k = 8 → l[k].toNat % 128 ≤ 64) :
    valOf (l.take (k + 1)) = valOf (l.take k) + l[k].toNat % 128 * 128 ^ k ∧ valOf (l.take k) < 128 ^ k ∧ l[k].toNat % 128 * 128 ^ k ≤ 4611686018427387904 ∧ valOf (l.take k) ≤ 72057594037927936 := by
  have h1 : valOf (l.take (k + 1)) = valOf (l.take k) + l[k].toNat % 128 * 128 ^ k := by
    rw [List.take_succ_eq_append_getElem h, valOf_snoc, List.length_take, Nat.min_eq_left (by omega)]
  have h2 : valOf (l.take k) < 128 ^ k := by
    have := valOf_lt (l.take k)
    rwa [List.length_take, Nat.min_eq_left (by omega)] at this
  obtain ⟨p1, p2⟩ := pow128 k hk
  refine ⟨h1, h2, ?_, by omega⟩
  by_cases h8 : k = 8
  · have := hg h8
    have h3 : l[k].toNat % 128 * 128 ^ k ≤ 64 * 128 ^ k := Nat.mul_le_mul_right _ this
    omega
  · have := p2 (by omega)
    have h3 : l[k].toNat % 128 * 128 ^ k ≤ 127 * 128 ^ k := Nat.mul_le_mul_right _ (by omega)
    omega
theorem get_high (l : List UInt8) (most : Int) (h : 8 < l.length) (hall : ∀ j, (h : j < l.length) → j < 8 → 128 ≤ l[j].toNat) (hg : 64 < l[8].toNat % 128) : rnum l most = none := by
  apply rnum_none_of
  by_cases hc : l[8].toNat < 128
  · obtain ⟨_, h2⟩ := first_found h (by omega) hall hc
    obtain ⟨h3, _⟩ := h2 (by omega)
    right; right
    rw [h3, List.take_succ_eq_append_getElem h, valOf_snoc, List.length_take, Nat.min_eq_left (by omega)]
    have e : (128 : Nat) ^ 8 = 72057594037927936 := by decide
    have h4 : 65 * 128 ^ 8 ≤ l[8].toNat % 128 * 128 ^ 8 := Nat.mul_le_mul_right _ (by omega)
    omega
  · left
    exact (first_none (k := 9) (l := l) (by omega) (fun j hj hlt => by
      rcases Nat.lt_or_ge j 8 with h1 | h1
      · exact hall j hj h1
      · obtain rfl : j = 8 := by omega
        omega) (by omega)).2
theorem get_found (l : List UInt8) (most : Int) (k : Nat) (h : k < l.length) (hk : k < 9) (hall : ∀ j, (h : j < l.length) → j < k → 128 ≤ l[j].toNat) (hc : l[k].toNat < 128) :
    rnum l most = if (l[k].toNat = 0 ∧ 0 < k) ∨ 4611686018427387904 < valOf (l.take (k + 1)) ∨ most < (valOf (l.take (k + 1)) : Int) then none else some (valOf (l.take (k + 1)), l.drop (k + 1)) := by
  obtain ⟨h1, h2⟩ := first_found h hk hall hc
  by_cases hz : l[k].toNat = 0 ∧ 0 < k
  · rw [if_pos (Or.inl hz)]
    exact rnum_none_of _ _ (Or.inl (h1 hz).2)
  · obtain ⟨h3, h4⟩ := h2 hz
    unfold rnum
    rw [h3, h4]
    by_cases hb : 4611686018427387904 < valOf (l.take (k + 1)) ∨ most < (valOf (l.take (k + 1)) : Int)
    · rw [if_pos (Or.inr hb), if_pos (by omega)]
    · rw [if_neg (by omega), if_neg (by omega)]
theorem get_end (l : List UInt8) (most : Int) (k : Nat) (hk : k ≤ l.length) (hall : ∀ j, (h : j < l.length) → j < k → 128 ≤ l[j].toNat) (h : k = min l.length 9) : rnum l most = none :=
  rnum_none_of _ _ (Or.inl (first_none hk hall h).2)
end Go.Proofs.Ytpdoiodgdhlecaa
