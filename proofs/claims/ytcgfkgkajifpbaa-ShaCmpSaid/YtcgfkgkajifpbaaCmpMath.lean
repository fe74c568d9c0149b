/-
  The order of bytes, and of their digits: as plain functions.
-/
import Derived.Test.YtcgfkgkajifpbaaHexMath
import Derived.Lib.Bytealg
namespace Go.Proofs.Ytcgfkgkajifpbaa
open Go Go.Lib

theorem cmp_range : ∀ l m : List UInt8, compareBytes l m = -1 ∨ compareBytes l m = 0 ∨ compareBytes l m = 1
  | [], [] => Or.inr (Or.inl rfl)
  | [], _ :: _ => Or.inl rfl
  | _ :: _, [] => Or.inr (Or.inr rfl)
  | a :: l, b :: m => by
    unfold compareBytes
    split
    · exact Or.inl rfl
    · split
      · exact Or.inr (Or.inr rfl)
      · exact cmp_range l m
theorem cmp_zero : ∀ l m : List UInt8, compareBytes l m = 0 ↔ l = m
  | [], [] => by simp [compareBytes]
  | [], _ :: _ => by simp [compareBytes]
  | _ :: _, [] => by simp [compareBytes]
  | a :: l, b :: m => by
    unfold compareBytes
    have ih := cmp_zero l m
    split
    · rename_i h
      constructor
      · intro h2; omega
      · intro h2
        injection h2 with h3 _
        subst h3
        exact absurd h (UInt8.lt_irrefl a)
    · split
      · rename_i h
        constructor
        · intro h2; omega
        · intro h2
          injection h2 with h3 _
          subst h3
          exact absurd h (UInt8.lt_irrefl a)
      · rename_i h1 h2
        have he : a = b := by
          apply UInt8.toNat_inj.1
          rw [UInt8.lt_iff_toNat_lt] at h1 h2
          omega
        rw [ih, he]
        simp
theorem cmp_swap : ∀ l m : List UInt8, compareBytes m l = - compareBytes l m
  | [], [] => rfl
  | [], _ :: _ => rfl
  | _ :: _, [] => rfl
  | a :: l, b :: m => by
    unfold compareBytes
    have ih := cmp_swap l m
    by_cases h1 : a < b
    · have h2 : ¬ b < a := by rw [UInt8.lt_iff_toNat_lt] at h1 ⊢; omega
      rw [if_neg h2, if_pos h1, if_pos h1]
      rfl
    · by_cases h2 : b < a
      · rw [if_pos h2, if_neg h1, if_pos h2]
      · rw [if_neg h2, if_neg h1, if_neg h1, if_neg h2, ih]
theorem less_cmp : ∀ l m : List UInt8, Op.bytesLess l m = decide (compareBytes l m < 0)
  | [], [] => by simp [compareBytes, Op.bytesLess]
  | [], _ :: _ => by simp [compareBytes, Op.bytesLess]
  | _ :: _, [] => by simp [compareBytes, Op.bytesLess]
  | a :: l, b :: m => by
    unfold compareBytes Op.bytesLess
    rw [less_cmp l m]
    by_cases h1 : a < b
    · rw [if_pos h1]
      simp [h1]
    · rw [if_neg h1]
      by_cases h2 : b < a
      · rw [if_pos h2]
        have h3 : a ≠ b := fun e => by subst e; exact UInt8.lt_irrefl _ h2
        simp [h1, h3]
      · rw [if_neg h2]
        have he : a = b := by
          apply UInt8.toNat_inj.1
          rw [UInt8.lt_iff_toNat_lt] at h1 h2
          omega
        subst he
        simp
theorem dig_lt (p q : Nat) (hp : p < 16) (hq : q < 16) : dig p < dig q ↔ p < q := by
  have : ∀ p q : Fin 16, dig p.1 < dig q.1 ↔ p.1 < q.1 := by decide
  exact this ⟨p, hp⟩ ⟨q, hq⟩
theorem cmp_cons (a b : UInt8) (l m : List UInt8) : compareBytes (a :: l) (b :: m) = if a < b then -1 else if b < a then 1 else compareBytes l m := by rw [compareBytes]
theorem cmp_hex : ∀ l m : List UInt8, l.length = m.length → compareBytes (hexL l) (hexL m) = compareBytes l m
  | [], [], _ => rfl
  | [], _ :: _, h => by simp at h
  | _ :: _, [], h => by simp at h
  | a :: l, b :: m, h => by
    have ih := cmp_hex l m (by simpa using h)
    have ha := a.toNat_lt
    have hb := b.toNat_lt
    rw [hexL, hexL, cmp_cons, cmp_cons, ih, cmp_cons]
    simp only [dig_lt _ _ (show a.toNat / 16 < 16 by omega) (show b.toNat / 16 < 16 by omega), dig_lt _ _ (show b.toNat / 16 < 16 by omega) (show a.toNat / 16 < 16 by omega), dig_lt _ _ (show a.toNat % 16 < 16 by omega) (show b.toNat % 16 < 16 by omega), dig_lt _ _ (show b.toNat % 16 < 16 by omega) (show a.toNat % 16 < 16 by omega), UInt8.lt_iff_toNat_lt]
    repeat' split
    all_goals first | rfl | omega
/-- Behind k equal bytes. -/
theorem cmp_drop (l m : List UInt8) (k : Nat) (hl : k < l.length) (hm : k < m.length) : compareBytes (l.drop k) (m.drop k) = if l[k] < m[k] then -1 else if m[k] < l[k] then 1 else compareBytes (l.drop (k + 1)) (m.drop (k + 1)) := by
  rw [List.drop_eq_getElem_cons hl, List.drop_eq_getElem_cons hm]
  rw [compareBytes]
end Go.Proofs.Ytcgfkgkajifpbaa
