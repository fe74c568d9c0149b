/-
  What is written is read back: as plain functions.
-/
import Derived.Test.YtcgfkgkajifpbabFirstMath
import Derived.Test.YtcgfkgkajifpbabReadNum
namespace Go.Proofs.Ytcgfkgkajifpbab
open Go

theorem fnum_enc : ∀ (m N i : Nat) (rest : List UInt8), N ≤ m → (N ≠ 0 ∨ i = 0) → i + (encNum N).length ≤ 9 → fnum i (encNum N ++ rest) = some (N, (encNum N).length) := by
  intro m
  induction m with
  | zero =>
    intro N i rest hm hz hl
    have hN : N < 128 := by omega
    rw [encNum_small hN] at hl ⊢
    have hc : (UInt8.ofNat N).toNat = N := by rw [UInt8.toNat_ofNat', Nat.mod_eq_of_lt (by omega)]
    simp only [List.length_cons, List.length_nil] at hl
    rw [List.cons_append, fnum, hc, if_neg (by omega), if_pos hN, if_neg (by omega)]
    rfl
  | succ m ih =>
    intro N i rest hm hz hl
    by_cases hN : N < 128
    · rw [encNum_small hN] at hl ⊢
      have hc : (UInt8.ofNat N).toNat = N := by rw [UInt8.toNat_ofNat', Nat.mod_eq_of_lt (by omega)]
      simp only [List.length_cons, List.length_nil] at hl
      rw [List.cons_append, fnum, hc, if_neg (by omega), if_pos hN, if_neg (by omega)]
      rfl
    · rw [encNum_big hN] at hl ⊢
      have hc : (UInt8.ofNat (N % 128 + 128)).toNat = N % 128 + 128 := by rw [UInt8.toNat_ofNat', Nat.mod_eq_of_lt (by omega)]
      simp only [List.length_cons] at hl
      rw [List.cons_append, fnum, hc, if_neg (by omega), if_neg (by omega), ih (N / 128) (i + 1) rest (by omega) (by omega) (by omega)]
      have e1 : (N % 128 + 128) % 128 + 128 * (N / 128) = N := by omega
      simp only [Option.map_some, List.length_cons]
      rw [e1]
theorem first_enc (N : Nat) (rest : List UInt8) (h : N ≤ 4611686018427387904) : firstN (encNum N ++ rest) = N ∧ firstS (encNum N ++ rest) = (encNum N).length := by
  have h9 := encNum_le9 h
  have := fnum_enc N N 0 rest (Nat.le_refl _) (Or.inr rfl) (by omega)
  unfold firstN firstS
  rw [this]
  exact ⟨rfl, rfl⟩
theorem rnum_enc (N : Nat) (rest : List UInt8) (most : Int) (h : N ≤ 4611686018427387904) (hm : (N : Int) ≤ most) : rnum (encNum N ++ rest) most = some (N, rest) := by
  obtain ⟨h1, h2⟩ := first_enc N rest h
  have hp := encNum_pos N
  unfold rnum
  rw [h1, h2, if_neg (by omega), List.drop_left]
theorem rtext_enc (s : ByteArray) (rest : List UInt8) (most : Int) (h : s.size ≤ 4611686018427387904) (hm : (s.size : Int) ≤ most) : rtext (encText s ++ rest) most = some (s.data.toList, rest) := by
  unfold rtext encText
  rw [List.append_assoc, rnum_enc _ _ most h hm]
  have hl : s.data.toList.length = s.size := Array.length_toList
  simp only [List.length_append, hl]
  rw [if_pos (by omega), ← hl, List.take_left, List.drop_left]

/-- All numbers, all texts, one behind the other. -/
def encNums (l : List Int) : List UInt8 := (l.map fun n => encNum (clampN n)).flatten
def encTexts (l : List ByteArray) : List UInt8 := (l.map encText).flatten
theorem encNums_snoc (l : List Int) (k : Nat) (h : k < l.length) : encNums (l.take (k + 1)) = encNums (l.take k) ++ encNum (clampN l[k]) := by
  unfold encNums
  rw [List.take_succ_eq_append_getElem h, List.map_append, List.flatten_append]; simp
theorem encTexts_snoc (l : List ByteArray) (k : Nat) (h : k < l.length) : encTexts (l.take (k + 1)) = encTexts (l.take k) ++ encText l[k] := by
  unfold encTexts
  rw [List.take_succ_eq_append_getElem h, List.map_append, List.flatten_append]; simp
theorem encNums_drop (l : List Int) (k : Nat) (h : k < l.length) : encNums (l.drop k) = encNum (clampN l[k]) ++ encNums (l.drop (k + 1)) := by
  unfold encNums
  rw [List.drop_eq_getElem_cons h, List.map_cons, List.flatten_cons]
theorem encTexts_drop (l : List ByteArray) (k : Nat) (h : k < l.length) : encTexts (l.drop k) = encText l[k] ++ encTexts (l.drop (k + 1)) := by
  unfold encTexts
  rw [List.drop_eq_getElem_cons h, List.map_cons, List.flatten_cons]
theorem encNums_nil {l : List Int} {k : Nat} (h : l.length ≤ k) : encNums (l.drop k) = [] := by rw [List.drop_eq_nil_of_le h]; rfl
theorem encTexts_nil {l : List ByteArray} {k : Nat} (h : l.length ≤ k) : encTexts (l.drop k) = [] := by rw [List.drop_eq_nil_of_le h]; rfl
theorem encNums_len : ∀ (l : List Int), (encNums l).length ≤ 9 * l.length
  | [] => by simp [encNums]
  | n :: l => by
    have := encNums_len l
    have h9 := encNum_le9 (clampN_le n)
    have e : encNums (n :: l) = encNum (clampN n) ++ encNums l := by simp [encNums]
    rw [e, List.length_append, List.length_cons]
    omega
theorem encText_len (s : ByteArray) (h : s.size ≤ 500) : (encText s).length ≤ 509 := by
  have h9 := encNum_le9 (show s.size ≤ 4611686018427387904 by omega)
  unfold encText
  have hl : s.data.toList.length = s.size := Array.length_toList
  rw [List.length_append, hl]
  omega
theorem encTexts_len : ∀ (l : List ByteArray), (∀ s ∈ l, s.size ≤ 500) → (encTexts l).length ≤ 509 * l.length
  | [], _ => by simp [encTexts]
  | s :: l, h => by
    have := encTexts_len l (fun t ht => h t (by simp [ht]))
    have h9 := encText_len s (h s (by simp))
    have e : encTexts (s :: l) = encText s ++ encTexts l := by simp [encTexts]
    rw [e, List.length_append, List.length_cons]
    omega
/-- The bytes with the last κ cut off and 2κ noughts behind. -/
theorem cut_bytes (LT idl : List UInt8) (κ : Nat) (h : idl.length = 32) (hκ : κ ≤ 1) :
    (LT ++ idl).take ((LT ++ idl).length - κ) ++ List.replicate (2 * κ) 0 = LT ++ (idl.take (32 - κ) ++ List.replicate (2 * κ) 0) := by
  rw [List.length_append, h, List.take_append, List.take_of_length_le (show LT.length ≤ LT.length + 32 - κ by omega), show LT.length + 32 - κ - LT.length = 32 - κ by omega, List.append_assoc]
theorem rnum_drop (l : List Int) (T : List UInt8) (k : Nat) (h : k < l.length) : rnum (encNums (l.drop k) ++ T) 4611686018427387904 = some (clampN l[k], encNums (l.drop (k + 1)) ++ T) := by
  rw [encNums_drop l k h, List.append_assoc]
  exact rnum_enc _ _ _ (clampN_le _) (by have := clampN_le l[k]; omega)
theorem rtext_drop (l : List ByteArray) (T : List UInt8) (k : Nat) (h : k < l.length) (h5 : l[k].size ≤ 500) : rtext (encTexts (l.drop k) ++ T) 500 = some (l[k].data.toList, encTexts (l.drop (k + 1)) ++ T) := by
  rw [encTexts_drop l k h, List.append_assoc]
  exact rtext_enc _ _ _ (by omega) (by omega)
theorem if_clamp (z : Int) : (if 4611686018427387904 < (if z < 0 then 0 else z) then 4611686018427387904 else if z < 0 then 0 else z) = clampI z := by
  unfold clampI
  split <;> split <;> omega
open Go.RowKit in
theorem rtext_str (R Q : Nat) (l : List UInt8) (f : Bool) (most : Int) (z : ByteArray) (l' : List UInt8) (w : World) (h : Reads w R Q l f) (hn : rtext l most = some (z.data.toList, l')) :
    Calls Try.prog 26 #[.pointer (some ⟨R, 0, none⟩), .int .i64 most] w (ReadOn R Q (.string z) l' f w) := by
  have := rtext_some R Q l f most _ l' w h hn
  rwa [show (⟨z.data.toList.toArray⟩ : ByteArray) = z by simp] at this
theorem last_cut (L idl : List UInt8) (h : idl.length = 32) : (L ++ idl).take ((L ++ idl).length - 1) = L ++ idl.take 31 := by
  rw [List.length_append, h, List.take_append, List.take_of_length_le (show L.length ≤ L.length + 32 - 1 by omega), show L.length + 32 - 1 - L.length = 31 by omega]
theorem tail_zero (idl : List UInt8) (κ : Nat) (h : idl.length = 32) (hk : κ = 0) : (idl.take (32 - κ) ++ List.replicate (2 * κ) 0).take 32 = idl := by
  subst hk
  rw [Nat.sub_zero, Nat.mul_zero, List.replicate_zero, List.append_nil, List.take_take, List.take_of_length_le (by omega)]
end Go.Proofs.Ytcgfkgkajifpbab
