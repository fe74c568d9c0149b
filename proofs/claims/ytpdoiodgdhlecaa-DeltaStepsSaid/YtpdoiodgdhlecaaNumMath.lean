/-
  The encoding of numbers as a plain function.
-/
import Derived.Test.YtpdoiodgdhlecaaBase
import Derived.Laws.BitsAllLaws
namespace Go.Proofs.Ytpdoiodgdhlecaa
open Go

/-- The bytes of a number: groups of 7 bits, the lowest first, 128 added to all but the last. -/
def encNum (n : Nat) : List UInt8 :=
  if n < 128 then [UInt8.ofNat n] else UInt8.ofNat (n % 128 + 128) :: encNum (n / 128)
termination_by n
decreasing_by omega
theorem encNum_small {n : Nat} (h : n < 128) : encNum n = [UInt8.ofNat n] := by rw [encNum, if_pos h]
theorem encNum_big {n : Nat} (h : ¬ n < 128) : encNum n = UInt8.ofNat (n % 128 + 128) :: encNum (n / 128) := by rw [encNum, if_neg h]
theorem encNum_length_le : ∀ (k n : Nat), n < 128 ^ (k + 1) → (encNum n).length ≤ k + 1 := by
  intro k
  induction k with
  | zero => intro n h; rw [encNum_small (by simpa using h)]; simp
  | succ k ih =>
    intro n h
    by_cases hn : n < 128
    · rw [encNum_small hn]; simp
    · rw [encNum_big hn]
      have h2 : n / 128 < 128 ^ (k + 1) := by
        rw [Nat.div_lt_iff_lt_mul (by omega)]
        rwa [Nat.pow_succ] at h
      have := ih _ h2
      simp; omega
theorem encNum_pos (n : Nat) : 1 ≤ (encNum n).length := by
  by_cases hn : n < 128
  · rw [encNum_small hn]; simp
  · rw [encNum_big hn]; simp
theorem encNum_le9 {n : Nat} (h : n ≤ 4611686018427387904) : (encNum n).length ≤ 9 := encNum_length_le 8 n (by simp; omega)

theorem encNum_mono : ∀ (k a b : Nat), a ≤ k → a ≤ b → (encNum a).length ≤ (encNum b).length := by
  intro k
  induction k with
  | zero => intro a b h _; rw [encNum_small (by omega)]; exact encNum_pos b
  | succ k ih =>
    intro a b h hab
    by_cases ha : a < 128
    · rw [encNum_small ha]; exact encNum_pos b
    · rw [encNum_big ha, encNum_big (show ¬ b < 128 by omega)]
      have := ih (a / 128) (b / 128) (by omega) (by omega)
      simp; omega
theorem ofNat_u8_inj {a b : Nat} (ha : a < 256) (hb : b < 256) (h : UInt8.ofNat a = UInt8.ofNat b) : a = b := by
  have := congrArg UInt8.toNat h
  rw [UInt8.toNat_ofNat', UInt8.toNat_ofNat'] at this
  omega
theorem encNum_inj : ∀ (k a b : Nat), a ≤ k → encNum a = encNum b → a = b := by
  intro k
  induction k with
  | zero =>
    intro a b h he
    rw [encNum_small (show a < 128 by omega)] at he
    by_cases hb : b < 128
    · rw [encNum_small hb] at he
      exact ofNat_u8_inj (by omega) (by omega) (List.cons.inj he).1
    · rw [encNum_big hb] at he
      have := congrArg List.length he
      have hp := encNum_pos (b / 128)
      simp only [List.length_cons, List.length_nil] at this; omega
  | succ k ih =>
    intro a b h he
    by_cases ha : a < 128
    · rw [encNum_small ha] at he
      by_cases hb : b < 128
      · rw [encNum_small hb] at he
        exact ofNat_u8_inj (by omega) (by omega) (List.cons.inj he).1
      · rw [encNum_big hb] at he
        have := congrArg List.length he
        have hp := encNum_pos (b / 128)
        simp only [List.length_cons, List.length_nil] at this; omega
    · rw [encNum_big ha] at he
      by_cases hb : b < 128
      · rw [encNum_small hb] at he
        have := congrArg List.length he
        have hp := encNum_pos (a / 128)
        simp only [List.length_cons, List.length_nil] at this; omega
      · rw [encNum_big hb] at he
        have h1 := ofNat_u8_inj (by omega) (by omega) (List.cons.inj he).1
        have h2 := ih _ _ (by omega) (List.cons.inj he).2
        omega
/-- A number as it counts: at least 0, at most 2^62. -/
def clampI (n : Int) : Int := min (max n 0) 4611686018427387904
def clampN (n : Int) : Nat := (clampI n).toNat
theorem clampI_bounds (n : Int) : 0 ≤ clampI n ∧ clampI n ≤ 4611686018427387904 := by unfold clampI; omega
theorem clampN_cast (n : Int) : ((clampN n : Nat) : Int) = clampI n := by have := clampI_bounds n; unfold clampN; omega
theorem clampN_le (n : Int) : clampN n ≤ 4611686018427387904 := by have := clampI_bounds n; unfold clampN; omega
theorem clampN_nat (n : Nat) (h : n ≤ 4611686018427387904) : clampN (n : Int) = n := by unfold clampN clampI; omega
/-- The bytes of a text. -/
def encText (s : ByteArray) : List UInt8 := encNum s.size ++ s.data.toList
theorem and127 (m : Nat) (h : m < 9223372036854775808) : bits .and .i64 (m : Int) 127 = ((m % 128 : Nat) : Int) := by
  have h1 : (BitVec.ofInt 64 (m : Int)).toNat = m := by
    rw [BitVec.ofInt_natCast, BitVec.toNat_ofNat]; exact Nat.mod_eq_of_lt (by omega)
  have h2 : (BitVec.ofInt 64 127).toNat = 127 := by decide
  show IntKind.i64.wrap ((BitVec.ofInt 64 (m : Int) &&& BitVec.ofInt 64 127).toNat : Int) = _
  rw [BitVec.toNat_and, h1, h2, show (127 : Nat) = 2 ^ 7 - 1 from rfl, Nat.and_two_pow_sub_one_eq_mod]
  exact IntWalk.i64_in _ (by omega)
theorem or128 (k : Nat) (h : k < 128) : bits .or .u8 (k : Int) 128 = ((UInt8.ofNat (k + 128)).toNat : Int) := by
  have := u8_or_nat k 128 (by omega) (by omega)
  rw [show (128 : Nat) = 2 ^ 7 * 1 from rfl, Nat.or_comm, ← Nat.two_pow_add_eq_or_of_lt (by omega)] at this
  rw [UInt8.toNat_ofNat', Nat.mod_eq_of_lt (by omega)]
  rw [show (2 ^ 7 * 1 + k : Nat) = k + 128 by omega] at this
  exact this
end Go.Proofs.Ytpdoiodgdhlecaa
