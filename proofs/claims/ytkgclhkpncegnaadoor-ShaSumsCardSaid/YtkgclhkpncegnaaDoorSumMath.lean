/-
  The sum of bytes, as a function; the schedule as a list, to be evaluated.
-/
import Derived.Test.YtkgclhkpncegnaaDoorStateId
namespace Go.Proofs.YtkgclhkpncegnaaDoor
open Go.RowKit
set_option linter.unusedSimpArgs false
set_option linter.unusedVariables false

/-- How many zero bytes stand behind the mark. -/
def padLen (r : Nat) : Nat := (119 - r % 64) % 64
/-- The number of bits, the most significant byte first. -/
def lenBytes (n : Nat) : List UInt8 := (List.range 8).map fun i => UInt8.ofNat (8 * n % 2 ^ 64 / 2 ^ (8 * (7 - i)))
/-- What follows the whole blocks. -/
def lastL (rest : List UInt8) (n : Nat) : List UInt8 := rest ++ (128 :: (List.replicate (padLen rest.length) 0 ++ lenBytes n))
/-- How many blocks that makes. -/
def lastN (r : Nat) : Nat := if r < 56 then 1 else 2
theorem lenBytes_length (n : Nat) : (lenBytes n).length = 8 := by simp [lenBytes]
theorem lastL_length (rest : List UInt8) (n : Nat) (h : rest.length < 64) : (lastL rest n).length = 64 * lastN rest.length := by
  unfold lastL lastN padLen
  rw [List.length_append, List.length_cons, List.length_append, List.length_replicate, lenBytes_length]
  split <;> omega
/-- The sum of bytes. -/
def sumL (l : List UInt8) : List UInt8 :=
  idOf (blocksS (lastL (l.drop (64 * (l.length / 64))) l.length) (blocksS (l.take (64 * (l.length / 64))) startS (l.length / 64)) (lastN (l.length % 64)))

/-- The words of the rounds, the newest first. -/
def schStep (l : List UInt8) (k : Nat) (p : List (BitVec 32)) : List (BitVec 32) :=
  (if k < 16 then wordAt l k else shiftB (p.getD 1 0) 17 19 10 + p.getD 6 0 + shiftB (p.getD 14 0) 7 18 3 + p.getD 15 0) :: p
def schRev (l : List UInt8) : Nat → List (BitVec 32)
  | 0 => []
  | k + 1 => schStep l k (schRev l k)
theorem schRev_get (l : List UInt8) : ∀ k j, j < k → (schRev l k).getD j 0 = sch l (k - 1 - j) := by
  intro k
  induction k with
  | zero => intro j h; omega
  | succ k ih =>
    intro j h
    cases j with
    | zero =>
      rw [schRev, schStep, List.getD_cons_zero]
      by_cases hk : k < 16
      · rw [if_pos hk, sch_low _ _ (by omega)]
        rfl
      · obtain ⟨m, rfl⟩ : ∃ m, k = m + 16 := ⟨k - 16, by omega⟩
        rw [if_neg hk, ih 1 (by omega), ih 6 (by omega), ih 14 (by omega), ih 15 (by omega), show m + 16 + 1 - 1 - 0 = m + 16 by omega, sch_high,
          show m + 16 - 1 - 1 = m + 14 by omega, show m + 16 - 1 - 6 = m + 9 by omega, show m + 16 - 1 - 14 = m + 1 by omega, show m + 16 - 1 - 15 = m by omega]
    | succ j =>
      rw [schRev, schStep, List.getD_cons_succ, ih j (by omega)]
      congr 1
      omega
/-- The rounds over a list of words, the newest first. -/
def roundsT (t : List (BitVec 32)) (s : St) : Nat → St
  | 0 => s
  | i + 1 => roundS (roundsT t s i) (keyAt i) (t.getD (63 - i) 0)
theorem roundsT_eq (l : List UInt8) (s : St) : ∀ i, i ≤ 64 → roundsT (schRev l 64) s i = roundsS l s i := by
  intro i
  induction i with
  | zero => intro _; rfl
  | succ i ih =>
    intro h
    rw [roundsT, roundsS, ih (by omega), schRev_get l 64 (63 - i) (by omega), show 64 - 1 - (63 - i) = i by omega]
def blockE (l : List UInt8) (s : St) : St := addS (roundsT (schRev l 64) s 64) s
theorem blockE_eq (l : List UInt8) (s : St) : blockE l s = blockS l s := by
  rw [blockE, blockS, roundsT_eq l s 64 (Nat.le_refl _)]
def blocksE (l : List UInt8) (s : St) : Nat → St
  | 0 => s
  | i + 1 => blockE ((l.drop (64 * i)).take 64) (blocksE l s i)
theorem blocksE_eq (l : List UInt8) (s : St) (n : Nat) : blocksE l s n = blocksS l s n := by
  induction n with
  | zero => rfl
  | succ n ih => rw [blocksE, blocksS, blockE_eq, ih]
def sumE (l : List UInt8) : List UInt8 :=
  idOf (blocksE (lastL (l.drop (64 * (l.length / 64))) l.length) (blocksE (l.take (64 * (l.length / 64))) startS (l.length / 64)) (lastN (l.length % 64)))
theorem sumE_eq (l : List UInt8) : sumE l = sumL l := by rw [sumE, sumL, blocksE_eq, blocksE_eq]
/-- The sum of "abc", by the kernel. -/
theorem sum_abc : sumL [97, 98, 99] = [0xba, 0x78, 0x16, 0xbf, 0x8f, 0x01, 0xcf, 0xea, 0x41, 0x41, 0x40, 0xde, 0x5d, 0xae, 0x22, 0x23, 0xb0, 0x03, 0x61, 0xa3, 0x96, 0x17, 0x7a, 0x9c, 0xb4, 0x10, 0xff, 0x61, 0xf2, 0x00, 0x15, 0xad] := by
  rw [← sumE_eq]
  decide +kernel
end Go.Proofs.YtkgclhkpncegnaaDoor
