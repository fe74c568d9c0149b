/-
  What the reference's Tables comes to, without worlds.
-/
import Derived.Test.YtkgclhkpncegnaaDoorRefMath
namespace Go.Proofs.YtkgclhkpncegnaaDoor

/-- Is a number a prime: no number from 2 on below it divides it. -/
def isPr (n : Nat) : Bool := decide (∀ j, j < n → 2 ≤ j → n % j ≠ 0) && decide (1 < n)
/-- The primes below a number. -/
def prs : Nat → List Nat
  | 0 => []
  | i + 1 => if isPr i then prs i ++ [i] else prs i
theorem prs_le : ∀ {i j : Nat}, i ≤ j → (prs i).length ≤ (prs j).length
  | i, 0, h => by obtain rfl : i = 0 := by omega
                  exact Nat.le_refl _
  | i, j + 1, h => by
    by_cases he : i = j + 1
    · rw [he]; exact Nat.le_refl _
    · have h1 := prs_le (i := i) (j := j) (by omega)
      rw [prs]
      split
      · rw [List.length_append]; omega
      · exact h1
theorem prs311 : (prs 311).length = 63 := by decide +kernel
theorem prs312 : (prs 312).length = 64 := by decide +kernel
theorem prs_less {i : Nat} (h : (prs i).length < 64) : i ≤ 311 := by
  by_cases h1 : i ≤ 311
  · exact h1
  · have := prs_le (i := 312) (j := i) (by omega)
    rw [prs312] at this
    omega
theorem prs_full {i : Nat} (hi : i ≤ 312) (h : ¬ (prs i).length < 64) : i = 312 := by
  by_cases h1 : i ≤ 311
  · have := prs_le h1
    rw [prs311] at this
    omega
  · omega
theorem prs_bound (i : Nat) : ∀ k, (h : k < (prs i).length) → (prs i)[k] < i := by
  induction i with
  | zero => intro k h; simp [prs] at h
  | succ i ih =>
    intro k h
    by_cases hp : isPr i = true
    · have e : prs (i + 1) = prs i ++ [i] := by rw [prs, if_pos hp]
      have h' : k < (prs i ++ [i]).length := by rw [← e]; exact h
      have e2 : (prs (i + 1))[k] = (prs i ++ [i])[k] := by congr 1
      rw [e2, List.getElem_append]
      split
      · have := ih k (by assumption); omega
      · simp
    · have e : prs (i + 1) = prs i := by rw [prs, if_neg hp]
      have h' : k < (prs i).length := by rw [← e]; exact h
      have e2 : (prs (i + 1))[k] = (prs i)[k] := by congr 1
      rw [e2]
      have := ih k h'
      omega

/-- The value of words of 16 bits, the lowest first. -/
def valW : List Nat → Nat
  | [] => 0
  | x :: r => x + 65536 * valW r
theorem valW_append : ∀ (a b : List Nat), valW (a ++ b) = valW a + 65536 ^ a.length * valW b
  | [], b => by simp [valW]
  | x :: r, b => by
    rw [List.cons_append, valW, valW, valW_append r b, List.length_cons, Nat.pow_succ, Nat.mul_add, ← Nat.mul_assoc, Nat.mul_comm 65536 (65536 ^ r.length)]
    omega
theorem valW_lt : ∀ {l : List Nat}, (∀ x ∈ l, x < 65536) → valW l < 65536 ^ l.length
  | [], _ => by simp [valW]
  | x :: r, h => by
    have h1 := valW_lt (l := r) (fun y hy => h y (List.mem_cons_of_mem _ hy))
    have h2 := h x (List.mem_cons_self)
    rw [valW, List.length_cons, Nat.pow_succ]
    omega
theorem valW_set : ∀ (l : List Nat) (i x : Nat) (hi : i < l.length), valW (l.set i x) + 65536 ^ i * l[i] = valW l + 65536 ^ i * x
  | [], i, x, hi => by simp at hi
  | y :: r, 0, x, hi => by simp [valW]; omega
  | y :: r, i + 1, x, hi => by
    have h1 := valW_set r i x (by simpa using hi)
    rw [List.set_cons_succ, valW, valW, List.getElem_cons_succ, Nat.pow_succ]
    have e1 : 65536 ^ i * 65536 * r[i]'(by simpa using hi) = 65536 * (65536 ^ i * r[i]'(by simpa using hi)) := by rw [Nat.mul_comm (65536 ^ i) 65536, Nat.mul_assoc]
    have e2 : 65536 ^ i * 65536 * x = 65536 * (65536 ^ i * x) := by rw [Nat.mul_comm (65536 ^ i) 65536, Nat.mul_assoc]
    rw [e1, e2]
    omega
theorem valW_take_succ (l : List Nat) (k : Nat) (h : k < l.length) : valW (l.take (k + 1)) = valW (l.take k) + 65536 ^ k * l[k] := by
  rw [List.take_succ_eq_append_getElem h, valW_append, List.length_take, Nat.min_eq_left (by omega)]
  simp [valW]
theorem valW_drop (l : List Nat) (k : Nat) (h : k < l.length) : valW (l.drop k) = l[k] + 65536 * valW (l.drop (k + 1)) := by
  rw [List.drop_eq_getElem_cons h, valW]
theorem valW_split (l : List Nat) (k : Nat) (h : k ≤ l.length) : valW l = valW (l.take k) + 65536 ^ k * valW (l.drop k) := by
  conv => lhs; rw [← List.take_append_drop k l]
  rw [valW_append, List.length_take, Nat.min_eq_left h]
/-- The words of a number below 2^64. -/
def W4 (x : Nat) : List Nat := [x % 65536, x / 65536 % 65536, x / 65536 / 65536 % 65536, x / 65536 / 65536 / 65536 % 65536]
theorem W4_val {x : Nat} (h : x < 18446744073709551616) : valW (W4 x) = x := by simp only [W4, valW]; omega
theorem W4_lt (x : Nat) : ∀ y ∈ W4 x, y < 65536 := by
  intro y hy
  simp only [W4, List.mem_cons, List.not_mem_nil, or_false] at hy
  omega
/-- The number whose n-th power is as great as can be, k bits of it found. -/
def rootN (p n : Nat) : Nat → Nat
  | 0 => 0
  | k + 1 => if p * 65536 ^ (2 * n) < (rootN p n k + 2 ^ (36 - k)) ^ n then rootN p n k else rootN p n k + 2 ^ (36 - k)
theorem rootN_lt (p n : Nat) : ∀ k, k ≤ 37 → rootN p n k + 2 ^ (37 - k) ≤ 2 ^ 37
  | 0, _ => by simp [rootN]
  | k + 1, h => by
    have h1 := rootN_lt p n k (by omega)
    have h2 : 2 ^ (37 - k) = 2 * 2 ^ (36 - k) := by rw [show 37 - k = (36 - k) + 1 by omega, Nat.pow_succ]; omega
    rw [rootN, show 37 - (k + 1) = 36 - k by omega]
    split <;> omega
theorem roots3 : ((prs 312).map fun p => rootN p 3 37 % 4294967296) = (List.range 64).map fun i => (keyAt i).toNat := by decide +kernel
theorem roots2 : (((prs 312).take 8).map fun p => rootN p 2 37 % 4294967296) = (List.range 8).map fun i => (wordS startS i).toNat := by decide +kernel
end Go.Proofs.YtkgclhkpncegnaaDoor
