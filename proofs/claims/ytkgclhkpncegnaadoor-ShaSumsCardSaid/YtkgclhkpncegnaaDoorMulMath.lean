/-
  The steps of the product of two numbers in words of 16 bits, without worlds.
-/
import Derived.Test.YtkgclhkpncegnaaDoorSumsMath
namespace Go.Proofs.YtkgclhkpncegnaaDoor

theorem valW_zero {l : List Nat} {j : Nat} (hj : j < l.length) (h : valW l < 65536 ^ j) : l[j] = 0 := by
  have h1 := valW_split l j (by omega)
  have h2 := valW_drop l j hj
  rw [h2, Nat.mul_add] at h1
  cases hz : l[j] with
  | zero => rfl
  | succ z =>
    rw [hz, Nat.mul_succ] at h1
    omega
theorem mul_inner {out lb : List Nat} {i k A B o c V x q r : Nat} (hk : k < lb.length) (hB : lb[k] = B) (hq : i + k < out.length) (ho : out[i + k] = o)
    (hx : x = o + A * B + c) (hr : r = x % 65536) (hqq : q = x / 65536)
    (h : valW out + 65536 ^ (i + k) * c = V + 65536 ^ i * (A * valW (lb.take k))) :
    valW (out.set (i + k) r) + 65536 ^ (i + (k + 1)) * q = V + 65536 ^ i * (A * valW (lb.take (k + 1))) := by
  have h1 := valW_set out (i + k) r hq
  have h2 := valW_take_succ lb k hk
  rw [ho] at h1
  rw [hB] at h2
  have hxx : x = 65536 * q + r := by omega
  obtain ⟨P, hP⟩ : ∃ P, P = 65536 ^ (i + k) := ⟨_, rfl⟩
  have e1 : P * x = P * o + P * (A * B) + P * c := by rw [hx, Nat.mul_add, Nat.mul_add]
  have e2 : P * x = P * (65536 * q) + P * r := by rw [← Nat.mul_add, ← hxx]
  have e3 : 65536 ^ (i + (k + 1)) * q = P * (65536 * q) := by rw [hP, ← Nat.add_assoc, Nat.pow_succ, Nat.mul_assoc]
  have e4 : 65536 ^ i * (A * valW (lb.take (k + 1))) = 65536 ^ i * (A * valW (lb.take k)) + P * (A * B) := by
    rw [h2, Nat.mul_add, Nat.mul_add, hP, Nat.pow_add]
    congr 1
    rw [Nat.mul_assoc, Nat.mul_left_comm A]
  rw [← hP] at h h1
  rw [e3, e4]
  omega
theorem mul_outer {la lb : List Nat} {i A : Nat} (hi : i < la.length) (hA : la[i] = A) :
    valW (la.take i) * valW lb + 65536 ^ i * (A * valW lb) = valW (la.take (i + 1)) * valW lb := by
  rw [valW_take_succ la i hi, hA, Nat.add_mul, Nat.mul_assoc]
theorem mul_less {la lb : List Nat} (hla : ∀ x ∈ la, x < 65536) (hlb : ∀ x ∈ lb, x < 65536) (i : Nat) (hi : i ≤ la.length) : valW (la.take i) * valW lb < 65536 ^ (i + lb.length) := by
  have h1 := valW_lt (l := la.take i) (fun x hx => hla x (List.mem_of_mem_take hx))
  have h2 := valW_lt hlb
  rw [List.length_take, Nat.min_eq_left hi] at h1
  rw [Nat.pow_add]
  cases hb : valW lb with
  | zero => exact Nat.lt_of_le_of_lt (Nat.zero_le _) (Nat.mul_pos (Nat.pow_pos (by omega)) (Nat.pow_pos (by omega)))
  | succ z => rw [hb] at h2; exact Nat.mul_lt_mul_of_lt_of_le h1 (Nat.le_of_lt h2) (by omega)
theorem set_words {l : List Nat} {i x : Nat} (h : ∀ y ∈ l, y < 65536) (hx : x < 65536) : ∀ y ∈ l.set i x, y < 65536 := by
  intro y hy
  rcases List.mem_or_eq_of_mem_set hy with h1 | h1
  · exact h y h1
  · rw [h1]; exact hx
theorem word_at {l : List Nat} (h : ∀ y ∈ l, y < 65536) (i : Nat) (hi : i < l.length) : l[i] < 65536 := h _ (List.getElem_mem _)
theorem word_mul {a b : Nat} (ha : a < 65536) (hb : b < 65536) : a * b ≤ 4294836225 := by
  have h1 := Nat.mul_le_mul (Nat.le_of_lt_succ ha) (Nat.le_of_lt_succ hb)
  omega
/-- The last word: the carry's place was empty. -/
theorem mul_last {out : List Nat} {j c T : Nat} (hj : j < out.length) (hz : out[j] = 0) (h : valW out + 65536 ^ j * c = T) : valW (out.set j c) = T := by
  have h1 := valW_set out j c hj
  rw [hz, Nat.mul_zero] at h1
  omega
end Go.Proofs.YtkgclhkpncegnaaDoor
