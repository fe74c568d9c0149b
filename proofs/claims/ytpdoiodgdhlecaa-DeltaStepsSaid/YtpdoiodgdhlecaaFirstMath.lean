/-
  The number at the start of bytes, as a plain function.
-/
import Derived.Test.YtpdoiodgdhlecaaNumMath
namespace Go.Proofs.Ytpdoiodgdhlecaa
open Go

/-- The number at the start of l, i bytes of it having been read already (0 where there is none), and its size. -/
def fnum (i : Nat) : List UInt8 → Option (Nat × Nat)
  | [] => none
  | c :: rest => if 9 ≤ i then none else if c.toNat < 128 then (if c.toNat = 0 ∧ 0 < i then none else some (c.toNat, 1)) else (fnum (i + 1) rest).map fun p => (c.toNat % 128 + 128 * p.1, p.2 + 1)
def firstN (l : List UInt8) : Nat := ((fnum 0 l).map (·.1)).getD 0
def firstS (l : List UInt8) : Nat := ((fnum 0 l).map (·.2)).getD 0
/-- The groups of some bytes. -/
def valOf : List UInt8 → Nat
  | [] => 0
  | c :: rest => c.toNat % 128 + 128 * valOf rest
theorem valOf_lt : ∀ l : List UInt8, valOf l < 128 ^ l.length
  | [] => by simp [valOf]
  | c :: rest => by
    have := valOf_lt rest
    have hc : c.toNat % 128 < 128 := Nat.mod_lt _ (by omega)
    simp only [valOf, List.length_cons, Nat.pow_succ]
    omega
theorem valOf_snoc : ∀ (l : List UInt8) (c : UInt8), valOf (l ++ [c]) = valOf l + c.toNat % 128 * 128 ^ l.length
  | [], c => by simp [valOf]
  | d :: rest, c => by
    have := valOf_snoc rest c
    simp only [List.cons_append, valOf, List.length_cons, Nat.pow_succ, this, Nat.mul_add]
    rw [Nat.mul_left_comm 128, Nat.mul_comm 128 (128 ^ rest.length)]
    omega
/-- What is found behind k bytes that all go on. -/
theorem fnum_step : ∀ (k i : Nat) (l : List UInt8), k ≤ l.length → i + k ≤ 9 → (∀ j, (h : j < l.length) → j < k → 128 ≤ l[j].toNat) →
    fnum i l = (fnum (i + k) (l.drop k)).map fun p => (valOf (l.take k) + 128 ^ k * p.1, p.2 + k) := by
  intro k
  induction k with
  | zero => intro i l _ _ _; simp [valOf]
  | succ k ih =>
    intro i l hk hi hall
    match l, hk with
    | c :: rest, hk =>
      have hc : 128 ≤ c.toNat := hall 0 (by simp) (by omega)
      have hr := ih (i + 1) rest (by simpa using hk) (by omega) (fun j h hj => hall (j + 1) (by simpa using h) (by omega))
      rw [fnum, if_neg (by omega), if_neg (by omega), hr, List.drop_succ_cons, List.take_succ_cons, show i + (k + 1) = i + 1 + k by omega, Option.map_map]
      congr 1
      funext p
      simp only [Function.comp, valOf, Nat.pow_succ, Nat.mul_add, Prod.mk.injEq]
      refine ⟨?_, by omega⟩
      rw [← Nat.mul_assoc, Nat.mul_comm 128 (128 ^ k)]
      omega
theorem fnum_none {i : Nat} {l : List UInt8} (hi : 9 ≤ i ∨ l = []) : fnum i l = none := by
  rcases hi with hi | rfl
  · cases l with
    | nil => rfl
    | cons c rest => rw [fnum, if_pos hi]
  · rfl
/-- Bytes that all go on, as many as may: no number. -/
theorem first_none {k : Nat} {l : List UInt8} (hk : k ≤ l.length) (hall : ∀ j, (h : j < l.length) → j < k → 128 ≤ l[j].toNat) (h : k = min l.length 9) : firstN l = 0 ∧ firstS l = 0 := by
  have h1 := fnum_step k 0 l hk (by omega) hall
  have h2 : 9 ≤ k ∨ l.drop k = [] := by
    rcases Nat.lt_or_ge l.length 9 with h9 | h9
    · right; exact List.drop_eq_nil_of_le (by omega)
    · left; omega
  rw [Nat.zero_add, fnum_none h2] at h1
  unfold firstN firstS
  rw [h1]
  exact ⟨rfl, rfl⟩
theorem first_found {k : Nat} {l : List UInt8} (hk : k < l.length) (hk9 : k < 9) (hall : ∀ j, (h : j < l.length) → j < k → 128 ≤ l[j].toNat) (hc : l[k].toNat < 128) :
    (l[k].toNat = 0 ∧ 0 < k → firstN l = 0 ∧ firstS l = 0) ∧ (¬ (l[k].toNat = 0 ∧ 0 < k) → firstN l = valOf (l.take (k + 1)) ∧ firstS l = k + 1) := by
  have h1 := fnum_step k 0 l (by omega) (by omega) hall
  rw [Nat.zero_add, List.drop_eq_getElem_cons hk, fnum, if_neg (by omega), if_pos hc] at h1
  unfold firstN firstS
  constructor
  · intro h
    rw [if_pos h] at h1
    rw [h1]
    exact ⟨rfl, rfl⟩
  · intro h
    rw [if_neg h] at h1
    rw [h1, List.take_succ_eq_append_getElem hk, valOf_snoc, List.length_take, Nat.min_eq_left (by omega), Nat.mod_eq_of_lt hc, Nat.mul_comm (l[k].toNat)]
    exact ⟨rfl, by show 1 + k = k + 1; omega⟩
theorem and127_u8 (c : UInt8) : bits .and .u8 (c.toNat : Int) 127 = ((c.toNat % 128 : Nat) : Int) := by
  have := u8_and_nat c.toNat 127 c.toNat_lt (by omega)
  rw [show (127 : Nat) = 2 ^ 7 - 1 from rfl, Nat.and_two_pow_sub_one_eq_mod] at this
  exact this
/-- A group is added by 'or'. -/
theorem or_group (v g k : Nat) (hk : k ≤ 8) (hv : v < 128 ^ k) (hg : g < 128) : bits .or .i64 (v : Int) ((g * 2 ^ (7 * k) : Nat) : Int) = ((v + g * 128 ^ k : Nat) : Int) := by
  have e7 : 128 ^ k = 2 ^ (7 * k) := by rw [Nat.pow_mul]
  have hp : 2 ^ (7 * k) ≤ 2 ^ 56 := Nat.pow_le_pow_right (by omega) (by omega)
  rw [e7] at hv ⊢
  have hgk : g * 2 ^ (7 * k) ≤ 127 * 2 ^ (7 * k) := Nat.mul_le_mul_right _ (by omega)
  have h56 : (2 : Nat) ^ 56 = 72057594037927936 := by decide
  rw [h56] at hp
  obtain ⟨P, hP⟩ : ∃ P, P = 2 ^ (7 * k) := ⟨_, rfl⟩
  have hb : v + g * P < 9223372036854775808 := by rw [← hP] at hgk hp hv; omega
  have h1 : (BitVec.ofInt 64 (v : Int)).toNat = v := by
    rw [BitVec.ofInt_natCast, BitVec.toNat_ofNat]; exact Nat.mod_eq_of_lt (by omega)
  have h2 : (BitVec.ofInt 64 ((g * 2 ^ (7 * k) : Nat) : Int)).toNat = g * 2 ^ (7 * k) := by
    rw [BitVec.ofInt_natCast, BitVec.toNat_ofNat]; exact Nat.mod_eq_of_lt (by rw [← hP]; omega)
  show IntKind.i64.wrap ((BitVec.ofInt 64 (v : Int) ||| BitVec.ofInt 64 ((g * 2 ^ (7 * k) : Nat) : Int)).toNat : Int) = _
  rw [BitVec.toNat_or, h1, h2, Nat.or_comm, Nat.mul_comm g, ← Nat.two_pow_add_eq_or_of_lt hv]
  have e9 : 2 ^ (7 * k) * g + v = v + g * 2 ^ (7 * k) := by rw [Nat.mul_comm]; omega
  rw [e9, ← hP]
  rw [Nat.mul_comm P g]
  refine IntWalk.i64_in _ ?_
  omega
theorem fnum_size : ∀ (l : List UInt8) (i : Nat) (p : Nat × Nat), fnum i l = some p → 1 ≤ p.2 ∧ p.2 ≤ l.length
  | [], i, p, h => by simp [fnum] at h
  | c :: rest, i, p, h => by
    rw [fnum] at h
    split at h
    · simp at h
    · split at h
      · split at h
        · simp at h
        · injection h with h; subst h; simp
      · cases hr : fnum (i + 1) rest with
        | none => rw [hr] at h; simp at h
        | some q =>
          rw [hr] at h
          simp only [Option.map_some, Option.some.injEq] at h
          have := fnum_size rest (i + 1) q hr
          subst h
          simp only [List.length_cons]
          omega
theorem firstS_le (l : List UInt8) : firstS l ≤ l.length := by
  unfold firstS
  cases h : fnum 0 l with
  | none => simp
  | some p => exact (fnum_size l 0 p h).2
/-- A number from 0 to most is read: it and what is left; none where there is none. -/
def rnum (l : List UInt8) (most : Int) : Option (Nat × List UInt8) :=
  if firstS l = 0 ∨ most < (firstN l : Int) ∨ 4611686018427387904 < firstN l then none else some (firstN l, l.drop (firstS l))
open Go.RowKit in
theorem or_step (l : List UInt8) (k : Nat) (h : k < l.length) (hk : k ≤ 8) :
    bits .or .i64 (valOf (l.take k) : Int) (wrap64 (wrap64 (bits .and .u8 (l[k].toNat : Int) 127) * 2 ^ (7 * k))) = (valOf (l.take (k + 1)) : Int) := by
  have hg : l[k].toNat % 128 < 128 := Nat.mod_lt _ (by omega)
  have hv : valOf (l.take k) < 128 ^ k := by
    have := valOf_lt (l.take k)
    rwa [List.length_take, Nat.min_eq_left (by omega)] at this
  have hp : 2 ^ (7 * k) ≤ 2 ^ 56 := Nat.pow_le_pow_right (by omega) (by omega)
  have h56 : (2 : Nat) ^ 56 = 72057594037927936 := by decide
  rw [h56] at hp
  have hgk : l[k].toNat % 128 * 2 ^ (7 * k) ≤ 127 * 2 ^ (7 * k) := Nat.mul_le_mul_right _ (by omega)
  have e2 : ((l[k].toNat % 128 : Nat) : Int) * 2 ^ (7 * k) = ((l[k].toNat % 128 * 2 ^ (7 * k) : Nat) : Int) := by simp
  rw [and127_u8, IntWalk.wrap64_in ((l[k].toNat % 128 : Nat) : Int) (by omega), e2, IntWalk.wrap64_in ((l[k].toNat % 128 * 2 ^ (7 * k) : Nat) : Int) (by constructor <;> omega), or_group _ _ _ hk hv hg, List.take_succ_eq_append_getElem h, valOf_snoc, List.length_take, Nat.min_eq_left (by omega)]
end Go.Proofs.Ytpdoiodgdhlecaa
