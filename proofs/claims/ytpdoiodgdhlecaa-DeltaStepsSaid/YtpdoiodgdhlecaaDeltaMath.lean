/-
  What comes out of a delta, step by step, without worlds.
-/
import Derived.Test.YtpdoiodgdhlecaaFirstMath
import Derived.Test.YtpdoiodgdhlecaaGetMath
namespace Go.Proofs.Ytpdoiodgdhlecaa

theorem fnum_cut : ∀ (l : List UInt8) (i : Nat), fnum i (l.take (9 - i)) = fnum i l
  | [], i => by simp
  | c :: rest, i => by
    by_cases h : 9 ≤ i
    · rw [show 9 - i = 0 by omega]
      rw [fnum]
      simp [fnum, h]
    · rw [show 9 - i = (9 - (i + 1)) + 1 by omega, List.take_succ_cons, fnum, fnum, fnum_cut rest (i + 1)]
theorem fnum_size9 : ∀ (l : List UInt8) (i : Nat) (p : Nat × Nat), fnum i l = some p → p.2 + i ≤ 9
  | [], i, p, h => by simp [fnum] at h
  | c :: rest, i, p, h => by
    rw [fnum] at h
    split at h
    · simp at h
    · split at h
      · split at h
        · simp at h
        · injection h with h; subst h; simp; omega
      · cases hr : fnum (i + 1) rest with
        | none => rw [hr] at h; simp at h
        | some q =>
          rw [hr] at h
          simp only [Option.map_some, Option.some.injEq] at h
          have := fnum_size9 rest (i + 1) q hr
          subst h
          simp only
          omega
theorem firstN_cut (l : List UInt8) : firstN (l.take 9) = firstN l := by unfold firstN; rw [show (9 : Nat) = 9 - 0 from rfl, fnum_cut]
theorem firstS_cut (l : List UInt8) : firstS (l.take 9) = firstS l := by unfold firstS; rw [show (9 : Nat) = 9 - 0 from rfl, fnum_cut]
theorem firstS_nine (l : List UInt8) : firstS l ≤ 9 := by
  unfold firstS
  cases h : fnum 0 l with
  | none => simp
  | some p => have := fnum_size9 l 0 p h; simpa using this
/-- A number of the first nine bytes, or none, just as of all bytes. -/
theorem rnum_cut_none (l : List UInt8) (most : Int) : rnum (l.take 9) most = none ↔ rnum l most = none := by
  unfold rnum
  rw [firstN_cut, firstS_cut]
  split <;> simp
theorem rnum_cut_some (l : List UInt8) (most : Int) (n : Nat) (l' : List UInt8) (h : rnum l most = some (n, l')) :
    rnum (l.take 9) most = some (n, (l.take 9).drop (firstS l)) ∧ l' = l.drop (firstS l) ∧ (l.take 9).length - ((l.take 9).drop (firstS l)).length = firstS l ∧ 1 ≤ firstS l ∧ (n : Int) ≤ most := by
  have h9 := firstS_nine l
  have hle := firstS_le l
  unfold rnum at h ⊢
  rw [firstN_cut, firstS_cut]
  split at h
  · simp at h
  · rename_i hc
    injection h with h
    injection h with h1 h2
    refine ⟨?_, h2.symm, ?_, by omega, by omega⟩
    · rw [if_neg hc, h1]
    · simp only [List.length_drop, List.length_take]; omega

/-- A step at the start of the bytes D, o bytes having come out: an error, or what comes out of it and what is behind it. -/
def stepD (base D : List UInt8) (o : Nat) : Int ⊕ (List UInt8 × List UInt8) :=
  match rnum D 4611686018427387904 with
  | none => .inl 20
  | some (n, r) =>
    if n / 2 < 1 ∨ 1048576 < n / 2 + o then .inl 20
    else if n % 2 = 0 then (if r.length < n / 2 then .inl 20 else .inr (r.take (n / 2), r.drop (n / 2)))
    else match rnum r 4611686018427387904 with
      | none => .inl 20
      | some (p, r2) => if base.length < p + n / 2 then .inl 70 else .inr ((base.drop p).take (n / 2), r2)
theorem rnum_less {l : List UInt8} {most : Int} {n : Nat} {l' : List UInt8} (h : rnum l most = some (n, l')) : l'.length < l.length := by
  have h2 := rnum_cut_some l most n l' h
  have h3 := firstS_le l
  rw [h2.2.1, List.length_drop]
  omega
theorem stepD_less {base D : List UInt8} {o : Nat} {p r : List UInt8} (h : stepD base D o = .inr (p, r)) : r.length < D.length := by
  unfold stepD at h
  split at h
  · simp at h
  · rename_i n r1 h1
    have g1 := rnum_less h1
    split at h
    · simp at h
    · split at h
      · split at h
        · simp at h
        · injection h with h; injection h with h2 h3; subst h3; rw [List.length_drop]; omega
      · split at h
        · simp at h
        · rename_i q r2 h2
          have g2 := rnum_less h2
          split at h
          · simp at h
          · injection h with h; injection h with h3 h4; subst h4; omega
theorem stepD_most {base D : List UInt8} {o : Nat} {p r : List UInt8} (h : stepD base D o = .inr (p, r)) : p.length + o ≤ 1048576 := by
  unfold stepD at h
  split at h
  · simp at h
  · rename_i n r1 h1
    split at h
    · simp at h
    · split at h
      · split at h
        · simp at h
        · injection h with h; injection h with h2 h3; subst h2; rw [List.length_take]; omega
      · split at h
        · simp at h
        · split at h
          · simp at h
          · injection h with h; injection h with h3 h4; subst h3; rw [List.length_take]; omega
/-- All steps: the error's number (0: none), and what has come out. -/
def stepsD (base : List UInt8) : Nat → List UInt8 → List UInt8 → Int ⊕ List UInt8
  | 0, out, _ => .inr out
  | f + 1, out, D => if D = [] then .inr out else match stepD base D out.length with
    | .inl e => .inl e
    | .inr (p, r) => stepsD base f (out ++ p) r
/-- A delta: the error's number, and what comes out (nothing with an error). -/
def applyD (base D : List UInt8) : Int × List UInt8 :=
  match rnum D 1048576 with
  | none => (20, [])
  | some (t, r) => match stepsD base (r.length + 1) [] r with
    | .inl e => (e, [])
    | .inr out => if out.length = t then (0, out) else (20, [])
theorem stepsD_nil (base out : List UInt8) (f : Nat) : stepsD base f out [] = .inr out := by cases f <;> simp [stepsD]
theorem stepsD_err {base out D : List UInt8} {f : Nat} {e : Int} (hD : D ≠ []) (h : stepD base D out.length = .inl e) : stepsD base (f + 1) out D = .inl e := by
  rw [stepsD, if_neg hD, h]
theorem stepsD_go {base out D p r : List UInt8} {f : Nat} (hD : D ≠ []) (h : stepD base D out.length = .inr (p, r)) : stepsD base (f + 1) out D = stepsD base f (out ++ p) r := by
  rw [stepsD, if_neg hD, h]
/-- Where the steps stand: what has come out and what is left lead to the same. -/
def Stands (base : List UInt8) (R : Int ⊕ List UInt8) (out D : List UInt8) : Prop := ∃ f, D.length < f ∧ stepsD base f out D = R
theorem Stands.start (base D : List UInt8) : Stands base (stepsD base (D.length + 1) [] D) [] D := ⟨_, by omega, rfl⟩
theorem Stands.end {base : List UInt8} {R : Int ⊕ List UInt8} {out : List UInt8} (h : Stands base R out []) : R = .inr out := by
  obtain ⟨f, _, h⟩ := h
  rw [← h, stepsD_nil]
theorem Stands.err {base : List UInt8} {R : Int ⊕ List UInt8} {out D : List UInt8} (h : Stands base R out D) (hD : D ≠ []) {e : Int} (he : stepD base D out.length = .inl e) : R = .inl e := by
  obtain ⟨f, hf, h⟩ := h
  obtain ⟨g, rfl⟩ : ∃ g, f = g + 1 := ⟨f - 1, by omega⟩
  rw [← h, stepsD_err hD he]
theorem Stands.go {base : List UInt8} {R : Int ⊕ List UInt8} {out D p r : List UInt8} (h : Stands base R out D) (hD : D ≠ []) (he : stepD base D out.length = .inr (p, r)) : Stands base R (out ++ p) r := by
  obtain ⟨f, hf, h⟩ := h
  obtain ⟨g, rfl⟩ : ∃ g, f = g + 1 := ⟨f - 1, by omega⟩
  have hl := stepD_less he
  exact ⟨g, by omega, by rw [← h, stepsD_go hD he]⟩
end Go.Proofs.Ytpdoiodgdhlecaa
