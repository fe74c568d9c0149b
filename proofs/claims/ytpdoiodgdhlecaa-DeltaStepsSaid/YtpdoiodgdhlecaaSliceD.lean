/-
  A slice's beginning and its end.
-/
import Derived.Test.YtpdoiodgdhlecaaReader
import Derived.Test.YtpdoiodgdhlecaaQuiet
namespace Go.Proofs.Ytpdoiodgdhlecaa
open Go.RowKit
set_option linter.unusedSimpArgs false
set_option linter.unusedVariables false

theorem BytesAt.none_nil {w : World} {l : List UInt8} (h : BytesAt w none l) : l = [] := by
  cases l with
  | nil => rfl
  | cons d l => obtain ⟨_, _, h1, _⟩ := h 0 (by simp); simp at h1
theorem slice_low (a : Option Addr) (L : List UInt8) (k cap : Nat) (hk : k ≤ L.length) (hcap : a = none → cap = 0) (hl : L.length ≤ cap) (hc : cap ≤ 9223372036854775807) :
    ∃ pp c', (∀ W : World, (Instr.sliceAt 22 (.slice a L.length cap) (some (.int .i64 (k : Int))) none none).run Try.prog W = .ok (.slice pp (L.drop k).length c') W) ∧
      (∀ W, BytesAt W a L → BytesAt W pp (L.drop k)) ∧ (pp = none → c' = 0) ∧ (L.drop k).length ≤ c' ∧ c' ≤ cap := by
  cases a with
  | none =>
    obtain rfl := hcap rfl
    have hL0 : L = [] := List.eq_nil_of_length_eq_zero (by omega)
    subst hL0
    obtain rfl : k = 0 := by simpa using hk
    refine ⟨none, 0, fun W => ?_, fun W h => ?_, fun _ => rfl, by simp, Nat.le_refl _⟩
    · go_simp
    · exact BytesAt.nil _ _
  | some ad =>
    refine ⟨if cap = k then some ad else some (ad.add k), cap - k, fun W => ?_, fun W h => ?_, fun h => ?_, by rw [List.length_drop]; omega, by omega⟩
    · rw [List.length_drop]
      clear hcap
      go_simp
    · split
      · rw [List.drop_eq_nil_of_le (by omega)]; exact BytesAt.nil _ _
      · exact h.drop k
    · split at h <;> simp at h
theorem slice_high (a : Option Addr) (L : List UInt8) (k cap : Nat) (hk : k ≤ L.length) (hcap : a = none → cap = 0) (hl : L.length ≤ cap) (hc : cap ≤ 9223372036854775807) :
    ∀ W : World, (Instr.sliceAt 22 (.slice a L.length cap) none (some (.int .i64 (k : Int))) none).run Try.prog W = .ok (.slice a (L.take k).length cap) W := by
  intro W
  rw [List.length_take, Nat.min_eq_left hk]
  cases a with
  | none =>
    obtain rfl := hcap rfl
    obtain rfl : k = 0 := by omega
    have hL0 : L.length = 0 := by omega
    rw [hL0]
    go_simp
  | some ad =>
    have e1 : k ≤ cap := by omega
    clear hcap hk hl
    go_simp
/-- A part of a slice. -/
theorem slice_part (a : Option Addr) (L : List UInt8) (i k cap : Nat) (hk : i + k ≤ L.length) (hcap : a = none → cap = 0) (hl : L.length ≤ cap) (hc : cap ≤ 9223372036854775807) :
    ∃ pp c', (∀ W : World, (Instr.sliceAt 22 (.slice a L.length cap) (some (.int .i64 (i : Int))) (some (.int .i64 ((i + k : Nat) : Int))) none).run Try.prog W = .ok (.slice pp ((L.drop i).take k).length c') W) ∧
      (∀ W, BytesAt W a L → BytesAt W pp ((L.drop i).take k)) ∧ (pp = none → c' = 0) ∧ ((L.drop i).take k).length ≤ c' ∧ c' ≤ cap := by
  have hlen : ((L.drop i).take k).length = k := by rw [List.length_take, List.length_drop]; omega
  cases a with
  | none =>
    obtain rfl := hcap rfl
    have hL0 : L = [] := List.eq_nil_of_length_eq_zero (by omega)
    subst hL0
    obtain rfl : i = 0 := by simp at hk; omega
    obtain rfl : k = 0 := by simp at hk; omega
    refine ⟨none, 0, fun W => ?_, fun W h => ?_, fun _ => rfl, by simp, Nat.le_refl _⟩
    · go_simp
    · exact BytesAt.nil _ _
  | some ad =>
    refine ⟨if cap = i then some ad else some (ad.add i), cap - i, fun W => ?_, fun W h => ?_, fun h => ?_, by omega, by omega⟩
    · rw [hlen]
      clear hcap hlen
      obtain ⟨m, hm⟩ : ∃ m, m = i + k := ⟨_, rfl⟩
      have e1 : m ≤ cap := by omega
      have e2 : i ≤ m := by omega
      have e3 : k = m - i := by omega
      rw [← hm, e3]
      clear hm e3 hk hl
      go_simp
    · split
      · have h0 : (L.drop i).take k = [] := List.eq_nil_of_length_eq_zero (by omega)
        rw [h0]; exact BytesAt.nil _ _
      · exact (h.drop i).take k
    · split at h <;> simp at h
theorem quiet_slice_low {P : Program} {C : World → Prop} {o : Oper} {a : Act} {K : Act → Prop} (ty : TypeId) (x y : Operand) (ho : o.op = .slice ty x (some y) none none)
    (v : Value) (hrun : ∀ w : World, (Instr.sliceAt ty (a.eval x) (some (a.eval y)) none none).run P w = .ok v w)
    (h : K (a.put o.dst v)) : o.quiet P a C K :=
  ⟨v, fun w _ => by
    unfold Oper.quietAt execOp
    simp only [ho, Option.map_some, Option.map_none, Sem.run_bind, Sem.run_pure, hrun w, Result.andThen_ok]
    exact ⟨rfl, rfl⟩, h⟩
theorem quiet_slice_high {P : Program} {C : World → Prop} {o : Oper} {a : Act} {K : Act → Prop} (ty : TypeId) (x y : Operand) (ho : o.op = .slice ty x none (some y) none)
    (v : Value) (hrun : ∀ w : World, (Instr.sliceAt ty (a.eval x) none (some (a.eval y)) none).run P w = .ok v w)
    (h : K (a.put o.dst v)) : o.quiet P a C K :=
  ⟨v, fun w _ => by
    unfold Oper.quietAt execOp
    simp only [ho, Option.map_some, Option.map_none, Sem.run_bind, Sem.run_pure, hrun w, Result.andThen_ok]
    exact ⟨rfl, rfl⟩, h⟩
end Go.Proofs.Ytpdoiodgdhlecaa
