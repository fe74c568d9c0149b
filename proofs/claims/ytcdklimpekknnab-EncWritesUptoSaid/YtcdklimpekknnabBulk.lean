/-
  What the bound on the arguments' bulk gives for one of them.
-/
import Derived.Test.YtcdklimpekknnabRows
namespace Go.Proofs.Ytcdklimpekknnab

theorem bulk_pos {H : Type} (d : DataW H) : 1 ≤ Rows.uptoBulk d := by
  rcases d with ⟨l⟩ | _ | d | ⟨e, s⟩ | p | ⟨t, d⟩ | m | h
  case lit => cases l <;> simp [Rows.uptoBulk]
  all_goals simp [Rows.uptoBulk]
theorem bulk_mem {H : Type} {d : DataW H} : ∀ {l : List (DataW H)}, d ∈ l → Rows.uptoBulk d ≤ Rows.uptoBulkAll l
  | x :: r, h => by
    rw [Rows.uptoBulkAll]
    rcases List.mem_cons.1 h with rfl | h
    · omega
    · have := bulk_mem h
      omega
theorem bulk_length {H : Type} : ∀ l : List (DataW H), l.length ≤ Rows.uptoBulkAll l
  | [] => by simp
  | x :: r => by
    have h1 := bulk_pos x
    have h2 := bulk_length r
    rw [Rows.uptoBulkAll, List.length_cons]
    omega
theorem bulk_slice {H : Type} {e s : List (DataW H)} {l : List (DataW H)} (h : DataW.slice e s ∈ l) (hk : Rows.uptoSmall H l = true) : e.length + s.length ≤ 1048576 := by
  have h1 := bulk_mem h
  have h2 := bulk_length e
  have h3 := bulk_length s
  have h4 : Rows.uptoBulkAll l ≤ 1048576 := of_decide_eq_true hk
  rw [Rows.uptoBulk] at h1
  omega
theorem bulk_string {H : Type} {b : List UInt8} {l : List (DataW H)} (h : DataW.lit (.string b) ∈ l) (hk : Rows.uptoSmall H l = true) : b.length ≤ 1048576 := by
  have h1 := bulk_mem h
  have h4 : Rows.uptoBulkAll l ≤ 1048576 := of_decide_eq_true hk
  rw [Rows.uptoBulk] at h1
  omega
end Go.Proofs.Ytcdklimpekknnab
