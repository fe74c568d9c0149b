/-
  Two IDs held against each other.
-/
import Derived.Test.YtoaboehmjfnceaaBase
import Derived.ChangeKeysEq
import Derived.Laws.StructEq
namespace Go.Proofs.Ytoaboehmjfnceaa
open Go.RowKit

theorem cellsByte : Try.prog.cellsOf 5 = 1 := by kernel_rfl
theorem plainByte : Try.prog.plainKey 5 = true := by kernel_rfl
theorem part_byte (w : World) (l : List UInt8) (i : Nat) (h : i < l.length) : (part 5 (bvs l).toArray (i * 1)).run Try.prog w = .ok (.int .u8 (l[i].toNat : Int)) w := by
  refine run_part_plain w plainByte ?_
  rw [Nat.mul_one]
  simpa using bvs_get l i h
theorem eqItems_bytes (w : World) (l m : List UInt8) (hl : l.length = m.length) : ∀ (k j : Nat), j + k = l.length →
    (Op.eqItems 9999 5 1 (bvs l).toArray (bvs m).toArray (List.range' j k)).run Try.prog w = .ok (decide (l.drop j = m.drop j)) w := by
  intro k
  induction k with
  | zero =>
    intro j hj
    have h1 : l.drop j = [] := List.drop_eq_nil_of_le (by omega)
    have h2 : m.drop j = [] := List.drop_eq_nil_of_le (by omega)
    rw [h1, h2]
    rfl
  | succ k ih =>
    intro j hj
    have hjl : j < l.length := by omega
    have hjm : j < m.length := by omega
    have h1 := part_byte w l j hjl
    have h2 := part_byte w m j hjm
    have h3 := run_equalIn_int (P := Try.prog) (w := w) 9998 5 .u8 .u8 (l[j].toNat : Int) (m[j].toNat : Int) Try.underlying5
    rw [List.range'_succ]
    simp only [Op.eqItems, Sem.run_bind, h1, h2, h3, Result.andThen_ok]
    rw [List.drop_eq_getElem_cons hjl, List.drop_eq_getElem_cons hjm]
    by_cases he : l[j] = m[j]
    · have hb : ((l[j].toNat : Int) == (m[j].toNat : Int)) = true := by rw [he]; simp
      rw [hb]
      simp only [Bool.not_true, Bool.false_eq_true, if_false]
      rw [ih (j + 1) (by omega)]
      generalize l.drop (j + 1) = A
      generalize m.drop (j + 1) = B
      simp [he]
    · have hb : ((l[j].toNat : Int) == (m[j].toNat : Int)) = false := by
        rw [beq_eq_false_iff_ne]
        intro h
        exact he (UInt8.toNat_inj.1 (by omega))
      rw [hb]
      generalize l.drop (j + 1) = A
      generalize m.drop (j + 1) = B
      simp [he]
theorem eq_ids (w : World) (l m : List UInt8) (hl : l.length = 32) (hm : m.length = 32) :
    (Op.equalIn 10000 30 (.agg (bvs l).toArray) (.agg (bvs m).toArray)).run Try.prog w = .ok (decide (l = m)) w := by
  obtain ⟨i0, hi, _, _, _⟩ := info_parts (show (Try.prog.info? 5).map (fun i => (i.zero, i.size, i.bytes)) = some (some (.int .u8 0), 1, 1) by kernel_rfl)
  rw [run_equalIn_array w 9999 _ _ Try.underlying30 hi, cellsByte]
  have := eqItems_bytes w l m (by omega) 32 0 (by omega)
  rw [List.range_eq_range']
  simpa using this
/-- The ID of noughts, as a literal of a program writes it. -/
theorem eq_id0 (w : World) (l : List UInt8) (hl : l.length = 32) :
    (Op.equalIn 10000 30 (.agg (bvs l).toArray) (.agg #[Value.int IntKind.u8 0, Value.int IntKind.u8 0, Value.int IntKind.u8 0, Value.int IntKind.u8 0, Value.int IntKind.u8 0, Value.int IntKind.u8 0, Value.int IntKind.u8 0, Value.int IntKind.u8 0, Value.int IntKind.u8 0, Value.int IntKind.u8 0, Value.int IntKind.u8 0, Value.int IntKind.u8 0, Value.int IntKind.u8 0, Value.int IntKind.u8 0, Value.int IntKind.u8 0, Value.int IntKind.u8 0, Value.int IntKind.u8 0, Value.int IntKind.u8 0, Value.int IntKind.u8 0, Value.int IntKind.u8 0, Value.int IntKind.u8 0, Value.int IntKind.u8 0, Value.int IntKind.u8 0, Value.int IntKind.u8 0, Value.int IntKind.u8 0, Value.int IntKind.u8 0, Value.int IntKind.u8 0, Value.int IntKind.u8 0, Value.int IntKind.u8 0, Value.int IntKind.u8 0, Value.int IntKind.u8 0, Value.int IntKind.u8 0])).run Try.prog w = .ok (decide (l = List.replicate 32 0)) w :=
  eq_ids w l (List.replicate 32 0) hl (by simp)
end Go.Proofs.Ytoaboehmjfnceaa
