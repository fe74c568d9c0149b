/-
  The walks of Reader.Num and Reader.Text.
-/
import Derived.Test.YtpdoiodgdhlecaaReader
namespace Go.Proofs.Ytpdoiodgdhlecaa
open Go.RowKit

set_option maxRecDepth 100000 in
set_option maxHeartbeats 400000 in
theorem rnum_none (R Q : Nat) (l : List UInt8) (f : Bool) (most : Int) (w : World) (h : Reads w R Q l f) (hn : rnum l most = none) :
    Calls Try.prog 28 #[.pointer (some ⟨R, 0, none⟩), .int .i64 most] w fun e w' => e = .returned (.int .i64 0) ∧ Reads w' R Q [] true ∧ w.grownBy w' (some R) := by
  have hR := Lib.hid h
  obtain ⟨hQ, hQs, a, cap, h1, h2, h3, h4, h5⟩ := h
  have c0 : w.cell? ⟨R, 0, none⟩ = some (.slice a l.length cap) := cell_of_block h1
  clear h1
  have hbad : firstS l = 0 ∨ most < (firstN l : Int) ∨ 4611686018427387904 < firstN l := by
    unfold rnum at hn
    split at hn
    · assumption
    · simp at hn
  clear hn
  by_cases hs : firstS l = 0
  · have q0 : ((firstS l : Int) == 0) = true := by rw [hs]; rfl
    clear hbad hs
    go_enter Try.func28, Try.ntmps28
    go_wp2_with fail
    refine (first_any a l cap w h2 (by omega) h4).mono ?_
    rintro e w' ⟨rfl, rfl⟩
    go_wp2_with fail
    refine (fail_any R Q l f _ hR.out).mono ?_
    rintro e w' ⟨rfl, hr, hg⟩
    go_wp2_with fail
    go_ret
    exact ⟨rfl, hr, hg⟩
  · have q0 : ((firstS l : Int) == 0) = false := by rw [beq_eq_false_iff_ne]; omega
    by_cases hm : most < (firstN l : Int)
    · clear hbad hs
      go_enter Try.func28, Try.ntmps28
      go_wp2_with fail
      refine (first_any a l cap w h2 (by omega) h4).mono ?_
      rintro e w' ⟨rfl, rfl⟩
      go_wp2_with fail
      refine (fail_any R Q l f _ hR.out).mono ?_
      rintro e w' ⟨rfl, hr, hg⟩
      go_wp2_with fail
      go_ret
      exact ⟨rfl, hr, hg⟩
    · have hb : (4611686018427387904 : Int) < (firstN l : Int) := by omega
      clear hbad hs
      go_enter Try.func28, Try.ntmps28
      go_wp2_with fail
      refine (first_any a l cap w h2 (by omega) h4).mono ?_
      rintro e w' ⟨rfl, rfl⟩
      go_wp2_with fail
      refine (fail_any R Q l f _ hR.out).mono ?_
      rintro e w' ⟨rfl, hr, hg⟩
      go_wp2_with fail
      go_ret
      exact ⟨rfl, hr, hg⟩

/-- The post of a call that reads on: the answer, what is left, and that only the reader's block has changed. -/
def ReadOn (R Q : Nat) (v : Value) (l : List UInt8) (f : Bool) (w : World) (e : Ending) (w' : World) : Prop :=
  e = .returned v ∧ Reads w' R Q l f ∧ w.grownBy w' (some R)

set_option maxRecDepth 100000 in
set_option maxHeartbeats 400000 in
theorem rnum_some (R Q : Nat) (l : List UInt8) (f : Bool) (most : Int) (n : Nat) (l' : List UInt8) (w : World) (h : Reads w R Q l f) (hn : rnum l most = some (n, l')) :
    Calls Try.prog 28 #[.pointer (some ⟨R, 0, none⟩), .int .i64 most] w (ReadOn R Q (.int .i64 (n : Int)) l' f w) := by
  have hR := Lib.hid h
  obtain ⟨hQ, hQs, a, cap, h1, h2, h3, h4, h5⟩ := h
  have c0 : w.cell? ⟨R, 0, none⟩ = some (.slice a l.length cap) := cell_of_block h1
  clear h1
  obtain ⟨hs, hm, hb, hN, hL⟩ : ¬ firstS l = 0 ∧ ¬ most < (firstN l : Int) ∧ ¬ 4611686018427387904 < firstN l ∧ firstN l = n ∧ l.drop (firstS l) = l' := by
    unfold rnum at hn
    split at hn
    · simp at hn
    · injection hn with hn
      injection hn with hn1 hn2
      refine ⟨by omega, by omega, by omega, hn1, hn2⟩
  clear hn
  subst hN hL
  have q0 : ((firstS l : Int) == 0) = false := by rw [beq_eq_false_iff_ne]; omega
  have hb' : (firstN l : Int) ≤ 4611686018427387904 := by omega
  have hle := firstS_le l
  clear hs hb
  go_enter Try.func28, Try.ntmps28
  go_wp2_with fail
  refine (first_any a l cap w h2 (by omega) h4).mono ?_
  rintro e w' ⟨rfl, rfl⟩
  go_wp2_with fail
  refine (take_ok R Q l f (firstS l) _ hR.out hle).mono ?_
  rintro e w' ⟨a', c', rfl, _, _, hr, hg⟩
  go_wp2_with fail
  go_ret
  exact ⟨rfl, hr, hg⟩

end Go.Proofs.Ytpdoiodgdhlecaa
