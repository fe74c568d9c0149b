/-
  The walks of Reader.Num and Reader.Text.
-/
import Derived.Test.YtoaboehmjfnceaaReader
namespace Go.Proofs.Ytoaboehmjfnceaa
open Go.RowKit

set_option maxRecDepth 100000 in
set_option maxHeartbeats 400000 in
theorem rnum_none (R Q : Nat) (l : List UInt8) (f : Bool) (most : Int) (w : World) (h : Reads w R Q l f) (hn : rnum l most = none) :
    Calls Try.prog 54 #[.pointer (some ⟨R, 0, none⟩), .int .i64 most] w fun e w' => e = .returned (.int .i64 0) ∧ Reads w' R Q [] true ∧ w.grownBy w' (some R) := by
  have hR := Lib.hid h
  obtain ⟨hQ, hQs, a, cap, h1, h2, h3, h4, h5⟩ := h
  have c0 : w.cell? ⟨R, 0, none⟩ = some (.slice a l.length cap) := cell_of_block h1
  clear h1
  have hbad : firstS l = 0 ∨ most < (firstN l : Int) ∨ 4611686018427387904 < firstN l := by
    unfold rnum at hn
    split at hn
    · assumption
    · simp at hn
  clear hn
  by_cases hs : firstS l = 0
  · have q0 : ((firstS l : Int) == 0) = true := by rw [hs]; rfl
    clear hbad hs
    go_enter Try.func54, Try.ntmps54
    go_wp2_with fail
    refine (first_any a l cap w h2 (by omega) h4).mono ?_
    rintro e w' ⟨rfl, rfl⟩
    go_wp2_with fail
    refine (fail_any R Q l f _ hR.out).mono ?_
    rintro e w' ⟨rfl, hr, hg⟩
    go_wp2_with fail
    go_ret
    exact ⟨rfl, hr, hg⟩
  · have q0 : ((firstS l : Int) == 0) = false := by rw [beq_eq_false_iff_ne]; omega
    by_cases hm : most < (firstN l : Int)
    · clear hbad hs
      go_enter Try.func54, Try.ntmps54
      go_wp2_with fail
      refine (first_any a l cap w h2 (by omega) h4).mono ?_
      rintro e w' ⟨rfl, rfl⟩
      go_wp2_with fail
      refine (fail_any R Q l f _ hR.out).mono ?_
      rintro e w' ⟨rfl, hr, hg⟩
      go_wp2_with fail
      go_ret
      exact ⟨rfl, hr, hg⟩
    · have hb : (4611686018427387904 : Int) < (firstN l : Int) := by omega
      clear hbad hs
      go_enter Try.func54, Try.ntmps54
      go_wp2_with fail
      refine (first_any a l cap w h2 (by omega) h4).mono ?_
      rintro e w' ⟨rfl, rfl⟩
      go_wp2_with fail
      refine (fail_any R Q l f _ hR.out).mono ?_
      rintro e w' ⟨rfl, hr, hg⟩
      go_wp2_with fail
      go_ret
      exact ⟨rfl, hr, hg⟩

/-- The post of a call that reads on: the answer, what is left, and that only the reader's block has changed. -/
def ReadOn (R Q : Nat) (v : Value) (l : List UInt8) (f : Bool) (w : World) (e : Ending) (w' : World) : Prop :=
  e = .returned v ∧ Reads w' R Q l f ∧ w.grownBy w' (some R)

set_option maxRecDepth 100000 in
set_option maxHeartbeats 400000 in
theorem rnum_some (R Q : Nat) (l : List UInt8) (f : Bool) (most : Int) (n : Nat) (l' : List UInt8) (w : World) (h : Reads w R Q l f) (hn : rnum l most = some (n, l')) :
    Calls Try.prog 54 #[.pointer (some ⟨R, 0, none⟩), .int .i64 most] w (ReadOn R Q (.int .i64 (n : Int)) l' f w) := by
  have hR := Lib.hid h
  obtain ⟨hQ, hQs, a, cap, h1, h2, h3, h4, h5⟩ := h
  have c0 : w.cell? ⟨R, 0, none⟩ = some (.slice a l.length cap) := cell_of_block h1
  clear h1
  obtain ⟨hs, hm, hb, hN, hL⟩ : ¬ firstS l = 0 ∧ ¬ most < (firstN l : Int) ∧ ¬ 4611686018427387904 < firstN l ∧ firstN l = n ∧ l.drop (firstS l) = l' := by
    unfold rnum at hn
    split at hn
    · simp at hn
    · injection hn with hn
      injection hn with hn1 hn2
      refine ⟨by omega, by omega, by omega, hn1, hn2⟩
  clear hn
  subst hN hL
  have q0 : ((firstS l : Int) == 0) = false := by rw [beq_eq_false_iff_ne]; omega
  have hb' : (firstN l : Int) ≤ 4611686018427387904 := by omega
  have hle := firstS_le l
  clear hs hb
  go_enter Try.func54, Try.ntmps54
  go_wp2_with fail
  refine (first_any a l cap w h2 (by omega) h4).mono ?_
  rintro e w' ⟨rfl, rfl⟩
  go_wp2_with fail
  refine (take_ok R Q l f (firstS l) _ hR.out hle).mono ?_
  rintro e w' ⟨a', c', rfl, _, _, hr, hg⟩
  go_wp2_with fail
  go_ret
  exact ⟨rfl, hr, hg⟩

/-- A text of at most so many bytes is read: it and what is left; none where there is none. -/
def rtext (l : List UInt8) (most : Int) : Option (List UInt8 × List UInt8) :=
  match rnum l most with
  | none => none
  | some p => if p.1 ≤ p.2.length then some (p.2.take p.1, p.2.drop p.1) else none

set_option maxRecDepth 100000 in
set_option maxHeartbeats 400000 in
theorem rtext_some (R Q : Nat) (l : List UInt8) (f : Bool) (most : Int) (s l' : List UInt8) (w : World) (h : Reads w R Q l f) (hn : rtext l most = some (s, l')) :
    Calls Try.prog 56 #[.pointer (some ⟨R, 0, none⟩), .int .i64 most] w (ReadOn R Q (.string ⟨s.toArray⟩) l' f w) := by
  unfold rtext at hn
  split at hn
  · simp at hn
  · rename_i p hp
    split at hn
    · rename_i hle
      obtain ⟨n, l1⟩ := p
      injection hn with hn
      injection hn with hn1 hn2
      subst hn1 hn2
      have HP := Lib.hid hp
      clear hp
      obtain ⟨T, hT⟩ : ∃ T, T = l1.take n := ⟨_, rfl⟩
      go_enter Try.func56, Try.ntmps56
      go_wp2_with fail
      refine (rnum_some R Q l f most n l1 w h HP.out).mono ?_
      rintro e w1 ⟨rfl, hr1, hg1⟩
      go_wp2_with fail
      refine (take_ok R Q l1 f n w1 hr1 hle).mono ?_
      rintro e w2 ⟨a, c, rfl, hB, _, hr2, hg2⟩
      rw [← hT] at hB ⊢
      have HT := Lib.hid hT
      clear hT
      have hcv := conv_bytes hB c
      go_wp2_with fail
      go_ret
      exact ⟨by rw [← HT.out]; rfl, hr2, grownBy_trans hg1 hg2⟩
    · simp at hn

set_option maxRecDepth 100000 in
set_option maxHeartbeats 400000 in
theorem rtext_none (R Q : Nat) (l : List UInt8) (f : Bool) (most : Int) (w : World) (h : Reads w R Q l f) (hn : rtext l most = none) :
    Calls Try.prog 56 #[.pointer (some ⟨R, 0, none⟩), .int .i64 most] w (ReadOn R Q (.string ⟨#[]⟩) [] true w) := by
  unfold rtext at hn
  split at hn
  · rename_i hp
    clear hn
    have HP := Lib.hid hp
    clear hp
    go_enter Try.func56, Try.ntmps56
    go_wp2_with fail
    refine (rnum_none R Q l f most w h HP.out).mono ?_
    rintro e w1 ⟨rfl, hr1, hg1⟩
    go_wp2_with fail
    refine (take_ok R Q [] true 0 w1 hr1 (by simp)).mono ?_
    rintro e w2 ⟨a, c, rfl, hB, _, hr2, hg2⟩
    have hcv : (convert 36 9 (.slice a 0 c)).run Try.prog w2 = .ok (.string ⟨#[]⟩) w2 := conv_bytes hB c
    go_wp2_with fail
    go_ret
    exact ⟨rfl, hr2, grownBy_trans hg1 hg2⟩
  · rename_i p hp
    split at hn
    · simp at hn
    · rename_i hle
      clear hn
      obtain ⟨n, l1⟩ := p
      have HP := Lib.hid hp
      clear hp
      go_enter Try.func56, Try.ntmps56
      go_wp2_with fail
      refine (rnum_some R Q l f most n l1 w h HP.out).mono ?_
      rintro e w1 ⟨rfl, hr1, hg1⟩
      go_wp2_with fail
      refine (take_fail R Q l1 f n w1 hr1 (by simpa using hle)).mono ?_
      rintro e w2 ⟨rfl, hr2, hg2⟩
      have hcv : (convert 36 9 (.slice none 0 0)).run Try.prog w2 = .ok (.string ⟨#[]⟩) w2 := conv_bytes (BytesAt.nil w2 none) 0
      go_wp2_with fail
      go_ret
      exact ⟨rfl, hr2, grownBy_trans hg1 hg2⟩
end Go.Proofs.Ytoaboehmjfnceaa
