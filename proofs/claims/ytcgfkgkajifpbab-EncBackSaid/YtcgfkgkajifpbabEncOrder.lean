/-
  The walk of EncOrder.
-/
import Derived.Test.YtcgfkgkajifpbabWriting
namespace Go.Proofs.Ytcgfkgkajifpbab
open Go.RowKit

set_option maxRecDepth 100000 in
set_option maxHeartbeats 400000 in
theorem encOrder_any (a b : Int) (w : World) :
    Calls Try.prog 8 #[.int .i64 a, .int .i64 b] w fun e w' => e = .returned (.bool true) ∧ Below w.heap.size w w' := by
  obtain ⟨A, hA⟩ : ∃ A, A = clampN a := ⟨_, rfl⟩
  have hAc : (A : Int) = clampI a := by rw [hA, clampN_cast]
  have hAb := clampN_le a
  obtain ⟨B, hB⟩ : ∃ B, B = clampN b := ⟨_, rfl⟩
  have hBc : (B : Int) = clampI b := by rw [hB, clampN_cast]
  have hBb := clampN_le b
  rw [← hA] at hAb
  rw [← hB] at hBb
  have HA := Lib.hid hA
  have HAc := Lib.hid hAc
  have HAb := Lib.hid hAb
  have HB := Lib.hid hB
  have HBc := Lib.hid hBc
  have HBb := Lib.hid hBb
  clear hA hAc hAb hB hBc hBb
  go_enter Try.func8, Try.ntmps8
  go_wp2_with fail
  refine (writing_any _).mono ?_
  rintro e w1 ⟨rfl, hw1⟩
  go_wp2_with fail
  refine (num_read none [] 0 _ w1 (BytesAt.nil _ _) (by simp)).mono ?_
  rw [← HA.out, List.nil_append]
  rintro e w2 ⟨a1, c1, rfl, hB1, hw2, _⟩
  go_wp2_with fail
  refine (num_read none [] 0 _ w2 (BytesAt.nil _ _) (by simp)).mono ?_
  rw [← HB.out, List.nil_append]
  rintro e w3 ⟨a2, c2, rfl, hB2, hw3, _⟩
  have hB1' := hB1.later hw3
  have hw3' : Below w.heap.size w w3 := (hw1.trans (hw2.mono hw1.size)).trans (hw3.mono (by have := hw1.size; have := hw2.size; omega))
  clear hw1 hw2 hw3 hB1
  go_upto_region 4 with (fail)
  go_cut [7, 8] (fun s7 s8 wx => s7 = .int .i64 (A : Int) ∧ s8 = .int .i64 (B : Int) ∧ w3 = wx)
  case first =>
    go_wp2_with fail
    all_goals go_meet
    all_goals (refine ⟨?_, ?_, rfl⟩ <;> first | (rw [HAc.out]; congr 1; unfold clampI; omega) | (rw [HBc.out]; congr 1; unfold clampI; omega))
  obtain ⟨rfl, rfl, rfl⟩ := hcut
  obtain ⟨X, hX⟩ : ∃ X, X = encNum A := ⟨_, rfl⟩
  obtain ⟨Y, hY⟩ : ∃ Y, Y = encNum B := ⟨_, rfl⟩
  rw [← hX] at hB1' ⊢
  rw [← hY] at hB2 ⊢
  have hXp : 1 ≤ X.length := by rw [hX]; exact encNum_pos _
  have hX9 : X.length ≤ 9 := by rw [hX]; exact encNum_le9 HAb.out
  have hY9 : Y.length ≤ 9 := by rw [hY]; exact encNum_le9 HBb.out
  have hlt : A ≤ B → X.length ≤ Y.length := by rw [hX, hY]; exact encNum_mono A A B (Nat.le_refl _)
  have hne : A ≠ B → X ≠ Y := by rw [hX, hY]; exact fun h h' => h (encNum_inj A A B (Nat.le_refl _) h')
  have heq : A = B → X = Y := by rw [hX, hY]; exact fun h => by rw [h]
  have HX := Lib.hid hX
  have HY := Lib.hid hY
  have HLT := Lib.hid hlt
  have HNE := Lib.hid hne
  have HEQ := Lib.hid heq
  clear hX hY hlt hne heq
  have q1 : decide ((X.length : Int) ≤ 9) = true := by simp; omega
  rcases Nat.lt_trichotomy A B with h | h | h
  · have h1 := HLT.out (by omega)
    have q2 : decide (Y.length < X.length) = false := by simp; omega
    have q3 : ((A : Int) == (B : Int)) = false := by simp; omega
    go_wp2_with fail
    refine (same_any _ _ X Y _ _ _ hB1' hB2 (by omega) (by omega)).mono ?_
    rw [decide_eq_false (HNE.out (by omega))]
    rintro e w4 ⟨rfl, hw4⟩
    go_wp2
    go_ret
    exact ⟨rfl, hw3'.trans (hw4.mono hw3'.size)⟩
  · have h2 := HEQ.out h
    subst h h2
    go_wp2_with fail
    refine (same_any _ _ X X _ _ _ hB1' hB2 (by omega) (by omega)).mono ?_
    rw [decide_eq_true rfl]
    rintro e w4 ⟨rfl, hw4⟩
    go_wp2
    go_ret
    exact ⟨rfl, hw3'.trans (hw4.mono hw3'.size)⟩
  · go_wp2_with fail
    refine (same_any _ _ X Y _ _ _ hB1' hB2 (by omega) (by omega)).mono ?_
    rw [decide_eq_false (HNE.out (by omega))]
    rintro e w4 ⟨rfl, hw4⟩
    go_wp2
    go_ret
    exact ⟨rfl, hw3'.trans (hw4.mono hw3'.size)⟩
theorem encOrder_walk (w : World) (a : Int) (_ : (Lit.int .i64 a).wf = true) (b : Int) (_ : (Lit.int .i64 b).wf = true) :
    Calls Try.prog 8 #[.int .i64 a, .int .i64 b] w fun e w' => e = .returned (.bool true) ∧ Below w.heap.size w w' := encOrder_any a b w
end Go.Proofs.Ytcgfkgkajifpbab
