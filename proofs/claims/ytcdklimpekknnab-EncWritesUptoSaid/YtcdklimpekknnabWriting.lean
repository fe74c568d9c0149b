/-
  The walk of pollardlaw02.writing: Num, Text and Id are alive.
-/
import Derived.Test.YtcdklimpekknnabText
import Derived.Test.YtcdklimpekknnabId
import Derived.Test.YtcdklimpekknnabSame
namespace Go.Proofs.Ytcdklimpekknnab
open Go.RowKit

/-- A made slice of bytes, for a caller that only reads it. -/
def ReadPost (w : World) (L : List UInt8) (e : Ending) (w' : World) : Prop :=
  ∃ a c, e = .returned (.slice a L.length c) ∧ BytesAt w' a L ∧ Below w.heap.size w w' ∧ L.length ≤ 9223372036854775807 ∧ L.length ≤ c ∧ c ≤ 9223372036854775807
theorem readPost_of {w : World} {L : List UInt8} {e : Ending} {w' : World} {T : TypeId} (h : ∃ v, e = .returned v ∧ w'.ownsRow w.heap.size T 1 v L.length (bvs L) ∧ Below w.heap.size w w') : ReadPost w L e w' := by
  obtain ⟨v, rfl, hown, hb⟩ := h
  obtain ⟨a, c, rfl, hB, _, h1, h2⟩ := BytesAt.row hown
  exact ⟨a, c, rfl, hB, hb, by omega, h1, h2⟩
theorem num_read (a : Option Addr) (l : List UInt8) (cap : Nat) (n : Int) (w : World) (hb : BytesAt w a l) (hl : l.length ≤ 140737488355300) :
    Calls Try.prog 12 #[.slice a l.length cap, .int .i64 n] w (ReadPost w (l ++ encNum (clampN n))) :=
  (num_any a l cap n w hb hl).mono fun _ _ h => readPost_of h
theorem text_read (a : Option Addr) (l : List UInt8) (cap : Nat) (s : ByteArray) (w : World) (hb : BytesAt w a l) (hl : l.length + s.size ≤ 140737488355300) :
    Calls Try.prog 16 #[.slice a l.length cap, .string s] w (ReadPost w (l ++ encText s)) :=
  (text_any a l cap s w hb hl).mono fun _ _ h => readPost_of h
theorem id_read (a : Option Addr) (l i : List UInt8) (cap : Nat) (w : World) (hb : BytesAt w a l) (hi32 : i.length = 32) (hl : l.length ≤ 140737488355200) :
    Calls Try.prog 18 #[.slice a l.length cap, .agg (bvs i).toArray] w (ReadPost w (l ++ i)) :=
  (id_any a l i cap w hb hi32 hl).mono fun _ _ h => readPost_of h

theorem enc300 : ([] : List UInt8) ++ encNum (clampN 300) = [172, 2] := by
  rw [show clampN 300 = 300 from rfl, encNum_big (by omega), encNum_small (by omega)]; rfl
theorem encAb : ([1] : List UInt8) ++ encText ⟨#[97, 98]⟩ = [1, 2, 97, 98] := by
  unfold encText
  rw [show (ByteArray.mk #[97, 98]).size = 2 from rfl, encNum_small (by omega)]; rfl
def id7 : List UInt8 := 7 :: List.replicate 31 0

set_option maxRecDepth 100000 in
set_option maxHeartbeats 400000 in
theorem writing_any (w : World) :
    Calls Try.prog 10 #[] w fun e w' => e = .returned (.bool true) ∧ Below w.heap.size w w' := by
  go_enter Try.func10, Try.ntmps10
  go_wp2_with fail
  refine (num_read none [] 0 300 w (BytesAt.nil _ _) (by simp)).mono ?_
  rw [enc300]
  rintro e w1 ⟨a1, c1, rfl, hB1, hw1, _⟩
  go_wp2_with fail
  refine (same_any _ _ [172, 2] [172, 2] _ _ _ (hB1.later ((Below.refl _ _).alloc (Nat.le_refl _) _)) (BytesAt.alloc_new _ _ _ _ rfl) (by simp) (by simp)).mono ?_
  rintro e w2 ⟨rfl, hw2⟩
  rw [decide_eq_true rfl]
  have hw2' : Below w.heap.size w w2 := (hw1.alloc hw1.size _).trans (hw2.mono (by have := hw1.size; simp; omega))
  clear hw1 hw2 hB1
  go_wp2_with fail
  refine (text_read _ [1] _ _ _ (BytesAt.alloc_new _ _ _ _ rfl) (by decide)).mono ?_
  rw [encAb]
  rintro e w3 ⟨a3, c3, rfl, hB3, hw3, _⟩
  have hw3' : Below w.heap.size w w3 := (hw2'.alloc hw2'.size _).trans (hw3.mono (by have := hw2'.size; simp; omega))
  clear hw3 hw2'
  go_wp2_with fail
  refine (same_any _ _ [1, 2, 97, 98] [1, 2, 97, 98] _ _ _ (hB3.later ((Below.refl _ _).alloc (Nat.le_refl _) _)) (BytesAt.alloc_new _ _ _ _ rfl) (by simp) (by simp)).mono ?_
  rintro e w4 ⟨rfl, hw4⟩
  rw [decide_eq_true rfl]
  have hw4' : Below w.heap.size w w4 := (hw3'.alloc hw3'.size _).trans (hw4.mono (by have := hw3'.size; simp; omega))
  clear hw4 hw3' hB3
  go_wp2_with fail
  refine (id_read _ [5] id7 _ _ (BytesAt.alloc_new _ _ _ _ rfl) rfl (by decide)).mono ?_
  rintro e w5 ⟨a5, c5, rfl, hB5, hw5, _⟩
  have hw5' : Below w.heap.size w w5 := (hw4'.alloc hw4'.size _).trans (hw5.mono (by have := hw4'.size; simp; omega))
  go_wp2
  go_ret
  exact ⟨rfl, hw5'⟩
end Go.Proofs.Ytcdklimpekknnab
