/-
  The walks of stamp.Name and Good.
-/
import Derived.Test.YtoaboehmjfnceaaGoodMove
import Derived.Test.YtoaboehmjfnceaaShelf
namespace Go.Proofs.Ytoaboehmjfnceaa
open Go.RowKit

/-- Is a string a name? cb: does it hold a byte that no name has? -/
def nameV (s : ByteArray) (cb : Bool) : Bool := decide (1 ≤ s.size) && (decide (s.size ≤ 60) && (!(s.toList == [46]) && (!(s.toList == [46, 46]) && !cb)))
def badBytes : ByteArray := ⟨#[0, 47, 10]⟩

set_option maxRecDepth 100000 in
set_option maxHeartbeats 2000000 in
theorem name_of (s : ByteArray) (cb : Bool) (w : World) (hm : s.size ≤ maxLen) (hc : s.size ≤ 60 → ∀ W, Calls Try.prog 39 #[.string s, .string badBytes] W fun e w' => e = .returned (.bool cb) ∧ Below W.heap.size W w') :
    Calls Try.prog 16 #[.string s] w fun e w' => e = .returned (.bool (nameV s cb)) ∧ Below w.heap.size w w' := by
  unfold maxLen at hm
  obtain ⟨mb, hmb⟩ : ∃ mb, mb = nameV s cb := ⟨_, rfl⟩
  have hcase : (¬ 1 ≤ s.size ∧ mb = false) ∨ (1 ≤ s.size ∧ ¬ s.size ≤ 60 ∧ mb = false) ∨ (1 ≤ s.size ∧ s.size ≤ 60 ∧ (s.toList == [46]) = true ∧ mb = false) ∨ (1 ≤ s.size ∧ s.size ≤ 60 ∧ (s.toList == [46]) = false ∧ (s.toList == [46, 46]) = true ∧ mb = false) ∨ (1 ≤ s.size ∧ s.size ≤ 60 ∧ (s.toList == [46]) = false ∧ (s.toList == [46, 46]) = false ∧ mb = !cb) := by
    rw [hmb]
    unfold nameV
    by_cases h1 : 1 ≤ s.size
    · by_cases h2 : s.size ≤ 60
      · cases h3 : (s.toList == [46])
        · cases h4 : (s.toList == [46, 46])
          · exact .inr (.inr (.inr (.inr ⟨h1, h2, rfl, rfl, by simp [h1, h2]⟩)))
          · exact .inr (.inr (.inr (.inl ⟨h1, h2, rfl, rfl, by simp⟩)))
        · exact .inr (.inr (.inl ⟨h1, h2, rfl, by simp⟩))
      · exact .inr (.inl ⟨h1, h2, by simp [h2]⟩)
    · exact .inl ⟨h1, by simp [h1]⟩
  rw [← hmb]
  have HC := Lib.hid hc
  clear hmb hc
  rcases hcase with ⟨h1, rfl⟩ | ⟨h1, h2, rfl⟩ | ⟨h1, h2, h3, rfl⟩ | ⟨h1, h2, h3, h4, rfl⟩ | ⟨h1, h2, h3, h4, h5⟩
  · go_enter Try.func16, Try.ntmps16
    go_wp2_with fail
    go_ret
    exact ⟨rfl, Below.refl _ _⟩
  · go_enter Try.func16, Try.ntmps16
    go_wp2_with fail
    go_ret
    exact ⟨rfl, Below.refl _ _⟩
  · go_enter Try.func16, Try.ntmps16
    go_wp2_with fail
    go_ret
    exact ⟨rfl, Below.refl _ _⟩
  · go_enter Try.func16, Try.ntmps16
    go_wp2_with fail
    go_ret
    exact ⟨rfl, Below.refl _ _⟩
  · have H5 := Lib.hid h5
    clear h5
    cases cb
    all_goals
      go_enter Try.func16, Try.ntmps16
      go_wp2_with fail
      refine (HC.out h2 _).mono ?_
      rintro e w2 ⟨rfl, hb2⟩
      go_wp2_with fail
      go_ret
      exact ⟨by rw [H5.out]; rfl, hb2⟩
end Go.Proofs.Ytoaboehmjfnceaa
