/-
  The walk of the reference's root.
-/
import Derived.Test.YtkgclhkpncegnaaDoorAbove
namespace Go.Proofs.YtkgclhkpncegnaaDoor
open Go.RowKit
set_option linter.unusedSimpArgs false
set_option linter.unusedVariables false

theorem rootN_step {p n k x t : Nat} (hk : k < 37) (hx : x = rootN p n k) (ht : t = 2 ^ (36 - k)) : x + t < 137438953472 ∧ rootN p n (k + 1) = if p * 65536 ^ (2 * n) < (x + t) ^ n then x else x + t := by
  have h1 := rootN_lt p n k (by omega)
  have h2 : 2 ^ (37 - k) = 2 * 2 ^ (36 - k) := by rw [show 37 - k = (36 - k) + 1 by omega, Nat.pow_succ]; omega
  have h3 : 0 < 2 ^ (36 - k) := Nat.pow_pos (by omega)
  rw [h2, ← hx, ← ht] at h1
  rw [← ht] at h3
  refine ⟨by have : (2 : Nat) ^ 37 = 137438953472 := by decide
             omega, ?_⟩
  rw [rootN, ← hx, ← ht]

set_option maxRecDepth 100000 in
set_option maxHeartbeats 4000000 in
theorem root_any (p n : Nat) (hn : n = 2 ∨ n = 3) (hp : p ≤ 1000) (w : World) :
    Calls Tryd.prog 20 #[.int .i64 (p : Int), .int .i64 (n : Int)] w fun e w' => e = .returned (.int .u32 ((rootN p n 37 % 4294967296 : Nat) : Int)) ∧ Below w.heap.size w w' := by
  have hn3 : n ≤ 3 := by omega
  have HNN := Lib.hid hn
  clear hn
  go_enter Tryd.func20, Tryd.ntmps20
  go_wp2_with fail
  go_loopw [5, 6] (fun s5 s6 wx => ∃ (j x : Nat), j ≤ 37 ∧ s6 = .int .i64 ((j : Int) - 1) ∧ s5 = .int .u64 (x : Int) ∧ x < 137438953472 ∧ Hid (x = rootN p n (37 - j)) ∧ Below w.heap.size w wx) (fun _ s6 _ => (intOf s6 + 1).toNat)
  case atStart => exact ⟨37, 0, by omega, rfl, rfl, by omega, Lib.hid rfl, Below.refl _ _⟩
  case round =>
    obtain ⟨j, x, hj, rfl, rfl, hx, HX, hbr⟩ := hrel
    cases j with
    | zero =>
      have HBR := Lib.hid hbr
      obtain ⟨r, hr⟩ : ∃ r, r = x % 4294967296 := ⟨_, rfl⟩
      have er : (x : Int) % 4294967296 = (r : Int) := by omega
      have hr32 : r < 4294967296 := by omega
      have HR := Lib.hid hr
      clear hr hbr
      go_wp2_with fail
      go_ret
      refine ⟨?_, HBR.out⟩
      have h1 := HX.out
      have h2 := HR.out
      rw [h1] at h2
      rw [← h2]
      rfl
    | succ b =>
      have em : ((b + 1 : Nat) : Int) - 1 = (b : Int) := by omega
      rw [em]
      obtain ⟨t, ht⟩ : ∃ t, t = 2 ^ b := ⟨_, rfl⟩
      have hst := rootN_step (p := p) (n := n) (k := 37 - (b + 1)) (x := x) (t := t) (by omega) HX.out (by rw [ht]; congr 1; omega)
      obtain ⟨hy, hrn⟩ := hst
      rw [show 37 - (b + 1) + 1 = 37 - b by omega] at hrn
      have et : (2 : Int) ^ b = (t : Int) := by rw [ht]; simp
      have HRN := Lib.hid hrn
      have HBR := Lib.hid hbr
      have hb36 : b ≤ 36 := by omega
      clear hrn hbr ht em
      go_wp2_with fail
      have hab := above_any (x + t) n p hy HNN.out hp wr
      rw [show ((x + t : Nat) : Int) = (x : Int) + (t : Int) by simp] at hab
      refine hab.mono ?_
      clear hab
      rintro e w2 ⟨rfl, hb2⟩
      have HB2 := Lib.hid (HBR.out.trans (hb2.mono HBR.out.size))
      clear hb2
      by_cases hab : p * 65536 ^ (2 * n) < (x + t) ^ n
      · rw [decide_eq_true hab]
        have h1 := HRN.out
        rw [if_pos hab] at h1
        have H1 := Lib.hid h1.symm
        clear h1 hab
        go_wp2_with fail
        go_roundw
        case rel => exact ⟨b, x, by omega, by first | rfl | go_num, rfl, hx, H1, HB2.out⟩
        case measure => first | (simp [intOf]; done) | (simp [intOf]; omega)
      · rw [decide_eq_false hab]
        have h1 := HRN.out
        rw [if_neg hab] at h1
        have H1 := Lib.hid h1.symm
        clear h1 hab
        go_wp2_with fail
        go_roundw
        case rel => exact ⟨b, x + t, by omega, by first | rfl | go_num, by first | rfl | simp, hy, H1, HB2.out⟩
        case measure => first | (simp [intOf]; done) | (simp [intOf]; omega)
end Go.Proofs.YtkgclhkpncegnaaDoor
