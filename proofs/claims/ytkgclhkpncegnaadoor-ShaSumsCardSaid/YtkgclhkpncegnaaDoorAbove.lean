/-
  The walk of the reference's above.
-/
import Derived.Test.YtkgclhkpncegnaaDoorMul
namespace Go.Proofs.YtkgclhkpncegnaaDoor
open Go.RowKit
set_option linter.unusedSimpArgs false
set_option linter.unusedVariables false

theorem above_iff {P lo W p : Nat} (hlo : lo < P) : (p * P < lo + P * W) ↔ (p < W ∨ (W = p ∧ lo ≠ 0)) := by
  rcases Nat.lt_trichotomy p W with h | h | h
  · have h1 := Nat.mul_le_mul_left P (show p + 1 ≤ W from h)
    rw [Nat.mul_add, Nat.mul_one, Nat.mul_comm P p] at h1
    exact ⟨fun _ => Or.inl h, fun _ => by omega⟩
  · subst h
    rw [Nat.mul_comm p P]
    constructor
    · intro h1; exact Or.inr ⟨rfl, by omega⟩
    · rintro (h1 | ⟨_, h1⟩)
      · omega
      · omega
  · have h1 := Nat.mul_le_mul_left P (show W + 1 ≤ p from h)
    rw [Nat.mul_add, Nat.mul_one, Nat.mul_comm P p] at h1
    constructor
    · intro h2; omega
    · rintro (h2 | ⟨h2, _⟩) <;> omega
theorem drop_small {l : List Nat} {x n : Nat} (hn : n = 2 ∨ n = 3) (hx : x < 137438953472) (hl : l.length = 4 * n) (hv : valW l = x ^ n) (m : Nat) (hm : 2 * n ≤ m) : valW (l.drop m) < 65536 := by
  have h1 := valW_split l (2 * n) (by omega)
  have h2 : valW (l.drop m) ≤ valW (l.drop (2 * n)) := by
    by_cases h : m ≤ l.length
    · have h3 := valW_split (l.drop (2 * n)) (m - 2 * n) (by rw [List.length_drop]; omega)
      rw [List.drop_drop, show 2 * n + (m - 2 * n) = m by omega] at h3
      have h4 : 1 * valW (l.drop m) ≤ 65536 ^ (m - 2 * n) * valW (l.drop m) := Nat.mul_le_mul_right _ (Nat.pow_pos (by omega))
      omega
    · rw [List.drop_eq_nil_of_le (show l.length ≤ m by omega)]; simp [valW]
  rw [hv] at h1
  rcases hn with rfl | rfl
  · have h3 : x ^ 2 < 137438953472 ^ 2 := Nat.pow_lt_pow_left hx (by omega)
    have h4 : 65536 ^ (2 * 2) * valW (l.drop (2 * 2)) < 137438953472 ^ 2 := by omega
    have : valW (l.drop (2 * 2)) < 65536 := by
      rw [show (65536 : Nat) ^ (2 * 2) = 18446744073709551616 by decide, show (137438953472 : Nat) ^ 2 = 18889465931478580854784 by decide] at h4
      omega
    omega
  · have h3 : x ^ 3 < 137438953472 ^ 3 := Nat.pow_lt_pow_left hx (by omega)
    have h4 : 65536 ^ (2 * 3) * valW (l.drop (2 * 3)) < 137438953472 ^ 3 := by omega
    have : valW (l.drop (2 * 3)) < 65536 := by
      rw [show (65536 : Nat) ^ (2 * 3) = 79228162514264337593543950336 by decide, show (137438953472 : Nat) ^ 3 = 2596148429267413814265248164610048 by decide] at h4
      omega
    omega
/-- Where the second loop stands: j words to go. -/
structure AboveIn (n j : Nat) (l : List Nat) (W : Nat) (b : Bool) : Prop where
  whole : W = valW (l.drop (max j (2 * n)))
  rest : b = decide (valW ((l.take (2 * n)).drop j) ≠ 0)

set_option maxRecDepth 100000 in
set_option maxHeartbeats 4000000 in
theorem above_any (x n p : Nat) (hx : x < 137438953472) (hn : n = 2 ∨ n = 3) (hp : p ≤ 1000) (w : World) :
    Calls Tryd.prog 34 #[.int .u64 (x : Int), .int .i64 (n : Int), .int .i64 (p : Int)] w fun e w' => e = .returned (.bool (decide (p * 65536 ^ (2 * n) < x ^ n))) ∧ Below w.heap.size w w' := by
  have hn3 : n ≤ 3 := by omega
  have hn2 : 2 ≤ n := by omega
  have HNN := Lib.hid hn
  clear hn
  have hw4 : ∀ (w : World), _ := fun w => wordsR_any x (by omega) w
  have HW4 := Lib.hid hw4
  clear hw4
  go_enter Tryd.func34, Tryd.ntmps34
  go_wp2_with fail
  refine (HW4.out w).mono ?_
  rintro e w1 ⟨g1, c1, rfl, hu1, hg1, hc1, hm1, hb1⟩
  have HU1 := Lib.hid hu1
  have HB1 := Lib.hid hb1
  clear hu1 hb1
  go_wp2_with fail
  go_loopw [7, 8] (fun s7 s8 wx => ∃ (i g c L : Nat) (l : List Nat), 1 ≤ i ∧ i ≤ n ∧ s8 = .int .i64 (i : Int) ∧ s7 = .slice (some ⟨g, 0, none⟩) L c ∧ L ≤ c ∧ L ≤ 12 ∧ Hid (U64At wx g l) ∧ Hid (∀ y ∈ l, y < 65536) ∧ Hid (l.length = L ∧ L = 4 * i) ∧ Hid (valW l = x ^ i) ∧ Below w.heap.size w wx) (fun _ s8 _ => 4 - (intOf s8).toNat)
  case atStart => exact ⟨1, g1, c1, 4, W4 x, by omega, by omega, rfl, rfl, hc1, by omega, HU1, Lib.hid (W4_lt x), Lib.hid ⟨rfl, rfl⟩, Lib.hid (by rw [W4_val (by omega)]; simp), HB1.out⟩
  case round =>
    clear HU1 HB1
    obtain ⟨i, g, c, L, l, hi1, hin, rfl, rfl, hlc, hl12, HU, HWD, HL, HV, hbr⟩ := hrel
    by_cases hlt : i < n
    · have HBR := Lib.hid hbr
      clear hbr
      go_wp2_with fail
      refine (HW4.out _).mono ?_
      rintro e w2 ⟨g2, c2, rfl, hu2, hg2, hc2, hm2, hb2⟩
      have hmul := mul_any g g2 c c2 l (W4 x) w2 (HU.out.later hb2) hu2 HWD.out (W4_lt x) (by have := HL.out; omega) (by simp [W4]) (by have := HL.out; omega) hc2 (by have := HL.out; omega) (by simp [W4])
      rw [W4_val (show x < 18446744073709551616 by omega), show (W4 x).length = 4 from rfl, HL.out.1] at hmul
      have HMUL := Lib.hid hmul
      have HB2 := Lib.hid (HBR.out.trans (hb2.mono HBR.out.size))
      clear hmul hb2 hu2
      go_wp2_with fail
      refine HMUL.out.mono ?_
      clear HMUL
      rintro e w3 ⟨g3, r, rfl, hu3, hr3, hwd3, hv3, hb3⟩
      obtain ⟨R, hR⟩ : ∃ R, R = r.length := ⟨_, rfl⟩
      rw [← hR]
      have hR12 : R ≤ 12 := by have := HL.out; omega
      have hRl : r.length = R ∧ R = 4 * (i + 1) := by have := HL.out; omega
      have HRL := Lib.hid hRl
      have HU3 := Lib.hid hu3
      have HWD3 := Lib.hid hwd3
      have HB3 := Lib.hid (HB2.out.trans (hb3.mono HB2.out.size))
      have hv3' : valW r = x ^ (i + 1) := by rw [hv3, HV.out, Nat.pow_succ]
      have HV3 := Lib.hid hv3'
      clear hu3 hwd3 hb3 hv3 hv3' hR hRl hr3
      go_wp2_with fail
      go_roundw
      case rel => exact ⟨i + 1, g3, R, R, r, by omega, by omega, by go_num, rfl, Nat.le_refl _, hR12, HU3, HWD3, HRL, HV3, HB3.out⟩
      case measure => simp [intOf]; omega
    · obtain rfl : i = n := by omega
      have HBR := Lib.hid hbr
      clear hbr
      go_wp2_with fail
      go_loopw [9, 10, 11] (fun s9 s10 s11 wx => ∃ (j W : Nat) (b : Bool), j ≤ 4 * i ∧ s11 = .int .i64 ((j : Int) - 1) ∧ s9 = .int .u64 (W : Int) ∧ s10 = .bool b ∧ W < 65536 ∧ Hid (AboveIn i j l W b) ∧ Below wr.heap.size wr wx) (fun _ _ s11 _ => (intOf s11 + 1).toNat)
      case atStart =>
        refine ⟨L, 0, false, by have := HL.out; omega, by first | rfl | go_num, rfl, rfl, by omega, Lib.hid ⟨?_, ?_⟩, Below.refl _ _⟩
        · rw [List.drop_eq_nil_of_le (by have := HL.out; omega)]; rfl
        · rw [List.drop_eq_nil_of_le (by rw [List.length_take]; have := HL.out; omega)]; rfl
      case round =>
        obtain ⟨j, W, b, hj, rfl, rfl, rfl, hW, HIN, hbx⟩ := hrel
        have hLl := HL.out
        cases j with
        | zero =>
          obtain ⟨hw0, hb0⟩ := HIN.out
          rw [Nat.max_eq_right (Nat.zero_le _)] at hw0
          rw [List.drop_zero] at hb0
          have hsp := valW_split l (2 * i) (by omega)
          have hlo := valW_lt (l := l.take (2 * i)) (fun y hy => HWD.out y (List.mem_of_mem_take hy))
          rw [List.length_take, Nat.min_eq_left (by omega)] at hlo
          rw [HV.out, ← hw0] at hsp
          obtain ⟨lo, hloe⟩ : ∃ lo, lo = valW (l.take (2 * i)) := ⟨_, rfl⟩
          obtain ⟨P, hP⟩ : ∃ P, P = 65536 ^ (2 * i) := ⟨_, rfl⟩
          obtain ⟨X, hX⟩ : ∃ X, X = x ^ i := ⟨_, rfl⟩
          rw [← hloe] at hsp hb0 hlo
          rw [← hP] at hsp hlo
          rw [← hX] at hsp
          have hif : (p * P < X) ↔ (p < W ∨ (W = p ∧ lo ≠ 0)) := by rw [hsp]; exact above_iff hlo
          have HIF := Lib.hid hif
          have HPP := Lib.hid hP
          have HXX := Lib.hid hX
          have HB0 := Lib.hid hb0
          have HFB := Lib.hid (HBR.out.trans (hbx.mono HBR.out.size))
          clear hif hP hX hb0 hsp hlo hloe hw0 hbx hLl HIN
          by_cases h1 : p < W
          · have d1 : (p : Int) < (W : Int) := by omega
            go_wp2_with fail
            go_ret
            refine ⟨?_, HFB.out⟩
            rw [← HPP.out, ← HXX.out, decide_eq_true (HIF.out.2 (Or.inl h1))]
            rfl
          · have d1 : ¬ (p : Int) < (W : Int) := by omega
            by_cases h2 : W = p
            · have d2 : (W : Int) = (p : Int) := by omega
              have hres : decide (p * P < X) = b := by
                rw [HB0.out]
                congr 1
                rw [eq_iff_iff, HIF.out]
                exact ⟨fun h => h.elim (fun h => absurd h h1) (·.2), fun h => Or.inr ⟨h2, h⟩⟩
              have HRS := Lib.hid hres
              subst h2
              clear hres d2
              go_wp2_with fail
              all_goals go_ret
              all_goals refine ⟨?_, HFB.out⟩
              all_goals rw [← HPP.out, ← HXX.out, HRS.out]
              all_goals first | rfl | simp_all
            · have d2 : ((W : Int) == (p : Int)) = false := by simp; omega
              go_wp2_with fail
              go_ret
              refine ⟨?_, HFB.out⟩
              rw [← HPP.out, ← HXX.out, decide_eq_false (fun h => (HIF.out.1 h).elim h1 (fun h => h2 h.1))]
              rfl
        | succ m =>
          have hml : m < l.length := by omega
          obtain ⟨y, hy⟩ : ∃ y, y = l[m] := ⟨_, rfl⟩
          have hy6 : y < 65536 := by rw [hy]; exact word_at HWD.out m hml
          have hcell : wr.cell? ⟨g, m, none⟩ = some (.int .u64 (y : Int)) := by rw [hy]; exact HU.out.later hbx m hml
          have em : ((m + 1 : Nat) : Int) - 1 = (m : Int) := by omega
          rw [em]
          have hdr := valW_drop l m hml
          rw [← hy] at hdr
          have HBX := Lib.hid hbx
          have hlt12 : m < 12 := by omega
          have hmL : m < L := by omega
          by_cases hm : 2 * i ≤ m
          · have hin2 := HIN.out
            have hw := hin2.whole
            rw [Nat.max_eq_left (by omega)] at hw
            have hsm := drop_small HNN.out hx (by rw [hLl.1, hLl.2]) HV.out m hm
            obtain ⟨W2, hW2⟩ : ∃ W2, W2 = W * 65536 + y := ⟨_, rfl⟩
            have hw2 : W2 = valW (l.drop m) := by rw [hdr, hW2, hw]; omega
            have hai : AboveIn i m l W2 b := ⟨by rw [Nat.max_eq_left hm]; exact hw2, by
              rw [hin2.rest, List.drop_eq_nil_of_le (by rw [List.length_take]; omega), List.drop_eq_nil_of_le (by rw [List.length_take]; omega)]⟩
            have hW26 : W2 < 65536 := by rw [hw2]; exact hsm
            have HAI := Lib.hid hai
            have eW : (W : Int) * 65536 + (y : Int) = (W2 : Int) := by omega
            have d1 : (2 : Int) * (i : Int) ≤ (m : Int) := by omega
            have hWy : W * 65536 + y < 65536 := by omega
            have EW := Lib.hid eW
            clear hin2 hw hsm hw2 hai hdr hy hLl HIN hbx em eW
            go_wp2_with fail
            go_roundw
            case rel => exact ⟨m, W2, b, by omega, by first | rfl | go_num, by first | rfl | rw [EW.out], rfl, hW26, HAI, HBX.out⟩
            case measure => first | (simp [intOf]; done) | (simp [intOf]; omega)
          · have hin2 := HIN.out
            have hw := hin2.whole
            rw [Nat.max_eq_right (by omega)] at hw
            have htl : m < (l.take (2 * i)).length := by rw [List.length_take]; omega
            have hdr2 := valW_drop (l.take (2 * i)) m htl
            rw [List.getElem_take, ← hy] at hdr2
            have d1 : ¬ (2 : Int) * (i : Int) ≤ (m : Int) := by omega
            by_cases hy0 : y = 0
            · have hai : AboveIn i m l W b := ⟨by rw [Nat.max_eq_right (by omega)]; exact hw, by
                rw [hin2.rest, hdr2, hy0]
                congr 1
                rw [eq_iff_iff]
                omega⟩
              have HAI := Lib.hid hai
              have d2 : ((y : Int) != 0) = false := by simp [hy0]
              clear hin2 hw htl hdr2 hai hdr hy hLl HIN hbx em
              go_wp2_with fail
              go_roundw
              case rel => exact ⟨m, W, b, by omega, by first | rfl | go_num, rfl, rfl, hW, HAI, HBX.out⟩
              case measure => first | (simp [intOf]; done) | (simp [intOf]; omega)
            · have hai : AboveIn i m l W true := ⟨by rw [Nat.max_eq_right (by omega)]; exact hw, by
                rw [hdr2, decide_eq_true]
                omega⟩
              have HAI := Lib.hid hai
              have d2 : ((y : Int) != 0) = true := by simp; omega
              clear hin2 hw htl hdr2 hai hdr hy hLl HIN hbx em
              go_wp2_with fail
              go_roundw
              case rel => exact ⟨m, W, true, by omega, by first | rfl | go_num, rfl, rfl, hW, HAI, HBX.out⟩
              case measure => first | (simp [intOf]; done) | (simp [intOf]; omega)
end Go.Proofs.YtkgclhkpncegnaaDoor
