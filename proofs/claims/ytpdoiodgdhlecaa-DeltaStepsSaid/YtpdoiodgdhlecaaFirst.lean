/-
  The walk of enc.firstNum.
-/
import Derived.Test.YtpdoiodgdhlecaaFirstMath
import Derived.Lib.Hide
import Derived.Deep.DeepCutAuto
namespace Go.Proofs.Ytpdoiodgdhlecaa
open Go.RowKit

set_option maxRecDepth 100000 in
set_option maxHeartbeats 400000 in
theorem first_any (a : Option Addr) (l : List UInt8) (cap : Nat) (w : World) (hb : BytesAt w a l) (hl : l.length ≤ 9223372036854775807) (hcap : l.length ≤ cap) :
    Calls Try.prog 44 #[.slice a l.length cap] w fun e w' => e = .returned (.tuple #[.int .i64 (firstN l : Int), .int .i64 (firstS l : Int)]) ∧ w = w' := by
  obtain ⟨M, hM⟩ : ∃ M, M = min l.length 9 := ⟨_, rfl⟩
  have hMl : M ≤ l.length := by omega
  have hM9 : M ≤ 9 := by omega
  have HM := Lib.hid hM
  clear hM
  go_enter Try.func44, Try.ntmps44
  go_upto_region 1 with (fail)
  go_cut [10, 11, 12] (fun s10 s11 s12 wx => s10 = .slice a M cap ∧ s11 = .int .i64 (M : Int) ∧ s12 = .int .i64 0 ∧ w = wx)
  case first =>
    go_wp2_with fail
    all_goals go_meet
    · have := HM.out
      have e : M = 9 := by omega
      rw [e]
      exact ⟨rfl, rfl, rfl, rfl⟩
    · have := HM.out
      have e : M = l.length := by omega
      rw [e]
      exact ⟨rfl, rfl, rfl, rfl⟩
  obtain ⟨rfl, rfl, rfl, rfl⟩ := hcut
  go_wp2_with fail
  go_loop [2, 4, 5, 12] (fun s2 _ _ s12 => ∃ k : Nat, k ≤ M ∧ s12 = .int .i64 (k : Int) ∧ s2 = .int .i64 (valOf (l.take k) : Int) ∧ ∀ j, (h : j < l.length) → j < k → 128 ≤ l[j].toNat) (fun _ _ _ s12 => M - (intOf s12).toNat)
  case atStart => exact ⟨0, Nat.zero_le _, rfl, rfl, fun j _ h => absurd h (by omega)⟩
  case round =>
    obtain ⟨k, hk, rfl, rfl, hall⟩ := hrel
    have HALL := Lib.hid hall
    clear hall
    by_cases hlt : k < M
    · obtain ⟨b, off, ha, hc⟩ := hb k (by omega)
      have hstep := or_step l k (by omega) (by omega)
      have hff := first_found (k := k) (l := l) (by omega) (by omega) HALL.out
      have HF := Lib.hid hff
      have c8 := l[k].toNat_lt
      rw [ha]
      clear ha hff
      go_wp2_with fail
      · go_round
        case rel => exact ⟨k + 1, by omega, by go_num, rfl, fun j h hj => by
          rcases Nat.lt_or_ge j k with h1 | h1
          · exact HALL.out j h h1
          · obtain rfl : j = k := by omega
            omega⟩
        case measure => simp [intOf]; omega
      all_goals
        have hlt8 : (l[k].toNat : Int) < 128 := by assumption
        have hfin := HF.out (by omega)
        go_ret2
        first
          | (have hz := hfin.1 ⟨by omega, by omega⟩; exact ⟨by rw [hz.1, hz.2]; rfl, rfl⟩)
          | (have hz := hfin.2 (by omega); exact ⟨by rw [hz.1, hz.2]; rfl, rfl⟩)
    · go_wp2_with fail
      go_ret2
      have h0 := first_none (k := k) (l := l) (by omega) HALL.out (by have := HM.out; omega)
      exact ⟨by rw [h0.1, h0.2]; rfl, rfl⟩
end Go.Proofs.Ytpdoiodgdhlecaa
