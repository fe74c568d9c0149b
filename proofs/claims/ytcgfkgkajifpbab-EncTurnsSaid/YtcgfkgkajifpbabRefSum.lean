/-
  The walk of pollardref02.Sum: it answers the checksum, too.
-/
import Derived.Test.YtcgfkgkajifpbabSum
namespace Go.Proofs.Ytcgfkgkajifpbab
open Go.RowKit

set_option maxHeartbeats 400000 in
theorem refsum_any (a : Option Addr) (l : List UInt8) (cap : Nat) (w : World) (hb : BytesAt w a l) (hl : l.length ≤ 9223372036854775807) :
    Calls Try.prog 38 #[.slice a l.length cap] w fun e w' => e = .returned (.int .u32 ((crc l).toNat : Int)) ∧ w = w' := by
  go_enter Try.func38, Try.ntmps38
  go_wp2
  go_loop [3, 4, 5, 6] (fun s i _ _ => ∃ k : Nat, k ≤ l.length ∧ i = .int .i64 k ∧ s = .int .u32 ((crcRun (l.take k)).toNat : Int)) (fun _ i _ _ => l.length - (intOf i).toNat)
  case atStart => exact ⟨0, Nat.zero_le _, rfl, rfl⟩
  case round =>
    obtain ⟨k, hk, rfl, rfl⟩ := hrel
    by_cases hlt : k < l.length
    · obtain ⟨b, off, ha, hc⟩ := hb k hlt
      rw [ha]
      clear ha hb
      have h8 : l[k].toNat < 256 := UInt8.toNat_lt _
      go_wp2
      go_loop [3, 5, 6] (fun s i _ => ∃ j : Nat, j ≤ 8 ∧ i = .int .i64 j ∧ s = .int .u32 ((refMid j (crcRun (l.take k)) l[k]).toNat : Int)) (fun _ i _ => 8 - (intOf i).toNat)
      case atStart => exact ⟨0, by omega, rfl, by rw [refMid_zero]⟩
      case round =>
        obtain ⟨j, hj, rfl, rfl⟩ := hrel
        by_cases hj8 : j < 8
        · go_wp2
          · go_round
            case rel => exact ⟨j + 1, by omega, by go_num, by rw [mid_hit _ _ _ (by assumption)]⟩
            case measure => simp [intOf]; omega
          · go_round
            case rel => exact ⟨j + 1, by omega, by go_num, by rw [mid_miss _ _ _ (by assumption)]⟩
            case measure => simp [intOf]; omega
        · go_wp2
          go_round
          case rel => exact ⟨k + 1, by omega, by go_num, by rw [take_snoc' l k hlt, crcRun_snoc, show j = 8 by omega, refMid_eight]⟩
          case measure => simp [intOf]; omega
    · go_wp2
      go_ret
      exact ⟨by show Ending.returned (Value.int .u32 (bits .xor .u32 ((crcRun (l.take k)).toNat : Int) 4294967295)) = _; rw [crc_not', List.take_of_length_le (by omega)]; rfl, rfl⟩
end Go.Proofs.Ytcgfkgkajifpbab
