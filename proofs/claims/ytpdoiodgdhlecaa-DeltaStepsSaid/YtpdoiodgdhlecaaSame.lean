/-
  The walks of pollardref01.SameBytes and Join.
-/
import Derived.Test.YtpdoiodgdhlecaaBase
import Derived.Lib.Hide
import Derived.Deep.QuietTactic
import Derived.BigQuiet
namespace Go.Proofs.Ytpdoiodgdhlecaa
open Go.RowKit

theorem take_all_eq {l m : List UInt8} (hlen : l.length = m.length) (k : Nat) (hk : k = l.length) (h : l.take k = m.take k) : l = m := by
  subst hk
  rw [List.take_of_length_le (Nat.le_refl _), List.take_of_length_le (by omega)] at h
  exact h
theorem take_step_eq {l m : List UInt8} (k : Nat) (h1 : k < l.length) (h2 : k < m.length) (h : l.take k = m.take k) (he : (l[k].toNat : Int) = (m[k].toNat : Int)) : l.take (k + 1) = m.take (k + 1) := by
  rw [List.take_succ_eq_append_getElem h1, List.take_succ_eq_append_getElem h2, h]
  have : l[k] = m[k] := UInt8.toNat_inj.1 (by omega)
  rw [this]

set_option maxHeartbeats 400000 in
theorem same_any (a b : Option Addr) (l m : List UInt8) (c d : Nat) (w : World) (ha : BytesAt w a l) (hb : BytesAt w b m) (hl : l.length ≤ 9223372036854775807) (hm : m.length ≤ 9223372036854775807) :
    Calls Try.prog 12 #[.slice a l.length c, .slice b m.length d] w fun e w' => e = .returned (.bool (decide (l = m))) ∧ Below w.heap.size w w' := by
  by_cases hlen : l.length = m.length
  · have hln : ((l.length : Int) == (m.length : Int)) = true := by simp [hlen]
    go_enter Try.func12, Try.ntmps12
    go_wp2
    have HLN := Lib.hid hlen
    clear hln hlen
    go_loopw [5] (fun i wr => ∃ k : Nat, k ≤ l.length ∧ i = .int .i64 k ∧ l.take k = m.take k ∧ Below w.heap.size w wr) (fun i _ => l.length - (intOf i).toNat)
    case atStart => exact ⟨0, Nat.zero_le _, rfl, by simp, Below.refl _ _⟩
    case round =>
      obtain ⟨k, hk, rfl, htake, hbel⟩ := hrel
      have HT := Lib.hid htake
      clear htake
      by_cases hlt : k < l.length
      · have hlt2 : k < m.length := by have := HLN.out; omega
        obtain ⟨b1, o1, rfl, hc1⟩ := (ha.later hbel) k hlt
        obtain ⟨b2, o2, rfl, hc2⟩ := (hb.later hbel) k hlt2
        have h1 := UInt8.toNat_lt l[k]
        have h2 := UInt8.toNat_lt m[k]
        go_wp2
        go_quiet (fail)
        go_wp2
        · have hne : ((l[k].toNat : Int) != (m[k].toNat : Int)) = true := by assumption
          have hf : l ≠ m := by
            intro h
            subst h
            simp at hne
          go_ret
          exact ⟨by rw [decide_eq_false hf]; rfl, below_drewN hbel _⟩
        · have heq : ((l[k].toNat : Int) != (m[k].toNat : Int)) = false := by assumption
          have hs := take_step_eq k hlt hlt2 HT.out (by simpa using heq)
          go_roundw
          case rel => exact ⟨k + 1, by omega, by go_num, hs, below_drewN hbel _⟩
          case measure => simp [intOf]; omega
      · have hf : l = m := take_all_eq HLN.out k (by omega) HT.out
        have HF := Lib.hid hf
        clear hf
        go_wp2
        go_ret
        exact ⟨by rw [decide_eq_true HF.out]; rfl, hbel⟩
  · have hln : ((l.length : Int) != (m.length : Int)) = true := by simp; omega
    go_enter Try.func12, Try.ntmps12
    go_wp2
    have hf : l ≠ m := by
      intro h
      exact hlen (by rw [h])
    go_ret
    exact ⟨by rw [decide_eq_false hf]; rfl, Below.refl _ _⟩
end Go.Proofs.Ytpdoiodgdhlecaa
