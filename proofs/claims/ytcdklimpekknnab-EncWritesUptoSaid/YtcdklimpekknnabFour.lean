/-
  The walks of Reader.Four.
-/
import Derived.Test.YtcdklimpekknnabReadNum
import Derived.Laws.BitsAllLaws
namespace Go.Proofs.Ytcdklimpekknnab
open Go.RowKit

/-- The number of some bytes, the lowest first. -/
def leVal : List UInt8 → Nat
  | [] => 0
  | c :: rest => c.toNat + 256 * leVal rest
theorem leVal_lt : ∀ l : List UInt8, leVal l < 256 ^ l.length
  | [] => by simp [leVal]
  | c :: rest => by
    have := leVal_lt rest
    have hc := c.toNat_lt
    simp only [leVal, List.length_cons, Nat.pow_succ]
    omega
theorem leVal_snoc : ∀ (l : List UInt8) (c : UInt8), leVal (l ++ [c]) = leVal l + c.toNat * 256 ^ l.length
  | [], c => by simp [leVal]
  | d :: rest, c => by
    have := leVal_snoc rest c
    simp only [List.cons_append, leVal, List.length_cons, Nat.pow_succ, this, Nat.mul_add]
    rw [Nat.mul_left_comm 256, Nat.mul_comm 256 (256 ^ rest.length)]
    omega
theorem or_byte (v g k : Nat) (hk : k ≤ 3) (hv : v < 256 ^ k) (hg : g < 256) : bits .or .u32 (v : Int) ((g * 2 ^ (8 * k) : Nat) : Int) = ((v + g * 256 ^ k : Nat) : Int) := by
  have e7 : 256 ^ k = 2 ^ (8 * k) := by rw [Nat.pow_mul]
  have hp : 2 ^ (8 * k) ≤ 2 ^ 24 := Nat.pow_le_pow_right (by omega) (by omega)
  rw [e7] at hv ⊢
  have hgk : g * 2 ^ (8 * k) ≤ 255 * 2 ^ (8 * k) := Nat.mul_le_mul_right _ (by omega)
  have h24 : (2 : Nat) ^ 24 = 16777216 := by decide
  rw [h24] at hp
  rw [u32_or_nat _ _ (by omega) (by omega), Nat.or_comm, Nat.mul_comm g, ← Nat.two_pow_add_eq_or_of_lt hv]
  congr 1
  omega

theorem le_step (T : List UInt8) (k : Nat) (h : k < T.length) (hk : k ≤ 3) :
    bits .or .u32 (leVal (T.take k) : Int) ((T[k].toNat : Int) * 2 ^ (8 * k) % 4294967296) = (leVal (T.take (k + 1)) : Int) := by
  have hc := T[k].toNat_lt
  have hv : leVal (T.take k) < 256 ^ k := by
    have := leVal_lt (T.take k)
    rwa [List.length_take, Nat.min_eq_left (by omega)] at this
  have hp : 2 ^ (8 * k) ≤ 2 ^ 24 := Nat.pow_le_pow_right (by omega) (by omega)
  have h24 : (2 : Nat) ^ 24 = 16777216 := by decide
  rw [h24] at hp
  have hgk : T[k].toNat * 2 ^ (8 * k) ≤ 255 * 2 ^ (8 * k) := Nat.mul_le_mul_right _ (by omega)
  have e2 : (T[k].toNat : Int) * 2 ^ (8 * k) % 4294967296 = ((T[k].toNat * 2 ^ (8 * k) : Nat) : Int) := by
    have e3 : (T[k].toNat : Int) * 2 ^ (8 * k) = ((T[k].toNat * 2 ^ (8 * k) : Nat) : Int) := by simp
    rw [e3]
    omega
  rw [e2, or_byte _ _ _ hk hv hc, List.take_succ_eq_append_getElem h, leVal_snoc, List.length_take, Nat.min_eq_left (by omega)]

set_option maxRecDepth 100000 in
set_option maxHeartbeats 400000 in
theorem rfour_none (R Q : Nat) (l : List UInt8) (f : Bool) (w : World) (h : Reads w R Q l f) (hn : l.length < 4) :
    Calls Try.prog 30 #[.pointer (some ⟨R, 0, none⟩)] w (ReadOn R Q (.int .u32 0) [] true w) := by
  go_enter Try.func30, Try.ntmps30
  go_wp2_with fail
  refine (take_fail R Q l f 4 w h hn).mono ?_
  rintro e w1 ⟨rfl, hr1, hg1⟩
  go_wp2_with fail
  refine wp_loop_rounds 1 ?_
  rw [rounds_succ]
  go_wp2_with fail
  go_ret
  exact ⟨rfl, hr1, hg1⟩

set_option maxRecDepth 100000 in
set_option maxHeartbeats 400000 in
theorem rfour_some (R Q : Nat) (l : List UInt8) (f : Bool) (w : World) (h : Reads w R Q l f) (hn : 4 ≤ l.length) :
    Calls Try.prog 30 #[.pointer (some ⟨R, 0, none⟩)] w (ReadOn R Q (.int .u32 (leVal (l.take 4) : Int)) (l.drop 4) f w) := by
  have hl4 : (l.take 4).length = 4 := by simp; omega
  obtain ⟨T, hT⟩ : ∃ T, T = l.take 4 := ⟨_, rfl⟩
  have htk := take_ok R Q l f 4 w h hn
  unfold Took at htk
  rw [← hT] at htk hl4
  rw [hl4] at htk
  have HT := Lib.hid hT
  have H4 := Lib.hid hl4
  have HTK := Lib.hid htk
  clear hT hl4 htk
  go_enter Try.func30, Try.ntmps30
  go_wp2_with fail
  refine HTK.out.mono ?_
  rintro e w1 ⟨a, c, rfl, hB, _, hr1, hg1⟩
  go_wp2_with fail
  go_loop [3, 4, 5, 9] (fun s3 _ _ s9 => ∃ k : Nat, k ≤ 4 ∧ s9 = .int .i64 (k : Int) ∧ s3 = .int .u32 (leVal (T.take k) : Int)) (fun _ _ _ s9 => 4 - (intOf s9).toNat)
  case atStart => exact ⟨0, by omega, rfl, rfl⟩
  case round =>
    obtain ⟨k, hk, rfl, rfl⟩ := hrel
    by_cases hlt : k < 4
    · have hkT : k < T.length := by rw [H4.out]; exact hlt
      obtain ⟨b, off, ha, hc⟩ := hB k hkT
      obtain ⟨d, hd⟩ : ∃ d, d = T[k] := ⟨_, rfl⟩
      rw [← hd] at hc
      have d8 := d.toNat_lt
      have HD := Lib.hid hd
      rw [ha]
      clear ha hB hd
      go_wp2_with fail
      go_round
      case rel => exact ⟨k + 1, by omega, by go_num, by rw [HD.out, le_step T k hkT (by omega)]⟩
      case measure => simp [intOf]; omega
    · go_wp2_with fail
      go_ret
      have hTk : T.take k = l.take 4 := by rw [List.take_of_length_le (show T.length ≤ k by rw [H4.out]; omega), HT.out]
      exact ⟨by rw [← hTk]; rfl, hr1, hg1⟩
end Go.Proofs.Ytcdklimpekknnab
