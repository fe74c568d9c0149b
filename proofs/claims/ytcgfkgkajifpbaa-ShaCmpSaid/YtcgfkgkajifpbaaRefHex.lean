/-
  The walk of the reference's Hex.
-/
import Derived.Test.YtcgfkgkajifpbaaHexMath
import Derived.BigRegion
namespace Go.Proofs.Ytcgfkgkajifpbaa
open Go.RowKit

set_option maxRecDepth 100000 in
set_option maxHeartbeats 1000000 in
theorem refhex_any (idl : List UInt8) (w : World) (hid : idl.length = 32) :
    Calls Try.prog 8 #[.agg (bvs idl).toArray] w fun e w' => e = .returned (.string ⟨(hexL idl).toArray⟩) ∧ Below w.heap.size w w' := by
  obtain ⟨i0, hi, hz0, hz1, hz2⟩ := info_parts infoByte
  obtain ⟨X, hX⟩ : ∃ X, X = bvs idl := ⟨_, rfl⟩
  rw [← hX]
  have HX := Lib.hid hX
  obtain ⟨w0, hw0⟩ : ∃ w0, w0 = w.alloc (.cells X.toArray 22) := ⟨_, rfl⟩
  have hx0 : w0.heap[w.heap.size]? = some (.cells X.toArray 22 (0, 0)) := by rw [hw0]; exact heap_alloc_new w _
  have hs0 : w0.heap.size = w.heap.size + 1 := by rw [hw0]; simp
  have hb0 : Below w.heap.size w w0 := by rw [hw0]; exact (Below.refl _ w).alloc (Nat.le_refl _) _
  have HX0 := Lib.hid hx0
  have HS0 := Lib.hid hs0
  clear hX hx0 hs0
  go_enter Try.func8, Try.ntmps8
  go_wp2_with fail
  rw [← hw0]
  clear hw0
  go_loopw [3, 4] (fun s3 s4 wr => ∃ k : Nat, k ≤ 32 ∧ s4 = .int .i64 (k : Int) ∧ wr.ownsRow w0.heap.size 5 1 s3 (2 * k) (bvs (hexL (idl.take k))) ∧ Below w0.heap.size w0 wr) (fun _ s4 _ => 32 - (intOf s4).toNat)
  case atStart =>
    have hs0 := HS0.out
    refine ⟨0, by omega, rfl, ?_, (Below.refl _ w0).alloc (Nat.le_refl _) _⟩
    rw [← hs0]
    exact ownsRow_empty w0 _
  case round =>
    obtain ⟨k, hk, rfl, hown, hbr⟩ := hrel
    have HS := Lib.hid hbr.size
    by_cases hlt : k < 32
    · obtain ⟨c, hc⟩ : ∃ c, c = idl[k]'(by omega) := ⟨_, rfl⟩
      have hsn := hexL_snoc idl k (by omega)
      rw [← hc] at hsn
      have c8 := c.toNat_lt
      have c0 : wr.cell? ⟨w.heap.size, k, none⟩ = some (.int .u8 (c.toNat : Int)) := by
        rw [hbr.cell (p := ⟨w.heap.size, k, none⟩) (by have := HS0.out; show w.heap.size < _; omega), cell_of_block HX0.out, HX.out]
        simpa [hc] using bvs_get idl k (by omega)
      have hko : w.heap.size < wr.heap.size := by have := HS.out; have := HS0.out; omega
      obtain ⟨q, hq⟩ : ∃ q : Nat, q = c.toNat / 16 := ⟨_, rfl⟩
      obtain ⟨r, hr⟩ : ∃ r : Nat, r = c.toNat % 16 := ⟨_, rfl⟩
      rw [← hq, ← hr] at hsn
      have q1 : IntKind.u8.wrap ((c.toNat : Int) / 16) = (q : Int) := by rw [IntKind.wrap_u8]; omega
      have r1 : (c.toNat : Int).tmod 16 = (r : Int) := by rw [Int.tmod_eq_emod_of_nonneg (by omega)]; omega
      have q2 : (q : Int) < 16 := by omega
      have r2 : (r : Int) < 16 := by omega
      have HC := Lib.hid hc
      clear hq hr
      have HSN := Lib.hid hsn
      clear hc hsn
      go_wp2_with fail
      go_region_law (first | (refine step_append_own rfl (.tmp 10) (.tmp 21) 32 rfl w0.heap.size 5 i0 (.int .u8 0) 1 1 Try.underlying32 hi hz0 hz1 hz2 rfl (by decide) _ (2 * k) _ rfl (hown.alloc _).drew ⟨wr.heap.size, 0, none⟩ 2 2 [.int .u8 _, .int .u8 _] rfl rfl (cells_two wr _ _ _) (two_one _ _ _ _) (by unfold maxLen; omega) (by omega) (by have := HS.out; simp [World.drew]; omega) ?_; intro v2 w2 hown2 hgrow2 _))
      all_goals
        go_wp2_with fail
        go_roundw
        case rel =>
          refine ⟨k + 1, by omega, by go_num, ?_, (((hbr.alloc HS.out _).drew).grown hgrow2 (by have := HS.out; simp [World.drew]; omega) (fun k hk => (hown.lt k hk).1))⟩
          refine ownsRow_cast hown2 (by omega) ?_
          rw [HSN.out, bvs_append]
          simp only [tab_at]
          rfl
        case measure => simp [intOf]; omega
    · have hall : idl.take k = idl := List.take_of_length_le (by omega)
      rw [hall] at hown
      obtain ⟨a, cap, rfl, hB, hn, _, _⟩ := BytesAt.row hown
      have hcv := conv_bytes hB cap
      clear hall hB hown
      go_wp2_with fail
      go_ret
      exact ⟨rfl, hb0.trans (hbr.mono (by have := HS0.out; omega))⟩
end Go.Proofs.Ytcgfkgkajifpbaa
