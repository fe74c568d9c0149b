/-
  The walk of EncTurns.
-/
import Derived.Test.YtcgfkgkajifpbabEncSums
import Derived.Test.YtcgfkgkajifpbabSame
import Derived.Test.YtcgfkgkajifpbabNum
import Derived.Test.YtcgfkgkajifpbabTurnMath
import Derived.BigRegion
namespace Go.Proofs.Ytcgfkgkajifpbab
open Go.RowKit

theorem ownsRow_empty (w : World) (e : TypeId) : (w.alloc (.cells #[] e)).ownsRow w.heap.size e 1 (.slice (some ⟨w.heap.size, 0, none⟩) 0 0) 0 [] :=
  World.ownsRow_made w #[] 0 (Nat.le_refl _) (by unfold maxLen; omega) rfl

set_option maxRecDepth 100000 in
set_option maxHeartbeats 400000 in
theorem encTurns_any (a : Option Addr) (l : List UInt8) (cap : Nat) (at' low mask : Int) (w : World) (hb : BytesAt w a l) (hl : l.length ≤ 9223372036854775807) :
    Calls Try.prog 7 #[.slice a l.length cap, .int .i64 at', .int .i64 low, .int .u32 mask] w fun e w' => e = .returned (.bool true) ∧ Below w.heap.size w w' := by
  obtain ⟨i0, hi, hz0, hz1, hz2⟩ := info_parts infoByte
  by_cases h0 : l.length = 0
  · have q0 : ((l.length : Int) == 0) = true := by rw [h0]; rfl
    go_enter Try.func7, Try.ntmps7
    go_wp2_with fail
    refine (summing_any _).mono ?_
    rintro e w1 ⟨rfl, hw1⟩
    go_wp2
    go_ret
    exact ⟨rfl, hw1⟩
  · have q0 : ((l.length : Int) == 0) = false := by rw [beq_eq_false_iff_ne]; omega
    by_cases h1000 : 1000 < l.length
    · go_enter Try.func7, Try.ntmps7
      go_wp2_with fail
      refine (summing_any _).mono ?_
      rintro e w1 ⟨rfl, hw1⟩
      go_wp2
      go_ret
      exact ⟨rfl, hw1⟩
    · obtain ⟨b, off, rfl⟩ := hb.addr (by omega)
      go_enter Try.func7, Try.ntmps7
      go_wp2_with fail
      refine (summing_any _).mono ?_
      rintro e w1 ⟨rfl, hw1⟩
      have hs1 := hw1.size
      have hb1 := hb.later hw1
      obtain ⟨ad, had, hsrc⟩ := (hb1.later ((Below.refl _ w1).alloc (Nat.le_refl _) (.cells #[] 5))).src (by rw [bvs_length]; omega)
      obtain rfl : ad = ⟨b, off, none⟩ := by simpa using had.symm
      go_wp2_with (at_builtin; refine wpList_append_own _ rfl (.tmp 23) (.tmp 24) 22 rfl w1.heap.size 5 i0 (.int .u8 0) 1 1 Try.underlying22 hi hz0 hz1 hz2 rfl (by decide) _ _ _ rfl (ownsRow_empty w1 _) ⟨b, off, none⟩ l.length _ (bvs l) rfl (by rw [bvs_length, Nat.mul_one]) hsrc (bvs_oneCell l) (by unfold maxLen; omega) (by omega) (by simp) ?_)
      intro v2 w2 hown2 hgrow2 _
      have hw2 : Below w1.heap.size w1 w2 := ((Below.refl _ w1).alloc (Nat.le_refl _) _).grown hgrow2 (by simp) (fun k hk => by simp [Value.ownBlock] at hk; omega)
      have hw2' := hw1.trans (hw2.mono hs1)
      have hb2 := hb1.later hw2
      clear hgrow2 hsrc hb1
      obtain ⟨g, c2, hv2, hg2⟩ : ∃ g c2, v2 = .slice (some ⟨g, 0, none⟩) l.length c2 ∧ w1.heap.size ≤ g := by
        rcases hown2.2 with ⟨_, h⟩ | ⟨g, c2, _, h1, h2, _⟩
        · omega
        · exact ⟨g, c2, h1, h2⟩
      rw [hv2] at hown2 ⊢
      clear hv2
      have b1 : 0 ≤ bits .and .i64 at' 1048575 ∧ bits .and .i64 at' 1048575 ≤ 1048575 := and_i64_bounds at' 1048575 (by omega)
      have b2 : 0 ≤ bits .and .i64 low 7 ∧ bits .and .i64 low 7 ≤ 7 := and_i64_bounds low 7 (by omega)
      have hlp : (1 : Int) ≤ (l.length : Int) := by omega
      have hmod : 0 ≤ bits .and .i64 at' 1048575 % (l.length : Int) ∧ bits .and .i64 at' 1048575 % (l.length : Int) < (l.length : Int) := ⟨Int.emod_nonneg _ (by omega), Int.emod_lt_of_pos _ (by omega)⟩
      go_upto_region 6 with (fail)
      go_cut [10] (fun s10 wx => ∃ F : Nat, s10 = .int .i64 (F : Int) ∧ F < 8 * l.length ∧ w2 = wx)
      case first =>
        go_wp2_with fail
        go_meet
        refine ⟨(8 * (bits .and .i64 at' 1048575 % (l.length : Int)) + bits .and .i64 low 7).toNat, ?_, ?_, rfl⟩
        · congr 1; omega
        · omega
      obtain ⟨F, rfl, hF, rfl⟩ := hcut
      clear b1 b2 hmod
      go_wp2_with fail
      go_loopw [11, 12] (fun s11 _ wr => ∃ (k : Nat) (m : List UInt8), k ≤ 32 ∧ s11 = .int .i64 (k : Int) ∧ Agree F l m ∧ wr.ownsRow w1.heap.size 5 1 (.slice (some ⟨g, 0, none⟩) l.length c2) l.length (bvs m) ∧ Below w1.heap.size w1 wr) (fun s11 _ _ => 32 - (intOf s11).toNat)
      case atStart => exact ⟨0, l, by omega, rfl, Agree.refl _ _, hown2, hw2⟩
      case round =>
        obtain ⟨k, m, hk, rfl, hag, hownr, hbr⟩ := hrel
        have HML := Lib.hid hag.1
        by_cases hk32 : k < 32
        · by_cases hbit : bits .and .u32 (mask / 2 ^ k) 1 = 1
          · by_cases hin : F + k < 8 * l.length
            · obtain ⟨c, hc⟩ : ∃ c, c = m.getD ((F + k) / 8) 0 := ⟨_, rfl⟩
              have hcell : wr.cell? ⟨g, (F + k) / 8, none⟩ = some (.int .u8 (c.toNat : Int)) := by
                have hj : (F + k) / 8 < m.length := by have := HML.out; omega
                rw [hownr.cellAt ((F + k) / 8) (by have := HML.out; omega), bvs_get m _ hj, hc, List.getD_eq_getElem?_getD, List.getElem?_eq_getElem hj]
                rfl
              have hfr := hownr.frozenAt ((F + k) / 8)
              have hx := turn_val c ((F + k) % 8) (by omega)
              have HC := Lib.hid hc
              have HX := Lib.hid hx
              have c8 := c.toNat_lt
              clear hc hx
              go_wp2_with fail
              go_region
              go_wp2_with fail
              go_roundw
              case rel =>
                rw [pow_mod256 _ (by omega), HX.out]
                have hst := hownr.stored ((F + k) / 8) (.int .u8 ((c ^^^ UInt8.ofNat (2 ^ ((F + k) % 8))).toNat : Int))
                refine ⟨k + 1, turn m (F + k), by omega, by go_num, hag.turn (by omega) (by omega), ?_, (hbr.setCell hg2 _).drew⟩
                refine World.ownsRow.drew (ownsRow_cast hst.1 rfl ?_)
                unfold turn
                rw [← HC.out]
                simp [bvs, bv, List.map_set]
              case measure => simp [intOf]; omega
            · go_wp2_with fail
              go_roundw
              case rel => exact ⟨k + 1, m, by omega, by go_num, hag, hownr, hbr⟩
              case measure => simp [intOf]; omega
          · go_wp2_with fail
            go_roundw
            case rel => exact ⟨k + 1, m, by omega, by go_num, hag, hownr, hbr⟩
            case measure => simp [intOf]; omega
        · have hm3 := BytesAt.rowAt hownr
          have hb3 := (hb.later hw1).later hbr
          have s1 := sum_any _ m c2 wr hm3 (by have := HML.out; omega)
          have s2 := fun w => same_any (some ⟨g, 0, none⟩) (some ⟨b, off, none⟩) m l c2 cap w
          rw [← HML.out] at s1 s2
          have S1 := Lib.hid s1
          have S2 := Lib.hid s2
          clear s1 s2
          go_wp2_with fail
          refine S1.out.mono ?_
          rintro e w' ⟨rfl, rfl⟩
          go_wp2_with fail
          refine (sum_any _ l _ wr hb3 hl).mono ?_
          rintro e w' ⟨rfl, rfl⟩
          go_wp2_with fail
          refine (S2.out wr hm3 hb3 hl hl).mono ?_
          rintro e w4 ⟨rfl, hw4⟩
          have hfin : ((((crc m).toNat : Int) == ((crc l).toNat : Int)) == decide (m = l)) = true := by
            have hs := hag.sums
            by_cases he : m = l
            · rw [he]; simp
            · have hne : crc m ≠ crc l := fun h => he (hs.1 h)
              have hni : ¬ ((crc m).toNat : Int) = ((crc l).toNat : Int) := fun h => hne (BitVec.eq_of_toNat_eq (by omega))
              simp [he, hni]
          go_wp2
          go_ret
          exact ⟨rfl, (hw1.trans (hbr.mono hs1)).trans (hw4.mono (by have := hbr.size; omega))⟩
theorem encTurns_walk (w : World) (a0 : Option Addr) (len0 cap0 : Nat) (z0 : List Int) (w0 : IsRow .u8 w a0 len0 cap0 z0) (a1 : Int) (_ : (Lit.int .i64 a1).wf = true) (a2 : Int) (_ : (Lit.int .i64 a2).wf = true) (a3 : Int) (_ : (Lit.int .u32 a3).wf = true) :
    Calls Try.prog 7 #[.slice a0 len0 cap0, .int .i64 a1, .int .i64 a2, .int .u32 a3] w fun e w' => e = .returned (.bool true) ∧ Below w.heap.size w w' := by
  obtain ⟨l, rfl, hl, hm, hb⟩ := w0.bytes
  exact encTurns_any a0 l cap0 a1 a2 a3 w hb (by omega)
end Go.Proofs.Ytcgfkgkajifpbab
