/-
  The walk of EncFails.
-/
import Derived.Test.YtcgfkgkajifpbabReading
import Derived.Test.YtcgfkgkajifpbabFour
import Derived.Test.YtcgfkgkajifpbabTurnMath
import Derived.Deep.CutBlock
import Derived.Test.YtcgfkgkajifpbabIdEq
namespace Go.Proofs.Ytcgfkgkajifpbab
open Go.RowKit

theorem rnum_nil : rnum [] 4611686018427387904 = none := by decide +kernel
theorem rtext_nil : rtext [] 100 = none := by decide +kernel

set_option maxRecDepth 100000 in
set_option maxHeartbeats 1000000 in
theorem encFails_any (a : Option Addr) (l : List UInt8) (cap : Nat) (at' : Int) (ca : Option Addr) (zs : List Int) (ccap : Nat) (w : World) (hb : BytesAt w a l) (hl : l.length ≤ 9223372036854775807) (hc : IntsAt .i64 w ca zs) (hz : zs.length ≤ 9223372036854775807) :
    Calls Try.prog 9 #[.slice a l.length cap, .int .i64 at', .slice ca zs.length ccap] w fun e w' => e = .returned (.bool true) ∧ Below w.heap.size w w' := by
  by_cases h500 : 500 < l.length
  · go_enter Try.func9, Try.ntmps9
    go_wp2_with fail
    refine (reading_any _).mono ?_
    rintro e w1 ⟨rfl, hw1⟩
    go_wp2_with fail
    go_ret
    exact ⟨rfl, hw1⟩
  · by_cases h50 : 50 < zs.length
    · go_enter Try.func9, Try.ntmps9
      go_wp2_with fail
      refine (reading_any _).mono ?_
      rintro e w1 ⟨rfl, hw1⟩
      go_wp2_with fail
      go_ret
      exact ⟨rfl, hw1⟩
    · go_enter Try.func9, Try.ntmps9
      go_wp2_with fail
      refine (reading_any _).mono ?_
      rintro e w1 ⟨rfl, hw1⟩
      go_wp2_with fail
      refine (read_any a l cap w1 (hb.later hw1) (by omega)).mono ?_
      rintro e w2 ⟨R, Q, rfl, hRw, hr2, hw2⟩
      have hR : w.heap.size ≤ R := Nat.le_trans hw1.size hRw
      have hw2' := hw1.trans (hw2.mono hw1.size)
      clear hw1 hw2 hRw
      have b1 : 0 ≤ bits .and .i64 at' 63 ∧ bits .and .i64 at' 63 ≤ 63 := and_i64_bounds at' 63 (by omega)
      go_upto_block 0 with (fail)
      go_cut [8] (fun _ wx => ∃ l' f', Reads wx R Q l' f' ∧ Below w.heap.size w wx)
      case first =>
        go_wp2_with fail
        go_loopw [8] (fun s8 wr => ∃ (k : Nat) (l' : List UInt8) (f' : Bool), k ≤ 63 ∧ s8 = .int .i64 (k : Int) ∧ Reads wr R Q l' f' ∧ Below w.heap.size w wr) (fun s8 _ => 64 - (intOf s8).toNat)
        case atStart => exact ⟨0, l, false, by omega, rfl, hr2, hw2'⟩
        case round =>
          obtain ⟨k, l', f', hk, rfl, hr, hbr⟩ := hrel
          by_cases hkA : (k : Int) < bits .and .i64 at' 63
          · go_wp2_with fail
            refine (left_any R Q l' f' _ hr).mono ?_
            rintro e w' ⟨rfl, rfl⟩
            by_cases hpos : 0 < l'.length
            · cases hn : rnum l' 4611686018427387904 with
              | none =>
                have HN := Lib.hid hn
                clear hn
                go_wp2_with fail
                refine (rnum_none R Q l' f' _ _ hr HN.out).mono ?_
                rintro e w3 ⟨rfl, hr3, hg3⟩
                go_wp2_with fail
                go_roundw
                case rel => exact ⟨k + 1, _, _, by omega, by go_num, hr3, below_grownBy (Nat.le_refl _) hbr hg3 hR⟩
                case measure => simp [intOf]; omega
              | some p =>
                obtain ⟨n, l2⟩ := p
                have HN := Lib.hid hn
                clear hn
                go_wp2_with fail
                refine (rnum_some R Q l' f' _ n l2 _ hr HN.out).mono ?_
                rintro e w3 ⟨rfl, hr3, hg3⟩
                go_wp2_with fail
                go_roundw
                case rel => exact ⟨k + 1, _, _, by omega, by go_num, hr3, below_grownBy (Nat.le_refl _) hbr hg3 hR⟩
                case measure => simp [intOf]; omega
            · go_wp2_with fail
              go_meet
              exact ⟨l', f', hr, hbr⟩
          · go_wp2_with fail
            go_meet
            exact ⟨l', f', hr, hbr⟩
      obtain ⟨l', f', hr, hbr⟩ := hcut
      go_wp2_with fail
      refine (fail_any R Q l' f' _ hr).mono ?_
      rintro e w3 ⟨rfl, hr3, hg3⟩
      have hw3 := below_grownBy (Nat.le_refl _) hbr hg3 hR
      clear hr hbr hg3 hr2 hw2' b1
      go_wp2_with fail
      go_loopw [10, 41] (fun _ s41 wr => ∃ k : Nat, k ≤ zs.length ∧ s41 = .int .i64 (k : Int) ∧ Reads wr R Q [] true ∧ Below w.heap.size w wr) (fun _ s41 _ => zs.length - (intOf s41).toNat)
      case atStart => exact ⟨0, by omega, rfl, hr3, hw3⟩
      case round =>
        obtain ⟨k, hk, rfl, hr, hbr⟩ := hrel
        clear hr3 hw3
        by_cases hlt : k < zs.length
        · obtain ⟨b, off, ha, hcell, hwf⟩ := (hc.later hbr) k hlt
          obtain ⟨z, hz'⟩ : ∃ z, z = zs[k] := ⟨_, rfl⟩
          rw [← hz'] at hcell
          clear hz' hwf
          rw [ha]
          clear ha
          have b3 : 0 ≤ bits .and .i64 z 3 ∧ bits .and .i64 z 3 ≤ 3 := and_i64_bounds z 3 (by omega)
          rcases (show bits .and .i64 z 3 = 0 ∨ bits .and .i64 z 3 = 1 ∨ bits .and .i64 z 3 = 2 ∨ bits .and .i64 z 3 = 3 by omega) with h3 | h3 | h3 | h3
          · go_wp2_with fail
            refine (rnum_none R Q [] true _ _ hr rnum_nil).mono ?_
            rintro e w3 ⟨rfl, hr3, hg3⟩
            go_wp2_with fail
            refine (good_any R Q [] true _ hr3).mono ?_
            rintro e w' ⟨rfl, rfl⟩
            go_wp2_with fail
            refine (done_any R Q [] true _ hr3).mono ?_
            rintro e w' ⟨rfl, rfl⟩
            go_wp2_with fail
            refine (left_any R Q [] true _ hr3).mono ?_
            rintro e w' ⟨rfl, rfl⟩
            go_wp2_with fail
            go_roundw
            case rel => exact ⟨k + 1, by omega, by go_num, hr3, below_grownBy (Nat.le_refl _) hbr hg3 hR⟩
            case measure => simp [intOf]; omega
          · go_wp2_with fail
            refine (rtext_none R Q [] true _ _ hr rtext_nil).mono ?_
            rintro e w3 ⟨rfl, hr3, hg3⟩
            go_wp2_with fail
            refine (good_any R Q [] true _ hr3).mono ?_
            rintro e w' ⟨rfl, rfl⟩
            go_wp2_with fail
            refine (done_any R Q [] true _ hr3).mono ?_
            rintro e w' ⟨rfl, rfl⟩
            go_wp2_with fail
            refine (left_any R Q [] true _ hr3).mono ?_
            rintro e w' ⟨rfl, rfl⟩
            go_wp2_with fail
            go_roundw
            case rel => exact ⟨k + 1, by omega, by go_num, hr3, below_grownBy (Nat.le_refl _) hbr hg3 hR⟩
            case measure => simp [intOf]; omega
          · go_wp2_with fail
            refine (rid_none R Q [] true _ hr (by simp)).mono ?_
            rintro e w3 ⟨rfl, hr3, hg3⟩
            have heq := eq_id0 w3 id0 rfl
            rw [decide_eq_true (show id0 = List.replicate 32 0 from rfl)] at heq
            go_wp2_with fail
            refine (good_any R Q [] true _ hr3).mono ?_
            rintro e w' ⟨rfl, rfl⟩
            go_wp2_with fail
            refine (done_any R Q [] true _ hr3).mono ?_
            rintro e w' ⟨rfl, rfl⟩
            go_wp2_with fail
            refine (left_any R Q [] true _ hr3).mono ?_
            rintro e w' ⟨rfl, rfl⟩
            go_wp2_with fail
            go_roundw
            case rel => exact ⟨k + 1, by omega, by go_num, hr3, below_grownBy (Nat.le_refl _) hbr hg3 hR⟩
            case measure => simp [intOf]; omega
          · go_wp2_with fail
            refine (rfour_none R Q [] true _ hr (by simp)).mono ?_
            rintro e w3 ⟨rfl, hr3, hg3⟩
            go_wp2_with fail
            refine (good_any R Q [] true _ hr3).mono ?_
            rintro e w' ⟨rfl, rfl⟩
            go_wp2_with fail
            refine (done_any R Q [] true _ hr3).mono ?_
            rintro e w' ⟨rfl, rfl⟩
            go_wp2_with fail
            refine (left_any R Q [] true _ hr3).mono ?_
            rintro e w' ⟨rfl, rfl⟩
            go_wp2_with fail
            go_roundw
            case rel => exact ⟨k + 1, by omega, by go_num, hr3, below_grownBy (Nat.le_refl _) hbr hg3 hR⟩
            case measure => simp [intOf]; omega
        · go_wp2_with fail
          refine (good_any R Q [] true _ hr).mono ?_
          rintro e w' ⟨rfl, rfl⟩
          go_wp2_with fail
          go_ret
          exact ⟨rfl, hbr⟩
theorem encFails_walk (w : World) (a0 : Option Addr) (len0 cap0 : Nat) (z0 : List Int) (w0 : IsRow .u8 w a0 len0 cap0 z0) (a1 : Int) (_ : (Lit.int .i64 a1).wf = true) (a2 : Option Addr) (len2 cap2 : Nat) (z2 : List Int) (w2 : IsRow .i64 w a2 len2 cap2 z2) :
    Calls Try.prog 9 #[.slice a0 len0 cap0, .int .i64 a1, .slice a2 len2 cap2] w fun e w' => e = .returned (.bool true) ∧ Below w.heap.size w w' := by
  obtain ⟨l, rfl, hl, hm, hb⟩ := w0.bytes
  obtain ⟨zs, rfl, hl2, hm2, hc⟩ := w2.ints
  exact encFails_any a0 l cap0 a1 a2 zs cap2 w hb (by omega) hc (by omega)
end Go.Proofs.Ytcgfkgkajifpbab
