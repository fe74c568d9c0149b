/-
  The walk of ShaLong.
-/
import Derived.Test.YtkgclhkpncegnaaDoorRefSha
import Derived.Test.YtkgclhkpncegnaaDoorKnown
import Derived.Test.YtkgclhkpncegnaaDoorNamedKit
namespace Go.Proofs.YtkgclhkpncegnaaDoor
open Go.RowKit
set_option linter.unusedSimpArgs false
set_option linter.unusedVariables false

def arr56 : Array Value := #[.int .u8 97, .int .u8 98, .int .u8 99, .int .u8 100, .int .u8 98, .int .u8 99, .int .u8 100, .int .u8 101, .int .u8 99, .int .u8 100, .int .u8 101, .int .u8 102, .int .u8 100, .int .u8 101, .int .u8 102, .int .u8 103, .int .u8 101, .int .u8 102, .int .u8 103, .int .u8 104, .int .u8 102, .int .u8 103, .int .u8 104, .int .u8 105, .int .u8 103, .int .u8 104, .int .u8 105, .int .u8 106, .int .u8 104, .int .u8 105, .int .u8 106, .int .u8 107, .int .u8 105, .int .u8 106, .int .u8 107, .int .u8 108, .int .u8 106, .int .u8 107, .int .u8 108, .int .u8 109, .int .u8 107, .int .u8 108, .int .u8 109, .int .u8 110, .int .u8 108, .int .u8 109, .int .u8 110, .int .u8 111, .int .u8 109, .int .u8 110, .int .u8 111, .int .u8 112, .int .u8 110, .int .u8 111, .int .u8 112, .int .u8 113]
theorem arr56_eq : (bvs txt56).toArray = arr56 := by rfl
def hexNil : ByteArray := ⟨(hexL (sumL [])).toArray⟩
def hex56 : ByteArray := ⟨(hexL (sumL txt56)).toArray⟩
theorem hexNil_eq : hexNil = ⟨#[101, 51, 98, 48, 99, 52, 52, 50, 57, 56, 102, 99, 49, 99, 49, 52, 57, 97, 102, 98, 102, 52, 99, 56, 57, 57, 54, 102, 98, 57, 50, 52, 50, 55, 97, 101, 52, 49, 101, 52, 54, 52, 57, 98, 57, 51, 52, 99, 97, 52, 57, 53, 57, 57, 49, 98, 55, 56, 53, 50, 98, 56, 53, 53]⟩ := by
  unfold hexNil
  rw [sum_nil_hex]
  rfl
theorem hex56_eq : hex56 = ⟨#[50, 52, 56, 100, 54, 97, 54, 49, 100, 50, 48, 54, 51, 56, 98, 56, 101, 53, 99, 48, 50, 54, 57, 51, 48, 99, 51, 101, 54, 48, 51, 57, 97, 51, 51, 99, 101, 52, 53, 57, 54, 52, 102, 102, 50, 49, 54, 55, 102, 54, 101, 99, 101, 100, 100, 52, 49, 57, 100, 98, 48, 54, 99, 49]⟩ := by
  unfold hex56
  rw [sum_56_hex]
  rfl

theorem own_max {w : World} {base n : Nat} {e : TypeId} {g c : Nat} {xs : List Value} (h : w.ownsRow base e 1 (.slice (some ⟨g, 0, none⟩) n c) n xs) : c ≤ 9223372036854775807 := by
  rcases h.2 with ⟨h, _⟩ | ⟨g', cap', cur, hv, hbg, hg, hnc, hcm, hcs, htake⟩
  · simp at h
  · simp only [Value.slice.injEq, Option.some.injEq, Addr.mk.injEq, and_true, true_and] at hv
    obtain ⟨rfl, rfl⟩ := hv
    unfold maxLen at hcm
    omega
set_option maxRecDepth 100000 in
set_option maxHeartbeats 4000000 in
theorem shaLong_any (n : Int) (c : UInt8) (w : World) (hk : KeysAt w) :
    Calls Tryd.prog 6 #[.int .i64 n, .int .u8 (c.toNat : Int)] w fun e w' => e = .returned (.bool true) ∧ Below w.heap.size w w' := by
  have kc := fun (w : World) (C : Array Value) (n c : Nat) => Lib.run_convert_bytes_const (P := Tryd.prog) w 22 5 C n c Tryd.underlying22 Tryd.underlying5
  have hkW : ∀ W, Below w.heap.size w W → KeysAt W := fun W h i hi => cell_later h (hk i hi)
  have hal := alive_any w hk
  obtain ⟨VN, hVN⟩ : ∃ V, V = (bvs (sumL [])).toArray := ⟨_, rfl⟩
  obtain ⟨V5, hV5⟩ : ∃ V, V = (bvs (sumL txt56)).toArray := ⟨_, rfl⟩
  have hsl : ∀ l, (sumL l).length = 32 := fun l => by
    have h1 : (bvs (sumL l)).toArray.size = 32 := by rw [sumL, ← brow_all, brow_size]
    simpa [bvs_length] using h1
  have hs0 : ∀ W, Below w.heap.size w W → Calls Tryd.prog 9 #[.slice none 0 0] W fun e w' => e = .returned (.agg VN) ∧ Below W.heap.size W w' := fun W h => by
    rw [hVN]; exact sum_any none [] 0 W (BytesAt.nil _ _) (fun _ => rfl) (Nat.le_refl _) (by omega) (hkW W h)
  have hh0 : ∀ W : World, Calls Tryd.prog 17 #[.agg VN] W fun e w' => e = .returned (.string hexNil) ∧ Below W.heap.size W w' := fun W => by
    rw [hVN]; exact hex_any (sumL []) W (hsl _)
  have hs5 : ∀ W : World, Below w.heap.size w W → Calls Tryd.prog 9 #[.slice (some ⟨W.heap.size, 0, none⟩) 56 56] (W.alloc (.cells #[.int .u8 97, .int .u8 98, .int .u8 99, .int .u8 100, .int .u8 98, .int .u8 99, .int .u8 100, .int .u8 101, .int .u8 99, .int .u8 100, .int .u8 101, .int .u8 102, .int .u8 100, .int .u8 101, .int .u8 102, .int .u8 103, .int .u8 101, .int .u8 102, .int .u8 103, .int .u8 104, .int .u8 102, .int .u8 103, .int .u8 104, .int .u8 105, .int .u8 103, .int .u8 104, .int .u8 105, .int .u8 106, .int .u8 104, .int .u8 105, .int .u8 106, .int .u8 107, .int .u8 105, .int .u8 106, .int .u8 107, .int .u8 108, .int .u8 106, .int .u8 107, .int .u8 108, .int .u8 109, .int .u8 107, .int .u8 108, .int .u8 109, .int .u8 110, .int .u8 108, .int .u8 109, .int .u8 110, .int .u8 111, .int .u8 109, .int .u8 110, .int .u8 111, .int .u8 112, .int .u8 110, .int .u8 111, .int .u8 112, .int .u8 113] 5 (56, 57))) fun e w' => e = .returned (.agg V5) ∧ Below (W.heap.size + 1) (W.alloc (.cells #[.int .u8 97, .int .u8 98, .int .u8 99, .int .u8 100, .int .u8 98, .int .u8 99, .int .u8 100, .int .u8 101, .int .u8 99, .int .u8 100, .int .u8 101, .int .u8 102, .int .u8 100, .int .u8 101, .int .u8 102, .int .u8 103, .int .u8 101, .int .u8 102, .int .u8 103, .int .u8 104, .int .u8 102, .int .u8 103, .int .u8 104, .int .u8 105, .int .u8 103, .int .u8 104, .int .u8 105, .int .u8 106, .int .u8 104, .int .u8 105, .int .u8 106, .int .u8 107, .int .u8 105, .int .u8 106, .int .u8 107, .int .u8 108, .int .u8 106, .int .u8 107, .int .u8 108, .int .u8 109, .int .u8 107, .int .u8 108, .int .u8 109, .int .u8 110, .int .u8 108, .int .u8 109, .int .u8 110, .int .u8 111, .int .u8 109, .int .u8 110, .int .u8 111, .int .u8 112, .int .u8 110, .int .u8 111, .int .u8 112, .int .u8 113] 5 (56, 57))) w' := fun W h => by
    have h1 := sum_any (some ⟨W.heap.size, 0, none⟩) txt56 56 (W.alloc (.cells (bvs txt56).toArray 5 (56, 57))) (BytesAt.alloc_mark W _ _ _ _ rfl) (by simp) (by decide) (by omega) (hkW _ (h.alloc h.size _))
    rw [← hV5, show txt56.length = 56 from rfl, arr56_eq] at h1
    unfold arr56 at h1
    simpa using h1
  have hh5 : ∀ W : World, Calls Tryd.prog 17 #[.agg V5] W fun e w' => e = .returned (.string hex56) ∧ Below W.heap.size W w' := fun W => by
    rw [hV5]; exact hex_any (sumL txt56) W (hsl _)
  obtain ⟨SN, hSN⟩ : ∃ S, S = hexNil := ⟨_, rfl⟩
  obtain ⟨S5, hS5⟩ : ∃ S, S = hex56 := ⟨_, rfl⟩
  rw [← hSN] at hh0
  rw [← hS5] at hh5
  have hSN' := hSN.trans hexNil_eq
  have hS5' := hS5.trans hex56_eq
  have HSN := Lib.hid hSN'
  have HS56 := Lib.hid hS5'
  clear hSN hS5 hSN' hS5'
  have HK := Lib.hid hkW
  have HAL := Lib.hid hal
  have HS0 := Lib.hid hs0
  have HH0 := Lib.hid hh0
  have HS5 := Lib.hid hs5
  have HH5 := Lib.hid hh5
  have HSL := Lib.hid hsl
  clear hk hkW hal hs0 hh0 hs5 hh5 hVN hV5 hsl
  go_enter Tryd.func6, Tryd.ntmps6
  go_upto_region 3 with (first
    | (go_at_call 7; refine HAL.out.mono ?_; rintro e w1 ⟨rfl, hs⟩)
    | (go_at_call 16; refine (hexing_any _).mono ?_; rintro e w2 ⟨rfl, hb2⟩; replace hs := hs.trans (hb2.mono hs.size); clear hb2))
  rw [← HSN.out, ← HS56.out]
  go_upto_region 5 with (first
    | (go_at_call 9; with_reducible refine (HS0.out _ hs).mono ?_; rintro e w3 ⟨rfl, hb3⟩; replace hs := hs.trans (hb3.mono hs.size); clear hb3)
    | (go_at_call 17; with_reducible refine (HH0.out _).mono ?_; rintro e w4 ⟨rfl, hb4⟩; replace hs := hs.trans (hb4.mono hs.size); clear hb4)
    | (go_at_call 9; with_reducible refine (HS5.out _ hs).mono ?_; rintro e w5 ⟨rfl, hb5⟩; have hb5' := ((Below.refl _ w4).alloc (Nat.le_refl _) _).trans (hb5.mono (Nat.le_succ _)); replace hs := hs.trans (hb5'.mono hs.size); clear hb5 hb5')
    | (go_at_call 17; with_reducible refine (HH5.out _).mono ?_; rintro e w6 ⟨rfl, hb6⟩; replace hs := hs.trans (hb6.mono hs.size); clear hb6))
  obtain ⟨N, hand, hN31⟩ : ∃ N : Nat, bits .and .i64 n 31 = (N : Int) ∧ N ≤ 31 := by
    have := and_i64_bounds n 31 (by omega)
    exact ⟨(bits .and .i64 n 31).toNat, by simp at this; omega, by simp at this; omega⟩
  obtain ⟨m, hm⟩ : ∃ m : Nat, m = 40 + N := ⟨_, rfl⟩
  have hm2 : (40 : Int) + (N : Int) = (m : Int) := by omega
  have hm71 : m ≤ 71 := by omega
  have hm40 : 40 ≤ m := by omega
  obtain ⟨i0, hi, hz0, hz1, hz2⟩ := info_parts infoByte
  clear hm kc HAL HS0 HH0 HS5 HH5 HSN HS56
  go_upto_region 6 with (fail)
  clear hand hm2
  obtain ⟨w7, hw7⟩ : ∃ w7, w7 = w6 := ⟨_, rfl⟩
  rw [← hw7] at hs ⊢
  have HOE := Lib.hid (ownsRow_empty w7 5)
  have HBE := Lib.hid (show Below w7.heap.size w7 (w7.alloc (.cells #[] 5)) from (Below.refl _ w7).alloc (Nat.le_refl _) _)
  have HS7 := Lib.hid hs
  clear hw7 hs
  go_wp2_with fail
  go_loopw [5, 6] (fun s5 s6 wr => ∃ k : Nat, k ≤ m ∧ s6 = .int .i64 (k : Int) ∧ wr.ownsRow w7.heap.size 5 1 s5 k (bvs (List.replicate k c)) ∧ Below w7.heap.size w7 wr) (fun _ s6 _ => m - (intOf s6).toNat)
  case atStart => exact ⟨0, Nat.zero_le _, rfl, HOE.out, HBE.out⟩
  case round =>
    obtain ⟨k, hk, rfl, howr, hbr⟩ := hrel
    have hsz := hbr.size
    by_cases hlt : k < m
    · go_wp2_with (at_builtin; refine wpList_append_own _ rfl (.tmp 34) (.tmp 36) 22 rfl w7.heap.size 5 i0 (.int .u8 0) 1 1 Tryd.underlying22 hi hz0 hz1 hz2 rfl (by decide) _ _ _ rfl (howr.alloc _) ⟨wr.heap.size, 0, none⟩ 1 1 [.int .u8 (c.toNat : Int)] rfl rfl ?c1 ?c2 ?c3 ?c4 ?c5 ?_)
      case c1 => exact cell_one_new _ _ _
      case c2 => exact bv_oneCell c
      case c3 => unfold maxLen; omega
      case c4 => omega
      case c5 => simp; omega
      intro v' w3 hown' hgrow _
      go_wp2
      go_roundw
      case rel => exact ⟨k + 1, by omega, by go_num, ownsRow_cast hown' rfl (by rw [List.replicate_succ', bvs_append, bvs_one]), (hbr.alloc hsz _).grown hgrow (by simp; omega) (fun k hk => (howr.lt k hk).1)⟩
      case measure => simp [intOf]; omega
    · have hkm : k = m := by omega
      have howrm := howr
      rw [hkm] at howrm
      obtain ⟨gb, cb, rfl⟩ := own_slice howrm (by omega)
      have hcb := own_cap howrm
      have hcb2 : cb ≤ 9223372036854775807 := own_max howrm
      have hbb := BytesAt.rowAt howrm
      obtain ⟨w8, hw8⟩ : ∃ w8, w8 = wr := ⟨_, rfl⟩
      rw [← hw8] at hbb hbr ⊢
      have hs8 := HS7.out.trans (hbr.mono HS7.out.size)
      have HBB := Lib.hid hbb
      have HS8 := Lib.hid hs8
      clear howr howrm hbr hsz hw8 hbb hs8 HOE HBE HS7 hkm
      go_upto_region 12 with (first
        | (go_at_call 18; refine (known_any _).mono ?_; rintro e w9 ⟨g1, g2, rfl, hF, hR, hb9⟩)
        | (refine wpList_store_row rfl 26 (.tmp 7) (.tmp 38) rfl w9.heap.size #[.slice (some ⟨g1, 0, none⟩) 8 8, .slice (some ⟨g2, 0, none⟩) 64 64] rfl rfl 26 #[.slice none 0 0, .slice none 0 0] (heap_alloc_new w9 _) (by kernel_rfl) rfl (by rfl) ?_))
      have hsz9 : (w9.alloc (.cells #[.slice (some ⟨g1, 0, none⟩) 8 8, .slice (some ⟨g2, 0, none⟩) 64 64] 26)).heap.size = w9.heap.size + 1 := by simp
      obtain ⟨wT, hwT⟩ : ∃ wT, wT = w9.alloc (.cells #[.slice (some ⟨g1, 0, none⟩) 8 8, .slice (some ⟨g2, 0, none⟩) 64 64] 26) := ⟨_, rfl⟩
      have hbT : Below w9.heap.size w9 wT := by rw [hwT]; exact (Below.refl _ _).alloc (Nat.le_refl _) _
      have hgT : wT.heap[w9.heap.size]? = some (.cells #[.slice (some ⟨g1, 0, none⟩) 8 8, .slice (some ⟨g2, 0, none⟩) 64 64] 26 (0, 0)) := by rw [hwT]; exact heap_alloc_new w9 _
      change Code.wp _ _ _ _ (w9.alloc (.cells #[.slice (some ⟨g1, 0, none⟩) 8 8, .slice (some ⟨g2, 0, none⟩) 64 64] 26))
      rw [← hwT]
      have hFT := hF.later hbT
      have hRT := hR.later hbT
      have hbbT := BytesAt.later' (BytesAt.later' HBB.out hb9) hbT
      have hsT := HS8.out.trans ((hb9.trans (hbT.mono hb9.size)).mono HS8.out.size)
      obtain ⟨gt, hgt⟩ : ∃ gt, gt = w9.heap.size := ⟨_, rfl⟩
      rw [← hgt] at hgT ⊢
      have HFT := Lib.hid hFT
      have HRT := Lib.hid hRT
      have HBT := Lib.hid hbbT
      have HST := Lib.hid hsT
      have hld : ∀ W, Below wT.heap.size wT W → W.heap[gt]? = some (.cells #[.slice (some ⟨g1, 0, none⟩) 8 8, .slice (some ⟨g2, 0, none⟩) 64 64] 26 (0, 0)) := fun W h => by rw [h.block _ (lt_of_block hgT)]; exact hgT
      have HLD := Lib.hid hld
      have hts : (Tryd.prog.info? 26).map (·.size) = some (#[Value.slice (some ⟨g1, 0, none⟩) 8 8, .slice (some ⟨g2, 0, none⟩) 64 64] : Array Value).size := by kernel_rfl
      have HTS := Lib.hid hts
      clear hFT hRT hbbT hsT hgT hF hR hb9 hbT hwT hsz9 hgt HBB HS8 hld hts
      go_wp2_with fail
      clear hlt hk
      go_loopw [8] (fun s8 wr => ∃ i : Nat, m ≤ i + 8 ∧ i ≤ m + 1 ∧ s8 = .int .i64 (i : Int) ∧ Below wT.heap.size wT wr) (fun s8 _ => m + 1 - (intOf s8).toNat)
      case atStart => exact ⟨m - 8, by omega, by omega, by congr 1; omega, Below.refl _ _⟩
      case round =>
        obtain ⟨i, hi8, him, rfl, hbr⟩ := hrel
        by_cases hle : i ≤ m
        · obtain ⟨V, hV⟩ : ∃ V, V = (bvs (sumL (List.replicate i c))).toArray := ⟨_, rfl⟩
          have hVe : ∀ W : World, (Op.equalIn 10000 29 (.agg V) (.agg V)).run Tryd.prog W = .ok true W := fun W => by
            have := eq_ids W (sumL (List.replicate i c)) (sumL (List.replicate i c)) (HSL.out _) (HSL.out _)
            rw [hV]; simpa using this
          have hbi : ∀ W, Below wT.heap.size wT W → BytesAt W (some ⟨gb, 0, none⟩) (List.replicate i c) := fun W h => by
            have h1 := bytesAt_take (BytesAt.later' HBT.out h) i
            rw [List.take_replicate, Nat.min_eq_left hle] at h1
            exact h1
          have hsu : ∀ W, Below wT.heap.size wT W → Calls Tryd.prog 9 #[.slice (some ⟨gb, 0, none⟩) i cb] W fun e w' => e = .returned (.agg V) ∧ Below W.heap.size W w' := fun W h => by
            have h1 := sum_any (some ⟨gb, 0, none⟩) (List.replicate i c) cb W (hbi W h) (fun h0 => by simp at h0) (by simp; omega) (by omega) (HK.out W (HST.out.trans (h.mono HST.out.size)))
            rw [List.length_replicate, ← hV] at h1
            exact h1
          have hrs : ∀ W, Below wT.heap.size wT W → Calls Tryd.prog 10 #[.agg #[.slice (some ⟨g1, 0, none⟩) 8 8, .slice (some ⟨g2, 0, none⟩) 64 64], .slice (some ⟨gb, 0, none⟩) i cb] W fun e w' => e = .returned (.agg V) ∧ Below W.heap.size W w' := fun W h => by
            have h1 := refsha_any g1 g2 8 64 (some ⟨gb, 0, none⟩) (List.replicate i c) cb W (HFT.out.later h) (HRT.out.later h) (hbi W h) (by simp; omega) (Nat.le_refl _) (Nat.le_refl _)
            rw [List.length_replicate, ← hV] at h1
            exact h1
          have hic : i ≤ cb := by omega
          have hs : Below wT.heap.size wT wr.drew := hbr.drew
          have HVE := Lib.hid hVe
          have HSU := Lib.hid hsu
          have HRS := Lib.hid hrs
          clear hV hVe hbi hsu hrs hbr
          go_upto_region 15 with (fail)
          have hve := HVE.out
          refine wp_region_sched (fun W => Below wT.heap.size wT W) [([0, 1, 2, 4, 5, 6, 7], 3), ([], 8)] [9] (by kernel_rfl) (by kernel_rfl) (fun _ _ d _ _ h => by cases d <;> exact h) (by kernel_rfl) (of_decide_eq_true (by kernel_rfl)) hs ?_
          refine wpSched_cons ?_
          dsimp only [opsAt, List.filterMap, List.getElem?_cons_zero, List.getElem?_cons_succ]
          repeat (first
            | go_big_quiet_skip
            | (go_big_quiet_want
               first
                 | (refine quiet_load_row' 26 (.tmp 7) rfl gt rfl 26 #[.slice (some ⟨g1, 0, none⟩) 8 8, .slice (some ⟨g2, 0, none⟩) 64 64] (0, 0) _ HLD.out Tryd.underlying26 rfl HTS.out ?_
                    simp only [Act.put, List.setIfInBounds_toArray, List.set_cons_zero, List.set_cons_succ]
                    go_big_quiet_on)
                 | (go_big_quiet_op
                    first | refine ⟨_, fun _ _ => rfl, ?_⟩ | refine ⟨_, fun _ _ _ => rfl, ?_⟩ | refine ⟨_, fun _ _ _ _ => rfl, ?_⟩
                    go_big_quiet_on)
                 | (go_big_quiet_op
                    go_big_quiet_on)))
          refine wpQuiet_nil ?_
          intro KK hKK
          go_simp
          refine (HSU.out _ hs).mono ?_
          rintro e w20 ⟨rfl, hb20⟩
          replace hs := hs.trans (hb20.mono hs.size)
          clear hb20
          refine hKK _ _ hs ?_
          clear hKK KK
          try simp only [Act.put, List.setIfInBounds_toArray, List.set_cons_zero, List.set_cons_succ]
          refine wpSched_cons ?_
          dsimp only [opsAt, List.filterMap, List.getElem?_cons_zero, List.getElem?_cons_succ]
          repeat (first
            | go_big_quiet_skip
            | (go_big_quiet_want
               first
                 | (go_big_quiet_op
                    first | refine ⟨_, fun _ _ => rfl, ?_⟩ | refine ⟨_, fun _ _ _ => rfl, ?_⟩ | refine ⟨_, fun _ _ _ _ => rfl, ?_⟩
                    go_big_quiet_on)
                 | (go_big_quiet_op
                    go_big_quiet_on)))
          refine wpQuiet_nil ?_
          intro KK hKK
          go_simp
          refine (HRS.out _ hs).mono ?_
          rintro e w21 ⟨rfl, hb21⟩
          replace hs := hs.trans (hb21.mono hs.size)
          clear hb21
          refine hKK _ _ hs ?_
          clear hKK KK
          try simp only [Act.put, List.setIfInBounds_toArray, List.set_cons_zero, List.set_cons_succ]
          refine wpSched_nil ?_
          dsimp only [opsAt, List.filterMap, List.getElem?_cons_zero, List.getElem?_cons_succ]
          repeat (first
            | go_big_quiet_skip
            | (go_big_quiet_want
               first
                 | (refine quiet_run (.bool false) (fun W _ => by go_simp) ?_
                    simp only [Act.put, List.setIfInBounds_toArray, List.set_cons_zero, List.set_cons_succ]
                    go_big_quiet_on)
                 | (go_big_quiet_op
                    first | refine ⟨_, fun _ _ => rfl, ?_⟩ | refine ⟨_, fun _ _ _ => rfl, ?_⟩ | refine ⟨_, fun _ _ _ _ => rfl, ?_⟩
                    go_big_quiet_on)
                 | (go_big_quiet_op
                    go_big_quiet_on)))
          refine wpQuiet_nil ?_
          go_wp2
          go_roundw
          case rel => exact ⟨i + 1, by omega, by omega, by go_num, hs⟩
          case measure => simp [intOf]; omega
        · clear hi8 him
          go_wp2_with fail
          go_ret
          exact ⟨rfl, HST.out.trans (hbr.mono HST.out.size)⟩
theorem shaLong_walk (w : World) (hk : KeysAt w) (a0 : Int) (w0 : (Lit.int .i64 a0).wf = true) (a1 : Int) (w1 : (Lit.int .u8 a1).wf = true) :
    Calls Tryd.prog 6 #[.int .i64 a0, .int .u8 a1] w fun e w' => e = .returned (.bool true) ∧ Below w.heap.size w w' := by
  have hb := bounds_u8 w1
  have e : a1 = ((UInt8.ofNat a1.toNat).toNat : Int) := by rw [UInt8.toNat_ofNat']; omega
  rw [e]
  exact shaLong_any a0 _ w hk
end Go.Proofs.YtkgclhkpncegnaaDoor
