/-
  The walk of ShaNamed.
-/
import Derived.Test.YtiaecnbmlcbljaaDoorNamedKit
import Derived.Test.YtiaecnbmlcbljaaDoorPair
namespace Go.Proofs.YtiaecnbmlcbljaaDoor
open Go.RowKit
set_option linter.unusedSimpArgs false
set_option linter.unusedVariables false

set_option maxRecDepth 100000 in
set_option maxHeartbeats 4000000 in
theorem shaNamed_any (a0 : Option Addr) (l : List UInt8) (c0 : Nat) (n : Int) (w : World) (hb0 : BytesAt w a0 l)
    (hn0 : a0 = none → c0 = 0) (hl0 : l.length ≤ c0) (hc0 : c0 ≤ 9223372036854775807) (hk : KeysAt w) :
    Calls Tryd.prog 4 #[.slice a0 l.length c0, .int .i64 n] w fun e w' => e = .returned (.bool true) ∧ Below w.heap.size w w' := by
  have kc := fun (w : World) (C : Array Value) (n c : Nat) => Lib.run_convert_bytes_const (P := Tryd.prog) w 22 5 C n c Tryd.underlying22 Tryd.underlying5
  obtain ⟨w1, hw1⟩ : ∃ w1, w1 = w.alloc (.cells #[.int .u8 97, .int .u8 98, .int .u8 99] 5 (3, 4)) := ⟨_, rfl⟩
  have hb1 : Below w.heap.size w w1 := by rw [hw1]; exact (Below.refl _ w).alloc (Nat.le_refl _) _
  have hof := of_any (some ⟨w.heap.size, 0, none⟩) [97, 98, 99] 3 w1 (by rw [hw1]; exact BytesAt.alloc_mark w _ _ _ _ rfl) (by simp)
  obtain ⟨V, hV⟩ : ∃ V, V = (bvs (sumL [97, 98, 99])).toArray := ⟨_, rfl⟩
  have hVe : ∀ W : World, (Op.equalIn 10000 29 (.agg V) (.agg V)).run Tryd.prog W = .ok true W := fun W => by
    have h32 : (sumL [97, 98, 99]).length = 32 := by rw [sum_abc]; rfl
    have := eq_ids W (sumL [97, 98, 99]) (sumL [97, 98, 99]) h32 h32
    rw [hV]; simpa using this
  have hkW : ∀ W, Below w.heap.size w W → KeysAt W := fun W h i hi => cell_later h (hk i hi)
  have hid1 : ∀ (W : World) (b g : Nat) (m : Bool), Below w.heap.size w W → NS W b g [97, 98, 99] m → Calls Tryd.prog 13 #[.pointer (some ⟨b, 0, none⟩)] W fun e w' => e = .returned (.agg V) ∧ NS w' b g [97, 98, 99] true ∧ W.grownBy w' (some b) := fun W b g m h hN => by
    rw [hV]; exact ns_id W b g _ m hN (by simp) (hkW W h)
  have hsum1 : ∀ W : World, Below w.heap.size w W → Calls Tryd.prog 9 #[.slice (some ⟨W.heap.size, 0, none⟩) 3 3] (W.alloc (.cells #[.int .u8 97, .int .u8 98, .int .u8 99] 5 (3, 4))) fun e w' => e = .returned (.agg V) ∧ Below (W.heap.size + 1) (W.alloc (.cells #[.int .u8 97, .int .u8 98, .int .u8 99] 5 (3, 4))) w' := fun W h => by
    have h1 := sum_any (some ⟨W.heap.size, 0, none⟩) [97, 98, 99] 3 (W.alloc (.cells #[.int .u8 97, .int .u8 98, .int .u8 99] 5 (3, 4))) (BytesAt.alloc_mark W _ _ _ _ rfl) (by simp) (by simp) (by omega) (hkW _ (h.alloc h.size _))
    rw [← hV] at h1
    simpa using h1
  have HW1 := Lib.hid hw1
  have HB1 := Lib.hid hb1
  have HOF := Lib.hid hof
  have HVE := Lib.hid hVe
  have HK := Lib.hid hkW
  have HI1 := Lib.hid hid1
  have HS1 := Lib.hid hsum1
  clear hw1 hb1 hof hV hVe hkW hid1 hsum1 hk
  go_enter Tryd.func4, Tryd.ntmps4
  go_wp2_with fail
  change Calls Tryd.prog 11 _ (w.alloc (.cells #[.int .u8 97, .int .u8 98, .int .u8 99] 5 (3, 4))) _
  rw [← HW1.out]
  refine HOF.out.mono ?_
  rintro e w2 ⟨bx, gx, rfl, hg1, hgb, hg2, hN2, hb2⟩
  have hs := HB1.out.trans (hb2.mono HB1.out.size)
  have hNS := ns_of hgb hg2 hN2
  clear hb2 hN2 hg2
  have hbx : w.heap.size ≤ bx := by have := HB1.out.size; omega
  have hgx : w.heap.size ≤ gx := by have := HB1.out.size; omega
  have hve := HVE.out
  go_upto_region 4 with (first
    | (go_at_call 7; refine (alive_any _ (HK.out _ hs)).mono ?_; rintro e w3 ⟨rfl, hb3⟩; replace hNS := hNS.later hb3; replace hs := hs.trans (hb3.mono hs.size); clear hb3)
    | (go_at_call 12; refine (ns_sums _ bx gx _ _ hNS).mono ?_; rintro e w4 ⟨rfl, rfl⟩)
    | (go_at_call 13; refine (HI1.out _ bx gx _ hs hNS).mono ?_; clear hNS; rintro e w5 ⟨rfl, hNS, hg5⟩; replace hs := below_grownBy (Nat.le_refl _) hs hg5 hbx; clear hg5)
    | (go_at_call 9; refine (HS1.out _ hs).mono ?_; rintro e w6 ⟨rfl, hb6⟩; have hb6' := ((Below.refl _ w5).alloc (Nat.le_refl _) _).trans (hb6.mono (Nat.le_succ _)); replace hNS := hNS.later hb6'; replace hs := hs.trans (hb6'.mono hs.size); clear hb6 hb6')
    | (go_at_call 14; refine (ns_bytes _ bx gx _ _ hNS (by simp)).mono ?_; rintro e w8 ⟨g8, rfl, hg8, hh8, hb8⟩; have hcv : (convert 22 9 (.slice (some ⟨g8, 0, none⟩) 3 3)).run Tryd.prog w8 = .ok (.string ⟨#[97, 98, 99]⟩) w8 := conv_bytes (BytesAt.of_block hh8) 3; replace hs := hs.trans (hb8.mono hs.size); clear hb8 hh8 hg8 hNS))
  clear hcv
  by_cases h0 : 20000 < l.length
  · have d0 : decide ((20000 : Int) < (l.length : Int)) = true := by simp; omega
    go_wp2_with fail
    go_ret
    exact ⟨rfl, hs⟩
  have d0 : decide ((20000 : Int) < (l.length : Int)) = false := by simp; omega
  go_upto_region 6 with (fail)
  have hown0 := ownsRow_empty w8 5
  have hbe : Below w8.heap.size w8 (w8.alloc (.cells #[] 5)) := (Below.refl _ w8).alloc (Nat.le_refl _) _
  have hA8 := BytesAt.later' hb0 hs
  have HO0 := Lib.hid hown0
  have HBE := Lib.hid hbe
  have HA8 := Lib.hid hA8
  have hsz9 : w8.heap.size < (w8.alloc (.cells #[] 5)).heap.size := by simp
  clear hown0 hbe hA8 kc hve HI1 HS1 HVE d0
  go_upto_region 7 with (at_builtin; refine wpList_append_bytes rfl (.tmp 49) (.tmp 50) rfl w8.heap.size _ 0 [] rfl HO0.out a0 l c0 rfl (BytesAt.later' HA8.out HBE.out) hn0 (by omega) HBE.out.size ?_; intro v6 w9 hv6 hg9)
  have hs9 : w8.heap.size < w9.heap.size := Nat.lt_of_lt_of_le hsz9 hg9.size
  have hb9 := HBE.out.grown hg9 (by simp) (fun k hk => (HO0.out.lt k hk).1)
  have hrow := ownsRow_cast hv6 (show 0 + l.length = l.length by omega) (show [] ++ bvs l = bvs l by simp)
  obtain ⟨am, cm, hv, hbm, -, hlm, hmm⟩ := BytesAt.row hrow
  obtain ⟨gm, hgm8, hgm9, hgm⟩ : ∃ gm, w8.heap.size ≤ gm ∧ gm < w9.heap.size ∧ (0 < l.length → am = some ⟨gm, 0, none⟩ ∧ ByteRow w9 gm l.length) := by
    by_cases h : 0 < l.length
    · obtain ⟨g, cap, h1, h2, h3⟩ := own_block hrow h
      rw [hv] at h1
      simp only [Value.slice.injEq, true_and] at h1
      exact ⟨g, h2, by obtain ⟨cur, h4, _⟩ := h3; exact lt_of_block h4, fun _ => ⟨h1.1, h3⟩⟩
    · exact ⟨w8.heap.size, Nat.le_refl _, hs9, fun h' => absurd h' h⟩
  subst hv
  have hwm : w.heap.size ≤ gm := Nat.le_trans hs.size hgm8
  replace hs := hs.trans (hb9.mono hs.size)
  have hof := of_any am l cm w9 hbm (by omega)
  obtain ⟨V2, hV2⟩ : ∃ V2, V2 = (bvs (sumL l)).toArray := ⟨_, rfl⟩
  have hVz : V2.size = 32 := by rw [hV2, sumL, ← brow_all, brow_size]
  have hV1 : V2.all (·.oneCell') = true := by rw [hV2]; simpa using bvs_oneCell (sumL l)
  have hVs : (Tryd.prog.info? 29).map (·.size) = some V2.size := by rw [hVz]; kernel_rfl
  have hV32 : (Array.replicate 32 (Value.int .u8 0)).size = V2.size := by rw [hVz]; rfl
  have hVe : ∀ W : World, (Op.equalIn 10000 29 (.agg V2) (.agg V2)).run Tryd.prog W = .ok true W := fun W => by
    have h32 : (sumL l).length = 32 := by rw [hV2] at hVz; simpa [bvs_length] using hVz
    have := eq_ids W (sumL l) (sumL l) h32 h32
    rw [hV2]; simpa using this
  have hsum : ∀ W : World, Below w.heap.size w W → Calls Tryd.prog 9 #[.slice a0 l.length c0] W fun e W' => e = .returned (.agg V2) ∧ Below W.heap.size W W' :=
    fun W h => by rw [hV2]; exact sum_any a0 l c0 W (BytesAt.later' hb0 h) hn0 hl0 hc0 (HK.out W h)
  have HOF := Lib.hid hof
  have HV2 := Lib.hid hV2
  have HV1 := Lib.hid hV1
  have HVS := Lib.hid hVs
  have HV32 := Lib.hid hV32
  have HVE := Lib.hid hVe
  have HSUM := Lib.hid hsum
  have HB0 := Lib.hid hb0
  have HGM := Lib.hid hgm
  clear hof hV2 hVz hV1 hVs hV32 hVe hsum hb0 hgm hrow hv6 hg9 hb9 hbm HO0 HBE HA8 hsz9
  go_upto_region 8 with (go_at_call 11; refine HOF.out.mono ?_; rintro e w10 ⟨B, G, rfl, hG9, hGB, hh10, hN10, hb10⟩)
  have hNS := ns_of hGB hh10 hN10
  replace hs := hs.trans (hb10.mono hs.size)
  have hgm10 : 0 < l.length → am = some ⟨gm, 0, none⟩ ∧ ByteRow w10 gm l.length := fun h => ⟨(HGM.out h).1, (HGM.out h).2.keep (grownBy_below hb10 none) (by simp)⟩
  clear hN10 hh10 hb10 HGM
  go_upto_region 9 with (first | (go_at_call 9; refine (HSUM.out _ hs).mono ?_; rintro e w11 ⟨rfl, hb11⟩) | (refine wpList_store_row rfl 29 (.tmp 8) (.tmp 55) rfl w11.heap.size V2 rfl rfl 29 (Array.replicate 32 (.int .u8 0)) (heap_alloc_new w11 _) HVS.out HV32.out HV1.out ?_))
  change Code.wp _ _ _ _ ((w11.alloc (.cells (Array.replicate 32 (.int .u8 0)) 29)).setRow w11.heap.size V2)
  obtain ⟨w12, hw12⟩ : ∃ w12, w12 = (w11.alloc (.cells (Array.replicate 32 (.int .u8 0)) 29)).setRow w11.heap.size V2 := ⟨_, rfl⟩
  rw [← hw12]
  have hgi : w12.heap[w11.heap.size]? = some (.cells V2 29 (0, 0)) := by rw [hw12]; exact setRow_heap _ _ (Array.replicate 32 (.int .u8 0)) V2 _ _ (heap_alloc_new w11 _)
  have hb12 : Below w10.heap.size w10 w12 := by rw [hw12]; exact below_setRow (hb11.alloc hb11.size _) hb11.size _
  have hgib : B < w11.heap.size := Nat.lt_of_lt_of_le hNS.2.2.2.lt hb11.size
  obtain ⟨gi, hgie⟩ : ∃ gi, gi = w11.heap.size := ⟨_, rfl⟩
  rw [← hgie] at hgi hgib ⊢
  replace hs := hs.trans (hb12.mono hs.size)
  replace hNS := hNS.later hb12
  have hgm12 : 0 < l.length → am = some ⟨gm, 0, none⟩ ∧ ByteRow w12 gm l.length := fun h => ⟨(hgm10 h).1, (hgm10 h).2.keep (grownBy_below hb12 none) (by simp)⟩
  have HG12 := Lib.hid hgm12
  have HNS := Lib.hid hNS
  have HGI := Lib.hid hgi
  have HS := Lib.hid hs
  clear hgm12 hgm10 hNS hgi hs hb12 hw12 hb11 hgie
  go_wp2_with fail
  go_loopw [9, 58] (fun _ s58 wr => ∃ k : Nat, k ≤ l.length ∧ s58 = .int .i64 (k : Int) ∧ (0 < l.length → ByteRow wr gm l.length) ∧ w12.grownBy wr (some gm)) (fun _ s58 _ => l.length - (intOf s58).toNat)
  case atStart => exact ⟨0, Nat.zero_le _, rfl, fun h => (HG12.out h).2, World.grownBy.refl _ _⟩
  case round =>
    obtain ⟨k, hk, rfl, hrow, hgr⟩ := hrel
    by_cases hlt : k < l.length
    · obtain ⟨rfl, -⟩ := HG12.out (by omega)
      replace hrow := hrow (by omega)
      obtain ⟨c, hc1, hf1⟩ := hrow.at k hlt
      have hc2 := c.toNat_lt
      have hrow' := hrow.set k (UInt8.ofNat (c.toNat + 1))
      have hgr' := grownBy_trans hgr (grownBy_setCell wr gm k (.int .u8 ((UInt8.ofNat (c.toNat + 1)).toNat : Int)))
      rw [← u8_succ] at hrow' hgr'
      have HR := Lib.hid hrow'
      have HG := Lib.hid hgr'
      clear hrow hgr hrow' hgr'
      go_wp2_with fail
      go_roundw
      case rel => exact ⟨k + 1, by omega, by go_num, fun _ => HR.out, HG.out⟩
      case measure => simp [intOf]; omega
    · obtain rfl : k = l.length := by omega
      have hNS := HNS.out.keep hgr (by intro e; injection e with e; omega) (by intro e; injection e with e; omega)
      have hgi := (hgr.block gi (lt_of_block HGI.out) (by intro e; injection e with e; omega)).trans HGI.out
      have hs := below_grownBy (Nat.le_refl _) HS.out hgr hwm
      obtain ⟨N, hand, hN15⟩ : ∃ N : Nat, bits .and .i64 n 15 = (N : Int) ∧ N ≤ 15 := by
        have := and_i64_bounds n 15 (by omega)
        exact ⟨(bits .and .i64 n 15).toNat, by simp at this; omega, by simp at this; omega⟩
      clear hrow hgr HG12 HNS HGI HS hlt hk
      go_wp2_with fail
      have HIF : Hid (∀ (W : World) (m : Bool), Below w.heap.size w W → NS W B G l m → Calls Tryd.prog 13 #[.pointer (some ⟨B, 0, none⟩)] W fun e w' => e = .returned (.agg V2) ∧ NS w' B G l true ∧ W.grownBy w' (some B)) := Lib.hid fun W m h hN => by
        rw [HV2.out]; exact ns_id W B G l m hN (by omega) (HK.out W h)
      have hBw : w.heap.size ≤ B := by omega
      have HNS := Lib.hid hNS
      have HGI := Lib.hid hgi
      have HS := Lib.hid hs
      clear hNS hgi hs
      go_loopw [10] (fun s10 wr => ∃ k : Nat, k ≤ N ∧ s10 = .int .i64 (k : Int) ∧ NS wr B G l (decide (0 < k)) ∧ wr.heap[gi]? = some (.cells V2 29 (0, 0)) ∧ Below w.heap.size w wr) (fun s10 _ => N - (intOf s10).toNat)
      case atStart => exact ⟨0, Nat.zero_le _, rfl, HNS.out, HGI.out, HS.out⟩
      case round =>
        obtain ⟨k, hk, rfl, hNS, hgi, hs⟩ := hrel
        by_cases hlt : k < N
        · have hve := HVE.out
          have HNS1 := Lib.hid hNS
          have hS0 : ∀ W, (W.heap[gi]? = some (.cells V2 29 (0, 0)) ∧ Below w.heap.size w W) → W.heap[gi]? = some (.cells V2 29 (0, 0)) := fun _ h => h.1
          have HS0 := Lib.hid hS0
          clear hNS hS0
          go_upto_region 18 with (fail)
          refine wp_region_sched (fun W => W.heap[gi]? = some (.cells V2 29 (0, 0)) ∧ Below w.heap.size w W) [([0, 2], 1)] [3] (by kernel_rfl) (by kernel_rfl) (fun _ _ d _ _ h => by cases d <;> exact h) (by kernel_rfl) (of_decide_eq_true (by kernel_rfl)) ⟨hgi, hs.drew⟩ ?_
          refine wpSched_cons ?_
          dsimp only [opsAt, List.filterMap, List.getElem?_cons_zero, List.getElem?_cons_succ]
          repeat (first
            | go_big_quiet_skip
            | (go_big_quiet_want
               first
                 | (refine quiet_load_row' 29 (.tmp 8) rfl gi rfl 29 V2 (0, 0) _ HS0.out Tryd.underlying29 rfl HVS.out ?_
                    simp only [Act.put, List.setIfInBounds_toArray, List.set_cons_zero, List.set_cons_succ]
                    go_big_quiet_on)
                 | (go_big_quiet_op
                    first | refine ⟨_, fun _ _ => rfl, ?_⟩ | refine ⟨_, fun _ _ _ => rfl, ?_⟩ | refine ⟨_, fun _ _ _ _ => rfl, ?_⟩
                    go_big_quiet_on)
                 | (go_big_quiet_op
                    go_big_quiet_on)))
          refine wpQuiet_nil ?_
          intro KK hKK
          go_simp
          refine (HIF.out _ _ hs.drew (HNS1.out.keep (grownBy_drew _ none) (by simp) (by simp))).mono ?_
          rintro e w20 ⟨rfl, hNS2, hg20⟩
          have hs2 := below_grownBy (Nat.le_refl _) hs.drew hg20 hBw
          have hgi2 := (hg20.block gi (lt_of_block hgi) (by intro e; injection e with e; omega)).trans hgi
          clear hg20
          refine hKK _ _ ⟨hgi2, hs2⟩ ?_
          clear hKK KK
          try simp only [Act.put, List.setIfInBounds_toArray, List.set_cons_zero, List.set_cons_succ]
          refine wpSched_nil ?_
          dsimp only [opsAt, List.filterMap, List.getElem?_cons_zero, List.getElem?_cons_succ]
          repeat (first
            | go_big_quiet_skip
            | (go_big_quiet_want
               first
                 | (refine quiet_run (.bool false) (fun W _ => by go_simp) ?_
                    simp only [Act.put, List.setIfInBounds_toArray, List.set_cons_zero, List.set_cons_succ]
                    go_big_quiet_on)
                 | (go_big_quiet_op
                    first | refine ⟨_, fun _ _ => rfl, ?_⟩ | refine ⟨_, fun _ _ _ => rfl, ?_⟩ | refine ⟨_, fun _ _ _ _ => rfl, ?_⟩
                    go_big_quiet_on)
                 | (go_big_quiet_op
                    go_big_quiet_on)))
          refine wpQuiet_nil ?_
          go_wp2_with fail
          go_roundw
          case rel => exact ⟨k + 1, by omega, by go_num, by rw [show decide (0 < k + 1) = true by simp]; exact hNS2, hgi2, hs2⟩
          case measure => simp [intOf]; omega
        · obtain rfl : k = N := by omega
          have hby := ns_bytes _ B G l _ hNS (by omega)
          have HBY := Lib.hid hby
          have HNS2 := Lib.hid hNS
          have HGI2 := Lib.hid hgi
          have HS2 := Lib.hid hs
          clear hby hNS hgi hs hlt hk HNS HGI HS
          go_upto_region 21 with (go_at_call 14; refine HBY.out.mono ?_; rintro e w30 ⟨go, rfl, hgo1, hgo2, hb30⟩)
          have hNS := HNS2.out.later hb30
          have hgi := (hb30.block gi (lt_of_block HGI2.out)).trans HGI2.out
          have hs := HS2.out.trans (hb30.mono HS2.out.size)
          have hrow0 := byteRow_of hgo2
          have hgoB := Nat.lt_of_lt_of_le HNS2.out.2.2.2.lt hgo1
          have hgoG := Nat.lt_of_lt_of_le (lt_of_block HNS2.out.2.2.1) hgo1
          have hgoi := Nat.lt_of_lt_of_le (lt_of_block HGI2.out) hgo1
          have hgow := Nat.le_trans HS2.out.size hgo1
          have HNS3 := Lib.hid hNS
          have HGI3 := Lib.hid hgi
          have HS3 := Lib.hid hs
          have HR0 := Lib.hid hrow0
          clear hNS hgi hs hrow0 hgo2 hb30 HNS2 HGI2 HS2 HBY
          go_wp2_with fail
          go_loopw [12, 83] (fun _ s83 wr => ∃ j : Nat, j ≤ l.length ∧ s83 = .int .i64 (j : Int) ∧ ByteRow wr go l.length ∧ w30.grownBy wr (some go)) (fun _ s83 _ => l.length - (intOf s83).toNat)
          case atStart => exact ⟨0, Nat.zero_le _, rfl, HR0.out, World.grownBy.refl _ _⟩
          case round =>
            obtain ⟨j, hj, rfl, hrow, hgr⟩ := hrel
            by_cases hlt : j < l.length
            · obtain ⟨c, hc1, hf1⟩ := hrow.at j hlt
              have hc2 := c.toNat_lt
              have hrow' := hrow.set j (UInt8.ofNat (c.toNat + 1))
              have hgr' := grownBy_trans hgr (grownBy_setCell _ go j (.int .u8 ((UInt8.ofNat (c.toNat + 1)).toNat : Int)))
              rw [← u8_succ] at hrow' hgr'
              have HR := Lib.hid hrow'
              have HG := Lib.hid hgr'
              clear hrow hgr hrow' hgr'
              go_wp2_with fail
              go_roundw
              case rel => exact ⟨j + 1, by omega, by go_num, HR.out, HG.out⟩
              case measure => simp [intOf]; omega
            · obtain rfl : j = l.length := by omega
              have hNS := HNS3.out.keep hgr (by intro e; injection e with e; omega) (by intro e; injection e with e; omega)
              have hgi := (hgr.block gi (lt_of_block HGI3.out) (by intro e; injection e with e; omega)).trans HGI3.out
              have hs := below_grownBy (Nat.le_refl _) HS3.out hgr hgow
              clear hrow hgr HR0 HNS3 HGI3 HS3 hlt hj
              go_upto_region 26 with (fail)
              have hS0 : ∀ W, (W.heap[gi]? = some (.cells V2 29 (0, 0)) ∧ Below w.heap.size w W) → W.heap[gi]? = some (.cells V2 29 (0, 0)) := fun _ h => h.1
              have HS0 := Lib.hid hS0
              have hve := HVE.out
              have hsd := hs.drew
              have hNSd := hNS.keep (grownBy_drew _ none) (by simp) (by simp)
              clear hS0 hs hNS
              refine wp_region_pair (fun W => W.heap[gi]? = some (.cells V2 29 (0, 0)) ∧ Below w.heap.size w W) [([0, 2], [1, 3]), ([4, 5, 6, 8], [7]), ([9, 10, 11, 12], [13]), ([14, 15, 16, 17, 19], [18]), ([], [20])] [21, 22] (by kernel_rfl) (by kernel_rfl) (fun _ _ d _ _ h => by cases d <;> exact h) (by kernel_rfl) (of_decide_eq_true (by kernel_rfl)) ⟨hgi, hsd⟩ ?_
              replace hgi := show (World.drew _).heap[gi]? = some (.cells V2 29 (0, 0)) from hgi
              obtain ⟨M, hM⟩ : ∃ M : Int, (if 0 < k then (1 : Int) else 0) = M := ⟨_, rfl⟩
              have hM2 : (if (1 : Int) < (k : Int) then (1 : Int) else (k : Int)) = M := by
                rw [← hM]
                by_cases h1 : 1 < k
                · rw [if_pos (by omega), if_pos (by omega)]
                · by_cases h2 : k = 1
                  · subst h2; rfl
                  · obtain rfl : k = 0 := by omega
                    rfl
              have hsu : ∀ W : World, NS W B G l (decide (0 < k)) → Calls Tryd.prog 12 #[.pointer (some ⟨B, 0, none⟩)] W fun e w' => e = .returned (.int .i64 M) ∧ w' = W := fun W h => by
                have h1 := ns_sums W B G l _ h
                rw [show (if decide (0 < k) = true then (1 : Int) else 0) = M by rw [← hM]; simp] at h1
                exact h1
              have hsu2 : ∀ W : World, NS W B G l true → Calls Tryd.prog 12 #[.pointer (some ⟨B, 0, none⟩)] W fun e w' => e = .returned (.int .i64 1) ∧ w' = W := fun W h => ns_sums W B G l true h
              have hbb : ∀ W : World, NS W B G l true → Calls Tryd.prog 14 #[.pointer (some ⟨B, 0, none⟩)] W fun e w' => ∃ g', e = .returned (.slice (some ⟨g', 0, none⟩) l.length l.length) ∧ W.heap.size ≤ g' ∧ w'.heap[g']? = some (.cells (bvs l).toArray 5 (0, 0)) ∧ Below W.heap.size W w' := fun W h => ns_bytes W B G l true h (by omega)
              have hsm : ∀ (W : World) (x : Option Addr) (c : Nat), BytesAt W x l → Below w.heap.size w W → Calls Tryd.prog 15 #[.slice x l.length c, .slice a0 l.length c0] W fun e w' => e = .returned (.bool true) ∧ Below W.heap.size W w' := fun W x c h h2 => by
                have h1 := same_any x a0 l l c c0 W h (BytesAt.later' HB0.out h2) (by omega) (by omega)
                rw [decide_eq_true rfl] at h1
                exact h1
              have HSU := Lib.hid hsu
              have HSU2 := Lib.hid hsu2
              have HBB := Lib.hid hbb
              have HSM := Lib.hid hsm
              clear hM hsu hsu2 hbb hsm
              refine wpPair_two ?_
              dsimp only [opsAt, List.filterMap, List.getElem?_cons_zero, List.getElem?_cons_succ]
              repeat (first
                | go_big_quiet_skip
                | (go_big_quiet_want
                   first
                     | (go_big_quiet_op
                        first | refine ⟨_, fun _ _ => rfl, ?_⟩ | refine ⟨_, fun _ _ _ => rfl, ?_⟩ | refine ⟨_, fun _ _ _ _ => rfl, ?_⟩
                        go_big_quiet_on)
                     | (go_big_quiet_op
                        go_big_quiet_on)))
              refine wpQuiet_nil ⟨?_, ?_⟩
              intro KK hKK
              go_simp
              refine (HSU.out _ hNSd).mono ?_
              rintro e w40 ⟨rfl, rfl⟩
              refine hKK _ _ ⟨hgi, hsd⟩ ?_
              clear hKK KK
              try simp only [Act.put, List.setIfInBounds_toArray, List.set_cons_zero, List.set_cons_succ]
              intro KK hKK
              go_simp
              refine hKK _ _ ⟨hgi, hsd⟩ ?_
              clear hKK KK
              rotate_left
              intro KK hKK
              go_simp
              refine hKK _ _ ⟨hgi, hsd⟩ ?_
              clear hKK KK
              try simp only [Act.put, List.setIfInBounds_toArray, List.set_cons_zero, List.set_cons_succ]
              intro KK hKK
              go_simp
              refine (HSU.out _ hNSd).mono ?_
              rintro e w40 ⟨rfl, rfl⟩
              refine hKK _ _ ⟨hgi, hsd⟩ ?_
              clear hKK KK
              all_goals
                try simp only [Act.put, List.setIfInBounds_toArray, List.set_cons_zero, List.set_cons_succ]
                refine wpPair_cons ?_
                dsimp only [opsAt, List.filterMap, List.getElem?_cons_zero, List.getElem?_cons_succ]
                repeat (first
                  | go_big_quiet_skip
                  | (go_big_quiet_want
                     first
                       | (refine quiet_run_at (.binOp .eql 2 (.tmp 94) (.tmp 96) 2) rfl (.bool true) (fun W _ => by go_simp) ?_
                          simp only [Act.put, List.setIfInBounds_toArray, List.set_cons_zero, List.set_cons_succ]
                          go_big_quiet_on)
                       | (refine quiet_load_row' 29 (.tmp 8) rfl gi rfl 29 V2 (0, 0) _ HS0.out Tryd.underlying29 rfl HVS.out ?_
                          simp only [Act.put, List.setIfInBounds_toArray, List.set_cons_zero, List.set_cons_succ]
                          go_big_quiet_on)
                       | (go_big_quiet_op
                          first | refine ⟨_, fun _ _ => rfl, ?_⟩ | refine ⟨_, fun _ _ _ => rfl, ?_⟩ | refine ⟨_, fun _ _ _ _ => rfl, ?_⟩
                          go_big_quiet_on)
                       | (go_big_quiet_op
                          go_big_quiet_on)))
                refine wpQuiet_nil ?_
                intro KK hKK
                go_simp
                refine (HIF.out _ _ hsd hNSd).mono ?_
                clear hNSd
                rintro e w41 ⟨rfl, hNS4, hg41⟩
                replace hgi := (hg41.block gi (lt_of_block hgi) (by intro e; injection e with e; omega)).trans hgi
                replace hsd := below_grownBy (Nat.le_refl _) hsd hg41 hBw
                clear hg41
                refine hKK _ _ ⟨hgi, hsd⟩ ?_
                clear hKK KK
                try simp only [Act.put, List.setIfInBounds_toArray, List.set_cons_zero, List.set_cons_succ]
                refine wpPair_cons ?_
                dsimp only [opsAt, List.filterMap, List.getElem?_cons_zero, List.getElem?_cons_succ]
                repeat (first
                  | go_big_quiet_skip
                  | (go_big_quiet_want
                     first
                       | (refine quiet_run_at (.binOp .eql 29 (.tmp 100) (.tmp 101) 29) rfl (.bool true) (fun W _ => by go_simp) ?_
                          simp only [Act.put, List.setIfInBounds_toArray, List.set_cons_zero, List.set_cons_succ]
                          go_big_quiet_on)
                       | (go_big_quiet_op
                          first | refine ⟨_, fun _ _ => rfl, ?_⟩ | refine ⟨_, fun _ _ _ => rfl, ?_⟩ | refine ⟨_, fun _ _ _ _ => rfl, ?_⟩
                          go_big_quiet_on)
                       | (go_big_quiet_op
                          go_big_quiet_on)))
                refine wpQuiet_nil ?_
                intro KK hKK
                go_simp
                refine (HSU2.out _ hNS4).mono ?_
                rintro e w42 ⟨rfl, rfl⟩
                refine hKK _ _ ⟨hgi, hsd⟩ ?_
                clear hKK KK
                try simp only [Act.put, List.setIfInBounds_toArray, List.set_cons_zero, List.set_cons_succ]
                refine wpPair_cons ?_
                dsimp only [opsAt, List.filterMap, List.getElem?_cons_zero, List.getElem?_cons_succ]
                repeat (first
                  | go_big_quiet_skip
                  | (go_big_quiet_want
                     first
                       | (refine quiet_run_at (.binOp .eql 2 (.tmp 106) (.const (.int .i64 1)) 2) rfl (.bool true) (fun W _ => by go_simp) ?_
                          simp only [Act.put, List.setIfInBounds_toArray, List.set_cons_zero, List.set_cons_succ]
                          go_big_quiet_on)
                       | (go_big_quiet_op
                          first | refine ⟨_, fun _ _ => rfl, ?_⟩ | refine ⟨_, fun _ _ _ => rfl, ?_⟩ | refine ⟨_, fun _ _ _ _ => rfl, ?_⟩
                          go_big_quiet_on)
                       | (go_big_quiet_op
                          go_big_quiet_on)))
                refine wpQuiet_nil ?_
                intro KK hKK
                go_simp
                refine (HBB.out _ hNS4).mono ?_
                clear hNS4
                rintro e w43 ⟨g5, rfl, hg5, hh5, hb43⟩
                replace hgi := (hb43.block gi (lt_of_block hgi)).trans hgi
                replace hsd := hsd.trans (hb43.mono hsd.size)
                clear hb43
                refine hKK _ _ ⟨hgi, hsd⟩ ?_
                clear hKK KK
                try simp only [Act.put, List.setIfInBounds_toArray, List.set_cons_zero, List.set_cons_succ]
                refine wpPair_cons ?_
                dsimp only [opsAt, List.filterMap, List.getElem?_cons_zero, List.getElem?_cons_succ]
                repeat (first
                  | go_big_quiet_skip
                  | (go_big_quiet_want
                     first
                       | (go_big_quiet_op
                          first | refine ⟨_, fun _ _ => rfl, ?_⟩ | refine ⟨_, fun _ _ _ => rfl, ?_⟩ | refine ⟨_, fun _ _ _ _ => rfl, ?_⟩
                          go_big_quiet_on)
                       | (go_big_quiet_op
                          go_big_quiet_on)))
                refine wpQuiet_nil ?_
                intro KK hKK
                go_simp
                refine (HSM.out _ _ _ (BytesAt.of_block hh5) hsd).mono ?_
                rintro e w44 ⟨rfl, hb44⟩
                replace hgi := (hb44.block gi (lt_of_block hgi)).trans hgi
                replace hsd := hsd.trans (hb44.mono hsd.size)
                clear hb44 hh5
                refine hKK _ _ ⟨hgi, hsd⟩ ?_
                clear hKK KK
                try simp only [Act.put, List.setIfInBounds_toArray, List.set_cons_zero, List.set_cons_succ]
                refine wpPair_nil ?_
                dsimp only [opsAt, List.filterMap, List.getElem?_cons_zero, List.getElem?_cons_succ]
                repeat (first
                  | go_big_quiet_skip
                  | (go_big_quiet_want
                     first
                       | (go_big_quiet_op
                          first | refine ⟨_, fun _ _ => rfl, ?_⟩ | refine ⟨_, fun _ _ _ => rfl, ?_⟩ | refine ⟨_, fun _ _ _ _ => rfl, ?_⟩
                          go_big_quiet_on)
                       | (go_big_quiet_op
                          go_big_quiet_on)))
                refine wpQuiet_nil ?_
                go_wp2_with fail
                go_ret
                exact ⟨rfl, hsd⟩
theorem shaNamed_walk (w : World) (hk : KeysAt w) (a0 : Option Addr) (len0 cap0 : Nat) (z0 : List Int) (w0 : IsRow .u8 w a0 len0 cap0 z0) (a1 : Int) (w1 : (Lit.int .i64 a1).wf = true) :
    Calls Tryd.prog 4 #[.slice a0 len0 cap0, .int .i64 a1] w fun e w' => e = .returned (.bool true) ∧ Below w.heap.size w w' := by
  have n0 := isRow_none w0
  obtain ⟨l0, rfl, hl0, hm0, hb0⟩ := w0.bytes
  exact shaNamed_any a0 l0 cap0 a1 w hb0 n0 hl0 (by omega) hk
end Go.Proofs.YtiaecnbmlcbljaaDoor
