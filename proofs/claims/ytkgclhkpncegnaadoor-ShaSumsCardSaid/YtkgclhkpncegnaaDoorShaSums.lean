/-
  The walk of ShaSums.
-/
import Derived.Test.YtkgclhkpncegnaaDoorRefSha
import Derived.Test.YtkgclhkpncegnaaDoorTables
import Derived.Test.YtkgclhkpncegnaaDoorAlive
import Derived.Test.YtkgclhkpncegnaaDoorPartsKit
namespace Go.Proofs.YtkgclhkpncegnaaDoor
open Go.RowKit
set_option linter.unusedSimpArgs false
set_option linter.unusedVariables false

set_option maxRecDepth 100000 in
set_option maxHeartbeats 4000000 in
theorem shaSums_any (a0 : Option Addr) (l0 : List UInt8) (c0 : Nat) (w : World) (hb0 : BytesAt w a0 l0) (hn0 : a0 = none → c0 = 0) (hl0 : l0.length ≤ c0) (hc0 : c0 ≤ 9223372036854775807) (hk : KeysAt w) :
    Calls Tryd.prog 3 #[.slice a0 l0.length c0] w fun e w' => e = .returned (.bool true) ∧ Below w.heap.size w w' := by
  have hal := alive_any w hk
  by_cases h0 : 5000 < l0.length
  · have d0 : decide ((5000 : Int) < (l0.length : Int)) = true := by simp; omega
    clear hb0 hk
    go_enter Tryd.func3, Tryd.ntmps3
    go_wp2_with (go_at_call 7; refine hal.mono ?_; rintro e w1 ⟨rfl, hw1⟩)
    go_ret
    exact ⟨rfl, hw1⟩
  have d0 : decide ((5000 : Int) < (l0.length : Int)) = false := by simp; omega
  go_enter Tryd.func3, Tryd.ntmps3
  go_upto_region 5 with (go_at_call 7; refine hal.mono ?_; rintro e w1 ⟨rfl, hw1⟩)
  have HW1 := Lib.hid hw1
  have HA0 := Lib.hid hb0
  have HK := Lib.hid hk
  clear hw1 hb0 hk hal
  go_upto_region 6 with (first
    | (go_at_call 8; refine (tables_any _).mono ?_; rintro e w9 ⟨g1, g2, cf, cr, rfl, hF, hR, hcf, hcr, hb9⟩)
    | (refine wpList_store_row rfl 26 (.tmp 3) (.tmp 10) rfl w9.heap.size #[.slice (some ⟨g1, 0, none⟩) 8 cf, .slice (some ⟨g2, 0, none⟩) 64 cr] rfl rfl 26 #[.slice none 0 0, .slice none 0 0] (heap_alloc_new w9 _) (sizeT _ _) rfl (by rfl) ?_))
  obtain ⟨wT, hwT⟩ : ∃ wT, wT = w9.alloc (.cells #[.slice (some ⟨g1, 0, none⟩) 8 cf, .slice (some ⟨g2, 0, none⟩) 64 cr] 26) := ⟨_, rfl⟩
  have hbT : Below w9.heap.size w9 wT := by rw [hwT]; exact (Below.refl _ _).alloc (Nat.le_refl _) _
  have hgT : wT.heap[w9.heap.size]? = some (.cells #[.slice (some ⟨g1, 0, none⟩) 8 cf, .slice (some ⟨g2, 0, none⟩) 64 cr] 26 (0, 0)) := by rw [hwT]; exact heap_alloc_new w9 _
  change Code.wp _ _ _ _ (w9.alloc (.cells #[.slice (some ⟨g1, 0, none⟩) 8 cf, .slice (some ⟨g2, 0, none⟩) 64 cr] 26))
  rw [← hwT]
  obtain ⟨gt, hgt⟩ : ∃ gt, gt = w9.heap.size := ⟨_, rfl⟩
  rw [← hgt] at hgT ⊢
  have hFT := hF.later hbT
  have hRT := hR.later hbT
  have hsT : Below w.heap.size w wT := HW1.out.trans ((hb9.trans (hbT.mono hb9.size)).mono HW1.out.size)
  have hA : BytesAt wT a0 l0 := BytesAt.later' HA0.out hsT
  have hcv := conv_bytes hA c0
  obtain ⟨V, hV⟩ : ∃ V, V = (bvs (sumL l0)).toArray := ⟨_, rfl⟩
  have hsl : (sumL l0).length = 32 := by
    have h1 : (bvs (sumL l0)).toArray.size = 32 := by rw [sumL, ← brow_all, brow_size]
    simpa [bvs_length] using h1
  have hVe : ∀ W : World, (Op.equalIn 10000 29 (.agg V) (.agg V)).run Tryd.prog W = .ok true W := fun W => by
    have := eq_ids W (sumL l0) (sumL l0) hsl hsl
    rw [hV]; simpa using this
  have hld : ∀ W, Below wT.heap.size wT W → W.heap[gt]? = some (.cells #[.slice (some ⟨g1, 0, none⟩) 8 cf, .slice (some ⟨g2, 0, none⟩) 64 cr] 26 (0, 0)) := fun W h => by rw [h.block _ (lt_of_block hgT)]; exact hgT
  have hsu : ∀ W, Below wT.heap.size wT W → Calls Tryd.prog 9 #[.slice a0 l0.length c0] W fun e w' => e = .returned (.agg V) ∧ Below W.heap.size W w' := fun W h => by
    rw [hV]
    exact sum_any a0 l0 c0 W (BytesAt.later' hA h) hn0 hl0 hc0 (fun i hi => cell_later h (cell_later hsT (HK.out i hi)))
  have hrs : ∀ W, Below wT.heap.size wT W → Calls Tryd.prog 10 #[.agg #[.slice (some ⟨g1, 0, none⟩) 8 cf, .slice (some ⟨g2, 0, none⟩) 64 cr], .slice a0 l0.length c0] W fun e w' => e = .returned (.agg V) ∧ Below W.heap.size W w' := fun W h => by
    rw [hV]
    exact refsha_any g1 g2 cf cr a0 l0 c0 W (hFT.later h) (hRT.later h) (BytesAt.later' hA h) (by omega) hcf hcr
  have hconv : ∀ W, Below wT.heap.size wT W → (convert 22 9 (.slice a0 l0.length c0)).run Tryd.prog W = .ok (.string ⟨l0.toArray⟩) W := fun W h => conv_bytes (BytesAt.later' hA h) c0
  have HLD := Lib.hid hld
  have HVE := Lib.hid hVe
  have HSU := Lib.hid hsu
  have HRS := Lib.hid hrs
  have HCV := Lib.hid hconv
  have HST := Lib.hid hsT
  have HTS := Lib.hid (sizeT (.slice (some ⟨g1, 0, none⟩) 8 cf) (.slice (some ⟨g2, 0, none⟩) 64 cr))
  clear hF hR hb9 hwT hbT hgT hgt hFT hRT hsT hA hV hsl hVe hld hsu hrs hconv hcf hcr HW1 HA0 HK hn0
  go_upto_region 7 with (fail)
  clear hcv
  have hve := HVE.out
  have hs : Below wT.heap.size wT wT.drew := (Below.refl _ _).drew
  refine wp_region_sched (fun W => Below wT.heap.size wT W) [([0, 2, 3], 1), ([], 4)] [5, 6, 7, 8, 9, 10, 11, 12] (by kernel_rfl) (by kernel_rfl) (fun _ _ d _ _ h => by cases d <;> exact h) (by kernel_rfl) (of_decide_eq_true (by kernel_rfl)) hs ?_
  refine wpSched_cons ?_
  dsimp only [opsAt, List.filterMap, List.getElem?_cons_zero, List.getElem?_cons_succ]
  repeat (first
    | go_big_quiet_skip
    | (go_big_quiet_want
       first
         | (refine quiet_load_row' 26 (.tmp 3) rfl gt rfl 26 #[.slice (some ⟨g1, 0, none⟩) 8 cf, .slice (some ⟨g2, 0, none⟩) 64 cr] (0, 0) _ HLD.out Tryd.underlying26 rfl HTS.out ?_
            simp only [Act.put, List.setIfInBounds_toArray, List.set_cons_zero, List.set_cons_succ]
            go_big_quiet_on)
         | (go_big_quiet_op
            first | refine ⟨_, fun _ _ => rfl, ?_⟩ | refine ⟨_, fun _ _ _ => rfl, ?_⟩ | refine ⟨_, fun _ _ _ _ => rfl, ?_⟩
            go_big_quiet_on)
         | (go_big_quiet_op
            go_big_quiet_on)))
  refine wpQuiet_nil ?_
  intro KK hKK
  go_simp
  refine (HSU.out _ hs).mono ?_
  rintro e w20 ⟨rfl, hb20⟩
  replace hs := hs.trans (hb20.mono hs.size)
  clear hb20
  refine hKK _ _ hs ?_
  clear hKK KK
  try simp only [Act.put, List.setIfInBounds_toArray, List.set_cons_zero, List.set_cons_succ]
  refine wpSched_cons ?_
  dsimp only [opsAt, List.filterMap, List.getElem?_cons_zero, List.getElem?_cons_succ]
  repeat (first
    | go_big_quiet_skip
    | (go_big_quiet_want
       first
         | (go_big_quiet_op
            first | refine ⟨_, fun _ _ => rfl, ?_⟩ | refine ⟨_, fun _ _ _ => rfl, ?_⟩ | refine ⟨_, fun _ _ _ _ => rfl, ?_⟩
            go_big_quiet_on)
         | (go_big_quiet_op
            go_big_quiet_on)))
  refine wpQuiet_nil ?_
  intro KK hKK
  go_simp
  refine (HRS.out _ hs).mono ?_
  rintro e w21 ⟨rfl, hb21⟩
  replace hs := hs.trans (hb21.mono hs.size)
  clear hb21
  refine hKK _ _ hs ?_
  clear hKK KK
  try simp only [Act.put, List.setIfInBounds_toArray, List.set_cons_zero, List.set_cons_succ]
  refine wpSched_nil ?_
  dsimp only [opsAt, List.filterMap, List.getElem?_cons_zero, List.getElem?_cons_succ]
  repeat (first
    | go_big_quiet_skip
    | (go_big_quiet_want
       first
         | (refine quiet_conv 22 9 (.tmp 20) rfl (.string ⟨l0.toArray⟩) HCV.out ?_
            simp only [Act.put, List.setIfInBounds_toArray, List.set_cons_zero, List.set_cons_succ]
            go_big_quiet_on)
         | (go_big_quiet_op
            first | refine ⟨_, fun _ _ => rfl, ?_⟩ | refine ⟨_, fun _ _ _ => rfl, ?_⟩ | refine ⟨_, fun _ _ _ _ => rfl, ?_⟩
            go_big_quiet_on)
         | (go_big_quiet_op
            go_big_quiet_on)))
  refine wpQuiet_nil ?_
  go_wp2_with fail
  go_ret
  exact ⟨rfl, HST.out.trans (hs.mono HST.out.size)⟩
theorem shaSums_walk (w : World) (hk : KeysAt w) (a0 : Option Addr) (len0 cap0 : Nat) (z0 : List Int) (w0 : IsRow .u8 w a0 len0 cap0 z0) :
    Calls Tryd.prog 3 #[.slice a0 len0 cap0] w fun e w' => e = .returned (.bool true) ∧ Below w.heap.size w w' := by
  have n0 := isRow_none w0
  obtain ⟨l0, rfl, hl0, hm0, hb0⟩ := w0.bytes
  exact shaSums_any a0 l0 cap0 w hb0 n0 hl0 (by omega) hk
end Go.Proofs.YtkgclhkpncegnaaDoor
