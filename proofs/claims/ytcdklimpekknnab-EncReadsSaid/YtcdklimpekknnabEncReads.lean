/-
  The walk of EncReads.
-/
import Derived.Test.YtcdklimpekknnabReadBoth
import Derived.Test.YtcdklimpekknnabReading
import Derived.Deep.CutBlock
import Derived.Deep.RegionHeld3
namespace Go.Proofs.Ytcdklimpekknnab
open Go.RowKit

theorem wp_region_below' {P : Program} {id : Nat} {Q : Exit → Act → World → Prop} {a : Act} {w w0 : World} {B : Nat} {l : List Oper} (hm : P.follows .mixedOrders = true) (hB : Region.lexB .any l.toArray = true) (h0 : Below B w0 w)
    (h : wpQuiet P l.toArray (fun w' => Below B w0 w') (fun a' => ∀ w', Below B w0 w' → Q .normal a' w') l a) : (Code.region id l.toArray true).wp P Q a w :=
  wp_region_quiet (C := fun w' => Below B w0 w') hm hB h0.drew (by simpa using h)
/-- Some state of the two readers. -/
def Paired (w0 : World) (R Q G : Nat) (wr : World) : Prop := ∃ l f a c, Pair w0 wr R Q G l f a c

set_option maxRecDepth 100000 in
set_option maxHeartbeats 2000000 in
theorem encReads_any (a : Option Addr) (l : List UInt8) (cap : Nat) (ca : Option Addr) (zs : List Int) (ccap : Nat) (most : Int) (w : World) (hb : InAt w a cap l) (hc : IntsAt .i64 w ca zs) (hz : zs.length ≤ 9223372036854775807) (hl : l.length ≤ 281474976710656) :
    Calls Try.prog 4 #[.slice a l.length cap, .slice ca zs.length ccap, .int .i64 most] w fun e w' => e = .returned (.bool true) ∧ Below w.heap.size w w' := by
  go_enter Try.func4, Try.ntmps4
  go_wp2_with fail
  refine (read_any a l cap w hb.1 hl).mono ?_
  rintro e w1 ⟨R, Q, rfl, hRw, hr1, hw1⟩
  go_wp2_with fail
  refine (reading_any _).mono ?_
  rintro e w2 ⟨rfl, hw2⟩
  have hr2 := hr1.later hw2
  have hw2' := hw1.trans (hw2.mono hw1.size)
  have hin2 := hb.later hw2'
  have hRG : R < w2.heap.size := hr2.lt
  have hQG : Q < w2.heap.size := hr2.2.1
  obtain ⟨w3, hw3⟩ : ∃ w3, w3 = w2.alloc (.cells (inCells a l.length cap false) 42) := ⟨_, rfl⟩
  have hX3 : w3.heap[w2.heap.size]? = some (.cells (inCells a l.length cap false) 42 (0, 0)) := by rw [hw3]; exact heap_alloc_new _ _
  have hb3 : Below w2.heap.size w2 w3 := by rw [hw3]; exact (Below.refl _ _).alloc (Nat.le_refl _) _
  have hr3 := hr2.later hb3
  have hin3 := hin2.later hb3
  have hw3' := hw2'.trans (hb3.mono hw2'.size)
  have hGw : w.heap.size ≤ w2.heap.size := hw2'.size
  have hP : Pair w w3 R Q w2.heap.size l false a cap := ⟨hr3, hX3, hin3, (fun h => by cases h), hw3', by omega, by omega, hGw, hRw⟩
  obtain ⟨G, hG⟩ : ∃ G, G = w2.heap.size := ⟨_, rfl⟩
  have HP : Hid (Paired w R Q G w3) := Lib.hid ⟨l, false, a, cap, by rw [hG]; exact hP⟩
  have HW := Lib.hid hw3
  clear hr1 hw1 hw2 hr2 hw2' hin2 hX3 hb3 hw3 hb hr3 hin3 hw3' hP hRG hQG hGw
  go_upto_block 0 with (fail)
  change Code.wp _ _ _ _ (w2.alloc (.cells (inCells a l.length cap false) 42))
  rw [← HW.out]
  rw [← hG]
  clear HW hG
  go_wp2_with fail
  go_loopw [31] (fun s31 wr => ∃ k : Nat, k ≤ zs.length ∧ s31 = .int .i64 (k : Int) ∧ Hid (Paired w R Q G wr)) (fun s31 _ => zs.length - (intOf s31).toNat)
  case atStart => exact ⟨0, by omega, rfl, HP⟩
  case round =>
    obtain ⟨k, hk, rfl, HPk⟩ := hrel
    clear HP
    obtain ⟨l, f, a, c, hp⟩ := HPk.out
    clear HPk
    by_cases hlt : k < zs.length
    · obtain ⟨b, off, ha, hcell, hwf⟩ := (hc.later hp.below) k hlt
      obtain ⟨z, hz'⟩ : ∃ z, z = zs[k] := ⟨_, rfl⟩
      rw [← hz'] at hcell
      clear hz' hwf
      rw [ha]
      clear ha
      by_cases h100 : (k : Int) < 100
      · go_upto_block 2 with (fail)
        go_cut [] (fun wx => Hid (Paired w R Q G wx))
        case first =>
          have HC := Lib.hid hp.cell
          rcases (show z = 0 ∨ z = 1 ∨ z = 2 ∨ z = 3 ∨ z = 4 ∨ (z ≠ 0 ∧ z ≠ 1 ∧ z ≠ 2 ∧ z ≠ 3 ∧ z ≠ 4) by omega) with rfl | rfl | rfl | rfl | rfl | ⟨n0, n1, n2, n3, n4⟩
          · go_wp2_with (refine wpList_load_row rfl 42 (.tmp 8) rfl G rfl 42 (inCells a l.length c f) (0, 0) _ HC.out Try.underlying42 rfl (sizeIn _ _ _ _) ?_)
            refine (getnum_both R Q a c l f most wr hp.at_ hp.fl).mono ?_
            rintro e w3 ⟨v, l2, f2, a2, c2, rfl, HIN, HF, hb3, HCALL⟩
            have hh3 : (w3.alloc (.cells (inCells none 0 0 false) 42)).heap[w3.heap.size]? = some (.cells (inCells none 0 0 false) 42 (0, 0)) := heap_alloc_new w3 _
            obtain ⟨w4, hw4⟩ : ∃ w4, w4 = (w3.alloc (.cells (inCells none 0 0 false) 42)).setRow w3.heap.size (inCells a2 l2.length c2 f2) := ⟨_, rfl⟩
            have hn4 := new_row w3 42 (inCells none 0 0 false) (inCells a2 l2.length c2 f2)
            rw [← hw4] at hn4
            obtain ⟨hG4, hr5, hG5, hi5, hb5⟩ := hp.into f2 hb3 HIN.out hn4.2
            have HH3 := Lib.hid hh3
            have HN4 := Lib.hid hn4.1
            have HG4 := Lib.hid hG4
            have HR5 := Lib.hid hr5
            have HG5 := Lib.hid hG5
            have HW4 := Lib.hid hw4
            clear hh3 hn4 hG4 hr5 hG5 hw4 hb3
            go_wp2_with (refine wpList_store_row_then rfl 42 (.tmp 12) (.tmp 46) rfl w3.heap.size (inCells a2 l2.length c2 f2) rfl rfl 42 (inCells none 0 0 false) HH3.out (sizeIn _ _ _ _) rfl (oneIn _ _ _ _) ?_)
            refine Lib.hid ?_
            change wpList _ _ _ _ _ ((w3.alloc (.cells (inCells none 0 0 false) 42)).setRow w3.heap.size (inCells a2 l2.length c2 f2))
            rw [← HW4.out]
            go_wp2_with (first | (refine wpList_load_row rfl 42 (.tmp 12) rfl w3.heap.size rfl 42 (inCells a2 l2.length c2 f2) (0, 0) _ HN4.out Try.underlying42 rfl (sizeIn _ _ _ _) ?_) | (refine wpList_store_row rfl 42 (.tmp 8) (.tmp 47) rfl G (inCells a2 l2.length c2 f2) rfl rfl 42 (inCells a l.length c f) HG4.out (sizeIn _ _ _ _) rfl (oneIn _ _ _ _) ?_))
            refine (HCALL.out _ HR5.out).mono ?_
            rintro e w6 ⟨rfl, hr6, hg6⟩
            have hp6 := Lib.hid (hp.asked HF.out HR5.out HG5.out hi5 hb5 hr6 hg6)
            clear hr6 hg6 hi5 hb5
            go_wp2_with fail
            go_meet
            exact Lib.hid ⟨_, _, _, _, hp6.out⟩
          · go_wp2_with (refine wpList_load_row rfl 42 (.tmp 8) rfl G rfl 42 (inCells a l.length c f) (0, 0) _ HC.out Try.underlying42 rfl (sizeIn _ _ _ _) ?_)
            refine (gettext_both R Q a c l f 40 wr hp.at_ hp.fl).mono ?_
            rintro e w3 ⟨v, l2, f2, a2, c2, rfl, HIN, HF, hb3, HCALL⟩
            have hh3 : (w3.alloc (.cells (inCells none 0 0 false) 42)).heap[w3.heap.size]? = some (.cells (inCells none 0 0 false) 42 (0, 0)) := heap_alloc_new w3 _
            obtain ⟨w4, hw4⟩ : ∃ w4, w4 = (w3.alloc (.cells (inCells none 0 0 false) 42)).setRow w3.heap.size (inCells a2 l2.length c2 f2) := ⟨_, rfl⟩
            have hn4 := new_row w3 42 (inCells none 0 0 false) (inCells a2 l2.length c2 f2)
            rw [← hw4] at hn4
            obtain ⟨hG4, hr5, hG5, hi5, hb5⟩ := hp.into f2 hb3 HIN.out hn4.2
            have HH3 := Lib.hid hh3
            have HN4 := Lib.hid hn4.1
            have HG4 := Lib.hid hG4
            have HR5 := Lib.hid hr5
            have HG5 := Lib.hid hG5
            have HW4 := Lib.hid hw4
            clear hh3 hn4 hG4 hr5 hG5 hw4 hb3
            go_wp2_with (refine wpList_store_row_then rfl 42 (.tmp 14) (.tmp 59) rfl w3.heap.size (inCells a2 l2.length c2 f2) rfl rfl 42 (inCells none 0 0 false) HH3.out (sizeIn _ _ _ _) rfl (oneIn _ _ _ _) ?_)
            refine Lib.hid ?_
            change wpList _ _ _ _ _ ((w3.alloc (.cells (inCells none 0 0 false) 42)).setRow w3.heap.size (inCells a2 l2.length c2 f2))
            rw [← HW4.out]
            go_wp2_with (first | (refine wpList_load_row rfl 42 (.tmp 14) rfl w3.heap.size rfl 42 (inCells a2 l2.length c2 f2) (0, 0) _ HN4.out Try.underlying42 rfl (sizeIn _ _ _ _) ?_) | (refine wpList_store_row rfl 42 (.tmp 8) (.tmp 60) rfl G (inCells a2 l2.length c2 f2) rfl rfl 42 (inCells a l.length c f) HG4.out (sizeIn _ _ _ _) rfl (oneIn _ _ _ _) ?_))
            refine (HCALL.out _ HR5.out).mono ?_
            rintro e w6 ⟨rfl, hr6, hg6⟩
            have hp6 := Lib.hid (hp.asked HF.out HR5.out HG5.out hi5 hb5 hr6 hg6)
            clear hr6 hg6 hi5 hb5
            go_wp2_with fail
            go_meet
            exact Lib.hid ⟨_, _, _, _, hp6.out⟩
          · go_wp2_with (refine wpList_load_row rfl 42 (.tmp 8) rfl G rfl 42 (inCells a l.length c f) (0, 0) _ HC.out Try.underlying42 rfl (sizeIn _ _ _ _) ?_)
            refine (getid_both R Q a c l f wr hp.at_ hp.fl).mono ?_
            rintro e w3 ⟨i, hi32, l2, f2, a2, c2, rfl, HIN, HF, hb3, HCALL⟩
            obtain ⟨XL, hXL⟩ : ∃ XL, XL = bvs i := ⟨_, rfl⟩
            have hL32 : XL.length = 32 := by rw [hXL, bvs_length, hi32]
            have heq : ∀ w', (Op.equalIn 10000 24 (.agg XL.toArray) (.agg XL.toArray)).run Try.prog w' = .ok true w' := fun w' => by rw [hXL, eq_ids w' i i hi32 hi32, decide_eq_true rfl]
            have hX1 : XL.toArray.all (·.oneCell') = true := by rw [hXL]; simpa using bvs_oneCell i
            rw [← hXL] at HCALL ⊢
            have hu23 := Try.underlying23
            have hszX : (Try.prog.info? 23).map (·.size) = some XL.length := by rw [hL32]; exact sizeArr
            have hszX' : (Try.prog.info? 23).map (·.size) = some XL.toArray.size := hszX
            have hzX : lit32.size = XL.toArray.size := by rw [lit32_size, List.size_toArray, hL32]
            obtain ⟨wa, hwa⟩ : ∃ wa, wa = ((w3.alloc zarr).alloc (.cells (inCells none 0 0 false) 42)).setRow w3.heap.size XL.toArray := ⟨_, rfl⟩
            have hs0 : ((w3.alloc zarr).alloc (.cells (inCells none 0 0 false) 42)).heap[w3.heap.size]? = some (.cells lit32 23 (0, 0)) := by rw [heap_alloc_old _ _ (by simp), heap_alloc_eq _ _ _ rfl]; rfl
            have hs1 : ((w3.alloc zarr).alloc (.cells (inCells none 0 0 false) 42)).heap[w3.heap.size + 1]? = some (.cells (inCells none 0 0 false) 42 (0, 0)) := by rw [heap_alloc_eq _ _ _ (by simp)]
            have hba : Below w3.heap.size w3 wa := by rw [hwa]; exact below_setRow (((Below.refl _ w3).alloc (Nat.le_refl _) _).alloc (by simp) _) (Nat.le_refl _)
            have ha0 : wa.heap[w3.heap.size]? = some (.cells XL.toArray 23 (0, 0)) := by rw [hwa]; exact setRow_heap _ _ _ _ _ _ hs0
            have ha1 : wa.heap[w3.heap.size + 1]? = some (.cells (inCells none 0 0 false) 42 (0, 0)) := by rw [hwa, setRow_other _ _ _ _ (by omega)]; exact hs1
            obtain ⟨w4, hw4⟩ : ∃ w4, w4 = wa.setRow (w3.heap.size + 1) (inCells a2 l2.length c2 f2) := ⟨_, rfl⟩
            have hn41 : w4.heap[w3.heap.size + 1]? = some (.cells (inCells a2 l2.length c2 f2) 42 (0, 0)) := by rw [hw4]; exact setRow_heap _ _ _ _ _ _ ha1
            have hn40 : w4.heap[w3.heap.size]? = some (.cells XL.toArray 23 (0, 0)) := by rw [hw4, setRow_other _ _ _ _ (by omega)]; exact ha0
            have hn42 : Below w3.heap.size w3 w4 := by rw [hw4]; exact below_setRow hba (by omega)
            obtain ⟨hG4, hr5, hG5, hi5, hb5⟩ := hp.into f2 hb3 HIN.out hn42
            have hGlt : G < w3.heap.size := Nat.lt_of_lt_of_le (lt_of_block hp.cell) hb3.size
            have hRlt : R < w3.heap.size := Nat.lt_of_lt_of_le hp.reads.lt hb3.size
            have hrow5 : (w4.setRow G (inCells a2 l2.length c2 f2)).heap[w3.heap.size]? = some (.cells XL.toArray 23 (0, 0)) := by rw [setRow_other _ _ _ _ (by omega)]; exact hn40
            have hrg5 : ∀ w6, (w4.setRow G (inCells a2 l2.length c2 f2)).grownBy w6 (some R) → (fun w' : World => w'.rangeAt w3.heap.size 0 XL) w6 := by
              intro w6 h6 j u hu
              have h7 : w6.heap[w3.heap.size]? = some (.cells XL.toArray 23 (0, 0)) := by rw [h6.block _ (lt_of_block hrow5) (by intro e; injection e with e; omega)]; exact hrow5
              rw [Nat.zero_add, cell_of_block h7]
              simpa using hu
            have hrg0 : (w4.setRow G (inCells a2 l2.length c2 f2)).rangeAt w3.heap.size 0 XL := hrg5 _ (grownBy_below (Below.refl _ _) _)
            have HK := Lib.hid (show ∀ w6, (w4.setRow G (inCells a2 l2.length c2 f2)).drew.grownBy w6 (some R) → (fun w' : World => w'.rangeAt w3.heap.size 0 XL) w6 from fun w6 h6 => hrg5 w6 (grownBy_trans (grownBy_drew _ _) h6))
            have HR5 := Lib.hid (show Reads (w4.setRow G (inCells a2 l2.length c2 f2)).drew R Q l f from hr5)
            have HS0 := Lib.hid hs0
            have HA1 := Lib.hid ha1
            have HN4 := Lib.hid hn41
            have HG4 := Lib.hid hG4
            have HRR := Lib.hid hr5
            have HG5 := Lib.hid hG5
            have HW4 := Lib.hid hw4
            have HWA := Lib.hid hwa
            have HSZ := Lib.hid hszX'
            have HZX := Lib.hid hzX
            have HX1 := Lib.hid hX1
            clear hn41 hn40 hn42 hG4 hr5 hG5 hw4 hb3 hwa hs0 hs1 hba ha0 ha1 hrow5 hrg5 hszX' hzX hX1 hi32 hXL
            go_wp2_with (refine wpList_store_row_then rfl 23 (.tmp 15) (.tmp 70) rfl w3.heap.size XL.toArray rfl rfl 23 lit32 HS0.out HSZ.out HZX.out HX1.out ?_)
            refine Lib.hid ?_
            change wpList _ _ _ _ _ (((w3.alloc zarr).alloc (.cells (inCells none 0 0 false) 42)).setRow w3.heap.size XL.toArray)
            rw [← HWA.out]
            go_wp2_with (refine wpList_store_row_then rfl 42 (.tmp 16) (.tmp 71) rfl (w3.heap.size + 1) (inCells a2 l2.length c2 f2) rfl rfl 42 (inCells none 0 0 false) HA1.out (sizeIn _ _ _ _) rfl (oneIn _ _ _ _) ?_)
            refine Lib.hid ?_
            change wpList _ _ _ _ _ (wa.setRow (w3.heap.size + 1) (inCells a2 l2.length c2 f2))
            rw [← HW4.out]
            go_wp2_with (first | (refine wpList_load_row rfl 42 (.tmp 16) rfl (w3.heap.size + 1) rfl 42 (inCells a2 l2.length c2 f2) (0, 0) _ HN4.out Try.underlying42 rfl (sizeIn _ _ _ _) ?_) | (refine wpList_store_row rfl 42 (.tmp 8) (.tmp 72) rfl G (inCells a2 l2.length c2 f2) rfl rfl 42 (inCells a l.length c f) HG4.out (sizeIn _ _ _ _) rfl (oneIn _ _ _ _) ?_))
            go_region_held3 (fun w' => w'.rangeAt w3.heap.size 0 XL) (first | (go_keep; done) | exact HK.out _ (by assumption)) ((refine (HCALL.out _ HR5.out).mono ?_; rintro e w6 ⟨rfl, hr6, hg6⟩))
            have hp6 := Lib.hid (hp.asked HF.out HRR.out HG5.out hi5 hb5 hr6 (grownBy_trans (grownBy_drew _ _) hg6))
            clear hr6 hg6 hi5 hb5 heq hrg0
            go_wp2_with fail
            go_meet
            exact Lib.hid ⟨_, _, _, _, hp6.out⟩
          · go_wp2_with (refine wpList_load_row rfl 42 (.tmp 8) rfl G rfl 42 (inCells a l.length c f) (0, 0) _ HC.out Try.underlying42 rfl (sizeIn _ _ _ _) ?_)
            refine (getfour_both R Q a c l f wr hp.at_ hp.fl).mono ?_
            rintro e w3 ⟨v, l2, f2, a2, c2, rfl, HIN, HF, hb3, HCALL⟩
            have hh3 : (w3.alloc (.cells (inCells none 0 0 false) 42)).heap[w3.heap.size]? = some (.cells (inCells none 0 0 false) 42 (0, 0)) := heap_alloc_new w3 _
            obtain ⟨w4, hw4⟩ : ∃ w4, w4 = (w3.alloc (.cells (inCells none 0 0 false) 42)).setRow w3.heap.size (inCells a2 l2.length c2 f2) := ⟨_, rfl⟩
            have hn4 := new_row w3 42 (inCells none 0 0 false) (inCells a2 l2.length c2 f2)
            rw [← hw4] at hn4
            obtain ⟨hG4, hr5, hG5, hi5, hb5⟩ := hp.into f2 hb3 HIN.out hn4.2
            have HH3 := Lib.hid hh3
            have HN4 := Lib.hid hn4.1
            have HG4 := Lib.hid hG4
            have HR5 := Lib.hid hr5
            have HG5 := Lib.hid hG5
            have HW4 := Lib.hid hw4
            clear hh3 hn4 hG4 hr5 hG5 hw4 hb3
            go_wp2_with (refine wpList_store_row_then rfl 42 (.tmp 18) (.tmp 83) rfl w3.heap.size (inCells a2 l2.length c2 f2) rfl rfl 42 (inCells none 0 0 false) HH3.out (sizeIn _ _ _ _) rfl (oneIn _ _ _ _) ?_)
            refine Lib.hid ?_
            change wpList _ _ _ _ _ ((w3.alloc (.cells (inCells none 0 0 false) 42)).setRow w3.heap.size (inCells a2 l2.length c2 f2))
            rw [← HW4.out]
            go_wp2_with (first | (refine wpList_load_row rfl 42 (.tmp 18) rfl w3.heap.size rfl 42 (inCells a2 l2.length c2 f2) (0, 0) _ HN4.out Try.underlying42 rfl (sizeIn _ _ _ _) ?_) | (refine wpList_store_row rfl 42 (.tmp 8) (.tmp 84) rfl G (inCells a2 l2.length c2 f2) rfl rfl 42 (inCells a l.length c f) HG4.out (sizeIn _ _ _ _) rfl (oneIn _ _ _ _) ?_))
            refine (HCALL.out _ HR5.out).mono ?_
            rintro e w6 ⟨rfl, hr6, hg6⟩
            have hp6 := Lib.hid (hp.asked HF.out HR5.out HG5.out hi5 hb5 hr6 hg6)
            clear hr6 hg6 hi5 hb5
            go_wp2_with fail
            go_meet
            exact Lib.hid ⟨_, _, _, _, hp6.out⟩
          · go_wp2_with fail
            refine (fail_any R Q l f wr hp.reads).mono ?_
            rintro e w6 ⟨rfl, hr6, hg6⟩
            obtain ⟨_, _, x, kk, hR, _⟩ := hp.reads
            have hG6 : w6.heap[G]? = some (.cells (inCells a l.length c f) 42 (0, 0)) := by rw [hg6.block _ (lt_of_block hp.cell) (by intro e; injection e with e; exact hp.gr e)]; exact hp.cell
            have hgr := grownBy_setRow w6 G (inCells none 0 0 true)
            have hp7 : Pair w (w6.setRow G (inCells none 0 0 true)) R Q G [] true none 0 := ⟨hr6.other hgr hp.gr hp.gq, setRow_heap _ _ _ _ _ _ hG6, InAt.none' _, fun _ => rfl, below_setRow (below_grownBy (Nat.le_refl _) hp.below hg6 hp.wR) hp.wg, hp.gr, hp.gq, hp.wg, hp.wR⟩
            have HG6 := Lib.hid hG6
            have HP7 := Lib.hid hp7
            clear hR hG6 hp7 hr6 hg6 hgr
            go_wp2_with (refine wpList_store_row rfl 42 (.tmp 8) (.tmp 93) rfl G (inCells none 0 0 true) rfl rfl 42 (inCells a l.length c f) HG6.out (sizeIn _ _ _ _) rfl (oneIn _ _ _ _) ?_)
            go_meet
            exact Lib.hid ⟨_, _, _, _, HP7.out⟩
          · go_wp2_with fail
            go_meet
            exact Lib.hid ⟨_, _, _, _, hp⟩
        obtain ⟨l, f, a, c, hq⟩ := hcut.out
        clear hcut hp hcell
        obtain ⟨n, hn⟩ : ∃ n, n = l.length := ⟨_, rfl⟩
        obtain ⟨v, hv⟩ : ∃ v, v = (!f && l.isEmpty) := ⟨_, rfl⟩
        cases f
        all_goals
          have HC0 := Lib.hid (hq.cells n hn)
          have HC1 := Lib.hid (fun w' h' => cell_of_block (i := 0) (hq.cells n hn w' h'))
          have HC2 := Lib.hid (fun w' h' => cell_of_block (i := 1) (hq.cells n hn w' h'))
          have HGD := Lib.hid (hq.goods _ rfl)
          have HLF := Lib.hid (hq.lefts n hn)
          have HDN := Lib.hid (hq.dones v hv)
          have HRD := Lib.hid (hq.refdones v hv n hn)
          have HQ := Lib.hid hq
          clear hq hn hv
          go_wp2_with fail
          refine wp_region_below' (w0 := wc) (B := wc.heap.size) (by kernel_rfl) (by kernel_rfl) (Below.refl _ _) ?_
          repeat (first
            | go_big_quiet_skip
            | (go_big_quiet_want
               first
                 | (refine quiet_load_row' 42 (.tmp 8) rfl G rfl 42 (inCells a n c _) (0, 0) _ HC0.out Try.underlying42 rfl (sizeIn _ _ _ _) ?_
                    simp only [Act.put, List.setIfInBounds_toArray, List.set_cons_zero, List.set_cons_succ]
                    go_big_quiet_on)
                 | (refine quiet_load_cell 22 (.tmp 102) rfl ⟨G, 0, none⟩ rfl (.slice a n c) _ HC1.out Try.underlying22 rfl ?_
                    simp only [Act.put, List.setIfInBounds_toArray, List.set_cons_zero, List.set_cons_succ]
                    go_big_quiet_on)
                 | (refine quiet_load_cell 4 (.tmp 96) rfl ⟨G, 1, none⟩ rfl (.bool _) _ HC2.out Try.underlying4 rfl ?_
                    simp only [Act.put, List.setIfInBounds_toArray, List.set_cons_zero, List.set_cons_succ]
                    go_big_quiet_on)
                 | (refine quiet_enter' _ _ _ ?_ HGD.out ?_
                    · intro w; go_simp
                    simp only [Act.put, List.setIfInBounds_toArray, List.set_cons_zero, List.set_cons_succ]
                    go_big_quiet_on)
                 | (refine quiet_enter' _ _ _ ?_ HLF.out ?_
                    · intro w; go_simp
                    simp only [Act.put, List.setIfInBounds_toArray, List.set_cons_zero, List.set_cons_succ]
                    go_big_quiet_on)
                 | (refine quiet_enter' _ _ _ ?_ HDN.out ?_
                    · intro w; go_simp
                    simp only [Act.put, List.setIfInBounds_toArray, List.set_cons_zero, List.set_cons_succ]
                    go_big_quiet_on)
                 | (refine quiet_enter' _ _ _ ?_ HRD.out ?_
                    · intro w; go_simp
                    simp only [Act.put, List.setIfInBounds_toArray, List.set_cons_zero, List.set_cons_succ]
                    go_big_quiet_on)
                 | (go_big_quiet_op
                    refine ⟨_, fun _ _ => rfl, ?_⟩
                    go_big_quiet_on)
                 | (go_big_quiet_op
                    go_big_quiet_on)))
          refine wpQuiet_nil ?_
          intro w4 hb4
          go_wp2_with fail
          go_roundw
          case rel => exact ⟨k + 1, by omega, by go_num, Lib.hid ⟨_, _, _, _, HQ.out.later hb4⟩⟩
          case measure => simp [intOf]; omega
      · go_wp2_with fail
        go_ret
        exact ⟨rfl, hp.below⟩
    · go_wp2_with fail
      go_ret
      exact ⟨rfl, hp.below⟩

theorem encReads_walk (w : World) (a0 : Option Addr) (len0 cap0 : Nat) (z0 : List Int) (w0 : IsRow .u8 w a0 len0 cap0 z0) (r0 : cap0 * 1 ≤ 140737488351232) (a1 : Option Addr) (len1 cap1 : Nat) (z1 : List Int) (w1 : IsRow .i64 w a1 len1 cap1 z1) (_ : cap1 * 8 ≤ 140737488351232) (a2 : Int) (_ : (Lit.int .i64 a2).wf = true) :
    Calls Try.prog 4 #[.slice a0 len0 cap0, .slice a1 len1 cap1, .int .i64 a2] w fun e w' => e = .returned (.bool true) ∧ Below w.heap.size w w' := by
  obtain ⟨l, rfl, hl, hm, hb⟩ := w0.bytes
  obtain ⟨zs, rfl, hl2, hm2, hc⟩ := w1.ints
  exact encReads_any a0 l cap0 a1 zs cap1 a2 w ⟨hb, hl, hm⟩ hc (by omega) (by omega)
end Go.Proofs.Ytcdklimpekknnab
