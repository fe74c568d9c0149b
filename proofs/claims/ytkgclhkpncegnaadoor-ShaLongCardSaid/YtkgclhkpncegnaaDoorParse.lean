/-
  The walk of sha.Parse.
-/
import Derived.Test.YtkgclhkpncegnaaDoorParseMath
namespace Go.Proofs.YtkgclhkpncegnaaDoor
open Go.RowKit

/-- The cells of an ID of noughts, as the model writes them. -/
def lit32 : Array Value := #[.int .u8 0, .int .u8 0, .int .u8 0, .int .u8 0, .int .u8 0, .int .u8 0, .int .u8 0, .int .u8 0, .int .u8 0, .int .u8 0, .int .u8 0, .int .u8 0, .int .u8 0, .int .u8 0, .int .u8 0, .int .u8 0, .int .u8 0, .int .u8 0, .int .u8 0, .int .u8 0, .int .u8 0, .int .u8 0, .int .u8 0, .int .u8 0, .int .u8 0, .int .u8 0, .int .u8 0, .int .u8 0, .int .u8 0, .int .u8 0, .int .u8 0, .int .u8 0]
theorem lit32_eq : lit32 = (zeros 32).toArray := by kernel_rfl
theorem lit32_all : lit32.all (·.oneCell') = true := by
  rw [lit32_eq, zeros]
  simp
  rfl
/-- An ID's new block. -/
def zid : Obj := .cells lit32 29
theorem lit32_size : lit32.size = 32 := rfl

theorem zeros_bvs (k : Nat) : zeros k = bvs (List.replicate k 0) := by
  induction k with
  | zero => rfl
  | succ k ih => simp [zeros, bvs, bv]
theorem sizeID : (Tryd.prog.info? 29).map (·.size) = some 32 := by kernel_rfl
theorem sizeLit : (Tryd.prog.info? 29).map (·.size) = some lit32.size := by rw [sizeID, lit32_size]
theorem sizeId (X : List UInt8) (h : X.length = 32) : (Tryd.prog.info? 29).map (·.size) = some (bvs X).toArray.size := by
  rw [sizeID, List.size_toArray, bvs_length, h]

def Parsed (l : List UInt8) (w : World) (e : Ending) (w' : World) : Prop :=
  e = .returned (.tuple #[.agg (bvs (parseL l)).toArray, .bool (parseB l)]) ∧ Below w.heap.size w w'

set_option maxRecDepth 100000 in
set_option maxHeartbeats 1000000 in
theorem parse_short (s : ByteArray) (w : World) (h : s.size ≠ 64) : Calls Tryd.prog 32 #[.string s] w (Parsed s.data.toList w) := by
  have hl : s.data.toList.length ≠ 64 := by rw [Array.length_toList]; exact h
  have e1 : parseL s.data.toList = List.replicate 32 0 := by unfold parseL; rw [if_neg (fun hh => hl hh.1)]
  have e2 : parseB s.data.toList = false := by unfold parseB; rw [decide_eq_false hl]; rfl
  unfold Parsed
  rw [e1, e2, ← zeros_bvs]
  clear e1 e2 hl
  rw [← lit32_eq]
  obtain ⟨w2, hw2⟩ : ∃ w2, w2 = (w.alloc zid).alloc zid := ⟨_, rfl⟩
  have hh : w2.heap[w.heap.size]? = some (.cells lit32 29 (0, 0)) := by
    rw [hw2, heap_alloc_old _ _ (by simp)]; exact heap_alloc_new w _
  have hb2 : Below w.heap.size w w2 := by rw [hw2]; exact ((Below.refl _ w).alloc (Nat.le_refl _) _).alloc (by simp) _
  have HH := Lib.hid hh
  have HB := Lib.hid hb2
  have hne : ¬ ((s.size : Int) = 64) := by omega
  clear hh hb2
  go_enter Tryd.func32, Tryd.ntmps32
  go_upto_region 2 with (fail)
  unfold zid lit32 at hw2
  rw [← hw2]
  clear hw2
  go_wp2_with (refine wpList_store_row rfl 29 (.tmp 2) (.tmp 12) rfl w.heap.size lit32 rfl rfl 29 lit32 HH.out sizeLit rfl lit32_all ?_)
  refine bodyPost_ret (v := .tuple #[.agg lit32, .bool false]) (results_row_tmp rfl _ _ w.heap.size 29 lit32 (0, 0) _ _ rfl (setRow_heap w2 w.heap.size _ lit32 _ _ HH.out) Tryd.underlying29 rfl sizeLit rfl) rfl ?_
  exact ⟨rfl, below_grownBy (Nat.le_refl _) HB.out ⟨rfl, rfl, rfl, by simp, fun k _ hk => setRow_other _ w.heap.size k _ (fun e => hk (by rw [e]))⟩ (Nat.le_refl _)⟩

set_option maxRecDepth 100000 in
set_option maxHeartbeats 1000000 in
theorem parse_long (s : ByteArray) (w : World) (h : s.size = 64) : Calls Tryd.prog 32 #[.string s] w (Parsed s.data.toList w) := by
  obtain ⟨l, hl⟩ : ∃ l, l = s.data.toList := ⟨_, rfl⟩
  have hll : l.length = 64 := by rw [hl, Array.length_toList]; exact h
  have hget : ∀ i (hi : i < s.size), s[i] = l.getD i 0 := by
    intro i hi
    have hi' : i < l.length := by omega
    rw [List.getD_eq_getElem?_getD, List.getElem?_eq_getElem hi', Option.getD_some]
    subst hl
    simp [ByteArray.getElem_eq_getElem_data]
  rw [← hl]
  have hz32 : lit32 = (bvs (parsed l 0)).toArray := by rw [parsed_zero, ← zeros_bvs]; exact lit32_eq
  obtain ⟨w2, hw2⟩ : ∃ w2, w2 = (w.alloc zid).alloc zid := ⟨_, rfl⟩
  have hA2 : w2.heap[w.heap.size]? = some (.cells lit32 29 (0, 0)) := by
    rw [hw2, heap_alloc_old _ _ (by simp)]; exact heap_alloc_new w _
  have hB2 : w2.heap[w.heap.size + 1]? = some (.cells lit32 29 (0, 0)) := by
    rw [hw2, show w.heap.size + 1 = (w.alloc zid).heap.size by simp]; exact heap_alloc_new _ _
  have hs2 : w2.heap.size = w.heap.size + 2 := by rw [hw2]; simp
  have hb2 : Below w.heap.size w w2 := by rw [hw2]; exact ((Below.refl _ w).alloc (Nat.le_refl _) _).alloc (by simp) _
  have hit : w2.iter s 0 = w2.alloc (.stringIter s 0) := rfl
  have HLL := Lib.hid hll
  have HL := Lib.hid hl
  have HG := Lib.hid hget
  have HZ := Lib.hid hz32
  have HA2 := Lib.hid hA2
  have HB2 := Lib.hid hB2
  have HS2 := Lib.hid hs2
  have HB := Lib.hid hb2
  have HIT := Lib.hid hit
  have h64 : (s.size : Int) = 64 := by omega
  clear hll hl hget hz32 hA2 hB2 hb2 hs2 hit
  unfold Parsed
  go_enter Tryd.func32, Tryd.ntmps32
  go_upto_region 2 with (fail)
  unfold zid lit32 at hw2
  rw [← hw2]
  clear hw2
  go_wp2_with fail
  obtain ⟨w3, hw3⟩ : ∃ w3, w3 = w2.iter s 0 := ⟨_, rfl⟩
  rw [← hw3]
  have hA3 : w3.heap[w.heap.size]? = some (.cells lit32 29 (0, 0)) := by rw [hw3, HIT.out, heap_alloc_old _ _ (by rw [HS2.out]; omega)]; exact HA2.out
  have hB3 : w3.heap[w.heap.size + 1]? = some (.cells (bvs (parsed l 0)).toArray 29 (0, 0)) := by rw [hw3, HIT.out, heap_alloc_old _ _ (by rw [HS2.out]; omega), ← HZ.out]; exact HB2.out
  have hI3 : w3.heap[w2.heap.size]? = some (.stringIter s 0) := by rw [hw3, HIT.out]; exact heap_alloc_new w2 _
  have hb3 : Below w.heap.size w w3 := by rw [hw3, HIT.out]; exact HB.out.alloc (by rw [HS2.out]; omega) _
  have HA3 := Lib.hid hA3
  have HB3 := Lib.hid hB3
  have HI3 := Lib.hid hI3
  clear hw3 hA3 hB3 hI3
  go_loopw [15] (fun _ wr => ∃ k : Nat, k ≤ 64 ∧ Hid (wr.heap[w2.heap.size]? = some (.stringIter s k)) ∧ Hid (wr.heap[w.heap.size + 1]? = some (.cells (bvs (parsed l k)).toArray 29 (0, 0))) ∧ Hid (wr.heap[w.heap.size]? = some (.cells lit32 29 (0, 0))) ∧ Below w.heap.size w wr ∧ Hid (∀ i, i < k → (unh (l.getD i 0).toNat).isSome = true)) (fun _ wr => 64 - wr.iterPos w2.heap.size)
  case atStart => exact ⟨0, by omega, HI3, HB3, HA3, hb3, fun i hi => absurd hi (by omega)⟩
  case round =>
    obtain ⟨k, hk, HI, HBk, HA, hbr, HOK⟩ := hrel
    by_cases hlt : k < 64
    · obtain ⟨c, hc⟩ : ∃ c, c = l.getD k 0 := ⟨_, rfl⟩
      have hsk : k < s.size := by omega
      have hcs : s[k] = c := by rw [HG.out k hsk, hc]
      cases hu : unh c.toNat with
      | some v =>
        have hv := unh_lt hu
        have h128 : c.toNat < 128 := by
          rcases Nat.lt_or_ge c.toNat 128 with h1 | h1
          · exact h1
          · rw [unh_high h1] at hu; cases hu
        have hnx := Lib.run_next_ascii_at (P := Tryd.prog) wr w2.heap.size s k 0 HI.out hsk (by rw [hcs]; exact h128)
        rw [hcs] at hnx
        obtain ⟨w4, hw4⟩ : ∃ w4, w4 = wr.iterAt w2.heap.size s (k + 1) := ⟨_, rfl⟩
        rw [← hw4] at hnx
        have hg4 : wr.grownBy w4 (some w2.heap.size) := by rw [hw4]; exact grownBy_iterAt _ _ _ _
        have hI4 : w4.heap[w2.heap.size]? = some (.stringIter s (k + 1)) := by rw [hw4]; exact Lib.iterAt_heap _ _ _ _ _ HI.out
        have hb4 : Below w.heap.size w w4 := below_grownBy (Nat.le_refl _) hbr hg4 (by rw [HS2.out]; omega)
        have hA4 : w4.heap[w.heap.size]? = some (.cells lit32 29 (0, 0)) := by rw [hw4, Lib.iterAt_other _ _ _ _ _ (by rw [HS2.out]; omega)]; exact HA.out
        have hB4 : w4.heap[w.heap.size + 1]? = some (.cells (bvs (parsed l k)).toArray 29 (0, 0)) := by rw [hw4, Lib.iterAt_other _ _ _ _ _ (by rw [HS2.out]; omega)]; exact HBk.out
        have hdg : Calls Tryd.prog 40 #[.int .i32 (c.toNat : Int)] w4 fun e w' => e = .returned (.tuple #[.int .u8 (v : Int), .bool true]) ∧ w4 = w' := by
          have := digit_any c.toNat (by omega) w4
          rw [hu] at this
          exact this
        obtain ⟨x, hx⟩ : ∃ x, x = cellN l k (k / 2) := ⟨_, rfl⟩
        have hx16 : x < 16 := by rw [hx]; exact cellN_old l k
        have hnv : nibV l k = v := by unfold nibV; rw [← hc, hu]; rfl
        have hstep := parsed_step l k
        rw [← hx, hnv] at hstep
        have hcell : w4.cell? ⟨w.heap.size + 1, k / 2, none⟩ = some (.int .u8 (x : Int)) := by
          rw [cell_of_block hB4]
          have h2 := bvs_get (parsed l k) (k / 2) (by rw [parsed_length]; omega)
          rw [parsed_get _ _ _ (by omega), ← hx, UInt8.toNat_ofNat', Nat.mod_eq_of_lt (by omega)] at h2
          simpa using h2
        have hfr : ∀ j, w4.frozen? ⟨w.heap.size + 1, j, none⟩ = false := fun j => free_of_block hB4
        have hor := shl_or x v hx16 hv
        have HW4 := Lib.hid hw4
        have HI4 := Lib.hid hI4
        have HA4 := Lib.hid hA4
        have HB4 := Lib.hid hB4
        have HDG := Lib.hid hdg
        have HST := Lib.hid hstep
        have HC := Lib.hid hc
        have HU := Lib.hid hu
        clear hw4 hg4 hI4 hA4 hB4 hdg hx hnv hstep hc hu hcs hbr
        go_wp2_with fail
        refine HDG.out.mono ?_
        rintro e w' ⟨rfl, rfl⟩
        go_wp2_with fail
        go_roundw
        case rel =>
          refine ⟨k + 1, by omega, ?_, ?_, ?_, hb4.setCell (by show w.heap.size ≤ w.heap.size + 1; omega) _, ?_⟩
          · have h2 := Below.heap_setCell w4 ⟨w.heap.size + 1, k / 2, none⟩ (.int .u8 (16 * (x : Int) + (v : Int))) w2.heap.size (by rw [HS2.out]; show _ ≠ w.heap.size + 1; omega)
            exact h2.trans HI4.out
          · have h2 := heap_setCell_same w4 (w.heap.size + 1) (k / 2) _ _ (.int .u8 (16 * (x : Int) + (v : Int))) HB4.out
            refine h2.trans ?_
            rw [← HST.out]
            have h4 : (16 * (x : Int) + (v : Int)) % 256 = 16 * (x : Int) + (v : Int) := by omega
            simp [bvs, bv, List.map_set, h4]
          · have h2 := Below.heap_setCell w4 ⟨w.heap.size + 1, k / 2, none⟩ (.int .u8 (16 * (x : Int) + (v : Int))) w.heap.size (by show _ ≠ w.heap.size + 1; omega)
            exact h2.trans HA4.out
          · intro i hi
            by_cases hik : i = k
            · subst hik
              rw [← HC.out, HU.out]; rfl
            · exact HOK.out i (by omega)
        case measure =>
          have h2 := Below.heap_setCell w4 ⟨w.heap.size + 1, k / 2, none⟩ (.int .u8 (16 * (x : Int) + (v : Int))) w2.heap.size (by rw [HS2.out]; show _ ≠ w.heap.size + 1; omega)
          unfold World.iterPos
          rw [h2, HI4.out, HI.out]
          show 64 - (k + 1) < 64 - k
          omega
      | none =>
        obtain ⟨r, hr⟩ : ∃ r, r = (Utf8.decode s k).1 := ⟨_, rfl⟩
        have hrl : r ≤ 2147483647 := by rw [hr]; exact decode_le s k
        have hur : unh r = none := by
          rcases Nat.lt_or_ge c.toNat 128 with h1 | h1
          · rw [hr, decode_ascii s k hsk (by rw [hcs]; exact h1), hcs]; exact hu
          · rw [hr]; exact unh_high (decode_high s k hsk (by rw [hcs]; exact h1)).1
        have hnx := Lib.run_next_any_at (P := Tryd.prog) wr w2.heap.size s k 0 HI.out hsk
        rw [← hr] at hnx
        obtain ⟨w4, hw4⟩ : ∃ w4, w4 = wr.iterAt w2.heap.size s (k + (Utf8.decode s k).2) := ⟨_, rfl⟩
        rw [← hw4] at hnx
        have hg4 : wr.grownBy w4 (some w2.heap.size) := by rw [hw4]; exact grownBy_iterAt _ _ _ _
        have hb4 : Below w.heap.size w w4 := below_grownBy (Nat.le_refl _) hbr hg4 (by rw [HS2.out]; omega)
        have hA4 : w4.heap[w.heap.size]? = some (.cells lit32 29 (0, 0)) := by rw [hw4, Lib.iterAt_other _ _ _ _ _ (by rw [HS2.out]; omega)]; exact HA.out
        have hdg : Calls Tryd.prog 40 #[.int .i32 (r : Int)] w4 fun e w' => e = .returned (.tuple #[.int .u8 0, .bool false]) ∧ w4 = w' := by
          have := digit_any r hrl w4
          rw [hur] at this
          exact this
        have hno : allHex l = false := by
          unfold allHex
          rw [List.all_eq_false]
          refine ⟨c, ?_, by rw [hu]; simp⟩
          have hk' : k < l.length := by rw [HLL.out]; omega
          rw [hc, List.getD_eq_getElem?_getD, List.getElem?_eq_getElem hk', Option.getD_some]
          exact List.getElem_mem _
        have e1 : parseL l = List.replicate 32 0 := by unfold parseL; rw [if_neg (by rw [hno]; simp)]
        have e2 : parseB l = false := by unfold parseB; rw [hno]; simp
        have hE : Value.tuple #[.agg (bvs (parseL l)).toArray, .bool (parseB l)] = .tuple #[.agg lit32, .bool false] := by rw [e1, e2, ← zeros_bvs, ← lit32_eq]
        have HE := Lib.hid hE
        have HA4 := Lib.hid hA4
        have HDG := Lib.hid hdg
        clear hw4 hg4 hA4 hdg hr hur hno e1 e2 hE hu hc hcs hrl hbr
        go_wp2_with fail
        refine HDG.out.mono ?_
        rintro e w' ⟨rfl, rfl⟩
        go_wp2_with (refine wpList_store_row rfl 29 (.tmp 2) (.tmp 26) rfl w.heap.size lit32 rfl rfl 29 lit32 HA4.out sizeLit rfl lit32_all ?_)
        refine bodyPost_ret (v := .tuple #[.agg lit32, .bool false]) (results_row_tmp rfl _ _ w.heap.size 29 lit32 (0, 0) _ _ rfl (setRow_heap w4 w.heap.size _ lit32 _ _ HA4.out) Tryd.underlying29 rfl sizeLit rfl) rfl ?_
        exact ⟨by rw [HE.out], below_grownBy (Nat.le_refl _) hb4 ⟨rfl, rfl, rfl, by simp, fun k _ hk => setRow_other _ w.heap.size k _ (fun e => hk (by rw [e]))⟩ (Nat.le_refl _)⟩
    · have hnx := Lib.run_next_end_at (P := Tryd.prog) wr w2.heap.size s k 0 HI.out (by omega)
      have hall : allHex l = true := by
        unfold allHex
        rw [List.all_eq_true]
        intro c hc
        obtain ⟨i, hi, rfl⟩ := List.mem_iff_getElem.1 hc
        have := HOK.out i (by rw [HLL.out] at hi; omega)
        rwa [List.getD_eq_getElem?_getD, List.getElem?_eq_getElem hi, Option.getD_some] at this
      have hk64 : k = 64 := by omega
      have e1 : parseL l = parsed l k := by unfold parseL; rw [if_pos ⟨HLL.out, hall⟩, hk64]
      have e2 : parseB l = true := by unfold parseB; rw [hall, HLL.out]; rfl
      obtain ⟨X, hX⟩ : ∃ X, X = (bvs (parsed l k)).toArray := ⟨_, rfl⟩
      have hXs : (Tryd.prog.info? 29).map (·.size) = some X.size := by rw [hX]; exact sizeId _ (parsed_length _ _)
      have hX1 : X.all (·.oneCell') = true := by rw [hX]; simpa using bvs_oneCell (parsed l k)
      have hXl : lit32.size = X.size := by
        have h2 : (bvs (parsed l k)).toArray.size = 32 := by rw [List.size_toArray, bvs_length, parsed_length]
        rw [hX, h2, lit32_size]
      have hBk := HBk.out
      have hE : Value.tuple #[.agg (bvs (parseL l)).toArray, .bool (parseB l)] = .tuple #[.agg X, .bool true] := by rw [e1, e2, hX]
      have HE := Lib.hid hE
      rw [← hX] at hBk
      have HXS := Lib.hid hXs
      have HX1 := Lib.hid hX1
      have HXL := Lib.hid hXl
      have HBK := Lib.hid hBk
      clear hX hXs hX1 hXl hBk e1 e2 hE hall hk64
      go_wp2_with (first | (refine wpList_load_row rfl 29 (.tmp 4) rfl (w.heap.size + 1) rfl 29 X (0, 0) _ HBK.out Tryd.underlying29 rfl HXS.out ?_) | (refine wpList_store_row rfl 29 (.tmp 2) (.tmp 37) rfl w.heap.size X rfl rfl 29 lit32 HA.out HXS.out HXL.out HX1.out ?_))
      refine bodyPost_ret (v := .tuple #[.agg X, .bool true]) (results_row_tmp rfl _ _ w.heap.size 29 X (0, 0) _ _ rfl (setRow_heap wr w.heap.size _ X _ _ HA.out) Tryd.underlying29 rfl HXS.out rfl) rfl ?_
      exact ⟨by rw [HE.out], below_grownBy (Nat.le_refl _) hbr ⟨rfl, rfl, rfl, by simp, fun k _ hk => setRow_other _ w.heap.size k _ (fun e => hk (by rw [e]))⟩ (Nat.le_refl _)⟩

theorem parse_any (s : ByteArray) (w : World) : Calls Tryd.prog 32 #[.string s] w (Parsed s.data.toList w) := by
  by_cases h : s.size = 64
  · exact parse_long s w h
  · exact parse_short s w h
end Go.Proofs.YtkgclhkpncegnaaDoor
