/-
  The walk of the reference's Parse.
-/
import Derived.Test.YtcgfkgkajifpbaaParse
import Derived.Deep.QuietTactic
import Derived.BigQuiet
namespace Go.Proofs.Ytcgfkgkajifpbaa
open Go.RowKit

theorem sizeArr : (Try.prog.info? 22).map (·.size) = some 32 := by kernel_rfl
theorem sizeLitA : (Try.prog.info? 22).map (·.size) = some lit32.size := by rw [sizeArr, lit32_size]
def zarr : Obj := .cells lit32 22

/-- As 'wpList_store_row', but the walk stands still behind it. -/
theorem wpList_store_row_then {P : Program} {ops : Array Oper} {rest : List Oper} {o : Oper} {a : Act} {w : World} {Q : Exit → Act → World → Prop} (hgd : o.guard = none) (ty : TypeId) (x y : Operand) (ho : o.op = .store ty x y)
    (g : Nat) (cells : Array Value) (hx : a.eval x = .pointer (some ⟨g, 0, none⟩)) (hy : a.eval y = .agg cells)
    (t : TypeId) (old : Array Value) (hg : w.heap[g]? = some (.cells old t (0, 0))) (hi : (P.info? ty).map (·.size) = some cells.size)
    (hold : old.size = cells.size) (h1 : cells.all (·.oneCell') = true)
    (h : Hid (wpList P ops Q rest (a.put o.dst undef) (w.setRow g cells))) : wpList P ops Q (o :: rest) a w :=
  wpList_store_row hgd ty x y ho g cells hx hy t old hg hi hold h1 h.out

set_option maxRecDepth 100000 in
set_option maxHeartbeats 1000000 in
theorem refparse_short (s : ByteArray) (w : World) (h : s.size ≠ 64) : Calls Try.prog 10 #[.string s] w (Parsed s.data.toList w) := by
  have hl : s.data.toList.length ≠ 64 := by rw [Array.length_toList]; exact h
  have e1 : parseL s.data.toList = List.replicate 32 0 := by unfold parseL; rw [if_neg (fun hh => hl hh.1)]
  have e2 : parseB s.data.toList = false := by unfold parseB; rw [decide_eq_false hl]; rfl
  unfold Parsed
  rw [e1, e2, ← zeros_bvs]
  clear e1 e2 hl
  rw [← lit32_eq]
  obtain ⟨w2, hw2⟩ : ∃ w2, w2 = (w.alloc zarr).alloc zarr := ⟨_, rfl⟩
  have hA : w2.heap[w.heap.size]? = some (.cells lit32 22 (0, 0)) := by
    rw [hw2, heap_alloc_old _ _ (by simp)]; exact heap_alloc_new w _
  have hB : w2.heap[w.heap.size + 1]? = some (.cells lit32 22 (0, 0)) := by
    rw [hw2, show w.heap.size + 1 = (w.alloc zarr).heap.size by simp]; exact heap_alloc_new _ _
  have hb2 : Below w.heap.size w w2 := by rw [hw2]; exact ((Below.refl _ w).alloc (Nat.le_refl _) _).alloc (by simp) _
  have HA := Lib.hid hA
  have HB := Lib.hid hB
  have HBE := Lib.hid hb2
  have hne : ¬ ((s.size : Int) = 64) := by omega
  obtain ⟨w3, hw3⟩ : ∃ w3, w3 = w2.setRow (w.heap.size + 1) lit32 := ⟨_, rfl⟩
  have hA3 : w3.heap[w.heap.size]? = some (.cells lit32 22 (0, 0)) := by rw [hw3, setRow_other _ _ _ _ (by omega)]; exact HA.out
  have hB3 : w3.heap[w.heap.size + 1]? = some (.cells lit32 22 (0, 0)) := by rw [hw3]; exact setRow_heap w2 (w.heap.size + 1) _ lit32 _ _ HB.out
  have hb3 : Below w.heap.size w w3 := by rw [hw3]; exact below_grownBy (Nat.le_refl _) HBE.out ⟨rfl, rfl, rfl, by simp, fun k _ hk => setRow_other _ (w.heap.size + 1) k _ (fun e => hk (by rw [e]))⟩ (by omega)
  have HA3 := Lib.hid hA3
  have HB3 := Lib.hid hB3
  have HBE3 := Lib.hid hb3
  rw [hw2] at hw3 hB
  have HB0 := Lib.hid hB
  clear hA hB hb2 hA3 hB3 hb3 hw2
  go_enter Try.func10, Try.ntmps10
  go_wp2_with (refine wpList_store_row_then rfl 22 (.tmp 4) (.tmp 8) rfl (w.heap.size + 1) lit32 rfl rfl 22 lit32 HB0.out sizeLitA rfl lit32_all ?_)
  refine Lib.hid ?_
  change wpList _ _ _ _ _ (((w.alloc zarr).alloc zarr).setRow (w.heap.size + 1) lit32)
  rw [← hw3]
  clear hw3
  go_wp2_with (first | (refine wpList_load_row rfl 22 (.tmp 4) rfl (w.heap.size + 1) rfl 22 lit32 (0, 0) _ HB3.out Try.underlying22 rfl sizeLitA ?_) | (refine wpList_store_row rfl 22 (.tmp 2) (.tmp 12) rfl w.heap.size lit32 rfl rfl 22 lit32 HA3.out sizeLitA rfl lit32_all ?_))
  refine bodyPost_ret (v := .tuple #[.agg lit32, .bool false]) (results_row_tmp rfl _ _ w.heap.size 22 lit32 (0, 0) _ _ rfl (setRow_heap w3 w.heap.size _ lit32 _ _ HA3.out) Try.underlying22 rfl sizeLitA rfl) rfl ?_
  exact ⟨rfl, below_grownBy (Nat.le_refl _) HBE3.out ⟨rfl, rfl, rfl, by simp, fun k _ hk => setRow_other _ w.heap.size k _ (fun e => hk (by rw [e]))⟩ (Nat.le_refl _)⟩

theorem parsed_two (l : List UInt8) (k : Nat) : (parsed l (2 * k)).set k (UInt8.ofNat (16 * nibV l (2 * k) + nibV l (2 * k + 1))) = parsed l (2 * (k + 1)) := by
  have h1 := parsed_step l (2 * k)
  have h2 := parsed_step l (2 * k + 1)
  have e1 : 2 * k / 2 = k := by omega
  have e2 : (2 * k + 1) / 2 = k := by omega
  have e3 : cellN l (2 * k) k = 0 := by unfold cellN; rw [if_neg (by omega), if_neg (by omega)]
  have e4 : cellN l (2 * k + 1) k = nibV l (2 * k) := by unfold cellN; rw [if_neg (by omega), if_pos (by omega)]
  rw [e1, e3] at h1
  rw [e2, e4, ← h1, List.set_set] at h2
  exact h2

set_option maxRecDepth 100000 in
set_option maxHeartbeats 1000000 in
theorem refparse_long (s : ByteArray) (w : World) (h : s.size = 64) : Calls Try.prog 10 #[.string s] w (Parsed s.data.toList w) := by
  obtain ⟨l, hl⟩ : ∃ l, l = s.data.toList := ⟨_, rfl⟩
  have hll : l.length = 64 := by rw [hl, Array.length_toList]; exact h
  have hget : ∀ i (hi : i < s.size), s[i] = l.getD i 0 := by
    intro i hi
    have hi' : i < l.length := by omega
    rw [List.getD_eq_getElem?_getD, List.getElem?_eq_getElem hi', Option.getD_some]
    subst hl
    simp [ByteArray.getElem_eq_getElem_data]
  rw [← hl]
  have hz32 : lit32 = (bvs (parsed l 0)).toArray := by rw [parsed_zero, ← zeros_bvs]; exact lit32_eq
  obtain ⟨w2, hw2⟩ : ∃ w2, w2 = (w.alloc zarr).alloc zarr := ⟨_, rfl⟩
  have hA : w2.heap[w.heap.size]? = some (.cells lit32 22 (0, 0)) := by
    rw [hw2, heap_alloc_old _ _ (by simp)]; exact heap_alloc_new w _
  have hB : w2.heap[w.heap.size + 1]? = some (.cells lit32 22 (0, 0)) := by
    rw [hw2, show w.heap.size + 1 = (w.alloc zarr).heap.size by simp]; exact heap_alloc_new _ _
  have hb2 : Below w.heap.size w w2 := by rw [hw2]; exact ((Below.refl _ w).alloc (Nat.le_refl _) _).alloc (by simp) _
  have HA := Lib.hid hA
  have HB := Lib.hid hB
  have HBE := Lib.hid hb2
  obtain ⟨w3, hw3⟩ : ∃ w3, w3 = w2.setRow (w.heap.size + 1) lit32 := ⟨_, rfl⟩
  have hA3 : w3.heap[w.heap.size]? = some (.cells lit32 22 (0, 0)) := by rw [hw3, setRow_other _ _ _ _ (by omega)]; exact HA.out
  have hB3 : w3.heap[w.heap.size + 1]? = some (.cells (bvs (parsed l 0)).toArray 22 (0, 0)) := by rw [hw3, ← hz32]; exact setRow_heap w2 (w.heap.size + 1) _ lit32 _ _ HB.out
  have hb3 : Below w.heap.size w w3 := by rw [hw3]; exact below_grownBy (Nat.le_refl _) HBE.out ⟨rfl, rfl, rfl, by simp, fun k _ hk => setRow_other _ (w.heap.size + 1) k _ (fun e => hk (by rw [e]))⟩ (by omega)
  have HA3 := Lib.hid hA3
  have HB3 := Lib.hid hB3
  rw [hw2] at hw3 hB
  have HB0 := Lib.hid hB
  have HLL := Lib.hid hll
  have HG := Lib.hid hget
  have h64 : (s.size : Int) = 64 := by omega
  clear hA hB hb2 hA3 hB3 hw2 hz32 hget hll hl
  unfold Parsed
  go_enter Try.func10, Try.ntmps10
  go_wp2_with (refine wpList_store_row_then rfl 22 (.tmp 4) (.tmp 8) rfl (w.heap.size + 1) lit32 rfl rfl 22 lit32 HB0.out sizeLitA rfl lit32_all ?_)
  refine Lib.hid ?_
  change wpList _ _ _ _ _ (((w.alloc zarr).alloc zarr).setRow (w.heap.size + 1) lit32)
  rw [← hw3]
  clear hw3
  go_wp2_with fail
  go_loopw [5] (fun s5 wr => ∃ k : Nat, k ≤ 32 ∧ s5 = .int .i64 (k : Int) ∧ Hid (wr.heap[w.heap.size + 1]? = some (.cells (bvs (parsed l (2 * k))).toArray 22 (0, 0))) ∧ Hid (wr.heap[w.heap.size]? = some (.cells lit32 22 (0, 0))) ∧ Below w.heap.size w wr ∧ Hid (∀ i, i < 2 * k → (unh (l.getD i 0).toNat).isSome = true)) (fun s5 _ => 32 - (intOf s5).toNat)
  case atStart => exact ⟨0, by omega, rfl, HB3, HA3, hb3, fun i hi => absurd hi (by omega)⟩
  case round =>
    obtain ⟨k, hk, rfl, HBk, HA, hbr, HOK⟩ := hrel
    by_cases hlt : k < 32
    · have e0 : s[2 * k]'(by omega) = l.getD (2 * k) 0 := HG.out (2 * k) (by omega)
      have e1 : s[2 * k + 1]'(by omega) = l.getD (2 * k + 1) 0 := HG.out (2 * k + 1) (by omega)
      have E0 := Lib.hid e0
      have E1 := Lib.hid e1
      have b0 : 2 * (k : Int) < 64 := by omega
      have b1 : 0 ≤ 2 * (k : Int) := by omega
      have b2 : 2 * (k : Int) + 1 < 64 := by omega
      have b3 : 0 ≤ 2 * (k : Int) + 1 := by omega
      clear e0 e1
      go_wp2_with fail
      go_quiet (first | (go_at_call 14; refine Calls.quiet_of_same ((unhex_any _ (UInt8.toNat_lt _) _).mono fun _ _ h => ⟨h.1, h.2.symm⟩)))
      generalize hw4 : wr.drewN _ = w4
      have hA4 : w4.heap[w.heap.size]? = some (.cells lit32 22 (0, 0)) := by rw [← hw4]; exact HA.out
      have hB4 : w4.heap[w.heap.size + 1]? = some (.cells (bvs (parsed l (2 * k))).toArray 22 (0, 0)) := by rw [← hw4]; exact HBk.out
      have hb4 : Below w.heap.size w w4 := by rw [← hw4]; exact below_drewN hbr _
      have HA4 := Lib.hid hA4
      have HB4 := Lib.hid hB4
      rw [E0.out, E1.out]
      clear hw4 hA4 hbr
      cases h0 : unh (l.getD (2 * k) 0).toNat with
      | none =>
          rw [unhI_none h0]
          clear hB4
          have hno : allHex l = false := by
            unfold allHex
            rw [List.all_eq_false]
            refine ⟨l.getD (2 * k) 0, ?_, by rw [h0]; simp⟩
            have hk' : 2 * k < l.length := by rw [HLL.out]; omega
            rw [List.getD_eq_getElem?_getD, List.getElem?_eq_getElem hk', Option.getD_some]
            exact List.getElem_mem _
          have e1 : parseL l = List.replicate 32 0 := by unfold parseL; rw [if_neg (by rw [hno]; simp)]
          have e2 : parseB l = false := by unfold parseB; rw [hno]; simp
          have hE : Value.tuple #[.agg (bvs (parseL l)).toArray, .bool (parseB l)] = .tuple #[.agg lit32, .bool false] := by rw [e1, e2, ← zeros_bvs, ← lit32_eq]
          have HE := Lib.hid hE
          clear hno e1 e2 hE h0
          go_wp2_with (refine wpList_store_row rfl 22 (.tmp 2) (.tmp 34) rfl w.heap.size lit32 rfl rfl 22 lit32 HA4.out sizeLitA rfl lit32_all ?_)
          refine bodyPost_ret (v := .tuple #[.agg lit32, .bool false]) (results_row_tmp rfl _ _ w.heap.size 22 lit32 (0, 0) _ _ rfl (setRow_heap w4 w.heap.size _ lit32 _ _ HA4.out) Try.underlying22 rfl sizeLitA rfl) rfl ?_
          exact ⟨by rw [HE.out], below_grownBy (Nat.le_refl _) hb4 ⟨rfl, rfl, rfl, by simp, fun k _ hk => setRow_other _ w.heap.size k _ (fun e => hk (by rw [e]))⟩ (Nat.le_refl _)⟩
      | some v0 =>
        rw [unhI_some h0]
        have hv0 := unh_lt h0
        have H0 := Lib.hid h0
        clear h0
        cases h1 : unh (l.getD (2 * k + 1) 0).toNat with
        | none =>
            rw [unhI_none h1]
            clear hB4
            have hno : allHex l = false := by
              unfold allHex
              rw [List.all_eq_false]
              refine ⟨l.getD (2 * k + 1) 0, ?_, by rw [h1]; simp⟩
              have hk' : 2 * k + 1 < l.length := by rw [HLL.out]; omega
              rw [List.getD_eq_getElem?_getD, List.getElem?_eq_getElem hk', Option.getD_some]
              exact List.getElem_mem _
            have e1 : parseL l = List.replicate 32 0 := by unfold parseL; rw [if_neg (by rw [hno]; simp)]
            have e2 : parseB l = false := by unfold parseB; rw [hno]; simp
            have hE : Value.tuple #[.agg (bvs (parseL l)).toArray, .bool (parseB l)] = .tuple #[.agg lit32, .bool false] := by rw [e1, e2, ← zeros_bvs, ← lit32_eq]
            have HE := Lib.hid hE
            clear hno e1 e2 hE h1
            go_wp2_with (refine wpList_store_row rfl 22 (.tmp 2) (.tmp 34) rfl w.heap.size lit32 rfl rfl 22 lit32 HA4.out sizeLitA rfl lit32_all ?_)
            refine bodyPost_ret (v := .tuple #[.agg lit32, .bool false]) (results_row_tmp rfl _ _ w.heap.size 22 lit32 (0, 0) _ _ rfl (setRow_heap w4 w.heap.size _ lit32 _ _ HA4.out) Try.underlying22 rfl sizeLitA rfl) rfl ?_
            exact ⟨by rw [HE.out], below_grownBy (Nat.le_refl _) hb4 ⟨rfl, rfl, rfl, by simp, fun k _ hk => setRow_other _ w.heap.size k _ (fun e => hk (by rw [e]))⟩ (Nat.le_refl _)⟩
        | some v1 =>
          rw [unhI_some h1]
          have hv1 := unh_lt h1
          have hn0 : nibV l (2 * k) = v0 := by unfold nibV; rw [H0.out]; rfl
          have hn1 : nibV l (2 * k + 1) = v1 := by unfold nibV; rw [h1]; rfl
          have hst := parsed_two l k
          rw [hn0, hn1] at hst
          obtain ⟨z, hz⟩ : ∃ z : UInt8, z = (parsed l (2 * k))[k]'(by rw [parsed_length]; exact hlt) := ⟨_, rfl⟩
          have hcell : w4.cell? ⟨w.heap.size + 1, k, none⟩ = some (.int .u8 (z.toNat : Int)) := by
            rw [cell_of_block hB4, hz]
            simpa using bvs_get (parsed l (2 * k)) k (by rw [parsed_length]; exact hlt)
          have hfr : ∀ j, w4.frozen? ⟨w.heap.size + 1, j, none⟩ = false := fun j => free_of_block hB4
          have HST := Lib.hid hst
          have H1 := Lib.hid h1
          have hwrap : IntKind.u8.wrap (16 * (v0 : Int) + (v1 : Int)) = 16 * (v0 : Int) + (v1 : Int) := by rw [IntKind.wrap_u8]; omega
          clear hB4 hn0 hn1 hst hz h1
          go_wp2_with fail
          go_roundw
          case rel =>
            refine ⟨k + 1, by omega, by go_num, ?_, ?_, hb4.setCell (by show w.heap.size ≤ w.heap.size + 1; omega) _, ?_⟩
            · have h2 := heap_setCell_same w4 (w.heap.size + 1) k _ _ (.int .u8 (16 * (v0 : Int) + (v1 : Int))) HB4.out
              refine h2.trans ?_
              rw [← HST.out]
              have h4 : (16 * (v0 : Int) + (v1 : Int)) % 256 = 16 * (v0 : Int) + (v1 : Int) := by omega
              simp [bvs, bv, List.map_set, h4]
            · have h2 := Below.heap_setCell w4 ⟨w.heap.size + 1, k, none⟩ (.int .u8 (16 * (v0 : Int) + (v1 : Int))) w.heap.size (by show _ ≠ w.heap.size + 1; omega)
              exact h2.trans HA4.out
            · intro i hi
              rcases (show i < 2 * k ∨ i = 2 * k ∨ i = 2 * k + 1 by omega) with hik | hik | hik
              · exact HOK.out i hik
              · rw [hik, H0.out]; rfl
              · rw [hik, H1.out]; rfl
          case measure => simp [intOf]; omega
    · have hall : allHex l = true := by
        unfold allHex
        rw [List.all_eq_true]
        intro c hc
        obtain ⟨i, hi, rfl⟩ := List.mem_iff_getElem.1 hc
        have := HOK.out i (by rw [HLL.out] at hi; omega)
        rwa [List.getD_eq_getElem?_getD, List.getElem?_eq_getElem hi, Option.getD_some] at this
      have hk64 : 2 * k = 64 := by omega
      have e1 : parseL l = parsed l (2 * k) := by unfold parseL; rw [if_pos ⟨HLL.out, hall⟩, hk64]
      have e2 : parseB l = true := by unfold parseB; rw [hall, HLL.out]; rfl
      obtain ⟨X, hX⟩ : ∃ X, X = (bvs (parsed l (2 * k))).toArray := ⟨_, rfl⟩
      have hXz : X.size = 32 := by rw [hX, List.size_toArray, bvs_length, parsed_length]
      have hXs : (Try.prog.info? 22).map (·.size) = some X.size := by rw [hXz]; exact sizeArr
      have hX1 : X.all (·.oneCell') = true := by rw [hX]; simpa using bvs_oneCell (parsed l (2 * k))
      have hXl : lit32.size = X.size := by rw [hXz, lit32_size]
      have hBk := HBk.out
      have hE : Value.tuple #[.agg (bvs (parseL l)).toArray, .bool (parseB l)] = .tuple #[.agg X, .bool true] := by rw [e1, e2, hX]
      have HE := Lib.hid hE
      rw [← hX] at hBk
      have HXS := Lib.hid hXs
      have HX1 := Lib.hid hX1
      have HXL := Lib.hid hXl
      have HBK := Lib.hid hBk
      clear hX hXs hX1 hXl hBk e1 e2 hE hall hk64 hXz
      go_wp2_with (first | (refine wpList_load_row rfl 22 (.tmp 4) rfl (w.heap.size + 1) rfl 22 X (0, 0) _ HBK.out Try.underlying22 rfl HXS.out ?_) | (refine wpList_store_row rfl 22 (.tmp 2) (.tmp 42) rfl w.heap.size X rfl rfl 22 lit32 HA.out HXS.out HXL.out HX1.out ?_))
      refine bodyPost_ret (v := .tuple #[.agg X, .bool true]) (results_row_tmp rfl _ _ w.heap.size 22 X (0, 0) _ _ rfl (setRow_heap wr w.heap.size _ X _ _ HA.out) Try.underlying22 rfl HXS.out rfl) rfl ?_
      exact ⟨by rw [HE.out], below_grownBy (Nat.le_refl _) hbr ⟨rfl, rfl, rfl, by simp, fun k _ hk => setRow_other _ w.heap.size k _ (fun e => hk (by rw [e]))⟩ (Nat.le_refl _)⟩

theorem refparse_any (s : ByteArray) (w : World) : Calls Try.prog 10 #[.string s] w (Parsed s.data.toList w) := by
  by_cases h : s.size = 64
  · exact refparse_long s w h
  · exact refparse_short s w h
end Go.Proofs.Ytcgfkgkajifpbaa
