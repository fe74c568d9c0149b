/-
  The walk of ShaBack.
-/
import Derived.Test.YtcgfkgkajifpbaaDrawn
import Derived.Test.YtcgfkgkajifpbaaBackMath
namespace Go.Proofs.Ytcgfkgkajifpbaa
open Go.RowKit

set_option maxRecDepth 100000 in
set_option maxHeartbeats 2000000 in
theorem shaBack_any (idl : List UInt8) (at' : Int) (c : UInt8) (w : World) (hid : idl.length = 32) :
    Calls Try.prog 4 #[.agg (bvs idl).toArray, .int .i64 at', .int .u8 (c.toNat : Int)] w fun e w' => e = .returned (.bool true) ∧ Below w.heap.size w w' := by
  have hh1 := fun w => hex_any idl w hid
  obtain ⟨S, hS⟩ : ∃ S : ByteArray, S = ⟨(hexL idl).toArray⟩ := ⟨_, rfl⟩
  have hSl : S.data.toList = hexL idl := by rw [hS]
  have hSz : S.size = 64 := by
    have h2 : S.data.toList.length = 64 := by rw [hSl, hexL_length, hid]
    rwa [Array.length_toList] at h2
  have hp1 := fun w => parse_any S w
  unfold Parsed at hp1
  rw [hSl, parseL_hexL idl hid, parseB_hexL idl hid] at hp1
  obtain ⟨X, hX⟩ : ∃ X, X = (bvs idl).toArray := ⟨_, rfl⟩
  have hXz : X.size = 32 := by rw [hX, List.size_toArray, bvs_length, hid]
  have hXs : (Try.prog.info? 23).map (·.size) = some X.size := by rw [hXz]; exact sizeID
  have hX1 : X.all (·.oneCell') = true := by rw [hX]; simpa using bvs_oneCell idl
  have hXl : lit32.size = X.size := by rw [hXz, lit32_size]
  have heq : ∀ w', (Op.equalIn 10000 23 (.agg X) (.agg X)).run Try.prog w' = .ok true w' := by
    intro w'
    rw [hX, eq_ids w' _ _ hid hid, decide_eq_true rfl]
  rw [← hS, ← hX] at hh1
  rw [← hX] at hp1
  rw [← hX]
  obtain ⟨w0, hw0⟩ : ∃ w0, w0 = w.alloc (.cells X 23) := ⟨_, rfl⟩
  have hx0 : w0.heap[w.heap.size]? = some (.cells X 23 (0, 0)) := by rw [hw0]; exact heap_alloc_new w _
  have hb0 : Below w.heap.size w w0 := by rw [hw0]; exact (Below.refl _ w).alloc (Nat.le_refl _) _
  have hlt0 := lt_of_block hx0
  have hxl : ∀ w', Below w0.heap.size w0 w' → w'.heap[w.heap.size]? = some (.cells X 23 (0, 0)) := fun w' h => by rw [h.block _ hlt0]; exact hx0
  have b1 : 0 ≤ bits .and .i64 at' 63 ∧ bits .and .i64 at' 63 ≤ 63 := and_i64_bounds at' 63 (by omega)
  obtain ⟨i, hand⟩ : ∃ i : Nat, bits .and .i64 at' 63 = (i : Int) := ⟨(bits .and .i64 at' 63).toNat, by omega⟩
  have hi : i < 64 := by omega
  have h64 : (S.size : Int) = 64 := by omega
  have HH1 := Lib.hid hh1
  have HP1 := Lib.hid hp1
  have HXL := Lib.hid hxl
  have HXS := Lib.hid hXs
  have HX := Lib.hid hX
  have HX1 := Lib.hid hX1
  have HXl := Lib.hid hXl
  have HSL := Lib.hid hSl
  have HS := Lib.hid hS
  clear hh1 hp1 hxl hXs hX hX1 hXl hSl hS hXz hSz hx0 b1
  go_enter Try.func4, Try.ntmps4
  go_upto_region 1 with (fail)
  rw [← hw0]
  clear hw0
  go_wp2_with fail
  refine (hexing_any w0).mono ?_
  rintro e w1 ⟨rfl, hb1⟩
  have hx1 := HXL.out w1 hb1
  have HX1' := Lib.hid hx1
  clear hx1
  go_wp2_with (refine wpList_load_row rfl 23 (.tmp 3) rfl w.heap.size rfl 23 X (0, 0) _ HX1'.out Try.underlying23 rfl HXS.out ?_)
  refine (HH1.out w1).mono ?_
  rintro e w2 ⟨rfl, hb2⟩
  have hb2' := hb1.trans (hb2.mono hb1.size)
  clear hb1 hb2
  go_wp2_with fail
  refine (HP1.out w2).mono ?_
  rintro e w3 ⟨rfl, hb3⟩
  have hb3' := hb2'.trans (hb3.mono hb2'.size)
  have hh3 : (w3.alloc zid).heap[w3.heap.size]? = some (.cells lit32 23 (0, 0)) := heap_alloc_new w3 _
  have HH3 := Lib.hid hh3
  clear hh3 hb3 hb2' HX1'
  go_wp2_with (refine wpList_store_row_then rfl 23 (.tmp 8) (.tmp 23) rfl w3.heap.size X rfl rfl 23 lit32 HH3.out HXS.out HXl.out HX1.out ?_)
  refine Lib.hid ?_
  change wpList _ _ _ _ _ ((w3.alloc (.cells lit32 23)).setRow w3.heap.size X)
  obtain ⟨hn1, hn2⟩ := new_id w3 23 X
  obtain ⟨w4, hw4⟩ : ∃ w4, w4 = (w3.alloc (.cells lit32 23)).setRow w3.heap.size X := ⟨_, rfl⟩
  rw [← hw4] at hn1 hn2 ⊢
  have hb4' := hb3'.trans (hn2.mono hb3'.size)
  have hx4 := HXL.out w4 hb4'
  have HX4 := Lib.hid hx4
  have HN1 := Lib.hid hn1
  clear hw4 hn2 hn1 HH3 hb3' hx4
  go_wp2_with (first | (refine wpList_load_row_g (by first | rfl | simp [Region.wanted, yielded]) 23 (.tmp 8) rfl w3.heap.size rfl 23 X (0, 0) _ HN1.out Try.underlying23 rfl HXS.out ?_) | (refine wpList_load_row_g (by first | rfl | simp [Region.wanted, yielded]) 23 (.tmp 3) rfl w.heap.size rfl 23 X (0, 0) _ HX4.out Try.underlying23 rfl HXS.out ?_))
  have hcv : (convert 32 9 (.slice (some ⟨w4.heap.size, 0, none⟩) 1 1)).run Try.prog ((w4.alloc (.cells #[.int .u8 (c.toNat : Int)] 5)).drew) = .ok (.string ⟨#[c]⟩) ((w4.alloc (.cells #[.int .u8 (c.toNat : Int)] 5)).drew) := by
    have h2 : BytesAt ((w4.alloc (.cells #[.int .u8 (c.toNat : Int)] 5)).drew) (some ⟨w4.heap.size, 0, none⟩) [c] := BytesAt.alloc_new w4 [c] _ _ rfl
    exact conv_bytes h2 1
  go_region
  obtain ⟨w5, hw5⟩ : ∃ w5, w5 = (w4.alloc (.cells #[Value.int .u8 (c.toNat : Int)] 5)).drew := ⟨_, rfl⟩
  rw [← hw5]
  have hb45 : Below w4.heap.size w4 w5 := by rw [hw5]; exact ((Below.refl _ _).alloc (Nat.le_refl _) _).drew
  have hb5' := hb4'.trans (hb45.mono hb4'.size)
  clear hw5 hb45 hcv hb4' HX4 HN1
  have hTl := turned_bytes S (hexL idl) HSL.out i (by rw [hexL_length, hid]; omega) c
  have hUl := cut_bytesS S (hexL idl) HSL.out i
  obtain ⟨T, hT⟩ : ∃ T, T = S.extract 0 i ++ (⟨#[c]⟩ : ByteArray) ++ S.extract (i + 1) S.size := ⟨_, rfl⟩
  obtain ⟨U, hU⟩ : ∃ U, U = S.extract 0 i := ⟨_, rfl⟩
  rw [← hT] at hTl ⊢
  rw [← hU] at hUl
  obtain ⟨hYes, hNo⟩ := turned_parse idl hid i hi c
  have hcut := parseB_take idl i hi
  have hpT := fun w => parse_any T w
  have hpU := fun w => parse_any U w
  unfold Parsed at hpT hpU
  have hTe : (⟨T.data⟩ : ByteArray) = T := rfl
  rw [hTl] at hpT
  rw [hUl, hcut] at hpU
  obtain ⟨tl, htl⟩ : ∃ tl, tl = (hexL idl).set i c := ⟨_, rfl⟩
  have hTT : (⟨tl.toArray⟩ : ByteArray) = T := by rw [htl, ← hTl]
  rw [← htl] at hpT hYes hNo
  have hpl : ∀ l, (parseL l).length = 32 := by
    intro l
    unfold parseL
    split
    · exact parsed_length _ _
    · simp
  obtain ⟨pl, hplE⟩ : ∃ pl, pl = parseL tl := ⟨_, rfl⟩
  have hpl32 : pl.length = 32 := by rw [hplE]; exact hpl _
  rw [← hplE] at hpT hYes hNo
  obtain ⟨Y, hY⟩ : ∃ Y, Y = (bvs pl).toArray := ⟨_, rfl⟩
  obtain ⟨Z, hZ⟩ : ∃ Z, Z = (bvs (parseL ((hexL idl).take i))).toArray := ⟨_, rfl⟩
  have hYz : Y.size = 32 := by rw [hY, List.size_toArray, bvs_length, hpl32]
  have hYs : (Try.prog.info? 23).map (·.size) = some Y.size := by rw [hYz]; exact sizeID
  have hY1 : Y.all (·.oneCell') = true := by rw [hY]; simpa using bvs_oneCell pl
  have hYl : lit32.size = Y.size := by rw [hYz, lit32_size]
  have hZz : Z.size = 32 := by rw [hZ, List.size_toArray, bvs_length, hpl]
  have hZs : (Try.prog.info? 23).map (·.size) = some Z.size := by rw [hZz]; exact sizeID
  have hZ1 : Z.all (·.oneCell') = true := by rw [hZ]; simpa using bvs_oneCell (parseL ((hexL idl).take i))
  have hZl : lit32.size = Z.size := by rw [hZz, lit32_size]
  have hyx : ∀ w', (Op.equalIn 10000 23 (.agg Y) (.agg X)).run Try.prog w' = .ok (decide (pl = idl)) w' := by
    intro w'
    rw [hY, HX.out]
    exact eq_ids w' _ _ hpl32 hid
  have hhY := fun w => hex_any pl w hpl32
  rw [← hY] at hpT hhY
  rw [← hZ] at hpU
  obtain ⟨b, hb⟩ : ∃ b, b = parseB tl := ⟨_, rfl⟩
  rw [← hb] at hpT hYes hNo
  have HPT := Lib.hid hpT
  have HPU := Lib.hid hpU
  have HYES := Lib.hid hYes
  have HNO := Lib.hid hNo
  have HYX := Lib.hid hyx
  have HHY := Lib.hid hhY
  have HY := Lib.hid hY
  have HYS := Lib.hid hYs
  have HY1 := Lib.hid hY1
  have HYL := Lib.hid hYl
  have HZS := Lib.hid hZs
  have HZ1 := Lib.hid hZ1
  have HZL := Lib.hid hZl
  have HTT := Lib.hid hTT
  have HU := Lib.hid hU
  clear hpT hpU hYes hNo hyx hhY hY hYs hY1 hYl hZs hZ1 hZl hZz hYz hb hplE htl hTT hTl hUl hT hcut hZ hpl hTe hU
  go_wp2_with fail
  refine (HPT.out w5).mono ?_
  rintro e w6 ⟨rfl, hb6⟩
  have hb6' := hb5'.trans (hb6.mono hb5'.size)
  have hh6 : (w6.alloc zid).heap[w6.heap.size]? = some (.cells lit32 23 (0, 0)) := heap_alloc_new w6 _
  have HH6 := Lib.hid hh6
  clear hh6 hb6 hb5'
  go_wp2_with (refine wpList_store_row_then rfl 23 (.tmp 12) (.tmp 54) rfl w6.heap.size Y rfl rfl 23 lit32 HH6.out HYS.out HYL.out HY1.out ?_)
  refine Lib.hid ?_
  change wpList _ _ _ _ _ ((w6.alloc (.cells lit32 23)).setRow w6.heap.size Y)
  obtain ⟨hn1, hn2⟩ := new_id w6 23 Y
  obtain ⟨w7, hw7⟩ : ∃ w7, w7 = (w6.alloc (.cells lit32 23)).setRow w6.heap.size Y := ⟨_, rfl⟩
  rw [← hw7] at hn1 hn2 ⊢
  have hb7' := hb6'.trans (hn2.mono hb6'.size)
  have HN7 := Lib.hid hn1
  clear hw7 hn2 hn1 HH6 hb6'
  go_wp2_with fail
  rw [← HU.out]
  refine (HPU.out w7).mono ?_
  rintro e w8 ⟨rfl, hb8⟩
  have hb8' := hb7'.trans (hb8.mono hb7'.size)
  have hn8 : w8.heap[w6.heap.size]? = some (.cells Y 23 (0, 0)) := by rw [hb8.block _ (lt_of_block HN7.out)]; exact HN7.out
  have hh8 : (w8.alloc zid).heap[w8.heap.size]? = some (.cells lit32 23 (0, 0)) := heap_alloc_new w8 _
  have HH8 := Lib.hid hh8
  clear hh8 hb8 hb7'
  go_wp2_with (refine wpList_store_row_then rfl 23 (.tmp 14) (.tmp 61) rfl w8.heap.size Z rfl rfl 23 lit32 HH8.out HZS.out HZL.out HZ1.out ?_)
  refine Lib.hid ?_
  change wpList _ _ _ _ _ ((w8.alloc (.cells lit32 23)).setRow w8.heap.size Z)
  obtain ⟨hm1, hm2⟩ := new_id w8 23 Z
  obtain ⟨w9, hw9⟩ : ∃ w9, w9 = (w8.alloc (.cells lit32 23)).setRow w8.heap.size Z := ⟨_, rfl⟩
  rw [← hw9] at hm1 hm2 ⊢
  have hb9' := hb8'.trans (hm2.mono hb8'.size)
  have hn9 : w9.heap[w6.heap.size]? = some (.cells Y 23 (0, 0)) := by rw [hm2.block _ (lt_of_block hn8)]; exact hn8
  have hx9 := HXL.out w9 hb9'
  have hly : ∀ w', Below w9.heap.size w9 w' → w'.heap[w6.heap.size]? = some (.cells Y 23 (0, 0)) := fun w' h => by rw [h.block _ (lt_of_block hn9)]; exact hn9
  have hlx : ∀ w', Below w9.heap.size w9 w' → w'.heap[w.heap.size]? = some (.cells X 23 (0, 0)) := fun w' h => by rw [h.block _ (lt_of_block hx9)]; exact hx9
  have HLY := Lib.hid hly
  have HLX := Lib.hid hlx
  clear hw9 hm1 hm2 hn8 hn9 hx9 HH8 hb8' hly hlx
  cases b with
  | false =>
    have hz : ∀ w', (Op.equalIn 10000 23 (.agg Y) (.agg lit32)).run Try.prog w' = .ok true w' := by
      intro w'
      rw [HY.out, HNO.out rfl, lit32_eq, zeros_bvs]
      rw [eq_ids w' _ _ (by simp) (by simp), decide_eq_true rfl]
    unfold lit32 at hz
    go_wp2_with fail
    refine wp_region_below (w0 := w9) (B := w9.heap.size) (by kernel_rfl) (by kernel_rfl) (Below.refl _ w9) ?_
    repeat (first
      | go_big_quiet_skip
      | (go_big_quiet_want
         first
           | (refine quiet_load_row 23 (.tmp 12) rfl w6.heap.size rfl 23 Y (0, 0) _ HLY.out Try.underlying23 rfl HYS.out ?_
              simp only [Act.put, List.setIfInBounds_toArray, List.set_cons_zero, List.set_cons_succ]
              go_big_quiet_on)
           | (refine quiet_load_row 23 (.tmp 3) rfl w.heap.size rfl 23 X (0, 0) _ HLX.out Try.underlying23 rfl HXS.out ?_
              simp only [Act.put, List.setIfInBounds_toArray, List.set_cons_zero, List.set_cons_succ]
              go_big_quiet_on)
           | (go_big_quiet_op
              refine ⟨_, fun _ _ => rfl, ?_⟩
              go_big_quiet_on)
           | (go_big_quiet_op
              go_big_quiet_on)))
    refine wpQuiet_nil ?_
    intro w10 hb10
    go_wp2_with fail
    go_ret
    exact ⟨rfl, hb0.trans ((hb9'.trans (hb10.mono hb9'.size)).mono (by omega))⟩
  | true =>
    obtain ⟨hy1, hy2⟩ := HYES.out rfl
    have hc7 := fun w => calls_from (Nat.le_refl _) (w0 := w9) HHY.out w
    rw [hy1, HTT.out] at hc7
    have HC7 := Lib.hid hc7
    have hyx := HYX.out
    have hi1 : (i : Int) < 64 := by omega
    have hi2 : 0 ≤ (i : Int) := by omega
    have hSi : S[i]'(by omega) = (hexL idl)[i]'(by rw [hexL_length, hid]; exact hi) := by
      simp only [ByteArray.getElem_eq_getElem_data, ← HSL.out, Array.getElem_toList]
    have HSI := Lib.hid hSi
    have HY2 := Lib.hid hy2
    clear hc7 hy1 hy2 hSi
    go_wp2_with fail
    refine wp_region_below (w0 := w9) (B := w9.heap.size) (by kernel_rfl) (by kernel_rfl) (Below.refl _ w9) ?_
    repeat (first
      | go_big_quiet_skip
      | (go_big_quiet_want
         first
           | (refine quiet_load_row 23 (.tmp 12) rfl w6.heap.size rfl 23 Y (0, 0) _ HLY.out Try.underlying23 rfl HYS.out ?_
              simp only [Act.put, List.setIfInBounds_toArray, List.set_cons_zero, List.set_cons_succ]
              go_big_quiet_on)
           | (refine quiet_load_row 23 (.tmp 3) rfl w.heap.size rfl 23 X (0, 0) _ HLX.out Try.underlying23 rfl HXS.out ?_
              simp only [Act.put, List.setIfInBounds_toArray, List.set_cons_zero, List.set_cons_succ]
              go_big_quiet_on)
           | (refine quiet_enter _ _ _ ?_ HC7.out ?_
              · intro w; go_simp
              simp only [Act.put, List.setIfInBounds_toArray, List.set_cons_zero, List.set_cons_succ]
              go_big_quiet_on)
           | (go_big_quiet_op
              refine ⟨_, fun _ _ => rfl, ?_⟩
              go_big_quiet_on)
           | (go_big_quiet_op
              go_big_quiet_on)))
    refine wpQuiet_nil ?_
    intro w10 hb10
    go_wp2_with fail
    go_ret
    have hfin : (decide (pl = idl) == ((c.toNat : Int) == ((S[i]'(by omega)).toNat : Int))) = true := by
      rw [HSI.out]
      by_cases he : c = (hexL idl)[i]'(by rw [hexL_length, hid]; exact hi)
      · have h1 : pl = idl := HY2.out.2 he
        have h2 : ((c.toNat : Int) == (((hexL idl)[i]'(by rw [hexL_length, hid]; exact hi)).toNat : Int)) = true := by rw [beq_iff_eq, ← he]
        rw [decide_eq_true h1, h2]
        rfl
      · have h1 : ¬ pl = idl := fun h => he (HY2.out.1 h)
        have h2 : ((c.toNat : Int) == (((hexL idl)[i]'(by rw [hexL_length, hid]; exact hi)).toNat : Int)) = false := by
          rw [beq_eq_false_iff_ne]
          intro h
          exact he (UInt8.toNat_inj.1 (by omega))
        rw [decide_eq_false h1, h2]
        rfl
    exact ⟨congrArg (fun b => Ending.returned (Value.bool b)) hfin, hb0.trans ((hb9'.trans (hb10.mono hb9'.size)).mono (by omega))⟩

theorem shaBack_walk (w : World) (l : List UInt8) (hl : l.length = 32) (a : Int) (_ : (Lit.int .i64 a).wf = true) (c : Int) (hc : (Lit.int .u8 c).wf = true) :
    Calls Try.prog 4 #[.agg (bvs l).toArray, .int .i64 a, .int .u8 c] w fun e w' => e = .returned (.bool true) ∧ Below w.heap.size w w' := by
  have h1 : 0 ≤ c ∧ c < 256 := by
    have h2 : IntKind.u8.min ≤ c ∧ c ≤ IntKind.u8.max := by simpa [Lit.wf] using hc
    have e1 : IntKind.u8.min = 0 := by decide
    have e2 : IntKind.u8.max = 255 := by decide
    omega
  have e : c = ((UInt8.ofNat c.toNat).toNat : Int) := by rw [UInt8.toNat_ofNat', Nat.mod_eq_of_lt (by omega)]; omega
  rw [e]
  exact shaBack_any l a _ w hl
end Go.Proofs.Ytcgfkgkajifpbaa
