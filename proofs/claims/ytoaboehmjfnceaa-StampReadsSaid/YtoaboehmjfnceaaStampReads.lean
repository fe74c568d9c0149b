/-
  The walk of the law StampReads.
-/
import Derived.Test.YtoaboehmjfnceaaAlive
import Derived.Test.YtoaboehmjfnceaaRefGetOp
import Derived.Test.YtoaboehmjfnceaaRefSame
import Derived.Test.YtoaboehmjfnceaaPair
namespace Go.Proofs.Ytoaboehmjfnceaa
open Go.RowKit
set_option linter.unusedSimpArgs false
set_option linter.unusedVariables false

theorem rawOp_wf (l : List UInt8) (f : Bool) : (rawOp l f).1.d.length = 32 ∧ (rawOp l f).1.ss.length ≤ 64 := by
  unfold rawOp
  obtain ⟨⟨k, l1, f1⟩, hK⟩ : ∃ K, numT l f 2 = K := ⟨_, rfl⟩
  rw [hK]
  dsimp only
  obtain ⟨⟨⟨t, r⟩, l2, f2⟩, hA⟩ : ∃ K, stampT l1 f1 = K := ⟨_, rfl⟩
  rw [hA]
  dsimp only
  obtain ⟨⟨⟨nt, nr⟩, l3, f3⟩, hN⟩ : ∃ K, stampT l2 f2 = K := ⟨_, rfl⟩
  rw [hN]
  dsimp only
  by_cases h1 : k = 1
  · rw [if_pos h1]
    obtain ⟨⟨⟨pt, pr⟩, l4, f4⟩, hP⟩ : ∃ K, stampT l3 f3 = K := ⟨_, rfl⟩
    rw [hP]
    dsimp only
    exact ⟨rfl, by simp⟩
  · rw [if_neg h1]
    by_cases h2 : k = 2
    · rw [if_pos h2]
      have hi := idT_len l3 f3
      obtain ⟨⟨d, l4, f4⟩, hP⟩ : ∃ K, idT l3 f3 = K := ⟨_, rfl⟩
      rw [hP] at hi ⊢
      dsimp only at hi ⊢
      exact ⟨hi, listT_len l4 f4⟩
    · rw [if_neg h2]
      exact ⟨rfl, by simp⟩
theorem getOp_wf (l : List UInt8) (f : Bool) : (getOp l f).1.d.length = 32 ∧ (getOp l f).1.ss.length ≤ 64 := by
  unfold getOp
  split
  · exact rawOp_wf l f
  · exact ⟨rfl, by simp [OpV.zero]⟩

/-- The law's state, ahead of each operation. -/
structure ReadsSt (w : World) (R Q gX : Nat) (a : Option Addr) (c : Nat) (l : List UInt8) (f : Bool) (W : World) : Prop where
  below : Below w.heap.size w W
  reads : Reads W R Q l f
  inn : W.heap[gX]? = some (.cells (inCells a l.length c f) 46 (0, 0))
  bytes : InAt w a c l
  failed : f = true → l = []

set_option maxRecDepth 100000 in
set_option maxHeartbeats 4000000 in
theorem stampReads_any (a0 : Option Addr) (l0 : List UInt8) (cap0 : Nat) (w : World) (hb : InAt w a0 cap0 l0) (hl0 : l0.length ≤ 281474976710656) :
    Calls Try.prog 6 #[.slice a0 l0.length cap0] w fun e w' => e = .returned (.bool true) ∧ Below w.heap.size w w' := by
  have hrd := read_any a0 l0 cap0 w hb.1 hl0
  have HRD := Lib.hid hrd
  have HB := Lib.hid hb
  clear hrd hb
  go_enter Try.func6, Try.ntmps6
  go_wp2_with fail
  refine HRD.out.mono ?_
  rintro e w3 ⟨R, Q, rfl, hRw, hr, hb3⟩
  have HR := Lib.hid hr
  have HB3 := Lib.hid hb3
  have hRlt := hr.lt
  have hQlt := hr.2.1
  clear hr hb3 HRD
  go_wp2_with fail
  refine (alive_any _).mono ?_
  rintro e w4 ⟨rfl, hb4⟩
  obtain ⟨hn1, hn2⟩ := new_row w4 46 (inCells none 0 0 false) (inCells a0 l0.length cap0 false)
  obtain ⟨w5, hw5⟩ : ∃ w5, w5 = (w4.alloc (.cells (inCells none 0 0 false) 46)).setRow w4.heap.size (inCells a0 l0.length cap0 false) := ⟨_, rfl⟩
  rw [← hw5] at hn1 hn2
  have hnew : (w4.alloc (.cells (inCells none 0 0 false) 46)).heap[w4.heap.size]? = some (.cells (inCells none 0 0 false) 46 (0, 0)) := heap_alloc_new w4 _
  have h35 := hb4.trans (hn2.mono hb4.size)
  have hst : ReadsSt w R Q w4.heap.size a0 cap0 l0 false w5 := ⟨HB3.out.trans (h35.mono HB3.out.size), HR.out.later h35, hn1, HB.out, fun h => by cases h⟩
  obtain ⟨gX, hgX⟩ : ∃ g, g = w4.heap.size := ⟨_, rfl⟩
  have hXR : R < gX ∧ Q < gX := by have := hb4.size; omega
  have HNW := Lib.hid hnew
  have HST := Lib.hid hst
  have HW5 := Lib.hid hw5
  have HGX := Lib.hid hgX
  rw [← hgX] at HST
  clear hn1 hn2 hnew h35 hst hw5 hb4 HR HB3 HB hgX hRlt hQlt
  go_upto_region 5 with (refine wpList_store_row rfl 46 (.tmp 4) (.tmp 18) rfl w4.heap.size (inCells a0 l0.length cap0 false) rfl rfl 46 (inCells none 0 0 false) HNW.out (sizeIn _ _ _ _) rfl (oneIn _ _ _ _) ?_)
  change Code.wp _ _ _ _ ((w4.alloc (.cells (inCells none 0 0 false) 46)).setRow w4.heap.size (inCells a0 l0.length cap0 false))
  rw [← HW5.out, ← HGX.out]
  clear HNW HW5 HGX
  go_wp2_with fail
  go_loopw [5] (fun s5 wr => ∃ (i : Nat) (ax : Option Addr) (cx : Nat) (lx : List UInt8) (fx : Bool), i ≤ 50 ∧ s5 = .int .i64 (i : Int) ∧ Hid (ReadsSt w R Q gX ax cx lx fx wr)) (fun s5 _ => 50 - (intOf s5).toNat)
  case atStart => exact ⟨0, a0, cap0, l0, false, by omega, rfl, HST⟩
  case round =>
    obtain ⟨i, ax, cx, lx, fx, hi, rfl, hst⟩ := hrel
    clear HST
    by_cases hlt : i < 50
    · have hget := getop_t R Q lx fx wr hst.out.reads
      have href := fun W h0 => refget_t w ax cx lx fx W h0 hst.out.bytes hst.out.failed
      have hwf := getOp_wf lx fx
      obtain ⟨q, hq⟩ : ∃ q, q = getOp lx fx := ⟨_, rfl⟩
      rw [← hq] at hget href hwf
      obtain ⟨o, lG, fG⟩ := q
      dsimp only at hget href hwf
      have HGET := Lib.hid hget
      have HREF := Lib.hid href
      have HWF := Lib.hid hwf
      have hRr := hst.out.reads.lt
      have hQr := hst.out.reads.2.1
      clear hget href hwf hq
      go_wp2_with fail
      refine HGET.out.mono ?_
      rintro e wa ⟨a1, c1, rfl, hat1, hra, hga⟩
      obtain ⟨Y1, hY1⟩ : ∃ Y, Y = o.cells (.slice a1 o.ss.length c1) := ⟨_, rfl⟩
      rw [← hY1]
      have hYs : (Try.prog.info? 33).map (·.size) = some Y1.size := by rw [hY1]; exact sizeOp _ _ _ _ _ _ _ _ _ _ HWF.out.1
      have hYo : Y1.all (·.oneCell') = true := by rw [hY1]; exact opCells_one _ _ _ _ _ _ _ _ _ _ _ _
      have hYz : zopLit.size = Y1.size := by rw [hY1]; exact (opCells_size o.k o.t o.r o.nt o.nr o.pt o.pr o.s o.d (.slice a1 o.ss.length c1) HWF.out.1).symm
      obtain ⟨hn1, hn2⟩ := new_row wa 33 zopLit Y1
      obtain ⟨wb, hwb⟩ : ∃ wb, wb = (wa.alloc zopObj).setRow wa.heap.size Y1 := ⟨_, rfl⟩
      have hn1' : wb.heap[wa.heap.size]? = some (.cells Y1 33 (0, 0)) := by rw [hwb]; exact hn1
      have hn2' : Below wa.heap.size wa wb := by rw [hwb]; exact hn2
      have hnew : (wa.alloc zopObj).heap[wa.heap.size]? = some (.cells zopLit 33 (0, 0)) := heap_alloc_new wa zopObj
      have hstb : Below w.heap.size w wb ∧ Reads wb R Q lG fG ∧ wb.heap[gX]? = some (.cells (inCells ax lx.length cx fx) 46 (0, 0)) := by
        have h1 := below_grownBy (Nat.le_refl _) hst.out.below hga hRw
        exact ⟨h1.trans (hn2'.mono h1.size), hra.later hn2', by rw [hn2'.block _ (by have := hga.size; have := lt_of_block hst.out.inn; omega), hga.block _ (lt_of_block hst.out.inn) (by intro e; injection e with e; omega)]; exact hst.out.inn⟩
      have HNW := Lib.hid hnew
      have HYS := Lib.hid hYs
      have HYO := Lib.hid hYo
      have HYZ := Lib.hid hYz
      have HY1 := Lib.hid hY1
      have HSTB := Lib.hid hstb
      have HN1 := Lib.hid hn1'
      have HAT1 := Lib.hid (hat1.later hn2')
      have HWb := Lib.hid hwb
      have zga := hga.size
      have zXr := lt_of_block hst.out.inn
      clear hnew hYs hYo hYz hY1 hstb hn1 hn2 hn1' hn2' hat1 hra hga hwb hst HGET
      go_upto_region 9 with (refine wpList_store_row rfl 33 (.tmp 6) (.tmp 24) rfl wa.heap.size Y1 rfl rfl 33 zopLit HNW.out HYS.out HYZ.out HYO.out ?_)
      change Code.wp _ _ _ _ ((wa.alloc zopObj).setRow wa.heap.size Y1)
      rw [← HWb.out]
      go_wp2_with (refine wpList_load_row rfl 46 (.tmp 4) rfl gX rfl 46 (inCells ax lx.length cx fx) (0, 0) _ HSTB.out.2.2 Try.underlying46 rfl (sizeIn _ _ _ _) ?_)
      refine (HREF.out wb HSTB.out.1).mono ?_
      rintro e wc ⟨hbc, oa, oc, ay, cy, rfl, hat2, hin2, hf2⟩
      obtain ⟨Y2, hY2⟩ : ∃ Y, Y = o.cells (.slice oa o.ss.length oc) := ⟨_, rfl⟩
      rw [← hY2]
      have hY2s : (Try.prog.info? 33).map (·.size) = some Y2.size := by rw [hY2]; exact sizeOp _ _ _ _ _ _ _ _ _ _ HWF.out.1
      have hY2o : Y2.all (·.oneCell') = true := by rw [hY2]; exact opCells_one _ _ _ _ _ _ _ _ _ _ _ _
      have hY2z : zopLit.size = Y2.size := by rw [hY2]; exact (opCells_size o.k o.t o.r o.nt o.nr o.pt o.pr o.s o.d (.slice oa o.ss.length oc) HWF.out.1).symm
      obtain ⟨-, n1, n2, n3, n4, n5⟩ := two_new wc 33 46 zopLit (inCells none 0 0 false) Y2 (inCells ay lG.length cy fG)
      obtain ⟨wd, hwd⟩ : ∃ wd, wd = (((wc.alloc zopObj).alloc (.cells (inCells none 0 0 false) 46)).setRow wc.heap.size Y2).setRow (wc.heap.size + 1) (inCells ay lG.length cy fG) := ⟨_, rfl⟩
      have n3' : wd.heap[wc.heap.size]? = some (.cells Y2 33 (0, 0)) := by rw [hwd]; exact n3
      have n4' : wd.heap[wc.heap.size + 1]? = some (.cells (inCells ay lG.length cy fG) 46 (0, 0)) := by rw [hwd]; exact n4
      have n5' : Below wc.heap.size wc wd := by rw [hwd]; exact n5
      have hbd := hbc.trans (n5'.mono hbc.size)
      have N1 := Lib.hid (show ((wc.alloc zopObj).alloc (.cells (inCells none 0 0 false) 46)).heap[wc.heap.size]? = some (.cells zopLit 33 (0, 0)) from n1)
      have N2 := Lib.hid (show (((wc.alloc zopObj).alloc (.cells (inCells none 0 0 false) 46)).setRow wc.heap.size Y2).heap[wc.heap.size + 1]? = some (.cells (inCells none 0 0 false) 46 (0, 0)) from n2)
      have HY2S := Lib.hid hY2s
      have HY2O := Lib.hid hY2o
      have HY2Z := Lib.hid hY2z
      have HY2 := Lib.hid hY2
      have zab := lt_of_block HN1.out
      have zbc := hbc.size
      have zX := lt_of_block HSTB.out.2.2
      have NY1 := Lib.hid (show wd.heap[wa.heap.size]? = some (.cells Y1 33 (0, 0)) by rw [hbd.block _ zab]; exact HN1.out)
      have NY2 := Lib.hid n3'
      have NIn := Lib.hid n4'
      have NX := Lib.hid (show wd.heap[gX]? = some (.cells (inCells ax lx.length cx fx) 46 (0, 0)) by rw [hbd.block _ zX]; exact HSTB.out.2.2)
      have HRd := Lib.hid (HSTB.out.2.1.later hbd)
      have HBd := Lib.hid (HSTB.out.1.trans (hbd.mono HSTB.out.1.size))
      have HAT1d := Lib.hid (HAT1.out.later hbd)
      have HAT2d := Lib.hid (hat2.later n5')
      have HIN2 := Lib.hid hin2
      have HF2 := Lib.hid hf2
      have HWd := Lib.hid hwd
      clear n1 n2 n3 n4 n5 n3' n4' n5' hbd hbc hat2 hin2 hf2 hwd hY2s hY2o hY2z hY2 HSTB HN1 HAT1 HREF HNW HYZ HYO HWb
      go_upto_region 10 with (first | (refine wpList_store_row rfl 33 (.tmp 7) (.tmp 28) rfl wc.heap.size Y2 rfl rfl 33 zopLit N1.out HY2S.out HY2Z.out HY2O.out ?_) | (refine wpList_store_row rfl 46 (.tmp 8) (.tmp 29) rfl (wc.heap.size + 1) (inCells ay lG.length cy fG) rfl rfl 46 (inCells none 0 0 false) N2.out (sizeIn _ _ _ _) rfl (oneIn _ _ _ _) ?_))
      change Code.wp _ _ _ _ ((((wc.alloc zopObj).alloc (.cells (inCells none 0 0 false) 46)).setRow wc.heap.size Y2).setRow (wc.heap.size + 1) (inCells ay lG.length cy fG))
      rw [← HWd.out]
      have hgs := setRow_grown wd gX (inCells ay lG.length cy fG)
      have hX := setRow_heap wd gX _ (inCells ay lG.length cy fG) _ _ NX.out
      have hY1e : (wd.setRow gX (inCells ay lG.length cy fG)).heap[wa.heap.size]? = some (.cells Y1 33 (0, 0)) := by rw [setRow_other _ _ _ _ (by omega)]; exact NY1.out
      have hY2e : (wd.setRow gX (inCells ay lG.length cy fG)).heap[wc.heap.size]? = some (.cells Y2 33 (0, 0)) := by rw [setRow_other _ _ _ _ (by omega)]; exact NY2.out
      have hRe := HRd.out.other hgs (by omega) (by omega)
      have hwgX : w.heap.size ≤ gX := by omega
      have hBe := below_grownBy (Nat.le_refl _) HBd.out hgs hwgX
      have hnoX : ∀ x : Addr, x.block = gX → ∀ v, wd.cell? x = some (.int .i64 v) → False := fun x hx v hv => by
        obtain ⟨xb, xo, xs⟩ := x
        simp only at hx
        subst hx
        have hsp := World.cell?_spot hv
        simp only at hsp
        subst hsp
        rw [cell_of_block NX.out] at hv
        match xo, hv with
        | 0, hv => simp [inCells] at hv
        | 1, hv => simp [inCells] at hv
        | n + 2, hv => simp [inCells] at hv
      have hat1e : StampsAt (wd.setRow gX (inCells ay lG.length cy fG)) a1 o.ss := fun j hj => by
        obtain ⟨b, off, e1, h1, h2⟩ := HAT1d.out j hj
        have hne : b ≠ gX := fun e => hnoX ⟨b, off + j * 2, none⟩ e _ h1
        exact ⟨b, off, e1, hgs.cell h1 (by intro e; injection e with e; exact hne e), hgs.cell h2 (by intro e; injection e with e; exact hne e)⟩
      have hat2e : StampsAt (wd.setRow gX (inCells ay lG.length cy fG)) oa o.ss := fun j hj => by
        obtain ⟨b, off, e1, h1, h2⟩ := HAT2d.out j hj
        have hne : b ≠ gX := fun e => hnoX ⟨b, off + j * 2, none⟩ e _ h1
        exact ⟨b, off, e1, hgs.cell h1 (by intro e; injection e with e; exact hne e), hgs.cell h2 (by intro e; injection e with e; exact hne e)⟩
      obtain ⟨we, hwe⟩ : ∃ we, we = wd.setRow gX (inCells ay lG.length cy fG) := ⟨_, rfl⟩
      rw [← hwe] at hX hY1e hY2e hRe hBe hat1e hat2e
      have HWe := Lib.hid hwe
      have HX := Lib.hid (show ∀ W, Below we.heap.size we W → W.heap[gX]? = some (.cells (inCells ay lG.length cy fG) 46 (0, 0)) from fun W h => by rw [h.block _ (lt_of_block hX)]; exact hX)
      have HYA := Lib.hid (show ∀ W, Below we.heap.size we W → W.heap[wa.heap.size]? = some (.cells Y1 33 (0, 0)) from fun W h => by rw [h.block _ (lt_of_block hY1e)]; exact hY1e)
      have HYB := Lib.hid (show ∀ W, Below we.heap.size we W → W.heap[wc.heap.size]? = some (.cells Y2 33 (0, 0)) from fun W h => by rw [h.block _ (lt_of_block hY2e)]; exact hY2e)
      have ksm : ∀ W, Below we.heap.size we W → Calls Try.prog 21 #[.agg Y1, .agg Y2] W fun e w' => e = .returned (.bool true) ∧ Below W.heap.size W w' := fun W h => by
        have h1 := refsame_any o.k o.t o.r o.nt o.nr o.pt o.pr o.s o.d a1 o.ss c1 o.k o.t o.r o.nt o.nr o.pt o.pr o.s o.d oa o.ss oc W HWF.out.1 HWF.out.1 (hat1e.later h) (hat2e.later h) (by have := HWF.out.2; omega)
        rw [sameOpB_refl] at h1
        rw [HY1.out, HY2.out]
        exact h1
      have KSM := Lib.hid ksm
      have HRe := Lib.hid hRe
      have HBe := Lib.hid hBe
      clear hgs hX hY1e hY2e hRe hBe hat1e hat2e hwe ksm hnoX NY1 NY2 HRd HBd HAT1d HAT2d HWd N1 N2
      go_upto_region 11 with (first | (refine wpList_load_row rfl 46 (.tmp 8) rfl (wc.heap.size + 1) rfl 46 (inCells ay lG.length cy fG) (0, 0) _ NIn.out Try.underlying46 rfl (sizeIn _ _ _ _) ?_) | (refine wpList_store_row rfl 46 (.tmp 4) (.tmp 30) rfl gX (inCells ay lG.length cy fG) rfl rfl 46 (inCells ax lx.length cx fx) NX.out (sizeIn _ _ _ _) rfl (oneIn _ _ _ _) ?_))
      change Code.wp _ _ _ _ (wd.setRow gX (inCells ay lG.length cy fG))
      rw [← HWe.out]
      obtain ⟨nG, hnG⟩ : ∃ n, n = lG.length := ⟨_, rfl⟩
      have kx0 := Lib.hid (show ∀ W, Below we.heap.size we W → W.cell? ⟨gX, 0, none⟩ = some (.slice ay nG cy) from fun W h => by rw [hnG]; exact cell_of_block (HX.out W h))
      have kx1 := Lib.hid (show ∀ W, Below we.heap.size we W → W.cell? ⟨gX, 1, none⟩ = some (.bool fG) from fun W h => cell_of_block (HX.out W h))
      have hkl := fun W (h : Reads W R Q lG fG) => left_any R Q lG fG W h
      rw [← hnG] at hkl
      have KL := Lib.hid hkl
      have HNG := Lib.hid hnG
      have eq1 : ((!fG) == fG) = false := by cases fG <;> rfl
      have eq2 : ((nG : Int) != (nG : Int)) = false := by simp
      have hs : Below we.heap.size we we.drew := (Below.refl _ _).drew
      have hrr := HRe.out.later hs
      clear hkl hnG NX NIn HWe
      try simp only [Act.put, List.setIfInBounds_toArray, List.set_cons_zero, List.set_cons_succ]
      refine wp_region_pair (fun W => Below we.heap.size we W) [([0, 1], [2]), ([3, 4, 5, 7, 8], [6]), ([9, 10, 11, 12, 14, 15], [13, 16])] [17, 18] (by kernel_rfl) (by kernel_rfl) (fun _ _ d _ _ h => by cases d <;> exact h) (by kernel_rfl) (of_decide_eq_true (by kernel_rfl)) hs ?_
      refine wpPair_cons ?_
      dsimp only [opsAt, List.filterMap, List.getElem?_cons_zero, List.getElem?_cons_succ]
      repeat (first
        | go_big_quiet_skip
        | (go_big_quiet_want
           first
             | (refine quiet_load_row' 33 (.tmp 6) rfl wa.heap.size rfl 33 Y1 (0, 0) _ HYA.out Try.underlying33 rfl HYS.out ?_
                simp only [Act.put, List.setIfInBounds_toArray, List.set_cons_zero, List.set_cons_succ]
                go_big_quiet_on)
             | (refine quiet_load_row' 33 (.tmp 7) rfl wc.heap.size rfl 33 Y2 (0, 0) _ HYB.out Try.underlying33 rfl HY2S.out ?_
                simp only [Act.put, List.setIfInBounds_toArray, List.set_cons_zero, List.set_cons_succ]
                go_big_quiet_on)
             | (go_big_quiet_op
                refine ⟨_, fun _ _ => rfl, ?_⟩
                go_big_quiet_on)
             | (go_big_quiet_op
                go_big_quiet_on)))
      refine wpQuiet_nil ?_
      intro KK hKK
      go_simp
      refine (KSM.out _ hs).mono ?_
      rintro e wf ⟨rfl, hbf⟩
      replace hs := hs.trans (hbf.mono hs.size)
      replace hrr := hrr.later hbf
      clear hbf
      refine hKK _ _ hs ?_
      clear hKK KK
      try simp only [Act.put, List.setIfInBounds_toArray, List.set_cons_zero, List.set_cons_succ]
      refine wpPair_cons ?_
      dsimp only [opsAt, List.filterMap, List.getElem?_cons_zero, List.getElem?_cons_succ]
      repeat (first
        | go_big_quiet_skip
        | (go_big_quiet_want
           first
             | (refine quiet_load_cell 4 (.tmp 38) rfl ⟨gX, 1, none⟩ rfl (.bool fG) _ kx1.out Try.underlying4 rfl ?_
                simp only [Act.put, List.setIfInBounds_toArray, List.set_cons_zero, List.set_cons_succ]
                go_big_quiet_on)
             | (go_big_quiet_op
                refine ⟨_, fun _ _ => rfl, ?_⟩
                go_big_quiet_on)
             | (go_big_quiet_op
                go_big_quiet_on)))
      refine wpQuiet_nil ?_
      intro KK hKK
      go_simp
      refine (good_any R Q lG fG _ hrr).mono ?_
      rintro e wg ⟨rfl, rfl⟩
      refine hKK _ _ hs ?_
      clear hKK KK
      try simp only [Act.put, List.setIfInBounds_toArray, List.set_cons_zero, List.set_cons_succ]
      refine wpPair_two ?_
      dsimp only [opsAt, List.filterMap, List.getElem?_cons_zero, List.getElem?_cons_succ]
      repeat (first
        | go_big_quiet_skip
        | (go_big_quiet_want
           first
             | (refine quiet_load_cell 36 (.tmp 45) rfl ⟨gX, 0, none⟩ rfl (.slice ay nG cy) _ kx0.out Try.underlying36 rfl ?_
                simp only [Act.put, List.setIfInBounds_toArray, List.set_cons_zero, List.set_cons_succ]
                go_big_quiet_on)
             | (go_big_quiet_op
                refine ⟨_, fun _ _ => rfl, ?_⟩
                go_big_quiet_on)
             | (go_big_quiet_op
                go_big_quiet_on)))
      refine wpQuiet_nil ⟨?_, ?_⟩
      intro KK hKK
      go_simp
      refine (KL.out _ hrr).mono ?_
      rintro e wg ⟨rfl, rfl⟩
      refine hKK _ _ hs ?_
      clear hKK KK
      try simp only [Act.put, List.setIfInBounds_toArray, List.set_cons_zero, List.set_cons_succ]
      intro KK hKK
      go_simp
      refine hKK _ _ hs ?_
      clear hKK KK
      rotate_left
      intro KK hKK
      go_simp
      refine hKK _ _ hs ?_
      clear hKK KK
      try simp only [Act.put, List.setIfInBounds_toArray, List.set_cons_zero, List.set_cons_succ]
      intro KK hKK
      go_simp
      refine (KL.out _ hrr).mono ?_
      rintro e wg ⟨rfl, rfl⟩
      refine hKK _ _ hs ?_
      clear hKK KK
      all_goals
        try simp only [Act.put, List.setIfInBounds_toArray, List.set_cons_zero, List.set_cons_succ]
        refine wpPair_nil ?_
        dsimp only [opsAt, List.filterMap, List.getElem?_cons_zero, List.getElem?_cons_succ]
        repeat (first
          | go_big_quiet_skip
          | (go_big_quiet_want
             first
               | (go_big_quiet_op
                  refine ⟨_, fun _ _ => rfl, ?_⟩
                  go_big_quiet_on)
               | (go_big_quiet_op
                  go_big_quiet_on)))
        refine wpQuiet_nil ?_
        have hk1 := kx1.out _ hs
        have hBf := HBe.out.trans (hs.mono HBe.out.size)
        have hXf := HX.out _ hs
        have HSTf := Lib.hid (show ReadsSt w R Q gX ay cy lG fG _ from ⟨hBf, hrr, hXf, HIN2.out, HF2.out⟩)
        have HBF := Lib.hid hBf
        clear hBf hXf hrr hs eq1 eq2 HX HYA HYB KSM HRe kx0 kx1 KL
        cases fG
        · go_wp2_with fail
          go_roundw
          case rel => exact ⟨i + 1, ay, cy, lG, false, by omega, by go_num, HSTf⟩
          case measure => simp [intOf]; omega
        · go_wp2_with fail
          go_ret
          exact ⟨rfl, HBF.out⟩
    · go_wp2_with fail
      go_ret
      exact ⟨rfl, hst.out.below⟩

theorem stampReads_walk (w : World) (a0 : Option Addr) (len0 cap0 : Nat) (z0 : List Int) (w0 : IsRow .u8 w a0 len0 cap0 z0) (hr : cap0 * 1 ≤ 140737488351232) :
    Calls Try.prog 6 #[.slice a0 len0 cap0] w fun e w' => e = .returned (.bool true) ∧ Below w.heap.size w w' := by
  obtain ⟨l, rfl, hlc, hm, hb⟩ := w0.bytes
  exact stampReads_any a0 l cap0 w ⟨hb, hlc, hm⟩ (by omega)
end Go.Proofs.Ytoaboehmjfnceaa
