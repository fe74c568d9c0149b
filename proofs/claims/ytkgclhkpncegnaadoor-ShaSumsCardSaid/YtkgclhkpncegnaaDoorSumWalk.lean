/-
  The sum of any bytes: Sum answers the bytes of sumL.
-/
import Derived.Test.YtkgclhkpncegnaaDoorLast
import Derived.BigRegion
namespace Go.Proofs.YtkgclhkpncegnaaDoor
open Go.RowKit
set_option linter.unusedSimpArgs false
set_option linter.unusedVariables false

theorem bytesAt_take {w : World} {a : Option Addr} {l : List UInt8} (h : BytesAt w a l) (n : Nat) : BytesAt w a (l.take n) := by
  intro i hi
  have hi' : i < l.length := by simp at hi; omega
  obtain ⟨b, off, h1, h2⟩ := h i hi'
  exact ⟨b, off, h1, by rw [h2]; simp⟩

theorem bytesAt_drop {w : World} {ad : Addr} {l : List UInt8} (h : BytesAt w (some ad) l) (n : Nat) : BytesAt w (some (ad.add n)) (l.drop n) := by
  intro i hi
  have hi' : n + i < l.length := by simp at hi; omega
  obtain ⟨b, off, h1, h2⟩ := h (n + i) hi'
  obtain rfl := Option.some.inj h1
  refine ⟨b, off + n, by rw [add_plain], ?_⟩
  rw [Nat.add_assoc, h2]
  simp
theorem own_cap {w : World} {base n : Nat} {e : TypeId} {g c : Nat} {xs : List Value} (h : w.ownsRow base e 1 (.slice (some ⟨g, 0, none⟩) n c) n xs) : n ≤ c := by
  rcases h.2 with ⟨h, _⟩ | ⟨g', cap', cur, hv, hbg, hg, hnc, hcm, hcs, htake⟩
  · omega
  · simp only [Value.slice.injEq, Option.some.injEq, Addr.mk.injEq, and_true, true_and] at hv
    omega
theorem last_len (l : List UInt8) (n m k : Nat) (hn : n = l.length / 64) (hm : m = 64 * n) : (lastL (l.drop m) k).length = 64 * lastN (l.length % 64) := by
  have h : (l.drop m).length = l.length % 64 := by simp; omega
  rw [lastL_length _ _ (by omega), h]
theorem quiet_slice_low {P : Program} {C : World → Prop} {o : Oper} {a : Act} {K : Act → Prop} (ty : TypeId) (x y : Operand) (ho : o.op = .slice ty x (some y) none none)
    (v : Value) (hrun : ∀ w : World, (Instr.sliceAt ty (a.eval x) (some (a.eval y)) none none).run P w = .ok v w)
    (h : K (a.put o.dst v)) : o.quiet P a C K :=
  ⟨v, fun w _ => by
    unfold Oper.quietAt execOp
    simp only [ho, Option.map_some, Option.map_none, Sem.run_bind, Sem.run_pure, hrun w, Result.andThen_ok]
    exact ⟨rfl, rfl⟩, h⟩
theorem step_store_row {P : Program} {ops : Array Oper} {o : Oper} {a : Act} {w : World} {K : Act → World → Prop} {Q : Exit → Act → World → Prop} {E : Prop} (hgd : o.guard = none) (ty : TypeId) (x y : Operand) (ho : o.op = .store ty x y)
    (g : Nat) (cells : Array Value) (hx : a.eval x = .pointer (some ⟨g, 0, none⟩)) (hy : a.eval y = .agg cells)
    (t : TypeId) (old : Array Value) (hg : w.heap[g]? = some (.cells old t (0, 0))) (hi : (P.info? ty).map (·.size) = some cells.size)
    (hold : old.size = cells.size) (h1 : cells.all (·.oneCell') = true)
    (h : K (a.put o.dst undef) (w.setRow g cells)) : if Region.wanted o (yielded ops a.tmps) = true then Oper.wp P o a w K Q else E := by
  have hw : Region.wanted o (yielded ops a.tmps) = true := by simp [Region.wanted, hgd]
  rw [if_pos hw]
  exact wp_store_row ty x y ho g cells hx hy t old hg hi hold h1 h
theorem run_storeCells_row {P : Program} (w : World) (g : Nat) (t : TypeId) (old cells : Array Value) (hg : w.heap[g]? = some (.cells old t (0, 0))) (ho : old.size = cells.size) (h1 : cells.all (·.oneCell') = true) :
    (storeCells ⟨g, 0, none⟩ cells.toList).run P w = .ok () (w.setRow g cells) := by
  have := run_storeCells_from (P := P) g t cells.toList 0 old w hg (by simp; omega) (fun v hv => (Array.all_eq_true_iff_forall_mem.1 h1) v (by simpa using hv))
  simpa using this

set_option maxRecDepth 100000 in
set_option maxHeartbeats 1000000 in
theorem sum_some (ad : Addr) (l : List UInt8) (cap : Nat) (w : World) (hb : BytesAt w (some ad) l) (hlc : l.length ≤ cap) (hc : cap ≤ 9223372036854775807) (hk : KeysAt w) :
    Calls Tryd.prog 9 #[.slice (some ad) l.length cap] w fun e w' => e = .returned (.agg (bvs (sumL l)).toArray) ∧ Below w.heap.size w w' := by
  obtain ⟨w1, hw1⟩ : ∃ w1, w1 = w.alloc (.cells (Array.replicate 32 (.int .u8 0)) 29) := ⟨_, rfl⟩
  have hb1 : Below w.heap.size w w1 := by rw [hw1]; exact (Below.refl _ w).alloc (Nat.le_refl _) _
  have hs1 : w1.heap.size = w.heap.size + 1 := by rw [hw1]; simp
  have hr1 : w1.heap[w.heap.size]? = some (.cells (Array.replicate 32 (.int .u8 0)) 29 (0, 0)) := by rw [hw1]; exact heap_alloc_new w _
  have h22 : ∀ w', Below w1.heap.size w1 w' → Calls Tryd.prog 22 #[] w' fun e w'' => e = .returned (.agg (rowS startS)) ∧ Below w1.heap.size w1 w'' ∧ Below w'.heap.size w' w'' :=
    fun w' h => (start_any w').mono fun _ _ hh => ⟨hh.1, h.trans (hh.2.mono h.size), hh.2⟩
  have HW1 := Lib.hid hw1
  have HB1 := Lib.hid hb1
  have HS1 := Lib.hid hs1
  have HR1 := Lib.hid hr1
  have H22 := Lib.hid h22
  have HK := Lib.hid hk
  clear hw1 hb1 hs1 hr1 h22 hk
  go_enter Tryd.func9, Tryd.ntmps9
  go_upto_region 2 with (fail)
  change Code.wp _ _ _ _ (w.alloc (.cells (Array.replicate 32 (.int .u8 0)) 29))
  rw [← HW1.out]
  obtain ⟨N, hN⟩ : ∃ N, N = l.length / 64 := ⟨_, rfl⟩
  obtain ⟨M, hM⟩ : ∃ M, M = 64 * N := ⟨_, rfl⟩
  have hMl : M ≤ l.length := by omega
  have hMc : M ≤ cap := by omega
  rw [show (l.length : Int) - (l.length : Int) % 64 = (M : Int) by omega]
  have htl : (l.take M).length = M := by simp; omega
  have h21 : ∀ w', Below w1.heap.size w1 w' → Calls Tryd.prog 21 #[.agg (rowS startS), (.slice (some ad) M cap)] w' fun e w'' => e = .returned (.agg (rowS (blocksS (l.take M) startS N))) ∧ Below w1.heap.size w1 w'' ∧ Below w'.heap.size w' w'' := by
    intro w' h
    have hw : Below w.heap.size w w' := HB1.out.trans (h.mono (by have := HS1.out; omega))
    have hc := blocks_any (some ad) (l.take M) cap N startS w' (by rw [htl, hM]) (by rw [htl]; omega) (by rw [htl]; omega) (BytesAt.later' (bytesAt_take hb M) hw) (fun i hi => cell_later hw (HK.out i hi))
    rw [htl] at hc
    exact hc.mono fun _ _ hh => ⟨hh.1, h.trans (hh.2.mono h.size), hh.2⟩
  have H21 := Lib.hid h21
  have HN := Lib.hid hN
  have HM := Lib.hid hM
  clear h21 hN hM htl
  obtain ⟨Y, hY⟩ : ∃ Y, Y = rowS (blocksS (l.take M) startS N) := ⟨_, rfl⟩
  obtain ⟨X, hX⟩ : ∃ X, X = rowS startS := ⟨_, rfl⟩
  rw [← hY, ← hX] at H21
  rw [← hX] at H22
  have hY1 : Y.all (·.oneCell') = true := by rw [hY]; exact rowS_all _
  have hYs : (Tryd.prog.info? 47).map (·.size) = some Y.size := by rw [hY, rowS_size]; kernel_rfl
  have hY8 : lit8.size = Y.size := by rw [hY, rowS_size]; rfl
  have HY := Lib.hid hY
  have HY1 := Lib.hid hY1
  have HYS := Lib.hid hYs
  have HY8 := Lib.hid hY8
  clear hY hX hY1 hYs hY8
  have hb0 : Below w1.heap.size w1 w1 := Below.refl _ _
  go_cut [4] (fun s4 wx => ∃ g, s4 = .pointer (some ⟨g, 0, none⟩) ∧ w1.heap.size ≤ g ∧ wx.heap[g]? = some (.cells Y 47 (0, 0)) ∧ Below w1.heap.size w1 wx)
  case first =>
    have hz : ∀ (w : World) (g : Nat), w.heap[g]? = some (.cells lit8 47 (0, 0)) → (storeCells ⟨g, 0, none⟩ Y.toList).run Tryd.prog w = .ok () (w.setRow g Y) := fun w g h => run_storeCells_row w g _ lit8 Y h HY8.out HY1.out
    have hz0 : ∀ w : World, (storeCells ⟨w.heap.size, 0, none⟩ Y.toList).run Tryd.prog (w.alloc (.cells #[.int .u32 0, .int .u32 0, .int .u32 0, .int .u32 0, .int .u32 0, .int .u32 0, .int .u32 0, .int .u32 0] 47)) = .ok () ((w.alloc (.cells lit8 47)).setRow w.heap.size Y) := fun w => hz _ _ (heap_alloc_new w _)
    have HZ := Lib.hid hz
    clear hz
    have hY8' : Y.size = 8 := HY8.out.symm
    go_region_law (first
      | (go_simp; go_at_call 22; refine (H22.out _ (by first | assumption | exact (Below.refl _ _).drew | exact Below.alloc (by assumption) (Below.size (by assumption)) _ | exact ((Below.refl _ _).drew).alloc (Nat.le_refl _) _)).mono ?_; rintro e w2 ⟨rfl, hb2, hg2⟩)
      | (go_simp; go_at_call 21; refine (H21.out _ (by first | assumption | exact Below.alloc (by assumption) (Below.size (by assumption)) _)).mono ?_; rintro e w3 ⟨rfl, hb3, hg3⟩;
         first
           | have hz1 := HZ.out w3 w2.heap.size (by rw [hg3.block _ (by simp)]; exact heap_alloc_new _ _)
           | have hz1 := HZ.out w3 w1.heap.size (by rw [hg3.block _ (by have := hg2.size; simp at this ⊢; omega), hg2.block _ (by simp)]; exact heap_alloc_new _ _)
           | have hz1 := hz0 w3))
    · go_wp2_with fail
      go_meet
      exact ⟨w3.heap.size, rfl, hb3.size, setRow_heap _ _ lit8 Y _ _ (heap_alloc_new w3 _), below_setRow (hb3.alloc hb3.size _) hb3.size Y⟩
    · go_wp2_with fail
      go_meet
      exact ⟨w2.heap.size, rfl, hb2.size, setRow_heap _ _ lit8 Y _ _ (by rw [hg3.block _ (by simp)]; exact heap_alloc_new _ _), below_setRow hb3 hb2.size Y⟩
    · go_wp2_with fail
      go_meet
      exact ⟨w1.heap.size, rfl, Nat.le_refl _, setRow_heap _ _ lit8 Y _ _ (by rw [hg3.block _ (by have := hg2.size; simp at this ⊢; omega), hg2.block _ (by simp)]; exact heap_alloc_new _ _), below_setRow hb3 (Nat.le_refl _) Y⟩
  obtain ⟨g, rfl, hg1, hgY, hbx⟩ := hcut
  have hbt : Below w.heap.size w wc := HB1.out.trans (hbx.mono (by have := HS1.out; omega))
  obtain ⟨L, hL⟩ : ∃ L, L = lastL (l.drop M) l.length := ⟨_, rfl⟩
  have hdl : (l.drop M).length = l.length - M := by simp
  have hL64 : L.length = 64 * lastN (l.length % 64) := by rw [hL]; exact last_len l N M l.length HN.out HM.out
  obtain ⟨pp, hpp⟩ : ∃ pp, (if cap = M then some ad else some (ad.add M)) = pp := ⟨_, rfl⟩
  have hdb : ∀ W, Below wc.heap.size wc W → BytesAt W pp (l.drop M) := by
    intro W h
    rw [← hpp]
    split
    · rw [List.drop_eq_nil_of_le (by omega)]; exact BytesAt.nil _ _
    · exact bytesAt_drop (BytesAt.later' hb (hbt.trans (h.mono hbt.size))) M
  have hpn : pp = none → cap - M = 0 := by
    intro h0
    rw [← hpp] at h0
    split at h0 <;> simp at h0
  have hsl : ∀ W : World, (Instr.sliceAt 22 (.slice (some ad) l.length cap) (some (.int .i64 (M : Int))) none none).run Tryd.prog W = .ok (.slice pp (l.length - M) (cap - M)) W := by
    intro W
    go_simp
    try rw [hpp]
  have HSL := Lib.hid hsl
  clear hsl
  have h22 : ∀ W, Below wc.heap.size wc W → Calls Tryd.prog 24 #[.slice pp (l.length - M) (cap - M), .int .i64 (l.length : Int)] W fun e W' => ∃ v, e = .returned v ∧ Own W W' v L := by
    intro W h
    have hc := last_any pp (l.drop M) (cap - M) l.length W (hdb W h) hpn (by rw [hdl]; have h1 := HM.out; have h2 := HN.out; omega) (by omega)
    rw [hdl, ← hL] at hc
    exact hc
  have hs : Below wc.heap.size wc wc.drew := (Below.refl _ _).drew
  obtain ⟨Z, hZ⟩ : ∃ Z, Z = rowS (blocksS L (blocksS (l.take M) startS N) (lastN (l.length % 64))) := ⟨_, rfl⟩
  obtain ⟨V, hV⟩ : ∃ V, V = (bvs (sumL l)).toArray := ⟨_, rfl⟩
  have hVz : V.size = 32 := by rw [hV, sumL, ← brow_all, brow_size]
  have hV1 : V.all (·.oneCell') = true := by rw [hV]; simpa using bvs_oneCell (sumL l)
  have hVs : (Tryd.prog.info? 29).map (·.size) = some V.size := by rw [hVz]; kernel_rfl
  have hV32 : (Array.replicate 32 (Value.int .u8 0)).size = V.size := by rw [hVz]; rfl
  have hC : ∀ (W : World) (g2 c2 : Nat), Below wc.heap.size wc W → L.length ≤ c2 → BytesAt W (some ⟨g2, 0, none⟩) L → Calls Tryd.prog 21 #[.agg Y, .slice (some ⟨g2, 0, none⟩) L.length c2] W fun e W' => e = .returned (.agg Z) ∧ Below W.heap.size W W' := by
    intro W g2 c2 h h2 h3
    have hc := blocks_any (some ⟨g2, 0, none⟩) L c2 (lastN (l.length % 64)) (blocksS (l.take M) startS N) W hL64 (by rw [hL64]; unfold lastN; split <;> omega) h2 h3 (fun i hi => cell_later (hbt.trans (h.mono hbt.size)) (HK.out i hi))
    rw [← HY.out, ← hZ] at hc
    exact hc
  have hI : ∀ W : World, Calls Tryd.prog 23 #[.agg Z] W fun e W' => e = .returned (.agg V) ∧ Below W.heap.size W W' := by
    intro W
    have hc := id_any (blocksS L (blocksS (l.take M) startS N) (lastN (l.length % 64))) W
    rw [← hZ, hL, HM.out, HN.out] at hc
    rw [hV, sumL]
    exact hc
  have HV := Lib.hid hV
  have HV1 := Lib.hid hV1
  have HVS := Lib.hid hVs
  have HV32 := Lib.hid hV32
  have HC := Lib.hid hC
  have HI := Lib.hid hI
  clear hZ hV hVz hV1 hVs hV32 hC hI
  have hG0 : ∀ W, (W.heap[g]? = some (.cells Y 47 (0, 0)) ∧ Below w.heap.size w W) → W.heap[g]? = some (.cells Y 47 (0, 0)) := fun _ h => h.1
  have hG1 : ∀ W, Below wc.heap.size wc W → (W.heap[g]? = some (.cells Y 47 (0, 0)) ∧ Below w.heap.size w W) := fun W h => ⟨by rw [h.block _ (lt_of_block hgY)]; exact hgY, hbt.trans (h.mono hbt.size)⟩
  have hR : ∀ W, Below wc.heap.size wc W → W.heap[w.heap.size]? = some (.cells (Array.replicate 32 (.int .u8 0)) 29 (0, 0)) := by
    intro W h
    have h1 := HS1.out
    rw [h.block _ (by have := hbx.size; omega), hbx.block _ (by omega)]
    exact HR1.out
  have HG0 := Lib.hid hG0
  have HG1 := Lib.hid hG1
  have HR := Lib.hid hR
  have HLL := Lib.hid hL
  have HL64 := Lib.hid hL64
  have HT := Lib.hid h22
  have HGY := Lib.hid hgY
  have HBX := Lib.hid hbx
  have HBT := Lib.hid hbt
  clear hG0 hG1 hR hL hL64 h22 hgY hbx hbt hdl
  go_upto_region 3 with (fail)
  refine wp_region_sched (fun W => W.heap[g]? = some (.cells Y 47 (0, 0)) ∧ Below w.heap.size w W) [([0, 1, 2, 3, 4], 5), ([], 6), ([], 7), ([], 8), ([], 9)] [] (by kernel_rfl) (by kernel_rfl) (fun _ _ d _ _ h => by cases d <;> exact h) (by kernel_rfl) (of_decide_eq_true (by kernel_rfl)) (HG1.out _ hs) ?_
  refine wpSched_cons ?_
  dsimp only [opsAt, List.filterMap, List.getElem?_cons_zero, List.getElem?_cons_succ]
  repeat (first
    | go_big_quiet_skip
    | (go_big_quiet_want
       first
         | (refine quiet_load_row' 47 (.tmp 4) rfl g rfl 47 Y (0, 0) _ HG0.out Tryd.underlying47 rfl HYS.out ?_
            simp only [Act.put, List.setIfInBounds_toArray, List.set_cons_zero, List.set_cons_succ]
            go_big_quiet_on)
         | (refine quiet_slice_low 22 (.tmp 17) (.tmp 18) rfl (.slice pp (l.length - M) (cap - M)) HSL.out ?_
            simp only [Act.put, List.setIfInBounds_toArray, List.set_cons_zero, List.set_cons_succ]
            go_big_quiet_on)
         | (go_big_quiet_op
            first | refine ⟨_, fun _ _ => rfl, ?_⟩ | refine ⟨_, fun _ _ _ => rfl, ?_⟩ | refine ⟨_, fun _ _ _ _ => rfl, ?_⟩
            go_big_quiet_on)
         | (go_big_quiet_op
            go_big_quiet_on)))
  refine wpQuiet_nil ?_
  intro KK hKK
  go_simp
  skip
  refine hKK _ _ (HG1.out _ hs) ?_
  clear hKK KK
  try simp only [Act.put, List.setIfInBounds_toArray, List.set_cons_zero, List.set_cons_succ]
  refine wpSched_cons ?_
  dsimp only [opsAt, List.filterMap, List.getElem?_cons_zero, List.getElem?_cons_succ]
  repeat (first
    | go_big_quiet_skip
    | (go_big_quiet_want
       first
         | (go_big_quiet_op
            first | refine ⟨_, fun _ _ => rfl, ?_⟩ | refine ⟨_, fun _ _ _ => rfl, ?_⟩ | refine ⟨_, fun _ _ _ _ => rfl, ?_⟩
            go_big_quiet_on)
         | (go_big_quiet_op
            go_big_quiet_on)))
  refine wpQuiet_nil ?_
  intro KK hKK
  go_simp
  refine (HT.out _ hs).mono ?_
  rintro e w3 ⟨v, rfl, hvr, hvb⟩
  obtain ⟨g2, c2, rfl⟩ := own_slice hvr (by rw [HL64.out]; unfold lastN; split <;> omega)
  have hbl := BytesAt.rowAt hvr
  have hc2 := own_cap hvr
  replace hs := hs.trans (hvb.mono hs.size)
  clear hvr hvb
  refine hKK _ _ (HG1.out _ hs) ?_
  clear hKK KK
  try simp only [Act.put, List.setIfInBounds_toArray, List.set_cons_zero, List.set_cons_succ]
  refine wpSched_cons ?_
  dsimp only [opsAt, List.filterMap, List.getElem?_cons_zero, List.getElem?_cons_succ]
  repeat (first
    | go_big_quiet_skip
    | (go_big_quiet_want
       first
         | (go_big_quiet_op
            first | refine ⟨_, fun _ _ => rfl, ?_⟩ | refine ⟨_, fun _ _ _ => rfl, ?_⟩ | refine ⟨_, fun _ _ _ _ => rfl, ?_⟩
            go_big_quiet_on)
         | (go_big_quiet_op
            go_big_quiet_on)))
  refine wpQuiet_nil ?_
  intro KK hKK
  go_simp
  refine (HC.out w3 g2 c2 hs hc2 hbl).mono ?_
  rintro e w4 ⟨rfl, hb4⟩
  replace hs := hs.trans (hb4.mono hs.size)
  clear hb4 hbl hc2
  refine hKK _ _ (HG1.out _ hs) ?_
  clear hKK KK
  try simp only [Act.put, List.setIfInBounds_toArray, List.set_cons_zero, List.set_cons_succ]
  refine wpSched_cons ?_
  dsimp only [opsAt, List.filterMap, List.getElem?_cons_zero, List.getElem?_cons_succ]
  repeat (first
    | go_big_quiet_skip
    | (go_big_quiet_want
       first
         | (go_big_quiet_op
            first | refine ⟨_, fun _ _ => rfl, ?_⟩ | refine ⟨_, fun _ _ _ => rfl, ?_⟩ | refine ⟨_, fun _ _ _ _ => rfl, ?_⟩
            go_big_quiet_on)
         | (go_big_quiet_op
            go_big_quiet_on)))
  refine wpQuiet_nil ?_
  intro KK hKK
  go_simp
  refine (HI.out w4).mono ?_
  rintro e w5 ⟨rfl, hb5⟩
  replace hs := hs.trans (hb5.mono hs.size)
  clear hb5
  refine hKK _ _ (HG1.out _ hs) ?_
  clear hKK KK
  try simp only [Act.put, List.setIfInBounds_toArray, List.set_cons_zero, List.set_cons_succ]
  refine wpSched_cons ?_
  dsimp only [opsAt, List.filterMap, List.getElem?_cons_zero, List.getElem?_cons_succ]
  repeat (first
    | go_big_quiet_skip
    | (go_big_quiet_want
       first
         | (go_big_quiet_op
            first | refine ⟨_, fun _ _ => rfl, ?_⟩ | refine ⟨_, fun _ _ _ => rfl, ?_⟩ | refine ⟨_, fun _ _ _ _ => rfl, ?_⟩
            go_big_quiet_on)
         | (go_big_quiet_op
            go_big_quiet_on)))
  refine wpQuiet_nil ?_
  intro KK hKK
  refine step_store_row rfl 29 (.tmp 2) (.tmp 24) rfl w.heap.size V rfl rfl 29 _ (HR.out _ hs) HVS.out HV32.out HV1.out ?_
  refine hKK _ _ ⟨by rw [setRow_other _ _ _ _ (by have := HS1.out; omega)]; exact (HG1.out _ hs).1, below_setRow (HG1.out _ hs).2 (Nat.le_refl _) V⟩ ?_
  clear hKK KK
  try simp only [Act.put, List.setIfInBounds_toArray, List.set_cons_zero, List.set_cons_succ]
  refine wpSched_nil ?_
  dsimp only [opsAt, List.filterMap, List.getElem?_cons_zero, List.getElem?_cons_succ]
  refine wpQuiet_nil ?_
  go_wp2_with fail
  refine bodyPost_ret (v := .agg V) (results_cell_row rfl _ _ w.heap.size 29 V (0, 0) _ rfl (setRow_heap w5 w.heap.size _ V _ _ (HR.out _ hs)) Tryd.underlying29 rfl HVS.out) rfl ?_
  exact ⟨by rw [HV.out], below_setRow (HG1.out _ hs).2 (Nat.le_refl _) V⟩

set_option maxRecDepth 100000 in
set_option maxHeartbeats 1000000 in
theorem sum_nil (w : World) (hk : KeysAt w) :
    Calls Tryd.prog 9 #[.slice none 0 0] w fun e w' => e = .returned (.agg (bvs (sumL [])).toArray) ∧ Below w.heap.size w w' := by
  obtain ⟨w1, hw1⟩ : ∃ w1, w1 = w.alloc (.cells (Array.replicate 32 (.int .u8 0)) 29) := ⟨_, rfl⟩
  have hb1 : Below w.heap.size w w1 := by rw [hw1]; exact (Below.refl _ w).alloc (Nat.le_refl _) _
  have hs1 : w1.heap.size = w.heap.size + 1 := by rw [hw1]; simp
  have hr1 : w1.heap[w.heap.size]? = some (.cells (Array.replicate 32 (.int .u8 0)) 29 (0, 0)) := by rw [hw1]; exact heap_alloc_new w _
  have h22 : ∀ w', Below w1.heap.size w1 w' → Calls Tryd.prog 22 #[] w' fun e w'' => e = .returned (.agg (rowS startS)) ∧ Below w1.heap.size w1 w'' ∧ Below w'.heap.size w' w'' :=
    fun w' h => (start_any w').mono fun _ _ hh => ⟨hh.1, h.trans (hh.2.mono h.size), hh.2⟩
  have HW1 := Lib.hid hw1
  have HB1 := Lib.hid hb1
  have HS1 := Lib.hid hs1
  have HR1 := Lib.hid hr1
  have H22 := Lib.hid h22
  have HK := Lib.hid hk
  clear hw1 hb1 hs1 hr1 h22 hk
  go_enter Tryd.func9, Tryd.ntmps9
  go_upto_region 2 with (fail)
  change Code.wp _ _ _ _ (w.alloc (.cells (Array.replicate 32 (.int .u8 0)) 29))
  rw [← HW1.out]
  have h21 : ∀ w', Below w1.heap.size w1 w' → Calls Tryd.prog 21 #[.agg (rowS startS), .slice none 0 0] w' fun e w'' => e = .returned (.agg (rowS (blocksS [] startS 0))) ∧ Below w1.heap.size w1 w'' ∧ Below w'.heap.size w' w'' := by
    intro w' h
    have hw : Below w.heap.size w w' := HB1.out.trans (h.mono (by have := HS1.out; omega))
    have hc := blocks_any none [] 0 0 startS w' rfl (by simp) (Nat.le_refl _) (BytesAt.nil _ _) (fun i hi => cell_later hw (HK.out i hi))
    exact hc.mono fun _ _ hh => ⟨hh.1, h.trans (hh.2.mono h.size), hh.2⟩
  have H21 := Lib.hid h21
  clear h21
  obtain ⟨Y, hY⟩ : ∃ Y, Y = rowS (blocksS [] startS 0) := ⟨_, rfl⟩
  obtain ⟨X, hX⟩ : ∃ X, X = rowS startS := ⟨_, rfl⟩
  rw [← hY, ← hX] at H21
  rw [← hX] at H22
  have hY1 : Y.all (·.oneCell') = true := by rw [hY]; exact rowS_all _
  have hYs : (Tryd.prog.info? 47).map (·.size) = some Y.size := by rw [hY, rowS_size]; kernel_rfl
  have hY8 : lit8.size = Y.size := by rw [hY, rowS_size]; rfl
  have HY := Lib.hid hY
  have HY1 := Lib.hid hY1
  have HYS := Lib.hid hYs
  have HY8 := Lib.hid hY8
  clear hY hX hY1 hYs hY8
  have hb0 : Below w1.heap.size w1 w1 := Below.refl _ _
  go_cut [4] (fun s4 wx => ∃ g, s4 = .pointer (some ⟨g, 0, none⟩) ∧ w1.heap.size ≤ g ∧ wx.heap[g]? = some (.cells Y 47 (0, 0)) ∧ Below w1.heap.size w1 wx)
  case first =>
    have hz : ∀ (w : World) (g : Nat), w.heap[g]? = some (.cells lit8 47 (0, 0)) → (storeCells ⟨g, 0, none⟩ Y.toList).run Tryd.prog w = .ok () (w.setRow g Y) := fun w g h => run_storeCells_row w g _ lit8 Y h HY8.out HY1.out
    have hz0 : ∀ w : World, (storeCells ⟨w.heap.size, 0, none⟩ Y.toList).run Tryd.prog (w.alloc (.cells #[.int .u32 0, .int .u32 0, .int .u32 0, .int .u32 0, .int .u32 0, .int .u32 0, .int .u32 0, .int .u32 0] 47)) = .ok () ((w.alloc (.cells lit8 47)).setRow w.heap.size Y) := fun w => hz _ _ (heap_alloc_new w _)
    have HZ := Lib.hid hz
    clear hz
    have hY8' : Y.size = 8 := HY8.out.symm
    go_region_law (first
      | (go_simp; go_at_call 22; refine (H22.out _ (by first | assumption | exact (Below.refl _ _).drew | exact Below.alloc (by assumption) (Below.size (by assumption)) _ | exact ((Below.refl _ _).drew).alloc (Nat.le_refl _) _)).mono ?_; rintro e w2 ⟨rfl, hb2, hg2⟩)
      | (go_simp; go_at_call 21; refine (H21.out _ (by first | assumption | exact Below.alloc (by assumption) (Below.size (by assumption)) _)).mono ?_; rintro e w3 ⟨rfl, hb3, hg3⟩;
         first
           | have hz1 := HZ.out w3 w2.heap.size (by rw [hg3.block _ (by simp)]; exact heap_alloc_new _ _)
           | have hz1 := HZ.out w3 w1.heap.size (by rw [hg3.block _ (by have := hg2.size; simp at this ⊢; omega), hg2.block _ (by simp)]; exact heap_alloc_new _ _)
           | have hz1 := hz0 w3))
    · go_wp2_with fail
      go_meet
      exact ⟨w3.heap.size, rfl, hb3.size, setRow_heap _ _ lit8 Y _ _ (heap_alloc_new w3 _), below_setRow (hb3.alloc hb3.size _) hb3.size Y⟩
    · go_wp2_with fail
      go_meet
      exact ⟨w2.heap.size, rfl, hb2.size, setRow_heap _ _ lit8 Y _ _ (by rw [hg3.block _ (by simp)]; exact heap_alloc_new _ _), below_setRow hb3 hb2.size Y⟩
    · go_wp2_with fail
      go_meet
      exact ⟨w1.heap.size, rfl, Nat.le_refl _, setRow_heap _ _ lit8 Y _ _ (by rw [hg3.block _ (by have := hg2.size; simp at this ⊢; omega), hg2.block _ (by simp)]; exact heap_alloc_new _ _), below_setRow hb3 (Nat.le_refl _) Y⟩
  obtain ⟨g, rfl, hg1, hgY, hbx⟩ := hcut
  have hbt : Below w.heap.size w wc := HB1.out.trans (hbx.mono (by have := HS1.out; omega))
  obtain ⟨L, hL⟩ : ∃ L, L = lastL [] 0 := ⟨_, rfl⟩
  have hL64 : L.length = 64 * lastN 0 := by rw [hL]; exact last_len [] 0 0 0 rfl rfl
  have hsl : ∀ W : World, (Instr.sliceAt 22 (.slice none 0 0) (some (.int .i64 0)) none none).run Tryd.prog W = .ok (.slice none 0 0) W := by
    intro W
    go_simp
  have HSL := Lib.hid hsl
  clear hsl
  have h22 : ∀ W, Below wc.heap.size wc W → Calls Tryd.prog 24 #[.slice none 0 0, .int .i64 0] W fun e W' => ∃ v, e = .returned v ∧ Own W W' v L := by
    intro W h
    have hc := last_any none [] 0 0 W (BytesAt.nil _ _) (fun _ => rfl) (by simp) (by omega)
    rw [← hL] at hc
    exact hc
  have hs : Below wc.heap.size wc wc.drew := (Below.refl _ _).drew
  obtain ⟨Z, hZ⟩ : ∃ Z, Z = rowS (blocksS L (blocksS [] startS 0) (lastN 0)) := ⟨_, rfl⟩
  obtain ⟨V, hV⟩ : ∃ V, V = (bvs (sumL [])).toArray := ⟨_, rfl⟩
  have hVz : V.size = 32 := by rw [hV, sumL, ← brow_all, brow_size]
  have hV1 : V.all (·.oneCell') = true := by rw [hV]; simpa using bvs_oneCell (sumL [])
  have hVs : (Tryd.prog.info? 29).map (·.size) = some V.size := by rw [hVz]; kernel_rfl
  have hV32 : (Array.replicate 32 (Value.int .u8 0)).size = V.size := by rw [hVz]; rfl
  have hC : ∀ (W : World) (g2 c2 : Nat), Below wc.heap.size wc W → L.length ≤ c2 → BytesAt W (some ⟨g2, 0, none⟩) L → Calls Tryd.prog 21 #[.agg Y, .slice (some ⟨g2, 0, none⟩) L.length c2] W fun e W' => e = .returned (.agg Z) ∧ Below W.heap.size W W' := by
    intro W g2 c2 h h2 h3
    have hc := blocks_any (some ⟨g2, 0, none⟩) L c2 (lastN 0) (blocksS [] startS 0) W hL64 (by rw [hL64]; unfold lastN; split <;> omega) h2 h3 (fun i hi => cell_later (hbt.trans (h.mono hbt.size)) (HK.out i hi))
    rw [← HY.out, ← hZ] at hc
    exact hc
  have hI : ∀ W : World, Calls Tryd.prog 23 #[.agg Z] W fun e W' => e = .returned (.agg V) ∧ Below W.heap.size W W' := by
    intro W
    have hc := id_any (blocksS L (blocksS [] startS 0) (lastN 0)) W
    rw [← hZ, hL] at hc
    rw [hV, sumL]
    exact hc
  have HV := Lib.hid hV
  have HV1 := Lib.hid hV1
  have HVS := Lib.hid hVs
  have HV32 := Lib.hid hV32
  have HC := Lib.hid hC
  have HI := Lib.hid hI
  clear hZ hV hVz hV1 hVs hV32 hC hI
  have hG0 : ∀ W, (W.heap[g]? = some (.cells Y 47 (0, 0)) ∧ Below w.heap.size w W) → W.heap[g]? = some (.cells Y 47 (0, 0)) := fun _ h => h.1
  have hG1 : ∀ W, Below wc.heap.size wc W → (W.heap[g]? = some (.cells Y 47 (0, 0)) ∧ Below w.heap.size w W) := fun W h => ⟨by rw [h.block _ (lt_of_block hgY)]; exact hgY, hbt.trans (h.mono hbt.size)⟩
  have hR : ∀ W, Below wc.heap.size wc W → W.heap[w.heap.size]? = some (.cells (Array.replicate 32 (.int .u8 0)) 29 (0, 0)) := by
    intro W h
    have h1 := HS1.out
    rw [h.block _ (by have := hbx.size; omega), hbx.block _ (by omega)]
    exact HR1.out
  have HG0 := Lib.hid hG0
  have HG1 := Lib.hid hG1
  have HR := Lib.hid hR
  have HLL := Lib.hid hL
  have HL64 := Lib.hid hL64
  have HT := Lib.hid h22
  have HGY := Lib.hid hgY
  have HBX := Lib.hid hbx
  have HBT := Lib.hid hbt
  clear hG0 hG1 hR hL hL64 h22 hgY hbx hbt
  go_upto_region 3 with (fail)
  refine wp_region_sched (fun W => W.heap[g]? = some (.cells Y 47 (0, 0)) ∧ Below w.heap.size w W) [([0, 1, 2, 3, 4], 5), ([], 6), ([], 7), ([], 8), ([], 9)] [] (by kernel_rfl) (by kernel_rfl) (fun _ _ d _ _ h => by cases d <;> exact h) (by kernel_rfl) (of_decide_eq_true (by kernel_rfl)) (HG1.out _ hs) ?_
  refine wpSched_cons ?_
  dsimp only [opsAt, List.filterMap, List.getElem?_cons_zero, List.getElem?_cons_succ]
  repeat (first
    | go_big_quiet_skip
    | (go_big_quiet_want
       first
         | (refine quiet_load_row' 47 (.tmp 4) rfl g rfl 47 Y (0, 0) _ HG0.out Tryd.underlying47 rfl HYS.out ?_
            simp only [Act.put, List.setIfInBounds_toArray, List.set_cons_zero, List.set_cons_succ]
            go_big_quiet_on)
         | (refine quiet_slice_low 22 (.tmp 17) (.tmp 18) rfl (.slice none 0 0) HSL.out ?_
            simp only [Act.put, List.setIfInBounds_toArray, List.set_cons_zero, List.set_cons_succ]
            go_big_quiet_on)
         | (go_big_quiet_op
            first | refine ⟨_, fun _ _ => rfl, ?_⟩ | refine ⟨_, fun _ _ _ => rfl, ?_⟩ | refine ⟨_, fun _ _ _ _ => rfl, ?_⟩
            go_big_quiet_on)
         | (go_big_quiet_op
            go_big_quiet_on)))
  refine wpQuiet_nil ?_
  intro KK hKK
  go_simp
  skip
  refine hKK _ _ (HG1.out _ hs) ?_
  clear hKK KK
  try simp only [Act.put, List.setIfInBounds_toArray, List.set_cons_zero, List.set_cons_succ]
  refine wpSched_cons ?_
  dsimp only [opsAt, List.filterMap, List.getElem?_cons_zero, List.getElem?_cons_succ]
  repeat (first
    | go_big_quiet_skip
    | (go_big_quiet_want
       first
         | (go_big_quiet_op
            first | refine ⟨_, fun _ _ => rfl, ?_⟩ | refine ⟨_, fun _ _ _ => rfl, ?_⟩ | refine ⟨_, fun _ _ _ _ => rfl, ?_⟩
            go_big_quiet_on)
         | (go_big_quiet_op
            go_big_quiet_on)))
  refine wpQuiet_nil ?_
  intro KK hKK
  go_simp
  refine (HT.out _ hs).mono ?_
  rintro e w3 ⟨v, rfl, hvr, hvb⟩
  obtain ⟨g2, c2, rfl⟩ := own_slice hvr (by rw [HL64.out]; unfold lastN; split <;> omega)
  have hbl := BytesAt.rowAt hvr
  have hc2 := own_cap hvr
  replace hs := hs.trans (hvb.mono hs.size)
  clear hvr hvb
  refine hKK _ _ (HG1.out _ hs) ?_
  clear hKK KK
  try simp only [Act.put, List.setIfInBounds_toArray, List.set_cons_zero, List.set_cons_succ]
  refine wpSched_cons ?_
  dsimp only [opsAt, List.filterMap, List.getElem?_cons_zero, List.getElem?_cons_succ]
  repeat (first
    | go_big_quiet_skip
    | (go_big_quiet_want
       first
         | (go_big_quiet_op
            first | refine ⟨_, fun _ _ => rfl, ?_⟩ | refine ⟨_, fun _ _ _ => rfl, ?_⟩ | refine ⟨_, fun _ _ _ _ => rfl, ?_⟩
            go_big_quiet_on)
         | (go_big_quiet_op
            go_big_quiet_on)))
  refine wpQuiet_nil ?_
  intro KK hKK
  go_simp
  refine (HC.out w3 g2 c2 hs hc2 hbl).mono ?_
  rintro e w4 ⟨rfl, hb4⟩
  replace hs := hs.trans (hb4.mono hs.size)
  clear hb4 hbl hc2
  refine hKK _ _ (HG1.out _ hs) ?_
  clear hKK KK
  try simp only [Act.put, List.setIfInBounds_toArray, List.set_cons_zero, List.set_cons_succ]
  refine wpSched_cons ?_
  dsimp only [opsAt, List.filterMap, List.getElem?_cons_zero, List.getElem?_cons_succ]
  repeat (first
    | go_big_quiet_skip
    | (go_big_quiet_want
       first
         | (go_big_quiet_op
            first | refine ⟨_, fun _ _ => rfl, ?_⟩ | refine ⟨_, fun _ _ _ => rfl, ?_⟩ | refine ⟨_, fun _ _ _ _ => rfl, ?_⟩
            go_big_quiet_on)
         | (go_big_quiet_op
            go_big_quiet_on)))
  refine wpQuiet_nil ?_
  intro KK hKK
  go_simp
  refine (HI.out w4).mono ?_
  rintro e w5 ⟨rfl, hb5⟩
  replace hs := hs.trans (hb5.mono hs.size)
  clear hb5
  refine hKK _ _ (HG1.out _ hs) ?_
  clear hKK KK
  try simp only [Act.put, List.setIfInBounds_toArray, List.set_cons_zero, List.set_cons_succ]
  refine wpSched_cons ?_
  dsimp only [opsAt, List.filterMap, List.getElem?_cons_zero, List.getElem?_cons_succ]
  repeat (first
    | go_big_quiet_skip
    | (go_big_quiet_want
       first
         | (go_big_quiet_op
            first | refine ⟨_, fun _ _ => rfl, ?_⟩ | refine ⟨_, fun _ _ _ => rfl, ?_⟩ | refine ⟨_, fun _ _ _ _ => rfl, ?_⟩
            go_big_quiet_on)
         | (go_big_quiet_op
            go_big_quiet_on)))
  refine wpQuiet_nil ?_
  intro KK hKK
  refine step_store_row rfl 29 (.tmp 2) (.tmp 24) rfl w.heap.size V rfl rfl 29 _ (HR.out _ hs) HVS.out HV32.out HV1.out ?_
  refine hKK _ _ ⟨by rw [setRow_other _ _ _ _ (by have := HS1.out; omega)]; exact (HG1.out _ hs).1, below_setRow (HG1.out _ hs).2 (Nat.le_refl _) V⟩ ?_
  clear hKK KK
  try simp only [Act.put, List.setIfInBounds_toArray, List.set_cons_zero, List.set_cons_succ]
  refine wpSched_nil ?_
  dsimp only [opsAt, List.filterMap, List.getElem?_cons_zero, List.getElem?_cons_succ]
  refine wpQuiet_nil ?_
  go_wp2_with fail
  refine bodyPost_ret (v := .agg V) (results_cell_row rfl _ _ w.heap.size 29 V (0, 0) _ rfl (setRow_heap w5 w.heap.size _ V _ _ (HR.out _ hs)) Tryd.underlying29 rfl HVS.out) rfl ?_
  exact ⟨by rw [HV.out], below_setRow (HG1.out _ hs).2 (Nat.le_refl _) V⟩

theorem sum_any (a : Option Addr) (l : List UInt8) (cap : Nat) (w : World) (hb : BytesAt w a l) (hcap : a = none → cap = 0) (hlc : l.length ≤ cap) (hc : cap ≤ 9223372036854775807) (hk : KeysAt w) :
    Calls Tryd.prog 9 #[.slice a l.length cap] w fun e w' => e = .returned (.agg (bvs (sumL l)).toArray) ∧ Below w.heap.size w w' := by
  cases a with
  | none =>
    obtain rfl := hb.nil_of_none
    obtain rfl := hcap rfl
    exact sum_nil w hk
  | some ad => exact sum_some ad l cap w hb hlc hc hk
end Go.Proofs.YtkgclhkpncegnaaDoor
