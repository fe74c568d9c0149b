/-
  The walks of the reference's GetStamp; its readers as plain functions.
-/
import Derived.Test.YtoaboehmjfnceaaRefB
import Derived.Test.YtoaboehmjfnceaaGetOp
namespace Go.Proofs.Ytoaboehmjfnceaa
open Go.RowKit
set_option linter.unusedSimpArgs false
set_option linter.unusedVariables false

/-- What a call of the reference's readers comes to: a value, and what is left. -/
def RefGot (w0 : World) (v : Value) (l : List UInt8) (f : Bool) (w : World) (e : Ending) (w' : World) : Prop :=
  Below w.heap.size w w' ∧ ∃ a c, e = .returned (.tuple #[v, .agg (inCells a l.length c f)]) ∧ InAt w0 a c l ∧ (f = true → l = [])
theorem inAt_nil (w : World) : InAt w none 0 [] := ⟨BytesAt.nil _ _, by simp, by simp⟩
theorem rnum_nil (most : Int) : rnum [] most = none := by
  unfold rnum firstS
  rw [if_pos (.inl rfl)]
theorem refnum_t (w0 : World) (a : Option Addr) (cap : Nat) (l : List UInt8) (f : Bool) (most : Int) (w : World) (hw0 : Below w0.heap.size w0 w) (hb : InAt w0 a cap l) (hf : f = true → l = []) :
    Calls Try.prog 60 #[.agg (inCells a l.length cap f), .int .i64 most] w (RefGot w0 (.int .i64 (numT l f most).1) (numT l f most).2.1 (numT l f most).2.2 w) := by
  refine (getnum_b w0 a cap l f most w hw0 hb hf).mono ?_
  rintro e w' ⟨hb', ⟨hn, rfl⟩ | ⟨N, l', a', c', hn, rfl, hin⟩⟩
  · unfold numT
    rw [hn]
    exact ⟨hb', none, 0, rfl, inAt_nil _, fun _ => rfl⟩
  · have hff : f = false := by
      cases f
      · rfl
      · rw [hf rfl, rnum_nil] at hn; cases hn
    unfold numT
    rw [hn, hff]
    exact ⟨hb', a', c', rfl, hin, fun h => by cases h⟩
theorem reftext_t (w0 : World) (a : Option Addr) (cap : Nat) (l : List UInt8) (f : Bool) (most : Int) (w : World) (hw0 : Below w0.heap.size w0 w) (hb : InAt w0 a cap l) (hf : f = true → l = []) :
    Calls Try.prog 62 #[.agg (inCells a l.length cap f), .int .i64 most] w (RefGot w0 (.string ⟨(textT l f most).1.toArray⟩) (textT l f most).2.1 (textT l f most).2.2 w) := by
  refine (gettext_b w0 a cap l f most w hw0 hb hf).mono ?_
  rintro e w' ⟨hb', ⟨hn, rfl⟩ | ⟨t, l', a', c', hn, rfl, hin⟩⟩
  · unfold textT
    rw [hn]
    exact ⟨hb', none, 0, rfl, inAt_nil _, fun _ => rfl⟩
  · have hff : f = false := by
      cases f
      · rfl
      · rw [hf rfl] at hn; unfold rtext at hn; rw [rnum_nil] at hn; cases hn
    unfold textT
    rw [hn, hff]
    exact ⟨hb', a', c', rfl, hin, fun h => by cases h⟩
theorem refid_t (w0 : World) (a : Option Addr) (cap : Nat) (l : List UInt8) (f : Bool) (w : World) (hw0 : Below w0.heap.size w0 w) (hb : InAt w0 a cap l) (hf : f = true → l = []) :
    Calls Try.prog 63 #[.agg (inCells a l.length cap f)] w (RefGot w0 (.agg (bvs (idT l f).1).toArray) (idT l f).2.1 (idT l f).2.2 w) := by
  refine (getid_b w0 a cap l f w hw0 hb hf).mono ?_
  rintro e w' ⟨hb', ⟨hn, rfl⟩ | ⟨a', c', hn, rfl, hin⟩⟩
  · unfold idT
    rw [if_neg (by omega)]
    exact ⟨hb', none, 0, rfl, inAt_nil _, fun _ => rfl⟩
  · have hff : f = false := by
      cases f
      · rfl
      · rw [hf rfl] at hn; simp at hn
    unfold idT
    rw [if_pos hn, hff]
    exact ⟨hb', a', c', rfl, hin, fun h => by cases h⟩

theorem two_rows {w : World} {g h : Nat} (hgh : g ≠ h) {T U : TypeId} {x0 x1 y0 y1 : Value} (x y u v : Value) (hg : w.heap[g]? = some (.cells #[x0, x1] T (0, 0))) (hh : w.heap[h]? = some (.cells #[y0, y1] U (0, 0))) :
    ((((w.setCell ⟨g, 0, none⟩ x).setCell ⟨g, 1, none⟩ y).setCell ⟨h, 0, none⟩ u).setCell ⟨h, 1, none⟩ v).heap[g]? = some (.cells #[x, y] T (0, 0)) ∧ ((((w.setCell ⟨g, 0, none⟩ x).setCell ⟨g, 1, none⟩ y).setCell ⟨h, 0, none⟩ u).setCell ⟨h, 1, none⟩ v).heap[h]? = some (.cells #[u, v] U (0, 0)) := by
  have e1 := heap_setCell_same w g 0 _ _ x hg
  have e2 := heap_setCell_same _ g 1 _ _ y e1
  have f1 : ((w.setCell ⟨g, 0, none⟩ x).setCell ⟨g, 1, none⟩ y).heap[h]? = some (.cells #[y0, y1] U (0, 0)) := by
    rw [Below.heap_setCell _ _ _ _ (Ne.symm hgh), Below.heap_setCell _ _ _ _ (Ne.symm hgh)]
    exact hh
  have f2 := heap_setCell_same _ h 0 _ _ u f1
  have f3 := heap_setCell_same _ h 1 _ _ v f2
  refine ⟨?_, f3⟩
  rw [Below.heap_setCell _ _ _ _ hgh, Below.heap_setCell _ _ _ _ hgh]
  exact e2

set_option maxRecDepth 100000 in
set_option maxHeartbeats 2000000 in
theorem refgetstamp_t (w0 : World) (a : Option Addr) (cap : Nat) (l : List UInt8) (f : Bool) (w : World) (hw0 : Below w0.heap.size w0 w) (hb : InAt w0 a cap l) (hf : f = true → l = []) :
    Calls Try.prog 61 #[.agg (inCells a l.length cap f)] w (RefGot w0 (.agg (stampCells (stampT l f).1.1 (stampT l f).1.2)) (stampT l f).2.1 (stampT l f).2.2 w) := by
  unfold stampT
  obtain ⟨w1, hw1⟩ : ∃ w1, w1 = ((w.alloc (.cells (inCells a l.length cap f) 46)).alloc (.cells (stampCells 0 0) 23)).alloc (.cells (inCells none 0 0 false) 46) := ⟨_, rfl⟩
  have hA : w1.heap[w.heap.size]? = some (.cells (inCells a l.length cap f) 46 (0, 0)) := by rw [hw1, heap_alloc_old _ _ (by simp <;> omega), heap_alloc_old _ _ (by simp), heap_alloc_eq _ _ _ rfl]
  have hS : w1.heap[w.heap.size + 1]? = some (.cells (stampCells 0 0) 23 (0, 0)) := by rw [hw1, heap_alloc_old _ _ (by simp), heap_alloc_eq _ _ _ (by simp)]
  have hI : w1.heap[w.heap.size + 2]? = some (.cells (inCells none 0 0 false) 46 (0, 0)) := by rw [hw1, heap_alloc_eq _ _ _ (by simp)]
  have hb1 : Below w.heap.size w w1 := by rw [hw1]; exact (((Below.refl _ w).alloc (Nat.le_refl _) _).alloc (by simp) _).alloc (by simp <;> omega) _
  have hc1 := refnum_t w0 a cap l f 1099511627776 w1 (hw0.trans (hb1.mono hw0.size)) hb hf
  have HW0 := Lib.hid (hw0.trans (hb1.mono hw0.size))
  obtain ⟨T, hT⟩ : ∃ a, a = numT l f 1099511627776 := ⟨_, rfl⟩
  rw [← hT] at hc1 ⊢
  obtain ⟨t, l1, f1⟩ := T
  have hc2 := fun a' c' W h0 h h2 => refnum_t w0 a' c' l1 f1 65536 W h0 h h2
  dsimp only at hc1 hc2 ⊢
  obtain ⟨b, hb2⟩ : ∃ b, b = numT l1 f1 65536 := ⟨_, rfl⟩
  rw [← hb2] at hc2 ⊢
  obtain ⟨r, l2, f2⟩ := b
  dsimp only at hc2 ⊢
  have HA := Lib.hid hA
  have HS := Lib.hid hS
  have HI := Lib.hid hI
  have HC1 := Lib.hid hc1
  have HC2 := Lib.hid hc2
  have HW1 := Lib.hid hw1
  have HB1 := Lib.hid hb1
  have hz1 := lt_of_block hI
  clear hA hS hI hc1 hc2 hw1 hT hb2 hb hf hb1 hw0
  unfold RefGot
  go_enter Try.func61, Try.ntmps61
  go_upto_region 1 with (fail)
  change Code.wp _ _ _ _ (((w.alloc (.cells (inCells a l.length cap f) 46)).alloc (.cells (stampCells 0 0) 23)).alloc (.cells (inCells none 0 0 false) 46))
  rw [← HW1.out]
  go_wp2_with (refine wpList_load_row rfl 46 (.tmp 1) rfl w.heap.size rfl 46 (inCells a l.length cap f) (0, 0) _ HA.out Try.underlying46 rfl (sizeIn _ _ _ _) ?_)
  refine HC1.out.mono ?_
  rintro e w2 ⟨hb2, a2, c2, rfl, hin2, hf2⟩
  obtain ⟨hn1, hn2⟩ := new_row w2 46 (inCells none 0 0 false) (inCells a2 l1.length c2 f1)
  obtain ⟨w3, hw3⟩ : ∃ w3, w3 = (w2.alloc (.cells (inCells none 0 0 false) 46)).setRow w2.heap.size (inCells a2 l1.length c2 f1) := ⟨_, rfl⟩
  rw [← hw3] at hn1 hn2
  have hnew : (w2.alloc (.cells (inCells none 0 0 false) 46)).heap[w2.heap.size]? = some (.cells (inCells none 0 0 false) 46 (0, 0)) := heap_alloc_new w2 _
  have HNW := Lib.hid hnew
  have HN1 := Lib.hid hn1
  have HIN3 := Lib.hid hin2
  have hz01 := HW0.out.size
  have HS13 := Lib.hid (hb2.trans (hn2.mono hb2.size))
  have HF2 := Lib.hid hf2
  have HW3 := Lib.hid hw3
  clear hn1 hn2 hw3 hnew hin2 hb2 hf2 HC1 HA HW1
  go_upto_region 2 with (refine wpList_store_row rfl 46 (.tmp 5) (.tmp 12) rfl w2.heap.size (inCells a2 l1.length c2 f1) rfl rfl 46 (inCells none 0 0 false) HNW.out (sizeIn _ _ _ _) rfl (oneIn _ _ _ _) ?_)
  change Code.wp _ _ _ _ ((w2.alloc (.cells (inCells none 0 0 false) 46)).setRow w2.heap.size (inCells a2 l1.length c2 f1))
  rw [← HW3.out]
  go_wp2_with (refine wpList_load_row rfl 46 (.tmp 5) rfl w2.heap.size rfl 46 (inCells a2 l1.length c2 f1) (0, 0) _ HN1.out Try.underlying46 rfl (sizeIn _ _ _ _) ?_)
  refine (HC2.out a2 c2 w3 (HW0.out.trans (HS13.out.mono HW0.out.size)) HIN3.out HF2.out).mono ?_
  rintro e w4 ⟨hb4, a4, c4, rfl, hin4, hf4⟩
  obtain ⟨hn1, hn2⟩ := new_row w4 46 (inCells none 0 0 false) (inCells a4 l2.length c4 f2)
  obtain ⟨w5, hw5⟩ : ∃ w5, w5 = (w4.alloc (.cells (inCells none 0 0 false) 46)).setRow w4.heap.size (inCells a4 l2.length c4 f2) := ⟨_, rfl⟩
  rw [← hw5] at hn1 hn2
  have hnew : (w4.alloc (.cells (inCells none 0 0 false) 46)).heap[w4.heap.size]? = some (.cells (inCells none 0 0 false) 46 (0, 0)) := heap_alloc_new w4 _
  have h14 := HS13.out.trans (hb4.mono HS13.out.size)
  have h15 := h14.trans (hn2.mono h14.size)
  have HNW4 := Lib.hid hnew
  have HN5 := Lib.hid (show ∀ W, Below w5.heap.size w5 W → W.heap[w4.heap.size]? = some (.cells (inCells a4 l2.length c4 f2) 46 (0, 0)) from fun W h => by rw [h.block _ (lt_of_block hn1)]; exact hn1)
  have HIN5 := Lib.hid hin4
  have HSS := Lib.hid (show ∀ W, Below w5.heap.size w5 W → W.heap[w.heap.size + 1]? = some (.cells (stampCells 0 0) 23 (0, 0)) ∧ W.heap[w.heap.size + 2]? = some (.cells (inCells none 0 0 false) 46 (0, 0)) from fun W h => by
    rw [h.block _ (by have := h15.size; omega), h.block _ (by have := h15.size; omega), h15.block _ (by omega), h15.block _ (by omega)]
    exact ⟨HS.out, HI.out⟩)
  have HF4 := Lib.hid hf4
  have H15 := Lib.hid h15
  have HS14 := Lib.hid h14
  have HW5 := Lib.hid hw5
  clear hn1 hn2 hw5 hnew hin4 hb4 hf4 h14 h15 HC2 HN1 HIN3 HS13 HF2 HW3 HNW HS HI
  go_upto_region 3 with (refine wpList_store_row rfl 46 (.tmp 7) (.tmp 17) rfl w4.heap.size (inCells a4 l2.length c4 f2) rfl rfl 46 (inCells none 0 0 false) HNW4.out (sizeIn _ _ _ _) rfl (oneIn _ _ _ _) ?_)
  change Code.wp _ _ _ _ ((w4.alloc (.cells (inCells none 0 0 false) 46)).setRow w4.heap.size (inCells a4 l2.length c4 f2))
  rw [← HW5.out]
  obtain ⟨n2, hn2⟩ : ∃ n, n = l2.length := ⟨_, rfl⟩
  have q0 := HN5.out w5 (Below.refl _ _)
  obtain ⟨g1, g2⟩ := HSS.out w5 (Below.refl _ _)
  rw [← hn2] at q0 ⊢
  have d0 : w5.cell? ⟨w4.heap.size, 0, none⟩ = some (.slice a4 n2 c4) := cell_of_block q0
  have d1 : w5.cell? ⟨w4.heap.size, 1, none⟩ = some (.bool f2) := cell_of_block q0
  have s0 : w5.cell? ⟨w.heap.size + 1, 0, none⟩ = some (.int .i64 0) := cell_of_block g1
  have s1 : w5.cell? ⟨w.heap.size + 1, 1, none⟩ = some (.int .i64 0) := cell_of_block g1
  have sf : ∀ j, w5.frozen? ⟨w.heap.size + 1, j, none⟩ = false := fun j => free_of_block g1
  have i0 : w5.cell? ⟨w.heap.size + 1 + 1, 0, none⟩ = some (.slice none 0 0) := cell_of_block g2
  have i1 : w5.cell? ⟨w.heap.size + 1 + 1, 1, none⟩ = some (.bool false) := cell_of_block g2
  have if_ : ∀ j, w5.frozen? ⟨w.heap.size + 1 + 1, j, none⟩ = false := fun j => free_of_block g2
  have hne1 : ¬ w4.heap.size = w.heap.size + 1 := by have := HS14.out.size; omega
  have hne2 : ¬ w4.heap.size = w.heap.size + 1 + 1 := by have := HS14.out.size; omega
  have hne3 : ¬ w.heap.size + 1 = w4.heap.size := by omega
  have hne4 : ¬ w.heap.size + 1 + 1 = w4.heap.size := by omega
  have Q0 := Lib.hid q0
  have G1 := Lib.hid g1
  have G2 := Lib.hid g2
  have HN2 := Lib.hid hn2
  clear q0 g1 g2 hn2 HNW4 HW5 HN5 HSS
  go_region
  all_goals
    obtain ⟨r1, r2⟩ := two_rows (g := w.heap.size + 1) (h := w.heap.size + 1 + 1) (by omega) (.int .i64 t) (.int .i64 r) (.slice a4 n2 c4) (.bool f2) G1.out G2.out
    have R1 := Lib.hid r1
    have R2 := Lib.hid r2
    clear r1 r2 d0 d1 s0 s1 sf i0 i1 if_ hne1 hne2 hne3 hne4
    go_wp2_with fail
    refine bodyPost_ret (v := .tuple #[.agg (stampCells t r), .agg (inCells a4 n2 c4 f2)]) (results_rows rfl _ _ (w.heap.size + 1) (w.heap.size + 1 + 1) 23 46 (stampCells t r) (inCells a4 n2 c4 f2) (0, 0) (0, 0) _ _ rfl R1.out rfl R2.out Try.underlying23 rfl (sizeStamp _ _) Try.underlying46 rfl (sizeIn _ _ _ _)) rfl ?_
    have h05 := HB1.out.trans (H15.out.mono HB1.out.size)
    exact ⟨((((h05.setCell (by show w.heap.size ≤ w.heap.size + 1; omega) _).setCell (by show w.heap.size ≤ w.heap.size + 1; omega) _).setCell (by show w.heap.size ≤ w.heap.size + 1 + 1; omega) _).setCell (by show w.heap.size ≤ w.heap.size + 1 + 1; omega) _).drew, a4, c4, by rw [← HN2.out], HIN5.out, HF4.out⟩
end Go.Proofs.Ytoaboehmjfnceaa
