/-
  The walks of code.Stamp and stamp.Get, where a Move is read.
-/
import Derived.Test.YtoaboehmjfnceaaPutMove
import Derived.Test.YtoaboehmjfnceaaInVal
namespace Go.Proofs.Ytoaboehmjfnceaa
open Go.RowKit
set_option linter.unusedSimpArgs false
set_option linter.unusedVariables false

def rstamp (l : List UInt8) : Option ((Nat × Nat) × List UInt8) :=
  match rnum l 1099511627776 with
  | none => none
  | some (t, l1) => match rnum l1 65536 with
    | none => none
    | some (r, l2) => some ((t, r), l2)
theorem rstamp_some {l l2 : List UInt8} {t r : Nat} (h : rstamp l = some ((t, r), l2)) : ∃ l1, rnum l 1099511627776 = some (t, l1) ∧ rnum l1 65536 = some (r, l2) := by
  unfold rstamp at h
  cases h1 : rnum l 1099511627776 with
  | none => rw [h1] at h; cases h
  | some p =>
    obtain ⟨t', l1⟩ := p
    rw [h1] at h
    simp only at h
    cases h2 : rnum l1 65536 with
    | none => rw [h2] at h; cases h
    | some q =>
      obtain ⟨r', l2'⟩ := q
      rw [h2] at h
      simp only [Option.some.injEq, Prod.mk.injEq] at h
      obtain ⟨⟨rfl, rfl⟩, rfl⟩ := h
      exact ⟨l1, rfl, h2⟩

set_option maxRecDepth 100000 in
set_option maxHeartbeats 400000 in
theorem cstamp_some (R Q : Nat) (l l2 : List UInt8) (f : Bool) (t r : Nat) (w : World) (h : Reads w R Q l f) (hn : rstamp l = some ((t, r), l2)) :
    Calls Try.prog 55 #[.pointer (some ⟨R, 0, none⟩)] w (ReadOn R Q (.agg (stampCells t r)) l2 f w) := by
  obtain ⟨l1, h1, h2⟩ := rstamp_some hn
  have hRlt := h.lt
  have hQlt := h.2.1
  have hb0 : Below w.heap.size w (w.alloc (.cells (stampCells 0 0) 23)) := (Below.refl _ w).alloc (Nat.le_refl _) _
  have hr0 := h.later hb0
  have hg0 : (w.alloc (.cells (stampCells 0 0) 23)).heap[w.heap.size]? = some (.cells (stampCells 0 0) 23 (0, 0)) := heap_alloc_new w _
  have hc1 := rnum_some R Q l f 1099511627776 t l1 _ hr0 h1
  have H2 := Lib.hid h2
  have HC1 := Lib.hid hc1
  have HG0 := Lib.hid hg0
  have HB0 := Lib.hid hb0
  clear h1 h2 hn hr0 hc1 hg0 hb0 h
  unfold ReadOn
  go_enter Try.func55, Try.ntmps55
  go_wp2_with fail
  refine HC1.out.mono ?_
  rintro e w1 ⟨rfl, hr1, hg1⟩
  go_wp2_with fail
  refine (rnum_some R Q l1 f 65536 r l2 w1 hr1 H2.out).mono ?_
  rintro e w2 ⟨rfl, hr2, hg2⟩
  have hg12 := grownBy_trans hg1 hg2
  have hgg : w2.heap[w.heap.size]? = some (.cells (stampCells 0 0) 23 (0, 0)) := by
    rw [hg12.block _ (lt_of_block HG0.out) (by intro e; injection e with e; omega)]
    exact HG0.out
  have c0 : w2.cell? ⟨w.heap.size, 0, none⟩ = some (.int .i64 0) := cell_of_block hgg
  have c1 : w2.cell? ⟨w.heap.size, 1, none⟩ = some (.int .i64 0) := cell_of_block hgg
  have f0 : ∀ j, w2.frozen? ⟨w.heap.size, j, none⟩ = false := fun j => free_of_block hgg
  have e1 := heap_setCell_same w2 w.heap.size 0 _ _ (.int .i64 (t : Int)) hgg
  have e2 := heap_setCell_same _ w.heap.size 1 _ _ (.int .i64 (r : Int)) e1
  have E2 := Lib.hid e2
  have HR2 := Lib.hid hr2
  have HG12 := Lib.hid hg12
  clear e1 e2 hgg hr1 hg1 hg2 hg12 hr2
  go_wp2_with fail
  refine bodyPost_ret (v := .agg (stampCells t r)) (results_cell_row rfl _ _ w.heap.size 23 _ (0, 0) _ rfl E2.out Try.underlying23 rfl (sizeStamp t r)) rfl ?_
  have hs2 : w2.grownBy ((w2.setCell ⟨w.heap.size, 0, none⟩ (.int .i64 (t : Int))).setCell ⟨w.heap.size, 1, none⟩ (.int .i64 (r : Int))) (some w.heap.size) := grownBy_trans (grownBy_setCell _ _ _ _) (grownBy_setCell _ _ _ _)
  refine ⟨rfl, HR2.out.other hs2 (by omega) (by omega), ?_⟩
  have hb := HB0.out
  have hk := HG12.out
  refine ⟨(hs2.os.trans hk.os).trans hb.os, (hs2.tape.trans hk.tape).trans hb.tape, (hs2.output.trans hk.output).trans hb.output, Nat.le_trans (Nat.le_trans hb.size hk.size) hs2.size, fun i hi hiR => ?_⟩
  rw [hs2.block i (by have := hb.size; have := hk.size; omega) (by intro e; injection e with e; omega), hk.block i (by have := hb.size; omega) hiR, hb.block i hi]

/-- An operation of noughts, as the model writes it. -/
def zopLit : Array Value := #[.int .i64 0, .int .i64 0, .int .i64 0, .int .i64 0, .int .i64 0, .int .i64 0, .int .i64 0, .string ⟨#[]⟩, .int .u8 0, .int .u8 0, .int .u8 0, .int .u8 0, .int .u8 0, .int .u8 0, .int .u8 0, .int .u8 0, .int .u8 0, .int .u8 0, .int .u8 0, .int .u8 0, .int .u8 0, .int .u8 0, .int .u8 0, .int .u8 0, .int .u8 0, .int .u8 0, .int .u8 0, .int .u8 0, .int .u8 0, .int .u8 0, .int .u8 0, .int .u8 0, .int .u8 0, .int .u8 0, .int .u8 0, .int .u8 0, .int .u8 0, .int .u8 0, .int .u8 0, .int .u8 0, .slice none 0 0]
def zopObj : Obj := .cells zopLit 33
theorem zopLit_eq : zopLit = opCells 0 0 0 0 0 0 0 ⟨#[]⟩ id0 (.slice none 0 0) := by kernel_rfl
theorem one_stamp_lit (t r : Int) : (#[.int .i64 t, .int .i64 r] : Array Value) = stampCells t r := rfl

/-- All but the reader's block and the new ones is as it was in w1, the new operation's block g apart. -/
structure GetOn (w1 : World) (R g : Nat) (w' : World) : Prop where
  os : w'.os = w1.os
  tape : w'.tape = w1.tape
  output : w'.output = w1.output
  size : w1.heap.size ≤ w'.heap.size
  block : ∀ k, k < w1.heap.size → k ≠ R → k ≠ g → w'.heap[k]? = w1.heap[k]?
theorem GetOn.refl (w1 : World) (R g : Nat) : GetOn w1 R g w1 := ⟨rfl, rfl, rfl, Nat.le_refl _, fun _ _ _ _ => rfl⟩
theorem GetOn.reader {w1 w w' : World} {R g : Nat} (h : GetOn w1 R g w) (hg : w.grownBy w' (some R)) : GetOn w1 R g w' :=
  ⟨hg.os.trans h.os, hg.tape.trans h.tape, hg.output.trans h.output, Nat.le_trans h.size hg.size, fun k h1 h2 h3 => (hg.block k (Nat.lt_of_lt_of_le h1 h.size) (by intro e; injection e with e; exact h2 e)).trans (h.block k h1 h2 h3)⟩
theorem GetOn.own {w1 w w' : World} {R g : Nat} (h : GetOn w1 R g w) (hg : w.grownBy w' (some g)) : GetOn w1 R g w' :=
  ⟨hg.os.trans h.os, hg.tape.trans h.tape, hg.output.trans h.output, Nat.le_trans h.size hg.size, fun k h1 h2 h3 => (hg.block k (Nat.lt_of_lt_of_le h1 h.size) (by intro e; injection e with e; exact h3 e)).trans (h.block k h1 h2 h3)⟩
theorem GetOn.later {w1 w w' : World} {R g : Nat} (h : GetOn w1 R g w) (hb : Below w.heap.size w w') : GetOn w1 R g w' :=
  ⟨hb.os.trans h.os, hb.tape.trans h.tape, hb.output.trans h.output, Nat.le_trans h.size hb.size, fun k h1 h2 h3 => (hb.block k (Nat.lt_of_lt_of_le h1 h.size)).trans (h.block k h1 h2 h3)⟩

set_option maxRecDepth 100000 in
set_option maxHeartbeats 2000000 in
theorem get_move (R Q : Nat) (l l1 l2 l3 l4 l5 : List UInt8) (t r nt nr pt pr : Nat) (z : List UInt8) (w : World) (h : Reads w R Q l false)
    (h1 : rnum l 2 = some (1, l1)) (h2 : rstamp l1 = some ((t, r), l2)) (h3 : rstamp l2 = some ((nt, nr), l3)) (h4 : rstamp l3 = some ((pt, pr), l4)) (h5 : rtext l4 60 = some (z, l5))
    (hgood : ∀ W, Calls Try.prog 18 #[.agg (opCells 1 t r nt nr pt pr ⟨z.toArray⟩ id0 (.slice none 0 0))] W fun e w' => e = .returned (.bool true) ∧ Below W.heap.size W w') :
    Calls Try.prog 27 #[.pointer (some ⟨R, 0, none⟩)] w (ReadOn R Q (.agg (opCells 1 t r nt nr pt pr ⟨z.toArray⟩ id0 (.slice none 0 0))) l5 false w) := by
  have hRlt := h.lt
  have hQlt := h.2.1
  obtain ⟨w1, hw1⟩ : ∃ w1, w1 = (w.alloc zopObj).alloc zopObj := ⟨_, rfl⟩
  have hb1 : Below w.heap.size w w1 := by rw [hw1]; exact ((Below.refl _ w).alloc (Nat.le_refl _) _).alloc (by simp) _
  have hA1 : w1.heap[w.heap.size]? = some (.cells zopLit 33 (0, 0)) := by rw [hw1, heap_alloc_old _ _ (by simp), heap_alloc_eq _ _ _ rfl]; rfl
  have hB1 : w1.heap[w.heap.size + 1]? = some (.cells (opCells 0 0 0 0 0 0 0 ⟨#[]⟩ id0 (.slice none 0 0)) 33 (0, 0)) := by rw [hw1, heap_alloc_eq _ _ _ (by simp), ← zopLit_eq]; rfl
  have hr1 := h.later hb1
  have hz1 := lt_of_block hB1
  have H1 := Lib.hid h1
  have H2 := Lib.hid h2
  have H3 := Lib.hid h3
  have H4 := Lib.hid h4
  have H5 := Lib.hid h5
  have HGD := Lib.hid hgood
  have HA1 := Lib.hid hA1
  have HB1 := Lib.hid hB1
  have HR1 := Lib.hid hr1
  have HW1 := Lib.hid hw1
  have HBB := Lib.hid hb1
  clear h1 h2 h3 h4 h5 hgood hA1 hB1 hr1 hw1 hb1 h
  unfold ReadOn
  go_enter Try.func27, Try.ntmps27
  go_upto_region 2 with (fail)
  change Code.wp _ _ _ _ ((w.alloc zopObj).alloc zopObj)
  rw [← HW1.out]
  have HO0 := Lib.hid (GetOn.refl w1 R (w.heap.size + 1))
  go_wp2_with fail
  refine (rnum_some R Q l false 2 1 l1 w1 HR1.out H1.out).mono ?_
  rintro e w2 ⟨rfl, hr, hg⟩
  have hB : w2.heap[w.heap.size + 1]? = some (.cells (opCells 0 0 0 0 0 0 0 ⟨#[]⟩ id0 (.slice none 0 0)) 33 (0, 0)) := by
    rw [hg.block _ (lt_of_block HB1.out) (by intro e; injection e with e; omega)]
    exact HB1.out
  have c0 := cell_of_block (i := 0) hB
  have f0 : ∀ j, w2.frozen? ⟨w.heap.size + 1, j, none⟩ = false := fun j => free_of_block hB
  have e0 := heap_setCell_same _ (w.heap.size + 1) 0 _ _ (.int .i64 1) hB
  have hgs : w2.grownBy (w2.setCell ⟨w.heap.size + 1, 0, none⟩ (.int .i64 1)) (some (w.heap.size + 1)) := grownBy_setCell _ _ _ _
  have HB2 := Lib.hid (show (w2.setCell ⟨w.heap.size + 1, 0, none⟩ (.int .i64 1)).heap[w.heap.size + 1]? = some (.cells (opCells 1 0 0 0 0 0 0 ⟨#[]⟩ id0 (.slice none 0 0)) 33 (0, 0)) from e0)
  have HR2 := Lib.hid (hr.other hgs (by omega) (by omega))
  have HO2 := Lib.hid ((HO0.out.reader hg).own hgs)
  clear hr hg hB hgs e0
  simp only [opCells, List.getElem?_toArray, List.cons_append, List.getElem?_cons_zero, List.getElem?_cons_succ] at c0
  go_wp2_with fail
  clear c0 f0
  refine ((show Calls Try.prog 55 #[.pointer (some ⟨R, 0, none⟩)] _ (ReadOn R Q (.agg #[.int .i64 (t : Int), .int .i64 (r : Int)]) l2 false _) from cstamp_some R Q l1 l2 false t r _ HR2.out H2.out)).mono ?_
  rintro e w3 ⟨rfl, hr, hg⟩
  have hB : w3.heap[w.heap.size + 1]? = some (.cells (opCells 1 0 0 0 0 0 0 ⟨#[]⟩ id0 (.slice none 0 0)) 33 (0, 0)) := by
    rw [hg.block _ (lt_of_block HB2.out) (by intro e; injection e with e; omega)]
    exact HB2.out
  have c0 := cell_of_block (i := 1) hB
  have c1 := cell_of_block (i := 2) hB
  have f0 : ∀ j, w3.frozen? ⟨w.heap.size + 1, j, none⟩ = false := fun j => free_of_block hB
  have e0 := heap_setCell_same _ (w.heap.size + 1) 1 _ _ (.int .i64 (t : Int)) hB
  have e1 := heap_setCell_same _ (w.heap.size + 1) 2 _ _ (.int .i64 (r : Int)) e0
  have hgs : w3.grownBy ((w3.setCell ⟨w.heap.size + 1, 1, none⟩ (.int .i64 (t : Int))).setCell ⟨w.heap.size + 1, 2, none⟩ (.int .i64 (r : Int))) (some (w.heap.size + 1)) := grownBy_trans (grownBy_setCell _ _ _ _) (grownBy_setCell _ _ _ _)
  have HB3 := Lib.hid (show ((w3.setCell ⟨w.heap.size + 1, 1, none⟩ (.int .i64 (t : Int))).setCell ⟨w.heap.size + 1, 2, none⟩ (.int .i64 (r : Int))).heap[w.heap.size + 1]? = some (.cells (opCells 1 t r 0 0 0 0 ⟨#[]⟩ id0 (.slice none 0 0)) 33 (0, 0)) from e1)
  have HR3 := Lib.hid (hr.other hgs (by omega) (by omega))
  have HO3 := Lib.hid ((HO2.out.reader hg).own hgs)
  clear hr hg hB hgs e0 e1
  simp only [opCells, List.getElem?_toArray, List.cons_append, List.getElem?_cons_zero, List.getElem?_cons_succ] at c0 c1
  clear HR1 HB1 HO0 HR2 HB2 HO2
  go_wp2_with fail
  clear c0 c1 f0
  refine ((show Calls Try.prog 55 #[.pointer (some ⟨R, 0, none⟩)] _ (ReadOn R Q (.agg #[.int .i64 (nt : Int), .int .i64 (nr : Int)]) l3 false _) from cstamp_some R Q l2 l3 false nt nr _ HR3.out H3.out)).mono ?_
  rintro e w4 ⟨rfl, hr, hg⟩
  have hB : w4.heap[w.heap.size + 1]? = some (.cells (opCells 1 t r 0 0 0 0 ⟨#[]⟩ id0 (.slice none 0 0)) 33 (0, 0)) := by
    rw [hg.block _ (lt_of_block HB3.out) (by intro e; injection e with e; omega)]
    exact HB3.out
  have c0 := cell_of_block (i := 3) hB
  have c1 := cell_of_block (i := 4) hB
  have f0 : ∀ j, w4.frozen? ⟨w.heap.size + 1, j, none⟩ = false := fun j => free_of_block hB
  have e0 := heap_setCell_same _ (w.heap.size + 1) 3 _ _ (.int .i64 (nt : Int)) hB
  have e1 := heap_setCell_same _ (w.heap.size + 1) 4 _ _ (.int .i64 (nr : Int)) e0
  have hgs : w4.grownBy ((w4.setCell ⟨w.heap.size + 1, 3, none⟩ (.int .i64 (nt : Int))).setCell ⟨w.heap.size + 1, 4, none⟩ (.int .i64 (nr : Int))) (some (w.heap.size + 1)) := grownBy_trans (grownBy_setCell _ _ _ _) (grownBy_setCell _ _ _ _)
  have HB4 := Lib.hid (show ((w4.setCell ⟨w.heap.size + 1, 3, none⟩ (.int .i64 (nt : Int))).setCell ⟨w.heap.size + 1, 4, none⟩ (.int .i64 (nr : Int))).heap[w.heap.size + 1]? = some (.cells (opCells 1 t r nt nr 0 0 ⟨#[]⟩ id0 (.slice none 0 0)) 33 (0, 0)) from e1)
  have HR4 := Lib.hid (hr.other hgs (by omega) (by omega))
  have HO4 := Lib.hid ((HO3.out.reader hg).own hgs)
  clear hr hg hB hgs e0 e1
  simp only [opCells, List.getElem?_toArray, List.cons_append, List.getElem?_cons_zero, List.getElem?_cons_succ] at c0 c1
  have ck := cell_of_block (i := 0) HB4.out
  simp only [opCells, List.getElem?_toArray, List.cons_append, List.getElem?_cons_zero, List.getElem?_cons_succ] at ck
  go_wp2_with fail
  clear c0 c1 f0 ck
  refine ((show Calls Try.prog 55 #[.pointer (some ⟨R, 0, none⟩)] _ (ReadOn R Q (.agg #[.int .i64 (pt : Int), .int .i64 (pr : Int)]) l4 false _) from cstamp_some R Q l3 l4 false pt pr _ HR4.out H4.out)).mono ?_
  rintro e w5 ⟨rfl, hr, hg⟩
  have hB : w5.heap[w.heap.size + 1]? = some (.cells (opCells 1 t r nt nr 0 0 ⟨#[]⟩ id0 (.slice none 0 0)) 33 (0, 0)) := by
    rw [hg.block _ (lt_of_block HB4.out) (by intro e; injection e with e; omega)]
    exact HB4.out
  have c0 := cell_of_block (i := 5) hB
  have c1 := cell_of_block (i := 6) hB
  have f0 : ∀ j, w5.frozen? ⟨w.heap.size + 1, j, none⟩ = false := fun j => free_of_block hB
  have e0 := heap_setCell_same _ (w.heap.size + 1) 5 _ _ (.int .i64 (pt : Int)) hB
  have e1 := heap_setCell_same _ (w.heap.size + 1) 6 _ _ (.int .i64 (pr : Int)) e0
  have hgs : w5.grownBy ((w5.setCell ⟨w.heap.size + 1, 5, none⟩ (.int .i64 (pt : Int))).setCell ⟨w.heap.size + 1, 6, none⟩ (.int .i64 (pr : Int))) (some (w.heap.size + 1)) := grownBy_trans (grownBy_setCell _ _ _ _) (grownBy_setCell _ _ _ _)
  have HB5 := Lib.hid (show ((w5.setCell ⟨w.heap.size + 1, 5, none⟩ (.int .i64 (pt : Int))).setCell ⟨w.heap.size + 1, 6, none⟩ (.int .i64 (pr : Int))).heap[w.heap.size + 1]? = some (.cells (opCells 1 t r nt nr pt pr ⟨#[]⟩ id0 (.slice none 0 0)) 33 (0, 0)) from e1)
  have HR5 := Lib.hid (hr.other hgs (by omega) (by omega))
  have HO5 := Lib.hid ((HO4.out.reader hg).own hgs)
  clear hr hg hB hgs e0 e1
  simp only [opCells, List.getElem?_toArray, List.cons_append, List.getElem?_cons_zero, List.getElem?_cons_succ] at c0 c1
  go_wp2_with fail
  clear c0 c1 f0
  refine (rtext_some R Q l4 false 60 z l5 _ HR5.out H5.out).mono ?_
  rintro e w6 ⟨rfl, hr, hg⟩
  have hB : w6.heap[w.heap.size + 1]? = some (.cells (opCells 1 t r nt nr pt pr ⟨#[]⟩ id0 (.slice none 0 0)) 33 (0, 0)) := by
    rw [hg.block _ (lt_of_block HB5.out) (by intro e; injection e with e; omega)]
    exact HB5.out
  have c0 := cell_of_block (i := 7) hB
  have f0 : ∀ j, w6.frozen? ⟨w.heap.size + 1, j, none⟩ = false := fun j => free_of_block hB
  have e0 := heap_setCell_same _ (w.heap.size + 1) 7 _ _ (.string ⟨z.toArray⟩) hB
  have hgs : w6.grownBy (w6.setCell ⟨w.heap.size + 1, 7, none⟩ (.string ⟨z.toArray⟩)) (some (w.heap.size + 1)) := grownBy_setCell _ _ _ _
  have HB6 := Lib.hid (show (w6.setCell ⟨w.heap.size + 1, 7, none⟩ (.string ⟨z.toArray⟩)).heap[w.heap.size + 1]? = some (.cells (opCells 1 t r nt nr pt pr ⟨z.toArray⟩ id0 (.slice none 0 0)) 33 (0, 0)) from e0)
  have HR6 := Lib.hid (hr.other hgs (by omega) (by omega))
  have HO6 := Lib.hid ((HO5.out.reader hg).own hgs)
  clear hr hg hB hgs e0
  simp only [opCells, List.getElem?_toArray, List.cons_append, List.getElem?_cons_zero, List.getElem?_cons_succ] at c0
  go_wp2_with fail
  clear c0 f0 HR3 HR4 HR5 HB3 HB4 HB5 HO3 HO4 HO5
  obtain ⟨Y, hY⟩ : ∃ Y, Y = opCells 1 t r nt nr pt pr ⟨z.toArray⟩ id0 (.slice none 0 0) := ⟨_, rfl⟩
  have hYs : (Try.prog.info? 33).map (·.size) = some Y.size := by rw [hY]; exact sizeOp _ _ _ _ _ _ _ _ _ _ rfl
  have hY1 : Y.all (·.oneCell') = true := by
    rw [hY]
    simp only [opCells, List.all_toArray, List.all_append, List.all_cons, List.all_nil, Value.oneCell', Bool.and_true, Bool.true_and]
    rfl
  have hZs : zopLit.size = Y.size := by rw [hY]; rfl
  have hgd := HGD.out
  have hB6 := HB6.out
  rw [← hY] at hgd hB6
  have HGY := Lib.hid hgd
  have HYS := Lib.hid hYs
  have HY1 := Lib.hid hY1
  have HZS := Lib.hid hZs
  have HBY := Lib.hid hB6
  have HY := Lib.hid hY
  clear hgd hYs hY1 hZs hB6 hY HB6 HGD
  refine (good_any R Q l5 false _ HR6.out).mono ?_
  rintro e w7 ⟨rfl, rfl⟩
  go_wp2_with (refine wpList_load_row_guarded rfl 33 (.tmp 3) rfl (w.heap.size + 1) rfl 33 Y (0, 0) _ HBY.out Try.underlying33 rfl HYS.out ?_)
  refine (HGY.out _).mono ?_
  rintro e w7 ⟨rfl, hb7⟩
  have hB7 : w7.heap[w.heap.size + 1]? = some (.cells Y 33 (0, 0)) := by rw [hb7.block _ (lt_of_block HBY.out)]; exact HBY.out
  have hon7 := HO6.out.later hb7
  have hA7 : w7.heap[w.heap.size]? = some (.cells zopLit 33 (0, 0)) := by rw [hon7.block _ (lt_of_block HA1.out) (by omega) (by omega)]; exact HA1.out
  have HB7 := Lib.hid hB7
  have HA7 := Lib.hid hA7
  have HR7 := Lib.hid (HR6.out.later hb7)
  have HON := Lib.hid hon7
  clear hB7 hA7 hon7 hb7 HR6 HBY HO6
  go_wp2_with (first | (refine wpList_load_row rfl 33 (.tmp 3) rfl (w.heap.size + 1) rfl 33 Y (0, 0) _ HB7.out Try.underlying33 rfl HYS.out ?_) | (refine wpList_store_row rfl 33 (.tmp 2) (.tmp 42) rfl w.heap.size Y rfl rfl 33 zopLit HA7.out HYS.out HZS.out HY1.out ?_))
  refine bodyPost_ret (v := .agg Y) (results_cell_row rfl _ _ w.heap.size 33 Y (0, 0) _ rfl (setRow_heap w7 w.heap.size _ Y _ _ HA7.out) Try.underlying33 rfl HYS.out) rfl ?_
  have hgs : w7.grownBy (w7.setRow w.heap.size Y) (some w.heap.size) := ⟨rfl, rfl, rfl, by simp, fun k _ hk => setRow_other w7 w.heap.size k _ (fun e => hk (by rw [e]))⟩
  have hon := HON.out
  have hbb := HBB.out
  refine ⟨by rw [HY.out], HR7.out.other hgs (by omega) (by omega), (hgs.os.trans hon.os).trans hbb.os, (hgs.tape.trans hon.tape).trans hbb.tape, (hgs.output.trans hon.output).trans hbb.output, Nat.le_trans (Nat.le_trans hbb.size hon.size) hgs.size, fun k hk hkR => ?_⟩
  rw [hgs.block k (by have := hbb.size; have := hon.size; omega) (by intro e; injection e with e; omega), hon.block k (by have := hbb.size; omega) (fun e => hkR (by rw [e])) (by omega), hbb.block k hk]
end Go.Proofs.Ytoaboehmjfnceaa
