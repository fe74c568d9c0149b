/-
  The walk of stamp.Put, at a Move.
-/
import Derived.Test.YtoaboehmjfnceaaStamps
import Derived.Test.YtoaboehmjfnceaaGood
namespace Go.Proofs.Ytoaboehmjfnceaa
open Go.RowKit

set_option maxRecDepth 100000 in
theorem wbytes_any (B R : Nat) (bs : List UInt8) (w : World) (h : Wrote B R bs w) :
    Calls Try.prog 44 #[.pointer (some ⟨R, 0, none⟩)] w fun e w' => (∃ v, e = .returned v ∧ w.ownsRow B 5 1 v bs.length (bvs bs)) ∧ w = w' := by
  obtain ⟨h0, v, h1, h2⟩ := h
  obtain ⟨a, c, rfl, _, _, _, _⟩ := BytesAt.row h2
  have c0 : w.cell? ⟨R, 0, none⟩ = some (.slice a bs.length c) := cell_of_block h1
  have H2 := Lib.hid h2
  clear h1 h2
  go_enter Try.func44, Try.ntmps44
  go_wp2
  go_ret
  exact ⟨⟨_, rfl, H2.out⟩, rfl⟩

theorem op_cells {w : World} {g : Nat} {k t r nt nr pt pr : Int} {s : ByteArray} {d : List UInt8} {ov : Value} (h : w.heap[g]? = some (.cells (opCells k t r nt nr pt pr s d ov) 33 (0, 0))) :
    w.cell? ⟨g, 0, none⟩ = some (.int .i64 k) ∧ w.cell? ⟨g, 1, none⟩ = some (.int .i64 t) ∧ w.cell? ⟨g, 2, none⟩ = some (.int .i64 r) ∧ w.cell? ⟨g, 3, none⟩ = some (.int .i64 nt) ∧ w.cell? ⟨g, 4, none⟩ = some (.int .i64 nr) ∧ w.cell? ⟨g, 5, none⟩ = some (.int .i64 pt) ∧ w.cell? ⟨g, 6, none⟩ = some (.int .i64 pr) ∧ w.cell? ⟨g, 7, none⟩ = some (.string s) := by
  simp only [cell_of_block h]
  exact ⟨rfl, rfl, rfl, rfl, rfl, rfl, rfl, rfl⟩

/-- The bytes of a Move. -/
def encMove (t r nt nr pt pr : Int) (s : ByteArray) : List UInt8 := encNums [1] ++ encStamps [(t, r), (nt, nr)] ++ encStamps [(pt, pr)] ++ encText s

set_option maxRecDepth 100000 in
set_option maxHeartbeats 2000000 in
theorem put_move (gb : Bool) (a : Option Addr) (l : List UInt8) (cap : Nat) (t r nt nr pt pr : Int) (s : ByteArray) (d : List UInt8) (ov : Value) (w : World) (hb : BytesAt w a l) (hn : a = none → cap = 0) (hd : d.length = 32) (hl : l.length + s.size ≤ 140737488354000)
    (hgood : ∀ W, Calls Try.prog 18 #[.agg (opCells 1 t r nt nr pt pr s d ov)] W fun e w' => e = .returned (.bool gb) ∧ Below W.heap.size W w') :
    Calls Try.prog 22 #[.slice a l.length cap, .agg (opCells 1 t r nt nr pt pr s d ov)] w fun e w' => ∃ v, e = .returned v ∧ w'.ownsRow w.heap.size 5 1 v (if gb then l ++ encMove t r nt nr pt pr s else l).length (bvs (if gb then l ++ encMove t r nt nr pt pr s else l)) ∧ Below w.heap.size w w' := by
  obtain ⟨X, hX⟩ : ∃ X, X = opCells 1 t r nt nr pt pr s d ov := ⟨_, rfl⟩
  obtain ⟨w1, hw1⟩ : ∃ w1, w1 = (w.alloc (.cells X 33)).alloc (.cells #[.slice none 0 0] 65) := ⟨_, rfl⟩
  have hXs : (Try.prog.info? 33).map (·.size) = some X.size := by rw [hX]; exact sizeOp _ _ _ _ _ _ _ _ _ _ hd
  have hg1 : w1.heap[w.heap.size]? = some (.cells X 33 (0, 0)) := by rw [hw1, heap_alloc_old _ _ (by simp), heap_alloc_eq _ _ _ rfl]
  have hR1 : w1.heap[w.heap.size + 1]? = some (.cells #[.slice none 0 0] 65 (0, 0)) := by rw [hw1, heap_alloc_eq _ _ _ (by simp)]
  have hb1 : Below w.heap.size w w1 := by rw [hw1]; exact ((Below.refl _ w).alloc (Nat.le_refl _) _).alloc (by simp) _
  have hWr : Wrote w.heap.size (w.heap.size + 1) [] w1 := ⟨by omega, _, hR1, ⟨by simp [bvs], .inl ⟨rfl, rfl⟩⟩⟩
  have hB1 := hb.later hb1
  have hz1 := lt_of_block hR1
  rw [← hX] at hgood
  have HX := Lib.hid hX
  have HXS := Lib.hid hXs
  have HG1 := Lib.hid hg1
  have HWR := Lib.hid hWr
  have HGD := Lib.hid hgood
  have HW1 := Lib.hid hw1
  rw [← hX]
  clear hX hXs hg1 hR1 hWr hgood hw1 hb hd
  go_enter Try.func22, Try.ntmps22
  go_upto_region 2 with (fail)
  change Code.wp _ _ _ _ ((w.alloc (.cells X 33)).alloc (.cells #[.slice none 0 0] 65))
  rw [← HW1.out]
  go_wp2_with fail
  refine (raw_any w.heap.size (w.heap.size + 1) [] a l cap w1 HWR.out hB1 hn (by simp; omega)).mono ?_
  rw [List.nil_append]
  rintro e w2 ⟨rfl, hw2, hk2⟩
  have HG2 := Lib.hid (hk2.other _ _ _ HG1.out (by omega) (by decide))
  have HWR2 := Lib.hid hw2
  clear hw2
  go_wp2_with (refine wpList_load_row rfl 33 (.tmp 3) rfl w.heap.size rfl 33 X (0, 0) _ HG2.out Try.underlying33 rfl HXS.out ?_)
  refine (HGD.out w2).mono ?_
  rintro e w3 ⟨rfl, hb3⟩
  have hz2 := hk2.below.size
  have hk3 := hk2.trans (Kept.of (by omega) hb3)
  have HG3 := Lib.hid (hk3.other _ _ _ HG1.out (by omega) (by decide))
  have HWR3 := Lib.hid (HWR2.out.later hb3)
  clear hk2 hb3 HG2 HWR2
  cases gb
  · go_wp2_with fail
    refine (wbytes_any _ _ _ _ HWR3.out).mono ?_
    rintro e w4 ⟨⟨v, rfl, hown⟩, rfl⟩
    go_wp2_with fail
    go_ret
    exact ⟨v, rfl, hown, hb1.trans hk3.below⟩
  · have hz3 := hk3.below.size
    obtain ⟨c0, c1, c2, c3, c4, c5, c6, c7⟩ := op_cells (show w3.heap[w.heap.size]? = some (.cells (opCells 1 t r nt nr pt pr s d ov) 33 (0, 0)) by rw [← HX.out]; exact HG3.out)
    go_wp2_with fail
    have hw3a : Below w3.heap.size w3 (w3.alloc (.cells #[.int .i64 1] 2)) := (Below.refl _ _).alloc (Nat.le_refl _) _
    refine (nums_any w.heap.size (w.heap.size + 1) w3.heap.size l [1] _ (HWR3.out.later hw3a) (heap_alloc_new w3 _) (by omega) (by simp; omega) (by simp; omega)).mono ?_
    rintro e w4 ⟨rfl, hw4, hk4⟩
    have hk4' := hk3.trans ((Kept.of (by omega) hw3a).trans hk4)
    have HG4 := Lib.hid (hk4'.other _ _ _ HG1.out (by omega) (by decide))
    have HWR4 := Lib.hid hw4
    have hz4 := hk4'.below.size
    clear hw4 hk4 hk3 hw3a HG3 HWR3 c0 c1 c2 c3 c4 c5 c6 c7
    obtain ⟨c0, c1, c2, c3, c4, c5, c6, c7⟩ := op_cells (show w4.heap[w.heap.size]? = some (.cells (opCells 1 t r nt nr pt pr s d ov) 33 (0, 0)) by rw [← HX.out]; exact HG4.out)
    have hw4a : Below w4.heap.size w4 (w4.alloc (.cells #[.int .i64 t, .int .i64 r, .int .i64 nt, .int .i64 nr] 23)) := (Below.refl _ _).alloc (Nat.le_refl _) _
    have hel : (l ++ encNums [1]).length ≤ l.length + 9 := by rw [List.length_append]; have := encNums_len [1]; simpa using this
    go_wp2_with fail
    refine (stamps_any w.heap.size (w.heap.size + 1) w4.heap.size (l ++ encNums [1]) [(t, r), (nt, nr)] 2 _ (HWR4.out.later hw4a) (heap_alloc_new w4 _) (by omega) (by simp; omega) (by simp at hel ⊢; omega)).mono ?_
    rintro e w5 ⟨rfl, hw5, hk5⟩
    have hk5' := hk4'.trans ((Kept.of (by omega) hw4a).trans hk5)
    have HG5 := Lib.hid (hk5'.other _ _ _ HG1.out (by omega) (by decide))
    have HWR5 := Lib.hid hw5
    have hz5 := hk5'.below.size
    clear hw5 hk5 hk4' hw4a HG4 HWR4 c0 c1 c2 c3 c4 c5 c6 c7
    obtain ⟨c0, c1, c2, c3, c4, c5, c6, c7⟩ := op_cells (show w5.heap[w.heap.size]? = some (.cells (opCells 1 t r nt nr pt pr s d ov) 33 (0, 0)) by rw [← HX.out]; exact HG5.out)
    have hw5a : Below w5.heap.size w5 (w5.alloc (.cells #[.int .i64 pt, .int .i64 pr] 23)) := (Below.refl _ _).alloc (Nat.le_refl _) _
    have hel2 : (l ++ encNums [1] ++ encStamps [(t, r), (nt, nr)]).length ≤ l.length + 45 := by rw [List.length_append]; have := encStamps_len [(t, r), (nt, nr)]; simp at this ⊢; simp at hel; omega
    go_wp2_with fail
    refine (stamps_any w.heap.size (w.heap.size + 1) w5.heap.size (l ++ encNums [1] ++ encStamps [(t, r), (nt, nr)]) [(pt, pr)] 1 _ (HWR5.out.later hw5a) (heap_alloc_new w5 _) (by omega) (by simp; omega) (by simp at hel2 ⊢; omega)).mono ?_
    rintro e w6 ⟨rfl, hw6, hk6⟩
    have hk6' := hk5'.trans ((Kept.of (by omega) hw5a).trans hk6)
    have HG6 := Lib.hid (hk6'.other _ _ _ HG1.out (by omega) (by decide))
    have HWR6 := Lib.hid hw6
    have hz6 := hk6'.below.size
    clear hw6 hk6 hk5' hw5a HG5 HWR5 c0 c1 c2 c3 c4 c5 c6 c7
    obtain ⟨c0, c1, c2, c3, c4, c5, c6, c7⟩ := op_cells (show w6.heap[w.heap.size]? = some (.cells (opCells 1 t r nt nr pt pr s d ov) 33 (0, 0)) by rw [← HX.out]; exact HG6.out)
    have hel3 : (l ++ encNums [1] ++ encStamps [(t, r), (nt, nr)] ++ encStamps [(pt, pr)]).length ≤ l.length + 63 := by rw [List.length_append]; have := encStamps_len [(pt, pr)]; simp at this ⊢; simp at hel2; omega
    go_wp2_with fail
    refine (wtext_any w.heap.size (w.heap.size + 1) (l ++ encNums [1] ++ encStamps [(t, r), (nt, nr)] ++ encStamps [(pt, pr)]) s _ HWR6.out (by omega) (by simp at hel3 ⊢; omega)).mono ?_
    rintro e w7 ⟨rfl, hw7, hk7⟩
    have hk7' := hk6'.trans hk7
    clear hk6' hk7 HG6 HWR6 c0 c1 c2 c3 c4 c5 c6 c7
    have HWR7 := Lib.hid hw7
    clear hw7
    go_wp2_with fail
    refine (wbytes_any _ _ _ _ HWR7.out).mono ?_
    rintro e w8 ⟨⟨v, rfl, hown⟩, rfl⟩
    have he : l ++ encNums [1] ++ encStamps [(t, r), (nt, nr)] ++ encStamps [(pt, pr)] ++ encText s = l ++ encMove t r nt nr pt pr s := by unfold encMove; simp
    rw [he] at hown
    go_wp2_with fail
    go_ret
    exact ⟨v, rfl, ownsRow_cast hown (by simp) rfl, hb1.trans hk7'.below⟩
end Go.Proofs.Ytoaboehmjfnceaa
