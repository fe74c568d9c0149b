/-
  The walk of the reference's Apply.
-/
import Derived.Test.YtpdoiodgdhlecaaDApply
import Derived.Test.YtpdoiodgdhlecaaGetNum
import Derived.Test.YtpdoiodgdhlecaaJoin
namespace Go.Proofs.Ytpdoiodgdhlecaa
open Go.RowKit
set_option linter.unusedSimpArgs false
set_option linter.unusedVariables false

theorem wpList_store_row_then {P : Program} {ops : Array Oper} {rest : List Oper} {o : Oper} {a : Act} {w : World} {Q : Exit → Act → World → Prop} (hgd : o.guard = none) (ty : TypeId) (x y : Operand) (ho : o.op = .store ty x y)
    (g : Nat) (cells : Array Value) (hx : a.eval x = .pointer (some ⟨g, 0, none⟩)) (hy : a.eval y = .agg cells)
    (t : TypeId) (old : Array Value) (hg : w.heap[g]? = some (.cells old t (0, 0))) (hi : (P.info? ty).map (·.size) = some cells.size)
    (hold : old.size = cells.size) (h1 : cells.all (·.oneCell') = true)
    (h : Hid (wpList P ops Q rest (a.put o.dst undef) (w.setRow g cells))) : wpList P ops Q (o :: rest) a w :=
  wpList_store_row hgd ty x y ho g cells hx hy t old hg hi hold h1 h.out
/-- The world behind 'n, y := ..': a new block, that holds the reader. -/
theorem new_row (w : World) (T : TypeId) (O X : Array Value) : ((w.alloc (.cells O T)).setRow w.heap.size X).heap[w.heap.size]? = some (.cells X T (0, 0)) ∧ Below w.heap.size w ((w.alloc (.cells O T)).setRow w.heap.size X) :=
  ⟨setRow_heap _ w.heap.size _ X _ _ (heap_alloc_new w _), below_grownBy (Nat.le_refl _) ((Below.refl _ w).alloc (Nat.le_refl _) _) ⟨rfl, rfl, rfl, by simp, fun k _ hk => setRow_other _ w.heap.size k _ (fun e => hk (by rw [e]))⟩ (Nat.le_refl _)⟩
theorem BytesAt.grown' {w w' : World} {a : Option Addr} {l : List UInt8} {R : Nat} {cs : Array Value} {T : TypeId} (h : BytesAt w a l) (hg : w.grownBy w' (some R)) (hR : w.heap[R]? = some (.cells cs T (0, 0))) (hno : ∀ (i : Nat) (n : Int), cs[i]? ≠ some (Value.int .u8 n)) : BytesAt w' a l := by
  intro i hi
  obtain ⟨b, off, ha, hc⟩ := h i hi
  refine ⟨b, off, ha, hg.cell hc ?_⟩
  intro e
  injection e with e
  simp only at e
  subst e
  rw [cell_of_block hR] at hc
  exact hno _ _ hc
theorem in_no_byte (a : Option Addr) (n c : Nat) (f : Bool) : ∀ (i : Nat) (k : Int), (inCells a n c f)[i]? ≠ some (Value.int .u8 k) := by
  intro i k h
  match i, h with
  | 0, h => simp [inCells] at h
  | 1, h => simp [inCells] at h
  | i + 2, h => simp [inCells] at h
theorem grownBy_setRow (w : World) (g : Nat) (X : Array Value) : w.grownBy (w.setRow g X) (some g) := ⟨rfl, rfl, rfl, by simp, fun k _ hk => setRow_other _ g k _ (fun e => hk (by rw [e]))⟩
/-- The length of the bytes that a reader's block has left. -/
def leftOf (w : World) (G : Nat) : Nat := match w.cell? ⟨G, 0, none⟩ with
  | some v => lenOf v
  | none => 0
/-- The reference's loop: what has come out, and the reader in block G. -/
structure RefD (base : List UInt8) (R : Int ⊕ List UInt8) (G : Nat) (w : World) (s : Value) (out D : List UInt8) (a3 : Option Addr) (c3 : Nat) (wx : World) : Prop where
  row : ∃ a2 c2, s = .slice a2 out.length c2 ∧ BytesAt wx a2 out ∧ out.length ≤ c2 ∧ c2 ≤ 9223372036854775807
  most : out.length ≤ 1048576
  block : wx.heap[G]? = some (.cells (inCells a3 D.length c3 false) 44 (0, 0))
  rest : InAt wx a3 c3 D
  stands : Stands base R out D
  below : Below w.heap.size w wx

set_option maxRecDepth 100000 in
set_option maxHeartbeats 4000000 in
theorem refapply_any (a1 : Option Addr) (base : List UInt8) (c1 : Nat) (a : Option Addr) (D : List UInt8) (cap : Nat) (w : World) (hb1 : BytesAt w a1 base) (hn1 : a1 = none → c1 = 0) (hl1 : base.length ≤ c1) (hc1 : c1 ≤ 9223372036854775807) (hb : BytesAt w a D) (hl : D.length ≤ cap) (hc : cap ≤ 9223372036854775807) :
    Calls Try.prog 11 #[.slice a1 base.length c1, .slice a D.length cap] w (DApplied base D w) := by
  have hnum := getnum_any a cap D false 1048576 w ⟨hb, hl, hc⟩ (by simp)
  have HB1 := Lib.hid hb1
  have HN1 := Lib.hid hn1
  have HNUM := Lib.hid hnum
  clear hb1 hn1 hb hnum
  go_enter Try.func11, Try.ntmps11
  go_wp2_with fail
  refine HNUM.out.mono ?_
  clear HNUM
  unfold GotNum
  rintro e w1 ⟨hw1, ⟨hd, rfl⟩ | ⟨t, l', a', c', hd, rfl, hin⟩⟩
  · have HD := Lib.hid hd
    clear hd
    have hh : (w1.alloc (.cells (inCells none 0 0 false) 44)).heap[w1.heap.size]? = some (.cells (inCells none 0 0 false) 44 (0, 0)) := heap_alloc_new w1 _
    have HH := Lib.hid hh
    clear hh
    go_wp2_with (refine wpList_store_row_then rfl 44 (.tmp 7) (.tmp 19) rfl w1.heap.size (inCells none 0 0 true) rfl rfl 44 (inCells none 0 0 false) HH.out (sizeIn _ _ _ _) rfl (oneIn _ _ _ _) ?_)
    refine Lib.hid ?_
    change wpList _ _ _ _ _ ((w1.alloc (.cells (inCells none 0 0 false) 44)).setRow w1.heap.size (inCells none 0 0 true))
    obtain ⟨n1, n2⟩ := new_row w1 44 (inCells none 0 0 false) (inCells none 0 0 true)
    obtain ⟨w2, hnew⟩ : ∃ x, x = (w1.alloc (.cells (inCells none 0 0 false) 44)).setRow w1.heap.size (inCells none 0 0 true) := ⟨_, rfl⟩
    rw [← hnew] at n1 n2 ⊢
    clear hnew HH
    have k1 : w2.cell? ⟨w1.heap.size, 1, none⟩ = some (.bool true) := cell_of_block n1
    clear n1
    go_wp2_with fail
    go_ret2
    exact .err (hw1.trans (n2.mono hw1.size)) (applyD_none HD.out)
  · obtain ⟨R, hR⟩ : ∃ R, stepsD base (l'.length + 1) [] l' = R := ⟨_, rfl⟩
    have hap : applyD base D = endD t R := by rw [← hR]; exact applyD_some hd
    have hst : Stands base R [] l' := by rw [← hR]; exact Stands.start _ _
    have ht := (rnum_cut_some D _ t l' hd).2.2.2.2
    have HAP := Lib.hid hap
    have HST := Lib.hid hst
    have HIN := Lib.hid hin
    have HW1 := Lib.hid hw1
    obtain ⟨n', hn'⟩ : ∃ n', n' = l'.length := ⟨_, rfl⟩
    rw [← hn']
    have HNE := Lib.hid hn'
    clear hap hst hin hd hR hw1 hn'
    have hh : (w1.alloc (.cells (inCells none 0 0 false) 44)).heap[w1.heap.size]? = some (.cells (inCells none 0 0 false) 44 (0, 0)) := heap_alloc_new w1 _
    have HH := Lib.hid hh
    clear hh
    go_wp2_with (refine wpList_store_row_then rfl 44 (.tmp 7) (.tmp 19) rfl w1.heap.size (inCells a' n' c' false) rfl rfl 44 (inCells none 0 0 false) HH.out (sizeIn _ _ _ _) rfl (oneIn _ _ _ _) ?_)
    refine Lib.hid ?_
    change wpList _ _ _ _ _ ((w1.alloc (.cells (inCells none 0 0 false) 44)).setRow w1.heap.size (inCells a' n' c' false))
    obtain ⟨n1, n2⟩ := new_row w1 44 (inCells none 0 0 false) (inCells a' n' c' false)
    obtain ⟨w2, hnew⟩ : ∃ x, x = (w1.alloc (.cells (inCells none 0 0 false) 44)).setRow w1.heap.size (inCells a' n' c' false) := ⟨_, rfl⟩
    rw [← hnew] at n1 n2 ⊢
    clear hnew HH
    have k1 : w2.cell? ⟨w1.heap.size, 1, none⟩ = some (.bool false) := cell_of_block n1
    have N1 := Lib.hid n1
    have N2 := Lib.hid n2
    obtain ⟨G, hG⟩ : ∃ G, G = w1.heap.size := ⟨_, rfl⟩
    rw [← hG] at N1 k1 ⊢
    have hGw : w.heap.size ≤ G := by rw [hG]; exact HW1.out.size
    have HG := Lib.hid hG
    clear n1 n2 hG
    go_wp2_with fail
    have hnil : BytesAt (w2.alloc (.cells #[] 5)) (some ⟨w2.heap.size, 0, none⟩) [] := BytesAt.nil _ _
    have hst0 : RefD base R G w (.slice (some ⟨w2.heap.size, 0, none⟩) 0 0) [] l' a' c' (w2.alloc (.cells #[] 5)) := by
      have hal : Below w2.heap.size w2 (w2.alloc (.cells #[] 5)) := (Below.refl _ w2).alloc (Nat.le_refl _) _
      refine ⟨⟨_, _, rfl, hnil, by simp, by omega⟩, by simp, ?_, (HIN.out.later N2.out).later hal, HST.out, (HW1.out.trans (N2.out.mono HW1.out.size)).trans (hal.mono (Nat.le_trans HW1.out.size N2.out.size))⟩
      rw [hal.block _ (lt_of_block N1.out), ← HNE.out]
      exact N1.out
    have HST0 := Lib.hid hst0
    clear hst0 hnil k1 HST HIN N1 N2
    go_loopw [8] (fun s8 wx => ∃ (out D' : List UInt8) (a3 : Option Addr) (c3 : Nat), RefD base R G w s8 out D' a3 c3 wx) (fun _ wx => leftOf wx G)
    case atStart => exact ⟨[], l', a', c', HST0.out⟩
    case round =>
      clear HST0 HNE HG
      obtain ⟨out, D', a3, c3, ⟨⟨a2, c2, rfl, hB2, hl2, hc2⟩, hout, hblk, hin3, hst, hwx⟩⟩ := hrel
      obtain ⟨m, hm⟩ : ∃ m, m = D'.length := ⟨_, rfl⟩
      rw [← hm] at hblk
      have k0 : wr.cell? ⟨G, 0, none⟩ = some (.slice a3 m c3) := cell_of_block hblk
      have hleft : leftOf wr G = m := by unfold leftOf; rw [k0]; rfl
      have hGl : G < wr.heap.size := lt_of_block hblk
      have HLEFT := Lib.hid hleft
      have HBLK := Lib.hid hblk
      have HIN3 := Lib.hid hin3
      have HST := Lib.hid hst
      have HWX := Lib.hid hwx
      have HB2 := Lib.hid hB2
      have HM := Lib.hid hm
      clear hleft hblk hin3 hst hwx hB2
      by_cases hD0 : D' = []
      · subst hD0
        obtain rfl : m = 0 := hm
        have hR := HST.out.end
        have hap2 := HAP.out
        rw [hR] at hap2
        simp only [endD] at hap2
        have HAP2 := Lib.hid hap2
        clear hR hap2 HST HAP
        by_cases heq : out.length = t
        · have e1 : ((out.length : Int) != (t : Int)) = false := by simp [heq]
          go_wp2_with fail
          go_ret2
          unfold DApplied
          rw [HAP2.out, if_pos heq]
          exact ⟨HWX.out, hout, a2, c2, rfl, HB2.out, hl2, hc2⟩
        · have e1 : ((out.length : Int) != (t : Int)) = true := by simp; omega
          go_wp2_with fail
          go_ret2
          exact .err HWX.out (by rw [HAP2.out, if_neg heq])
      · have hpos : 0 < m := by rw [hm]; cases D' with | nil => exact absurd rfl hD0 | cons _ _ => simp
        have HD0 := Lib.hid hD0
        have hnum := getnum_any a3 c3 D' false 4611686018427387904 wr HIN3.out (by simp)
        rw [← hm] at hnum
        have HNUM := Lib.hid hnum
        clear hD0 hnum hm
        go_wp2_with (refine wpList_load_row rfl 44 (.tmp 7) rfl G rfl 44 (inCells a3 m c3 false) (0, 0) _ HBLK.out Try.underlying44 rfl (sizeIn _ _ _ _) ?_)
        refine HNUM.out.mono ?_
        clear HNUM
        unfold GotNum
        rintro e w3 ⟨hw3, ⟨hd, rfl⟩ | ⟨N, r1, a5, c5, hd, rfl, hin5⟩⟩
        · have hse : stepD base D' out.length = .inl 20 := by unfold stepD; rw [hd]
          have hR := HST.out.err HD0.out hse
          have hap2 := HAP.out
          rw [hR] at hap2
          simp only [endD] at hap2
          have HAP2 := Lib.hid hap2
          have HW3 := Lib.hid (HWX.out.trans (hw3.mono HWX.out.size))
          clear hR hap2 hse HST hd hw3 HAP
          have hh : (w3.alloc (.cells (inCells none 0 0 false) 44)).heap[w3.heap.size]? = some (.cells (inCells none 0 0 false) 44 (0, 0)) := heap_alloc_new w3 _
          have HH := Lib.hid hh
          clear hh
          go_wp2_with (refine wpList_store_row_then rfl 44 (.tmp 10) (.tmp 31) rfl w3.heap.size (inCells none 0 0 true) rfl rfl 44 (inCells none 0 0 false) HH.out (sizeIn _ _ _ _) rfl (oneIn _ _ _ _) ?_)
          refine Lib.hid ?_
          change wpList _ _ _ _ _ ((w3.alloc (.cells (inCells none 0 0 false) 44)).setRow w3.heap.size (inCells none 0 0 true))
          obtain ⟨n1, n2⟩ := new_row w3 44 (inCells none 0 0 false) (inCells none 0 0 true)
          obtain ⟨w4, hnew⟩ : ∃ x, x = (w3.alloc (.cells (inCells none 0 0 false) 44)).setRow w3.heap.size (inCells none 0 0 true) := ⟨_, rfl⟩
          rw [← hnew] at n1 n2 ⊢
          clear hnew HH
          have k1 : w4.cell? ⟨w3.heap.size, 1, none⟩ = some (.bool true) := cell_of_block n1
          have N2 := Lib.hid n2
          clear n1 n2
          go_wp2_with fail
          go_ret2
          exact .err (HW3.out.trans (N2.out.mono HW3.out.size)) HAP2.out
        · have hse : stepD base D' out.length = stepD base D' out.length := rfl
          conv at hse => rhs; unfold stepD
          rw [hd] at hse
          simp only at hse
          have hN62 := (rnum_cut_some D' _ N r1 hd).2.2.2.2
          have hless := rnum_less hd
          obtain ⟨q, hq⟩ : ∃ q, q = r1.length := ⟨_, rfl⟩
          rw [← hq] at hse
          obtain ⟨k, hk⟩ : ∃ k, k = N / 2 := ⟨_, rfl⟩
          have ek : (N : Int) / 2 = (k : Int) := by omega
          rw [← hk] at hse
          have HSE := Lib.hid hse
          have HLESS := Lib.hid hless
          have HIN5 := Lib.hid hin5
          have HQ := Lib.hid hq
          have HW3 := Lib.hid hw3
          rw [← hq]
          clear hse hd hless hin5 hq hk hw3
          have hh : (w3.alloc (.cells (inCells none 0 0 false) 44)).heap[w3.heap.size]? = some (.cells (inCells none 0 0 false) 44 (0, 0)) := heap_alloc_new w3 _
          have HH := Lib.hid hh
          clear hh
          go_wp2_with (refine wpList_store_row_then rfl 44 (.tmp 10) (.tmp 31) rfl w3.heap.size (inCells a5 q c5 false) rfl rfl 44 (inCells none 0 0 false) HH.out (sizeIn _ _ _ _) rfl (oneIn _ _ _ _) ?_)
          refine Lib.hid ?_
          change wpList _ _ _ _ _ ((w3.alloc (.cells (inCells none 0 0 false) 44)).setRow w3.heap.size (inCells a5 q c5 false))
          obtain ⟨n1, n2⟩ := new_row w3 44 (inCells none 0 0 false) (inCells a5 q c5 false)
          obtain ⟨w4, hnew⟩ : ∃ x, x = (w3.alloc (.cells (inCells none 0 0 false) 44)).setRow w3.heap.size (inCells a5 q c5 false) := ⟨_, rfl⟩
          rw [← hnew] at n1 n2 ⊢
          clear hnew HH
          have k1 : w4.cell? ⟨w3.heap.size, 1, none⟩ = some (.bool false) := cell_of_block n1
          have hw4 : Below wr.heap.size wr w4 := HW3.out.trans (n2.mono HW3.out.size)
          have HW4 := Lib.hid hw4
          have N1 := Lib.hid n1
          have HIN4 := Lib.hid (HIN5.out.later n2)
          clear n1 n2 hw4
          by_cases h1 : k < 1
          · have d1 : (k : Int) < 1 := by omega
            have hR := HST.out.err HD0.out (by rw [HSE.out, if_pos (Or.inl h1)])
            have hap2 := HAP.out
            rw [hR] at hap2
            simp only [endD] at hap2
            have HAP2 := Lib.hid hap2
            clear hR hap2 HST HSE HAP
            go_wp2_with fail
            go_ret2
            exact .err (HWX.out.trans (HW4.out.mono HWX.out.size)) HAP2.out
          · have d1 : ¬ (k : Int) < 1 := by omega
            have hk62 : (k : Int) ≤ 2305843009213693952 := by omega
            by_cases h2 : 1048576 < k + out.length
            · have d2 : (1048576 : Int) < (k : Int) + (out.length : Int) := by omega
              have hR := HST.out.err HD0.out (by rw [HSE.out, if_pos (Or.inr h2)])
              have hap2 := HAP.out
              rw [hR] at hap2
              simp only [endD] at hap2
              have HAP2 := Lib.hid hap2
              clear hR hap2 HST HSE HAP
              go_wp2_with fail
              go_ret2
              exact .err (HWX.out.trans (HW4.out.mono HWX.out.size)) HAP2.out
            · have d2 : ¬ (1048576 : Int) < (k : Int) + (out.length : Int) := by omega
              have hk20 : k + out.length ≤ 1048576 := by omega
              have hse := HSE.out
              rw [if_neg (by omega)] at hse
              have HSE2 := Lib.hid hse
              have hk1 : 1 ≤ k := by omega
              have hblk4 : w4.heap[G]? = some (.cells (inCells a3 m c3 false) 44 (0, 0)) := by rw [HW4.out.block _ hGl]; exact HBLK.out
              have HBLK4 := Lib.hid hblk4
              clear hse HSE h1 h2 hblk4
              obtain ⟨w5, hw5⟩ : ∃ w5, w5 = w4.setRow G (inCells a5 q c5 false) := ⟨_, rfl⟩
              have hblk5 : w5.heap[G]? = some (.cells (inCells a5 q c5 false) 44 (0, 0)) := by rw [hw5]; exact setRow_heap w4 G _ _ _ _ HBLK4.out
              have hin5 : InAt w5 a5 c5 r1 := by
                rw [hw5]
                exact ⟨HIN4.out.1.grown' (grownBy_setRow _ _ _) HBLK4.out (in_no_byte _ _ _ _), HIN4.out.2⟩
              have hw5b : Below w.heap.size w w5 := by rw [hw5]; exact below_setRow (HWX.out.trans (HW4.out.mono HWX.out.size)) hGw
              have hB5 : BytesAt w5 a2 out := by rw [hw5]; exact (HB2.out.later HW4.out).grown' (grownBy_setRow _ _ _) HBLK4.out (in_no_byte _ _ _ _)
              have k50 : w5.cell? ⟨G, 0, none⟩ = some (.slice a5 q c5) := cell_of_block hblk5
              have f50 : w5.frozen? ⟨G, 0, none⟩ = false := free_of_block hblk5
              have hGl5 : G < w5.heap.size := lt_of_block hblk5
              have HBLK5 := Lib.hid hblk5
              have HINR := Lib.hid hin5
              have HW5B := Lib.hid hw5b
              have HB5 := Lib.hid hB5
              have HW5 := Lib.hid hw5
              clear hblk5 hin5 hw5b hB5 hw5
              go_upto_region 11 with (first | (refine wpList_load_row rfl 44 (.tmp 10) rfl w3.heap.size rfl 44 (inCells a5 q c5 false) (0, 0) _ N1.out Try.underlying44 rfl (sizeIn _ _ _ _) ?_) | (refine wpList_store_row_then rfl 44 (.tmp 7) (.tmp 47) rfl G (inCells a5 q c5 false) rfl rfl 44 (inCells a3 m c3 false) HBLK4.out (sizeIn _ _ _ _) rfl (oneIn _ _ _ _) ?_; refine Lib.hid ?_; change wpList _ _ _ _ _ (w4.setRow G (inCells a5 q c5 false)); rw [← HW5.out]))
              have hno5 : a5 = none → q = 0 := fun h => by rw [HQ.out, (show r1 = [] from BytesAt.none_nil (h ▸ HINR.out.1))]; rfl
              have HNO5 := Lib.hid hno5
              clear hno5
              by_cases h3 : N % 2 = 0
              · have eq : (N : Int) % 2 = 0 := by omega
                have hse := HSE2.out
                rw [if_pos h3] at hse
                have HSE3 := Lib.hid hse
                clear hse HSE2 h3 hN62
                by_cases h4 : q < k
                · have d4 : (q : Int) < (k : Int) := by omega
                  have hR := HST.out.err HD0.out (by rw [HSE3.out, if_pos h4])
                  have hap2 := HAP.out
                  rw [hR] at hap2
                  simp only [endD] at hap2
                  have HAP2 := Lib.hid hap2
                  clear hR hap2 HST HSE3 HAP
                  go_wp2_with fail
                  go_ret2
                  exact .err HW5B.out HAP2.out
                · have d4 : ¬ (q : Int) < (k : Int) := by omega
                  have hse := HSE3.out
                  rw [if_neg h4] at hse
                  have hle : k ≤ r1.length := by rw [← HQ.out]; omega
                  have hcap : a5 = none → c5 = 0 := fun h => absurd (HNO5.out h) (by omega)
                  have hin := HINR.out
                  have hsh := slice_high a5 r1 k c5 hle hcap hin.2.1 hin.2.2
                  obtain ⟨pp, c6, hsl, hpp, hpn, hpl, hpc⟩ := slice_low a5 r1 k c5 hle hcap hin.2.1 hin.2.2
                  rw [← HQ.out] at hsh hsl
                  have hjo := join_any a2 a5 out (r1.take k) c2 c5 w5 HB5.out (hin.1.take k) (by rw [List.length_take]; omega)
                  obtain ⟨P1, hP1⟩ : ∃ P1, P1 = r1.take k := ⟨_, rfl⟩
                  obtain ⟨R2, hR2⟩ : ∃ R2, R2 = r1.drop k := ⟨_, rfl⟩
                  have hP1l : P1.length = k := by rw [hP1, List.length_take]; omega
                  have hR2l : R2.length ≤ q := by rw [hR2, List.length_drop, ← HQ.out]; omega
                  rw [← hP1] at hsh hjo hse
                  rw [← hR2] at hsl hpp hpl hse
                  have hst2 := HST.out.go HD0.out hse
                  have HST2 := Lib.hid hst2
                  have HJO := Lib.hid hjo
                  have HPP := Lib.hid hpp
                  have HR2L := Lib.hid hR2l
                  have HP1L := Lib.hid hP1l
                  clear hse HSE3 hst2 hjo hpp hP1 hR2 hP1l hR2l hle hcap hin HST HAP h4
                  go_wp2_with fail
                  refine HJO.out.mono ?_
                  clear HJO
                  rintro e w6 ⟨v, rfl, hown, hb6⟩
                  obtain ⟨a7, c7, rfl, hB7, -, hl7, hc7⟩ := BytesAt.row hown
                  have hblk6 : w6.heap[G]? = some (.cells (inCells a5 q c5 false) 44 (0, 0)) := by rw [hb6.block _ hGl5]; exact HBLK5.out
                  have k60 : w6.cell? ⟨G, 0, none⟩ = some (.slice a5 q c5) := cell_of_block hblk6
                  have f60 : w6.frozen? ⟨G, 0, none⟩ = false := free_of_block hblk6
                  have HBLK6 := Lib.hid hblk6
                  have HB7 := Lib.hid hB7
                  have HB6 := Lib.hid hb6
                  clear hown hblk6 hB7 hb6
                  go_wp2_with fail
                  go_roundw
                  case rel =>
                    have e1 := heap_setCell_same w6 G 0 _ _ (.slice pp R2.length c6) HBLK6.out
                    refine ⟨out ++ P1, R2, pp, c6, ⟨⟨a7, c7, by rw [List.length_append], HB7.out.grown' (grownBy_setCell _ _ _ _) HBLK6.out (in_no_byte _ _ _ _), hl7, hc7⟩, by rw [List.length_append, HP1L.out]; omega, e1, ⟨(HPP.out w6 (HINR.out.1.later HB6.out)).grown' (grownBy_setCell _ _ _ _) HBLK6.out (in_no_byte _ _ _ _), hpl, by have := HINR.out.2.2; omega⟩, HST2.out, below_grownBy (Nat.le_refl _) (HW5B.out.trans (HB6.out.mono HW5B.out.size)) (grownBy_setCell _ _ _ _) hGw⟩⟩
                  case measure =>
                    have e1 := heap_setCell_same w6 G 0 _ _ (.slice pp R2.length c6) HBLK6.out
                    have e2 : leftOf (w6.setCell ⟨G, 0, none⟩ (.slice pp R2.length c6)) G = R2.length := by unfold leftOf; rw [cell_of_block e1]; rfl
                    rw [e2, HLEFT.out]
                    have h7 := HR2L.out
                    have h8 := HLESS.out
                    rw [← HM.out, ← HQ.out] at h8
                    omega
              · have eq : (N : Int) % 2 = 1 := by omega
                have hse := HSE2.out
                rw [if_neg h3] at hse
                have HSE3 := Lib.hid hse
                have hnum := getnum_any a5 c5 r1 false 4611686018427387904 w5 HINR.out (by simp)
                rw [← HQ.out] at hnum
                have HNUM := Lib.hid hnum
                clear hse HSE2 h3 hN62 hnum
                go_wp2_with (refine wpList_load_row rfl 44 (.tmp 7) rfl G rfl 44 (inCells a5 q c5 false) (0, 0) _ HBLK5.out Try.underlying44 rfl (sizeIn _ _ _ _) ?_)
                refine HNUM.out.mono ?_
                clear HNUM
                unfold GotNum
                rintro e w6 ⟨hw6, ⟨hd, rfl⟩ | ⟨p, r2, a8, c8, hd, rfl, hin8⟩⟩
                · have hR := HST.out.err HD0.out (by rw [HSE3.out, hd])
                  have hap2 := HAP.out
                  rw [hR] at hap2
                  simp only [endD] at hap2
                  have HAP2 := Lib.hid hap2
                  have HW6 := Lib.hid (HW5B.out.trans (hw6.mono HW5B.out.size))
                  clear hR hap2 HST HSE3 HAP hd hw6
                  have hh : (w6.alloc (.cells (inCells none 0 0 false) 44)).heap[w6.heap.size]? = some (.cells (inCells none 0 0 false) 44 (0, 0)) := heap_alloc_new w6 _
                  have HH7 := Lib.hid hh
                  clear hh
                  go_wp2_with (refine wpList_store_row_then rfl 44 (.tmp 13) (.tmp 71) rfl w6.heap.size (inCells none 0 0 true) rfl rfl 44 (inCells none 0 0 false) HH7.out (sizeIn _ _ _ _) rfl (oneIn _ _ _ _) ?_)
                  refine Lib.hid ?_
                  change wpList _ _ _ _ _ ((w6.alloc (.cells (inCells none 0 0 false) 44)).setRow w6.heap.size (inCells none 0 0 true))
                  obtain ⟨n1, n2⟩ := new_row w6 44 (inCells none 0 0 false) (inCells none 0 0 true)
                  obtain ⟨w7, hnew⟩ : ∃ x, x = (w6.alloc (.cells (inCells none 0 0 false) 44)).setRow w6.heap.size (inCells none 0 0 true) := ⟨_, rfl⟩
                  rw [← hnew] at n1 n2 ⊢
                  clear hnew HH7
                  have k17 : w7.cell? ⟨w6.heap.size, 1, none⟩ = some (.bool true) := cell_of_block n1
                  have N27 := Lib.hid n2
                  clear n1 n2
                  go_wp2_with fail
                  go_ret2
                  exact .err (HW6.out.trans (N27.out.mono HW6.out.size)) HAP2.out
                · have hse := HSE3.out
                  rw [hd] at hse
                  simp only at hse
                  have hp62 := (rnum_cut_some r1 _ p r2 hd).2.2.2.2
                  have hless2 := rnum_less hd
                  obtain ⟨q2, hq2⟩ : ∃ q2, q2 = r2.length := ⟨_, rfl⟩
                  have HSE4 := Lib.hid hse
                  have HLESS2 := Lib.hid hless2
                  have HIN8 := Lib.hid hin8
                  have HQ2 := Lib.hid hq2
                  have HW6 := Lib.hid hw6
                  rw [← hq2]
                  clear hse HSE3 hd hless2 hin8 hq2 hw6
                  have hh : (w6.alloc (.cells (inCells none 0 0 false) 44)).heap[w6.heap.size]? = some (.cells (inCells none 0 0 false) 44 (0, 0)) := heap_alloc_new w6 _
                  have HH7 := Lib.hid hh
                  clear hh
                  go_wp2_with (refine wpList_store_row_then rfl 44 (.tmp 13) (.tmp 71) rfl w6.heap.size (inCells a8 q2 c8 false) rfl rfl 44 (inCells none 0 0 false) HH7.out (sizeIn _ _ _ _) rfl (oneIn _ _ _ _) ?_)
                  refine Lib.hid ?_
                  change wpList _ _ _ _ _ ((w6.alloc (.cells (inCells none 0 0 false) 44)).setRow w6.heap.size (inCells a8 q2 c8 false))
                  obtain ⟨n1, n2⟩ := new_row w6 44 (inCells none 0 0 false) (inCells a8 q2 c8 false)
                  obtain ⟨w7, hnew⟩ : ∃ x, x = (w6.alloc (.cells (inCells none 0 0 false) 44)).setRow w6.heap.size (inCells a8 q2 c8 false) := ⟨_, rfl⟩
                  rw [← hnew] at n1 n2 ⊢
                  clear hnew HH7
                  have k17 : w7.cell? ⟨w6.heap.size, 1, none⟩ = some (.bool false) := cell_of_block n1
                  have hw7 : Below w5.heap.size w5 w7 := HW6.out.trans (n2.mono HW6.out.size)
                  have HW7 := Lib.hid hw7
                  have N17 := Lib.hid n1
                  have HIN7 := Lib.hid (HIN8.out.later n2)
                  have hblk7 : w7.heap[G]? = some (.cells (inCells a5 q c5 false) 44 (0, 0)) := by rw [hw7.block _ hGl5]; exact HBLK5.out
                  have HBLK7 := Lib.hid hblk7
                  clear n1 n2 hw7 hblk7
                  obtain ⟨w8, hw8⟩ : ∃ w8, w8 = w7.setRow G (inCells a8 q2 c8 false) := ⟨_, rfl⟩
                  have hblk8 : w8.heap[G]? = some (.cells (inCells a8 q2 c8 false) 44 (0, 0)) := by rw [hw8]; exact setRow_heap w7 G _ _ _ _ HBLK7.out
                  have hin8 : InAt w8 a8 c8 r2 := by
                    rw [hw8]
                    exact ⟨HIN7.out.1.grown' (grownBy_setRow _ _ _) HBLK7.out (in_no_byte _ _ _ _), HIN7.out.2⟩
                  have hw8b : Below w.heap.size w w8 := by rw [hw8]; exact below_setRow (HW5B.out.trans (HW7.out.mono HW5B.out.size)) hGw
                  have hB8 : BytesAt w8 a2 out := by rw [hw8]; exact (HB5.out.later HW7.out).grown' (grownBy_setRow _ _ _) HBLK7.out (in_no_byte _ _ _ _)
                  have hGl8 : G < w8.heap.size := lt_of_block hblk8
                  have HBLK8 := Lib.hid hblk8
                  have HINR8 := Lib.hid hin8
                  have HW8B := Lib.hid hw8b
                  have HB8 := Lib.hid hB8
                  have HW8 := Lib.hid hw8
                  have hk20' : k ≤ 1048576 := by omega
                  have ew := add_small p k hp62 hk20'
                  clear hblk8 hin8 hw8b hB8 hw8 hp62 hk20'
                  by_cases h5 : base.length < p + k
                  · have d5 : (base.length : Int) < ((p + k : Nat) : Int) := Int.ofNat_lt.2 h5
                    have hR := HST.out.err HD0.out (by rw [HSE4.out, if_pos h5])
                    have hap2 := HAP.out
                    rw [hR] at hap2
                    simp only [endD] at hap2
                    have HAP2 := Lib.hid hap2
                    obtain ⟨pk, hpk⟩ : ∃ pk, pk = p + k := ⟨_, rfl⟩
                    rw [← hpk] at ew d5
                    clear hpk h5 hR hap2 HST HSE4 HAP
                    go_wp2_with (first | (refine wpList_load_row rfl 44 (.tmp 13) rfl w6.heap.size rfl 44 (inCells a8 q2 c8 false) (0, 0) _ N17.out Try.underlying44 rfl (sizeIn _ _ _ _) ?_) | (refine wpList_store_row_then rfl 44 (.tmp 7) (.tmp 74) rfl G (inCells a8 q2 c8 false) rfl rfl 44 (inCells a5 q c5 false) HBLK7.out (sizeIn _ _ _ _) rfl (oneIn _ _ _ _) ?_; refine Lib.hid ?_; change wpList _ _ _ _ _ (w7.setRow G (inCells a8 q2 c8 false)); rw [← HW8.out]))
                    go_ret2
                    exact .err HW8B.out HAP2.out
                  · have d5 : ¬ (base.length : Int) < ((p + k : Nat) : Int) := fun h => h5 (Int.ofNat_lt.1 h)
                    have h6 : p + k ≤ base.length := Nat.le_of_not_lt h5
                    obtain ⟨pp, c9, hsl, hpp, hpn, hpl, hpc⟩ := slice_part a1 base p k c1 h6 HN1.out hl1 hc1
                    have hse := HSE4.out
                    rw [if_neg h5] at hse
                    have hPl : ((base.drop p).take k).length = k := by clear ew d5; rw [List.length_take, List.length_drop]; omega
                    obtain ⟨PP, hPP⟩ : ∃ PP, PP = (base.drop p).take k := ⟨_, rfl⟩
                    rw [← hPP] at hsl hpp hpl hse hPl
                    have hjo := join_any a2 pp out PP c2 c9 w8 HB8.out (hpp _ (HB1.out.later HW8B.out)) (by clear ew d5; omega)
                    have hst2 := HST.out.go HD0.out hse
                    have HST2 := Lib.hid hst2
                    have HJO := Lib.hid hjo
                    have HPL := Lib.hid hPl
                    obtain ⟨pk, hpk⟩ : ∃ pk, pk = p + k := ⟨_, rfl⟩
                    rw [← hpk] at ew d5 hsl
                    clear hpk h5 h6 hpp hPP hPl hse hst2 hjo HSE4 HST HAP
                    go_wp2_with (first | (refine wpList_load_row rfl 44 (.tmp 13) rfl w6.heap.size rfl 44 (inCells a8 q2 c8 false) (0, 0) _ N17.out Try.underlying44 rfl (sizeIn _ _ _ _) ?_) | (refine wpList_store_row_then rfl 44 (.tmp 7) (.tmp 74) rfl G (inCells a8 q2 c8 false) rfl rfl 44 (inCells a5 q c5 false) HBLK7.out (sizeIn _ _ _ _) rfl (oneIn _ _ _ _) ?_; refine Lib.hid ?_; change wpList _ _ _ _ _ (w7.setRow G (inCells a8 q2 c8 false)); rw [← HW8.out]))
                    refine HJO.out.mono ?_
                    clear HJO
                    rintro e w9 ⟨v, rfl, hown, hb9⟩
                    obtain ⟨a9, c10, rfl, hB9, -, hl9, hc9⟩ := BytesAt.row hown
                    have hblk9 : w9.heap[G]? = some (.cells (inCells a8 q2 c8 false) 44 (0, 0)) := by rw [hb9.block _ hGl8]; exact HBLK8.out
                    have HBLK9 := Lib.hid hblk9
                    have HB9 := Lib.hid hB9
                    have HB9' := Lib.hid hb9
                    clear hown hblk9 hB9 hb9
                    go_wp2_with fail
                    go_roundw
                    case rel =>
                      refine ⟨out ++ PP, r2, a8, c8, ⟨⟨a9, c10, by rw [List.length_append], HB9.out, hl9, hc9⟩, by rw [List.length_append, HPL.out]; omega, by rw [← HQ2.out]; exact HBLK9.out, HINR8.out.later HB9'.out, HST2.out, HW8B.out.trans (HB9'.out.mono HW8B.out.size)⟩⟩
                    case measure =>
                      have e2 : leftOf w9 G = q2 := by unfold leftOf; rw [cell_of_block HBLK9.out]; rfl
                      rw [e2, HLEFT.out]
                      have h8 := HLESS.out
                      have h9 := HLESS2.out
                      rw [← HM.out] at h8
                      have h10 := HQ2.out
                      omega
end Go.Proofs.Ytpdoiodgdhlecaa
