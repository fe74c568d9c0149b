/-
  The walk of the reference's GetText.
-/
import Derived.Test.YtoaboehmjfnceaaGetNum
namespace Go.Proofs.Ytoaboehmjfnceaa
open Go.RowKit

/-- What GetText comes to. -/
def GotText (l : List UInt8) (most : Int) (w : World) (e : Ending) (w' : World) : Prop :=
  Below w.heap.size w w' ∧ ((rtext l most = none ∧ e = .returned (.tuple #[.string ⟨#[]⟩, .agg (inCells none 0 0 true)])) ∨
    ∃ t l' a c, rtext l most = some (t, l') ∧ e = .returned (.tuple #[.string ⟨t.toArray⟩, .agg (inCells a l'.length c false)]) ∧ InAt w' a c l')

theorem wpList_store_row_then {P : Program} {ops : Array Oper} {rest : List Oper} {o : Oper} {a : Act} {w : World} {Q : Exit → Act → World → Prop} (hgd : o.guard = none) (ty : TypeId) (x y : Operand) (ho : o.op = .store ty x y)
    (g : Nat) (cells : Array Value) (hx : a.eval x = .pointer (some ⟨g, 0, none⟩)) (hy : a.eval y = .agg cells)
    (t : TypeId) (old : Array Value) (hg : w.heap[g]? = some (.cells old t (0, 0))) (hi : (P.info? ty).map (·.size) = some cells.size)
    (hold : old.size = cells.size) (h1 : cells.all (·.oneCell') = true)
    (h : Hid (wpList P ops Q rest (a.put o.dst undef) (w.setRow g cells))) : wpList P ops Q (o :: rest) a w :=
  wpList_store_row hgd ty x y ho g cells hx hy t old hg hi hold h1 h.out
/-- The world behind 'n, y := ..': a new block, that holds the reader. -/
theorem new_row (w : World) (T : TypeId) (O X : Array Value) : ((w.alloc (.cells O T)).setRow w.heap.size X).heap[w.heap.size]? = some (.cells X T (0, 0)) ∧ Below w.heap.size w ((w.alloc (.cells O T)).setRow w.heap.size X) :=
  ⟨setRow_heap _ w.heap.size _ X _ _ (heap_alloc_new w _), below_grownBy (Nat.le_refl _) ((Below.refl _ w).alloc (Nat.le_refl _) _) ⟨rfl, rfl, rfl, by simp, fun k _ hk => setRow_other _ w.heap.size k _ (fun e => hk (by rw [e]))⟩ (Nat.le_refl _)⟩

/-- Bytes lie in no block that holds none: what is stored there leaves them. -/
theorem BytesAt.grown' {w w' : World} {a : Option Addr} {l : List UInt8} {R : Nat} {cs : Array Value} {T : TypeId} (h : BytesAt w a l) (hg : w.grownBy w' (some R)) (hR : w.heap[R]? = some (.cells cs T (0, 0))) (hno : ∀ (i : Nat) (n : Int), cs[i]? ≠ some (Value.int .u8 n)) : BytesAt w' a l := by
  intro i hi
  obtain ⟨b, off, ha, hc⟩ := h i hi
  refine ⟨b, off, ha, hg.cell hc ?_⟩
  intro e
  injection e with e
  simp only at e
  subst e
  rw [cell_of_block hR] at hc
  exact hno _ _ hc
theorem in_no_byte (a : Option Addr) (n c : Nat) (f : Bool) : ∀ (i : Nat) (k : Int), (inCells a n c f)[i]? ≠ some (Value.int .u8 k) := by
  intro i k h
  match i, h with
  | 0, h => simp [inCells] at h
  | 1, h => simp [inCells] at h
  | i + 2, h => simp [inCells] at h

set_option maxRecDepth 100000 in
set_option maxHeartbeats 2000000 in
theorem gettext_any (a : Option Addr) (cap : Nat) (l : List UInt8) (f : Bool) (most : Int) (w : World) (hb : InAt w a cap l) (hf : f = true → l = []) :
    Calls Try.prog 62 #[.agg (inCells a l.length cap f), .int .i64 most] w (GotText l most w) := by
  obtain ⟨w2, hw2⟩ : ∃ w2, w2 = (w.alloc (.cells (inCells a l.length cap f) 46)).alloc (.cells (inCells none 0 0 false) 46) := ⟨_, rfl⟩
  have hA : w2.heap[w.heap.size]? = some (.cells (inCells a l.length cap f) 46 (0, 0)) := by
    rw [hw2, heap_alloc_old _ _ (by simp)]; exact heap_alloc_new w _
  have hR : w2.heap[w.heap.size + 1]? = some (.cells (inCells none 0 0 false) 46 (0, 0)) := by
    rw [hw2, show w.heap.size + 1 = (w.alloc (.cells (inCells a l.length cap f) 46)).heap.size by simp]; exact heap_alloc_new _ _
  have hb2 : Below w.heap.size w w2 := by rw [hw2]; exact ((Below.refl _ w).alloc (Nat.le_refl _) _).alloc (by simp) _
  have hg := getnum_any a cap l f most w2 (hb.later hb2) hf
  have HA := Lib.hid hA
  have HR := Lib.hid hR
  have HG := Lib.hid hg
  have hlt2 := lt_of_block hR
  clear hA hR hg hb hf
  unfold GotText
  go_enter Try.func62, Try.ntmps62
  go_upto_region 1 with (fail)
  change Code.wp _ _ _ _ ((w.alloc (.cells (inCells a l.length cap f) 46)).alloc (.cells (inCells none 0 0 false) 46))
  rw [← hw2]
  clear hw2
  go_wp2_with (refine wpList_load_row rfl 46 (.tmp 2) rfl w.heap.size rfl 46 (inCells a l.length cap f) (0, 0) _ HA.out Try.underlying46 rfl (sizeIn _ _ _ _) ?_)
  refine HG.out.mono ?_
  rintro e w3 ⟨hb3, hgot⟩
  have hb3' := hb2.trans (hb3.mono hb2.size)
  have hr3 : w3.heap[w.heap.size + 1]? = some (.cells (inCells none 0 0 false) 46 (0, 0)) := by rw [hb3.block _ hlt2]; exact HR.out
  have hh3 : (w3.alloc (.cells (inCells none 0 0 false) 46)).heap[w3.heap.size]? = some (.cells (inCells none 0 0 false) 46 (0, 0)) := heap_alloc_new w3 _
  have HH3 := Lib.hid hh3
  have hlt3 := lt_of_block hr3
  rcases hgot with ⟨hn, rfl⟩ | ⟨N, l', a', c', hn, rfl, hin⟩
  · have ht : rtext l most = none := by unfold rtext; rw [hn]
    have HT := Lib.hid ht
    have HR3 := Lib.hid hr3
    clear hh3 hr3 hn ht HA HR HG
    go_wp2_with (refine wpList_store_row_then rfl 46 (.tmp 7) (.tmp 13) rfl w3.heap.size (inCells none 0 0 true) rfl rfl 46 (inCells none 0 0 false) HH3.out (sizeIn _ _ _ _) rfl (oneIn _ _ _ _) ?_)
    refine Lib.hid ?_
    change wpList _ _ _ _ _ ((w3.alloc (.cells (inCells none 0 0 false) 46)).setRow w3.heap.size (inCells none 0 0 true))
    obtain ⟨hn1, hn2⟩ := new_row w3 46 (inCells none 0 0 false) (inCells none 0 0 true)
    obtain ⟨w4, hw4⟩ : ∃ w4, w4 = (w3.alloc (.cells (inCells none 0 0 false) 46)).setRow w3.heap.size (inCells none 0 0 true) := ⟨_, rfl⟩
    rw [← hw4] at hn1 hn2 ⊢
    have c1 : w4.cell? ⟨w3.heap.size, 1, none⟩ = some (.bool true) := cell_of_block hn1
    have hr4 : w4.heap[w.heap.size + 1]? = some (.cells (inCells none 0 0 false) 46 (0, 0)) := by rw [hn2.block _ hlt3]; exact HR3.out
    have HR4 := Lib.hid hr4
    have hb4' := hb3'.trans (hn2.mono hb3'.size)
    have hlt4 := lt_of_block hr4
    clear hw4 hn1 hn2 hr4
    go_wp2_with fail
    refine (failed_any _).mono ?_
    rintro e w5 ⟨rfl, hb5⟩
    have hr5 : w5.heap[w.heap.size + 1]? = some (.cells (inCells none 0 0 false) 46 (0, 0)) := by rw [hb5.block _ hlt4]; exact HR4.out
    have HR5 := Lib.hid hr5
    clear hr5
    go_wp2_with (refine wpList_store_row rfl 46 (.tmp 5) (.tmp 23) rfl (w.heap.size + 1) (inCells none 0 0 true) rfl rfl 46 (inCells none 0 0 false) HR5.out (sizeIn _ _ _ _) rfl (oneIn _ _ _ _) ?_)
    refine bodyPost_ret (v := .tuple #[.string ⟨#[]⟩, .agg (inCells none 0 0 true)]) (results_tmp_row rfl _ _ (w.heap.size + 1) 46 (inCells none 0 0 true) (0, 0) _ _ rfl (setRow_heap w5 (w.heap.size + 1) _ _ _ _ HR5.out) Try.underlying46 rfl (sizeIn _ _ _ _) rfl) rfl ?_
    exact ⟨below_setRow (hb4'.trans (hb5.mono hb4'.size)) (by omega), Or.inl ⟨HT.out, rfl⟩⟩
  · have HIN := Lib.hid hin
    have HN := Lib.hid hn
    have HR3 := Lib.hid hr3
    obtain ⟨n', hn'⟩ : ∃ n', n' = l'.length := ⟨_, rfl⟩
    rw [← hn']
    have HN' := Lib.hid hn'
    clear hh3 hr3 hn hin HA HR HG hn'
    go_wp2_with (refine wpList_store_row_then rfl 46 (.tmp 7) (.tmp 13) rfl w3.heap.size (inCells a' n' c' false) rfl rfl 46 (inCells none 0 0 false) HH3.out (sizeIn _ _ _ _) rfl (oneIn _ _ _ _) ?_)
    refine Lib.hid ?_
    change wpList _ _ _ _ _ ((w3.alloc (.cells (inCells none 0 0 false) 46)).setRow w3.heap.size (inCells a' n' c' false))
    obtain ⟨hn1, hn2⟩ := new_row w3 46 (inCells none 0 0 false) (inCells a' n' c' false)
    obtain ⟨w4, hw4⟩ : ∃ w4, w4 = (w3.alloc (.cells (inCells none 0 0 false) 46)).setRow w3.heap.size (inCells a' n' c' false) := ⟨_, rfl⟩
    rw [← hw4] at hn1 hn2 ⊢
    have c1 : w4.cell? ⟨w3.heap.size, 1, none⟩ = some (.bool false) := cell_of_block hn1
    have c0 : w4.cell? ⟨w3.heap.size, 0, none⟩ = some (.slice a' n' c') := cell_of_block hn1
    have hr4 : w4.heap[w.heap.size + 1]? = some (.cells (inCells none 0 0 false) 46 (0, 0)) := by rw [hn2.block _ hlt3]; exact HR3.out
    have hin4 := HIN.out.later hn2
    have HR4 := Lib.hid hr4
    have hb4' := hb3'.trans (hn2.mono hb3'.size)
    have hlt4 := lt_of_block hr4
    have hbd : n' ≤ c' ∧ c' ≤ 9223372036854775807 := by rw [HN'.out]; exact hin4.2
    have HIN4 := Lib.hid hin4
    clear hw4 hn1 hn2 hr4 hin4
    by_cases hle : N ≤ n'
    · have ht : rtext l most = some (l'.take N, l'.drop N) := by unfold rtext; rw [HN.out]; exact if_pos (by rw [← HN'.out]; exact hle)
      have HT := Lib.hid ht
      have r0 : w4.cell? ⟨w.heap.size + 1, 0, none⟩ = some (.slice none 0 0) := cell_of_block HR4.out
      have r1 : w4.cell? ⟨w.heap.size + 1, 1, none⟩ = some (.bool false) := cell_of_block HR4.out
      have r2 : ∀ j, w4.frozen? ⟨w.heap.size + 1, j, none⟩ = false := fun j => free_of_block HR4.out
      have hle1 : ¬ ((n' : Int) < (N : Int)) := by omega
      have hcv : (convert 36 9 (.slice a' N c')).run Try.prog w4.drew = .ok (.string ⟨(l'.take N).toArray⟩) w4.drew := by
        have h2 : BytesAt w4.drew a' (l'.take N) := HIN4.out.1.take N
        have h3 := conv_bytes h2 c'
        rwa [List.length_take, Nat.min_eq_left (by rw [← HN'.out]; exact hle)] at h3
      clear ht
      go_wp2_with fail
      go_region
      have hbt : BytesAt w4 (if c' = N then a' else Option.map (fun x => x.add N) a') (l'.drop N) := by
        by_cases hz : c' = N
        · have hb := hbd
          rw [List.drop_eq_nil_of_le (by rw [← HN'.out]; omega)]
          exact BytesAt.nil _ _
        · rw [if_neg hz]
          intro i hi
          have hi' : N + i < l'.length := by simp at hi; omega
          obtain ⟨b, off, rfl⟩ := HIN4.out.1.addr (by omega)
          have h5 := HIN4.out.1.drop' N i hi
          simpa [add_plain] using h5
      have HBT := Lib.hid hbt
      clear hbt
      revert HBT
      generalize (if c' = N then a' else Option.map (fun x => x.add N) a') = AA
      intro HBT
      have h1 := heap_setCell_same w4 (w.heap.size + 1) 0 _ _ (.slice AA (n' - N) (c' - N)) HR4.out
      have h2 := heap_setCell_same _ (w.heap.size + 1) 1 _ _ (.bool false) h1
      have H2 := Lib.hid h2
      clear h1 h2
      go_wp2_with fail
      refine bodyPost_ret (v := .tuple #[.string ⟨(l'.take N).toArray⟩, .agg (inCells AA (n' - N) (c' - N) false)]) (results_tmp_row rfl _ _ (w.heap.size + 1) 46 (inCells AA (n' - N) (c' - N) false) (0, 0) _ _ rfl H2.out Try.underlying46 rfl (sizeIn _ _ _ _) rfl) rfl ?_
      have hbe : Below w.heap.size w (((w4.setCell ⟨w.heap.size + 1, 0, none⟩ (.slice AA (n' - N) (c' - N))).setCell ⟨w.heap.size + 1, 1, none⟩ (.bool false)).drew) := ((hb4'.setCell (by show w.heap.size ≤ w.heap.size + 1; omega) _).setCell (by show w.heap.size ≤ w.heap.size + 1; omega) _).drew
      refine ⟨hbe, Or.inr ⟨l'.take N, l'.drop N, AA, c' - N, HT.out, ?_, ?_, ?_⟩⟩
      · rw [List.length_drop, ← HN'.out]
      · exact BytesAt.grown' HBT.out (grownBy_trans (grownBy_trans (grownBy_setCell _ _ _ _) (grownBy_setCell _ _ _ _)) (grownBy_drew _ _)) HR4.out (in_no_byte _ _ _ _)
      · rw [List.length_drop, ← HN'.out]
        omega
    · have ht : rtext l most = none := by unfold rtext; rw [HN.out]; exact if_neg (by rw [← HN'.out]; exact hle)
      have HT := Lib.hid ht
      have hgt : (n' : Int) < (N : Int) := by omega
      clear ht hle
      go_wp2_with fail
      refine (failed_any _).mono ?_
      rintro e w5 ⟨rfl, hb5⟩
      have hr5 : w5.heap[w.heap.size + 1]? = some (.cells (inCells none 0 0 false) 46 (0, 0)) := by rw [hb5.block _ hlt4]; exact HR4.out
      have HR5 := Lib.hid hr5
      clear hr5
      go_wp2_with (refine wpList_store_row rfl 46 (.tmp 5) (.tmp 23) rfl (w.heap.size + 1) (inCells none 0 0 true) rfl rfl 46 (inCells none 0 0 false) HR5.out (sizeIn _ _ _ _) rfl (oneIn _ _ _ _) ?_)
      refine bodyPost_ret (v := .tuple #[.string ⟨#[]⟩, .agg (inCells none 0 0 true)]) (results_tmp_row rfl _ _ (w.heap.size + 1) 46 (inCells none 0 0 true) (0, 0) _ _ rfl (setRow_heap w5 (w.heap.size + 1) _ _ _ _ HR5.out) Try.underlying46 rfl (sizeIn _ _ _ _) rfl) rfl ?_
      exact ⟨below_setRow (hb4'.trans (hb5.mono hb4'.size)) (by omega), Or.inl ⟨HT.out, rfl⟩⟩
end Go.Proofs.Ytoaboehmjfnceaa
