/-
  The walk of the reference's GetFour.
-/
import Derived.Test.YtcdklimpekknnabGetText
import Derived.Deep.RegionHeld3
namespace Go.Proofs.Ytcdklimpekknnab
open Go.RowKit

/-- What GetFour comes to. -/
def GotFour (l : List UInt8) (w : World) (e : Ending) (w' : World) : Prop :=
  Below w.heap.size w w' ∧ ((l.length < 4 ∧ e = .returned (.tuple #[.int .u32 0, .agg (inCells none 0 0 true)])) ∨
    ∃ a c, 4 ≤ l.length ∧ e = .returned (.tuple #[.int .u32 (leVal (l.take 4) : Int), .agg (inCells a (l.drop 4).length c false)]) ∧ InAt w' a c (l.drop 4))
theorem leVal_four (a b c d : UInt8) (r : List UInt8) : leVal ((a :: b :: c :: d :: r).take 4) = a.toNat + 256 * b.toNat + 65536 * c.toNat + 16777216 * d.toNat := by
  simp only [List.take_succ_cons, List.take_zero, leVal]
  omega

theorem four_of : ∀ l : List UInt8, ¬ l.length < 4 → ∃ d0 d1 d2 d3 r, l = d0 :: d1 :: d2 :: d3 :: r
  | [], h => absurd (by simp) h
  | [_], h => absurd (by simp) h
  | [_, _], h => absurd (by simp) h
  | [_, _, _], h => absurd (by simp) h
  | d0 :: d1 :: d2 :: d3 :: r, _ => ⟨d0, d1, d2, d3, r, rfl⟩

set_option maxRecDepth 100000 in
set_option maxHeartbeats 2000000 in
theorem getfour_any (a : Option Addr) (cap : Nat) (l : List UInt8) (f : Bool) (w : World) (hb : InAt w a cap l) (hf : f = true → l = []) :
    Calls Try.prog 29 #[.agg (inCells a l.length cap f)] w (GotFour l w) := by
  obtain ⟨w2, hw2⟩ : ∃ w2, w2 = (w.alloc (.cells (inCells a l.length cap f) 42)).alloc (.cells (inCells none 0 0 false) 42) := ⟨_, rfl⟩
  have hA : w2.heap[w.heap.size]? = some (.cells (inCells a l.length cap f) 42 (0, 0)) := by
    rw [hw2, heap_alloc_old _ _ (by simp)]; exact heap_alloc_new w _
  have hR : w2.heap[w.heap.size + 1]? = some (.cells (inCells none 0 0 false) 42 (0, 0)) := by
    rw [hw2, show w.heap.size + 1 = (w.alloc (.cells (inCells a l.length cap f) 42)).heap.size by simp]; exact heap_alloc_new _ _
  have hb2 : Below w.heap.size w w2 := by rw [hw2]; exact ((Below.refl _ w).alloc (Nat.le_refl _) _).alloc (by simp) _
  have c0 : w2.cell? ⟨w.heap.size, 0, none⟩ = some (.slice a l.length cap) := cell_of_block hA
  have c1 : w2.cell? ⟨w.heap.size, 1, none⟩ = some (.bool f) := cell_of_block hA
  have hin := hb.later hb2
  have hbd := hb.2
  have HR := Lib.hid hR
  have hlt2 := lt_of_block hR
  unfold GotFour
  by_cases h4 : l.length < 4
  · clear hA hR hb hf hin
    go_enter Try.func29, Try.ntmps29
    go_upto_region 1 with (fail)
    change Code.wp _ _ _ _ ((w.alloc (.cells (inCells a l.length cap f) 42)).alloc (.cells (inCells none 0 0 false) 42))
    rw [← hw2]
    clear hw2
    cases f
    all_goals
      go_wp2_with fail
      refine (failed_any _).mono ?_
      rintro e w5 ⟨rfl, hb5⟩
      have hr5 : w5.heap[w.heap.size + 1]? = some (.cells (inCells none 0 0 false) 42 (0, 0)) := by rw [hb5.block _ hlt2]; exact HR.out
      have HR5 := Lib.hid hr5
      clear hr5
      go_wp2_with (refine wpList_store_row rfl 42 (.tmp 3) (.tmp 12) rfl (w.heap.size + 1) (inCells none 0 0 true) rfl rfl 42 (inCells none 0 0 false) HR5.out (sizeIn _ _ _ _) rfl (oneIn _ _ _ _) ?_)
      refine bodyPost_ret (v := .tuple #[.int .u32 0, .agg (inCells none 0 0 true)]) (results_tmp_row rfl _ _ (w.heap.size + 1) 42 (inCells none 0 0 true) (0, 0) _ _ rfl (setRow_heap w5 (w.heap.size + 1) _ _ _ _ HR5.out) Try.underlying42 rfl (sizeIn _ _ _ _) rfl) rfl ?_
      exact ⟨below_setRow (hb2.trans (hb5.mono hb2.size)) (by omega), Or.inl ⟨h4, rfl⟩⟩
  · have hff : f = false := by
      cases f with
      | false => rfl
      | true => rw [hf rfl] at h4; simp at h4
    subst hff
    obtain ⟨d0, d1, d2, d3, r, rfl⟩ := four_of l h4
    obtain ⟨b, off, rfl⟩ := hin.1.addr (by simp)
    have e0 := hin.1.at 0 (by simp)
    have e1 := hin.1.at 1 (by simp)
    have e2 := hin.1.at 2 (by simp)
    have e3 := hin.1.at 3 (by simp)
    simp only [Nat.add_zero, List.getElem_cons_zero, List.getElem_cons_succ] at e0 e1 e2 e3
    have x0 := d0.toNat_lt
    have x1 := d1.toNat_lt
    have x2 := d2.toNat_lt
    have x3 := d3.toNat_lt
    obtain ⟨n, hn⟩ : ∃ n, n = (d0 :: d1 :: d2 :: d3 :: r).length := ⟨_, rfl⟩
    have hn4 : 4 ≤ n := by rw [hn]; simp
    have hn5 : ¬ ((n : Int) < 4) := by omega
    rw [← hn] at c0 hw2 hbd ⊢
    have r0 : w2.cell? ⟨w.heap.size + 1, 0, none⟩ = some (.slice none 0 0) := cell_of_block hR
    have r1 : w2.cell? ⟨w.heap.size + 1, 1, none⟩ = some (.bool false) := cell_of_block hR
    have r2 : ∀ j, w2.frozen? ⟨w.heap.size + 1, j, none⟩ = false := fun j => free_of_block hR
    have i0 : (0 : Int) < (n : Int) := by omega
    have i0' : 0 < n := by omega
    have i1 : (1 : Int) < (n : Int) := by omega
    have i2 : (2 : Int) < (n : Int) := by omega
    have i3 : (3 : Int) < (n : Int) := by omega
    have i4 : (4 : Int) ≤ (n : Int) := by omega
    have i5 : (n : Int) ≤ (cap : Int) := by omega
    have m1 : IntKind.u32.wrap (256 * (d1.toNat : Int)) = 256 * (d1.toNat : Int) := by rw [IntKind.wrap_u32]; omega
    have m2 : IntKind.u32.wrap (65536 * (d2.toNat : Int)) = 65536 * (d2.toNat : Int) := by rw [IntKind.wrap_u32]; omega
    have m3 : IntKind.u32.wrap (16777216 * (d3.toNat : Int)) = 16777216 * (d3.toNat : Int) := by rw [IntKind.wrap_u32]; omega
    have a1 : IntKind.u32.wrap ((d0.toNat : Int) + 256 * (d1.toNat : Int)) = (d0.toNat : Int) + 256 * (d1.toNat : Int) := by rw [IntKind.wrap_u32]; omega
    have a2 : IntKind.u32.wrap ((d0.toNat : Int) + 256 * (d1.toNat : Int) + 65536 * (d2.toNat : Int)) = (d0.toNat : Int) + 256 * (d1.toNat : Int) + 65536 * (d2.toNat : Int) := by rw [IntKind.wrap_u32]; omega
    have a3 : IntKind.u32.wrap ((d0.toNat : Int) + 256 * (d1.toNat : Int) + 65536 * (d2.toNat : Int) + 16777216 * (d3.toNat : Int)) = (d0.toNat : Int) + 256 * (d1.toNat : Int) + 65536 * (d2.toNat : Int) + 16777216 * (d3.toNat : Int) := by rw [IntKind.wrap_u32]; omega
    have hbne : b ≠ w.heap.size + 1 := by
      intro e
      subst e
      rw [cell_of_block hR] at e0
      exact in_no_byte _ _ _ _ _ _ e0
    have hk : ∀ v v' blk j x, blk ≠ w.heap.size + 1 → w2.cell? ⟨blk, j, none⟩ = some x → (((w2.setCell ⟨w.heap.size + 1, 0, none⟩ v).setCell ⟨w.heap.size + 1, 1, none⟩ v').drew).cell? ⟨blk, j, none⟩ = some x := fun v v' blk j x hne h =>
      (grownBy_trans (grownBy_trans (grownBy_setCell w2 (w.heap.size + 1) 0 v) (grownBy_setCell _ _ 1 v')) (grownBy_drew _ _)).cell h (by intro e; injection e with e; exact hne e)
    have hks : ∀ v v', (fun w' : World => w'.cell? ⟨w.heap.size, 0, none⟩ = some (.slice (some ⟨b, off, none⟩) n cap) ∧ w'.cell? ⟨b, off, none⟩ = some (.int .u8 (d0.toNat : Int)) ∧ w'.cell? ⟨b, off + 1, none⟩ = some (.int .u8 (d1.toNat : Int)) ∧ w'.cell? ⟨b, off + 2, none⟩ = some (.int .u8 (d2.toNat : Int)) ∧ w'.cell? ⟨b, off + 3, none⟩ = some (.int .u8 (d3.toNat : Int))) (((w2.setCell ⟨w.heap.size + 1, 0, none⟩ v).setCell ⟨w.heap.size + 1, 1, none⟩ v').drew) := fun v v' => ⟨hk v v' _ _ _ (by omega) c0, hk v v' _ _ _ hbne e0, hk v v' _ _ _ hbne e1, hk v v' _ _ _ hbne e2, hk v v' _ _ _ hbne e3⟩
    have HK := Lib.hid hks
    have HN := Lib.hid hn
    have HB := Lib.hid hb
    clear hk hks hA hR hb hf hin h4 hn
    go_enter Try.func29, Try.ntmps29
    go_upto_region 1 with (fail)
    change Code.wp _ _ _ _ ((w.alloc (.cells (inCells (some ⟨b, off, none⟩) n cap false) 42)).alloc (.cells (inCells none 0 0 false) 42))
    rw [← hw2]
    clear hw2
    go_wp2_with fail
    go_region_held3 (fun w' => w'.cell? ⟨w.heap.size, 0, none⟩ = some (.slice (some ⟨b, off, none⟩) n cap) ∧ w'.cell? ⟨b, off, none⟩ = some (.int .u8 (d0.toNat : Int)) ∧ w'.cell? ⟨b, off + 1, none⟩ = some (.int .u8 (d1.toNat : Int)) ∧ w'.cell? ⟨b, off + 2, none⟩ = some (.int .u8 (d2.toNat : Int)) ∧ w'.cell? ⟨b, off + 3, none⟩ = some (.int .u8 (d3.toNat : Int))) (first | (go_keep; done) | exact HK.out _ _) (fail)
    have hbt : InAt w (if cap = 4 then some ⟨b, off, none⟩ else some ⟨b, off + 4, none⟩) (cap - 4) r := by
      have hr : r.length = n - 4 := by rw [HN.out]; simp
      refine ⟨?_, by omega, by omega⟩
      by_cases hz : cap = 4
      · have : r = [] := List.eq_nil_of_length_eq_zero (by omega)
        rw [this]
        exact BytesAt.nil _ _
      · rw [if_neg hz]
        exact BytesAt.drop' HB.out.1 4
    have hrl : r.length = n - 4 := by rw [HN.out]; simp
    have HBT := Lib.hid hbt
    have HRL := Lib.hid hrl
    clear hbt hrl
    revert HBT
    generalize (if cap = 4 then (some ⟨b, off, none⟩ : Option Addr) else some ⟨b, off + 4, none⟩) = AA
    intro HBT
    have h1 := heap_setCell_same w2 (w.heap.size + 1) 0 _ _ (.slice AA (n - 4) (cap - 4)) HR.out
    have h2 := heap_setCell_same _ (w.heap.size + 1) 1 _ _ (.bool false) h1
    have H2 := Lib.hid h2
    clear h1 h2
    go_wp2_with fail
    refine bodyPost_ret (v := .tuple #[.int .u32 ((d0.toNat : Int) + 256 * (d1.toNat : Int) + 65536 * (d2.toNat : Int) + 16777216 * (d3.toNat : Int)), .agg (inCells AA (n - 4) (cap - 4) false)]) (results_tmp_row rfl _ _ (w.heap.size + 1) 42 (inCells AA (n - 4) (cap - 4) false) (0, 0) _ _ rfl H2.out Try.underlying42 rfl (sizeIn _ _ _ _) (by show Value.int .u32 _ = _; congr 1; simp only [IntKind.wrap_u32]; omega)) rfl ?_
    have hbe : Below w.heap.size w (((w2.setCell ⟨w.heap.size + 1, 0, none⟩ (.slice AA (n - 4) (cap - 4))).setCell ⟨w.heap.size + 1, 1, none⟩ (.bool false)).drew) := ((hb2.setCell (by show w.heap.size ≤ w.heap.size + 1; omega) _).setCell (by show w.heap.size ≤ w.heap.size + 1; omega) _).drew
    refine ⟨hbe, Or.inr ⟨AA, cap - 4, hn4, ?_, HBT.out.later hbe⟩⟩
    rw [leVal_four]
    show _ = Ending.returned (.tuple #[_, .agg (inCells AA r.length (cap - 4) false)])
    rw [HRL.out]
    simp
end Go.Proofs.Ytcdklimpekknnab
