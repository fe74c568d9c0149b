/-
  A Named: ID, Of, Bytes.
-/
import Derived.Test.YtkgclhkpncegnaaDoorNamed
import Derived.Laws.MakeOwn
import Derived.Laws.CopyOwn
namespace Go.Proofs.YtkgclhkpncegnaaDoor
open Go.RowKit
set_option linter.unusedSimpArgs false
set_option linter.unusedVariables false

theorem setRow_grown (w : World) (g : Nat) (X : Array Value) : w.grownBy (w.setRow g X) (some g) := ⟨rfl, rfl, rfl, by simp, fun k _ hk => setRow_other w g k _ (fun e => hk (by rw [e]))⟩
theorem grownBy_own' {w w1 w2 : World} {b g : Nat} (h : w.grownBy w1 (some b)) (hg : w1.grownBy w2 (some g)) (hb : w.heap.size ≤ g) : w.grownBy w2 (some b) :=
  ⟨hg.os.trans h.os, hg.tape.trans h.tape, hg.output.trans h.output, Nat.le_trans h.size hg.size, fun k hk hr => (hg.block k (Nat.lt_of_lt_of_le hk h.size) (by intro e; injection e with e; omega)).trans (h.block k hk hr)⟩

set_option maxRecDepth 100000 in
set_option maxHeartbeats 1600000 in
theorem id_first (b : Nat) (a : Option Addr) (l : List UInt8) (cap : Nat) (sm : Int) (V : List Value) (w : World) (hN : NamedAt w b (.slice a l.length cap) 0 0 sm V 0)
    (hb : BytesAt w a l) (hba : ∀ x, a = some x → x.block ≠ b) (hcap : a = none → cap = 0) (hlc : l.length ≤ cap) (hc : cap ≤ 9223372036854775807) (hk : KeysAt w) (hb0 : b ≠ 0) :
    Calls Tryd.prog 13 #[.pointer (some ⟨b, 0, none⟩)] w fun e w' => e = .returned (.agg (bvs (sumL l)).toArray) ∧ NamedAt w' b (.slice a l.length cap) 1 0 sm (bvs (sumL l)) 1 ∧ w.grownBy w' (some b) := by
  obtain ⟨w1, hw1⟩ : ∃ w1, w1 = (w.alloc (.cells #[.pointer (some ⟨b, 0, none⟩)] 33)).alloc (.cells (Array.replicate 32 (.int .u8 0)) 29) := ⟨_, rfl⟩
  have hb1 : Below w.heap.size w w1 := by rw [hw1]; exact ((Below.refl _ w).alloc (Nat.le_refl _) _).alloc (by simp) _
  have hp1h : w1.heap[w.heap.size]? = some (.cells #[.pointer (some ⟨b, 0, none⟩)] 33 (0, 0)) := by
    rw [hw1, heap_alloc_old _ _ (by simp)]; exact heap_alloc_new w _
  have hr1 : w1.heap[w.heap.size + 1]? = some (.cells (Array.replicate 32 (.int .u8 0)) 29 (0, 0)) := by
    rw [hw1, show w.heap.size + 1 = (w.alloc (.cells #[.pointer (some ⟨b, 0, none⟩)] 33)).heap.size by simp]; exact heap_alloc_new _ _
  have hp1 : w1.cell? ⟨w.heap.size, 0, none⟩ = some (.pointer (some ⟨b, 0, none⟩)) := by rw [cell_of_block hp1h]; rfl
  have hbw := hN.lt
  have hs1 : w1.heap.size = w.heap.size + 2 := by rw [hw1]; simp
  have hN1 : NamedAt w1 b (.slice a l.length cap) 0 0 sm V 0 := hN.keep (grownBy_below hb1 none) (by simp)
  have hdo := do_first b ⟨w.heap.size, 0, none⟩ a l cap sm V w1 hN1 hp1 (by simp; omega) (BytesAt.later' hb hb1) hba hcap hlc hc (fun i hi => cell_later hb1 (hk i hi)) hb0
  obtain ⟨X, hX⟩ : ∃ X, X = (bvs (sumL l)).toArray := ⟨_, rfl⟩
  have hXz : X.size = 32 := by rw [hX, sumL, ← brow_all, brow_size]
  have hX1 : X.all (·.oneCell') = true := by rw [hX]; simpa using bvs_oneCell (sumL l)
  have hXs : (Tryd.prog.info? 29).map (·.size) = some X.size := by rw [hXz]; kernel_rfl
  have hXl : X.toList = bvs (sumL l) := by rw [hX]
  have hX32 : (Array.replicate 32 (Value.int .u8 0)).size = X.size := by rw [hXz]; rfl
  have hXs2 : (Tryd.prog.info? 29).map (·.size) = some (bvs (sumL l)).length := by rw [hXs, ← hXl]; simp
  have hmf : ∀ (fn : Fn) (first cap : Array Value) (w : World), (Instr.makeFunc fn first cap).run Tryd.prog w = .ok (.func fn first cap) w := fun _ _ _ _ => rfl
  rw [← hX]
  have HW1 := Lib.hid hw1
  have HB1 := Lib.hid hb1
  have HP1 := Lib.hid hp1
  have HR1 := Lib.hid hr1
  have HS1 := Lib.hid hs1
  have HDO := Lib.hid hdo
  have HX := Lib.hid hX
  have HX1 := Lib.hid hX1
  have HXS := Lib.hid hXs
  have HXS2 := Lib.hid hXs2
  have HX32 := Lib.hid hX32
  clear hw1 hb1 hp1 hp1h hr1 hs1 hdo hX hXz hX1 hXs hXl hX32 hXs2 hN hN1 hb hk
  go_enter Tryd.func13, Tryd.ntmps13
  go_upto_region 1 with (fail)
  change Code.wp _ _ _ _ ((w.alloc (.cells #[.pointer (some ⟨b, 0, none⟩)] 33)).alloc (.cells (Array.replicate 32 (.int .u8 0)) 29))
  rw [← HW1.out]
  have hp1 := HP1.out
  go_upto_region 2 with (go_at_call 29; refine HDO.out.mono ?_; rintro e w2 ⟨rfl, hN2, hg2⟩; clear hp1)
  have hp2 : w2.cell? ⟨w.heap.size, 0, none⟩ = some (.pointer (some ⟨b, 0, none⟩)) := hg2.cell HP1.out (by intro e; injection e with e; simp at e; omega)
  have hr2 : w2.heap[w.heap.size + 1]? = some (.cells (Array.replicate 32 (.int .u8 0)) 29 (0, 0)) := by
    rw [hg2.block _ (by rw [HS1.out]; omega) (by intro e; injection e with e; omega)]; exact HR1.out
  have HR2 := Lib.hid hr2
  have HN2 := Lib.hid hN2
  have HG2 := Lib.hid hg2
  clear hr2 hN2 hg2
  go_wp2_with (first | (refine wpList_load_mid rfl 29 (.tmp 10) rfl b 4 rfl (bvs (sumL l)) _ HN2.out.range Tryd.underlying29 rfl HXS2.out ?_; rw [← HX.out]) | (refine wpList_store_row rfl 29 (.tmp 2) (.tmp 11) rfl (w.heap.size + 1) X rfl rfl 29 _ HR2.out HXS.out HX32.out HX1.out ?_))
  refine bodyPost_ret (v := .agg X) (results_cell_row rfl _ _ (w.heap.size + 1) 29 X (0, 0) _ rfl (setRow_heap w2 (w.heap.size + 1) _ X _ _ HR2.out) Tryd.underlying29 rfl HXS.out) rfl ?_
  refine ⟨rfl, HN2.out.keep (row := some (w.heap.size + 1)) (setRow_grown _ _ _) (by intro e; injection e with e; omega), ?_⟩
  exact grownBy_own' (grownBy_trans (grownBy_below HB1.out _) HG2.out) (setRow_grown _ _ _) (by omega)

set_option maxRecDepth 100000 in
set_option maxHeartbeats 1600000 in
theorem id_again (b : Nat) (v : Value) (st sm : Int) (l : List UInt8) (s : Int) (w : World) (hN : NamedAt w b v 1 st sm (bvs (sumL l)) s) :
    Calls Tryd.prog 13 #[.pointer (some ⟨b, 0, none⟩)] w fun e w' => e = .returned (.agg (bvs (sumL l)).toArray) ∧ Below w.heap.size w w' := by
  obtain ⟨w1, hw1⟩ : ∃ w1, w1 = (w.alloc (.cells #[.pointer (some ⟨b, 0, none⟩)] 33)).alloc (.cells (Array.replicate 32 (.int .u8 0)) 29) := ⟨_, rfl⟩
  have hb1 : Below w.heap.size w w1 := by rw [hw1]; exact ((Below.refl _ w).alloc (Nat.le_refl _) _).alloc (by simp) _
  have hp1h : w1.heap[w.heap.size]? = some (.cells #[.pointer (some ⟨b, 0, none⟩)] 33 (0, 0)) := by
    rw [hw1, heap_alloc_old _ _ (by simp)]; exact heap_alloc_new w _
  have hr1 : w1.heap[w.heap.size + 1]? = some (.cells (Array.replicate 32 (.int .u8 0)) 29 (0, 0)) := by
    rw [hw1, show w.heap.size + 1 = (w.alloc (.cells #[.pointer (some ⟨b, 0, none⟩)] 33)).heap.size by simp]; exact heap_alloc_new _ _
  have hp1 : w1.cell? ⟨w.heap.size, 0, none⟩ = some (.pointer (some ⟨b, 0, none⟩)) := by rw [cell_of_block hp1h]; rfl
  have hN1 : NamedAt w1 b v 1 st sm (bvs (sumL l)) s := hN.keep (grownBy_below hb1 none) (by simp)
  have hdo := fun fv => do_done b fv w1 hN1.c1
  obtain ⟨X, hX⟩ : ∃ X, X = (bvs (sumL l)).toArray := ⟨_, rfl⟩
  have hXz : X.size = 32 := by rw [hX, sumL, ← brow_all, brow_size]
  have hX1 : X.all (·.oneCell') = true := by rw [hX]; simpa using bvs_oneCell (sumL l)
  have hXs : (Tryd.prog.info? 29).map (·.size) = some X.size := by rw [hXz]; kernel_rfl
  have hXl : X.toList = bvs (sumL l) := by rw [hX]
  have hX32 : (Array.replicate 32 (Value.int .u8 0)).size = X.size := by rw [hXz]; rfl
  have hXs2 : (Tryd.prog.info? 29).map (·.size) = some (bvs (sumL l)).length := by rw [hXs, ← hXl]; simp
  have hmf : ∀ (fn : Fn) (first cap : Array Value) (w : World), (Instr.makeFunc fn first cap).run Tryd.prog w = .ok (.func fn first cap) w := fun _ _ _ _ => rfl
  rw [← hX]
  have HW1 := Lib.hid hw1
  have HB1 := Lib.hid hb1
  have HR1 := Lib.hid hr1
  have HN1 := Lib.hid hN1
  have HDO := Lib.hid hdo
  have HX := Lib.hid hX
  have HX1 := Lib.hid hX1
  have HXS := Lib.hid hXs
  have HXS2 := Lib.hid hXs2
  have HX32 := Lib.hid hX32
  clear hw1 hb1 hp1h hr1 hdo hX hXz hX1 hXs hXl hX32 hXs2 hN hN1
  go_enter Tryd.func13, Tryd.ntmps13
  go_upto_region 1 with (fail)
  change Code.wp _ _ _ _ ((w.alloc (.cells #[.pointer (some ⟨b, 0, none⟩)] 33)).alloc (.cells (Array.replicate 32 (.int .u8 0)) 29))
  rw [← HW1.out]
  go_wp2_with (first | (go_at_call 29; refine (HDO.out _).mono ?_; rintro e w2 ⟨rfl, rfl⟩) | (refine wpList_load_mid rfl 29 (.tmp 10) rfl b 4 rfl (bvs (sumL l)) _ HN1.out.range Tryd.underlying29 rfl HXS2.out ?_; rw [← HX.out]) | (refine wpList_store_row rfl 29 (.tmp 2) (.tmp 11) rfl (w.heap.size + 1) X rfl rfl 29 _ HR1.out HXS.out HX32.out HX1.out ?_))
  refine bodyPost_ret (v := .agg X) (results_cell_row rfl _ _ (w.heap.size + 1) 29 X (0, 0) _ rfl (setRow_heap _ (w.heap.size + 1) _ X _ _ HR1.out) Tryd.underlying29 rfl HXS.out) rfl ?_
  exact ⟨rfl, below_setRow HB1.out (by omega) X⟩
end Go.Proofs.YtkgclhkpncegnaaDoor
