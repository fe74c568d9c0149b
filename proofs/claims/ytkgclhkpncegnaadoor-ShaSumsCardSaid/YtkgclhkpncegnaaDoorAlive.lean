/-
  alive: the document's example; the table of the constants out of the row's condition.
-/
import Derived.Test.YtkgclhkpncegnaaDoorSumWalk
import Derived.Test.YtkgclhkpncegnaaDoorRows
import Derived.Lib.LaidTab
import Derived.Lib.SlBytesConst
namespace Go.Proofs.YtkgclhkpncegnaaDoor
open Go.RowKit
set_option linter.unusedSimpArgs false
set_option linter.unusedVariables false

theorem keysName : Tryd.prog.globalNamed "pollard/sha.keys" = some 0 := by kernel_rfl
theorem keysType : (Tryd.prog.globals[0]?).map (·.type) = some 89 := by kernel_rfl
theorem keysData : (Rows.laid_pollard_sha_keys : DataW Unit) = Lib.tabData .u32 (keyList.map Int.ofNat) := by rfl
theorem keysList : ∀ i : Fin 64, (keyList.map Int.ofNat).getD i.val 0 = ((keyAt i.val).toNat : Int) := by decide +kernel
theorem keys_of_laid {W : World} (h : laidMet Tryd.prog [("pollard/sha.keys", Rows.laid_pollard_sha_keys)] W) : KeysAt W := by
  rw [keysData] at h
  have hT := Lib.tabIs_of_head keysName keysType Tryd.underlying89 Tryd.underlying45 (by kernel_rfl) (by kernel_rfl) h
  intro i hi
  rw [hT.cell keysName i (by simp [keyList]; omega), keysList ⟨i, hi⟩]

def abcV : Array Value := #[.int .u8 0xba, .int .u8 0x78, .int .u8 0x16, .int .u8 0xbf, .int .u8 0x8f, .int .u8 0x01, .int .u8 0xcf, .int .u8 0xea, .int .u8 0x41, .int .u8 0x41, .int .u8 0x40, .int .u8 0xde, .int .u8 0x5d, .int .u8 0xae, .int .u8 0x22, .int .u8 0x23, .int .u8 0xb0, .int .u8 0x03, .int .u8 0x61, .int .u8 0xa3, .int .u8 0x96, .int .u8 0x17, .int .u8 0x7a, .int .u8 0x9c, .int .u8 0xb4, .int .u8 0x10, .int .u8 0xff, .int .u8 0x61, .int .u8 0xf2, .int .u8 0x00, .int .u8 0x15, .int .u8 0xad]
theorem abcV_eq : (bvs (sumL [97, 98, 99])).toArray = abcV := by rw [sum_abc]; rfl

set_option maxRecDepth 100000 in
set_option maxHeartbeats 1000000 in
theorem alive_any (w : World) (hk : KeysAt w) :
    Calls Tryd.prog 7 #[] w fun e w' => e = .returned (.bool true) ∧ Below w.heap.size w w' := by
  obtain ⟨w1, hw1⟩ : ∃ w1, w1 = w.alloc (.cells #[.int .u8 97, .int .u8 98, .int .u8 99] 5 (3, 4)) := ⟨_, rfl⟩
  have hb1 : Below w.heap.size w w1 := by rw [hw1]; exact (Below.refl _ w).alloc (Nat.le_refl _) _
  have hs1 : w1.heap.size = w.heap.size + 1 := by rw [hw1]; simp
  have h2 := sum_any (some ⟨w.heap.size, 0, none⟩) [97, 98, 99] 3 w1 (by rw [hw1]; exact BytesAt.alloc_mark w _ _ _ _ rfl) (by simp) (by simp) (by omega) (fun i hi => cell_later hb1 (hk i hi))
  rw [abcV_eq] at h2
  have h32 : (Array.replicate 32 (Value.int .u8 0)).size = abcV.size := rfl
  have hV1 : abcV.all (·.oneCell') = true := by simp [abcV, Value.oneCell']
  have hVs : (Tryd.prog.info? 29).map (·.size) = some abcV.size := by kernel_rfl
  have HW1 := Lib.hid hw1
  have H2 := Lib.hid h2
  have HB1 := Lib.hid hb1
  have HS1 := Lib.hid hs1
  have H32 := Lib.hid h32
  have HV1 := Lib.hid hV1
  have HVS := Lib.hid hVs
  clear hw1 h2 hb1 hs1 h32 hV1 hVs
  have kc := fun (w : World) (C : Array Value) (n c : Nat) => Lib.run_convert_bytes_const (P := Tryd.prog) w 22 5 C n c Tryd.underlying22 Tryd.underlying5
  go_enter Tryd.func7, Tryd.ntmps7
  go_wp2_with fail
  change Calls Tryd.prog 9 _ (w.alloc (.cells #[.int .u8 97, .int .u8 98, .int .u8 99] 5 (3, 4))) _
  rw [← HW1.out]
  refine H2.out.mono ?_
  rintro e w2 ⟨rfl, hb2⟩
  obtain ⟨w4, hw4⟩ : ∃ w4, w4 = (w2.alloc (.cells (Array.replicate 32 (.int .u8 0)) 29)).setRow w2.heap.size abcV := ⟨_, rfl⟩
  have hg2 : w4.heap[w2.heap.size]? = some (.cells abcV 29 (0, 0)) := by rw [hw4]; exact setRow_heap _ _ (Array.replicate 32 (.int .u8 0)) abcV _ _ (heap_alloc_new w2 _)
  have hb4 : Below w.heap.size w w4 := by
    rw [hw4]
    exact below_setRow ((HB1.out.trans (hb2.mono HB1.out.size)).alloc (by have := hb2.size; have := HS1.out; omega) _) (by have := hb2.size; have := HS1.out; omega) _
  have c0 := cell_of_block (i := 0) hg2
  have c1 := cell_of_block (i := 1) hg2
  have c2 := cell_of_block (i := 2) hg2
  have c3 := cell_of_block (i := 3) hg2
  have c31 := cell_of_block (i := 31) hg2
  rw [show abcV[0]? = some (.int .u8 0xba) from rfl] at c0
  rw [show abcV[1]? = some (.int .u8 0x78) from rfl] at c1
  rw [show abcV[2]? = some (.int .u8 0x16) from rfl] at c2
  rw [show abcV[3]? = some (.int .u8 0xbf) from rfl] at c3
  rw [show abcV[31]? = some (.int .u8 0xad) from rfl] at c31
  have HB4 := Lib.hid hb4
  have HW4 := Lib.hid hw4
  clear hg2 hb4 hw4
  go_upto_region 2 with (refine wpList_store_row rfl 29 (.tmp 1) (.tmp 4) rfl w2.heap.size abcV rfl rfl 29 (Array.replicate 32 (.int .u8 0)) (heap_alloc_new w2 _) HVS.out H32.out HV1.out ?_)
  change Code.wp _ _ _ _ ((w2.alloc (.cells (Array.replicate 32 (.int .u8 0)) 29)).setRow w2.heap.size abcV)
  rw [← HW4.out]
  go_wp2_with fail
  go_ret
  exact ⟨rfl, HB4.out⟩
end Go.Proofs.YtkgclhkpncegnaaDoor
