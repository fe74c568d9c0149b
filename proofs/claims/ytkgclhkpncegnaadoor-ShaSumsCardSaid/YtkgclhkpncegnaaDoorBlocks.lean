/-
  Blocks, one behind the other.
-/
import Derived.Test.YtkgclhkpncegnaaDoorBlock
namespace Go.Proofs.YtkgclhkpncegnaaDoor
open Go.RowKit
set_option linter.unusedSimpArgs false
set_option linter.unusedVariables false

def blocksS (l : List UInt8) (s : St) : Nat → St
  | 0 => s
  | i + 1 => blockS ((l.drop (64 * i)).take 64) (blocksS l s i)

theorem blockAt_part {w : World} {b off : Nat} {l : List UInt8} (hb : BytesAt w (some ⟨b, off, none⟩) l) (m : Nat) (hm : m + 64 ≤ l.length) : BlockAt w b (off + m) ((l.drop m).take 64) := by
  intro i hi
  have h1 : ((l.drop m).take 64).getD i 0 = l[m + i]'(by omega) := by
    have : i < ((l.drop m).take 64).length := by simp; omega
    rw [List.getD_eq_getElem?_getD, List.getElem?_eq_getElem this]
    simp
  rw [h1, Nat.add_assoc]
  exact hb.at (m + i) (by omega)
theorem BytesAt.later' {w w' : World} {a : Option Addr} {l : List UInt8} (hb : BytesAt w a l) (h : Below w.heap.size w w') : BytesAt w' a l := by
  intro i hi
  obtain ⟨b, off, h1, h2⟩ := hb i hi
  exact ⟨b, off, h1, cell_later h h2⟩

set_option maxHeartbeats 2000000 in
set_option maxRecDepth 100000 in
theorem blocks_any (a : Option Addr) (l : List UInt8) (cap n : Nat) (s : St) (w : World) (hl : l.length = 64 * n) (hmax : l.length ≤ 9223372036854775807) (hcap : l.length ≤ cap) (hb : BytesAt w a l) (hk : KeysAt w) :
    Calls Tryd.prog 21 #[.agg (rowS s), .slice a l.length cap] w fun e w' => e = .returned (.agg (rowS (blocksS l s n))) ∧ Below w.heap.size w w' := by
  obtain ⟨X, hX⟩ : ∃ X, X = rowS s := ⟨_, rfl⟩
  obtain ⟨w1, hw1⟩ : ∃ w1, w1 = (w.alloc (.cells X 47)).alloc (.cells lit8 47) := ⟨_, rfl⟩
  have hs1 : w1.heap.size = w.heap.size + 2 := by rw [hw1]; simp
  have hb1 : Below w.heap.size w w1 := by rw [hw1]; exact ((Below.refl _ w).alloc (Nat.le_refl _) _).alloc (by simp) _
  have hx1 : w1.heap[w.heap.size]? = some (.cells X 47 (0, 0)) := by
    rw [hw1, heap_alloc_old _ _ (by simp)]; exact heap_alloc_new w _
  have hr1 : w1.heap[w.heap.size + 1]? = some (.cells lit8 47 (0, 0)) := by
    rw [hw1, show w.heap.size + 1 = (w.alloc (.cells X 47)).heap.size by simp]; exact heap_alloc_new _ _
  rw [← hX]
  have HX := Lib.hid hX
  have HW1 := Lib.hid hw1
  have HS1 := Lib.hid hs1
  have HBB := Lib.hid hb1
  have HXX := Lib.hid hx1
  have HRR := Lib.hid hr1
  have HK := Lib.hid hk
  have HL := Lib.hid hl
  clear hX hw1 hs1 hb1 hx1 hr1 hk hl
  go_enter Tryd.func21, Tryd.ntmps21
  go_upto_region 1 with (fail)
  change Code.wp _ _ _ _ ((w.alloc (.cells X 47)).alloc (.cells lit8 47))
  rw [← HW1.out]
  go_wp2_with fail
  go_loopw [5] (fun s5 wr => ∃ k : Nat, k ≤ n ∧ s5 = .int .i64 ((64 * k : Nat) : Int) ∧ wr.heap[w.heap.size]? = some (.cells (rowS (blocksS l s k)) 47 (0, 0)) ∧ wr.heap[w.heap.size + 1]? = some (.cells lit8 47 (0, 0)) ∧ Below w.heap.size w wr) (fun s5 _ => l.length - (intOf s5).toNat)
  case atStart => exact ⟨0, by omega, rfl, by rw [blocksS, ← HX.out]; exact HXX.out, HRR.out, HBB.out⟩
  case round =>
    obtain ⟨k, hkn, rfl, hg, hr, hbr⟩ := hrel
    obtain ⟨m, hm⟩ : ∃ m, m = 64 * k := ⟨_, rfl⟩
    by_cases hlt : k < n
    · have hml : m + 64 ≤ l.length := by rw [HL.out, hm]; omega
      obtain ⟨b, off, rfl⟩ := hb.addr (show 0 < l.length by omega)
      have hlt0 := lt_of_block hg
      have hlt1 := lt_of_block hr
      obtain ⟨S, hS⟩ : ∃ x, x = blocksS l s k := ⟨_, rfl⟩
      rw [← hS] at hg
      obtain ⟨Y, hY⟩ : ∃ Y, Y = rowS S := ⟨_, rfl⟩
      rw [← hY] at hg
      have hYs : (Tryd.prog.info? 47).map (·.size) = some Y.size := by rw [hY, rowS_size]; kernel_rfl
      obtain ⟨Z, hZ⟩ : ∃ Z, Z = rowS (blockS ((l.drop m).take 64) S) := ⟨_, rfl⟩
      have hZ1 : Z.all (·.oneCell') = true := by rw [hZ]; exact rowS_all _
      have hZs : (Tryd.prog.info? 47).map (·.size) = some Z.size := by rw [hZ, rowS_size]; kernel_rfl
      have hYZ : Y.size = Z.size := by rw [hZ, hY, rowS_size, rowS_size]
      have hld : ∀ w', Below wr.heap.size wr w' → w'.heap[w.heap.size]? = some (.cells Y 47 (0, 0)) := fun w' h => by rw [h.block _ hlt0]; exact hg
      have hcl : ∀ w', Below wr.heap.size wr w' → Calls Tryd.prog 35 #[.agg Y, .slice (some ⟨b, off + m, none⟩) 64 (cap - m)] w' fun e w'' => e = .returned (.agg Z) ∧ Below wr.heap.size wr w'' := by
        intro w' h
        have hw : Below w.heap.size w w' := hbr.trans (h.mono hbr.size)
        have h64 : ((l.drop m).take 64).length = 64 := by simp; omega
        have hc := block_any b (off + m) (cap - m) ((l.drop m).take 64) S w' h64 (blockAt_part (BytesAt.later' hb hw) m hml) (fun i hi => cell_later hw (HK.out i hi))
        rw [← hY, ← hZ] at hc
        exact hc.mono fun _ _ hh => ⟨hh.1, h.trans (hh.2.mono h.size)⟩
      rw [← hm]
      have HYS := Lib.hid hYs
      have HZ := Lib.hid hZ
      have HZ1 := Lib.hid hZ1
      have HZS := Lib.hid hZs
      have HYZ := Lib.hid hYZ
      have HLD := Lib.hid hld
      have HCL := Lib.hid hcl
      have HG := Lib.hid hg
      have HR := Lib.hid hr
      have HM := Lib.hid hm
      have HSS := Lib.hid hS
      have HBR := Lib.hid hbr
      have hmlt : m < l.length := by omega
      clear hYs hZ hZ1 hZs hYZ hld hcl hg hr hm hS hY hbr
      go_upto_region 4 with (fail)
      refine wp_region_quiet_tail (C := fun w' => Below wr.heap.size wr w') 7 (by kernel_rfl) (by kernel_rfl) (by kernel_rfl) (by kernel_rfl) ((Below.refl _ wr).drew) ?_
      simp only [List.take_succ_cons, List.take_zero, List.drop_succ_cons, List.drop_zero]
      repeat (first
        | go_big_quiet_skip
        | (go_big_quiet_want
           first
             | (refine quiet_load_row' 47 (.tmp 2) rfl w.heap.size rfl 47 Y (0, 0) _ HLD.out Tryd.underlying47 rfl HYS.out ?_
                simp only [Act.put, List.setIfInBounds_toArray, List.set_cons_zero, List.set_cons_succ]
                go_big_quiet_on)
             | (refine quiet_enter' _ _ _ ?_ HCL.out ?_
                · intro w; go_simp
                simp only [Act.put, List.setIfInBounds_toArray, List.set_cons_zero, List.set_cons_succ]
                go_big_quiet_on)
             | (go_big_quiet_op
                first | refine ⟨_, fun _ _ => rfl, ?_⟩ | refine ⟨_, fun _ _ _ => rfl, ?_⟩ | refine ⟨_, fun _ _ _ _ => rfl, ?_⟩
                go_big_quiet_on)
             | (go_big_quiet_op
                go_big_quiet_on)))
      refine wpQuiet_nil ?_
      intro w5 hb5
      have h5 := HLD.out w5 hb5
      have hs5 := setRow_heap w5 w.heap.size Y Z _ _ h5
      have HL5 := Lib.hid h5
      have HS5 := Lib.hid hs5
      clear h5 hs5
      go_wp2_with (first | (refine wpList_store_row rfl 47 (.tmp 2) (.tmp 18) rfl w.heap.size Z rfl rfl 47 Y HL5.out HZS.out HYZ.out HZ1.out ?_))
      have hm := HM.out
      refine ⟨⟨k + 1, by omega, ?_, ?_, ?_, ?_⟩, ?_⟩
      · congr 1
        omega
      · rw [blocksS, ← HM.out, ← HSS.out, ← HZ.out]
        exact HS5.out
      · rw [setRow_other _ _ _ _ (by omega), hb5.block _ hlt1]
        exact HR.out
      · exact below_setRow (HBR.out.trans (hb5.mono HBR.out.size)) (Nat.le_refl _) Z
      · simp [intOf]
        omega
    · have hkn' : k = n := by omega
      subst hkn'
      have hle : ¬ ((64 * k : Nat) : Int) < (l.length : Int) := by rw [HL.out]; omega
      obtain ⟨Z, hZ⟩ : ∃ x, x = rowS (blocksS l s k) := ⟨_, rfl⟩
      have hZ1 : Z.all (·.oneCell') = true := by rw [hZ]; exact rowS_all _
      have hZs : (Tryd.prog.info? 47).map (·.size) = some Z.size := by rw [hZ, rowS_size]; kernel_rfl
      have hZ8 : lit8.size = Z.size := by rw [hZ, rowS_size]; rfl
      rw [← hZ] at hg
      rw [← hm]
      rw [← hm] at hle
      have HGG := Lib.hid hg
      have HRE := Lib.hid hr
      have HZ := Lib.hid hZ
      have HZ1 := Lib.hid hZ1
      have HZS := Lib.hid hZs
      have HZ8 := Lib.hid hZ8
      have hlm : l.length = m := by rw [HL.out, hm]
      clear hg hr hZ hZ1 hZs hZ8 hm
      go_wp2_with (first | (refine wpList_load_row rfl 47 (.tmp 2) rfl w.heap.size rfl 47 Z (0, 0) _ HGG.out Tryd.underlying47 rfl HZS.out ?_) | (refine wpList_store_row rfl 47 (.tmp 4) (.tmp 19) rfl (w.heap.size + 1) Z rfl rfl 47 lit8 HRE.out HZS.out HZ8.out HZ1.out ?_))
      refine bodyPost_ret (v := .agg Z) (results_cell_row rfl _ _ (w.heap.size + 1) 47 Z (0, 0) _ rfl (setRow_heap wr (w.heap.size + 1) _ Z _ _ HRE.out) Tryd.underlying47 rfl HZS.out) rfl ?_
      exact ⟨by rw [HZ.out], below_setRow hbr (by omega) Z⟩
end Go.Proofs.YtkgclhkpncegnaaDoor
