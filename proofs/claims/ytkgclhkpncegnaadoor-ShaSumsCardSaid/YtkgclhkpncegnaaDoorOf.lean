/-
  Of, Bytes: bytes in memory of their own.
-/
import Derived.Test.YtkgclhkpncegnaaDoorNamedID
namespace Go.Proofs.YtkgclhkpncegnaaDoor
open Go.RowKit
set_option linter.unusedSimpArgs false
set_option linter.unusedVariables false

theorem run_make_n (w : World) (n : Nat) (h : n ≤ 281474976710656) :
    (Instr.makeSlice 22 (.int .i64 (n : Int)) (.int .i64 (n : Int))).run Tryd.prog w = .ok (.slice (some ⟨w.heap.size, 0, none⟩) n n) (w.alloc (.cells (zeros n).toArray 5)) := by
  obtain ⟨i0, hi, hz0, hz1, hz2⟩ := info_parts infoByte
  have hr := run_make (P := Tryd.prog) w 22 5 i0 _ Tryd.underlying22 hi hz0 .i64 .i64 (n : Int) (n : Int) (by omega) (by omega) (by rw [hz2]; omega) (by omega)
  rw [hr, hz1]
  rw [Int.toNat_natCast, Nat.mul_one]
  have e2 : madeCells (Value.int .u8 0).cells n = (zeros n).toArray := by
    apply Array.toList_inj.1
    show (madeCells #[Value.int .u8 0] n).toList = _
    rw [toList_madeCells_one]
    rfl
  rw [e2]


set_option maxRecDepth 100000 in
set_option maxHeartbeats 1000000 in
theorem cloned_any (a : Option Addr) (l : List UInt8) (cap : Nat) (w : World) (hb : BytesAt w a l) (hl : l.length ≤ 281474976710656) :
    Calls Tryd.prog 27 #[.slice a l.length cap] w fun e w' => ∃ g, e = .returned (.slice (some ⟨g, 0, none⟩) l.length l.length) ∧ w.heap.size ≤ g ∧ w'.heap[g]? = some (.cells (bvs l).toArray 5 (0, 0)) ∧ Below w.heap.size w w' := by
  have hmk := run_make_n w l.length hl
  obtain ⟨w1, hw1⟩ : ∃ w1, w1 = w.alloc (.cells (zeros l.length).toArray 5) := ⟨_, rfl⟩
  have hb1 : Below w.heap.size w w1 := by rw [hw1]; exact (Below.refl _ w).alloc (Nat.le_refl _) _
  have hg1 : w1.heap[w.heap.size]? = some (.cells (zeros l.length).toArray 5 (0, 0)) := by rw [hw1]; exact heap_alloc_new w _
  rw [← hw1] at hmk
  have hbt := BytesAt.later' hb hb1
  have HB1 := Lib.hid hb1
  have HG1 := Lib.hid hg1
  have HBT := Lib.hid hbt
  have HW1 := Lib.hid hw1
  clear hb1 hg1 hbt hw1 hb
  go_enter Tryd.func27, Tryd.ntmps27
  go_upto_region 2 with (fail)
  cases l with
  | nil =>
    go_wp2_with (refine wpList_copy_nothing rfl (.tmp 7) (.tmp 8) 22 22 rfl 5 Tryd.underlying22 sizeByte (some ⟨w.heap.size, 0, none⟩) a 0 0 0 cap rfl rfl (by simp) ?_)
    go_ret
    exact ⟨_, rfl, Nat.le_refl _, HG1.out, HB1.out⟩
  | cons c0 l0 =>
    obtain ⟨l, hll⟩ : ∃ l, l = c0 :: l0 := ⟨_, rfl⟩
    rw [← hll] at HG1 HBT hmk ⊢
    obtain ⟨b, off, rfl⟩ := HBT.out.addr (by rw [hll]; simp)
    have hn : (bvs l).length = Nat.min l.length l.length := by rw [bvs_length]; simp
    have hsrc : ∀ j v, (bvs l)[j]? = some v → w1.cell? ((⟨b, off, none⟩ : Addr).add j) = some v := by
      intro j v hj
      have hj' : j < l.length := by
        have := (List.getElem?_eq_some_iff.1 hj).1
        rwa [bvs_length] at this
      rw [add_plain, HBT.out.at j hj']
      rw [bvs_get l j hj'] at hj
      exact hj
    have HN := Lib.hid hn
    have HSRC := Lib.hid hsrc
    clear hn hsrc
    go_wp2_with (refine wpList_copy_own rfl (.tmp 7) (.tmp 8) 22 22 rfl 5 Tryd.underlying22 sizeByte w.heap.size 0 l.length l.length ⟨b, off, none⟩ l.length cap rfl rfl (zeros l.length).toArray 5 HG1.out (bvs l) HN.out HSRC.out (by simp [zeros, bvs_length]) (bvs_oneCell l) ?_)
    go_ret
    refine ⟨_, rfl, Nat.le_refl _, ?_, below_setRow HB1.out (Nat.le_refl _) _⟩
    rw [setRow_heap _ _ _ _ _ _ HG1.out]
    simp [zeros, bvs_length, hll]

set_option maxRecDepth 100000 in
set_option maxHeartbeats 1000000 in
theorem of_any (a : Option Addr) (l : List UInt8) (cap : Nat) (w : World) (hb : BytesAt w a l) (hl : l.length ≤ 281474976710656) :
    Calls Tryd.prog 11 #[.slice a l.length cap] w fun e w' => ∃ b g, e = .returned (.pointer (some ⟨b, 0, none⟩)) ∧ w.heap.size ≤ g ∧ g < b ∧ w'.heap[g]? = some (.cells (bvs l).toArray 5 (0, 0)) ∧
      NamedAt w' b (.slice (some ⟨g, 0, none⟩) l.length l.length) 0 0 0 (zeros 32) 0 ∧ Below w.heap.size w w' := by
  have hcl := cloned_any a l cap w hb hl
  have HCL := Lib.hid hcl
  clear hcl hb
  go_enter Tryd.func11, Tryd.ntmps11
  go_wp2_with (go_at_call 27; refine HCL.out.mono ?_; rintro e w2 ⟨g, rfl, hg1, hg2, hb2⟩)
  go_ret
  exact ⟨w2.heap.size, g, rfl, hg1, lt_of_block hg2, by rw [heap_alloc_old _ _ (lt_of_block hg2)]; exact hg2, ⟨by simp [zeros], heap_alloc_new w2 _⟩, hb2.alloc hb2.size _⟩

set_option maxRecDepth 100000 in
theorem bytes_any (b : Nat) (a : Option Addr) (l : List UInt8) (cap : Nat) (d st sm : Int) (V : List Value) (s : Int) (w : World) (hN : NamedAt w b (.slice a l.length cap) d st sm V s) (hb : BytesAt w a l) (hl : l.length ≤ 281474976710656) :
    Calls Tryd.prog 14 #[.pointer (some ⟨b, 0, none⟩)] w fun e w' => ∃ g, e = .returned (.slice (some ⟨g, 0, none⟩) l.length l.length) ∧ w.heap.size ≤ g ∧ w'.heap[g]? = some (.cells (bvs l).toArray 5 (0, 0)) ∧ Below w.heap.size w w' := by
  have hcl := cloned_any a l cap w hb hl
  have HCL := Lib.hid hcl
  have hc0 := hN.c0
  clear hcl hb hN
  go_enter Tryd.func14, Tryd.ntmps14
  go_wp2_with (go_at_call 27; refine HCL.out.mono ?_; rintro e w2 ⟨g, rfl, hg1, hg2, hb2⟩)
  go_ret
  exact ⟨g, rfl, hg1, hg2, hb2⟩
end Go.Proofs.YtkgclhkpncegnaaDoor
