/-
  The walks of bytes.Compare, sha.Cmp and the reference's Cmp.
-/
import Derived.Test.YtcgfkgkajifpbaaCmpMath
import Derived.Test.YtcgfkgkajifpbaaDrawn
import Derived.Laws.Externs
import Derived.Lib.BytesEntry
namespace Go.Proofs.Ytcgfkgkajifpbaa
open Go.RowKit

theorem run_loadBytes_list (w : World) (b : Nat) : ∀ (l : List UInt8) (off : Nat) (acc : ByteArray), (∀ i, (h : i < l.length) → w.cell? ⟨b, off + i, none⟩ = some (.int .u8 (l[i].toNat : Int))) →
    (Extern.Bytes.loadBytes ⟨b, off, none⟩ l.length acc).run Try.prog w = .ok ⟨acc.data ++ l.toArray⟩ w
  | [], off, acc, _ => by
    show Sem.run _ (pure acc) w = _
    simp [Sem.run_pure]
  | c :: l, off, acc, h => by
    have h0 := h 0 (by simp)
    rw [Nat.add_zero] at h0
    have ih := run_loadBytes_list w b l (off + 1) (acc.push c) (fun i hi => by
      have := h (i + 1) (by simpa using hi)
      rw [show off + 1 + i = off + (i + 1) by omega]
      simpa using this)
    have hc : ((c.toNat : Int)).toNat.toUInt8 = c := by simp
    rw [List.length_cons]
    unfold Extern.Bytes.loadBytes
    have hl : (load ⟨b, off, none⟩).run Try.prog w = .ok (.int .u8 (c.toNat : Int)) w := by
      go_simp
    rw [Sem.run_bind, hl]
    simp only [Result.andThen, hc, Addr.add_lit]
    rw [ih]
    simp
theorem run_compare (w : World) (b1 b2 o1 o2 c1 c2 : Nat) (l m : List UInt8) (h1 : BytesAt w (some ⟨b1, o1, none⟩) l) (h2 : BytesAt w (some ⟨b2, o2, none⟩) m) :
    (Extern.BytealgCompare.compare #[.slice (some ⟨b1, o1, none⟩) l.length c1, .slice (some ⟨b2, o2, none⟩) m.length c2]).run Try.prog w = .ok (.int .i64 (Lib.compareBytes l m)) w := by
  have e1 := run_loadBytes_list w b1 l o1 .empty (fun i hi => h1.at i hi)
  have e2 := run_loadBytes_list w b2 m o2 .empty (fun i hi => h2.at i hi)
  change Sem.run Try.prog (do pure (goInt (Extern.BytealgCompare.cmp (← Extern.Bytes.loadBytes ⟨b1, o1, none⟩ l.length .empty) (← Extern.Bytes.loadBytes ⟨b2, o2, none⟩ m.length .empty)))) w = _
  simp only [Sem.run_bind, Sem.run_pure, e1, e2, Result.andThen]
  rw [Lib.cmp_eq]
  simp [goInt]

set_option maxRecDepth 100000 in
theorem compare_any (w : World) (b1 b2 o1 o2 c1 c2 : Nat) (l m : List UInt8) (h1 : BytesAt w (some ⟨b1, o1, none⟩) l) (h2 : BytesAt w (some ⟨b2, o2, none⟩) m) :
    Calls Try.prog 15 #[.slice (some ⟨b1, o1, none⟩) l.length c1, .slice (some ⟨b2, o2, none⟩) m.length c2] w fun e w' => e = .returned (.int .i64 (Lib.compareBytes l m)) ∧ w = w' := by
  have hr := run_compare w b1 b2 o1 o2 c1 c2 l m h1 h2
  go_enter Try.func15, Try.ntmps15
  go_wp2
  rw [run_callFunc_extern Try.func16 (by kernel_rfl) (by kernel_rfl) (by kernel_rfl) (e := Extern.BytealgCompare.compare) (by kernel_rfl), hr]
  simp only [Result.andThen]
  rw [Oper.upon_value]
  go_wp2
  go_ret
  exact ⟨rfl, rfl⟩

set_option maxRecDepth 100000 in
set_option maxHeartbeats 1000000 in
theorem cmp_any (l m : List UInt8) (w : World) (hl : l.length = 32) (hm : m.length = 32) :
    Calls Try.prog 11 #[.agg (bvs l).toArray, .agg (bvs m).toArray] w fun e w' => e = .returned (.int .i64 (Lib.compareBytes l m)) ∧ Below w.heap.size w w' := by
  obtain ⟨X, hX⟩ : ∃ X, X = bvs l := ⟨_, rfl⟩
  obtain ⟨Y, hY⟩ : ∃ Y, Y = bvs m := ⟨_, rfl⟩
  obtain ⟨w2, hw2⟩ : ∃ w2, w2 = (w.alloc (.cells X.toArray 23)).alloc (.cells Y.toArray 23) := ⟨_, rfl⟩
  have hA : w2.heap[w.heap.size]? = some (.cells X.toArray 23 (0, 0)) := by
    rw [hw2, heap_alloc_old _ _ (by simp)]; exact heap_alloc_new w _
  have hB : w2.heap[w.heap.size + 1]? = some (.cells Y.toArray 23 (0, 0)) := by
    rw [hw2, show w.heap.size + 1 = (w.alloc (.cells X.toArray 23)).heap.size by simp]; exact heap_alloc_new _ _
  have hb2 : Below w.heap.size w w2 := by rw [hw2]; exact ((Below.refl _ w).alloc (Nat.le_refl _) _).alloc (by simp) _
  have bA : ∀ w', Below w2.heap.size w2 w' → BytesAt w' (some ⟨w.heap.size, 0, none⟩) l := by
    intro w' h i hi
    refine ⟨_, _, rfl, ?_⟩
    have h2 : w'.heap[w.heap.size]? = some (.cells X.toArray 23 (0, 0)) := by rw [h.block _ (lt_of_block hA)]; exact hA
    rw [Nat.zero_add, cell_of_block h2, hX]
    simpa using bvs_get l i hi
  have bB : ∀ w', Below w2.heap.size w2 w' → BytesAt w' (some ⟨w.heap.size + 1, 0, none⟩) m := by
    intro w' h i hi
    refine ⟨_, _, rfl, ?_⟩
    have h2 : w'.heap[w.heap.size + 1]? = some (.cells Y.toArray 23 (0, 0)) := by rw [h.block _ (lt_of_block hB)]; exact hB
    rw [Nat.zero_add, cell_of_block h2, hY]
    simpa using bvs_get m i hi
  have hc : ∀ w', Below w2.heap.size w2 w' → Calls Try.prog 15 #[.slice (some ⟨w.heap.size, 0, none⟩) 32 32, .slice (some ⟨w.heap.size + 1, 0, none⟩) 32 32] w' fun e w'' => e = .returned (.int .i64 (Lib.compareBytes l m)) ∧ Below w2.heap.size w2 w'' := by
    intro w' h
    have := compare_any w' w.heap.size (w.heap.size + 1) 0 0 32 32 l m (bA w' h) (bB w' h)
    rw [hl, hm] at this
    exact this.mono fun e w'' ⟨he, hw⟩ => ⟨he, hw ▸ h⟩
  have HC := Lib.hid hc
  rw [← hX, ← hY]
  clear hA hB bA bB hc hX hY
  go_enter Try.func11, Try.ntmps11
  go_wp2_with fail
  rw [← hw2]
  clear hw2
  refine wp_region_below (w0 := w2) (B := w2.heap.size) (by kernel_rfl) (by kernel_rfl) (Below.refl _ w2) ?_
  repeat (first
    | go_big_quiet_skip
    | (go_big_quiet_want
       first
         | (refine quiet_enter _ _ _ ?_ HC.out ?_
            · intro w; go_simp
            simp only [Act.put, List.setIfInBounds_toArray, List.set_cons_zero, List.set_cons_succ]
            go_big_quiet_on)
         | (go_big_quiet_op
            refine ⟨_, fun _ _ => rfl, ?_⟩
            go_big_quiet_on)
         | (go_big_quiet_op
            go_big_quiet_on)))
  refine wpQuiet_nil ?_
  intro w3 hb3
  go_wp2_with fail
  go_ret
  exact ⟨rfl, hb2.trans (hb3.mono hb2.size)⟩

set_option maxRecDepth 100000 in
set_option maxHeartbeats 1000000 in
theorem refcmp_any (l m : List UInt8) (w : World) (hl : l.length = 32) (hm : m.length = 32) :
    Calls Try.prog 12 #[.agg (bvs l).toArray, .agg (bvs m).toArray] w fun e w' => e = .returned (.int .i64 (Lib.compareBytes l m)) ∧ Below w.heap.size w w' := by
  obtain ⟨X, hX⟩ : ∃ X, X = bvs l := ⟨_, rfl⟩
  obtain ⟨Y, hY⟩ : ∃ Y, Y = bvs m := ⟨_, rfl⟩
  obtain ⟨w2, hw2⟩ : ∃ w2, w2 = (w.alloc (.cells X.toArray 22)).alloc (.cells Y.toArray 22) := ⟨_, rfl⟩
  have hA : w2.heap[w.heap.size]? = some (.cells X.toArray 22 (0, 0)) := by
    rw [hw2, heap_alloc_old _ _ (by simp)]; exact heap_alloc_new w _
  have hB : w2.heap[w.heap.size + 1]? = some (.cells Y.toArray 22 (0, 0)) := by
    rw [hw2, show w.heap.size + 1 = (w.alloc (.cells X.toArray 22)).heap.size by simp]; exact heap_alloc_new _ _
  have hb2 : Below w.heap.size w w2 := by rw [hw2]; exact ((Below.refl _ w).alloc (Nat.le_refl _) _).alloc (by simp) _
  have bA : ∀ w' (_ : Below w2.heap.size w2 w') (k : Nat) (h : k < l.length), w'.cell? ⟨w.heap.size, k, none⟩ = some (.int .u8 (l[k].toNat : Int)) := by
    intro w' h i hi
    have h2 : w'.heap[w.heap.size]? = some (.cells X.toArray 22 (0, 0)) := by rw [h.block _ (lt_of_block hA)]; exact hA
    rw [cell_of_block h2, hX]
    simpa using bvs_get l i hi
  have bB : ∀ w' (_ : Below w2.heap.size w2 w') (k : Nat) (h : k < m.length), w'.cell? ⟨w.heap.size + 1, k, none⟩ = some (.int .u8 (m[k].toNat : Int)) := by
    intro w' h i hi
    have h2 : w'.heap[w.heap.size + 1]? = some (.cells Y.toArray 22 (0, 0)) := by rw [h.block _ (lt_of_block hB)]; exact hB
    rw [cell_of_block h2, hY]
    simpa using bvs_get m i hi
  have HBA := Lib.hid bA
  have HBB := Lib.hid bB
  rw [← hX, ← hY]
  clear hA hB bA bB hX hY
  go_enter Try.func12, Try.ntmps12
  go_wp2_with fail
  rw [← hw2]
  clear hw2
  go_loopw [5] (fun s5 wr => ∃ k : Nat, k ≤ 32 ∧ s5 = .int .i64 (k : Int) ∧ Below w2.heap.size w2 wr ∧ Hid (Lib.compareBytes (l.drop k) (m.drop k) = Lib.compareBytes l m)) (fun s5 _ => 32 - (intOf s5).toNat)
  case atStart => exact ⟨0, by omega, rfl, Below.refl _ _, rfl⟩
  case round =>
    obtain ⟨k, hk, rfl, hbr, HD⟩ := hrel
    by_cases hlt : k < 32
    · have hd := cmp_drop l m k (by omega) (by omega)
      obtain ⟨a, ha⟩ : ∃ a, a = l[k]'(by omega) := ⟨_, rfl⟩
      obtain ⟨b, hb⟩ : ∃ b, b = m[k]'(by omega) := ⟨_, rfl⟩
      have c0 := HBA.out wr hbr k (by omega)
      have c1 := HBB.out wr hbr k (by omega)
      rw [← ha] at c0 hd
      rw [← hb] at c1 hd
      rw [HD.out] at hd
      simp only [UInt8.lt_iff_toNat_lt] at hd
      have HDD := Lib.hid hd
      clear hd ha hb
      go_wp2_with fail
      go_quiet (fail)
      by_cases h1 : a.toNat < b.toNat
      · have e := HDD.out
        rw [if_pos h1] at e
        have E := Lib.hid e
        have h1' : (a.toNat : Int) < (b.toNat : Int) := by omega
        clear e
        go_wp2_with fail
        go_ret
        exact ⟨by rw [E.out]; rfl, hb2.trans ((below_drewN hbr _).mono hb2.size)⟩
      · have h1' : ¬ ((a.toNat : Int) < (b.toNat : Int)) := by omega
        go_wp2_with fail
        go_quiet (fail)
        by_cases h2 : b.toNat < a.toNat
        · have e := HDD.out
          rw [if_neg h1, if_pos h2] at e
          have E := Lib.hid e
          have h2' : (b.toNat : Int) < (a.toNat : Int) := by omega
          clear e
          go_wp2_with fail
          go_ret
          exact ⟨by rw [E.out]; rfl, hb2.trans ((below_drewN (below_drewN hbr _) _).mono hb2.size)⟩
        · have e := HDD.out
          rw [if_neg h1, if_neg h2] at e
          have E := Lib.hid e
          have h2' : ¬ ((b.toNat : Int) < (a.toNat : Int)) := by omega
          clear e
          go_wp2_with fail
          go_roundw
          case rel => exact ⟨k + 1, by omega, by go_num, below_drewN hbr _, E.out.symm⟩
          case measure => simp [intOf]; omega
    · have e := HD.out
      rw [List.drop_eq_nil_of_le (by omega), List.drop_eq_nil_of_le (by omega)] at e
      have e0 : Lib.compareBytes l m = 0 := by rw [← e]; rfl
      have E := Lib.hid e0
      clear e e0
      go_wp2_with fail
      go_ret
      exact ⟨by rw [E.out]; rfl, hb2.trans (hbr.mono hb2.size)⟩
end Go.Proofs.Ytcgfkgkajifpbaa
