/-
  The walk of stamp.goodEdit.
-/
import Derived.Test.YtoaboehmjfnceaaGoodMove
namespace Go.Proofs.Ytoaboehmjfnceaa
open Go.RowKit

/-- Is an operation with right stamps a right Edit? ob: can it stand over those that it names? -/
def editB (t r nt nr pt pr : Int) (s : ByteArray) (d : List UInt8) (ob : Bool) : Bool := decide (cmpS nt nr t r < 0) && (decide (pt = 0 ∧ pr = 0) && (s.toList.isEmpty && (!decide (d = id0) && ob)))

set_option maxRecDepth 100000 in
set_option maxHeartbeats 2000000 in
theorem goodEdit_of (k t r nt nr pt pr : Int) (s : ByteArray) (d : List UInt8) (ov : Value) (ob : Bool) (w : World) (hd : d.length = 32)
    (hover : ∀ W, Below w.heap.size w W → Calls Try.prog 72 #[ov, .agg (stampCells t r)] W fun e w' => e = .returned (.bool ob) ∧ Below W.heap.size W w') :
    Calls Try.prog 41 #[.agg (opCells k t r nt nr pt pr s d ov)] w fun e w' => e = .returned (.bool (editB t r nt nr pt pr s d ob)) ∧ Below w.heap.size w w' := by
  obtain ⟨X, hX⟩ : ∃ X, X = opCells k t r nt nr pt pr s d ov := ⟨_, rfl⟩
  obtain ⟨w1, hw1⟩ : ∃ w1, w1 = w.alloc (.cells X 33) := ⟨_, rfl⟩
  have hb1 : Below w.heap.size w w1 := by rw [hw1]; exact (Below.refl _ w).alloc (Nat.le_refl _) _
  have hO : OpIn (fun W => Below w1.heap.size w1 W) w.heap.size k t r nt nr pt pr s d ov := opIn_box hd (by rw [hw1, hX]; exact heap_alloc_new _ _)
  obtain ⟨db, hdb⟩ : ∃ db, db = decide (d = id0) := ⟨_, rfl⟩
  have heq : ∀ w', (Op.equalIn 10000 30 (.agg (bvs d).toArray) (.agg #[Value.int IntKind.u8 0, Value.int IntKind.u8 0, Value.int IntKind.u8 0, Value.int IntKind.u8 0, Value.int IntKind.u8 0, Value.int IntKind.u8 0, Value.int IntKind.u8 0, Value.int IntKind.u8 0, Value.int IntKind.u8 0, Value.int IntKind.u8 0, Value.int IntKind.u8 0, Value.int IntKind.u8 0, Value.int IntKind.u8 0, Value.int IntKind.u8 0, Value.int IntKind.u8 0, Value.int IntKind.u8 0, Value.int IntKind.u8 0, Value.int IntKind.u8 0, Value.int IntKind.u8 0, Value.int IntKind.u8 0, Value.int IntKind.u8 0, Value.int IntKind.u8 0, Value.int IntKind.u8 0, Value.int IntKind.u8 0, Value.int IntKind.u8 0, Value.int IntKind.u8 0, Value.int IntKind.u8 0, Value.int IntKind.u8 0, Value.int IntKind.u8 0, Value.int IntKind.u8 0, Value.int IntKind.u8 0, Value.int IntKind.u8 0])).run Try.prog w' = .ok db w' := fun w' => by rw [eq_id0 w' d hd, hdb]; rfl
  obtain ⟨D, hD⟩ : ∃ D, D = (bvs d).toArray := ⟨_, rfl⟩
  have hDs : (Try.prog.info? 30).map (·.size) = some D.size := by rw [hD, List.size_toArray, bvs_length, hd]; kernel_rfl
  rw [← hD] at heq
  have hdat := hO.data
  rw [← hD] at hdat
  obtain ⟨cv, hcv⟩ : ∃ cv, cv = cmpS nt nr t r := ⟨_, rfl⟩
  obtain ⟨pb, hpb⟩ : ∃ pb, pb = decide (pt = 0 ∧ pr = 0) := ⟨_, rfl⟩
  have q : ∀ w', (Op.equalIn 10000 23 (.agg (stampCells pt pr)) (.agg #[.int .i64 0, .int .i64 0])).run Try.prog w' = .ok pb w' := fun w' => by rw [hpb]; exact eq_stamps pt pr 0 0 w'
  have hc1 := fun W => cmp_any nt nr t r W
  rw [← hcv] at hc1
  obtain ⟨eb, heb⟩ : ∃ eb, s.toList.isEmpty = eb := ⟨_, rfl⟩
  obtain ⟨mb, hmb⟩ : ∃ mb, mb = editB t r nt nr pt pr s d ob := ⟨_, rfl⟩
  have hmv : mb = (decide (cv < 0) && (pb && (eb && (!db && ob)))) := by rw [hmb, hcv, hpb, ← heb, hdb]; rfl
  have hcase : (decide (cv < 0) = false ∧ mb = false) ∨ (decide (cv < 0) = true ∧ pb = false ∧ mb = false) ∨ (decide (cv < 0) = true ∧ pb = true ∧ eb = false ∧ mb = false) ∨ (decide (cv < 0) = true ∧ pb = true ∧ eb = true ∧ db = true ∧ mb = false) ∨ (decide (cv < 0) = true ∧ pb = true ∧ eb = true ∧ db = false ∧ mb = ob) := by
    rw [hmv]
    clear hmv hmb heq q hc1 hpb heb hdb
    cases decide (cv < 0)
    · exact .inl ⟨rfl, by simp⟩
    · cases pb
      · exact .inr (.inl ⟨rfl, rfl, by simp⟩)
      · cases eb
        · exact .inr (.inr (.inl ⟨rfl, rfl, rfl, by simp⟩))
        · cases db
          · exact .inr (.inr (.inr (.inr ⟨rfl, rfl, rfl, rfl, by simp⟩)))
          · exact .inr (.inr (.inr (.inl ⟨rfl, rfl, rfl, rfl, by simp⟩)))
  rw [← hmb, ← hX]
  have HO := Lib.hid hO
  have HDT := Lib.hid hdat
  have HDS := Lib.hid hDs
  have HC1 := Lib.hid hc1
  have HOV := Lib.hid hover
  have HW1 := Lib.hid hw1
  clear hX hw1 hO hdat hDs hc1 hover hdb hD hcv hpb hmb hmv hd
  rcases hcase with ⟨h1, rfl⟩ | ⟨h1, rfl, rfl⟩ | ⟨h1, rfl, rfl, rfl⟩ | ⟨h1, rfl, rfl, rfl, rfl⟩ | ⟨h1, rfl, rfl, rfl, rfl⟩
  all_goals
    go_enter Try.func41, Try.ntmps41
    go_upto_region 1 with (fail)
    rw [← HW1.out]
    have hs : Below w1.heap.size w1 w1 := Below.refl _ _
    refine wp_region_lex (fun W => Below w1.heap.size w1 W) [([0, 1, 2, 3], 4), ([5, 6, 7, 8, 9, 10, 11, 12, 13, 14, 15, 16, 17, 18, 19, 20, 21, 22, 23, 24, 25, 26, 27], 28)] [29, 30] (by kernel_rfl) (by kernel_rfl) hs ?_
    refine wpSched_cons ?_
    dsimp only [opsAt, List.filterMap, List.getElem?_cons_zero, List.getElem?_cons_succ]
    repeat (first
      | go_big_quiet_skip
      | (go_big_quiet_want
         first
           | (refine quiet_load_mid 23 (.tmp 3) rfl w.heap.size 3 rfl (stampCells nt nr) _ HO.out.node Try.underlying23 rfl (sizeStamp _ _) ?_
              simp only [Act.put, List.setIfInBounds_toArray, List.set_cons_zero, List.set_cons_succ]
              go_big_quiet_on)
           | (refine quiet_load_mid 23 (.tmp 5) rfl w.heap.size 1 rfl (stampCells t r) _ HO.out.at_ Try.underlying23 rfl (sizeStamp _ _) ?_
              simp only [Act.put, List.setIfInBounds_toArray, List.set_cons_zero, List.set_cons_succ]
              go_big_quiet_on)
           | (go_big_quiet_op
              refine ⟨_, fun _ _ => rfl, ?_⟩
              go_big_quiet_on)
           | (go_big_quiet_op
              go_big_quiet_on)))
    refine wpQuiet_nil ?_
    intro KK hKK
    go_simp
    first
      | (refine (HC1.out _).mono ?_
         rintro e w3 ⟨rfl, hb3⟩
         replace hs := hs.trans (hb3.mono hs.size)
         clear hb3)
      | skip
    refine hKK _ _ hs ?_
    clear hKK KK
    try simp only [Act.put, List.setIfInBounds_toArray, List.set_cons_zero, List.set_cons_succ]
    refine wpSched_cons ?_
    dsimp only [opsAt, List.filterMap, List.getElem?_cons_zero, List.getElem?_cons_succ]
    repeat (first
      | go_big_quiet_skip
      | (go_big_quiet_want
         first
           | (refine quiet_load_mid 23 (.tmp 10) rfl w.heap.size 5 rfl (stampCells pt pr) _ HO.out.parent Try.underlying23 rfl (sizeStamp _ _) ?_
              simp only [Act.put, List.setIfInBounds_toArray, List.set_cons_zero, List.set_cons_succ]
              go_big_quiet_on)
           | (refine quiet_load_cell 9 (.tmp 16) rfl ⟨w.heap.size, 7, none⟩ rfl (.string s) _ HO.out.name Try.underlying9 rfl ?_
              simp only [Act.put, List.setIfInBounds_toArray, List.set_cons_zero, List.set_cons_succ]
              go_big_quiet_on)
           | (refine quiet_load_mid 30 (.tmp 21) rfl w.heap.size 8 rfl D _ HDT.out Try.underlying30 rfl HDS.out ?_
              simp only [Act.put, List.setIfInBounds_toArray, List.set_cons_zero, List.set_cons_succ]
              go_big_quiet_on)
           | (refine quiet_load_cell 31 (.tmp 27) rfl ⟨w.heap.size, 40, none⟩ rfl ov _ HO.out.over Try.underlying31 rfl ?_
              simp only [Act.put, List.setIfInBounds_toArray, List.set_cons_zero, List.set_cons_succ]
              go_big_quiet_on)
           | (refine quiet_load_mid 23 (.tmp 29) rfl w.heap.size 1 rfl (stampCells t r) _ HO.out.at_ Try.underlying23 rfl (sizeStamp _ _) ?_
              simp only [Act.put, List.setIfInBounds_toArray, List.set_cons_zero, List.set_cons_succ]
              go_big_quiet_on)
           | (go_big_quiet_op
              refine ⟨_, fun _ _ => rfl, ?_⟩
              go_big_quiet_on)
           | (go_big_quiet_op
              go_big_quiet_on)))
    refine wpQuiet_nil ?_
    intro KK hKK
    go_simp
    first
      | (refine (HOV.out _ (hb1.trans (hs.mono hb1.size))).mono ?_
         rintro e w3 ⟨rfl, hb3⟩
         replace hs := hs.trans (hb3.mono hs.size)
         clear hb3)
      | skip
    refine hKK _ _ hs ?_
    clear hKK KK
    try simp only [Act.put, List.setIfInBounds_toArray, List.set_cons_zero, List.set_cons_succ]
    refine wpSched_nil ?_
    dsimp only [opsAt, List.filterMap, List.getElem?_cons_zero, List.getElem?_cons_succ]
    repeat (first
      | go_big_quiet_skip
      | (go_big_quiet_want
         first
           | (go_big_quiet_op
              refine ⟨_, fun _ _ => rfl, ?_⟩
              go_big_quiet_on)
           | (go_big_quiet_op
              go_big_quiet_on)))
    refine wpQuiet_nil ?_
    go_wp2_with fail
    go_ret
    exact ⟨rfl, hb1.trans (hs.mono hb1.size)⟩
end Go.Proofs.Ytoaboehmjfnceaa
