/-
  The walk of stamp.Same.
-/
import Derived.Test.YtoaboehmjfnceaaOp
namespace Go.Proofs.Ytoaboehmjfnceaa
open Go.RowKit

/-- Are two operations the same in all fields? ob: are those that they stand over the same? -/
def sameV (k t r nt nr pt pr : Int) (s : ByteArray) (d : List UInt8) (k' t' r' nt' nr' pt' pr' : Int) (s' : ByteArray) (d' : List UInt8) (ob : Bool) : Bool :=
  ((k : Int) == k') && (decide (t = t' ∧ r = r') && (decide (nt = nt' ∧ nr = nr') && (decide (pt = pt' ∧ pr = pr') && ((s.toList == s'.toList) && (decide (d = d') && ob)))))

set_option maxRecDepth 100000 in
set_option maxHeartbeats 4000000 in
theorem same_of (k t r nt nr pt pr : Int) (s : ByteArray) (d : List UInt8) (ov : Value) (k' t' r' nt' nr' pt' pr' : Int) (s' : ByteArray) (d' : List UInt8) (ov' : Value) (ob : Bool) (w : World) (hd : d.length = 32) (hd' : d'.length = 32)
    (heq : ∀ W, Below w.heap.size w W → Calls Try.prog 42 #[ov, ov'] W fun e w' => e = .returned (.bool ob) ∧ Below W.heap.size W w') :
    Calls Try.prog 20 #[.agg (opCells k t r nt nr pt pr s d ov), .agg (opCells k' t' r' nt' nr' pt' pr' s' d' ov')] w fun e w' => e = .returned (.bool (sameV k t r nt nr pt pr s d k' t' r' nt' nr' pt' pr' s' d' ob)) ∧ Below w.heap.size w w' := by
  obtain ⟨X, hX⟩ : ∃ X, X = opCells k t r nt nr pt pr s d ov := ⟨_, rfl⟩
  obtain ⟨Y, hY⟩ : ∃ Y, Y = opCells k' t' r' nt' nr' pt' pr' s' d' ov' := ⟨_, rfl⟩
  obtain ⟨w1, hw1⟩ : ∃ w1, w1 = (w.alloc (.cells X 33)).alloc (.cells Y 33) := ⟨_, rfl⟩
  have hb1 : Below w.heap.size w w1 := by rw [hw1]; exact ((Below.refl _ w).alloc (Nat.le_refl _) _).alloc (by simp) _
  have hO : OpIn (fun W => Below w1.heap.size w1 W) w.heap.size k t r nt nr pt pr s d ov := opIn_box hd (by rw [hw1, hX, heap_alloc_old _ _ (by simp), heap_alloc_eq _ _ _ rfl])
  have hO' : OpIn (fun W => Below w1.heap.size w1 W) (w.heap.size + 1) k' t' r' nt' nr' pt' pr' s' d' ov' := opIn_box hd' (by rw [hw1, hY, heap_alloc_eq _ _ _ (by simp)])
  obtain ⟨D, hD⟩ : ∃ D, D = (bvs d).toArray := ⟨_, rfl⟩
  obtain ⟨D', hD'⟩ : ∃ D', D' = (bvs d').toArray := ⟨_, rfl⟩
  have hDs : (Try.prog.info? 30).map (·.size) = some D.size := by rw [hD, List.size_toArray, bvs_length, hd]; kernel_rfl
  have hDs' : (Try.prog.info? 30).map (·.size) = some D'.size := by rw [hD', List.size_toArray, bvs_length, hd']; kernel_rfl
  have hdat := hO.data
  have hdat' := hO'.data
  rw [← hD] at hdat
  rw [← hD'] at hdat'
  obtain ⟨e0, he0⟩ : ∃ e0, ((k : Int) == k') = e0 := ⟨_, rfl⟩
  obtain ⟨e1, he1⟩ : ∃ e1, e1 = decide (t = t' ∧ r = r') := ⟨_, rfl⟩
  obtain ⟨e2, he2⟩ : ∃ e2, e2 = decide (nt = nt' ∧ nr = nr') := ⟨_, rfl⟩
  obtain ⟨e3, he3⟩ : ∃ e3, e3 = decide (pt = pt' ∧ pr = pr') := ⟨_, rfl⟩
  obtain ⟨e4, he4⟩ : ∃ e4, (s.toList == s'.toList) = e4 := ⟨_, rfl⟩
  obtain ⟨e5, he5⟩ : ∃ e5, e5 = decide (d = d') := ⟨_, rfl⟩
  have q1 : ∀ w', (Op.equalIn 10000 23 (.agg (stampCells t r)) (.agg (stampCells t' r'))).run Try.prog w' = .ok e1 w' := fun w' => by rw [he1]; exact eq_stamps _ _ _ _ w'
  have q2 : ∀ w', (Op.equalIn 10000 23 (.agg (stampCells nt nr)) (.agg (stampCells nt' nr'))).run Try.prog w' = .ok e2 w' := fun w' => by rw [he2]; exact eq_stamps _ _ _ _ w'
  have q3 : ∀ w', (Op.equalIn 10000 23 (.agg (stampCells pt pr)) (.agg (stampCells pt' pr'))).run Try.prog w' = .ok e3 w' := fun w' => by rw [he3]; exact eq_stamps _ _ _ _ w'
  have q5 : ∀ w', (Op.equalIn 10000 30 (.agg D) (.agg D')).run Try.prog w' = .ok e5 w' := fun w' => by rw [hD, hD', he5]; exact eq_ids w' d d' hd hd'
  obtain ⟨sb, hsb⟩ : ∃ sb, sb = sameV k t r nt nr pt pr s d k' t' r' nt' nr' pt' pr' s' d' ob := ⟨_, rfl⟩
  have hsv : sb = (e0 && (e1 && (e2 && (e3 && (e4 && (e5 && ob)))))) := by rw [hsb, ← he0, he1, he2, he3, ← he4, he5]; rfl
  have hcase : (e0 = false ∧ sb = false) ∨ (e0 = true ∧ e1 = false ∧ sb = false) ∨ (e0 = true ∧ e1 = true ∧ e2 = false ∧ sb = false) ∨ (e0 = true ∧ e1 = true ∧ e2 = true ∧ e3 = false ∧ sb = false) ∨ (e0 = true ∧ e1 = true ∧ e2 = true ∧ e3 = true ∧ e4 = false ∧ sb = false) ∨ (e0 = true ∧ e1 = true ∧ e2 = true ∧ e3 = true ∧ e4 = true ∧ e5 = false ∧ sb = false) ∨ (e0 = true ∧ e1 = true ∧ e2 = true ∧ e3 = true ∧ e4 = true ∧ e5 = true ∧ sb = ob) := by
    rw [hsv]
    clear hsv hsb he0 he1 he2 he3 he4 he5 q1 q2 q3 q5
    cases e0
    · exact .inl ⟨rfl, by simp⟩
    · cases e1
      · exact .inr (.inl ⟨rfl, rfl, by simp⟩)
      · cases e2
        · exact .inr (.inr (.inl ⟨rfl, rfl, rfl, by simp⟩))
        · cases e3
          · exact .inr (.inr (.inr (.inl ⟨rfl, rfl, rfl, rfl, by simp⟩)))
          · cases e4
            · exact .inr (.inr (.inr (.inr (.inl ⟨rfl, rfl, rfl, rfl, rfl, by simp⟩))))
            · cases e5
              · exact .inr (.inr (.inr (.inr (.inr (.inl ⟨rfl, rfl, rfl, rfl, rfl, rfl, by simp⟩)))))
              · exact .inr (.inr (.inr (.inr (.inr (.inr (⟨rfl, rfl, rfl, rfl, rfl, rfl, by simp⟩))))))
  rw [← hsb, ← hX, ← hY]
  have HO := Lib.hid hO
  have HO' := Lib.hid hO'
  have HDT := Lib.hid hdat
  have HDT' := Lib.hid hdat'
  have HDS := Lib.hid hDs
  have HDS' := Lib.hid hDs'
  have HEQ := Lib.hid heq
  have HW1 := Lib.hid hw1
  clear hX hY hw1 hO hO' hdat hdat' hDs hDs' heq hD hD' he1 he2 he3 he5 hsb hsv hd hd'
  rcases hcase with ⟨rfl, rfl⟩ | ⟨rfl, rfl, rfl⟩ | ⟨rfl, rfl, rfl, rfl⟩ | ⟨rfl, rfl, rfl, rfl, rfl⟩ | ⟨rfl, rfl, rfl, rfl, rfl, rfl⟩ | ⟨rfl, rfl, rfl, rfl, rfl, rfl, rfl⟩ | ⟨rfl, rfl, rfl, rfl, rfl, rfl, rfl⟩
  all_goals
    go_enter Try.func20, Try.ntmps20
    go_upto_region 1 with (fail)
    change Code.wp _ _ _ _ ((w.alloc (.cells X 33)).alloc (.cells Y 33))
    rw [← HW1.out]
    have hs : Below w1.heap.size w1 w1 := Below.refl _ _
    refine wp_region_lex (fun W => Below w1.heap.size w1 W) [([0, 1, 2, 3, 4, 5, 6, 7, 8, 9, 10, 11, 12, 13, 14, 15, 16, 17, 18, 19, 20, 21, 22, 23, 24, 25, 26, 27, 28, 29, 30, 31, 32, 33, 34, 35, 36, 37, 38, 39, 40, 41, 42, 43, 44], 45)] [46, 47] (by kernel_rfl) (by kernel_rfl) hs ?_
    refine wpSched_cons ?_
    dsimp only [opsAt, List.filterMap, List.getElem?_cons_zero, List.getElem?_cons_succ]
    repeat (first
      | go_big_quiet_skip
      | (go_big_quiet_want
         first
           | (refine quiet_load_cell 3 (.tmp 5) rfl ⟨w.heap.size, 0, none⟩ rfl (.int .i64 k) _ HO.out.kind Try.underlying3 rfl ?_
              simp only [Act.put, List.setIfInBounds_toArray, List.set_cons_zero, List.set_cons_succ]
              go_big_quiet_on)
           | (refine quiet_load_cell 3 (.tmp 7) rfl ⟨w.heap.size + 1, 0, none⟩ rfl (.int .i64 k') _ HO'.out.kind Try.underlying3 rfl ?_
              simp only [Act.put, List.setIfInBounds_toArray, List.set_cons_zero, List.set_cons_succ]
              go_big_quiet_on)
           | (refine quiet_load_mid 23 (.tmp 11) rfl (w.heap.size) 1 rfl (stampCells t r) _ HO.out.at_ Try.underlying23 rfl (sizeStamp _ _) ?_
              simp only [Act.put, List.setIfInBounds_toArray, List.set_cons_zero, List.set_cons_succ]
              go_big_quiet_on)
           | (refine quiet_load_mid 23 (.tmp 13) rfl (w.heap.size + 1) 1 rfl (stampCells t' r') _ HO'.out.at_ Try.underlying23 rfl (sizeStamp _ _) ?_
              simp only [Act.put, List.setIfInBounds_toArray, List.set_cons_zero, List.set_cons_succ]
              go_big_quiet_on)
           | (refine quiet_load_mid 23 (.tmp 18) rfl (w.heap.size) 3 rfl (stampCells nt nr) _ HO.out.node Try.underlying23 rfl (sizeStamp _ _) ?_
              simp only [Act.put, List.setIfInBounds_toArray, List.set_cons_zero, List.set_cons_succ]
              go_big_quiet_on)
           | (refine quiet_load_mid 23 (.tmp 20) rfl (w.heap.size + 1) 3 rfl (stampCells nt' nr') _ HO'.out.node Try.underlying23 rfl (sizeStamp _ _) ?_
              simp only [Act.put, List.setIfInBounds_toArray, List.set_cons_zero, List.set_cons_succ]
              go_big_quiet_on)
           | (refine quiet_load_mid 23 (.tmp 25) rfl (w.heap.size) 5 rfl (stampCells pt pr) _ HO.out.parent Try.underlying23 rfl (sizeStamp _ _) ?_
              simp only [Act.put, List.setIfInBounds_toArray, List.set_cons_zero, List.set_cons_succ]
              go_big_quiet_on)
           | (refine quiet_load_mid 23 (.tmp 27) rfl (w.heap.size + 1) 5 rfl (stampCells pt' pr') _ HO'.out.parent Try.underlying23 rfl (sizeStamp _ _) ?_
              simp only [Act.put, List.setIfInBounds_toArray, List.set_cons_zero, List.set_cons_succ]
              go_big_quiet_on)
           | (refine quiet_load_cell 9 (.tmp 32) rfl ⟨w.heap.size, 7, none⟩ rfl (.string s) _ HO.out.name Try.underlying9 rfl ?_
              simp only [Act.put, List.setIfInBounds_toArray, List.set_cons_zero, List.set_cons_succ]
              go_big_quiet_on)
           | (refine quiet_load_cell 9 (.tmp 34) rfl ⟨w.heap.size + 1, 7, none⟩ rfl (.string s') _ HO'.out.name Try.underlying9 rfl ?_
              simp only [Act.put, List.setIfInBounds_toArray, List.set_cons_zero, List.set_cons_succ]
              go_big_quiet_on)
           | (refine quiet_load_mid 30 (.tmp 39) rfl (w.heap.size) 8 rfl D _ HDT.out Try.underlying30 rfl HDS.out ?_
              simp only [Act.put, List.setIfInBounds_toArray, List.set_cons_zero, List.set_cons_succ]
              go_big_quiet_on)
           | (refine quiet_load_mid 30 (.tmp 41) rfl (w.heap.size + 1) 8 rfl D' _ HDT'.out Try.underlying30 rfl HDS'.out ?_
              simp only [Act.put, List.setIfInBounds_toArray, List.set_cons_zero, List.set_cons_succ]
              go_big_quiet_on)
           | (refine quiet_load_cell 31 (.tmp 46) rfl ⟨w.heap.size, 40, none⟩ rfl ov _ HO.out.over Try.underlying31 rfl ?_
              simp only [Act.put, List.setIfInBounds_toArray, List.set_cons_zero, List.set_cons_succ]
              go_big_quiet_on)
           | (refine quiet_load_cell 31 (.tmp 48) rfl ⟨w.heap.size + 1, 40, none⟩ rfl ov' _ HO'.out.over Try.underlying31 rfl ?_
              simp only [Act.put, List.setIfInBounds_toArray, List.set_cons_zero, List.set_cons_succ]
              go_big_quiet_on)
           | (go_big_quiet_op
              refine ⟨_, fun _ _ => rfl, ?_⟩
              go_big_quiet_on)
           | (go_big_quiet_op
              go_big_quiet_on)))
    refine wpQuiet_nil ?_
    intro KK hKK
    go_simp
    first
      | (refine (HEQ.out _ (hb1.trans (hs.mono hb1.size))).mono ?_
         rintro e w3 ⟨rfl, hb3⟩
         replace hs := hs.trans (hb3.mono hs.size)
         clear hb3)
      | skip
    refine hKK _ _ hs ?_
    clear hKK KK
    try simp only [Act.put, List.setIfInBounds_toArray, List.set_cons_zero, List.set_cons_succ]
    refine wpSched_nil ?_
    dsimp only [opsAt, List.filterMap, List.getElem?_cons_zero, List.getElem?_cons_succ]
    repeat (first
      | go_big_quiet_skip
      | (go_big_quiet_want
         first
           | (go_big_quiet_op
              refine ⟨_, fun _ _ => rfl, ?_⟩
              go_big_quiet_on)
           | (go_big_quiet_op
              go_big_quiet_on)))
    refine wpQuiet_nil ?_
    go_wp2
    go_ret
    exact ⟨rfl, hb1.trans (hs.mono hb1.size)⟩
end Go.Proofs.Ytoaboehmjfnceaa
