/-
  The walks of pollardlaw03.first and alive.
-/
import Derived.Test.YtoaboehmjfnceaaOne
import Derived.Test.YtoaboehmjfnceaaReadId
import Derived.Test.YtoaboehmjfnceaaSame
import Derived.Test.YtoaboehmjfnceaaPair
namespace Go.Proofs.Ytoaboehmjfnceaa
open Go.RowKit
set_option linter.unusedSimpArgs false
set_option linter.unusedVariables false

theorem oneOne : oneLit.all (·.oneCell') = true := by kernel_rfl
theorem sizeOne : (Try.prog.info? 33).map (·.size) = some oneLit.size := by kernel_rfl

set_option maxRecDepth 100000 in
set_option maxHeartbeats 1000000 in
theorem firstop_any (w : World) : Calls Try.prog 33 #[] w fun e w' => e = .returned (.agg oneCells) ∧ Below w.heap.size w w' := by
  obtain ⟨w1, hw1⟩ : ∃ w1, w1 = w.alloc zopObj := ⟨_, rfl⟩
  have hb1 : Below w.heap.size w w1 := by rw [hw1]; exact (Below.refl _ w).alloc (Nat.le_refl _) _
  have hA1 : w1.heap[w.heap.size]? = some (.cells zopLit 33 (0, 0)) := by rw [hw1, heap_alloc_eq _ _ _ rfl]; rfl
  have HA1 := Lib.hid hA1
  have HW1 := Lib.hid hw1
  have HBB := Lib.hid hb1
  clear hA1 hw1 hb1
  go_enter Try.func33, Try.ntmps33
  go_upto_region 1 with (fail)
  change Code.wp _ _ _ _ (w.alloc zopObj)
  rw [← HW1.out]
  go_wp2_with (refine wpList_store_row rfl 33 (.tmp 0) (.tmp 3) rfl w.heap.size oneLit rfl rfl 33 zopLit HA1.out sizeOne rfl oneOne ?_)
  refine bodyPost_ret (v := .agg oneLit) (results_cell_row rfl _ _ w.heap.size 33 oneLit (0, 0) _ rfl (setRow_heap w1 w.heap.size _ oneLit _ _ HA1.out) Try.underlying33 rfl sizeOne) rfl ?_
  have hgs : w1.grownBy (w1.setRow w.heap.size oneLit) (some w.heap.size) := ⟨rfl, rfl, rfl, by simp, fun k _ hk => setRow_other w1 w.heap.size k _ (fun e => hk (by rw [e]))⟩
  exact ⟨by rw [oneLit_eq], below_grownBy (Nat.le_refl _) HBB.out hgs (Nat.le_refl _)⟩

/-- The bytes of the example, as the model writes them. -/
def oneRow : Array Value := #[.int .u8 1, .int .u8 5, .int .u8 1, .int .u8 5, .int .u8 1, .int .u8 0, .int .u8 0, .int .u8 1, .int .u8 97]
theorem oneRow_bytes : oneRow.toList.take oneBytes.length = bvs oneBytes := by kernel_rfl

set_option maxRecDepth 100000 in
set_option maxHeartbeats 4000000 in
theorem alive_any (w : World) : Calls Try.prog 11 #[] w fun e w' => e = .returned (.bool true) ∧ Below w.heap.size w w' := by
  obtain ⟨X, hX⟩ : ∃ X, X = oneCells := ⟨_, rfl⟩
  have hfirst := fun W => firstop_any W
  have hgood := fun W => good_one W
  have hput := fun W => put_one W
  have hsame := fun W => same_one W
  have hget := fun R Q W h => get_one R Q W h
  have hXs : (Try.prog.info? 33).map (·.size) = some X.size := by rw [hX]; kernel_rfl
  have hX1 : X.all (·.oneCell') = true := by rw [hX, ← oneLit_eq]; exact oneOne
  have hZs : zopLit.size = X.size := by rw [hX]; kernel_rfl
  rw [← hX] at hfirst hgood hput hsame hget
  have hcmp := fun W => cmp_any 3 9 4 1 W
  rw [show cmpS 3 9 4 1 = -1 by decide] at hcmp
  have HGD := Lib.hid hgood
  have HPT := Lib.hid hput
  have HSM := Lib.hid hsame
  have HGT := Lib.hid hget
  have HXS := Lib.hid hXs
  have HX1 := Lib.hid hX1
  have HZS := Lib.hid hZs
  have HCM := Lib.hid hcmp
  clear hX hgood hput hsame hget hXs hX1 hZs hcmp
  go_enter Try.func11, Try.ntmps11
  go_upto_region 1 with (fail)
  go_wp2_with fail
  refine (hfirst _).mono ?_
  rintro e w1 ⟨rfl, hw1⟩
  have HW1 := Lib.hid hw1
  clear hfirst hw1
  go_upto_region 2 with (refine wpList_store_row rfl 33 (.tmp 1) (.tmp 3) rfl w1.heap.size X rfl rfl 33 zopLit (heap_alloc_new w1 zopObj) HXS.out HZS.out HX1.out ?_)
  obtain ⟨w2, hw2⟩ : ∃ w2, w2 = (w1.alloc zopObj).setRow w1.heap.size X := ⟨_, rfl⟩
  change Code.wp _ _ _ _ ((w1.alloc zopObj).setRow w1.heap.size X)
  rw [← hw2]
  have hg2 : w2.heap[w1.heap.size]? = some (.cells X 33 (0, 0)) := by rw [hw2]; exact setRow_heap _ _ _ _ _ _ (heap_alloc_new w1 zopObj)
  have hb2 : Below w.heap.size w w2 := by
    have h1 := HW1.out
    have h2 : Below w.heap.size w (w1.alloc zopObj) := h1.alloc h1.size _
    refine below_grownBy (R := w1.heap.size) (Nat.le_refl _) h2 ?_ h1.size
    rw [hw2]
    exact ⟨rfl, rfl, rfl, by simp, fun k _ hk => setRow_other _ _ k _ (fun e => hk (by rw [e]))⟩
  have hz2 := lt_of_block hg2
  clear hw2 HX1 HZS HW1
  go_wp2_with fail
  refine (read_any _ oneBytes _ _ (BytesAt.alloc_new _ _ _ _ oneRow_bytes) (by decide)).mono ?_
  rintro e w3 ⟨R, Q, rfl, hRw, hr, hb3⟩
  have hw2 : Below w2.heap.size w2 (w2.alloc (.cells oneRow 5)) := (Below.refl _ _).alloc (Nat.le_refl _) _
  have hs : Below w2.heap.size w2 w3 := hw2.trans (hb3.mono hw2.size)
  have hR : w2.heap.size ≤ R := Nat.le_trans hw2.size hRw
  have HXL := Lib.hid (show ∀ W, Below w2.heap.size w2 W → W.heap[w1.heap.size]? = some (.cells X 33 (0, 0)) from fun W hW => by rw [hW.block _ hz2]; exact hg2)
  clear hw2 hb3 hRw hg2
  go_upto_region 3 with (fail)
  refine wp_region_pair (fun W => Below w2.heap.size w2 W) [([0, 1], [2]), ([3, 4, 5], [6]), ([7, 8, 9], [10, 11]), ([], [12]), ([13, 14, 15, 16, 17, 18, 19, 21], [20]), ([], [22]), ([23, 24, 25], [26])] [27, 28] (by kernel_rfl) (by kernel_rfl) (fun _ _ d _ _ h => by cases d <;> exact h) (by kernel_rfl) (of_decide_eq_true (by kernel_rfl)) hs.drew ?_
  replace hs := hs.drew
  replace hr := hr.later (Below.refl _ w3).drew
  refine wpPair_cons ?_
  dsimp only [opsAt, List.filterMap, List.getElem?_cons_zero, List.getElem?_cons_succ]
  repeat (first
    | go_big_quiet_skip
    | (go_big_quiet_want
       first
         | (go_big_quiet_op
            refine ⟨_, fun _ _ => rfl, ?_⟩
            go_big_quiet_on)
         | (go_big_quiet_op
            go_big_quiet_on)))
  refine wpQuiet_nil ?_
  intro KK hKK
  go_simp
  refine (HCM.out _).mono ?_
  rintro e w4 ⟨rfl, hb4⟩
  replace hs := hs.trans (hb4.mono hs.size)
  replace hr := hr.later hb4
  clear hb4
  refine hKK _ _ hs ?_
  clear hKK KK
  try simp only [Act.put, List.setIfInBounds_toArray, List.set_cons_zero, List.set_cons_succ]
  refine wpPair_cons ?_
  dsimp only [opsAt, List.filterMap, List.getElem?_cons_zero, List.getElem?_cons_succ]
  repeat (first
    | go_big_quiet_skip
    | (go_big_quiet_want
       first
         | (refine quiet_load_row' 33 (.tmp 1) rfl w1.heap.size rfl 33 X (0, 0) _ HXL.out Try.underlying33 rfl HXS.out ?_
            simp only [Act.put, List.setIfInBounds_toArray, List.set_cons_zero, List.set_cons_succ]
            go_big_quiet_on)
         | (go_big_quiet_op
            refine ⟨_, fun _ _ => rfl, ?_⟩
            go_big_quiet_on)
         | (go_big_quiet_op
            go_big_quiet_on)))
  refine wpQuiet_nil ?_
  intro KK hKK
  go_simp
  refine (HGD.out _).mono ?_
  rintro e w4 ⟨rfl, hb4⟩
  replace hs := hs.trans (hb4.mono hs.size)
  replace hr := hr.later hb4
  clear hb4
  refine hKK _ _ hs ?_
  clear hKK KK
  try simp only [Act.put, List.setIfInBounds_toArray, List.set_cons_zero, List.set_cons_succ]
  refine wpPair_two ?_
  dsimp only [opsAt, List.filterMap, List.getElem?_cons_zero, List.getElem?_cons_succ]
  repeat (first
    | go_big_quiet_skip
    | (go_big_quiet_want
       first
         | (refine quiet_load_row' 33 (.tmp 1) rfl w1.heap.size rfl 33 X (0, 0) _ HXL.out Try.underlying33 rfl HXS.out ?_
            simp only [Act.put, List.setIfInBounds_toArray, List.set_cons_zero, List.set_cons_succ]
            go_big_quiet_on)
         | (go_big_quiet_op
            refine ⟨_, fun _ _ => rfl, ?_⟩
            go_big_quiet_on)
         | (go_big_quiet_op
            go_big_quiet_on)))
  refine wpQuiet_nil ⟨?_, ?_⟩
  intro KK hKK
  go_simp
  refine ((HPT.out _).mono (fun _ _ h => readPost_of h)).mono ?_
  rintro e w5 ⟨a4, c4, rfl, hB4, hb4, -, -, -⟩
  replace hs := hs.trans (hb4.mono hs.size)
  replace hr := hr.later hb4
  refine hKK _ _ hs ?_
  clear hKK KK hb4
  try simp only [Act.put, List.setIfInBounds_toArray, List.set_cons_zero, List.set_cons_succ]
  intro KK hKK
  go_simp
  have hb5 : Below w5.heap.size w5 (w5.alloc (.cells oneRow 5)) := (Below.refl _ _).alloc (Nat.le_refl _) _
  have hlit : BytesAt (w5.alloc (.cells oneRow 5)) (some ⟨w5.heap.size, 0, none⟩) oneBytes := BytesAt.alloc_new _ _ _ _ oneRow_bytes
  replace hs := hs.trans (hb5.mono hs.size)
  replace hr := hr.later hb5
  replace hB4 := hB4.later hb5
  clear hb5
  obtain ⟨W, hW⟩ : ∃ W, W = w5.alloc (.cells oneRow 5) := ⟨_, rfl⟩
  obtain ⟨g, hg⟩ : ∃ g, g = w5.heap.size := ⟨_, rfl⟩
  refine hKK _ (w5.alloc (.cells oneRow 5)) hs ?_
  rw [← hW, ← hg] at hlit
  rw [← hW] at hs hr hB4
  rw [← hW, ← hg]
  clear hKK KK hW hg
  rotate_left
  intro KK hKK
  go_simp
  have hb5 : Below w4.heap.size w4 (w4.alloc (.cells oneRow 5)) := (Below.refl _ _).alloc (Nat.le_refl _) _
  have hlit : BytesAt (w4.alloc (.cells oneRow 5)) (some ⟨w4.heap.size, 0, none⟩) oneBytes := BytesAt.alloc_new _ _ _ _ oneRow_bytes
  replace hs := hs.trans (hb5.mono hs.size)
  replace hr := hr.later hb5
  clear hb5
  obtain ⟨W4, hW⟩ : ∃ W, W = w4.alloc (.cells oneRow 5) := ⟨_, rfl⟩
  obtain ⟨g, hg⟩ : ∃ g, g = w4.heap.size := ⟨_, rfl⟩
  refine hKK _ (w4.alloc (.cells oneRow 5)) hs ?_
  rw [← hW, ← hg] at hlit
  rw [← hW] at hs hr
  rw [← hW, ← hg]
  clear hKK KK hW hg
  try simp only [Act.put, List.setIfInBounds_toArray, List.set_cons_zero, List.set_cons_succ]
  intro KK hKK
  go_simp
  refine ((HPT.out _).mono (fun _ _ h => readPost_of h)).mono ?_
  rintro e w5 ⟨a4, c4, rfl, hB4, hb4, -, -, -⟩
  replace hs := hs.trans (hb4.mono hs.size)
  replace hr := hr.later hb4
  replace hlit := hlit.later hb4
  refine hKK _ _ hs ?_
  clear hKK KK hb4
  all_goals
    try simp only [Act.put, List.setIfInBounds_toArray, List.set_cons_zero, List.set_cons_succ]
    refine wpPair_cons ?_
    dsimp only [opsAt, List.filterMap, List.getElem?_cons_zero, List.getElem?_cons_succ]
    have hsb := same_any a4 _ oneBytes oneBytes c4 9 _ hB4 hlit (by decide) (by decide)
    rw [decide_eq_true (rfl : oneBytes = oneBytes)] at hsb
    refine wpQuiet_nil ?_
    intro KK hKK
    go_simp
    refine (hsb).mono ?_
    rintro e w6 ⟨rfl, hb6⟩
    replace hs := hs.trans (hb6.mono hs.size)
    replace hr := hr.later hb6
    clear hb6
    clear hsb hB4 hlit
    refine hKK _ _ hs ?_
    clear hKK KK
    try simp only [Act.put, List.setIfInBounds_toArray, List.set_cons_zero, List.set_cons_succ]
    refine wpPair_cons ?_
    dsimp only [opsAt, List.filterMap, List.getElem?_cons_zero, List.getElem?_cons_succ]
    repeat (first
      | go_big_quiet_skip
      | (go_big_quiet_want
         first
           | (refine quiet_load_row' 33 (.tmp 1) rfl w1.heap.size rfl 33 X (0, 0) _ HXL.out Try.underlying33 rfl HXS.out ?_
              simp only [Act.put, List.setIfInBounds_toArray, List.set_cons_zero, List.set_cons_succ]
              go_big_quiet_on)
           | (go_big_quiet_op
              refine ⟨_, fun _ _ => rfl, ?_⟩
              go_big_quiet_on)
           | (go_big_quiet_op
              go_big_quiet_on)))
    refine wpQuiet_nil ?_
    intro KK hKK
    go_simp
    refine (HGT.out R Q _ hr).mono ?_
    rintro e w7 ⟨rfl, hr7, hg7⟩
    replace hs := below_grownBy (Nat.le_refl _) hs hg7 hR
    clear hr hg7
    refine hKK _ _ hs ?_
    clear hKK KK
    try simp only [Act.put, List.setIfInBounds_toArray, List.set_cons_zero, List.set_cons_succ]
    refine wpPair_cons ?_
    dsimp only [opsAt, List.filterMap, List.getElem?_cons_zero, List.getElem?_cons_succ]
    refine wpQuiet_nil ?_
    intro KK hKK
    go_simp
    refine (HSM.out _).mono ?_
    rintro e w8 ⟨rfl, hb8⟩
    replace hs := hs.trans (hb8.mono hs.size)
    replace hr7 := hr7.later hb8
    clear hb8
    refine hKK _ _ hs ?_
    clear hKK KK
    try simp only [Act.put, List.setIfInBounds_toArray, List.set_cons_zero, List.set_cons_succ]
    refine wpPair_cons ?_
    dsimp only [opsAt, List.filterMap, List.getElem?_cons_zero, List.getElem?_cons_succ]
    repeat (first
      | go_big_quiet_skip
      | (go_big_quiet_want
         first
           | (go_big_quiet_op
              refine ⟨_, fun _ _ => rfl, ?_⟩
              go_big_quiet_on)
           | (go_big_quiet_op
              go_big_quiet_on)))
    have hd := done_any R Q [] false _ hr7
    rw [show (!false && ([] : List UInt8).isEmpty) = true from rfl] at hd
    refine wpQuiet_nil ?_
    intro KK hKK
    go_simp
    refine (hd).mono ?_
    rintro e w9 ⟨rfl, rfl⟩
    clear hd hr7
    refine hKK _ _ hs ?_
    clear hKK KK
    try simp only [Act.put, List.setIfInBounds_toArray, List.set_cons_zero, List.set_cons_succ]
    refine wpPair_nil ?_
    dsimp only [opsAt, List.filterMap, List.getElem?_cons_zero, List.getElem?_cons_succ]
    repeat (first
      | go_big_quiet_skip
      | (go_big_quiet_want
         first
           | (go_big_quiet_op
              refine ⟨_, fun _ _ => rfl, ?_⟩
              go_big_quiet_on)
           | (go_big_quiet_op
              go_big_quiet_on)))
    refine wpQuiet_nil ?_
    go_wp2_with fail
    go_ret
    exact ⟨rfl, hb2.trans (hs.mono hb2.size)⟩
end Go.Proofs.Ytoaboehmjfnceaa
