/-
  The walks of goodOver's closure, slices.IndexFunc, slices.ContainsFunc, goodOver.
-/
import Derived.Test.YtoaboehmjfnceaaIncr
namespace Go.Proofs.Ytoaboehmjfnceaa
open Go.RowKit

/-- Can an operation with the stamp (ta, ra) not stand over one with the stamp (t, r)? -/
def wrongB (ta ra t r : Int) : Bool := !rightB t r || !decide (cmpS t r ta ra < 0)

set_option maxRecDepth 100000 in
set_option maxHeartbeats 1000000 in
theorem wrong_any (t r ta ra : Int) (g : Nat) (w : World) (hg : w.heap[g]? = some (.cells (stampCells ta ra) 23 (0, 0))) :
    Calls Try.prog 83 #[.agg (stampCells t r), .pointer (some ⟨g, 0, none⟩)] w fun e w' => e = .returned (.bool (wrongB ta ra t r)) ∧ Below w.heap.size w w' := by
  obtain ⟨w1, hw1⟩ : ∃ w1, w1 = w.alloc (.cells (stampCells t r) 23) := ⟨_, rfl⟩
  have hb1 : Below w.heap.size w w1 := by rw [hw1]; exact (Below.refl _ w).alloc (Nat.le_refl _) _
  have hA : w1.heap[w.heap.size]? = some (.cells (stampCells t r) 23 (0, 0)) := by rw [hw1]; exact heap_alloc_new _ _
  have hz1 := lt_of_block hA
  have hzg := lt_of_block hg
  have HA := Lib.hid (show ∀ W, Below w1.heap.size w1 W → W.heap[w.heap.size]? = some (.cells (stampCells t r) 23 (0, 0)) from fun W h => by rw [h.block _ hz1]; exact hA)
  have HG := Lib.hid (show ∀ W, Below w1.heap.size w1 W → W.heap[g]? = some (.cells (stampCells ta ra) 23 (0, 0)) from fun W h => by rw [h.block _ (by omega), hb1.block _ hzg]; exact hg)
  have HW1 := Lib.hid hw1
  obtain ⟨rb, hrb⟩ : ∃ b, b = rightB t r := ⟨_, rfl⟩
  obtain ⟨cv, hcv⟩ : ∃ c, c = cmpS t r ta ra := ⟨_, rfl⟩
  obtain ⟨wb, hwb⟩ : ∃ b, b = wrongB ta ra t r := ⟨_, rfl⟩
  have hcase : (rb = false ∧ wb = true) ∨ (rb = true ∧ decide (0 ≤ cv) = true ∧ wb = true) ∨ (rb = true ∧ decide (0 ≤ cv) = false ∧ wb = false) := by
    have e : wb = (!rb || !decide (cv < 0)) := by rw [hwb, hrb, hcv]; rfl
    rw [e]
    cases rb
    · exact .inl ⟨rfl, rfl⟩
    · by_cases h : cv < 0
      · exact .inr (.inr ⟨rfl, decide_eq_false (by omega), by simp [h]⟩)
      · exact .inr (.inl ⟨rfl, decide_eq_true (by omega), by simp [h]⟩)
  have k1 := fun W => right_any t r W
  have k2 := fun W => cmp_any t r ta ra W
  rw [← hrb] at k1
  rw [← hcv] at k2
  rw [← hwb]
  clear hg hA hw1 hrb hcv hwb
  rcases hcase with ⟨rfl, rfl⟩ | ⟨rfl, h1, rfl⟩ | ⟨rfl, h1, rfl⟩
  all_goals
    have K1 := Lib.hid k1
    have K2 := Lib.hid k2
    clear k1 k2
    go_enter Try.func83, Try.ntmps83
    go_upto_region 1 with (fail)
    change Code.wp _ _ _ _ (w.alloc (.cells (stampCells t r) 23))
    rw [← HW1.out]
    have hs : Below w1.heap.size w1 w1 := Below.refl _ _
    refine wp_region_lex (fun W => Below w1.heap.size w1 W) [([0], 1), ([2, 3, 4, 5], 6)] [7, 8, 9] (by kernel_rfl) (by kernel_rfl) hs ?_
    refine wpSched_cons ?_
    dsimp only [opsAt, List.filterMap, List.getElem?_cons_zero, List.getElem?_cons_succ]
    repeat (first
      | go_big_quiet_skip
      | (go_big_quiet_want
         first
           | (refine quiet_load_row' 23 (.tmp 2) rfl w.heap.size rfl 23 (stampCells t r) (0, 0) _ HA.out Try.underlying23 rfl (sizeStamp _ _) ?_
              simp only [Act.put, List.setIfInBounds_toArray, List.set_cons_zero, List.set_cons_succ]
              go_big_quiet_on)
           | (go_big_quiet_op
              refine ⟨_, fun _ _ => rfl, ?_⟩
              go_big_quiet_on)
           | (go_big_quiet_op
              go_big_quiet_on)))
    refine wpQuiet_nil ?_
    intro KK hKK
    go_simp
    first
      | (refine (K1.out _).mono ?_
         rintro e w3 ⟨rfl, hb3⟩
         replace hs := hs.trans (hb3.mono hs.size)
         clear hb3)
      | skip
    refine hKK _ _ hs ?_
    clear hKK KK
    try simp only [Act.put, List.setIfInBounds_toArray, List.set_cons_zero, List.set_cons_succ]
    refine wpSched_cons ?_
    dsimp only [opsAt, List.filterMap, List.getElem?_cons_zero, List.getElem?_cons_succ]
    repeat (first
      | go_big_quiet_skip
      | (go_big_quiet_want
         first
           | (refine quiet_load_row' 23 (.tmp 2) rfl w.heap.size rfl 23 (stampCells t r) (0, 0) _ HA.out Try.underlying23 rfl (sizeStamp _ _) ?_
              simp only [Act.put, List.setIfInBounds_toArray, List.set_cons_zero, List.set_cons_succ]
              go_big_quiet_on)
           | (refine quiet_load_row' 23 (.tmp 1) rfl g rfl 23 (stampCells ta ra) (0, 0) _ HG.out Try.underlying23 rfl (sizeStamp _ _) ?_
              simp only [Act.put, List.setIfInBounds_toArray, List.set_cons_zero, List.set_cons_succ]
              go_big_quiet_on)
           | (go_big_quiet_op
              refine ⟨_, fun _ _ => rfl, ?_⟩
              go_big_quiet_on)
           | (go_big_quiet_op
              go_big_quiet_on)))
    refine wpQuiet_nil ?_
    intro KK hKK
    go_simp
    first
      | (refine (K2.out _).mono ?_
         rintro e w3 ⟨rfl, hb3⟩
         replace hs := hs.trans (hb3.mono hs.size)
         clear hb3)
      | skip
    refine hKK _ _ hs ?_
    clear hKK KK
    try simp only [Act.put, List.setIfInBounds_toArray, List.set_cons_zero, List.set_cons_succ]
    refine wpSched_nil ?_
    dsimp only [opsAt, List.filterMap, List.getElem?_cons_zero, List.getElem?_cons_succ]
    repeat (first
      | go_big_quiet_skip
      | (go_big_quiet_want
         first
           | (go_big_quiet_op
              refine ⟨_, fun _ _ => rfl, ?_⟩
              go_big_quiet_on)
           | (go_big_quiet_op
              go_big_quiet_on)))
    refine wpQuiet_nil ?_
    go_wp2_with fail
    go_ret
    exact ⟨rfl, hb1.trans (hs.mono hb1.size)⟩

/-- Is there a wrong one among them? -/
def anyWrong (ta ra : Int) (ss : List (Int × Int)) : Bool := ss.any fun x => wrongB ta ra x.1 x.2

set_option maxRecDepth 100000 in
set_option maxHeartbeats 1000000 in
theorem indexFunc_any (a : Option Addr) (ss : List (Int × Int)) (c : Nat) (ta ra : Int) (g : Nat) (w : World) (ha : StampsAt w a ss) (hl : ss.length ≤ 4611686018427387903) (hg : w.heap[g]? = some (.cells (stampCells ta ra) 23 (0, 0))) :
    Calls Try.prog 92 #[.slice a ss.length c, .func (.func 83) #[] #[.pointer (some ⟨g, 0, none⟩)]] w fun e w' => (∃ q, e = .returned (.int .i64 q) ∧ decide (0 ≤ q) = anyWrong ta ra ss) ∧ Below w.heap.size w w' := by
  obtain ⟨n, hn⟩ : ∃ n, n = ss.length := ⟨_, rfl⟩
  have HN := Lib.hid hn
  have HAT := Lib.hid ha
  have hzg := lt_of_block hg
  have HG := Lib.hid (show ∀ W, Below w.heap.size w W → W.heap[g]? = some (.cells (stampCells ta ra) 23 (0, 0)) from fun W h => by rw [h.block _ hzg]; exact hg)
  rw [← hn]
  have hnm : n ≤ 4611686018427387903 := by omega
  clear hn ha hl hg
  go_enter Try.func92, Try.ntmps92
  go_wp2_with fail
  go_loopw [5, 8] (fun _ s8 wr => ∃ k : Nat, k ≤ n ∧ s8 = .int .i64 (k : Int) ∧ Hid (anyWrong ta ra (ss.take k) = false) ∧ Hid (Below w.heap.size w wr)) (fun _ s8 _ => n - (intOf s8).toNat)
  case atStart => exact ⟨0, Nat.zero_le _, rfl, Lib.hid rfl, Lib.hid (Below.refl _ _)⟩
  case round =>
    obtain ⟨k, hk, rfl, hall, hbel⟩ := hrel
    by_cases hlt : k < n
    · have hlt1 : k < ss.length := by have := HN.out; omega
      obtain ⟨b1, o1, rfl, hc1, hc2⟩ := HAT.out k hlt1
      obtain ⟨t, ht⟩ : ∃ t, t = ss[k].1 := ⟨_, rfl⟩
      obtain ⟨r, hr⟩ : ∃ r, r = ss[k].2 := ⟨_, rfl⟩
      rw [← ht] at hc1
      rw [← hr] at hc2
      have d1 := cell_later hbel.out hc1
      have d2 := cell_later hbel.out hc2
      have hwr := wrong_any t r ta ra g wr (HG.out _ hbel.out)
      obtain ⟨wb, hwb⟩ : ∃ b, b = wrongB ta ra t r := ⟨_, rfl⟩
      rw [← hwb] at hwr
      have htk : anyWrong ta ra (ss.take (k + 1)) = wb := by
        rw [List.take_succ_eq_append_getElem hlt1]
        unfold anyWrong
        rw [List.any_append]
        have := hall.out
        unfold anyWrong at this
        rw [this, hwb, ht, hr]
        simp
      have hyes : wb = true → Hid (anyWrong ta ra ss = true) := fun h => Lib.hid (by
        rw [h] at htk
        unfold anyWrong at htk ⊢
        rw [List.any_eq_true] at htk ⊢
        obtain ⟨x, hx, hx2⟩ := htk
        exact ⟨x, List.mem_of_mem_take hx, hx2⟩)
      have HTK := Lib.hid htk
      have HWR := Lib.hid hwr
      have HB := Lib.hid hbel.out
      clear hc1 hc2 ht hr hwr hwb htk hall hbel hlt1
      cases wb
      · clear hyes
        go_wp2_with fail
        refine HWR.out.mono ?_
        rintro e w3 ⟨rfl, hb3⟩
        have HB3 := Lib.hid (HB.out.trans (hb3.mono HB.out.size))
        clear hb3
        go_wp2_with fail
        go_roundw
        case rel => exact ⟨k + 1, by omega, by go_num, HTK, HB3⟩
        case measure => simp [intOf]; omega
      · have HY := hyes rfl
        clear hyes
        go_wp2_with fail
        refine HWR.out.mono ?_
        rintro e w3 ⟨rfl, hb3⟩
        have HB3 := Lib.hid (HB.out.trans (hb3.mono HB.out.size))
        clear hb3
        go_wp2_with fail
        go_ret
        exact ⟨⟨_, rfl, by rw [HY.out]; exact decide_eq_true (by omega)⟩, HB3.out⟩
    · have hf : anyWrong ta ra ss = false := by
        have := hall.out
        rwa [List.take_of_length_le (by have := HN.out; omega)] at this
      have HF := Lib.hid hf
      have HB := Lib.hid hbel.out
      clear hf hall hbel
      go_wp2_with fail
      go_ret
      exact ⟨⟨_, rfl, by rw [HF.out]; rfl⟩, HB.out⟩

set_option maxRecDepth 100000 in
theorem containsFunc_any (a : Option Addr) (ss : List (Int × Int)) (c : Nat) (ta ra : Int) (g : Nat) (w : World) (ha : StampsAt w a ss) (hl : ss.length ≤ 4611686018427387903) (hg : w.heap[g]? = some (.cells (stampCells ta ra) 23 (0, 0))) :
    Calls Try.prog 85 #[.slice a ss.length c, .func (.func 83) #[] #[.pointer (some ⟨g, 0, none⟩)]] w fun e w' => e = .returned (.bool (anyWrong ta ra ss)) ∧ Below w.heap.size w w' := by
  have hi := indexFunc_any a ss c ta ra g w ha hl hg
  obtain ⟨wb, hwb⟩ : ∃ b, b = anyWrong ta ra ss := ⟨_, rfl⟩
  obtain ⟨n, hn⟩ : ∃ n, n = ss.length := ⟨_, rfl⟩
  rw [← hwb, ← hn] at hi
  rw [← hwb, ← hn]
  have HI := Lib.hid hi
  clear hi hwb hn ha hl hg
  go_enter Try.func85, Try.ntmps85
  go_wp2_with fail
  refine HI.out.mono ?_
  rintro e w3 ⟨⟨q, rfl, hq⟩, hb3⟩
  have HQ := Lib.hid hq
  clear hq
  go_wp2_with fail
  go_ret
  exact ⟨by rw [← HQ.out]; rfl, hb3⟩

/-- Can an operation with the stamp (ta, ra) stand over these? -/
def overB (ta ra : Int) (ss : List (Int × Int)) : Bool := decide (ss.length ≤ 64) && (incrB ss && !anyWrong ta ra ss)

set_option maxRecDepth 100000 in
set_option maxHeartbeats 1000000 in
theorem goodOver_any (a : Option Addr) (ss : List (Int × Int)) (c : Nat) (ta ra : Int) (w : World) (ha : StampsAt w a ss) (hl : ss.length ≤ 4611686018427387903) :
    Calls Try.prog 72 #[.slice a ss.length c, .agg (stampCells ta ra)] w fun e w' => e = .returned (.bool (overB ta ra ss)) ∧ Below w.heap.size w w' := by
  obtain ⟨w1, hw1⟩ : ∃ w1, w1 = w.alloc (.cells (stampCells ta ra) 23) := ⟨_, rfl⟩
  have hb1 : Below w.heap.size w w1 := by rw [hw1]; exact (Below.refl _ w).alloc (Nat.le_refl _) _
  have hA : w1.heap[w.heap.size]? = some (.cells (stampCells ta ra) 23 (0, 0)) := by rw [hw1]; exact heap_alloc_new _ _
  have hz1 := lt_of_block hA
  have hat : ∀ W, Below w1.heap.size w1 W → StampsAt W a ss := fun W h => (ha.later hb1).later h
  have hinc := fun W h => incr_any a ss c W (hat W h) hl
  have hcon := fun W (h : Below w1.heap.size w1 W) => containsFunc_any a ss c ta ra w.heap.size W (hat W h) hl (by rw [h.block _ hz1]; exact hA)
  obtain ⟨n, hn⟩ : ∃ n, n = ss.length := ⟨_, rfl⟩
  obtain ⟨ib, hib⟩ : ∃ b, b = incrB ss := ⟨_, rfl⟩
  obtain ⟨wb, hwb⟩ : ∃ b, b = anyWrong ta ra ss := ⟨_, rfl⟩
  obtain ⟨ob, hob⟩ : ∃ b, b = overB ta ra ss := ⟨_, rfl⟩
  have hcase : (decide ((n : Int) ≤ 64) = false ∧ ob = false) ∨ (decide ((n : Int) ≤ 64) = true ∧ ib = false ∧ ob = false) ∨ (decide ((n : Int) ≤ 64) = true ∧ ib = true ∧ wb = true ∧ ob = false) ∨ (decide ((n : Int) ≤ 64) = true ∧ ib = true ∧ wb = false ∧ ob = true) := by
    have e : ob = (decide (n ≤ 64) && (ib && !wb)) := by rw [hob, hib, hwb, hn]; rfl
    rw [e]
    by_cases h : n ≤ 64
    · have h' : decide ((n : Int) ≤ 64) = true := decide_eq_true (by omega)
      cases ib
      · exact .inr (.inl ⟨h', rfl, by simp⟩)
      · cases wb
        · exact .inr (.inr (.inr ⟨h', rfl, rfl, by simp [h]⟩))
        · exact .inr (.inr (.inl ⟨h', rfl, rfl, by simp⟩))
    · exact .inl ⟨decide_eq_false (by omega), by simp [h]⟩
  rw [← hn, ← hib] at hinc
  rw [← hn, ← hwb] at hcon
  rw [← hn, ← hob]
  have hlen : n ≤ 4611686018427387903 := by omega
  have HW1 := Lib.hid hw1
  clear hw1 hA hat ha hl hn hib hwb hob
  rcases hcase with ⟨h1, rfl⟩ | ⟨h1, rfl, rfl⟩ | ⟨h1, rfl, rfl, rfl⟩ | ⟨h1, rfl, rfl, rfl⟩
  all_goals
    have K1 := Lib.hid hinc
    have K2 := Lib.hid hcon
    clear hinc hcon
    go_enter Try.func72, Try.ntmps72
    go_upto_region 2 with (fail)
    change Code.wp _ _ _ _ (w.alloc (.cells (stampCells ta ra) 23))
    rw [← HW1.out]
    have hs : Below w1.heap.size w1 w1 := Below.refl _ _
    refine wp_region_lex (fun W => Below w1.heap.size w1 W) [([0], 1), ([2, 3, 4], 5), ([6, 7, 8, 9], 10)] [11, 12, 13] (by kernel_rfl) (by kernel_rfl) hs ?_
    refine wpSched_cons ?_
    dsimp only [opsAt, List.filterMap, List.getElem?_cons_zero, List.getElem?_cons_succ]
    repeat (first
      | go_big_quiet_skip
      | (go_big_quiet_want
         first
           | (go_big_quiet_op
              refine ⟨_, fun _ _ => rfl, ?_⟩
              go_big_quiet_on)
           | (go_big_quiet_op
              go_big_quiet_on)))
    refine wpQuiet_nil ?_
    intro KK hKK
    go_simp
    refine hKK _ _ hs ?_
    clear hKK KK
    try simp only [Act.put, List.setIfInBounds_toArray, List.set_cons_zero, List.set_cons_succ]
    refine wpSched_cons ?_
    dsimp only [opsAt, List.filterMap, List.getElem?_cons_zero, List.getElem?_cons_succ]
    repeat (first
      | go_big_quiet_skip
      | (go_big_quiet_want
         first
           | (go_big_quiet_op
              refine ⟨_, fun _ _ => rfl, ?_⟩
              go_big_quiet_on)
           | (go_big_quiet_op
              go_big_quiet_on)))
    refine wpQuiet_nil ?_
    intro KK hKK
    go_simp
    first
      | (refine (K1.out _ hs).mono ?_
         rintro e w3 ⟨rfl, hb3⟩
         replace hs := hs.trans (hb3.mono hs.size)
         clear hb3)
      | skip
    refine hKK _ _ hs ?_
    clear hKK KK
    try simp only [Act.put, List.setIfInBounds_toArray, List.set_cons_zero, List.set_cons_succ]
    refine wpSched_cons ?_
    dsimp only [opsAt, List.filterMap, List.getElem?_cons_zero, List.getElem?_cons_succ]
    repeat (first
      | go_big_quiet_skip
      | (go_big_quiet_want
         first
           | (go_big_quiet_op
              refine ⟨_, fun _ _ => rfl, ?_⟩
              go_big_quiet_on)
           | (go_big_quiet_op
              go_big_quiet_on)))
    refine wpQuiet_nil ?_
    intro KK hKK
    go_simp
    first
      | (refine (K2.out _ hs).mono ?_
         rintro e w3 ⟨rfl, hb3⟩
         replace hs := hs.trans (hb3.mono hs.size)
         clear hb3)
      | skip
    refine hKK _ _ hs ?_
    clear hKK KK
    try simp only [Act.put, List.setIfInBounds_toArray, List.set_cons_zero, List.set_cons_succ]
    refine wpSched_nil ?_
    dsimp only [opsAt, List.filterMap, List.getElem?_cons_zero, List.getElem?_cons_succ]
    repeat (first
      | go_big_quiet_skip
      | (go_big_quiet_want
         first
           | (go_big_quiet_op
              refine ⟨_, fun _ _ => rfl, ?_⟩
              go_big_quiet_on)
           | (go_big_quiet_op
              go_big_quiet_on)))
    refine wpQuiet_nil ?_
    go_wp2_with fail
    go_ret
    exact ⟨rfl, hb1.trans (hs.mono hb1.size)⟩
end Go.Proofs.Ytoaboehmjfnceaa
