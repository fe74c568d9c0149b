/-
  The walk of order.Increasing at stamps, with stamp.Cmp.
-/
import Derived.Test.YtoaboehmjfnceaaStampEq
namespace Go.Proofs.Ytoaboehmjfnceaa
open Go.RowKit

/-- Does each stamp stand behind the one before it? -/
def incrB : List (Int × Int) → Bool
  | a :: b :: r => decide (cmpS a.1 a.2 b.1 b.2 < 0) && incrB (b :: r)
  | _ => true
/-- The first k steps rise. -/
def IncUpto (ss : List (Int × Int)) (k : Nat) : Prop := ∀ i, (h : i + 1 < ss.length) → i < k → cmpS (ss[i]'(by omega)).1 (ss[i]'(by omega)).2 ss[i + 1].1 ss[i + 1].2 < 0
theorem incrB_iff : ∀ ss : List (Int × Int), incrB ss = true ↔ ∀ i, (h : i + 1 < ss.length) → cmpS (ss[i]'(by omega)).1 (ss[i]'(by omega)).2 ss[i + 1].1 ss[i + 1].2 < 0
  | [] => by simp [incrB]
  | [a] => by simp [incrB]
  | a :: b :: r => by
    have ih := incrB_iff (b :: r)
    simp only [incrB, Bool.and_eq_true, decide_eq_true_eq, ih]
    constructor
    · rintro ⟨h1, h2⟩ i h
      match i with
      | 0 => exact h1
      | i + 1 => exact h2 i (by simpa using h)
    · intro h
      exact ⟨h 0 (by simp), fun i hi => h (i + 1) (by simpa using hi)⟩

set_option maxRecDepth 100000 in
set_option maxHeartbeats 1000000 in
theorem incr_any (a : Option Addr) (ss : List (Int × Int)) (c : Nat) (w : World) (ha : StampsAt w a ss) (hl : ss.length ≤ 4611686018427387903) :
    Calls Try.prog 84 #[.slice a ss.length c, .func (.func 12) #[] #[]] w fun e w' => e = .returned (.bool (incrB ss)) ∧ Below w.heap.size w w' := by
  obtain ⟨n, hn⟩ : ∃ n, n = ss.length := ⟨_, rfl⟩
  have HN := Lib.hid hn
  have HAT := Lib.hid ha
  rw [← hn]
  have hnm : n ≤ 4611686018427387903 := by omega
  clear hn ha hl
  go_enter Try.func84, Try.ntmps84
  go_wp2_with fail
  go_loopw [5] (fun s5 wr => ∃ k : Nat, (k = 0 ∨ k < n) ∧ s5 = .int .i64 ((k : Int) + 1) ∧ Hid (IncUpto ss k) ∧ Hid (Below w.heap.size w wr)) (fun s5 _ => n + 1 - (intOf s5).toNat)
  case atStart => exact ⟨0, .inl rfl, rfl, Lib.hid (fun i _ h => absurd h (by omega)), Lib.hid (Below.refl _ _)⟩
  case round =>
    obtain ⟨k, hk, rfl, hall, hbel⟩ := hrel
    by_cases hlt : k + 1 < n
    · have hlt1 : k < ss.length := by have := HN.out; omega
      have hlt2 : k + 1 < ss.length := by have := HN.out; omega
      obtain ⟨b1, o1, rfl, hc1, hc2⟩ := HAT.out k hlt1
      obtain ⟨b2, o2, e2, hd1, hd2⟩ := HAT.out (k + 1) hlt2
      injection e2 with e2
      injection e2 with e3 e4
      subst e3 e4
      obtain ⟨t, ht⟩ : ∃ t, t = ss[k].1 := ⟨_, rfl⟩
      obtain ⟨r, hr⟩ : ∃ r, r = ss[k].2 := ⟨_, rfl⟩
      obtain ⟨t', ht'⟩ : ∃ t, t = ss[k + 1].1 := ⟨_, rfl⟩
      obtain ⟨r', hr'⟩ : ∃ r, r = ss[k + 1].2 := ⟨_, rfl⟩
      rw [← ht] at hc1
      rw [← hr] at hc2
      rw [← ht'] at hd1
      rw [← hr'] at hd2
      have G1 := Lib.hid (show ∀ W, Below w.heap.size w W → W.rangeAt b1 (o1 + k * 2) (stampCells t r).toList from fun W h => stamp_range (cell_later h hc1) (cell_later h hc2))
      have G2 := Lib.hid (show ∀ W, Below w.heap.size w W → W.rangeAt b1 (o1 + (k + 1) * 2) (stampCells t' r').toList from fun W h => stamp_range (cell_later h hd1) (cell_later h hd2))
      obtain ⟨cv, hcv⟩ : ∃ cv, cv = cmpS t r t' r' := ⟨_, rfl⟩
      have hcmp := fun W => cmp_any t r t' r' W
      rw [← hcv] at hcmp
      have HCM := Lib.hid hcmp
      have hyes : cv < 0 → Hid (IncUpto ss (k + 1)) := fun h => Lib.hid fun i hi hik => by
        by_cases he : i = k
        · subst he
          rw [← ht, ← hr, ← ht', ← hr', ← hcv]
          exact h
        · exact hall.out i hi (by omega)
      have hno : ¬ cv < 0 → Hid (incrB ss = false) := fun h => Lib.hid (by
        rw [← Bool.not_eq_true, incrB_iff]
        intro h2
        have h3 := h2 k hlt2
        rw [← ht, ← hr, ← ht', ← hr', ← hcv] at h3
        exact h h3)
      have hs := hbel.out
      clear hc1 hc2 hd1 hd2 ht hr ht' hr' hcv hlt1 hlt2 hall hbel hcmp
      by_cases hcn : cv < 0
      all_goals
        first
          | (have HY := hyes hcn)
          | (have HY := hno hcn)
        clear hyes hno
        go_upto_region 4 with (fail)
        refine wp_region_sched (fun W => Below w.heap.size w W) [([0, 1, 2, 3, 4, 5, 6, 7, 8, 9], 10)] [11] (by kernel_rfl) (by kernel_rfl) (fun _ _ d _ _ h => by cases d <;> exact h) (by kernel_rfl) (of_decide_eq_true (by kernel_rfl)) hs.drew ?_
        replace hs := hs.drew
        refine wpSched_cons ?_
        dsimp only [opsAt, List.filterMap, List.getElem?_cons_zero, List.getElem?_cons_succ]
        repeat (first
          | go_big_quiet_skip
          | (go_big_quiet_want
             first
               | (refine quiet_load_mid 23 (.tmp 16) rfl b1 (o1 + k * 2) rfl (stampCells t r) _ G1.out Try.underlying23 rfl (sizeStamp _ _) ?_
                  simp only [Act.put, List.setIfInBounds_toArray, List.set_cons_zero, List.set_cons_succ]
                  go_big_quiet_on)
               | (refine quiet_load_mid 23 (.tmp 20) rfl b1 (o1 + (k + 1) * 2) rfl (stampCells t' r') _ G2.out Try.underlying23 rfl (sizeStamp _ _) ?_
                  simp only [Act.put, List.setIfInBounds_toArray, List.set_cons_zero, List.set_cons_succ]
                  go_big_quiet_on)
               | (go_big_quiet_op
                  refine ⟨_, fun _ _ => rfl, ?_⟩
                  go_big_quiet_on)
               | (go_big_quiet_op
                  go_big_quiet_on)))
        refine wpQuiet_nil ?_
        intro KK hKK
        go_simp
        first
          | (refine (HCM.out _).mono ?_
             rintro e w3 ⟨rfl, hb3⟩
             replace hs := hs.trans (hb3.mono hs.size)
             clear hb3)
          | skip
        refine hKK _ _ hs ?_
        clear hKK KK
        try simp only [Act.put, List.setIfInBounds_toArray, List.set_cons_zero, List.set_cons_succ]
        refine wpSched_nil ?_
        dsimp only [opsAt, List.filterMap, List.getElem?_cons_zero, List.getElem?_cons_succ]
        repeat (first
          | go_big_quiet_skip
          | (go_big_quiet_want
             first
               | (go_big_quiet_op
                  refine ⟨_, fun _ _ => rfl, ?_⟩
                  go_big_quiet_on)
               | (go_big_quiet_op
                  go_big_quiet_on)))
        refine wpQuiet_nil ?_
        go_wp2_with fail
      · go_roundw
        case rel => exact ⟨k + 1, .inr hlt, by go_num, HY, Lib.hid hs⟩
        case measure => simp [intOf]; omega
      · go_ret
        exact ⟨by rw [HY.out]; rfl, hs⟩
    · have hf : incrB ss = true := (incrB_iff ss).2 fun i hi => hall.out i hi (by have := HN.out; omega)
      have HF := Lib.hid hf
      have HB := Lib.hid hbel.out
      clear hf hall hbel
      go_wp2_with fail
      go_ret
      exact ⟨by rw [HF.out]; rfl, HB.out⟩
end Go.Proofs.Ytoaboehmjfnceaa
