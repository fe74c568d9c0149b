/-
  The walk of slices.Equal at two slices of stamps.
-/
import Derived.Test.YtoaboehmjfnceaaSame2
namespace Go.Proofs.Ytoaboehmjfnceaa
open Go.RowKit

/-- The stamps ss lie one behind the other at the place a. -/
def StampsAt (w : World) (a : Option Addr) (ss : List (Int × Int)) : Prop :=
  ∀ i, (h : i < ss.length) → ∃ b off, a = some ⟨b, off, none⟩ ∧ w.cell? ⟨b, off + i * 2, none⟩ = some (.int .i64 ss[i].1) ∧ w.cell? ⟨b, off + i * 2 + 1, none⟩ = some (.int .i64 ss[i].2)
theorem StampsAt.later {w w' : World} {a : Option Addr} {ss : List (Int × Int)} (h : StampsAt w a ss) (hb : Below w.heap.size w w') : StampsAt w' a ss := fun i hi => by
  obtain ⟨b, off, ha, h1, h2⟩ := h i hi
  exact ⟨b, off, ha, cell_later hb h1, cell_later hb h2⟩
theorem stamps_none {w : World} : StampsAt w none [] := fun i h => absurd h (by simp)
theorem stamp_range {w : World} {b o : Nat} {t r : Int} (h1 : w.cell? ⟨b, o, none⟩ = some (.int .i64 t)) (h2 : w.cell? ⟨b, o + 1, none⟩ = some (.int .i64 r)) : w.rangeAt b o (stampCells t r).toList := fun j v hv => by
  match j, hv with
  | 0, hv => simp [stampCells] at hv; subst hv; exact h1
  | 1, hv => simp [stampCells] at hv; subst hv; exact h2
  | j + 2, hv => simp [stampCells] at hv
theorem stake_all {l m : List (Int × Int)} (hlen : l.length = m.length) (k : Nat) (hk : k = l.length) (h : l.take k = m.take k) : l = m := by
  subst hk
  rw [List.take_of_length_le (Nat.le_refl _), List.take_of_length_le (by omega)] at h
  exact h
theorem stake_step {l m : List (Int × Int)} (k : Nat) (h1 : k < l.length) (h2 : k < m.length) (h : l.take k = m.take k) (he : l[k].1 = m[k].1 ∧ l[k].2 = m[k].2) : l.take (k + 1) = m.take (k + 1) := by
  rw [List.take_succ_eq_append_getElem h1, List.take_succ_eq_append_getElem h2, h]
  have : l[k] = m[k] := Prod.ext he.1 he.2
  rw [this]

set_option maxRecDepth 100000 in
set_option maxHeartbeats 1000000 in
theorem equal_any (a b : Option Addr) (ss tt : List (Int × Int)) (c d : Nat) (w : World) (ha : StampsAt w a ss) (hb : StampsAt w b tt) (hl : ss.length ≤ 4611686018427387903) :
    Calls Try.prog 42 #[.slice a ss.length c, .slice b tt.length d] w fun e w' => e = .returned (.bool (decide (ss = tt))) ∧ Below w.heap.size w w' := by
  by_cases hlen : ss.length = tt.length
  · obtain ⟨n, hn⟩ : ∃ n, n = ss.length := ⟨_, rfl⟩
    have hn2 : n = tt.length := by omega
    have HN := Lib.hid hn
    have HN2 := Lib.hid hn2
    have HAT := Lib.hid ha
    have HBT := Lib.hid hb
    rw [← hn, ← hn2]
    have hnm : n ≤ 4611686018427387903 := by omega
    clear hlen hn hn2 ha hb hl
    go_enter Try.func42, Try.ntmps42
    go_wp2_with fail
    go_loopw [4, 5, 13] (fun _ _ s13 wr => ∃ k : Nat, k ≤ n ∧ s13 = .int .i64 (k : Int) ∧ Hid (ss.take k = tt.take k) ∧ Hid (Below w.heap.size w wr)) (fun _ _ s13 _ => n - (intOf s13).toNat)
    case atStart => exact ⟨0, Nat.zero_le _, rfl, Lib.hid (by simp), Lib.hid (Below.refl _ _)⟩
    case round =>
      obtain ⟨k, hk, rfl, htake, hbel⟩ := hrel
      by_cases hlt : k < n
      · have hlt1 : k < ss.length := by have := HN.out; omega
        have hlt2 : k < tt.length := by have := HN2.out; omega
        obtain ⟨b1, o1, rfl, hc1, hc2⟩ := HAT.out k hlt1
        obtain ⟨b2, o2, rfl, hd1, hd2⟩ := HBT.out k hlt2
        obtain ⟨t, ht⟩ : ∃ t, t = ss[k].1 := ⟨_, rfl⟩
        obtain ⟨r, hr⟩ : ∃ r, r = ss[k].2 := ⟨_, rfl⟩
        obtain ⟨t', ht'⟩ : ∃ t, t = tt[k].1 := ⟨_, rfl⟩
        obtain ⟨r', hr'⟩ : ∃ r, r = tt[k].2 := ⟨_, rfl⟩
        rw [← ht] at hc1
        rw [← hr] at hc2
        rw [← ht'] at hd1
        rw [← hr'] at hd2
        have G1 := Lib.hid (show ∀ W, Below w.heap.size w W → W.rangeAt b1 (o1 + k * 2) (stampCells t r).toList from fun W h => stamp_range (cell_later h hc1) (cell_later h hc2))
        have G2 := Lib.hid (show ∀ W, Below w.heap.size w W → W.rangeAt b2 (o2 + k * 2) (stampCells t' r').toList from fun W h => stamp_range (cell_later h hd1) (cell_later h hd2))
        obtain ⟨eb, heb⟩ : ∃ e, e = decide (t = t' ∧ r = r') := ⟨_, rfl⟩
        have q : ∀ w', (Op.equalIn 10000 23 (.agg (stampCells t r)) (.agg (stampCells t' r'))).run Try.prog w' = .ok eb w' := fun w' => by rw [heb]; exact eq_stamps _ _ _ _ w'
        have hyes : eb = true → Hid (ss.take (k + 1) = tt.take (k + 1)) := fun h => Lib.hid (stake_step k hlt1 hlt2 htake.out (by
          rw [heb] at h
          have := of_decide_eq_true h
          rw [← ht, ← hr, ← ht', ← hr']
          exact this))
        have hno : eb = false → Hid (ss ≠ tt) := fun h => Lib.hid fun he => by
          rw [heb] at h
          have := of_decide_eq_false h
          exact this ⟨by rw [ht, ht']; simp [he], by rw [hr, hr']; simp [he]⟩
        have HB := Lib.hid hbel.out
        clear hc1 hc2 hd1 hd2 ht hr ht' hr' heb hlt1 hlt2 htake hbel
        go_upto_region 6 with (fail)
        refine wp_region_sched (fun W => Below w.heap.size w W) [] [0, 1, 2, 3, 4, 5, 6, 7, 8] (by kernel_rfl) (by kernel_rfl) (fun _ _ d _ _ h => by cases d <;> exact h) (by kernel_rfl) (of_decide_eq_true (by kernel_rfl)) HB.out.drew ?_
        try simp only [Act.put, List.setIfInBounds_toArray, List.set_cons_zero, List.set_cons_succ]
        refine wpSched_nil ?_
        dsimp only [opsAt, List.filterMap, List.getElem?_cons_zero, List.getElem?_cons_succ]
        repeat (first
          | go_big_quiet_skip
          | (go_big_quiet_want
             first
               | (refine quiet_load_mid 23 (.tmp 18) rfl b1 (o1 + k * 2) rfl (stampCells t r) _ G1.out Try.underlying23 rfl (sizeStamp _ _) ?_
                  simp only [Act.put, List.setIfInBounds_toArray, List.set_cons_zero, List.set_cons_succ]
                  go_big_quiet_on)
               | (refine quiet_load_mid 23 (.tmp 22) rfl b2 (o2 + k * 2) rfl (stampCells t' r') _ G2.out Try.underlying23 rfl (sizeStamp _ _) ?_
                  simp only [Act.put, List.setIfInBounds_toArray, List.set_cons_zero, List.set_cons_succ]
                  go_big_quiet_on)
               | (go_big_quiet_op
                  refine ⟨_, fun _ _ => rfl, ?_⟩
                  go_big_quiet_on)
               | (go_big_quiet_op
                  go_big_quiet_on)))
        refine wpQuiet_nil ?_
        cases eb
        · have HNO := hno rfl
          clear hyes hno q
          go_wp2_with fail
          go_ret
          exact ⟨by rw [decide_eq_false HNO.out]; rfl, HB.out.drew⟩
        · have HYES := hyes rfl
          clear hyes hno q
          go_wp2_with fail
          go_roundw
          case rel => exact ⟨k + 1, by omega, by go_num, HYES, Lib.hid HB.out.drew⟩
          case measure => simp [intOf]; omega
      · have hf : ss = tt := stake_all (by rw [← HN.out, ← HN2.out]) k (by have := HN.out; omega) htake.out
        have HF := Lib.hid hf
        clear hf htake
        go_wp2_with fail
        go_ret
        exact ⟨by rw [decide_eq_true HF.out]; rfl, hbel.out⟩
  · have hln : ((ss.length : Int) != (tt.length : Int)) = true := by simp; omega
    have hf : ss ≠ tt := fun h => hlen (by rw [h])
    have HF := Lib.hid hf
    clear hf hlen
    go_enter Try.func42, Try.ntmps42
    go_wp2_with fail
    go_ret
    exact ⟨by rw [decide_eq_false HF.out]; rfl, Below.refl _ _⟩
end Go.Proofs.Ytoaboehmjfnceaa
