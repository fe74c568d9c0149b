/-
  The walks of the reference's prime, Primes and words.
-/
import Derived.Test.YtkgclhkpncegnaaDoorSumsMath
import Derived.Test.YtkgclhkpncegnaaDoorPartsKit
namespace Go.Proofs.YtkgclhkpncegnaaDoor
open Go.RowKit
set_option linter.unusedSimpArgs false
set_option linter.unusedVariables false

set_option maxRecDepth 100000 in
set_option maxHeartbeats 1000000 in
theorem prime_any (n : Nat) (hn : n ≤ 1000) (w : World) : Calls Tryd.prog 33 #[.int .i64 (n : Int)] w fun e w' => e = .returned (.bool (isPr n)) ∧ w' = w := by
  go_enter Tryd.func33, Tryd.ntmps33
  go_wp2_with fail
  go_loopw [3] (fun s3 wx => ∃ k : Nat, 2 ≤ k ∧ (k ≤ n ∨ k = 2) ∧ s3 = .int .i64 (k : Int) ∧ Hid (∀ j, j < k → 2 ≤ j → n % j ≠ 0) ∧ wx = w) (fun s3 _ => 1001 - (intOf s3).toNat)
  case atStart => exact ⟨2, by omega, Or.inr rfl, rfl, Lib.hid (fun j h1 h2 => absurd h1 (by omega)), rfl⟩
  case round =>
    obtain ⟨k, hk2, hkn, rfl, HALL, rfl⟩ := hrel
    by_cases hlt : k < n
    · obtain ⟨q, hq⟩ : ∃ q, q = n % k := ⟨_, rfl⟩
      have hk0 : ¬ (k : Int) = 0 := by omega
      have e1 : (n : Int) % (k : Int) = (q : Int) := by rw [hq]; simp
      have e2 : (n : Int).tmod (k : Int) = (q : Int) := by rw [Int.tmod_eq_emod_of_nonneg (by omega)]; exact e1
      have HQ := Lib.hid hq
      clear hq
      by_cases hq0 : q = 0
      · have hf : isPr n = false := by
          unfold isPr
          rw [decide_eq_false (fun h => h k hlt hk2 (by rw [← HQ.out]; exact hq0))]
          rfl
        have HF := Lib.hid hf
        clear hf
        go_wp2_with fail
        go_ret
        exact ⟨by rw [HF.out]; rfl, rfl⟩
      · have d1 : ((q : Int) == 0) = false := by simp; omega
        go_wp2_with fail
        go_roundw
        case rel =>
          refine ⟨k + 1, by omega, by omega, by go_num, Lib.hid ?_, by first | rfl | trivial⟩
          intro j h1 h2
          by_cases hj : j = k
          · rw [hj, ← HQ.out]; exact hq0
          · exact HALL.out j (by omega) h2
        case measure => simp [intOf]; omega
    · have hf : isPr n = decide (1 < n) := by
        unfold isPr
        rw [decide_eq_true (fun j h1 h2 => HALL.out j (by omega) h2)]
        rfl
      have HF := Lib.hid hf
      clear hf
      have e1 : decide ((1 : Int) < (n : Int)) = decide (1 < n) := by congr 1; simp only [eq_iff_iff]; omega
      go_wp2_with fail
      all_goals (try go_ret)
      all_goals exact ⟨by rw [HF.out]; first | rfl | (congr 2; first | exact e1 | simp_all | omega), rfl⟩

theorem own_any {w : World} {base n : Nat} {e : TypeId} {v : Value} {xs : List Value} (h : w.ownsRow base e 1 v n xs) : ∃ a c, v = .slice a n c := by
  rcases h.2 with ⟨h1, h2⟩ | ⟨g, cap, cur, hv, _⟩
  · exact ⟨none, 0, by rw [h1, h2]⟩
  · exact ⟨_, _, hv⟩
theorem own_addr {w : World} {base n c : Nat} {a : Option Addr} {e : TypeId} {xs : List Value} (h : w.ownsRow base e 1 (.slice a n c) n xs) (hn : 0 < n) : ∃ g, a = some ⟨g, 0, none⟩ := by
  rcases h.2 with ⟨h1, h2⟩ | ⟨g, cap, cur, hv, _⟩
  · omega
  · simp only [Value.slice.injEq] at hv
    exact ⟨g, hv.1⟩
theorem own_capmax {w : World} {base n c : Nat} {a : Option Addr} {e : TypeId} {xs : List Value} (h : w.ownsRow base e 1 (.slice a n c) n xs) : c ≤ 9223372036854775807 := by
  rcases h.2 with ⟨h1, h2⟩ | ⟨g, cap, cur, hv, hbg, hg, hnc, hcm, hcs, htake⟩
  · simp only [Value.slice.injEq] at h1; omega
  · simp only [Value.slice.injEq] at hv
    unfold maxLen at hcm
    omega
theorem own_cells {w : World} {base n c g : Nat} {e : TypeId} {xs : List Value} (h : w.ownsRow base e 1 (.slice (some ⟨g, 0, none⟩) n c) n xs) : ∀ i, i < n → w.cell? ⟨g, i, none⟩ = xs[i]? := by
  intro i hi
  rcases h.2 with ⟨h1, h2⟩ | ⟨g', cap, cur, hv, hbg, hg, hnc, hcm, hcs, htake⟩
  · simp at h1
  · simp only [Value.slice.injEq, Option.some.injEq, Addr.mk.injEq, and_true, true_and] at hv
    obtain ⟨rfl, rfl⟩ := hv
    rw [cell_of_block hg, ← htake, List.getElem?_take, if_pos (by omega)]
    simp
/-- The cells of a row of ints. -/
def is (l : List Nat) : List Value := l.map fun (x : Nat) => .int .i64 (x : Int)
theorem infoI : (Tryd.prog.info? 3).map (fun i => (i.zero, i.size, i.bytes)) = some (some (.int .i64 0), 1, 8) := by kernel_rfl

set_option maxRecDepth 100000 in
set_option maxHeartbeats 1000000 in
theorem primes_any (w : World) : Calls Tryd.prog 19 #[.int .i64 64] w fun e w' => ∃ g c, e = .returned (.slice (some ⟨g, 0, none⟩) 64 c) ∧ (∀ i, i < 64 → w'.cell? ⟨g, i, none⟩ = some (.int .i64 ((prs 312).getD i 0 : Int))) ∧ 64 ≤ c ∧ c ≤ 9223372036854775807 ∧ Below w.heap.size w w' := by
  obtain ⟨i0, hi, hz0, hz1, hz2⟩ := info_parts infoI
  have hown0 := ownsRow_empty w 3
  have hbel0 : Below w.heap.size w (w.alloc (.cells #[] 3)) := (Below.refl _ w).alloc (Nat.le_refl _) _
  have HO0 := Lib.hid hown0
  have HE0 := Lib.hid hbel0
  clear hown0 hbel0
  go_enter Tryd.func19, Tryd.ntmps19
  go_wp2_with fail
  go_loopw [3, 4] (fun s3 s4 wx => ∃ i : Nat, 2 ≤ i ∧ i ≤ 312 ∧ s4 = .int .i64 (i : Int) ∧ wx.ownsRow w.heap.size 3 1 s3 (prs i).length (is (prs i)) ∧ Below w.heap.size w wx) (fun _ s4 _ => 313 - (intOf s4).toNat)
  case atStart => exact ⟨2, by omega, by omega, rfl, HO0.out, HE0.out⟩
  case round =>
    clear HO0 HE0
    obtain ⟨i, hi2, hi3, rfl, howr, hbr⟩ := hrel
    have hsz := hbr.size
    obtain ⟨a3, c3, rfl⟩ := own_any howr
    by_cases hl : (prs i).length < 64
    · have hi4 := prs_less hl
      have d1 : ((prs i).length : Int) < 64 := by omega
      cases hp : isPr i with
      | false =>
        have e : prs (i + 1) = prs i := by rw [prs, hp]; rfl
        have HE := Lib.hid e
        clear e
        go_wp2_with fail
        refine (prime_any i (by omega) _).mono ?_
        rintro e w' ⟨rfl, rfl⟩
        rw [hp]
        go_wp2_with fail
        go_roundw
        case rel => exact ⟨i + 1, by omega, by omega, by go_num, by rw [HE.out]; exact howr, hbr⟩
        case measure => simp [intOf]; omega
      | true =>
        have e : prs (i + 1) = prs i ++ [i] := by rw [prs, hp]; rfl
        have HE := Lib.hid e
        clear e
        go_wp2_with fail
        refine (prime_any i (by omega) _).mono ?_
        rintro e w' ⟨rfl, rfl⟩
        rw [hp]
        go_wp2_with (at_builtin; refine wpList_append_own _ rfl (.tmp 14) (.tmp 16) 43 rfl w.heap.size 3 i0 (.int .i64 0) 1 8 Tryd.underlying43 hi hz0 hz1 hz2 rfl (by decide) _ _ _ rfl (howr.alloc _) ⟨w'.heap.size, 0, none⟩ 1 1 [.int .i64 (i : Int)] rfl rfl ?c1 ?c2 ?c3 ?c4 ?c5 ?_)
        case c1 => exact cell_one_new _ _ _
        case c2 => intro u hu; simp at hu; subst hu; rfl
        case c3 => unfold maxLen; omega
        case c4 => omega
        case c5 => simp; omega
        intro v' w3 hown' hgr _
        go_wp2
        go_roundw
        case rel => exact ⟨i + 1, by omega, by omega, by go_num, ownsRow_cast hown' (by rw [HE.out, List.length_append]; rfl) (by rw [HE.out]; unfold is; rw [List.map_append]; rfl), (hbr.alloc hsz _).grown hgr (by simp; omega) (fun k hk => (howr.lt k hk).1)⟩
        case measure => simp [intOf]; omega
    · obtain rfl := prs_full hi3 hl
      have hlen := prs312
      rw [hlen] at howr
      have HOW := Lib.hid howr
      have HLN := Lib.hid hlen
      have HBR := Lib.hid hbr
      have d1 : ¬ ((prs 312).length : Int) < 64 := by omega
      clear howr hlen hbr
      go_wp2_with fail
      go_ret
      rw [HLN.out]
      obtain ⟨g, rfl⟩ := own_addr HOW.out (by omega)
      refine ⟨g, c3, rfl, ?_, own_cap HOW.out, own_capmax HOW.out, HBR.out⟩
      intro j hj
      rw [own_cells HOW.out j hj]
      have hj' : j < (prs 312).length := by rw [HLN.out]; exact hj
      unfold is
      simp [List.getD, hj']
end Go.Proofs.YtkgclhkpncegnaaDoor
