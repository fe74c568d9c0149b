/-
  The walks of the reference's readers, what is left told where it lay ahead.
-/
import Derived.Test.YtoaboehmjfnceaaGetId
namespace Go.Proofs.Ytoaboehmjfnceaa
open Go.RowKit
set_option linter.unusedSimpArgs false
set_option linter.unusedVariables false

/-- What GetNum comes to. -/
def GotNumB (w0 : World) (l : List UInt8) (most : Int) (w : World) (e : Ending) (w' : World) : Prop :=
  Below w.heap.size w w' ∧ ((rnum l most = none ∧ e = .returned (.tuple #[.int .i64 0, .agg (inCells none 0 0 true)])) ∨
    ∃ N l' a c, rnum l most = some (N, l') ∧ e = .returned (.tuple #[.int .i64 ((N : Nat) : Int), .agg (inCells a l'.length c false)]) ∧ InAt w0 a c l')

set_option maxRecDepth 100000 in
set_option maxHeartbeats 2000000 in
theorem getnum_b (w0 : World) (a : Option Addr) (cap : Nat) (l : List UInt8) (f : Bool) (most : Int) (w : World) (hw0 : Below w0.heap.size w0 w) (hb : InAt w0 a cap l) (hf : f = true → l = []) :
    Calls Try.prog 60 #[.agg (inCells a l.length cap f), .int .i64 most] w (GotNumB w0 l most w) := by
  obtain ⟨hB0, hlc, hcm⟩ := hb
  have hB := hB0.later hw0
  obtain ⟨w2, hw2⟩ : ∃ w2, w2 = (w.alloc (.cells (inCells a l.length cap f) 46)).alloc (.cells (inCells none 0 0 false) 46) := ⟨_, rfl⟩
  have hA : w2.heap[w.heap.size]? = some (.cells (inCells a l.length cap f) 46 (0, 0)) := by
    rw [hw2, heap_alloc_old _ _ (by simp)]; exact heap_alloc_new w _
  have hR : w2.heap[w.heap.size + 1]? = some (.cells (inCells none 0 0 false) 46 (0, 0)) := by
    rw [hw2, show w.heap.size + 1 = (w.alloc (.cells (inCells a l.length cap f) 46)).heap.size by simp]; exact heap_alloc_new _ _
  have hb2 : Below w.heap.size w w2 := by rw [hw2]; exact ((Below.refl _ w).alloc (Nat.le_refl _) _).alloc (by simp) _
  have c0 : w2.cell? ⟨w.heap.size, 0, none⟩ = some (.slice a l.length cap) := cell_of_block hA
  have c1 : w2.cell? ⟨w.heap.size, 1, none⟩ = some (.bool f) := cell_of_block hA
  have hB2 := hB.later hb2
  have HR := Lib.hid hR
  have HB2 := Lib.hid hB2
  have HBW := Lib.hid hB0
  have r0 : w2.cell? ⟨w.heap.size + 1, 0, none⟩ = some (.slice none 0 0) := cell_of_block hR
  have r1 : w2.cell? ⟨w.heap.size + 1, 1, none⟩ = some (.bool false) := cell_of_block hR
  have r2 : ∀ j, w2.frozen? ⟨w.heap.size + 1, j, none⟩ = false := fun j => free_of_block hR
  have HF := Lib.hid hf
  clear hA hR hB hB2 hf hB0 hw0
  unfold GotNumB
  go_enter Try.func60, Try.ntmps60
  go_upto_region 1 with (fail)
  change Code.wp _ _ _ _ ((w.alloc (.cells (inCells a l.length cap f) 46)).alloc (.cells (inCells none 0 0 false) 46))
  rw [← hw2]
  clear hw2
  go_wp2_with fail
  go_loop [6, 7, 8, 9] (fun s6 s7 s8 _ => ∃ k : Nat, k ≤ l.length ∧ k ≤ 9 ∧ s8 = .int .i64 (k : Int) ∧ s6 = .int .i64 (valOf (l.take k) : Int) ∧ s7 = .int .i64 ((128 ^ (min k 8) : Nat) : Int) ∧ Hid (∀ j, (h : j < l.length) → j < k → 128 ≤ l[j].toNat)) (fun _ _ s8 _ => 9 - (intOf s8).toNat)
  case atStart => exact ⟨0, Nat.zero_le _, by omega, rfl, rfl, rfl, fun j _ h => absurd h (by omega)⟩
  case round =>
    obtain ⟨k, hk, hk9, rfl, rfl, rfl, HALL⟩ := hrel
    by_cases hlt : k < l.length
    · by_cases hlt9 : k < 9
      · have hff : f = false := by
          cases f with
          | false => rfl
          | true => rw [HF.out rfl] at hlt; simp at hlt
        subst hff
        obtain ⟨b, off, ha, hc⟩ := HB2.out k hlt
        have hmin : min k 8 = k := by omega
        rw [hmin]
        obtain ⟨d, hd⟩ : ∃ d, d = l[k] := ⟨_, rfl⟩
        rw [← hd] at hc
        have hfound := get_found l most k hlt hlt9 HALL.out
        rw [← hd] at hfound
        have d8 := d.toNat_lt
        obtain ⟨g, hg⟩ : ∃ g : Nat, g = d.toNat % 128 := ⟨_, rfl⟩
        have hg1 : (d.toNat : Int).tmod 128 = (g : Int) := by rw [Int.tmod_eq_emod_of_nonneg (by omega)]; omega
        have g128 : g < 128 := by omega
        subst ha
        by_cases hhigh : k = 8 ∧ 64 < g
        · obtain ⟨rfl, h64⟩ := hhigh
          have hnone := get_high l most hlt HALL.out (by rw [← hd, ← hg]; exact h64)
          have HN := Lib.hid hnone
          clear hnone hfound hd hg
          go_wp2_with fail
          refine (failed_any _).mono ?_
          rintro e w3 ⟨rfl, hb3⟩
          have hr3 : w3.heap[w.heap.size + 1]? = some (.cells (inCells none 0 0 false) 46 (0, 0)) := by rw [hb3.block _ (lt_of_block HR.out)]; exact HR.out
          have HR3 := Lib.hid hr3
          clear hr3
          go_wp2_with (refine wpList_store_row rfl 46 (.tmp 5) (.tmp 39) rfl (w.heap.size + 1) (inCells none 0 0 true) rfl rfl 46 (inCells none 0 0 false) HR3.out (sizeIn _ _ _ _) rfl (oneIn _ _ _ _) ?_)
          refine bodyPost_ret (v := .tuple #[.int .i64 0, .agg (inCells none 0 0 true)]) (results_tmp_row rfl _ _ (w.heap.size + 1) 46 (inCells none 0 0 true) (0, 0) _ _ rfl (setRow_heap w3 (w.heap.size + 1) _ _ _ _ HR3.out) Try.underlying46 rfl (sizeIn _ _ _ _) rfl) rfl ?_
          exact ⟨below_setRow (hb2.trans (hb3.mono hb2.size)) (by omega), Or.inl ⟨HN.out, rfl⟩⟩
        · have hst := get_step l k hlt (by omega) (fun h8 => by rw [← hd, ← hg]; omega)
          rw [← hd, ← hg] at hst
          obtain ⟨hs1, hs2, hs3, hs4⟩ := hst
          rw [hs1] at hfound
          obtain ⟨V, hV⟩ : ∃ V, V = valOf (l.take k) := ⟨_, rfl⟩
          obtain ⟨U, hU⟩ : ∃ U : Nat, U = 128 ^ k := ⟨_, rfl⟩
          obtain ⟨p, hp⟩ : ∃ p : Nat, p = g * U := ⟨_, rfl⟩
          have hU1 : U ≤ 72057594037927936 := by rw [hU]; exact (pow128 k (by omega)).1
          have hUs : k < 8 → 128 ^ (min (k + 1) 8) = U * 128 := fun h => by rw [Nat.min_eq_left (by omega), Nat.pow_succ, hU]
          have hUs2 : k < 8 → U ≤ 562949953421312 := fun h => by rw [hU]; exact (pow128 k (by omega)).2 (by omega)
          rw [← hU, ← hp] at hs1 hs3
          rw [← hV] at hs1 hs4 ⊢
          rw [← hU, ← hp, ← hV] at hfound
          rw [← hU]
          have hp1 : (g : Int) * (U : Int) = (p : Int) := by rw [hp]; simp
          have n64 : ¬ (k = 8 ∧ 64 < g) := hhigh
          have HS1 := Lib.hid hs1
          have HFD := Lib.hid hfound
          have HUS := Lib.hid hUs
          have hue : U = 128 ^ (min k 8) := by rw [hU, hmin]
          have HUE := Lib.hid hue
          have HUS2 := Lib.hid hUs2
          have HD := Lib.hid hd
          clear hs1 hs2 hue hfound hUs hUs2 hd hV hp hU hg hhigh hmin
          obtain ⟨b8, t8⟩ : ∃ x, ((k : Int) == 8) = x := ⟨_, rfl⟩
          obtain ⟨b0, t0⟩ : ∃ x, decide (0 < (k : Int)) = x := ⟨_, rfl⟩
          obtain ⟨bl, tl⟩ : ∃ x, decide ((k : Int) < 8) = x := ⟨_, rfl⟩
          obtain ⟨bg, tg⟩ : ∃ x, decide (64 < (g : Int)) = x := ⟨_, rfl⟩
          by_cases hd128 : d.toNat < 128
          · have hfd := HFD.out hd128
            by_cases hC : (d.toNat = 0 ∧ 0 < k) ∨ 4611686018427387904 < V + p ∨ most < ((V + p : Nat) : Int)
            · rw [if_pos hC] at hfd
              have HN := Lib.hid hfd
              have HC := Lib.hid hC
              clear hfd hC
              go_wp2_with fail
              all_goals first
                | (exfalso; (try have hC := HC.out); (cases b8 <;> cases bg <;> cases b0 <;> cases bl) <;> first | contradiction | (simp only [beq_iff_eq, beq_eq_false_iff_ne, decide_eq_true_eq, decide_eq_false_iff_not, ne_eq] at t8 t0 tl tg; omega))
                | (
                   refine (failed_any _).mono ?_
                   rintro e w3 ⟨rfl, hb3⟩
                   have hr3 : w3.heap[w.heap.size + 1]? = some (.cells (inCells none 0 0 false) 46 (0, 0)) := by rw [hb3.block _ (lt_of_block HR.out)]; exact HR.out
                   have HR3 := Lib.hid hr3
                   clear hr3
                   go_wp2_with (refine wpList_store_row rfl 46 (.tmp 5) (.tmp 70) rfl (w.heap.size + 1) (inCells none 0 0 true) rfl rfl 46 (inCells none 0 0 false) HR3.out (sizeIn _ _ _ _) rfl (oneIn _ _ _ _) ?_)
                   refine bodyPost_ret (v := .tuple #[.int .i64 0, .agg (inCells none 0 0 true)]) (results_tmp_row rfl _ _ (w.heap.size + 1) 46 (inCells none 0 0 true) (0, 0) _ _ rfl (setRow_heap w3 (w.heap.size + 1) _ _ _ _ HR3.out) Try.underlying46 rfl (sizeIn _ _ _ _) rfl) rfl ?_
                   exact ⟨below_setRow (hb2.trans (hb3.mono hb2.size)) (by omega), Or.inl ⟨HN.out, rfl⟩⟩
                  )
            · rw [if_neg hC] at hfd
              have HN := Lib.hid hfd
              have hle : V + p ≤ 4611686018427387904 ∧ ((V : Int) + (p : Int)) ≤ most := by omega
              obtain ⟨hle1, hle2⟩ := hle
              rcases Nat.eq_zero_or_pos k with hk0 | hk0
              · have HC := Lib.hid hC
                clear hfd hC
                subst hk0
                rw [Nat.add_zero] at hc
                clear t8 t0 tl tg
                go_wp2_with fail
                all_goals first
                  | (exfalso; omega)
                  | (
                     go_region
                     generalize hAA : (if cap = 1 then (some ⟨b, off, none⟩ : Option Addr) else some ⟨b, off + 1, none⟩) = AA
                     have HAA := Lib.hid hAA
                     have h1 := heap_setCell_same w2 (w.heap.size + 1) 0 _ _ (.slice AA (l.length - 1) (cap - 1)) HR.out
                     have h2 := heap_setCell_same _ (w.heap.size + 1) 1 _ _ (.bool false) h1
                     have H2 := Lib.hid h2
                     clear hAA h1 h2
                     go_wp2_with fail
                     refine bodyPost_ret (v := .tuple #[.int .i64 ((V : Int) + (p : Int)), .agg (inCells AA (l.length - 1) (cap - 1) false)]) (results_tmp_row rfl _ _ (w.heap.size + 1) 46 (inCells AA (l.length - 1) (cap - 1) false) (0, 0) _ _ rfl H2.out Try.underlying46 rfl (sizeIn _ _ _ _) rfl) rfl ?_
                     have hbe : Below w.heap.size w (((w2.setCell ⟨w.heap.size + 1, 0, none⟩ (.slice AA (l.length - 1) (cap - 1))).setCell ⟨w.heap.size + 1, 1, none⟩ (.bool false)).drew) := ((hb2.setCell (by show w.heap.size ≤ w.heap.size + 1; omega) _).setCell (by show w.heap.size ≤ w.heap.size + 1; omega) _).drew
                     have hin : InAt w0 AA (cap - 1) (l.drop 1) := by
                       refine ⟨?_, by rw [List.length_drop]; omega, by omega⟩
                       rw [← HAA.out]
                       by_cases hz : cap = 1
                       · rw [List.drop_eq_nil_of_le (by omega)]
                         exact BytesAt.nil _ _
                       · rw [if_neg hz]
                         exact BytesAt.drop' HBW.out 1
                     have hn := HN.out
                     refine ⟨hbe, Or.inr ⟨V + p, l.drop 1, _, _, hn, ?_, hin⟩⟩
                     rw [List.length_drop]
                     simp
                    )
              · have hdz : ((d.toNat : Int) == 0) = false := by rw [beq_eq_false_iff_ne]; omega
                have HC := Lib.hid hC
                clear hfd hC t0
                go_wp2_with fail
                all_goals first
                  | (exfalso; (cases b8 <;> cases bg <;> cases bl) <;> first | contradiction | (simp only [beq_iff_eq, beq_eq_false_iff_ne, decide_eq_true_eq, decide_eq_false_iff_not, ne_eq] at t8 tl tg; omega))
                  | (
                     go_region
                     generalize hAA : (if cap = (k + 1) then (some ⟨b, off, none⟩ : Option Addr) else some ⟨b, off + (k + 1), none⟩) = AA
                     have HAA := Lib.hid hAA
                     have h1 := heap_setCell_same w2 (w.heap.size + 1) 0 _ _ (.slice AA (l.length - (k + 1)) (cap - (k + 1))) HR.out
                     have h2 := heap_setCell_same _ (w.heap.size + 1) 1 _ _ (.bool false) h1
                     have H2 := Lib.hid h2
                     clear hAA h1 h2
                     go_wp2_with fail
                     refine bodyPost_ret (v := .tuple #[.int .i64 ((V : Int) + (p : Int)), .agg (inCells AA (l.length - (k + 1)) (cap - (k + 1)) false)]) (results_tmp_row rfl _ _ (w.heap.size + 1) 46 (inCells AA (l.length - (k + 1)) (cap - (k + 1)) false) (0, 0) _ _ rfl H2.out Try.underlying46 rfl (sizeIn _ _ _ _) rfl) rfl ?_
                     have hbe : Below w.heap.size w (((w2.setCell ⟨w.heap.size + 1, 0, none⟩ (.slice AA (l.length - (k + 1)) (cap - (k + 1)))).setCell ⟨w.heap.size + 1, 1, none⟩ (.bool false)).drew) := ((hb2.setCell (by show w.heap.size ≤ w.heap.size + 1; omega) _).setCell (by show w.heap.size ≤ w.heap.size + 1; omega) _).drew
                     have hin : InAt w0 AA (cap - (k + 1)) (l.drop (k + 1)) := by
                       refine ⟨?_, by rw [List.length_drop]; omega, by omega⟩
                       rw [← HAA.out]
                       by_cases hz : cap = (k + 1)
                       · rw [List.drop_eq_nil_of_le (by omega)]
                         exact BytesAt.nil _ _
                       · rw [if_neg hz]
                         exact BytesAt.drop' HBW.out (k + 1)
                     have hn := HN.out
                     refine ⟨hbe, Or.inr ⟨V + p, l.drop (k + 1), _, _, hn, ?_, hin⟩⟩
                     rw [List.length_drop]
                     simp
                    )
          · go_wp2_with fail
            all_goals first
              | (exfalso; (try have hC := HC.out); (cases b8 <;> cases bg <;> cases b0 <;> cases bl) <;> first | contradiction | (simp only [beq_iff_eq, beq_eq_false_iff_ne, decide_eq_true_eq, decide_eq_false_iff_not, ne_eq] at t8 t0 tl tg; omega))
              | (
                 go_round
                 case rel =>
                   refine ⟨k + 1, by omega, by omega, by go_num, ?_, ?_, ?_⟩
                   · rw [HS1.out]; simp
                   · rcases Nat.lt_or_ge k 8 with hk8 | hk8
                     · have hu2 := HUS2.out hk8
                       rw [HUS.out hk8]
                       have hw : wrap64 ((U : Int) * 128) = (U : Int) * 128 := by unfold wrap64; omega
                       first
                         | (rw [hw]; simp; done)
                         | (exfalso; rw [decide_eq_true (show ((k : Int) < 8) by omega)] at tl; simp_all; done)
                     · have e8 : k = 8 := by omega
                       have hue := HUE.out
                       rw [e8] at hue ⊢
                       first
                         | (rw [hue]; rfl)
                         | (exfalso; rw [decide_eq_false (show ¬ ((k : Int) < 8) by omega)] at tl; simp_all; done)
                   · intro j hj hlt'
                     rcases Nat.lt_or_ge j k with h1 | h1
                     · exact HALL.out j hj h1
                     · obtain rfl : j = k := by omega
                       rw [← HD.out]; omega
                 case measure => simp [intOf]; omega)
      · have hnone := get_end l most k hk HALL.out (by omega)
        have HN := Lib.hid hnone
        have t9 : ¬ ((k : Int) < 9) := by omega
        clear hnone
        go_wp2_with fail
        refine (failed_any _).mono ?_
        rintro e w3 ⟨rfl, hb3⟩
        have hr3 : w3.heap[w.heap.size + 1]? = some (.cells (inCells none 0 0 false) 46 (0, 0)) := by rw [hb3.block _ (lt_of_block HR.out)]; exact HR.out
        have HR3 := Lib.hid hr3
        clear hr3
        go_wp2_with (refine wpList_store_row rfl 46 (.tmp 5) (.tmp 82) rfl (w.heap.size + 1) (inCells none 0 0 true) rfl rfl 46 (inCells none 0 0 false) HR3.out (sizeIn _ _ _ _) rfl (oneIn _ _ _ _) ?_)
        refine bodyPost_ret (v := .tuple #[.int .i64 0, .agg (inCells none 0 0 true)]) (results_tmp_row rfl _ _ (w.heap.size + 1) 46 (inCells none 0 0 true) (0, 0) _ _ rfl (setRow_heap w3 (w.heap.size + 1) _ _ _ _ HR3.out) Try.underlying46 rfl (sizeIn _ _ _ _) rfl) rfl ?_
        exact ⟨below_setRow (hb2.trans (hb3.mono hb2.size)) (by omega), Or.inl ⟨HN.out, rfl⟩⟩
    · have hnone := get_end l most k hk HALL.out (by omega)
      have HN := Lib.hid hnone
      clear hnone
      go_wp2_with fail
      refine (failed_any _).mono ?_
      rintro e w3 ⟨rfl, hb3⟩
      have hr3 : w3.heap[w.heap.size + 1]? = some (.cells (inCells none 0 0 false) 46 (0, 0)) := by rw [hb3.block _ (lt_of_block HR.out)]; exact HR.out
      have HR3 := Lib.hid hr3
      clear hr3
      go_wp2_with (refine wpList_store_row rfl 46 (.tmp 5) (.tmp 82) rfl (w.heap.size + 1) (inCells none 0 0 true) rfl rfl 46 (inCells none 0 0 false) HR3.out (sizeIn _ _ _ _) rfl (oneIn _ _ _ _) ?_)
      refine bodyPost_ret (v := .tuple #[.int .i64 0, .agg (inCells none 0 0 true)]) (results_tmp_row rfl _ _ (w.heap.size + 1) 46 (inCells none 0 0 true) (0, 0) _ _ rfl (setRow_heap w3 (w.heap.size + 1) _ _ _ _ HR3.out) Try.underlying46 rfl (sizeIn _ _ _ _) rfl) rfl ?_
      exact ⟨below_setRow (hb2.trans (hb3.mono hb2.size)) (by omega), Or.inl ⟨HN.out, rfl⟩⟩

/-- What GetText comes to. -/
def GotTextB (w0 : World) (l : List UInt8) (most : Int) (w : World) (e : Ending) (w' : World) : Prop :=
  Below w.heap.size w w' ∧ ((rtext l most = none ∧ e = .returned (.tuple #[.string ⟨#[]⟩, .agg (inCells none 0 0 true)])) ∨
    ∃ t l' a c, rtext l most = some (t, l') ∧ e = .returned (.tuple #[.string ⟨t.toArray⟩, .agg (inCells a l'.length c false)]) ∧ InAt w0 a c l')

set_option maxRecDepth 100000 in
set_option maxHeartbeats 2000000 in
theorem gettext_b (w0 : World) (a : Option Addr) (cap : Nat) (l : List UInt8) (f : Bool) (most : Int) (w : World) (hw0 : Below w0.heap.size w0 w) (hb : InAt w0 a cap l) (hf : f = true → l = []) :
    Calls Try.prog 62 #[.agg (inCells a l.length cap f), .int .i64 most] w (GotTextB w0 l most w) := by
  obtain ⟨w2, hw2⟩ : ∃ w2, w2 = (w.alloc (.cells (inCells a l.length cap f) 46)).alloc (.cells (inCells none 0 0 false) 46) := ⟨_, rfl⟩
  have hA : w2.heap[w.heap.size]? = some (.cells (inCells a l.length cap f) 46 (0, 0)) := by
    rw [hw2, heap_alloc_old _ _ (by simp)]; exact heap_alloc_new w _
  have hR : w2.heap[w.heap.size + 1]? = some (.cells (inCells none 0 0 false) 46 (0, 0)) := by
    rw [hw2, show w.heap.size + 1 = (w.alloc (.cells (inCells a l.length cap f) 46)).heap.size by simp]; exact heap_alloc_new _ _
  have hb2 : Below w.heap.size w w2 := by rw [hw2]; exact ((Below.refl _ w).alloc (Nat.le_refl _) _).alloc (by simp) _
  have hg := getnum_b w0 a cap l f most w2 (hw0.trans (hb2.mono hw0.size)) hb hf
  have HW0 := Lib.hid hw0
  have HA := Lib.hid hA
  have HR := Lib.hid hR
  have HG := Lib.hid hg
  have hlt2 := lt_of_block hR
  clear hA hR hg hb hf hw0
  unfold GotTextB
  go_enter Try.func62, Try.ntmps62
  go_upto_region 1 with (fail)
  change Code.wp _ _ _ _ ((w.alloc (.cells (inCells a l.length cap f) 46)).alloc (.cells (inCells none 0 0 false) 46))
  rw [← hw2]
  clear hw2
  go_wp2_with (refine wpList_load_row rfl 46 (.tmp 2) rfl w.heap.size rfl 46 (inCells a l.length cap f) (0, 0) _ HA.out Try.underlying46 rfl (sizeIn _ _ _ _) ?_)
  refine HG.out.mono ?_
  rintro e w3 ⟨hb3, hgot⟩
  have hb3' := hb2.trans (hb3.mono hb2.size)
  have hr3 : w3.heap[w.heap.size + 1]? = some (.cells (inCells none 0 0 false) 46 (0, 0)) := by rw [hb3.block _ hlt2]; exact HR.out
  have hh3 : (w3.alloc (.cells (inCells none 0 0 false) 46)).heap[w3.heap.size]? = some (.cells (inCells none 0 0 false) 46 (0, 0)) := heap_alloc_new w3 _
  have HH3 := Lib.hid hh3
  have hlt3 := lt_of_block hr3
  rcases hgot with ⟨hn, rfl⟩ | ⟨N, l', a', c', hn, rfl, hin⟩
  · have ht : rtext l most = none := by unfold rtext; rw [hn]
    have HT := Lib.hid ht
    have HR3 := Lib.hid hr3
    clear hh3 hr3 hn ht HA HR HG
    go_wp2_with (refine wpList_store_row_then rfl 46 (.tmp 7) (.tmp 13) rfl w3.heap.size (inCells none 0 0 true) rfl rfl 46 (inCells none 0 0 false) HH3.out (sizeIn _ _ _ _) rfl (oneIn _ _ _ _) ?_)
    refine Lib.hid ?_
    change wpList _ _ _ _ _ ((w3.alloc (.cells (inCells none 0 0 false) 46)).setRow w3.heap.size (inCells none 0 0 true))
    obtain ⟨hn1, hn2⟩ := new_row w3 46 (inCells none 0 0 false) (inCells none 0 0 true)
    obtain ⟨w4, hw4⟩ : ∃ w4, w4 = (w3.alloc (.cells (inCells none 0 0 false) 46)).setRow w3.heap.size (inCells none 0 0 true) := ⟨_, rfl⟩
    rw [← hw4] at hn1 hn2 ⊢
    have c1 : w4.cell? ⟨w3.heap.size, 1, none⟩ = some (.bool true) := cell_of_block hn1
    have hr4 : w4.heap[w.heap.size + 1]? = some (.cells (inCells none 0 0 false) 46 (0, 0)) := by rw [hn2.block _ hlt3]; exact HR3.out
    have HR4 := Lib.hid hr4
    have hb4' := hb3'.trans (hn2.mono hb3'.size)
    have hlt4 := lt_of_block hr4
    clear hw4 hn1 hn2 hr4
    go_wp2_with fail
    refine (failed_any _).mono ?_
    rintro e w5 ⟨rfl, hb5⟩
    have hr5 : w5.heap[w.heap.size + 1]? = some (.cells (inCells none 0 0 false) 46 (0, 0)) := by rw [hb5.block _ hlt4]; exact HR4.out
    have HR5 := Lib.hid hr5
    clear hr5
    go_wp2_with (refine wpList_store_row rfl 46 (.tmp 5) (.tmp 23) rfl (w.heap.size + 1) (inCells none 0 0 true) rfl rfl 46 (inCells none 0 0 false) HR5.out (sizeIn _ _ _ _) rfl (oneIn _ _ _ _) ?_)
    refine bodyPost_ret (v := .tuple #[.string ⟨#[]⟩, .agg (inCells none 0 0 true)]) (results_tmp_row rfl _ _ (w.heap.size + 1) 46 (inCells none 0 0 true) (0, 0) _ _ rfl (setRow_heap w5 (w.heap.size + 1) _ _ _ _ HR5.out) Try.underlying46 rfl (sizeIn _ _ _ _) rfl) rfl ?_
    exact ⟨below_setRow (hb4'.trans (hb5.mono hb4'.size)) (by omega), Or.inl ⟨HT.out, rfl⟩⟩
  · have HIN := Lib.hid hin
    have HN := Lib.hid hn
    have HR3 := Lib.hid hr3
    obtain ⟨n', hn'⟩ : ∃ n', n' = l'.length := ⟨_, rfl⟩
    rw [← hn']
    have HN' := Lib.hid hn'
    clear hh3 hr3 hn hin HA HR HG hn'
    go_wp2_with (refine wpList_store_row_then rfl 46 (.tmp 7) (.tmp 13) rfl w3.heap.size (inCells a' n' c' false) rfl rfl 46 (inCells none 0 0 false) HH3.out (sizeIn _ _ _ _) rfl (oneIn _ _ _ _) ?_)
    refine Lib.hid ?_
    change wpList _ _ _ _ _ ((w3.alloc (.cells (inCells none 0 0 false) 46)).setRow w3.heap.size (inCells a' n' c' false))
    obtain ⟨hn1, hn2⟩ := new_row w3 46 (inCells none 0 0 false) (inCells a' n' c' false)
    obtain ⟨w4, hw4⟩ : ∃ w4, w4 = (w3.alloc (.cells (inCells none 0 0 false) 46)).setRow w3.heap.size (inCells a' n' c' false) := ⟨_, rfl⟩
    rw [← hw4] at hn1 hn2 ⊢
    have c1 : w4.cell? ⟨w3.heap.size, 1, none⟩ = some (.bool false) := cell_of_block hn1
    have c0 : w4.cell? ⟨w3.heap.size, 0, none⟩ = some (.slice a' n' c') := cell_of_block hn1
    have hr4 : w4.heap[w.heap.size + 1]? = some (.cells (inCells none 0 0 false) 46 (0, 0)) := by rw [hn2.block _ hlt3]; exact HR3.out
    have hin4 := HIN.out.later (HW0.out.trans ((hb3'.trans (hn2.mono hb3'.size)).mono HW0.out.size))
    have HR4 := Lib.hid hr4
    have hb4' := hb3'.trans (hn2.mono hb3'.size)
    have hlt4 := lt_of_block hr4
    have hbd : n' ≤ c' ∧ c' ≤ 9223372036854775807 := by rw [HN'.out]; exact hin4.2
    have HIN4 := Lib.hid hin4
    clear hw4 hn1 hn2 hr4 hin4
    by_cases hle : N ≤ n'
    · have ht : rtext l most = some (l'.take N, l'.drop N) := by unfold rtext; rw [HN.out]; exact if_pos (by rw [← HN'.out]; exact hle)
      have HT := Lib.hid ht
      have r0 : w4.cell? ⟨w.heap.size + 1, 0, none⟩ = some (.slice none 0 0) := cell_of_block HR4.out
      have r1 : w4.cell? ⟨w.heap.size + 1, 1, none⟩ = some (.bool false) := cell_of_block HR4.out
      have r2 : ∀ j, w4.frozen? ⟨w.heap.size + 1, j, none⟩ = false := fun j => free_of_block HR4.out
      have hle1 : ¬ ((n' : Int) < (N : Int)) := by omega
      have hcv : (convert 36 9 (.slice a' N c')).run Try.prog w4.drew = .ok (.string ⟨(l'.take N).toArray⟩) w4.drew := by
        have h2 : BytesAt w4.drew a' (l'.take N) := HIN4.out.1.take N
        have h3 := conv_bytes h2 c'
        rwa [List.length_take, Nat.min_eq_left (by rw [← HN'.out]; exact hle)] at h3
      clear ht
      go_wp2_with fail
      go_region
      have hbt : BytesAt w0 (if c' = N then a' else Option.map (fun x => x.add N) a') (l'.drop N) := by
        by_cases hz : c' = N
        · have hb := hbd
          rw [List.drop_eq_nil_of_le (by rw [← HN'.out]; omega)]
          exact BytesAt.nil _ _
        · rw [if_neg hz]
          intro i hi
          have hi' : N + i < l'.length := by simp at hi; omega
          obtain ⟨b, off, rfl⟩ := HIN.out.1.addr (by omega)
          have h5 := HIN.out.1.drop' N i hi
          simpa [add_plain] using h5
      have HBT := Lib.hid hbt
      clear hbt
      revert HBT
      generalize (if c' = N then a' else Option.map (fun x => x.add N) a') = AA
      intro HBT
      have h1 := heap_setCell_same w4 (w.heap.size + 1) 0 _ _ (.slice AA (n' - N) (c' - N)) HR4.out
      have h2 := heap_setCell_same _ (w.heap.size + 1) 1 _ _ (.bool false) h1
      have H2 := Lib.hid h2
      clear h1 h2
      go_wp2_with fail
      refine bodyPost_ret (v := .tuple #[.string ⟨(l'.take N).toArray⟩, .agg (inCells AA (n' - N) (c' - N) false)]) (results_tmp_row rfl _ _ (w.heap.size + 1) 46 (inCells AA (n' - N) (c' - N) false) (0, 0) _ _ rfl H2.out Try.underlying46 rfl (sizeIn _ _ _ _) rfl) rfl ?_
      have hbe : Below w.heap.size w (((w4.setCell ⟨w.heap.size + 1, 0, none⟩ (.slice AA (n' - N) (c' - N))).setCell ⟨w.heap.size + 1, 1, none⟩ (.bool false)).drew) := ((hb4'.setCell (by show w.heap.size ≤ w.heap.size + 1; omega) _).setCell (by show w.heap.size ≤ w.heap.size + 1; omega) _).drew
      refine ⟨hbe, Or.inr ⟨l'.take N, l'.drop N, AA, c' - N, HT.out, ?_, ?_, ?_⟩⟩
      · rw [List.length_drop, ← HN'.out]
      · exact HBT.out
      · rw [List.length_drop, ← HN'.out]
        omega
    · have ht : rtext l most = none := by unfold rtext; rw [HN.out]; exact if_neg (by rw [← HN'.out]; exact hle)
      have HT := Lib.hid ht
      have hgt : (n' : Int) < (N : Int) := by omega
      clear ht hle
      go_wp2_with fail
      refine (failed_any _).mono ?_
      rintro e w5 ⟨rfl, hb5⟩
      have hr5 : w5.heap[w.heap.size + 1]? = some (.cells (inCells none 0 0 false) 46 (0, 0)) := by rw [hb5.block _ hlt4]; exact HR4.out
      have HR5 := Lib.hid hr5
      clear hr5
      go_wp2_with (refine wpList_store_row rfl 46 (.tmp 5) (.tmp 23) rfl (w.heap.size + 1) (inCells none 0 0 true) rfl rfl 46 (inCells none 0 0 false) HR5.out (sizeIn _ _ _ _) rfl (oneIn _ _ _ _) ?_)
      refine bodyPost_ret (v := .tuple #[.string ⟨#[]⟩, .agg (inCells none 0 0 true)]) (results_tmp_row rfl _ _ (w.heap.size + 1) 46 (inCells none 0 0 true) (0, 0) _ _ rfl (setRow_heap w5 (w.heap.size + 1) _ _ _ _ HR5.out) Try.underlying46 rfl (sizeIn _ _ _ _) rfl) rfl ?_
      exact ⟨below_setRow (hb4'.trans (hb5.mono hb4'.size)) (by omega), Or.inl ⟨HT.out, rfl⟩⟩

/-- What GetId comes to. -/
def GotIdB (w0 : World) (l : List UInt8) (w : World) (e : Ending) (w' : World) : Prop :=
  Below w.heap.size w w' ∧ ((l.length < 32 ∧ e = .returned (.tuple #[.agg (bvs id0).toArray, .agg (inCells none 0 0 true)])) ∨
    ∃ a c, 32 ≤ l.length ∧ e = .returned (.tuple #[.agg (bvs (l.take 32)).toArray, .agg (inCells a (l.drop 32).length c false)]) ∧ InAt w0 a c (l.drop 32))

set_option maxRecDepth 100000 in
set_option maxHeartbeats 2000000 in
theorem getid_long_b (w0 : World) (a : Option Addr) (cap : Nat) (l : List UInt8) (w : World) (hw0 : Below w0.heap.size w0 w) (hb : InAt w0 a cap l) (h32 : 32 ≤ l.length) :
    Calls Try.prog 63 #[.agg (inCells a l.length cap false)] w (GotIdB w0 l w) := by
  obtain ⟨b, off, rfl⟩ := hb.1.addr (by omega)
  obtain ⟨n, hn⟩ : ∃ n, n = l.length := ⟨_, rfl⟩
  rw [← hn]
  obtain ⟨w2, hw2⟩ : ∃ w2, w2 = (((w.alloc (.cells (inCells (some ⟨b, off, none⟩) n cap false) 46)).alloc zarr).alloc (.cells (inCells none 0 0 false) 46)).alloc zarr := ⟨_, rfl⟩
  have hA : w2.heap[w.heap.size]? = some (.cells (inCells (some ⟨b, off, none⟩) n cap false) 46 (0, 0)) := by rw [hw2, heap_alloc_old _ _ (by simp <;> omega), heap_alloc_old _ _ (by simp <;> omega), heap_alloc_old _ _ (by simp), heap_alloc_eq _ _ _ rfl]
  have hZ : w2.heap[w.heap.size + 1]? = some (.cells lit32 29 (0, 0)) := by rw [hw2, heap_alloc_old _ _ (by simp <;> omega), heap_alloc_old _ _ (by simp), heap_alloc_eq _ _ _ (by simp)]; rfl
  have hI : w2.heap[w.heap.size + 2]? = some (.cells (inCells none 0 0 false) 46 (0, 0)) := by rw [hw2, heap_alloc_old _ _ (by simp), heap_alloc_eq _ _ _ (by simp)]
  have hO : w2.heap[w.heap.size + 3]? = some (.cells lit32 29 (0, 0)) := by rw [hw2, heap_alloc_eq _ _ _ (by simp)]; rfl
  have hb2 : Below w.heap.size w w2 := by rw [hw2]; exact ((((Below.refl _ w).alloc (Nat.le_refl _) _).alloc (by simp) _).alloc (by simp <;> omega) _).alloc (by simp <;> omega) _
  obtain ⟨w3, hw3⟩ : ∃ w3, w3 = w2.setRow (w.heap.size + 3) lit32 := ⟨_, rfl⟩
  have hA3 : w3.heap[w.heap.size]? = some (.cells (inCells (some ⟨b, off, none⟩) n cap false) 46 (0, 0)) := by rw [hw3, setRow_other _ _ _ _ (by omega)]; exact hA
  have hZ3 : w3.heap[w.heap.size + 1]? = some (.cells lit32 29 (0, 0)) := by rw [hw3, setRow_other _ _ _ _ (by omega)]; exact hZ
  have hI3 : w3.heap[w.heap.size + 2]? = some (.cells (inCells none 0 0 false) 46 (0, 0)) := by rw [hw3, setRow_other _ _ _ _ (by omega)]; exact hI
  have hO3 : w3.heap[w.heap.size + 3]? = some (.cells (bvs (took l 0)).toArray 29 (0, 0)) := by rw [hw3, took_zero, ← lit32_eq]; exact setRow_heap w2 (w.heap.size + 3) _ lit32 _ _ hO
  have hb3 : Below w.heap.size w w3 := by rw [hw3]; exact below_setRow hb2 (by omega)
  rw [hw2] at hw3 hO
  have c0 : w3.cell? ⟨w.heap.size, 0, none⟩ = some (.slice (some ⟨b, off, none⟩) n cap) := cell_of_block hA3
  have c1 : w3.cell? ⟨w.heap.size, 1, none⟩ = some (.bool false) := cell_of_block hA3
  have hbd : n ≤ cap ∧ cap ≤ 9223372036854775807 := by rw [hn]; exact hb.2
  have hn32 : 32 ≤ n := by omega
  have hn32' : ¬ ((n : Int) < 32) := by omega
  have hin := (hb.later hw0).later hb3
  have HW0 := Lib.hid hw0
  have hs3 : w.heap.size + 3 < w3.heap.size := lt_of_block hO3
  have HO := Lib.hid hO
  have HA3 := Lib.hid hA3
  have HZ3 := Lib.hid hZ3
  have HI3 := Lib.hid hI3
  have HO3 := Lib.hid hO3
  have HIN := Lib.hid hin
  have HN := Lib.hid hn
  have HB := Lib.hid hb
  clear hA hZ hI hO hb2 hA3 hZ3 hI3 hO3 hw2 hb hin h32 hn hw0
  unfold GotIdB
  go_enter Try.func63, Try.ntmps63
  go_wp2_with (refine wpList_store_row_then rfl 29 (.tmp 4) (.tmp 6) rfl (w.heap.size + 3) lit32 rfl rfl 29 lit32 HO.out sizeLitA rfl lit32_all ?_)
  refine Lib.hid ?_
  change wpList _ _ _ _ _ (((((w.alloc (.cells (inCells (some ⟨b, off, none⟩) n cap false) 46)).alloc zarr).alloc (.cells (inCells none 0 0 false) 46)).alloc zarr).setRow (w.heap.size + 3) lit32)
  rw [← hw3]
  clear hw3
  go_wp2_with fail
  go_loopw [5] (fun s5 wr => ∃ k : Nat, k ≤ 32 ∧ s5 = .int .i64 (k : Int) ∧ Hid (wr.heap[w.heap.size + 3]? = some (.cells (bvs (took l k)).toArray 29 (0, 0))) ∧ Below (w.heap.size + 3) w3 wr) (fun s5 _ => 32 - (intOf s5).toNat)
  case atStart => exact ⟨0, by omega, rfl, HO3, Below.refl _ _⟩
  case round =>
    obtain ⟨k, hk, rfl, HOk, hbr⟩ := hrel
    have hAr : wr.heap[w.heap.size]? = some (.cells (inCells (some ⟨b, off, none⟩) n cap false) 46 (0, 0)) := by rw [hbr.block _ (by omega)]; exact HA3.out
    have c0r : wr.cell? ⟨w.heap.size, 0, none⟩ = some (.slice (some ⟨b, off, none⟩) n cap) := cell_of_block hAr
    clear hAr c0 c1
    by_cases hlt : k < 32
    · have hkl : k < l.length := by rw [← HN.out]; omega
      obtain ⟨d, hd⟩ : ∃ d, d = l[k] := ⟨_, rfl⟩
      have hbw : Below w.heap.size w wr := hb3.trans (hbr.mono (by omega))
      have hc := ((HB.out.later HW0.out).later hbw).1.at k hkl
      rw [← hd] at hc
      have hst := took_step l k hkl hlt
      rw [← hd] at hst
      have HST := Lib.hid hst
      have hlen := took_len l k (by omega) (by omega)
      have hO := HOk.out
      obtain ⟨z, hz⟩ : ∃ z : UInt8, z = (took l k)[k]'(by omega) := ⟨_, rfl⟩
      have hcell : wr.cell? ⟨w.heap.size + 3, k, none⟩ = some (.int .u8 (z.toNat : Int)) := by
        rw [cell_of_block hO, hz]
        simpa using bvs_get (took l k) k (by omega)
      have hfr : ∀ j, wr.frozen? ⟨w.heap.size + 3, j, none⟩ = false := fun j => free_of_block hO
      have hk1 : (k : Int) < (n : Int) := by omega
      clear hd hst hlen hO hz
      go_wp2_with fail
      go_roundw
      case rel =>
        refine ⟨k + 1, by omega, by go_num, ?_, hbr.setCell (by show w.heap.size + 3 ≤ w.heap.size + 3; omega) _⟩
        have h2 := heap_setCell_same wr (w.heap.size + 3) k _ _ (.int .u8 (d.toNat : Int)) HOk.out
        refine Lib.hid (h2.trans ?_)
        rw [← HST.out]
        simp [bvs, bv, List.map_set]
      case measure => simp [intOf]; omega
    · obtain rfl : k = 32 := by omega
      obtain ⟨X, hX⟩ : ∃ X, X = (bvs (took l 32)).toArray := ⟨_, rfl⟩
      have hXe : X = (bvs (l.take 32)).toArray := by rw [hX, took_end]
      have hO := HOk.out
      rw [← hX] at hO
      have hXz : X.size = 32 := by rw [hX, List.size_toArray, bvs_length, took_len l 32 (by rw [← HN.out]; omega) (by omega)]
      have hXs : (Try.prog.info? 29).map (·.size) = some X.size := by rw [hXz]; exact sizeArr
      have hX1 : X.all (·.oneCell') = true := by rw [hX]; simpa using bvs_oneCell (took l 32)
      have hXl : lit32.size = X.size := by rw [hXz, lit32_size]
      have hZr : wr.heap[w.heap.size + 1]? = some (.cells lit32 29 (0, 0)) := by rw [hbr.block _ (by omega)]; exact HZ3.out
      have hIr : wr.heap[w.heap.size + 2]? = some (.cells (inCells none 0 0 false) 46 (0, 0)) := by rw [hbr.block _ (by omega)]; exact HI3.out
      have hltA : w.heap.size < wr.heap.size := by have := hbr.size; omega
      have hO4 : ∀ w', Below wr.heap.size wr w' → w'.heap[w.heap.size + 3]? = some (.cells X 29 (0, 0)) := fun w' h' => by rw [h'.block _ (lt_of_block hO)]; exact hO
      have hc4 : ∀ w', Below wr.heap.size wr w' → w'.cell? ⟨w.heap.size, 0, none⟩ = some (.slice (some ⟨b, off, none⟩) n cap) := fun w' h' => by rw [h'.cell (p := ⟨w.heap.size, 0, none⟩) hltA]; exact c0r
      have hbw : Below w.heap.size w wr := hb3.trans (hbr.mono (by omega))
      have i4 : (32 : Int) ≤ (n : Int) := by omega
      have i5 : (n : Int) ≤ (cap : Int) := by omega
      obtain ⟨XL, hXL⟩ : ∃ XL, XL = X.toList := ⟨_, rfl⟩
      have hXt : X = XL.toArray := by rw [hXL]
      have hLn : XL.length = 32 := by rw [hXL]; simpa using hXz
      have hu23 := Try.underlying29
      have hsz : (Try.prog.info? 29).map (·.size) = some XL.length := by rw [hLn]; exact sizeArr
      have hone : ∀ v ∈ XL, v.oneCell' = true := by rw [hXL]; intro v hv; exact Array.all_eq_true_iff_forall_mem.1 hX1 v (by simpa using hv)
      have hrg : wr.rangeAt (w.heap.size + 3) 0 XL := by
        intro j v hv
        rw [Nat.zero_add, cell_of_block hO, hXt]
        simpa using hv
      have hth : wr.there (w.heap.size + 1) 0 32 := by
        intro j hj
        rw [Nat.zero_add, cell_of_block hZr]
        exact ⟨by rw [Array.getElem?_eq_getElem (by rw [lit32_size]; exact hj)]; rfl, free_of_block hZr⟩
      have hI5 : (wr.drew.setCells (w.heap.size + 1) 0 XL).heap[w.heap.size + 2]? = some (.cells (inCells none 0 0 false) 46 (0, 0)) := by rw [setCells_other _ _ (by omega)]; exact hIr
      have hI6 := Lib.hid hI5
      have hkeep : (fun w' : World => w'.rangeAt (w.heap.size + 3) 0 XL ∧ w'.cell? ⟨w.heap.size, 0, none⟩ = some (.slice (some ⟨b, off, none⟩) n cap) ∧ w'.there (w.heap.size + 1) 0 32) (wr.drew.setCells (w.heap.size + 1) 0 XL) := by
        refine ⟨World.rangeAt_setCells_apart (by simpa using hrg) _ _ _ (.inl (by omega)), ?_, World.there_setCells (by simpa using hth) _ _ _⟩
        · rw [World.cell?_setCells_out _ _ _ _ _ (fun h => absurd h (by simp))]; exact c0r
      have r0 : (wr.drew.setCells (w.heap.size + 1) 0 XL).cell? ⟨w.heap.size + 1 + 1, 0, none⟩ = some (.slice none 0 0) := cell_of_block hI5
      have r1 : (wr.drew.setCells (w.heap.size + 1) 0 XL).cell? ⟨w.heap.size + 1 + 1, 1, none⟩ = some (.bool false) := cell_of_block hI5
      have r2 : (wr.drew.setCells (w.heap.size + 1) 0 XL).frozen? ⟨w.heap.size + 1 + 1, 0, none⟩ = false := free_of_block hI5
      have r3 : (wr.drew.setCells (w.heap.size + 1) 0 XL).frozen? ⟨w.heap.size + 1 + 1, 1, none⟩ = false := free_of_block hI5
      have hkeep2 : ∀ v v', (fun w' : World => w'.rangeAt (w.heap.size + 3) 0 XL ∧ w'.cell? ⟨w.heap.size, 0, none⟩ = some (.slice (some ⟨b, off, none⟩) n cap) ∧ w'.there (w.heap.size + 1) 0 32) (((wr.drew.setCells (w.heap.size + 1) 0 XL).setCell ⟨w.heap.size + 1 + 1, 0, none⟩ v).setCell ⟨w.heap.size + 1 + 1, 1, none⟩ v') := by
        intro v v'
        obtain ⟨k1, k2, k3⟩ := hkeep
        have hg := grownBy_trans (grownBy_setCell (wr.drew.setCells (w.heap.size + 1) 0 XL) (w.heap.size + 1 + 1) 0 v) (grownBy_setCell _ _ 1 v')
        refine ⟨fun j u hu => hg.cell (k1 j u hu) (by intro e; injection e with e; simp at e), hg.cell k2 (by intro e; injection e with e; simp at e; omega), fun j hj => ?_⟩
        obtain ⟨m1, m2⟩ := k3 j hj
        obtain ⟨u, hu⟩ := Option.isSome_iff_exists.1 m1
        exact ⟨by rw [hg.cell hu (by intro e; injection e with e; simp at e)]; rfl, by simpa [World.frozen?_setCell] using m2⟩
      have HK2 := Lib.hid hkeep2
      have HXT := Lib.hid hXt
      have HK := Lib.hid hkeep
      have HXE := Lib.hid hXe
      have HXS := Lib.hid hXs
      have HX1 := Lib.hid hX1
      have HXL := Lib.hid hXl
      have HZR := Lib.hid hZr
      have HIR := Lib.hid hIr
      have HO4 := Lib.hid hO4
      have HC4 := Lib.hid hc4
      clear hX hXe hO hXz hXs hX1 hXl hO4 hc4 hXL hXt hkeep hI5 hIr hZr hkeep2
      go_wp2_with fail
      go_region_held3 (fun w' => w'.rangeAt (w.heap.size + 3) 0 XL ∧ w'.cell? ⟨w.heap.size, 0, none⟩ = some (.slice (some ⟨b, off, none⟩) n cap) ∧ w'.there (w.heap.size + 1) 0 32) (first | (go_keep; done) | exact HK.out | exact HK2.out _ _) (fail)
      have hrl : l.length = n := HN.out.symm
      have hbt : InAt w0 (if cap = 32 then some ⟨b, off, none⟩ else some ⟨b, off + 32, none⟩) (cap - 32) (l.drop 32) := by
        refine ⟨?_, by rw [List.length_drop, hrl]; omega, by omega⟩
        by_cases hz : cap = 32
        · have : l.drop 32 = [] := List.drop_eq_nil_of_le (by omega)
          rw [this]
          exact BytesAt.nil _ _
        · rw [if_neg hz]
          exact BytesAt.drop' HB.out.1 32
      have HBT := Lib.hid hbt
      have HRL := Lib.hid hrl
      clear hbt hrl
      revert HBT
      generalize (if cap = 32 then (some ⟨b, off, none⟩ : Option Addr) else some ⟨b, off + 32, none⟩) = AA
      intro HBT
      have e1 := setCells_whole (w.heap.size + 1) 29 XL [] lit32.toList wr.drew (by rw [hLn]; rfl) HZR.out
      have e2 := heap_setCell_same _ (w.heap.size + 1 + 1) 0 _ _ (.slice AA (n - 32) (cap - 32)) hI6.out
      have e3 := heap_setCell_same _ (w.heap.size + 1 + 1) 1 _ _ (.bool false) e2
      have e4 : (((wr.drew.setCells (w.heap.size + 1) 0 XL).setCell ⟨w.heap.size + 1 + 1, 0, none⟩ (.slice AA (n - 32) (cap - 32))).setCell ⟨w.heap.size + 1 + 1, 1, none⟩ (.bool false)).heap[w.heap.size + 1]? = some (.cells XL.toArray 29 (0, 0)) := by
        rw [Below.heap_setCell _ _ _ _ (by show w.heap.size + 1 ≠ w.heap.size + 1 + 1; omega), Below.heap_setCell _ _ _ _ (by show w.heap.size + 1 ≠ w.heap.size + 1 + 1; omega)]
        exact e1
      have E3 := Lib.hid e3
      have E4 := Lib.hid e4
      have hXX : XL.toArray = (bvs (l.take 32)).toArray := by rw [← HXT.out]; exact HXE.out
      have HXX := Lib.hid hXX
      have hsz2 : (Try.prog.info? 29).map (·.size) = some XL.toArray.size := by rw [List.size_toArray, hLn]; exact sizeArr
      have HSZ := Lib.hid hsz2
      clear e1 e2 e3 e4 hXX hsz2 hsz r0 r1 r2 r3 hu23 hLn
      go_wp2_with fail
      refine bodyPost_ret (v := .tuple #[.agg XL.toArray, .agg (inCells AA (n - 32) (cap - 32) false)]) (results_rows rfl _ _ (w.heap.size + 1) (w.heap.size + 1 + 1) 29 46 XL.toArray (inCells AA (n - 32) (cap - 32) false) (0, 0) (0, 0) _ _ rfl E4.out rfl E3.out Try.underlying29 rfl HSZ.out Try.underlying46 rfl (sizeIn _ _ _ _)) rfl ?_
      have hbe : Below w.heap.size w (((wr.drew.setCells (w.heap.size + 1) 0 XL).setCell ⟨w.heap.size + 1 + 1, 0, none⟩ (.slice AA (n - 32) (cap - 32))).setCell ⟨w.heap.size + 1 + 1, 1, none⟩ (.bool false)) :=
        ((below_grownBy (Nat.le_refl _) hbw.drew (grownBy_setCells (w.heap.size + 1) XL 0 wr.drew) (by omega)).setCell (by show w.heap.size ≤ w.heap.size + 1 + 1; omega) _).setCell (by show w.heap.size ≤ w.heap.size + 1 + 1; omega) _
      refine ⟨hbe, Or.inr ⟨AA, cap - 32, by rw [HRL.out]; omega, ?_, HBT.out⟩⟩
      rw [HXX.out, List.length_drop, HRL.out]

theorem getid_b (w0 : World) (a : Option Addr) (cap : Nat) (l : List UInt8) (f : Bool) (w : World) (hw0 : Below w0.heap.size w0 w) (hb : InAt w0 a cap l) (hf : f = true → l = []) :
    Calls Try.prog 63 #[.agg (inCells a l.length cap f)] w (GotIdB w0 l w) := by
  by_cases h : l.length < 32
  · refine (getid_short a cap l f w (hb.later hw0) h).mono ?_
    rintro e w' ⟨h1, ⟨h2, rfl⟩ | ⟨a', c', h2, _⟩⟩
    · exact ⟨h1, .inl ⟨h2, rfl⟩⟩
    · omega
  · cases f with
    | true => rw [hf rfl] at h; simp at h
    | false => exact getid_long_b w0 a cap l w hw0 hb (by omega)
end Go.Proofs.Ytoaboehmjfnceaa
