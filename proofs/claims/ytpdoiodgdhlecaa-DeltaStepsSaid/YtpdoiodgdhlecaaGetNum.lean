/-
  The walk of the reference's GetNum.
-/
import Derived.Test.YtpdoiodgdhlecaaInVal
import Derived.Test.YtpdoiodgdhlecaaGetMath
import Derived.Deep.QuietTactic
import Derived.BigQuiet
namespace Go.Proofs.Ytpdoiodgdhlecaa
open Go.RowKit

theorem results_tmp_row {P : Program} {fn : Func} {p u : Tmp} {ty : TypeId} (h : fn.results = #[.tmp u, .cell p ty]) (tmps : Array Value) (w : World) (g : Nat) (t : TypeId) (cs : Array Value) (fr : Nat × Nat) (d : TypeDesc) (b : Value)
    (hp : tmps.getD p undef = .pointer (some ⟨g, 0, none⟩)) (hg : w.heap[g]? = some (.cells cs t fr))
    (hu : P.underlying ty = some d) (hd : (match d with | .struct _ | .array _ _ => true | _ => false) = true) (hi : (P.info? ty).map (·.size) = some cs.size) (hb : tmps.getD u undef = b) :
    (results fn tmps).run P w = .ok (.tuple #[b, .agg cs]) w := by
  have hp' : tmps[p]?.getD undef = .pointer (some ⟨g, 0, none⟩) := by simpa using hp
  have hb' : tmps[u]?.getD undef = b := by simpa using hb
  simp only [results, h]
  simp [Result.andThen, hp', hb', asAddr, run_loadVar_row w g t ty cs fr d hg hu hd hi]
/-- The world behind a row's store, over its own block. -/
theorem below_setRow {w w' : World} {g : Nat} {X : Array Value} (h : Below w.heap.size w w') (hg : w.heap.size ≤ g) : Below w.heap.size w (w'.setRow g X) :=
  below_grownBy (Nat.le_refl _) h ⟨rfl, rfl, rfl, by simp, fun k _ hk => setRow_other _ g k _ (fun e => hk (by rw [e]))⟩ hg

/-- What GetNum comes to. -/
def GotNum (l : List UInt8) (most : Int) (w : World) (e : Ending) (w' : World) : Prop :=
  Below w.heap.size w w' ∧ ((rnum l most = none ∧ e = .returned (.tuple #[.int .i64 0, .agg (inCells none 0 0 true)])) ∨
    ∃ N l' a c, rnum l most = some (N, l') ∧ e = .returned (.tuple #[.int .i64 ((N : Nat) : Int), .agg (inCells a l'.length c false)]) ∧ InAt w' a c l')

set_option maxRecDepth 100000 in
set_option maxHeartbeats 2000000 in
theorem getnum_any (a : Option Addr) (cap : Nat) (l : List UInt8) (f : Bool) (most : Int) (w : World) (hb : InAt w a cap l) (hf : f = true → l = []) :
    Calls Try.prog 19 #[.agg (inCells a l.length cap f), .int .i64 most] w (GotNum l most w) := by
  obtain ⟨hB, hlc, hcm⟩ := hb
  obtain ⟨w2, hw2⟩ : ∃ w2, w2 = (w.alloc (.cells (inCells a l.length cap f) 44)).alloc (.cells (inCells none 0 0 false) 44) := ⟨_, rfl⟩
  have hA : w2.heap[w.heap.size]? = some (.cells (inCells a l.length cap f) 44 (0, 0)) := by
    rw [hw2, heap_alloc_old _ _ (by simp)]; exact heap_alloc_new w _
  have hR : w2.heap[w.heap.size + 1]? = some (.cells (inCells none 0 0 false) 44 (0, 0)) := by
    rw [hw2, show w.heap.size + 1 = (w.alloc (.cells (inCells a l.length cap f) 44)).heap.size by simp]; exact heap_alloc_new _ _
  have hb2 : Below w.heap.size w w2 := by rw [hw2]; exact ((Below.refl _ w).alloc (Nat.le_refl _) _).alloc (by simp) _
  have c0 : w2.cell? ⟨w.heap.size, 0, none⟩ = some (.slice a l.length cap) := cell_of_block hA
  have c1 : w2.cell? ⟨w.heap.size, 1, none⟩ = some (.bool f) := cell_of_block hA
  have hB2 := hB.later hb2
  have HR := Lib.hid hR
  have HB2 := Lib.hid hB2
  have HBW := Lib.hid hB
  have r0 : w2.cell? ⟨w.heap.size + 1, 0, none⟩ = some (.slice none 0 0) := cell_of_block hR
  have r1 : w2.cell? ⟨w.heap.size + 1, 1, none⟩ = some (.bool false) := cell_of_block hR
  have r2 : ∀ j, w2.frozen? ⟨w.heap.size + 1, j, none⟩ = false := fun j => free_of_block hR
  have HF := Lib.hid hf
  clear hA hR hB hB2 hf
  unfold GotNum
  go_enter Try.func19, Try.ntmps19
  go_upto_region 1 with (fail)
  change Code.wp _ _ _ _ ((w.alloc (.cells (inCells a l.length cap f) 44)).alloc (.cells (inCells none 0 0 false) 44))
  rw [← hw2]
  clear hw2
  go_wp2_with fail
  go_loop [6, 7, 8, 9] (fun s6 s7 s8 _ => ∃ k : Nat, k ≤ l.length ∧ k ≤ 9 ∧ s8 = .int .i64 (k : Int) ∧ s6 = .int .i64 (valOf (l.take k) : Int) ∧ s7 = .int .i64 ((128 ^ (min k 8) : Nat) : Int) ∧ Hid (∀ j, (h : j < l.length) → j < k → 128 ≤ l[j].toNat)) (fun _ _ s8 _ => 9 - (intOf s8).toNat)
  case atStart => exact ⟨0, Nat.zero_le _, by omega, rfl, rfl, rfl, fun j _ h => absurd h (by omega)⟩
  case round =>
    obtain ⟨k, hk, hk9, rfl, rfl, rfl, HALL⟩ := hrel
    by_cases hlt : k < l.length
    · by_cases hlt9 : k < 9
      · have hff : f = false := by
          cases f with
          | false => rfl
          | true => rw [HF.out rfl] at hlt; simp at hlt
        subst hff
        obtain ⟨b, off, ha, hc⟩ := HB2.out k hlt
        have hmin : min k 8 = k := by omega
        rw [hmin]
        obtain ⟨d, hd⟩ : ∃ d, d = l[k] := ⟨_, rfl⟩
        rw [← hd] at hc
        have hfound := get_found l most k hlt hlt9 HALL.out
        rw [← hd] at hfound
        have d8 := d.toNat_lt
        obtain ⟨g, hg⟩ : ∃ g : Nat, g = d.toNat % 128 := ⟨_, rfl⟩
        have hg1 : (d.toNat : Int).tmod 128 = (g : Int) := by rw [Int.tmod_eq_emod_of_nonneg (by omega)]; omega
        have g128 : g < 128 := by omega
        subst ha
        by_cases hhigh : k = 8 ∧ 64 < g
        · obtain ⟨rfl, h64⟩ := hhigh
          have hnone := get_high l most hlt HALL.out (by rw [← hd, ← hg]; exact h64)
          have HN := Lib.hid hnone
          clear hnone hfound hd hg
          go_wp2_with fail
          refine (failed_any _).mono ?_
          rintro e w3 ⟨rfl, hb3⟩
          have hr3 : w3.heap[w.heap.size + 1]? = some (.cells (inCells none 0 0 false) 44 (0, 0)) := by rw [hb3.block _ (lt_of_block HR.out)]; exact HR.out
          have HR3 := Lib.hid hr3
          clear hr3
          go_wp2_with (refine wpList_store_row rfl 44 (.tmp 5) (.tmp 39) rfl (w.heap.size + 1) (inCells none 0 0 true) rfl rfl 44 (inCells none 0 0 false) HR3.out (sizeIn _ _ _ _) rfl (oneIn _ _ _ _) ?_)
          refine bodyPost_ret (v := .tuple #[.int .i64 0, .agg (inCells none 0 0 true)]) (results_tmp_row rfl _ _ (w.heap.size + 1) 44 (inCells none 0 0 true) (0, 0) _ _ rfl (setRow_heap w3 (w.heap.size + 1) _ _ _ _ HR3.out) Try.underlying44 rfl (sizeIn _ _ _ _) rfl) rfl ?_
          exact ⟨below_setRow (hb2.trans (hb3.mono hb2.size)) (by omega), Or.inl ⟨HN.out, rfl⟩⟩
        · have hst := get_step l k hlt (by omega) (fun h8 => by rw [← hd, ← hg]; omega)
          rw [← hd, ← hg] at hst
          obtain ⟨hs1, hs2, hs3, hs4⟩ := hst
          rw [hs1] at hfound
          obtain ⟨V, hV⟩ : ∃ V, V = valOf (l.take k) := ⟨_, rfl⟩
          obtain ⟨U, hU⟩ : ∃ U : Nat, U = 128 ^ k := ⟨_, rfl⟩
          obtain ⟨p, hp⟩ : ∃ p : Nat, p = g * U := ⟨_, rfl⟩
          have hU1 : U ≤ 72057594037927936 := by rw [hU]; exact (pow128 k (by omega)).1
          have hUs : k < 8 → 128 ^ (min (k + 1) 8) = U * 128 := fun h => by rw [Nat.min_eq_left (by omega), Nat.pow_succ, hU]
          have hUs2 : k < 8 → U ≤ 562949953421312 := fun h => by rw [hU]; exact (pow128 k (by omega)).2 (by omega)
          rw [← hU, ← hp] at hs1 hs3
          rw [← hV] at hs1 hs4 ⊢
          rw [← hU, ← hp, ← hV] at hfound
          rw [← hU]
          have hp1 : (g : Int) * (U : Int) = (p : Int) := by rw [hp]; simp
          have n64 : ¬ (k = 8 ∧ 64 < g) := hhigh
          have HS1 := Lib.hid hs1
          have HFD := Lib.hid hfound
          have HUS := Lib.hid hUs
          have hue : U = 128 ^ (min k 8) := by rw [hU, hmin]
          have HUE := Lib.hid hue
          have HUS2 := Lib.hid hUs2
          have HD := Lib.hid hd
          clear hs1 hs2 hue hfound hUs hUs2 hd hV hp hU hg hhigh hmin
          obtain ⟨b8, t8⟩ : ∃ x, ((k : Int) == 8) = x := ⟨_, rfl⟩
          obtain ⟨b0, t0⟩ : ∃ x, decide (0 < (k : Int)) = x := ⟨_, rfl⟩
          obtain ⟨bl, tl⟩ : ∃ x, decide ((k : Int) < 8) = x := ⟨_, rfl⟩
          obtain ⟨bg, tg⟩ : ∃ x, decide (64 < (g : Int)) = x := ⟨_, rfl⟩
          by_cases hd128 : d.toNat < 128
          · have hfd := HFD.out hd128
            by_cases hC : (d.toNat = 0 ∧ 0 < k) ∨ 4611686018427387904 < V + p ∨ most < ((V + p : Nat) : Int)
            · rw [if_pos hC] at hfd
              have HN := Lib.hid hfd
              have HC := Lib.hid hC
              clear hfd hC
              go_wp2_with fail
              all_goals first
                | (exfalso; (try have hC := HC.out); (cases b8 <;> cases bg <;> cases b0 <;> cases bl) <;> first | contradiction | (simp only [beq_iff_eq, beq_eq_false_iff_ne, decide_eq_true_eq, decide_eq_false_iff_not, ne_eq] at t8 t0 tl tg; omega))
                | (
                   refine (failed_any _).mono ?_
                   rintro e w3 ⟨rfl, hb3⟩
                   have hr3 : w3.heap[w.heap.size + 1]? = some (.cells (inCells none 0 0 false) 44 (0, 0)) := by rw [hb3.block _ (lt_of_block HR.out)]; exact HR.out
                   have HR3 := Lib.hid hr3
                   clear hr3
                   go_wp2_with (refine wpList_store_row rfl 44 (.tmp 5) (.tmp 70) rfl (w.heap.size + 1) (inCells none 0 0 true) rfl rfl 44 (inCells none 0 0 false) HR3.out (sizeIn _ _ _ _) rfl (oneIn _ _ _ _) ?_)
                   refine bodyPost_ret (v := .tuple #[.int .i64 0, .agg (inCells none 0 0 true)]) (results_tmp_row rfl _ _ (w.heap.size + 1) 44 (inCells none 0 0 true) (0, 0) _ _ rfl (setRow_heap w3 (w.heap.size + 1) _ _ _ _ HR3.out) Try.underlying44 rfl (sizeIn _ _ _ _) rfl) rfl ?_
                   exact ⟨below_setRow (hb2.trans (hb3.mono hb2.size)) (by omega), Or.inl ⟨HN.out, rfl⟩⟩
                  )
            · rw [if_neg hC] at hfd
              have HN := Lib.hid hfd
              have hle : V + p ≤ 4611686018427387904 ∧ ((V : Int) + (p : Int)) ≤ most := by omega
              obtain ⟨hle1, hle2⟩ := hle
              rcases Nat.eq_zero_or_pos k with hk0 | hk0
              · have HC := Lib.hid hC
                clear hfd hC
                subst hk0
                rw [Nat.add_zero] at hc
                clear t8 t0 tl tg
                go_wp2_with fail
                all_goals first
                  | (exfalso; omega)
                  | (
                     go_region
                     generalize hAA : (if cap = 1 then (some ⟨b, off, none⟩ : Option Addr) else some ⟨b, off + 1, none⟩) = AA
                     have HAA := Lib.hid hAA
                     have h1 := heap_setCell_same w2 (w.heap.size + 1) 0 _ _ (.slice AA (l.length - 1) (cap - 1)) HR.out
                     have h2 := heap_setCell_same _ (w.heap.size + 1) 1 _ _ (.bool false) h1
                     have H2 := Lib.hid h2
                     clear hAA h1 h2
                     go_wp2_with fail
                     refine bodyPost_ret (v := .tuple #[.int .i64 ((V : Int) + (p : Int)), .agg (inCells AA (l.length - 1) (cap - 1) false)]) (results_tmp_row rfl _ _ (w.heap.size + 1) 44 (inCells AA (l.length - 1) (cap - 1) false) (0, 0) _ _ rfl H2.out Try.underlying44 rfl (sizeIn _ _ _ _) rfl) rfl ?_
                     have hbe : Below w.heap.size w (((w2.setCell ⟨w.heap.size + 1, 0, none⟩ (.slice AA (l.length - 1) (cap - 1))).setCell ⟨w.heap.size + 1, 1, none⟩ (.bool false)).drew) := ((hb2.setCell (by show w.heap.size ≤ w.heap.size + 1; omega) _).setCell (by show w.heap.size ≤ w.heap.size + 1; omega) _).drew
                     have hin : InAt w AA (cap - 1) (l.drop 1) := by
                       refine ⟨?_, by rw [List.length_drop]; omega, by omega⟩
                       rw [← HAA.out]
                       by_cases hz : cap = 1
                       · rw [List.drop_eq_nil_of_le (by omega)]
                         exact BytesAt.nil _ _
                       · rw [if_neg hz]
                         exact BytesAt.drop' HBW.out 1
                     have hn := HN.out
                     refine ⟨hbe, Or.inr ⟨V + p, l.drop 1, _, _, hn, ?_, hin.later hbe⟩⟩
                     rw [List.length_drop]
                     simp
                    )
              · have hdz : ((d.toNat : Int) == 0) = false := by rw [beq_eq_false_iff_ne]; omega
                have HC := Lib.hid hC
                clear hfd hC t0
                go_wp2_with fail
                all_goals first
                  | (exfalso; (cases b8 <;> cases bg <;> cases bl) <;> first | contradiction | (simp only [beq_iff_eq, beq_eq_false_iff_ne, decide_eq_true_eq, decide_eq_false_iff_not, ne_eq] at t8 tl tg; omega))
                  | (
                     go_region
                     generalize hAA : (if cap = (k + 1) then (some ⟨b, off, none⟩ : Option Addr) else some ⟨b, off + (k + 1), none⟩) = AA
                     have HAA := Lib.hid hAA
                     have h1 := heap_setCell_same w2 (w.heap.size + 1) 0 _ _ (.slice AA (l.length - (k + 1)) (cap - (k + 1))) HR.out
                     have h2 := heap_setCell_same _ (w.heap.size + 1) 1 _ _ (.bool false) h1
                     have H2 := Lib.hid h2
                     clear hAA h1 h2
                     go_wp2_with fail
                     refine bodyPost_ret (v := .tuple #[.int .i64 ((V : Int) + (p : Int)), .agg (inCells AA (l.length - (k + 1)) (cap - (k + 1)) false)]) (results_tmp_row rfl _ _ (w.heap.size + 1) 44 (inCells AA (l.length - (k + 1)) (cap - (k + 1)) false) (0, 0) _ _ rfl H2.out Try.underlying44 rfl (sizeIn _ _ _ _) rfl) rfl ?_
                     have hbe : Below w.heap.size w (((w2.setCell ⟨w.heap.size + 1, 0, none⟩ (.slice AA (l.length - (k + 1)) (cap - (k + 1)))).setCell ⟨w.heap.size + 1, 1, none⟩ (.bool false)).drew) := ((hb2.setCell (by show w.heap.size ≤ w.heap.size + 1; omega) _).setCell (by show w.heap.size ≤ w.heap.size + 1; omega) _).drew
                     have hin : InAt w AA (cap - (k + 1)) (l.drop (k + 1)) := by
                       refine ⟨?_, by rw [List.length_drop]; omega, by omega⟩
                       rw [← HAA.out]
                       by_cases hz : cap = (k + 1)
                       · rw [List.drop_eq_nil_of_le (by omega)]
                         exact BytesAt.nil _ _
                       · rw [if_neg hz]
                         exact BytesAt.drop' HBW.out (k + 1)
                     have hn := HN.out
                     refine ⟨hbe, Or.inr ⟨V + p, l.drop (k + 1), _, _, hn, ?_, hin.later hbe⟩⟩
                     rw [List.length_drop]
                     simp
                    )
          · go_wp2_with fail
            all_goals first
              | (exfalso; (try have hC := HC.out); (cases b8 <;> cases bg <;> cases b0 <;> cases bl) <;> first | contradiction | (simp only [beq_iff_eq, beq_eq_false_iff_ne, decide_eq_true_eq, decide_eq_false_iff_not, ne_eq] at t8 t0 tl tg; omega))
              | (
                 go_round
                 case rel =>
                   refine ⟨k + 1, by omega, by omega, by go_num, ?_, ?_, ?_⟩
                   · rw [HS1.out]; simp
                   · rcases Nat.lt_or_ge k 8 with hk8 | hk8
                     · have hu2 := HUS2.out hk8
                       rw [HUS.out hk8]
                       have hw : wrap64 ((U : Int) * 128) = (U : Int) * 128 := by unfold wrap64; omega
                       first
                         | (rw [hw]; simp; done)
                         | (exfalso; rw [decide_eq_true (show ((k : Int) < 8) by omega)] at tl; simp_all; done)
                     · have e8 : k = 8 := by omega
                       have hue := HUE.out
                       rw [e8] at hue ⊢
                       first
                         | (rw [hue]; rfl)
                         | (exfalso; rw [decide_eq_false (show ¬ ((k : Int) < 8) by omega)] at tl; simp_all; done)
                   · intro j hj hlt'
                     rcases Nat.lt_or_ge j k with h1 | h1
                     · exact HALL.out j hj h1
                     · obtain rfl : j = k := by omega
                       rw [← HD.out]; omega
                 case measure => simp [intOf]; omega)
      · have hnone := get_end l most k hk HALL.out (by omega)
        have HN := Lib.hid hnone
        have t9 : ¬ ((k : Int) < 9) := by omega
        clear hnone
        go_wp2_with fail
        refine (failed_any _).mono ?_
        rintro e w3 ⟨rfl, hb3⟩
        have hr3 : w3.heap[w.heap.size + 1]? = some (.cells (inCells none 0 0 false) 44 (0, 0)) := by rw [hb3.block _ (lt_of_block HR.out)]; exact HR.out
        have HR3 := Lib.hid hr3
        clear hr3
        go_wp2_with (refine wpList_store_row rfl 44 (.tmp 5) (.tmp 82) rfl (w.heap.size + 1) (inCells none 0 0 true) rfl rfl 44 (inCells none 0 0 false) HR3.out (sizeIn _ _ _ _) rfl (oneIn _ _ _ _) ?_)
        refine bodyPost_ret (v := .tuple #[.int .i64 0, .agg (inCells none 0 0 true)]) (results_tmp_row rfl _ _ (w.heap.size + 1) 44 (inCells none 0 0 true) (0, 0) _ _ rfl (setRow_heap w3 (w.heap.size + 1) _ _ _ _ HR3.out) Try.underlying44 rfl (sizeIn _ _ _ _) rfl) rfl ?_
        exact ⟨below_setRow (hb2.trans (hb3.mono hb2.size)) (by omega), Or.inl ⟨HN.out, rfl⟩⟩
    · have hnone := get_end l most k hk HALL.out (by omega)
      have HN := Lib.hid hnone
      clear hnone
      go_wp2_with fail
      refine (failed_any _).mono ?_
      rintro e w3 ⟨rfl, hb3⟩
      have hr3 : w3.heap[w.heap.size + 1]? = some (.cells (inCells none 0 0 false) 44 (0, 0)) := by rw [hb3.block _ (lt_of_block HR.out)]; exact HR.out
      have HR3 := Lib.hid hr3
      clear hr3
      go_wp2_with (refine wpList_store_row rfl 44 (.tmp 5) (.tmp 82) rfl (w.heap.size + 1) (inCells none 0 0 true) rfl rfl 44 (inCells none 0 0 false) HR3.out (sizeIn _ _ _ _) rfl (oneIn _ _ _ _) ?_)
      refine bodyPost_ret (v := .tuple #[.int .i64 0, .agg (inCells none 0 0 true)]) (results_tmp_row rfl _ _ (w.heap.size + 1) 44 (inCells none 0 0 true) (0, 0) _ _ rfl (setRow_heap w3 (w.heap.size + 1) _ _ _ _ HR3.out) Try.underlying44 rfl (sizeIn _ _ _ _) rfl) rfl ?_
      exact ⟨below_setRow (hb2.trans (hb3.mono hb2.size)) (by omega), Or.inl ⟨HN.out, rfl⟩⟩
end Go.Proofs.Ytpdoiodgdhlecaa
