/-
  The walk of the reference's Same.
-/
import Derived.Test.YtoaboehmjfnceaaGoodOp
namespace Go.Proofs.Ytoaboehmjfnceaa
open Go.RowKit
set_option linter.unusedSimpArgs false
set_option linter.unusedVariables false

set_option maxRecDepth 100000 in
set_option maxHeartbeats 4000000 in
theorem refsame_any (k t r nt nr pt pr : Int) (s : ByteArray) (d : List UInt8) (a : Option Addr) (ss : List (Int × Int)) (c : Nat) (k' t' r' nt' nr' pt' pr' : Int) (s' : ByteArray) (d' : List UInt8) (a' : Option Addr) (ss' : List (Int × Int)) (c' : Nat) (w : World)
    (hd : d.length = 32) (hd' : d'.length = 32) (ha : StampsAt w a ss) (ha' : StampsAt w a' ss') (hl : ss.length ≤ 4611686018427387903) :
    Calls Try.prog 21 #[.agg (opCells k t r nt nr pt pr s d (.slice a ss.length c)), .agg (opCells k' t' r' nt' nr' pt' pr' s' d' (.slice a' ss'.length c'))] w fun e w' => e = .returned (.bool (sameOpB k t r nt nr pt pr s d ss k' t' r' nt' nr' pt' pr' s' d' ss')) ∧ Below w.heap.size w w' := by
  obtain ⟨X, hX⟩ : ∃ X, X = opCells k t r nt nr pt pr s d (.slice a ss.length c) := ⟨_, rfl⟩
  obtain ⟨Y, hY⟩ : ∃ Y, Y = opCells k' t' r' nt' nr' pt' pr' s' d' (.slice a' ss'.length c') := ⟨_, rfl⟩
  obtain ⟨w1, hw1⟩ : ∃ w1, w1 = (w.alloc (.cells X 33)).alloc (.cells Y 33) := ⟨_, rfl⟩
  have hb1 : Below w.heap.size w w1 := by rw [hw1]; exact ((Below.refl _ w).alloc (Nat.le_refl _) _).alloc (by simp) _
  have hO : OpIn (fun W => Below w1.heap.size w1 W) w.heap.size k t r nt nr pt pr s d (.slice a ss.length c) := opIn_box hd (by rw [hw1, hX, heap_alloc_old _ _ (by simp), heap_alloc_eq _ _ _ rfl])
  have hO' : OpIn (fun W => Below w1.heap.size w1 W) (w.heap.size + 1) k' t' r' nt' nr' pt' pr' s' d' (.slice a' ss'.length c') := opIn_box hd' (by rw [hw1, hY, heap_alloc_eq _ _ _ (by simp)])
  obtain ⟨D, hD⟩ : ∃ D, D = (bvs d).toArray := ⟨_, rfl⟩
  obtain ⟨D', hD'⟩ : ∃ D', D' = (bvs d').toArray := ⟨_, rfl⟩
  have hDs : (Try.prog.info? 30).map (·.size) = some D.size := by rw [hD, List.size_toArray, bvs_length, hd]; kernel_rfl
  have hDs' : (Try.prog.info? 30).map (·.size) = some D'.size := by rw [hD', List.size_toArray, bvs_length, hd']; kernel_rfl
  have hdat := hO.data
  have hdat' := hO'.data
  rw [← hD] at hdat
  rw [← hD'] at hdat'
  obtain ⟨e0, he0⟩ : ∃ e0, ((k : Int) == k') = e0 := ⟨_, rfl⟩
  obtain ⟨e1, he1⟩ : ∃ e1, e1 = decide (t = t' ∧ r = r') := ⟨_, rfl⟩
  obtain ⟨e2, he2⟩ : ∃ e2, e2 = decide (nt = nt' ∧ nr = nr') := ⟨_, rfl⟩
  obtain ⟨e3, he3⟩ : ∃ e3, e3 = decide (pt = pt' ∧ pr = pr') := ⟨_, rfl⟩
  obtain ⟨e4, he4⟩ : ∃ e4, (s.toList == s'.toList) = e4 := ⟨_, rfl⟩
  obtain ⟨e5, he5⟩ : ∃ e5, e5 = decide (d = d') := ⟨_, rfl⟩
  have q1 : ∀ w', (Op.equalIn 10000 23 (.agg (stampCells t r)) (.agg (stampCells t' r'))).run Try.prog w' = .ok e1 w' := fun w' => by rw [he1]; exact eq_stamps _ _ _ _ w'
  have q2 : ∀ w', (Op.equalIn 10000 23 (.agg (stampCells nt nr)) (.agg (stampCells nt' nr'))).run Try.prog w' = .ok e2 w' := fun w' => by rw [he2]; exact eq_stamps _ _ _ _ w'
  have q3 : ∀ w', (Op.equalIn 10000 23 (.agg (stampCells pt pr)) (.agg (stampCells pt' pr'))).run Try.prog w' = .ok e3 w' := fun w' => by rw [he3]; exact eq_stamps _ _ _ _ w'
  have q5 : ∀ w', (Op.equalIn 10000 30 (.agg D) (.agg D')).run Try.prog w' = .ok e5 w' := fun w' => by rw [hD, hD', he5]; exact eq_ids w' d d' hd hd'
  obtain ⟨sb, hsb⟩ : ∃ sb, sb = sameOpB k t r nt nr pt pr s d ss k' t' r' nt' nr' pt' pr' s' d' ss' := ⟨_, rfl⟩
  have hne : ss ≠ ss' → Hid (sb = false) := fun h => Lib.hid (by
    rw [hsb]
    unfold sameOpB sameV
    rw [decide_eq_false h]
    simp)
  have heqs : ss = ss' → Hid (sb = (e0 && (e1 && (e2 && (e3 && (e4 && (e5 && true))))))) := fun h => Lib.hid (by
    rw [hsb, ← he0, he1, he2, he3, ← he4, he5]
    unfold sameOpB
    rw [decide_eq_true h]
    rfl)
  obtain ⟨n, hn⟩ : ∃ n, n = ss.length := ⟨_, rfl⟩
  obtain ⟨n', hn'⟩ : ∃ n, n = ss'.length := ⟨_, rfl⟩
  have hat := fun W (h : Below w1.heap.size w1 W) => (ha.later hb1).later h
  have hat' := fun W (h : Below w1.heap.size w1 W) => (ha'.later hb1).later h
  have hov := hO.over
  have hov' := hO'.over
  rw [← hn] at hov
  rw [← hn'] at hov'
  rw [← hsb, ← hX, ← hY]
  have hnm : n ≤ 4611686018427387903 := by omega
  have HO := Lib.hid hO
  have HO' := Lib.hid hO'
  have HV := Lib.hid hov
  have HV' := Lib.hid hov'
  have HAT := Lib.hid hat
  have HAT' := Lib.hid hat'
  have HN := Lib.hid hn
  have HN' := Lib.hid hn'
  have HDT := Lib.hid hdat
  have HDT' := Lib.hid hdat'
  have HDS := Lib.hid hDs
  have HDS' := Lib.hid hDs'
  have HW1 := Lib.hid hw1
  have HNE := Lib.hid hne
  have HEQ := Lib.hid heqs
  clear hX hY hw1 hO hO' hov hov' hdat hdat' hDs hDs' hD hD' he1 he2 he3 he5 hsb hd hd' ha ha' hat hat' hn hn' hne heqs hl
  go_enter Try.func21, Try.ntmps21
  go_upto_region 1 with (fail)
  change Code.wp _ _ _ _ ((w.alloc (.cells X 33)).alloc (.cells Y 33))
  rw [← HW1.out]
  have hs : Below w1.heap.size w1 w1 := Below.refl _ _
  have v1 := HV.out w1 hs
  have v2 := HV'.out w1 hs
  by_cases hnn : n = n'
  · have hnb : ((n : Int) != (n' : Int)) = false := by simp [hnn]
    go_wp2_with fail
    clear hnb v1 v2 hs
    go_loopw [5] (fun s5 wr => ∃ i : Nat, i ≤ n ∧ s5 = .int .i64 (i : Int) ∧ Hid (ss.take i = ss'.take i) ∧ Hid (Below w1.heap.size w1 wr)) (fun s5 _ => n - (intOf s5).toNat)
    case atStart => exact ⟨0, Nat.zero_le _, rfl, Lib.hid (by simp), Lib.hid (Below.refl _ _)⟩
    case round =>
      obtain ⟨i, hi, rfl, htake, hbel⟩ := hrel
      have v1 := HV.out wr hbel.out
      by_cases hlt : i < n
      · have hlt1 : i < ss.length := by have := HN.out; omega
        have hlt2 : i < ss'.length := by have := HN'.out; omega
        obtain ⟨b1, o1, rfl, hc1, hc2⟩ := HAT.out w1 (Below.refl _ _) i hlt1
        obtain ⟨b2, o2, rfl, hd1, hd2⟩ := HAT'.out w1 (Below.refl _ _) i hlt2
        obtain ⟨x, hx⟩ : ∃ x, x = ss[i].1 := ⟨_, rfl⟩
        obtain ⟨y, hy⟩ : ∃ y, y = ss[i].2 := ⟨_, rfl⟩
        obtain ⟨x', hx'⟩ : ∃ x, x = ss'[i].1 := ⟨_, rfl⟩
        obtain ⟨y', hy'⟩ : ∃ y, y = ss'[i].2 := ⟨_, rfl⟩
        rw [← hx] at hc1
        rw [← hy] at hc2
        rw [← hx'] at hd1
        rw [← hy'] at hd2
        have G1 := Lib.hid (show ∀ W, Below w1.heap.size w1 W → W.rangeAt b1 (o1 + i * 2) (stampCells x y).toList from fun W h => stamp_range (cell_later h hc1) (cell_later h hc2))
        have G2 := Lib.hid (show ∀ W, Below w1.heap.size w1 W → W.rangeAt b2 (o2 + i * 2) (stampCells x' y').toList from fun W h => stamp_range (cell_later h hd1) (cell_later h hd2))
        obtain ⟨eb, heb⟩ : ∃ e, e = decide (x = x' ∧ y = y') := ⟨_, rfl⟩
        have q : ∀ w', (Op.equalIn 10000 23 (.agg (stampCells x y)) (.agg (stampCells x' y'))).run Try.prog w' = .ok eb w' := fun w' => by rw [heb]; exact eq_stamps _ _ _ _ w'
        have hyes : eb = true → Hid (ss.take (i + 1) = ss'.take (i + 1)) := fun h => Lib.hid (stake_step i hlt1 hlt2 htake.out (by
          rw [heb] at h
          have := of_decide_eq_true h
          rw [← hx, ← hy, ← hx', ← hy']
          exact this))
        have hno : eb = false → Hid (sb = false) := fun h => HNE.out fun he => by
          rw [heb] at h
          have := of_decide_eq_false h
          exact this ⟨by rw [hx, hx']; simp [he], by rw [hy, hy']; simp [he]⟩
        have HBL := Lib.hid hbel.out
        clear hc1 hc2 hd1 hd2 hx hy hx' hy' heb hlt1 hlt2 htake hbel
        go_upto_region 6 with (fail)
        refine wp_region_sched (fun W => Below w1.heap.size w1 W) [] [0, 1, 2, 3, 4, 5, 6, 7, 8, 9, 10] (by kernel_rfl) (by kernel_rfl) (fun _ _ d _ _ h => by cases d <;> exact h) (by kernel_rfl) (of_decide_eq_true (by kernel_rfl)) HBL.out.drew ?_
        try simp only [Act.put, List.setIfInBounds_toArray, List.set_cons_zero, List.set_cons_succ]
        refine wpSched_nil ?_
        dsimp only [opsAt, List.filterMap, List.getElem?_cons_zero, List.getElem?_cons_succ]
        repeat (first
          | go_big_quiet_skip
          | (go_big_quiet_want
             first
               | (refine quiet_load_cell 31 (.tmp 20) rfl ⟨w.heap.size, 40, none⟩ rfl (.slice (some ⟨b1, o1, none⟩) n c) _ HV.out Try.underlying31 rfl ?_
                  simp only [Act.put, List.setIfInBounds_toArray, List.set_cons_zero, List.set_cons_succ]
                  go_big_quiet_on)
               | (refine quiet_load_cell 31 (.tmp 25) rfl ⟨w.heap.size + 1, 40, none⟩ rfl (.slice (some ⟨b2, o2, none⟩) n' c') _ HV'.out Try.underlying31 rfl ?_
                  simp only [Act.put, List.setIfInBounds_toArray, List.set_cons_zero, List.set_cons_succ]
                  go_big_quiet_on)
               | (refine quiet_load_mid 23 (.tmp 23) rfl b1 (o1 + i * 2) rfl (stampCells x y) _ G1.out Try.underlying23 rfl (sizeStamp _ _) ?_
                  simp only [Act.put, List.setIfInBounds_toArray, List.set_cons_zero, List.set_cons_succ]
                  go_big_quiet_on)
               | (refine quiet_load_mid 23 (.tmp 28) rfl b2 (o2 + i * 2) rfl (stampCells x' y') _ G2.out Try.underlying23 rfl (sizeStamp _ _) ?_
                  simp only [Act.put, List.setIfInBounds_toArray, List.set_cons_zero, List.set_cons_succ]
                  go_big_quiet_on)
               | (go_big_quiet_op
                  refine ⟨_, fun _ _ => rfl, ?_⟩
                  go_big_quiet_on)
               | (go_big_quiet_op
                  go_big_quiet_on)))
        refine wpQuiet_nil ?_
        cases eb
        · have HNO := hno rfl
          clear hyes hno q
          go_wp2_with fail
          go_ret
          exact ⟨by rw [HNO.out]; rfl, hb1.trans (HBL.out.drew.mono hb1.size)⟩
        · have HYES := hyes rfl
          clear hyes hno q
          go_wp2_with fail
          go_roundw
          case rel => exact ⟨i + 1, by omega, by go_num, HYES, Lib.hid HBL.out.drew⟩
          case measure => simp [intOf]; omega
      · have hf : ss = ss' := stake_all (by rw [← HN.out, ← HN'.out, hnn]) i (by have := HN.out; omega) htake.out
        have hsv := (HEQ.out hf).out
        have hs := hbel.out
        clear hf htake hbel
        have hcase : (e0 = false ∧ sb = false) ∨ (e0 = true ∧ e1 = false ∧ sb = false) ∨ (e0 = true ∧ e1 = true ∧ e2 = false ∧ sb = false) ∨ (e0 = true ∧ e1 = true ∧ e2 = true ∧ e3 = false ∧ sb = false) ∨ (e0 = true ∧ e1 = true ∧ e2 = true ∧ e3 = true ∧ e4 = false ∧ sb = false) ∨ (e0 = true ∧ e1 = true ∧ e2 = true ∧ e3 = true ∧ e4 = true ∧ e5 = false ∧ sb = false) ∨ (e0 = true ∧ e1 = true ∧ e2 = true ∧ e3 = true ∧ e4 = true ∧ e5 = true ∧ sb = true) := by
          rw [hsv]
          clear hsv he0 he4 q1 q2 q3 q5
          cases e0
          · exact .inl ⟨rfl, by simp⟩
          · cases e1
            · exact .inr (.inl ⟨rfl, rfl, by simp⟩)
            · cases e2
              · exact .inr (.inr (.inl ⟨rfl, rfl, rfl, by simp⟩))
              · cases e3
                · exact .inr (.inr (.inr (.inl ⟨rfl, rfl, rfl, rfl, by simp⟩)))
                · cases e4
                  · exact .inr (.inr (.inr (.inr (.inl ⟨rfl, rfl, rfl, rfl, rfl, by simp⟩))))
                  · cases e5
                    · exact .inr (.inr (.inr (.inr (.inr (.inl ⟨rfl, rfl, rfl, rfl, rfl, rfl, by simp⟩)))))
                    · exact .inr (.inr (.inr (.inr (.inr (.inr (⟨rfl, rfl, rfl, rfl, rfl, rfl, by simp⟩))))))
        clear hsv
        rcases hcase with ⟨rfl, rfl⟩ | ⟨rfl, rfl, rfl⟩ | ⟨rfl, rfl, rfl, rfl⟩ | ⟨rfl, rfl, rfl, rfl, rfl⟩ | ⟨rfl, rfl, rfl, rfl, rfl, rfl⟩ | ⟨rfl, rfl, rfl, rfl, rfl, rfl, rfl⟩ | ⟨rfl, rfl, rfl, rfl, rfl, rfl, rfl⟩
        all_goals
          go_upto_region 8 with (fail)
          refine wp_region_lex (fun W => Below w1.heap.size w1 W) [] [0, 1, 2, 3, 4, 5, 6, 7, 8, 9, 10, 11, 12, 13, 14, 15, 16, 17, 18, 19, 20, 21, 22, 23, 24, 25, 26, 27, 28, 29, 30, 31, 32, 33, 34, 35, 36, 37, 38, 39, 40] (by kernel_rfl) (by kernel_rfl) hs ?_
          try simp only [Act.put, List.setIfInBounds_toArray, List.set_cons_zero, List.set_cons_succ]
          refine wpSched_nil ?_
          dsimp only [opsAt, List.filterMap, List.getElem?_cons_zero, List.getElem?_cons_succ]
          repeat (first
            | go_big_quiet_skip
            | (go_big_quiet_want
               first
                 | (refine quiet_load_cell 3 (.tmp 31) rfl ⟨w.heap.size, 0, none⟩ rfl (.int .i64 k) _ HO.out.kind Try.underlying3 rfl ?_
                    simp only [Act.put, List.setIfInBounds_toArray, List.set_cons_zero, List.set_cons_succ]
                    go_big_quiet_on)
                 | (refine quiet_load_cell 3 (.tmp 33) rfl ⟨w.heap.size + 1, 0, none⟩ rfl (.int .i64 k') _ HO'.out.kind Try.underlying3 rfl ?_
                    simp only [Act.put, List.setIfInBounds_toArray, List.set_cons_zero, List.set_cons_succ]
                    go_big_quiet_on)
                 | (refine quiet_load_mid 23 (.tmp 37) rfl (w.heap.size) 1 rfl (stampCells t r) _ HO.out.at_ Try.underlying23 rfl (sizeStamp _ _) ?_
                    simp only [Act.put, List.setIfInBounds_toArray, List.set_cons_zero, List.set_cons_succ]
                    go_big_quiet_on)
                 | (refine quiet_load_mid 23 (.tmp 39) rfl (w.heap.size + 1) 1 rfl (stampCells t' r') _ HO'.out.at_ Try.underlying23 rfl (sizeStamp _ _) ?_
                    simp only [Act.put, List.setIfInBounds_toArray, List.set_cons_zero, List.set_cons_succ]
                    go_big_quiet_on)
                 | (refine quiet_load_mid 23 (.tmp 44) rfl (w.heap.size) 3 rfl (stampCells nt nr) _ HO.out.node Try.underlying23 rfl (sizeStamp _ _) ?_
                    simp only [Act.put, List.setIfInBounds_toArray, List.set_cons_zero, List.set_cons_succ]
                    go_big_quiet_on)
                 | (refine quiet_load_mid 23 (.tmp 46) rfl (w.heap.size + 1) 3 rfl (stampCells nt' nr') _ HO'.out.node Try.underlying23 rfl (sizeStamp _ _) ?_
                    simp only [Act.put, List.setIfInBounds_toArray, List.set_cons_zero, List.set_cons_succ]
                    go_big_quiet_on)
                 | (refine quiet_load_mid 23 (.tmp 51) rfl (w.heap.size) 5 rfl (stampCells pt pr) _ HO.out.parent Try.underlying23 rfl (sizeStamp _ _) ?_
                    simp only [Act.put, List.setIfInBounds_toArray, List.set_cons_zero, List.set_cons_succ]
                    go_big_quiet_on)
                 | (refine quiet_load_mid 23 (.tmp 53) rfl (w.heap.size + 1) 5 rfl (stampCells pt' pr') _ HO'.out.parent Try.underlying23 rfl (sizeStamp _ _) ?_
                    simp only [Act.put, List.setIfInBounds_toArray, List.set_cons_zero, List.set_cons_succ]
                    go_big_quiet_on)
                 | (refine quiet_load_cell 9 (.tmp 58) rfl ⟨w.heap.size, 7, none⟩ rfl (.string s) _ HO.out.name Try.underlying9 rfl ?_
                    simp only [Act.put, List.setIfInBounds_toArray, List.set_cons_zero, List.set_cons_succ]
                    go_big_quiet_on)
                 | (refine quiet_load_cell 9 (.tmp 60) rfl ⟨w.heap.size + 1, 7, none⟩ rfl (.string s') _ HO'.out.name Try.underlying9 rfl ?_
                    simp only [Act.put, List.setIfInBounds_toArray, List.set_cons_zero, List.set_cons_succ]
                    go_big_quiet_on)
                 | (refine quiet_load_mid 30 (.tmp 65) rfl (w.heap.size) 8 rfl D _ HDT.out Try.underlying30 rfl HDS.out ?_
                    simp only [Act.put, List.setIfInBounds_toArray, List.set_cons_zero, List.set_cons_succ]
                    go_big_quiet_on)
                 | (refine quiet_load_mid 30 (.tmp 67) rfl (w.heap.size + 1) 8 rfl D' _ HDT'.out Try.underlying30 rfl HDS'.out ?_
                    simp only [Act.put, List.setIfInBounds_toArray, List.set_cons_zero, List.set_cons_succ]
                    go_big_quiet_on)
                 | (go_big_quiet_op
                    refine ⟨_, fun _ _ => rfl, ?_⟩
                    go_big_quiet_on)
                 | (go_big_quiet_op
                    go_big_quiet_on)))
          refine wpQuiet_nil ?_
          go_wp2_with fail
          go_ret
          exact ⟨rfl, hb1.trans (hs.mono hb1.size)⟩
  · have hnb : ((n : Int) != (n' : Int)) = true := by simp; omega
    have HF := HNE.out fun h => hnn (by rw [HN.out, HN'.out, h])
    go_wp2_with fail
    go_ret
    exact ⟨by rw [HF.out]; rfl, hb1⟩
end Go.Proofs.Ytoaboehmjfnceaa
