/-
  The walk of the reference's Good.
-/
import Derived.Test.YtoaboehmjfnceaaGoodOp
import Derived.Test.YtoaboehmjfnceaaRefName
import Derived.Test.YtoaboehmjfnceaaGetId
namespace Go.Proofs.Ytoaboehmjfnceaa
open Go.RowKit
set_option linter.unusedSimpArgs false
set_option linter.unusedVariables false

theorem refgood_pure (k t r nt nr pt pr : Int) (s : ByteArray) (d : List UInt8) (ss : List (Int × Int)) :
    goodOpB k t r nt nr pt pr s d ss = (rightB t r && (rightB nt nr && (if k = 1 then (decide (cmpS nt nr t r ≤ 0) && (placeB pt pr && (nameV s (badB s) && (decide (d = id0) && decide (ss.length = 0))))) else if k = 2 then (decide (cmpS nt nr t r < 0) && (decide (pt = 0 ∧ pr = 0) && (s.toList.isEmpty && (!decide (d = id0) && (decide (ss.length ≤ 64) && (incrB ss && !anyWrong t r ss)))))) else false))) := rfl
theorem OpIn.sub {C C' : World → Prop} {g : Nat} {k t r nt nr pt pr : Int} {s : ByteArray} {d : List UInt8} {ov : Value} (h : OpIn C g k t r nt nr pt pr s d ov) (hc : ∀ W, C' W → C W) : OpIn C' g k t r nt nr pt pr s d ov :=
  ⟨fun W q => h.whole W (hc W q), fun W q => h.kind W (hc W q), fun W q => h.at_ W (hc W q), fun W q => h.node W (hc W q), fun W q => h.parent W (hc W q), fun W q => h.name W (hc W q), fun W q => h.data W (hc W q), fun W q => h.over W (hc W q)⟩
theorem anyWrong_hit {ta ra : Int} {ss : List (Int × Int)} {i : Nat} (h : i < ss.length) (hw : wrongB ta ra ss[i].1 ss[i].2 = true) : anyWrong ta ra ss = true := by
  unfold anyWrong
  rw [List.any_eq_true]
  exact ⟨ss[i], List.getElem_mem h, hw⟩
theorem anyWrong_take {ta ra : Int} {ss : List (Int × Int)} {i : Nat} (h : i < ss.length) (h0 : anyWrong ta ra (ss.take i) = false) (hw : wrongB ta ra ss[i].1 ss[i].2 = false) : anyWrong ta ra (ss.take (i + 1)) = false := by
  rw [List.take_succ_eq_append_getElem h]
  unfold anyWrong at h0 ⊢
  rw [List.any_append, h0]
  simpa using hw
theorem cmpS_ne (t r u s : Int) : ((cmpS t r u s : Int) != -1) = !decide (cmpS t r u s < 0) := by
  have h := cmpS_range t r u s
  by_cases h1 : cmpS t r u s = -1
  · simp [h1]
  · have h2 : ¬ cmpS t r u s < 0 := by omega
    simp [h1, h2]

set_option maxRecDepth 100000 in
set_option maxHeartbeats 4000000 in
theorem refgood_any (k t r nt nr pt pr : Int) (s : ByteArray) (d : List UInt8) (a : Option Addr) (ss : List (Int × Int)) (c : Nat) (w : World) (hd : d.length = 32) (hm : s.size ≤ maxLen) (ha : StampsAt w a ss) (hl : ss.length ≤ 4611686018427387903) :
    Calls Try.prog 19 #[.agg (opCells k t r nt nr pt pr s d (.slice a ss.length c))] w fun e w' => e = .returned (.bool (goodOpB k t r nt nr pt pr s d ss)) ∧ Below w.heap.size w w' := by
  obtain ⟨X, hX⟩ : ∃ X, X = opCells k t r nt nr pt pr s d (.slice a ss.length c) := ⟨_, rfl⟩
  obtain ⟨w1, hw1⟩ : ∃ w1, w1 = w.alloc (.cells X 33) := ⟨_, rfl⟩
  have hb1 : Below w.heap.size w w1 := by rw [hw1]; exact (Below.refl _ w).alloc (Nat.le_refl _) _
  have hO : OpIn (fun W => Below w1.heap.size w1 W) w.heap.size k t r nt nr pt pr s d (.slice a ss.length c) := opIn_box hd (by rw [hw1, hX]; exact heap_alloc_new _ _)
  obtain ⟨n, hn⟩ : ∃ n, n = ss.length := ⟨_, rfl⟩
  rw [← hn] at hO
  have hpt : ∀ W, Below w1.heap.size w1 W → W.cell? ⟨w.heap.size, 5, none⟩ = some (.int .i64 pt) := fun W h => by rw [cell_of_block (hO.whole W h)]; rfl
  have hpr : ∀ W, Below w1.heap.size w1 W → W.cell? ⟨w.heap.size, 6, none⟩ = some (.int .i64 pr) := fun W h => by rw [cell_of_block (hO.whole W h)]; rfl
  obtain ⟨db, hdb⟩ : ∃ db, db = decide (d = id0) := ⟨_, rfl⟩
  obtain ⟨D, hD⟩ : ∃ D, D = (bvs d).toArray := ⟨_, rfl⟩
  obtain ⟨Z, hZ⟩ : ∃ Z, Z = lit32 := ⟨_, rfl⟩
  have hDs : (Try.prog.info? 30).map (·.size) = some D.size := by rw [hD, List.size_toArray, bvs_length, hd]; kernel_rfl
  have hZs : (Try.prog.info? 29).map (·.size) = some Z.size := by rw [hZ]; exact sizeLitA
  have heq : ∀ w', (Op.equalIn 10000 30 (.agg D) (.agg Z)).run Try.prog w' = .ok db w' := fun w' => by rw [hD, hZ, lit32_eq, hdb]; exact eq_ids w' d id0 hd rfl
  have hdat := hO.data
  rw [← hD] at hdat
  obtain ⟨ab, hab⟩ : ∃ ab, ab = rightB t r := ⟨_, rfl⟩
  obtain ⟨nb, hnb⟩ : ∃ nb, nb = rightB nt nr := ⟨_, rfl⟩
  obtain ⟨cv, hcv⟩ : ∃ cv, cv = cmpS nt nr t r := ⟨_, rfl⟩
  obtain ⟨rb, hrb⟩ : ∃ rb, rb = rightB pt pr := ⟨_, rfl⟩
  obtain ⟨mb, hmb⟩ : ∃ mb, mb = nameV s (badB s) := ⟨_, rfl⟩
  obtain ⟨eb, heb⟩ : ∃ eb, s.toList.isEmpty = eb := ⟨_, rfl⟩
  obtain ⟨sb, hsb⟩ : ∃ sb, sb = decide (nt = t ∧ nr = r) := ⟨_, rfl⟩
  obtain ⟨gb, hgb⟩ : ∃ gb, gb = goodOpB k t r nt nr pt pr s d ss := ⟨_, rfl⟩
  have hc1 := fun W => refright_any t r W
  have hc2 := fun W => refright_any nt nr W
  have hc3 := fun W => refcmp_any nt nr t r W
  have hc4 := fun W => refright_any pt pr W
  have hc5 := fun W => refname_any s W hm
  have q : ∀ w', (Op.equalIn 10000 23 (.agg (stampCells nt nr)) (.agg (stampCells t r))).run Try.prog w' = .ok sb w' := fun w' => by rw [hsb]; exact eq_stamps _ _ _ _ w'
  rw [← hab] at hc1
  rw [← hnb] at hc2
  rw [← hcv] at hc3
  rw [← hrb] at hc4
  rw [← hmb] at hc5
  have hgv : gb = (ab && (nb && (if k = 1 then (decide (cv ≤ 0) && ((decide (pt = 0 ∧ pr = 0) || (decide (pt = 0 ∧ pr = 1) || rb)) && (mb && (db && decide (n = 0))))) else if k = 2 then (decide (cv < 0) && (decide (pt = 0 ∧ pr = 0) && (eb && (!db && (decide (n ≤ 64) && (incrB ss && !anyWrong t r ss)))))) else false))) := by
    rw [hgb, refgood_pure, hab, hnb, hcv, hrb, hmb, hdb, ← heb, hn]; rfl
  have hsc : cv ≤ 0 → (decide (cv < 0) = !sb) := fun h => by
    have h0 := cmpS_zero nt nr t r
    rw [← hcv] at h0
    by_cases h1 : nt = t ∧ nr = r
    · rw [hsb, decide_eq_true h1]
      have := h0.2 h1
      simp [this]
    · rw [hsb, decide_eq_false h1]
      have : cv ≠ 0 := fun h2 => h1 (h0.1 h2)
      simp; omega
  have hcaseA : (ab = false ∧ Hid (gb = false)) ∨ (ab = true ∧ nb = false ∧ Hid (gb = false)) ∨ (ab = true ∧ nb = true ∧ decide (0 < cv) = true ∧ Hid (gb = false)) ∨ (ab = true ∧ nb = true ∧ decide (0 < cv) = false ∧ Hid (cv ≤ 0 ∧ gb = (if k = 1 then ((decide (pt = 0 ∧ pr = 0) || (decide (pt = 0 ∧ pr = 1) || rb)) && (mb && (db && decide (n = 0)))) else if k = 2 then (!sb && (decide (pt = 0 ∧ pr = 0) && (eb && (!db && (decide (n ≤ 64) && (incrB ss && !anyWrong t r ss)))))) else false))) := by
    rw [hgv]
    cases ab
    · exact .inl ⟨rfl, Lib.hid (by simp)⟩
    · cases nb
      · exact .inr (.inl ⟨rfl, rfl, Lib.hid (by simp)⟩)
      · by_cases h : 0 < cv
        · have h1 : decide (cv ≤ 0) = false := decide_eq_false (by omega)
          have h2 : decide (cv < 0) = false := decide_eq_false (by omega)
          exact .inr (.inr (.inl ⟨rfl, rfl, decide_eq_true h, Lib.hid (by rw [h1, h2]; simp)⟩))
        · have h1 : decide (cv ≤ 0) = true := decide_eq_true (by omega)
          exact .inr (.inr (.inr ⟨rfl, rfl, decide_eq_false h, Lib.hid ⟨by omega, by rw [h1, hsc (by omega)]; simp⟩⟩))
  have hat := fun W (h : Below w1.heap.size w1 W) => (ha.later hb1).later h
  rw [← hgb, ← hX]
  have hnm : n ≤ 4611686018427387903 := by omega
  have HO := Lib.hid hO
  have HDT := Lib.hid hdat
  have HDS := Lib.hid hDs
  have HZS := Lib.hid hZs
  have HZ := Lib.hid hZ
  have HPT := Lib.hid hpt
  have HPR := Lib.hid hpr
  have HC1 := Lib.hid hc1
  have HC2 := Lib.hid hc2
  have HC3 := Lib.hid hc3
  have HC4 := Lib.hid hc4
  have HC5 := Lib.hid hc5
  have HN := Lib.hid hn
  have HAT := Lib.hid hat
  have HW1 := Lib.hid hw1
  clear hX hw1 hO hdat hDs hZs hZ hpt hpr hc1 hc2 hc3 hc4 hc5 hn hat ha hdb hD hab hnb hcv hrb hmb hsb hgb hgv hsc hd hm hl
  rcases hcaseA with ⟨rfl, HG⟩ | ⟨rfl, rfl, HG⟩ | ⟨rfl, rfl, hcv, HG⟩ | ⟨rfl, rfl, hcv, HG⟩
  all_goals
    go_enter Try.func19, Try.ntmps19
    go_upto_region 1 with (fail)
    change Code.wp _ _ _ _ (w.alloc (.cells X 33))
    rw [← HW1.out]
    have hs : Below w1.heap.size w1 w1 := Below.refl _ _
    refine wp_region_lex (fun W => Below w1.heap.size w1 W) [([0, 1], 2), ([3, 4, 5, 6], 7), ([8, 9, 10, 11, 12, 13, 14], 15)] [16, 17] (by kernel_rfl) (by kernel_rfl) hs ?_
    refine wpSched_cons ?_
    dsimp only [opsAt, List.filterMap, List.getElem?_cons_zero, List.getElem?_cons_succ]
    repeat (first
      | go_big_quiet_skip
      | (go_big_quiet_want
         first
           | (refine quiet_load_mid 23 (.tmp 6) rfl w.heap.size 1 rfl (stampCells t r) _ HO.out.at_ Try.underlying23 rfl (sizeStamp _ _) ?_
              simp only [Act.put, List.setIfInBounds_toArray, List.set_cons_zero, List.set_cons_succ]
              go_big_quiet_on)
           | (go_big_quiet_op
              refine ⟨_, fun _ _ => rfl, ?_⟩
              go_big_quiet_on)
           | (go_big_quiet_op
              go_big_quiet_on)))
    refine wpQuiet_nil ?_
    intro KK hKK
    go_simp
    first
      | (refine (HC1.out _).mono ?_
         rintro e w3 ⟨rfl, hb3⟩
         replace hs := hs.trans (hb3.mono hs.size)
         clear hb3)
      | skip
    refine hKK _ _ hs ?_
    clear hKK KK
    try simp only [Act.put, List.setIfInBounds_toArray, List.set_cons_zero, List.set_cons_succ]
    refine wpSched_cons ?_
    dsimp only [opsAt, List.filterMap, List.getElem?_cons_zero, List.getElem?_cons_succ]
    repeat (first
      | go_big_quiet_skip
      | (go_big_quiet_want
         first
           | (refine quiet_load_mid 23 (.tmp 11) rfl w.heap.size 3 rfl (stampCells nt nr) _ HO.out.node Try.underlying23 rfl (sizeStamp _ _) ?_
              simp only [Act.put, List.setIfInBounds_toArray, List.set_cons_zero, List.set_cons_succ]
              go_big_quiet_on)
           | (go_big_quiet_op
              refine ⟨_, fun _ _ => rfl, ?_⟩
              go_big_quiet_on)
           | (go_big_quiet_op
              go_big_quiet_on)))
    refine wpQuiet_nil ?_
    intro KK hKK
    go_simp
    first
      | (refine (HC2.out _).mono ?_
         rintro e w3 ⟨rfl, hb3⟩
         replace hs := hs.trans (hb3.mono hs.size)
         clear hb3)
      | skip
    refine hKK _ _ hs ?_
    clear hKK KK
    try simp only [Act.put, List.setIfInBounds_toArray, List.set_cons_zero, List.set_cons_succ]
    refine wpSched_cons ?_
    dsimp only [opsAt, List.filterMap, List.getElem?_cons_zero, List.getElem?_cons_succ]
    repeat (first
      | go_big_quiet_skip
      | (go_big_quiet_want
         first
           | (refine quiet_load_mid 23 (.tmp 17) rfl w.heap.size 3 rfl (stampCells nt nr) _ HO.out.node Try.underlying23 rfl (sizeStamp _ _) ?_
              simp only [Act.put, List.setIfInBounds_toArray, List.set_cons_zero, List.set_cons_succ]
              go_big_quiet_on)
           | (refine quiet_load_mid 23 (.tmp 19) rfl w.heap.size 1 rfl (stampCells t r) _ HO.out.at_ Try.underlying23 rfl (sizeStamp _ _) ?_
              simp only [Act.put, List.setIfInBounds_toArray, List.set_cons_zero, List.set_cons_succ]
              go_big_quiet_on)
           | (go_big_quiet_op
              refine ⟨_, fun _ _ => rfl, ?_⟩
              go_big_quiet_on)
           | (go_big_quiet_op
              go_big_quiet_on)))
    refine wpQuiet_nil ?_
    intro KK hKK
    go_simp
    first
      | (refine (HC3.out _).mono ?_
         rintro e w3 ⟨rfl, hb3⟩
         replace hs := hs.trans (hb3.mono hs.size)
         clear hb3)
      | skip
    refine hKK _ _ hs ?_
    clear hKK KK
    try simp only [Act.put, List.setIfInBounds_toArray, List.set_cons_zero, List.set_cons_succ]
    refine wpSched_nil ?_
    dsimp only [opsAt, List.filterMap, List.getElem?_cons_zero, List.getElem?_cons_succ]
    repeat (first
      | go_big_quiet_skip
      | (go_big_quiet_want
         first
           | (go_big_quiet_op
              refine ⟨_, fun _ _ => rfl, ?_⟩
              go_big_quiet_on)
           | (go_big_quiet_op
              go_big_quiet_on)))
    refine wpQuiet_nil ?_
  · go_wp2_with fail
    go_ret
    exact ⟨by rw [HG.out]; rfl, hb1.trans (hs.mono hb1.size)⟩
  · go_wp2_with fail
    go_ret
    exact ⟨by rw [HG.out]; rfl, hb1.trans (hs.mono hb1.size)⟩
  · go_wp2_with fail
    go_ret
    exact ⟨by rw [HG.out]; rfl, hb1.trans (hs.mono hb1.size)⟩
  · have hck := HO.out.kind _ hs
    have hzn : (w3.alloc zarr).heap[w3.heap.size]? = some (.cells lit32 29 (0, 0)) := heap_alloc_new w3 zarr
    have HZN := Lib.hid hzn
    clear hzn
    go_upto_region 4 with (refine wpList_store_row rfl 29 (.tmp 3) (.tmp 24) rfl w3.heap.size lit32 rfl rfl 29 lit32 HZN.out sizeLitA rfl lit32_all ?_)
    change Code.wp _ _ _ _ ((w3.alloc zarr).setRow w3.heap.size lit32)
    obtain ⟨w4, hw4⟩ : ∃ w4, w4 = (w3.alloc zarr).setRow w3.heap.size lit32 := ⟨_, rfl⟩
    rw [← hw4]
    have hb4 : Below w1.heap.size w1 w4 := by rw [hw4]; exact below_setRow (hs.alloc hs.size _) hs.size
    have hz4 : w4.heap[w3.heap.size]? = some (.cells Z 29 (0, 0)) := by rw [hw4, HZ.out]; exact setRow_heap _ _ _ _ _ _ HZN.out
    have hzl := lt_of_block hz4
    have HR := Lib.hid (show ∀ W, Below w4.heap.size w4 W → W.heap[w3.heap.size]? = some (.cells Z 29 (0, 0)) from fun W h => by rw [h.block _ hzl]; exact hz4)
    have hsub : ∀ W, Below w4.heap.size w4 W → Below w1.heap.size w1 W := fun W h => hb4.trans (h.mono hb4.size)
    have HO4 := Lib.hid (HO.out.sub hsub)
    have HDT4 := Lib.hid (fun W h => HDT.out W (hsub W h))
    have HPT4 := Lib.hid (fun W h => HPT.out W (hsub W h))
    have HPR4 := Lib.hid (fun W h => HPR.out W (hsub W h))
    have HAT4 := Lib.hid (HAT.out w4 hb4)
    have hb04 := hb1.trans (hb4.mono hb1.size)
    have HB04 := Lib.hid hb04
    replace hck := HO.out.kind w4 hb4
    replace hs : Below w4.heap.size w4 w4 := Below.refl _ _
    obtain ⟨g3, hg3⟩ : ∃ g3, g3 = w3.heap.size := ⟨_, rfl⟩
    rw [← hg3] at HR ⊢
    clear hw4 hz4 hzl hsub hb4 hb04 hg3 HZN HO HDT HPT HPR HAT HC1 HC2 HC3 HW1 HZ hb1 hcv
    by_cases hk : k = 1
    · have HGM := Lib.hid (show gb = ((decide (pt = 0 ∧ pr = 0) || (decide (pt = 0 ∧ pr = 1) || rb)) && (mb && (db && decide (n = 0)))) by rw [HG.out.2, if_pos hk])
      subst hk
      have hcaseL : (rb = true ∧ Hid (gb = (mb && (db && decide (n = 0))))) ∨ (rb = false ∧ ((pt : Int) == 0) = true ∧ ((pr : Int) == 0) = true ∧ Hid (gb = (mb && (db && decide (n = 0))))) ∨ (rb = false ∧ ((pt : Int) == 0) = true ∧ ((pr : Int) == 0) = false ∧ ((pr : Int) == 1) = true ∧ Hid (gb = (mb && (db && decide (n = 0))))) ∨ (rb = false ∧ ((pt : Int) == 0) = false ∧ Hid (gb = false)) ∨ (rb = false ∧ ((pt : Int) == 0) = true ∧ ((pr : Int) == 0) = false ∧ ((pr : Int) == 1) = false ∧ Hid (gb = false)) := by
        rw [HGM.out]
        cases rb
        · by_cases h1 : pt = 0
          · by_cases h2 : pr = 0
            · exact .inr (.inl ⟨rfl, by simp [h1], by simp [h2], Lib.hid (by simp [h1, h2])⟩)
            · by_cases h3 : pr = 1
              · exact .inr (.inr (.inl ⟨rfl, by simp [h1], by simp [h3], by simp [h3], Lib.hid (by simp [h1, h3])⟩))
              · exact .inr (.inr (.inr (.inr ⟨rfl, by simp [h1], by simp [h2], by simp [h3], Lib.hid (by simp [h2, h3])⟩)))
          · exact .inr (.inr (.inr (.inl ⟨rfl, by simp [h1], Lib.hid (by simp [h1])⟩)))
        · exact .inl ⟨rfl, Lib.hid (by simp)⟩
      clear HG HGM q hnm heb
      rcases hcaseL with ⟨rfl, HL⟩ | ⟨rfl, l1, l2, HL⟩ | ⟨rfl, l1, l2, l3, HL⟩ | ⟨rfl, l1, HL⟩ | ⟨rfl, l1, l2, l3, HL⟩
      all_goals
        go_upto_region 5 with (fail)
        refine wp_region_lex (fun W => Below w4.heap.size w4 W) [([0, 1], 2)] [3, 4, 5, 6, 7, 8, 9, 10, 11, 12, 13, 14, 15, 16, 17, 18, 19, 20, 21, 22, 23, 24, 25, 26, 27] (by kernel_rfl) (by kernel_rfl) hs ?_
        refine wpSched_cons ?_
        dsimp only [opsAt, List.filterMap, List.getElem?_cons_zero, List.getElem?_cons_succ]
        repeat (first
          | go_big_quiet_skip
          | (go_big_quiet_want
             first
               | (refine quiet_load_mid 23 (.tmp 28) rfl w.heap.size 5 rfl (stampCells pt pr) _ HO4.out.parent Try.underlying23 rfl (sizeStamp _ _) ?_
                  simp only [Act.put, List.setIfInBounds_toArray, List.set_cons_zero, List.set_cons_succ]
                  go_big_quiet_on)
               | (go_big_quiet_op
                  refine ⟨_, fun _ _ => rfl, ?_⟩
                  go_big_quiet_on)
               | (go_big_quiet_op
                  go_big_quiet_on)))
        refine wpQuiet_nil ?_
        intro KK hKK
        go_simp
        first
          | (refine (HC4.out _).mono ?_
             rintro e w3 ⟨rfl, hb3⟩
             replace hs := hs.trans (hb3.mono hs.size)
             clear hb3)
          | skip
        refine hKK _ _ hs ?_
        clear hKK KK
        try simp only [Act.put, List.setIfInBounds_toArray, List.set_cons_zero, List.set_cons_succ]
        refine wpSched_nil ?_
        dsimp only [opsAt, List.filterMap, List.getElem?_cons_zero, List.getElem?_cons_succ]
        repeat (first
          | go_big_quiet_skip
          | (go_big_quiet_want
             first
               | (refine quiet_load_cell 2 (.tmp 33) rfl ⟨w.heap.size, 5, none⟩ rfl (.int .i64 pt) _ HPT4.out Try.underlying2 rfl ?_
                  simp only [Act.put, List.setIfInBounds_toArray, List.set_cons_zero, List.set_cons_succ]
                  go_big_quiet_on)
               | (refine quiet_load_cell 3 (.tmp 38) rfl ⟨w.heap.size, 6, none⟩ rfl (.int .i64 pr) _ HPR4.out Try.underlying3 rfl ?_
                  simp only [Act.put, List.setIfInBounds_toArray, List.set_cons_zero, List.set_cons_succ]
                  go_big_quiet_on)
               | (refine quiet_load_cell 2 (.tmp 45) rfl ⟨w.heap.size, 5, none⟩ rfl (.int .i64 pt) _ HPT4.out Try.underlying2 rfl ?_
                  simp only [Act.put, List.setIfInBounds_toArray, List.set_cons_zero, List.set_cons_succ]
                  go_big_quiet_on)
               | (refine quiet_load_cell 3 (.tmp 50) rfl ⟨w.heap.size, 6, none⟩ rfl (.int .i64 pr) _ HPR4.out Try.underlying3 rfl ?_
                  simp only [Act.put, List.setIfInBounds_toArray, List.set_cons_zero, List.set_cons_succ]
                  go_big_quiet_on)
               | (go_big_quiet_op
                  refine ⟨_, fun _ _ => rfl, ?_⟩
                  go_big_quiet_on)
               | (go_big_quiet_op
                  go_big_quiet_on)))
        refine wpQuiet_nil ?_
        go_upto_region 6 with (fail)
      iterate 3
        · clear HC4 hck
          try clear l1
          try clear l2
          try clear l3
          have hcaseM : (mb = false ∧ Hid (gb = false)) ∨ (mb = true ∧ db = false ∧ Hid (gb = false)) ∨ (mb = true ∧ db = true ∧ ((n : Int) == 0) = false ∧ Hid (gb = false)) ∨ (mb = true ∧ db = true ∧ ((n : Int) == 0) = true ∧ Hid (gb = true)) := by
            rw [HL.out]
            cases mb
            · exact .inl ⟨rfl, Lib.hid (by simp)⟩
            · cases db
              · exact .inr (.inl ⟨rfl, rfl, Lib.hid (by simp)⟩)
              · by_cases h1 : n = 0
                · exact .inr (.inr (.inr ⟨rfl, rfl, by simp [h1], Lib.hid (by simp [h1])⟩))
                · exact .inr (.inr (.inl ⟨rfl, rfl, by simp; omega, Lib.hid (by simp [h1])⟩))
          clear HL
          rcases hcaseM with ⟨rfl, HF⟩ | ⟨rfl, rfl, HF⟩ | ⟨rfl, rfl, m1, HF⟩ | ⟨rfl, rfl, m1, HF⟩
          all_goals
            refine wp_region_lex (fun W => Below w4.heap.size w4 W) [([0, 1, 2, 3], 4), ([5, 6, 7, 8, 9, 10, 11, 12, 13, 14], 15)] [16, 17, 18] (by kernel_rfl) (by kernel_rfl) hs ?_
            refine wpSched_cons ?_
            dsimp only [opsAt, List.filterMap, List.getElem?_cons_zero, List.getElem?_cons_succ]
            repeat (first
              | go_big_quiet_skip
              | (go_big_quiet_want
                 first
                   | (refine quiet_load_cell 9 (.tmp 57) rfl ⟨w.heap.size, 7, none⟩ rfl (.string s) _ HO4.out.name Try.underlying9 rfl ?_
                      simp only [Act.put, List.setIfInBounds_toArray, List.set_cons_zero, List.set_cons_succ]
                      go_big_quiet_on)
                   | (go_big_quiet_op
                      refine ⟨_, fun _ _ => rfl, ?_⟩
                      go_big_quiet_on)
                   | (go_big_quiet_op
                      go_big_quiet_on)))
            refine wpQuiet_nil ?_
            intro KK hKK
            go_simp
            first
              | (refine (HC5.out _).mono ?_
                 rintro e w3 ⟨rfl, hb3⟩
                 replace hs := hs.trans (hb3.mono hs.size)
                 clear hb3)
              | skip
            refine hKK _ _ hs ?_
            clear hKK KK
            try simp only [Act.put, List.setIfInBounds_toArray, List.set_cons_zero, List.set_cons_succ]
            refine wpSched_cons ?_
            dsimp only [opsAt, List.filterMap, List.getElem?_cons_zero, List.getElem?_cons_succ]
            repeat (first
              | go_big_quiet_skip
              | (go_big_quiet_want
                 first
                   | (refine quiet_load_mid 30 (.tmp 62) rfl w.heap.size 8 rfl D _ HDT4.out Try.underlying30 rfl HDS.out ?_
                      simp only [Act.put, List.setIfInBounds_toArray, List.set_cons_zero, List.set_cons_succ]
                      go_big_quiet_on)
                   | (refine quiet_load_row' 29 (.tmp 3) rfl g3 rfl 29 Z (0, 0) _ HR.out Try.underlying29 rfl HZS.out ?_
                      simp only [Act.put, List.setIfInBounds_toArray, List.set_cons_zero, List.set_cons_succ]
                      go_big_quiet_on)
                   | (refine quiet_load_cell 31 (.tmp 68) rfl ⟨w.heap.size, 40, none⟩ rfl (.slice a n c) _ HO4.out.over Try.underlying31 rfl ?_
                      simp only [Act.put, List.setIfInBounds_toArray, List.set_cons_zero, List.set_cons_succ]
                      go_big_quiet_on)
                   | (go_big_quiet_op
                      refine ⟨_, fun _ _ => rfl, ?_⟩
                      go_big_quiet_on)
                   | (go_big_quiet_op
                      go_big_quiet_on)))
            refine wpQuiet_nil ?_
            intro KK hKK
            go_simp
            refine hKK _ _ hs ?_
            clear hKK KK
            try simp only [Act.put, List.setIfInBounds_toArray, List.set_cons_zero, List.set_cons_succ]
            refine wpSched_nil ?_
            dsimp only [opsAt, List.filterMap, List.getElem?_cons_zero, List.getElem?_cons_succ]
            repeat (first
              | go_big_quiet_skip
              | (go_big_quiet_want
                 first
                   | (go_big_quiet_op
                      refine ⟨_, fun _ _ => rfl, ?_⟩
                      go_big_quiet_on)
                   | (go_big_quiet_op
                      go_big_quiet_on)))
            refine wpQuiet_nil ?_
            go_wp2_with fail
            go_ret
            exact ⟨by rw [HF.out]; rfl, HB04.out.trans (hs.mono HB04.out.size)⟩
      all_goals
        refine wp_region_lex (fun W => Below w4.heap.size w4 W) [([0, 1, 2, 3], 4), ([5, 6, 7, 8, 9, 10, 11, 12, 13, 14], 15)] [16, 17, 18] (by kernel_rfl) (by kernel_rfl) hs ?_
        refine wpSched_cons ?_
        dsimp only [opsAt, List.filterMap, List.getElem?_cons_zero, List.getElem?_cons_succ]
        repeat (first
          | go_big_quiet_skip
          | (go_big_quiet_want
             first
               | (go_big_quiet_op
                  refine ⟨_, fun _ _ => rfl, ?_⟩
                  go_big_quiet_on)
               | (go_big_quiet_op
                  go_big_quiet_on)))
        refine wpQuiet_nil ?_
        intro KK hKK
        go_simp
        refine hKK _ _ hs ?_
        clear hKK KK
        try simp only [Act.put, List.setIfInBounds_toArray, List.set_cons_zero, List.set_cons_succ]
        refine wpSched_cons ?_
        dsimp only [opsAt, List.filterMap, List.getElem?_cons_zero, List.getElem?_cons_succ]
        repeat (first
          | go_big_quiet_skip
          | (go_big_quiet_want
             first
               | (go_big_quiet_op
                  refine ⟨_, fun _ _ => rfl, ?_⟩
                  go_big_quiet_on)
               | (go_big_quiet_op
                  go_big_quiet_on)))
        refine wpQuiet_nil ?_
        intro KK hKK
        go_simp
        refine hKK _ _ hs ?_
        clear hKK KK
        try simp only [Act.put, List.setIfInBounds_toArray, List.set_cons_zero, List.set_cons_succ]
        refine wpSched_nil ?_
        dsimp only [opsAt, List.filterMap, List.getElem?_cons_zero, List.getElem?_cons_succ]
        repeat (first
          | go_big_quiet_skip
          | (go_big_quiet_want
             first
               | (go_big_quiet_op
                  refine ⟨_, fun _ _ => rfl, ?_⟩
                  go_big_quiet_on)
               | (go_big_quiet_op
                  go_big_quiet_on)))
        refine wpQuiet_nil ?_
        go_wp2_with fail
        go_ret
        exact ⟨by rw [HL.out]; rfl, HB04.out.trans (hs.mono HB04.out.size)⟩
    · have hk1 : ((k : Int) == 1) = false := by simpa using hk
      have hcase7 : (((k : Int) != 2) = true ∧ Hid (gb = false)) ∨ (((k : Int) != 2) = false ∧ sb = true ∧ Hid (gb = false)) ∨ (((k : Int) != 2) = false ∧ sb = false ∧ ((pt : Int) != 0) = true ∧ Hid (gb = false)) ∨ (((k : Int) != 2) = false ∧ sb = false ∧ ((pt : Int) != 0) = false ∧ ((pr : Int) != 0) = true ∧ Hid (gb = false)) ∨
          (((k : Int) != 2) = false ∧ sb = false ∧ ((pt : Int) != 0) = false ∧ ((pr : Int) != 0) = false ∧ eb = false ∧ Hid (gb = false)) ∨ (((k : Int) != 2) = false ∧ sb = false ∧ ((pt : Int) != 0) = false ∧ ((pr : Int) != 0) = false ∧ eb = true ∧ db = true ∧ Hid (gb = false)) ∨
          (((k : Int) != 2) = false ∧ sb = false ∧ ((pt : Int) != 0) = false ∧ ((pr : Int) != 0) = false ∧ eb = true ∧ db = false ∧ decide ((64 : Int) < (n : Int)) = true ∧ Hid (gb = false)) ∨ (((k : Int) != 2) = false ∧ sb = false ∧ ((pt : Int) != 0) = false ∧ ((pr : Int) != 0) = false ∧ eb = true ∧ db = false ∧ decide ((64 : Int) < (n : Int)) = false ∧ Hid (gb = (incrB ss && !anyWrong t r ss))) := by
        rw [HG.out.2, if_neg hk]
        by_cases h0 : k = 2
        · rw [if_pos h0]
          have e0 : ((k : Int) != 2) = false := by simp [h0]
          cases sb
          · by_cases h1 : pt = 0
            · have e1 : ((pt : Int) != 0) = false := by simp [h1]
              by_cases h2 : pr = 0
              · have e2 : ((pr : Int) != 0) = false := by simp [h2]
                have e3 : decide (pt = 0 ∧ pr = 0) = true := decide_eq_true ⟨h1, h2⟩
                rw [e3]
                cases eb
                · exact .inr (.inr (.inr (.inr (.inl ⟨e0, rfl, e1, e2, rfl, Lib.hid (by simp)⟩))))
                · cases db
                  · by_cases h4 : n ≤ 64
                    · exact .inr (.inr (.inr (.inr (.inr (.inr (.inr ⟨e0, rfl, e1, e2, rfl, rfl, decide_eq_false (by omega), Lib.hid (by simp [h4])⟩))))))
                    · exact .inr (.inr (.inr (.inr (.inr (.inr (.inl ⟨e0, rfl, e1, e2, rfl, rfl, decide_eq_true (by omega), Lib.hid (by simp [h4])⟩))))))
                  · exact .inr (.inr (.inr (.inr (.inr (.inl ⟨e0, rfl, e1, e2, rfl, rfl, Lib.hid (by simp)⟩)))))
              · exact .inr (.inr (.inr (.inl ⟨e0, rfl, e1, by simp [h2], Lib.hid (by simp [h2])⟩)))
            · exact .inr (.inr (.inl ⟨e0, rfl, by simp [h1], Lib.hid (by simp [h1])⟩))
          · exact .inr (.inl ⟨e0, rfl, Lib.hid (by simp)⟩)
        · rw [if_neg h0]
          exact .inl ⟨by simp [h0], Lib.hid rfl⟩
      clear HG hk HC4 HC5
      rcases hcase7 with ⟨c0, HF⟩ | ⟨c0, rfl, HF⟩ | ⟨c0, rfl, c1, HF⟩ | ⟨c0, rfl, c1, c2, HF⟩ | ⟨c0, rfl, c1, c2, rfl, HF⟩ | ⟨c0, rfl, c1, c2, rfl, rfl, HF⟩ | ⟨c0, rfl, c1, c2, rfl, rfl, c3, HF⟩ | ⟨c0, rfl, c1, c2, rfl, rfl, c3, HF⟩
      all_goals
        go_upto_region 7 with (fail)
        refine wp_region_lex (fun W => Below w4.heap.size w4 W) [([0, 1, 2, 3, 4, 5, 6, 7, 8, 9, 10, 11, 12, 13, 14, 15, 16, 17, 18, 19, 20, 21, 22, 23, 24, 25, 26, 27, 28, 29, 30, 31, 32, 33, 34, 35], 36)] [37, 38] (by kernel_rfl) (by kernel_rfl) hs ?_
        refine wpSched_cons ?_
        dsimp only [opsAt, List.filterMap, List.getElem?_cons_zero, List.getElem?_cons_succ]
        repeat (first
          | go_big_quiet_skip
          | (go_big_quiet_want
             first
               | (refine quiet_load_cell 3 (.tmp 73) rfl ⟨w.heap.size, 0, none⟩ rfl (.int .i64 k) _ HO4.out.kind Try.underlying3 rfl ?_
                  simp only [Act.put, List.setIfInBounds_toArray, List.set_cons_zero, List.set_cons_succ]
                  go_big_quiet_on)
               | (refine quiet_load_mid 23 (.tmp 77) rfl w.heap.size 3 rfl (stampCells nt nr) _ HO4.out.node Try.underlying23 rfl (sizeStamp _ _) ?_
                  simp only [Act.put, List.setIfInBounds_toArray, List.set_cons_zero, List.set_cons_succ]
                  go_big_quiet_on)
               | (refine quiet_load_mid 23 (.tmp 79) rfl w.heap.size 1 rfl (stampCells t r) _ HO4.out.at_ Try.underlying23 rfl (sizeStamp _ _) ?_
                  simp only [Act.put, List.setIfInBounds_toArray, List.set_cons_zero, List.set_cons_succ]
                  go_big_quiet_on)
               | (refine quiet_load_cell 2 (.tmp 85) rfl ⟨w.heap.size, 5, none⟩ rfl (.int .i64 pt) _ HPT4.out Try.underlying2 rfl ?_
                  simp only [Act.put, List.setIfInBounds_toArray, List.set_cons_zero, List.set_cons_succ]
                  go_big_quiet_on)
               | (refine quiet_load_cell 3 (.tmp 91) rfl ⟨w.heap.size, 6, none⟩ rfl (.int .i64 pr) _ HPR4.out Try.underlying3 rfl ?_
                  simp only [Act.put, List.setIfInBounds_toArray, List.set_cons_zero, List.set_cons_succ]
                  go_big_quiet_on)
               | (refine quiet_load_cell 9 (.tmp 96) rfl ⟨w.heap.size, 7, none⟩ rfl (.string s) _ HO4.out.name Try.underlying9 rfl ?_
                  simp only [Act.put, List.setIfInBounds_toArray, List.set_cons_zero, List.set_cons_succ]
                  go_big_quiet_on)
               | (refine quiet_load_mid 30 (.tmp 101) rfl w.heap.size 8 rfl D _ HDT4.out Try.underlying30 rfl HDS.out ?_
                  simp only [Act.put, List.setIfInBounds_toArray, List.set_cons_zero, List.set_cons_succ]
                  go_big_quiet_on)
               | (refine quiet_load_row' 29 (.tmp 3) rfl g3 rfl 29 Z (0, 0) _ HR.out Try.underlying29 rfl HZS.out ?_
                  simp only [Act.put, List.setIfInBounds_toArray, List.set_cons_zero, List.set_cons_succ]
                  go_big_quiet_on)
               | (refine quiet_load_cell 31 (.tmp 107) rfl ⟨w.heap.size, 40, none⟩ rfl (.slice a n c) _ HO4.out.over Try.underlying31 rfl ?_
                  simp only [Act.put, List.setIfInBounds_toArray, List.set_cons_zero, List.set_cons_succ]
                  go_big_quiet_on)
               | (go_big_quiet_op
                  refine ⟨_, fun _ _ => rfl, ?_⟩
                  go_big_quiet_on)
               | (go_big_quiet_op
                  go_big_quiet_on)))
        refine wpQuiet_nil ?_
        intro KK hKK
        go_simp
        refine hKK _ _ hs ?_
        clear hKK KK
        try simp only [Act.put, List.setIfInBounds_toArray, List.set_cons_zero, List.set_cons_succ]
        refine wpSched_nil ?_
        dsimp only [opsAt, List.filterMap, List.getElem?_cons_zero, List.getElem?_cons_succ]
        repeat (first
          | go_big_quiet_skip
          | (go_big_quiet_want
             first
               | (go_big_quiet_op
                  refine ⟨_, fun _ _ => rfl, ?_⟩
                  go_big_quiet_on)
               | (go_big_quiet_op
                  go_big_quiet_on)))
        refine wpQuiet_nil ?_
      iterate 7
        · go_wp2_with fail
          go_ret
          exact ⟨by rw [HF.out]; rfl, HB04.out⟩
      clear c0 c1 c2 c3 hk1 hck q heq heb
      go_wp2_with fail
      go_loopw [5] (fun s5 wr => ∃ i : Nat, i ≤ n ∧ s5 = .int .i64 (i : Int) ∧ Hid (anyWrong t r (ss.take i) = false) ∧ Hid (IncUpto ss (i - 1)) ∧ Hid (Below w4.heap.size w4 wr)) (fun s5 _ => n - (intOf s5).toNat)
      case atStart => exact ⟨0, Nat.zero_le _, rfl, Lib.hid rfl, Lib.hid (fun i _ h => absurd h (by omega)), Lib.hid (Below.refl _ _)⟩
      case round =>
        obtain ⟨i, hi, rfl, hany, hinc, hbel⟩ := hrel
        have v1 := HO4.out.over wr hbel.out
        by_cases hlt : i < n
        · have hlt1 : i < ss.length := by have := HN.out; omega
          obtain ⟨b1, o1, rfl, hc1, hc2⟩ := HAT4.out i hlt1
          obtain ⟨x, hx⟩ : ∃ x, x = ss[i].1 := ⟨_, rfl⟩
          obtain ⟨y, hy⟩ : ∃ y, y = ss[i].2 := ⟨_, rfl⟩
          rw [← hx] at hc1
          rw [← hy] at hc2
          have G1 := Lib.hid (show ∀ W, Below w4.heap.size w4 W → W.rangeAt b1 (o1 + i * 2) (stampCells x y).toList from fun W h => stamp_range (cell_later h hc1) (cell_later h hc2))
          obtain ⟨rb1, hrb1⟩ : ∃ b, b = rightB x y := ⟨_, rfl⟩
          obtain ⟨cv1, hcv1⟩ : ∃ c, c = cmpS x y t r := ⟨_, rfl⟩
          have k1 := fun W => refright_any x y W
          have k2 := fun W => refcmp_any x y t r W
          rw [← hrb1] at k1
          rw [← hcv1] at k2
          have hwr : wrongB t r ss[i].1 ss[i].2 = (!rb1 || ((cv1 : Int) != -1)) := by
            rw [← hx, ← hy, hrb1, hcv1, cmpS_ne]
            rfl
          have hbad : (!rb1 || ((cv1 : Int) != -1)) = true → Hid (gb = false) := fun h => Lib.hid (by
            rw [HF.out, anyWrong_hit hlt1 (hwr.trans h)]
            simp)
          have hok : (!rb1 || ((cv1 : Int) != -1)) = false → Hid (anyWrong t r (ss.take (i + 1)) = false) := fun h => Lib.hid (anyWrong_take hlt1 hany.out (hwr.trans h))
          have hs := hbel.out
          have K1 := Lib.hid k1
          have K2 := Lib.hid k2
          clear hc1 hc2 hrb1 hcv1 k1 k2 hwr hany hbel
          by_cases hz : i = 0
          · have hgt : decide (0 < i) = false := decide_eq_false (by omega)
            have hgt2 : decide ((0 : Int) < (i : Int)) = false := decide_eq_false (by omega)
            have hcase : (rb1 = false ∧ Hid (gb = false)) ∨ (rb1 = true ∧ ((cv1 : Int) != -1) = true ∧ Hid (gb = false)) ∨ (rb1 = true ∧ ((cv1 : Int) != -1) = false ∧ Hid (anyWrong t r (ss.take (i + 1)) = false ∧ IncUpto ss (i + 1 - 1))) := by
              cases rb1
              · exact .inl ⟨rfl, hbad (by simp)⟩
              · cases h : ((cv1 : Int) != -1)
                · exact .inr (.inr ⟨rfl, rfl, Lib.hid ⟨(hok (by simp [h])).out, fun q _ hq => absurd hq (by omega)⟩⟩)
                · exact .inr (.inl ⟨rfl, rfl, hbad (by simp [h])⟩)
            clear hbad hok hinc hx hy hlt1 hz
            rcases hcase with ⟨rfl, HY⟩ | ⟨rfl, h1, HY⟩ | ⟨rfl, h1, HY⟩
            all_goals
              go_upto_region 12 with (fail)
              refine wp_region_sched (fun W => Below w4.heap.size w4 W) [([0, 1, 2, 3, 4], 5), ([6, 7, 8, 9, 10, 11, 12, 13, 14], 15), ([16, 17, 18, 19, 20, 21, 22, 23, 24, 25, 26, 27, 28, 29, 30, 31, 32], 33)] [34, 35, 36] (by kernel_rfl) (by kernel_rfl) (fun _ _ d _ _ h => by cases d <;> exact h) (by kernel_rfl) (of_decide_eq_true (by kernel_rfl)) hs.drew ?_
              replace hs := hs.drew
              refine wpSched_cons ?_
              dsimp only [opsAt, List.filterMap, List.getElem?_cons_zero, List.getElem?_cons_succ]
              repeat (first
                | go_big_quiet_skip
                | (go_big_quiet_want
                   first
                     | (refine quiet_load_cell 31 (.tmp 119) rfl ⟨w.heap.size, 40, none⟩ rfl (.slice (some ⟨b1, o1, none⟩) n c) _ HO4.out.over Try.underlying31 rfl ?_
                        simp only [Act.put, List.setIfInBounds_toArray, List.set_cons_zero, List.set_cons_succ]
                        go_big_quiet_on)
                     | (refine quiet_load_mid 23 (.tmp 122) rfl b1 (o1 + i * 2) rfl (stampCells x y) _ G1.out Try.underlying23 rfl (sizeStamp _ _) ?_
                        simp only [Act.put, List.setIfInBounds_toArray, List.set_cons_zero, List.set_cons_succ]
                        go_big_quiet_on)
                     | (go_big_quiet_op
                        refine ⟨_, fun _ _ => rfl, ?_⟩
                        go_big_quiet_on)
                     | (go_big_quiet_op
                        go_big_quiet_on)))
              refine wpQuiet_nil ?_
              intro KK hKK
              go_simp
              first
                | (refine (K1.out _).mono ?_
                   rintro e w3 ⟨rfl, hb3⟩
                   replace hs := hs.trans (hb3.mono hs.size)
                   clear hb3)
                | skip
              refine hKK _ _ hs ?_
              clear hKK KK
              try simp only [Act.put, List.setIfInBounds_toArray, List.set_cons_zero, List.set_cons_succ]
              refine wpSched_cons ?_
              dsimp only [opsAt, List.filterMap, List.getElem?_cons_zero, List.getElem?_cons_succ]
              repeat (first
                | go_big_quiet_skip
                | (go_big_quiet_want
                   first
                     | (refine quiet_load_cell 31 (.tmp 127) rfl ⟨w.heap.size, 40, none⟩ rfl (.slice (some ⟨b1, o1, none⟩) n c) _ HO4.out.over Try.underlying31 rfl ?_
                        simp only [Act.put, List.setIfInBounds_toArray, List.set_cons_zero, List.set_cons_succ]
                        go_big_quiet_on)
                     | (refine quiet_load_mid 23 (.tmp 130) rfl b1 (o1 + i * 2) rfl (stampCells x y) _ G1.out Try.underlying23 rfl (sizeStamp _ _) ?_
                        simp only [Act.put, List.setIfInBounds_toArray, List.set_cons_zero, List.set_cons_succ]
                        go_big_quiet_on)
                     | (refine quiet_load_mid 23 (.tmp 132) rfl w.heap.size 1 rfl (stampCells t r) _ HO4.out.at_ Try.underlying23 rfl (sizeStamp _ _) ?_
                        simp only [Act.put, List.setIfInBounds_toArray, List.set_cons_zero, List.set_cons_succ]
                        go_big_quiet_on)
                     | (go_big_quiet_op
                        refine ⟨_, fun _ _ => rfl, ?_⟩
                        go_big_quiet_on)
                     | (go_big_quiet_op
                        go_big_quiet_on)))
              refine wpQuiet_nil ?_
              intro KK hKK
              go_simp
              first
                | (refine (K2.out _).mono ?_
                   rintro e w3 ⟨rfl, hb3⟩
                   replace hs := hs.trans (hb3.mono hs.size)
                   clear hb3)
                | skip
              refine hKK _ _ hs ?_
              clear hKK KK
              try simp only [Act.put, List.setIfInBounds_toArray, List.set_cons_zero, List.set_cons_succ]
              refine wpSched_cons ?_
              dsimp only [opsAt, List.filterMap, List.getElem?_cons_zero, List.getElem?_cons_succ]
              repeat (first
                | go_big_quiet_skip
                | (go_big_quiet_want
                   first
                     | (go_big_quiet_op
                        refine ⟨_, fun _ _ => rfl, ?_⟩
                        go_big_quiet_on)
                     | (go_big_quiet_op
                        go_big_quiet_on)))
              refine wpQuiet_nil ?_
              intro KK hKK
              go_simp
              refine hKK _ _ hs ?_
              clear hKK KK
              try simp only [Act.put, List.setIfInBounds_toArray, List.set_cons_zero, List.set_cons_succ]
              refine wpSched_nil ?_
              dsimp only [opsAt, List.filterMap, List.getElem?_cons_zero, List.getElem?_cons_succ]
              repeat (first
                | go_big_quiet_skip
                | (go_big_quiet_want
                   first
                     | (go_big_quiet_op
                        refine ⟨_, fun _ _ => rfl, ?_⟩
                        go_big_quiet_on)
                     | (go_big_quiet_op
                        go_big_quiet_on)))
              refine wpQuiet_nil ?_
              go_wp2_with fail
            · go_ret
              exact ⟨by rw [HY.out]; rfl, HB04.out.trans (hs.mono HB04.out.size)⟩
            · go_ret
              exact ⟨by rw [HY.out]; rfl, HB04.out.trans (hs.mono HB04.out.size)⟩
            · go_roundw
              case rel => exact ⟨i + 1, by omega, by go_num, Lib.hid HY.out.1, Lib.hid HY.out.2, Lib.hid hs⟩
              case measure => simp [intOf]; omega
          · obtain ⟨j, rfl⟩ : ∃ j, i = j + 1 := ⟨i - 1, by omega⟩
            have hltj : j < ss.length := by omega
            obtain ⟨b2, o2, e2, hd1, hd2⟩ := HAT4.out j hltj
            injection e2 with e2
            injection e2 with e3 e4
            subst e3 e4
            obtain ⟨x', hx'⟩ : ∃ x, x = ss[j].1 := ⟨_, rfl⟩
            obtain ⟨y', hy'⟩ : ∃ y, y = ss[j].2 := ⟨_, rfl⟩
            rw [← hx'] at hd1
            rw [← hy'] at hd2
            have G2 := Lib.hid (show ∀ W, Below w4.heap.size w4 W → W.rangeAt b1 (o1 + j * 2) (stampCells x' y').toList from fun W h => stamp_range (cell_later h hd1) (cell_later h hd2))
            obtain ⟨cv2, hcv2⟩ : ∃ c, c = cmpS x' y' x y := ⟨_, rfl⟩
            have k3 := fun W => refcmp_any x' y' x y W
            rw [← hcv2] at k3
            have hne : ((cv2 : Int) != -1) = !decide (cv2 < 0) := by rw [hcv2]; exact cmpS_ne _ _ _ _
            have hcase : (rb1 = false ∧ Hid (gb = false)) ∨ (rb1 = true ∧ ((cv1 : Int) != -1) = true ∧ Hid (gb = false)) ∨ (rb1 = true ∧ ((cv1 : Int) != -1) = false ∧ ((cv2 : Int) != -1) = true ∧ Hid (gb = false)) ∨ (rb1 = true ∧ ((cv1 : Int) != -1) = false ∧ ((cv2 : Int) != -1) = false ∧ Hid (anyWrong t r (ss.take (j + 1 + 1)) = false ∧ IncUpto ss (j + 1 + 1 - 1))) := by
              cases rb1
              · exact .inl ⟨rfl, hbad (by simp)⟩
              · cases h : ((cv1 : Int) != -1)
                · cases h2 : ((cv2 : Int) != -1)
                  · refine .inr (.inr (.inr ⟨rfl, rfl, rfl, Lib.hid ⟨(hok (by simp [h])).out, fun q hq hqk => ?_⟩⟩))
                    by_cases he : q = j
                    · subst he
                      rw [← hx, ← hy, ← hx', ← hy', ← hcv2]
                      rw [h2] at hne
                      simpa using hne
                    · exact hinc.out q hq (by omega)
                  · refine .inr (.inr (.inl ⟨rfl, rfl, rfl, Lib.hid ?_⟩))
                    have hib : incrB ss = false := by
                      rw [← Bool.not_eq_true, incrB_iff]
                      intro h4
                      have h5 := h4 j hlt1
                      rw [← hx, ← hy, ← hx', ← hy', ← hcv2] at h5
                      rw [h2] at hne
                      simp at hne
                      omega
                    rw [HF.out, hib]
                    simp
                · exact .inr (.inl ⟨rfl, rfl, hbad (by simp [h])⟩)
            have K3 := Lib.hid k3
            have hgt : decide ((0 : Int) < (j : Int) + 1) = true := decide_eq_true (by omega)
            rw [show ((j + 1 : Nat) : Int) = (j : Int) + 1 by omega] at *
            clear hbad hok hinc hx hy hx' hy' hlt1 hltj hz hd1 hd2 hcv2 k3 hne
            rcases hcase with ⟨rfl, HY⟩ | ⟨rfl, h1, HY⟩ | ⟨rfl, h1, h2, HY⟩ | ⟨rfl, h1, h2, HY⟩
            all_goals
              go_upto_region 12 with (fail)
              refine wp_region_sched (fun W => Below w4.heap.size w4 W) [([0, 1, 2, 3, 4], 5), ([6, 7, 8, 9, 10, 11, 12, 13, 14], 15), ([16, 17, 18, 19, 20, 21, 22, 23, 24, 25, 26, 27, 28, 29, 30, 31, 32], 33)] [34, 35, 36] (by kernel_rfl) (by kernel_rfl) (fun _ _ d _ _ h => by cases d <;> exact h) (by kernel_rfl) (of_decide_eq_true (by kernel_rfl)) hs.drew ?_
              replace hs := hs.drew
              refine wpSched_cons ?_
              dsimp only [opsAt, List.filterMap, List.getElem?_cons_zero, List.getElem?_cons_succ]
              repeat (first
                | go_big_quiet_skip
                | (go_big_quiet_want
                   first
                     | (refine quiet_load_cell 31 (.tmp 119) rfl ⟨w.heap.size, 40, none⟩ rfl (.slice (some ⟨b1, o1, none⟩) n c) _ HO4.out.over Try.underlying31 rfl ?_
                        simp only [Act.put, List.setIfInBounds_toArray, List.set_cons_zero, List.set_cons_succ]
                        go_big_quiet_on)
                     | (refine quiet_load_mid 23 (.tmp 122) rfl b1 (o1 + (j + 1) * 2) rfl (stampCells x y) _ G1.out Try.underlying23 rfl (sizeStamp _ _) ?_
                        simp only [Act.put, List.setIfInBounds_toArray, List.set_cons_zero, List.set_cons_succ]
                        go_big_quiet_on)
                     | (go_big_quiet_op
                        refine ⟨_, fun _ _ => rfl, ?_⟩
                        go_big_quiet_on)
                     | (go_big_quiet_op
                        go_big_quiet_on)))
              refine wpQuiet_nil ?_
              intro KK hKK
              go_simp
              first
                | (refine (K1.out _).mono ?_
                   rintro e w3 ⟨rfl, hb3⟩
                   replace hs := hs.trans (hb3.mono hs.size)
                   clear hb3)
                | skip
              refine hKK _ _ hs ?_
              clear hKK KK
              try simp only [Act.put, List.setIfInBounds_toArray, List.set_cons_zero, List.set_cons_succ]
              refine wpSched_cons ?_
              dsimp only [opsAt, List.filterMap, List.getElem?_cons_zero, List.getElem?_cons_succ]
              repeat (first
                | go_big_quiet_skip
                | (go_big_quiet_want
                   first
                     | (refine quiet_load_cell 31 (.tmp 127) rfl ⟨w.heap.size, 40, none⟩ rfl (.slice (some ⟨b1, o1, none⟩) n c) _ HO4.out.over Try.underlying31 rfl ?_
                        simp only [Act.put, List.setIfInBounds_toArray, List.set_cons_zero, List.set_cons_succ]
                        go_big_quiet_on)
                     | (refine quiet_load_mid 23 (.tmp 130) rfl b1 (o1 + (j + 1) * 2) rfl (stampCells x y) _ G1.out Try.underlying23 rfl (sizeStamp _ _) ?_
                        simp only [Act.put, List.setIfInBounds_toArray, List.set_cons_zero, List.set_cons_succ]
                        go_big_quiet_on)
                     | (refine quiet_load_mid 23 (.tmp 132) rfl w.heap.size 1 rfl (stampCells t r) _ HO4.out.at_ Try.underlying23 rfl (sizeStamp _ _) ?_
                        simp only [Act.put, List.setIfInBounds_toArray, List.set_cons_zero, List.set_cons_succ]
                        go_big_quiet_on)
                     | (go_big_quiet_op
                        refine ⟨_, fun _ _ => rfl, ?_⟩
                        go_big_quiet_on)
                     | (go_big_quiet_op
                        go_big_quiet_on)))
              refine wpQuiet_nil ?_
              intro KK hKK
              go_simp
              first
                | (refine (K2.out _).mono ?_
                   rintro e w3 ⟨rfl, hb3⟩
                   replace hs := hs.trans (hb3.mono hs.size)
                   clear hb3)
                | skip
              refine hKK _ _ hs ?_
              clear hKK KK
              try simp only [Act.put, List.setIfInBounds_toArray, List.set_cons_zero, List.set_cons_succ]
              refine wpSched_cons ?_
              dsimp only [opsAt, List.filterMap, List.getElem?_cons_zero, List.getElem?_cons_succ]
              repeat (first
                | go_big_quiet_skip
                | (go_big_quiet_want
                   first
                     | (refine quiet_load_cell 31 (.tmp 141) rfl ⟨w.heap.size, 40, none⟩ rfl (.slice (some ⟨b1, o1, none⟩) n c) _ HO4.out.over Try.underlying31 rfl ?_
                        simp only [Act.put, List.setIfInBounds_toArray, List.set_cons_zero, List.set_cons_succ]
                        go_big_quiet_on)
                     | (refine quiet_load_cell 31 (.tmp 147) rfl ⟨w.heap.size, 40, none⟩ rfl (.slice (some ⟨b1, o1, none⟩) n c) _ HO4.out.over Try.underlying31 rfl ?_
                        simp only [Act.put, List.setIfInBounds_toArray, List.set_cons_zero, List.set_cons_succ]
                        go_big_quiet_on)
                     | (refine quiet_load_mid 23 (.tmp 145) rfl b1 (o1 + j * 2) rfl (stampCells x' y') _ G2.out Try.underlying23 rfl (sizeStamp _ _) ?_
                        simp only [Act.put, List.setIfInBounds_toArray, List.set_cons_zero, List.set_cons_succ]
                        go_big_quiet_on)
                     | (refine quiet_load_mid 23 (.tmp 150) rfl b1 (o1 + (j + 1) * 2) rfl (stampCells x y) _ G1.out Try.underlying23 rfl (sizeStamp _ _) ?_
                        simp only [Act.put, List.setIfInBounds_toArray, List.set_cons_zero, List.set_cons_succ]
                        go_big_quiet_on)
                     | (go_big_quiet_op
                        refine ⟨_, fun _ _ => rfl, ?_⟩
                        go_big_quiet_on)
                     | (go_big_quiet_op
                        go_big_quiet_on)))
              refine wpQuiet_nil ?_
              intro KK hKK
              go_simp
              first
                | (refine (K3.out _).mono ?_
                   rintro e w3 ⟨rfl, hb3⟩
                   replace hs := hs.trans (hb3.mono hs.size)
                   clear hb3)
                | skip
              refine hKK _ _ hs ?_
              clear hKK KK
              try simp only [Act.put, List.setIfInBounds_toArray, List.set_cons_zero, List.set_cons_succ]
              refine wpSched_nil ?_
              dsimp only [opsAt, List.filterMap, List.getElem?_cons_zero, List.getElem?_cons_succ]
              repeat (first
                | go_big_quiet_skip
                | (go_big_quiet_want
                   first
                     | (go_big_quiet_op
                        refine ⟨_, fun _ _ => rfl, ?_⟩
                        go_big_quiet_on)
                     | (go_big_quiet_op
                        go_big_quiet_on)))
              refine wpQuiet_nil ?_
              go_wp2_with fail
            · go_ret
              exact ⟨by rw [HY.out]; rfl, HB04.out.trans (hs.mono HB04.out.size)⟩
            · go_ret
              exact ⟨by rw [HY.out]; rfl, HB04.out.trans (hs.mono HB04.out.size)⟩
            · go_ret
              exact ⟨by rw [HY.out]; rfl, HB04.out.trans (hs.mono HB04.out.size)⟩
            · go_roundw
              case rel => exact ⟨j + 1 + 1, by omega, by go_num, Lib.hid HY.out.1, Lib.hid HY.out.2, Lib.hid hs⟩
              case measure => simp [intOf]; omega
        · have hf : gb = true := by
            have h1 := hany.out
            rw [List.take_of_length_le (by have := HN.out; omega)] at h1
            rw [HF.out, h1, (incrB_iff ss).2 fun q hq => hinc.out q hq (by have := HN.out; omega)]
            rfl
          have HF2 := Lib.hid hf
          have hs := hbel.out
          clear hf hany hinc hbel
          go_wp2_with fail
          go_ret
          exact ⟨by rw [HF2.out]; rfl, HB04.out.trans (hs.mono HB04.out.size)⟩
end Go.Proofs.Ytoaboehmjfnceaa
