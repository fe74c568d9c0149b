/-
  The walk of the law StampWrites.
-/
import Derived.Test.YtoaboehmjfnceaaAlive
import Derived.Test.YtoaboehmjfnceaaRefPut
import Derived.Test.YtoaboehmjfnceaaOpenOp
namespace Go.Proofs.Ytoaboehmjfnceaa
open Go.RowKit
set_option linter.unusedSimpArgs false
set_option linter.unusedVariables false

set_option maxRecDepth 100000 in
set_option maxHeartbeats 4000000 in
theorem stampWrites_any (a0 : Option Addr) (l : List UInt8) (cap0 : Nat) (k t r nt nr pt pr : Int) (s : ByteArray) (d : List UInt8) (a : Option Addr) (ss : List (Int × Int)) (c : Nat) (w : World) (hb : BytesAt w a0 l) (hn0 : a0 = none → cap0 = 0) (hl0 : l.length ≤ 140737488351232) (hd : d.length = 32) (hm : s.size ≤ maxLen) (ha : StampsAt w a ss) (hl : ss.length ≤ 4611686018427387903) :
    Calls Try.prog 5 #[.slice a0 l.length cap0, .agg (opCells k t r nt nr pt pr s d (.slice a ss.length c))] w fun e w' => e = .returned (.bool true) ∧ Below w.heap.size w w' := by
  obtain ⟨X, hX⟩ : ∃ X, X = opCells k t r nt nr pt pr s d (.slice a ss.length c) := ⟨_, rfl⟩
  obtain ⟨w1, hw1⟩ : ∃ w1, w1 = w.alloc (.cells X 33) := ⟨_, rfl⟩
  have hb1 : Below w.heap.size w w1 := by rw [hw1]; exact (Below.refl _ w).alloc (Nat.le_refl _) _
  have hA1 : w1.heap[w.heap.size]? = some (.cells X 33 (0, 0)) := by rw [hw1]; exact heap_alloc_new _ _
  have hXs : (Try.prog.info? 33).map (·.size) = some X.size := by rw [hX]; exact sizeOp _ _ _ _ _ _ _ _ _ _ hd
  have zA := lt_of_block hA1
  have hA : ∀ W, Below w1.heap.size w1 W → W.heap[w.heap.size]? = some (.cells X 33 (0, 0)) := fun W h => by rw [h.block _ zA]; exact hA1
  have hat := fun W (h : Below w1.heap.size w1 W) => (ha.later hb1).later h
  have hbt := fun W (h : Below w1.heap.size w1 W) => (hb.later hb1).later h
  obtain ⟨gb, hgb⟩ : ∃ b, b = goodOpB k t r nt nr pt pr s d ss := ⟨_, rfl⟩
  have k1 := fun W h => goodop_any k t r nt nr pt pr s d a ss c W hd hm (hat W h) hl
  have k2 := fun W h => (putop_any a0 l cap0 k t r nt nr pt pr s d a ss c W (hbt W h) hn0 (by omega) hd hm (hat W h) hl).mono fun _ _ h => readPost_of h
  have k3 := fun W h => refput_any k t r nt nr pt pr s d a ss c W hd hm (hat W h) hl
  rw [← hgb, ← hX] at k1 k2 k3
  have hEl : (if gb = true then encOp k t r nt nr pt pr s d ss else []).length ≤ 2000 := by
    cases gb
    · rw [if_neg (by decide)]; simp
    · rw [if_pos rfl]; exact (encOp_len hd hgb.symm).2
  obtain ⟨E, hE⟩ : ∃ E, E = (if gb = true then encOp k t r nt nr pt pr s d ss else []) := ⟨_, rfl⟩
  obtain ⟨M, hM⟩ : ∃ M, M = l ++ E := ⟨_, rfl⟩
  have hM2 : (if gb = true then l ++ encOp k t r nt nr pt pr s d ss else l) = M := by
    rw [hM, hE]
    cases gb
    · rw [if_neg (by decide), if_neg (by decide), List.append_nil]
    · rw [if_pos rfl, if_pos rfl]
  rw [hM2] at k2
  rw [← hE] at k3 hEl
  have k4 := join_named hM (by rw [hM, List.length_append]; omega)
  have hMl : M.length = l.length + E.length := by rw [hM, List.length_append]
  have hgood : gb = true → (getOp E false = (⟨k, t, r, nt, nr, pt, pr, s, d, ss⟩, [], false) ∧ 0 < E.length) := fun h => by
    subst h
    rw [if_pos rfl] at hE
    have h1 := getOp_enc ⟨k, t, r, nt, nr, pt, pr, s, d, ss⟩ [] hd hgb.symm
    rw [List.append_nil] at h1
    rw [hE]
    exact ⟨h1, (encOp_len hd hgb.symm).1⟩
  have hbad : gb = false → E.length = 0 := fun h => by
    subst h
    rw [if_neg (by decide)] at hE
    rw [hE]; rfl
  have hdrop : M.drop l.length = E := by rw [hM, List.drop_left]
  have ksame := fun a' c' W (h1 : StampsAt W a' ss) (h2 : StampsAt W a ss) => sameop_any k t r nt nr pt pr s d a' ss c' k t r nt nr pt pr s d a ss c W hd hd h1 h2 hl
  rw [sameOpB_refl, ← hX] at ksame
  obtain ⟨n, hn⟩ : ∃ n, n = l.length := ⟨_, rfl⟩
  rw [← hn] at k2 k4 hMl hdrop hl0
  rw [← hX, ← hn]
  have HA := Lib.hid hA
  have HXS := Lib.hid hXs
  have K1 := Lib.hid k1
  have K2 := Lib.hid k2
  have K3 := Lib.hid k3
  have K4 := Lib.hid k4
  have KS := Lib.hid ksame
  have HW1 := Lib.hid hw1
  have HAT := Lib.hid hat
  have HBT := Lib.hid hbt
  have HGO := Lib.hid hgood
  have HBA := Lib.hid hbad
  have HDR := Lib.hid hdrop
  have hnM : n ≤ M.length := by omega
  obtain ⟨N, hN⟩ : ∃ N, N = M.length := ⟨_, rfl⟩
  obtain ⟨m, hm2⟩ : ∃ m, m = E.length := ⟨_, rfl⟩
  have HN := Lib.hid hN
  have HM2 := Lib.hid hm2
  have hNM : N = n + m := by omega
  have HNM := Lib.hid hNM
  have hm2000 : m ≤ 2000 := by omega
  clear hw1 hA1 hXs zA hA hat hbt hb ha hgb k1 k2 k3 k4 ksame hgood hbad hdrop hE hM hM2 hX hn hn0 hEl hMl hN hm2 hNM hnM
  go_enter Try.func5, Try.ntmps5
  go_upto_region 1 with (fail)
  change Code.wp _ _ _ _ (w.alloc (.cells X 33))
  rw [← HW1.out]
  have hs : Below w1.heap.size w1 w1 := Below.refl _ _
  go_wp2_with fail
  refine (alive_any _).mono ?_
  rintro e w3 ⟨rfl, hb3⟩
  replace hs := hs.trans (hb3.mono hs.size)
  clear hb3
  go_wp2_with (refine wpList_load_row rfl 33 (.tmp 3) rfl w.heap.size rfl 33 X (0, 0) _ (HA.out _ hs) Try.underlying33 rfl HXS.out ?_)
  refine (K2.out _ hs).mono ?_
  rintro e w4 ⟨a1, c1, rfl, hB1, hb4, -, hc1, hd1⟩
  replace hs := hs.trans (hb4.mono hs.size)
  clear hb4
  go_wp2_with (refine wpList_load_row rfl 33 (.tmp 3) rfl w.heap.size rfl 33 X (0, 0) _ (HA.out _ hs) Try.underlying33 rfl HXS.out ?_)
  refine (K3.out _ hs).mono ?_
  rintro e w5 ⟨a2, c2, rfl, hB2, hb5, -, -, -⟩
  replace hs := hs.trans (hb5.mono hs.size)
  replace hB1 := hB1.later hb5
  clear hb5
  go_wp2_with fail
  refine (K4.out a0 a2 cap0 c2 _ (HBT.out _ hs) hB2).mono ?_
  rintro e w6 ⟨a3, c3, rfl, hB3, hb6, -, -, -⟩
  replace hs := hs.trans (hb6.mono hs.size)
  replace hB1 := hB1.later hb6
  clear hb6 hB2
  have hsm := same_any a1 a3 M M c1 c3 w6 hB1 hB3 (by have := HN.out; have := HNM.out; omega) (by have := HN.out; have := HNM.out; omega)
  rw [decide_eq_true (rfl : M = M)] at hsm
  have HSM := Lib.hid hsm
  clear hsm
  go_wp2_with fail
  refine HSM.out.mono ?_
  rintro e w7 ⟨rfl, hb7⟩
  replace hs := hs.trans (hb7.mono hs.size)
  replace hB1 := hB1.later hb7
  clear hb7 hB3 HSM K2 K3 K4
  rw [← HN.out] at hc1 ⊢
  cases gb
  · have hm0 : m = 0 := by rw [HM2.out]; exact HBA.out rfl
    have hNn : N = n := by have := HNM.out; omega
    subst hNn
    have HS := Lib.hid hs
    clear hm0
    go_wp2_with (refine wpList_load_row rfl 33 (.tmp 3) rfl w.heap.size rfl 33 X (0, 0) _ (HA.out _ HS.out) Try.underlying33 rfl HXS.out ?_)
    refine (K1.out _ HS.out).mono ?_
    rintro e w8 ⟨rfl, hb8⟩
    have hs8 := HS.out.trans (hb8.mono HS.out.size)
    clear hb8
    go_wp2_with fail
    go_ret
    exact ⟨rfl, hb1.trans (hs8.mono hb1.size)⟩
  · obtain ⟨hgo, hEp⟩ := HGO.out rfl
    have hm1 : 0 < m := by rw [HM2.out]; exact hEp
    obtain ⟨b, off, rfl⟩ := hB1.addr (by have := HN.out; have := HNM.out; omega)
    have hB4 := BytesAt.drop' hB1 n
    rw [HDR.out] at hB4
    have hnN : n ≤ N := by have := HNM.out; omega
    have hcn : ((c1 : Int) == (n : Int)) = false := by simp; have := HNM.out; omega
    have hcn2 : ¬ c1 = n := by have := HNM.out; omega
    have hmN : N - n = m := by have := HNM.out; omega
    have hrd := fun W h => read_any (some ⟨b, off + n, none⟩) E (c1 - n) W h (by have := HM2.out; omega)
    rw [← HM2.out, ← hmN] at hrd
    have HRD := Lib.hid hrd
    have HB4 := Lib.hid hB4
    have HS := Lib.hid hs
    have HGO2 := Lib.hid hgo
    clear hrd hB4 hB1 hs hmN hgo hEp
    go_wp2_with (refine wpList_load_row rfl 33 (.tmp 3) rfl w.heap.size rfl 33 X (0, 0) _ (HA.out _ HS.out) Try.underlying33 rfl HXS.out ?_)
    refine (K1.out _ HS.out).mono ?_
    rintro e w8 ⟨rfl, hb8⟩
    have hs8 := HS.out.trans (hb8.mono HS.out.size)
    have HB8 := Lib.hid (HB4.out.later hb8)
    have HS8 := Lib.hid hs8
    clear hb8 hs8 HB4 HS
    go_wp2_with fail
    refine (HRD.out w8 HB8.out).mono ?_
    rintro e w9 ⟨R, Q, rfl, hRw, hr, hb9⟩
    have hs := (HS8.out.trans (hb9.mono HS8.out.size)).drew
    have hR1 : w1.heap.size ≤ R := Nat.le_trans HS8.out.size hRw
    have hr9 := hr.later (Below.refl _ w9).drew
    have hget : Calls Try.prog 27 #[.pointer (some ⟨R, 0, none⟩)] w9.drew fun e w' => ∃ a8 c8, e = .returned (.agg (opCells k t r nt nr pt pr s d (.slice a8 ss.length c8))) ∧ StampsAt w' a8 ss ∧ Reads w' R Q [] false ∧ w9.drew.grownBy w' (some R) := by
      have h := getop_t R Q E false w9.drew hr9
      rw [HGO2.out] at h
      exact h
    have HGET := Lib.hid hget
    clear hget hr9 hr hRw hb9 HS8 HB8 HRD hcn hcn2
    go_upto_region 9 with (fail)
    refine wp_region_sched (fun W => Below w1.heap.size w1 W) [([0, 2], 1), ([], 3), ([4, 5], 6)] [7, 8] (by kernel_rfl) (by kernel_rfl) (fun _ _ d _ _ h => by cases d <;> exact h) (by kernel_rfl) (of_decide_eq_true (by kernel_rfl)) hs ?_
    refine wpSched_cons ?_
    dsimp only [opsAt, List.filterMap, List.getElem?_cons_zero, List.getElem?_cons_succ]
    repeat (first
      | go_big_quiet_skip
      | (go_big_quiet_want
         first
           | (refine quiet_load_row' 33 (.tmp 3) rfl w.heap.size rfl 33 X (0, 0) _ HA.out Try.underlying33 rfl HXS.out ?_
              simp only [Act.put, List.setIfInBounds_toArray, List.set_cons_zero, List.set_cons_succ]
              go_big_quiet_on)
           | (go_big_quiet_op
              refine ⟨_, fun _ _ => rfl, ?_⟩
              go_big_quiet_on)
           | (go_big_quiet_op
              go_big_quiet_on)))
    refine wpQuiet_nil ?_
    intro KK hKK
    go_simp
    refine (HGET.out).mono ?_
    rintro e w10 ⟨a8, c8, rfl, hat8, hr8, hg8⟩
    replace hs := below_grownBy (Nat.le_refl _) hs hg8 hR1
    have ks := KS.out a8 c8 w10 hat8 (HAT.out _ hs)
    obtain ⟨Y, hY⟩ : ∃ Y, Y = opCells k t r nt nr pt pr s d (.slice a8 ss.length c8) := ⟨_, rfl⟩
    rw [← hY] at ks ⊢
    clear hg8 hY hat8
    refine hKK _ _ hs ?_
    clear hKK KK
    try simp only [Act.put, List.setIfInBounds_toArray, List.set_cons_zero, List.set_cons_succ]
    refine wpSched_cons ?_
    dsimp only [opsAt, List.filterMap, List.getElem?_cons_zero, List.getElem?_cons_succ]
    repeat (first
      | go_big_quiet_skip
      | (go_big_quiet_want
         first
           | (go_big_quiet_op
              refine ⟨_, fun _ _ => rfl, ?_⟩
              go_big_quiet_on)
           | (go_big_quiet_op
              go_big_quiet_on)))
    refine wpQuiet_nil ?_
    intro KK hKK
    go_simp
    refine (ks).mono ?_
    rintro e w11 ⟨rfl, hb11⟩
    replace hs := hs.trans (hb11.mono hs.size)
    replace hr8 := hr8.later hb11
    have hdn := done_any R Q [] false w11 hr8
    rw [show (!false && ([] : List UInt8).isEmpty) = true from rfl] at hdn
    clear hb11 ks
    refine hKK _ _ hs ?_
    clear hKK KK
    try simp only [Act.put, List.setIfInBounds_toArray, List.set_cons_zero, List.set_cons_succ]
    refine wpSched_cons ?_
    dsimp only [opsAt, List.filterMap, List.getElem?_cons_zero, List.getElem?_cons_succ]
    repeat (first
      | go_big_quiet_skip
      | (go_big_quiet_want
         first
           | (go_big_quiet_op
              refine ⟨_, fun _ _ => rfl, ?_⟩
              go_big_quiet_on)
           | (go_big_quiet_op
              go_big_quiet_on)))
    refine wpQuiet_nil ?_
    intro KK hKK
    go_simp
    refine (hdn).mono ?_
    rintro e w12 ⟨rfl, rfl⟩
    clear hdn hr8
    refine hKK _ _ hs ?_
    clear hKK KK
    try simp only [Act.put, List.setIfInBounds_toArray, List.set_cons_zero, List.set_cons_succ]
    refine wpSched_nil ?_
    dsimp only [opsAt, List.filterMap, List.getElem?_cons_zero, List.getElem?_cons_succ]
    repeat (first
      | go_big_quiet_skip
      | (go_big_quiet_want
         first
           | (go_big_quiet_op
              refine ⟨_, fun _ _ => rfl, ?_⟩
              go_big_quiet_on)
           | (go_big_quiet_op
              go_big_quiet_on)))
    refine wpQuiet_nil ?_
    go_wp2_with fail
    go_ret
    exact ⟨rfl, hb1.trans (hs.mono hb1.size)⟩

theorem stampWrites_walk (w : World) (a0 : Option Addr) (len0 cap0 : Nat) (z0 : List Int) (w0 : IsRow .u8 w a0 len0 cap0 z0) (hr : cap0 * 1 ≤ 140737488351232) (k t r nt nr pt pr : Int) (s : ByteArray) (d : List UInt8) (a : Option Addr) (ss : List (Int × Int)) (c : Nat) (hd : d.length = 32) (hm : s.size ≤ maxLen) (ha : StampsAt w a ss) (_ : OpWf k t r nt nr pt pr ss c) (hl : ss.length ≤ 4611686018427387903) :
    Calls Try.prog 5 #[.slice a0 len0 cap0, .agg (opCells k t r nt nr pt pr s d (.slice a ss.length c))] w fun e w' => e = .returned (.bool true) ∧ Below w.heap.size w w' := by
  obtain ⟨l, rfl, hlc, _, hb⟩ := w0.bytes
  have hn : a0 = none → cap0 = 0 := fun e => by
    rcases w0 with ⟨_, _, h, _⟩ | ⟨x, h, _⟩
    · exact h
    · rw [h] at e; cases e
  exact stampWrites_any a0 l cap0 k t r nt nr pt pr s d a ss c w hb hn (by omega) hd hm ha hl
end Go.Proofs.Ytoaboehmjfnceaa
