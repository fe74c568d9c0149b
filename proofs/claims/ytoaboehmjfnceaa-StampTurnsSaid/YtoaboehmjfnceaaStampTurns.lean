/-
  The walk of the law StampTurns.
-/
import Derived.Test.YtoaboehmjfnceaaAlive
import Derived.Test.YtoaboehmjfnceaaOpBack
import Derived.Test.YtoaboehmjfnceaaOpWf
namespace Go.Proofs.Ytoaboehmjfnceaa
open Go.RowKit
set_option linter.unusedSimpArgs false
set_option linter.unusedVariables false

theorem and_i64_le (x : Int) (m : Nat) (h : m < 2147483648) : 0 ≤ bits .and .i64 x (m : Int) ∧ bits .and .i64 x (m : Int) ≤ (m : Int) := by
  have h2 : (BitVec.ofInt 64 (m : Int)).toNat = m := by
    rw [BitVec.ofInt_natCast, BitVec.toNat_ofNat]; exact Nat.mod_eq_of_lt (by omega)
  have e : bits .and .i64 x (m : Int) = IntKind.i64.wrap ((BitVec.ofInt 64 x &&& BitVec.ofInt 64 (m : Int)).toNat : Int) := rfl
  rw [e, BitVec.toNat_and, h2]
  have h3 : (BitVec.ofInt 64 x).toNat &&& m ≤ m := Nat.and_le_right
  rw [IntWalk.i64_in _ (by omega)]
  omega
theorem put_good (k t r nt nr pt pr : Int) (s : ByteArray) (d : List UInt8) (a : Option Addr) (ss : List (Int × Int)) (c : Nat) (w : World) (hd : d.length = 32) (hm : s.size ≤ maxLen) (ha : StampsAt w a ss) (hl : ss.length ≤ 4611686018427387903) (hg : goodOpB k t r nt nr pt pr s d ss = true) :
    Calls Try.prog 22 #[.slice none 0 0, .agg (opCells k t r nt nr pt pr s d (.slice a ss.length c))] w (ReadPost w (encOp k t r nt nr pt pr s d ss)) := by
  have h := putop_any none [] 0 k t r nt nr pt pr s d a ss c w (BytesAt.nil _ _) (fun _ => rfl) (by simp) hd hm ha hl
  rw [if_pos hg, List.nil_append] at h
  exact h.mono fun _ _ h => readPost_of h
theorem put_wrong (k t r nt nr pt pr : Int) (s : ByteArray) (d : List UInt8) (a : Option Addr) (ss : List (Int × Int)) (c : Nat) (w : World) (hd : d.length = 32) (hm : s.size ≤ maxLen) (ha : StampsAt w a ss) (hl : ss.length ≤ 4611686018427387903) (hg : goodOpB k t r nt nr pt pr s d ss = false) :
    Calls Try.prog 22 #[.slice none 0 0, .agg (opCells k t r nt nr pt pr s d (.slice a ss.length c))] w (ReadPost w []) := by
  have h := putop_any none [] 0 k t r nt nr pt pr s d a ss c w (BytesAt.nil _ _) (fun _ => rfl) (by simp) hd hm ha hl
  rw [if_neg (by rw [hg]; decide)] at h
  exact h.mono fun _ _ h => readPost_of h
theorem encOp_len {k t r nt nr pt pr : Int} {s : ByteArray} {d : List UInt8} {ss : List (Int × Int)} (hd : d.length = 32) (hg : goodOpB k t r nt nr pt pr s d ss = true) : 0 < (encOp k t r nt nr pt pr s d ss).length ∧ (encOp k t r nt nr pt pr s d ss).length ≤ 2000 := by
  refine ⟨OpV.enc_pos ⟨k, t, r, nt, nr, pt, pr, s, d, ss⟩, ?_⟩
  unfold encOp encMove encEdit
  rcases good_move hg with ⟨rfl, _, _, h60⟩ | ⟨rfl, h64, _, _, _⟩
  · rw [if_pos rfl]
    have h1 := encNums_len [1]
    have h2 := encStamps_len [(t, r), (nt, nr)]
    have h3 := encStamps_len [(pt, pr)]
    have h4 := encNum_le9 (n := s.size) (by omega)
    have h5 : s.data.toList.length = s.size := Array.length_toList
    unfold encText
    simp only [List.length_append, List.length_cons, List.length_nil] at h1 h2 h3 ⊢
    omega
  · rw [if_neg (by decide)]
    have h1 := encNums_len [2]
    have h2 := encStamps_len [(t, r), (nt, nr)]
    have h3 := encNums_len [(ss.length : Int)]
    have h4 := encStamps_len ss
    simp only [List.length_append, List.length_cons, List.length_nil] at h1 h2 h3 ⊢
    omega

set_option maxRecDepth 100000 in
set_option maxHeartbeats 4000000 in
theorem stampTurns_walk (w : World) (k t r nt nr pt pr : Int) (s : ByteArray) (d : List UInt8) (a : Option Addr) (ss : List (Int × Int)) (c : Nat) (hd : d.length = 32) (hm : s.size ≤ maxLen) (ha : StampsAt w a ss) (_ : OpWf k t r nt nr pt pr ss c) (hl : ss.length ≤ 4611686018427387903)
    (k' t' r' nt' nr' pt' pr' : Int) (s' : ByteArray) (d' : List UInt8) (a' : Option Addr) (ss' : List (Int × Int)) (c' : Nat) (hd' : d'.length = 32) (hm' : s'.size ≤ maxLen) (ha' : StampsAt w a' ss') (_ : OpWf k' t' r' nt' nr' pt' pr' ss' c') (hl' : ss'.length ≤ 4611686018427387903) (at_ : Int) (_ : (Lit.int .i64 at_).wf = true) :
    Calls Try.prog 9 #[.agg (opCells k t r nt nr pt pr s d (.slice a ss.length c)), .agg (opCells k' t' r' nt' nr' pt' pr' s' d' (.slice a' ss'.length c')), .int .i64 at_] w fun e w' => e = .returned (.bool true) ∧ Below w.heap.size w w' := by
  obtain ⟨X, hX⟩ : ∃ X, X = opCells k t r nt nr pt pr s d (.slice a ss.length c) := ⟨_, rfl⟩
  obtain ⟨Y, hY⟩ : ∃ Y, Y = opCells k' t' r' nt' nr' pt' pr' s' d' (.slice a' ss'.length c') := ⟨_, rfl⟩
  obtain ⟨w1, hw1⟩ : ∃ w1, w1 = (w.alloc (.cells X 33)).alloc (.cells Y 33) := ⟨_, rfl⟩
  have hb1 : Below w.heap.size w w1 := by rw [hw1]; exact ((Below.refl _ w).alloc (Nat.le_refl _) _).alloc (by simp) _
  have hA1 : w1.heap[w.heap.size]? = some (.cells X 33 (0, 0)) := by rw [hw1, heap_alloc_old _ _ (by simp), heap_alloc_eq _ _ _ rfl]
  have hB1 : w1.heap[w.heap.size + 1]? = some (.cells Y 33 (0, 0)) := by rw [hw1, heap_alloc_eq _ _ _ (by simp)]
  have hXs : (Try.prog.info? 33).map (·.size) = some X.size := by rw [hX]; exact sizeOp _ _ _ _ _ _ _ _ _ _ hd
  have hYs : (Try.prog.info? 33).map (·.size) = some Y.size := by rw [hY]; exact sizeOp _ _ _ _ _ _ _ _ _ _ hd'
  have zA := lt_of_block hA1
  have zB := lt_of_block hB1
  have hA : ∀ W, Below w1.heap.size w1 W → W.heap[w.heap.size]? = some (.cells X 33 (0, 0)) := fun W h => by rw [h.block _ zA]; exact hA1
  have hB : ∀ W, Below w1.heap.size w1 W → W.heap[w.heap.size + 1]? = some (.cells Y 33 (0, 0)) := fun W h => by rw [h.block _ zB]; exact hB1
  have hat := fun W (h : Below w1.heap.size w1 W) => (ha.later hb1).later h
  have hat' := fun W (h : Below w1.heap.size w1 W) => (ha'.later hb1).later h
  have k1 := fun W h => goodop_any k t r nt nr pt pr s d a ss c W hd hm (hat W h) hl
  have k2 := fun W h => goodop_any k' t' r' nt' nr' pt' pr' s' d' a' ss' c' W hd' hm' (hat' W h) hl'
  rw [← hX] at k1
  rw [← hY] at k2
  obtain ⟨ga, hga⟩ : ∃ b, b = goodOpB k t r nt nr pt pr s d ss := ⟨_, rfl⟩
  obtain ⟨gb, hgb⟩ : ∃ b, b = goodOpB k' t' r' nt' nr' pt' pr' s' d' ss' := ⟨_, rfl⟩
  rw [← hga] at k1
  rw [← hgb] at k2
  rw [← hX, ← hY]
  have HA := Lib.hid hA
  have HB := Lib.hid hB
  have HXS := Lib.hid hXs
  have HYS := Lib.hid hYs
  have K1 := Lib.hid k1
  have K2 := Lib.hid k2
  have HW1 := Lib.hid hw1
  clear hw1 hA1 hB1 hXs hYs zA zB hA hB k1 k2
  cases ga
  · have k3 := fun W h => put_wrong k t r nt nr pt pr s d a ss c W hd hm (hat W h) hl hga.symm
    rw [← hX] at k3
    have K3 := Lib.hid k3
    clear hX hY hat hat' ha ha' hga hgb k3 K2 HB HYS
    go_enter Try.func9, Try.ntmps9
    go_upto_region 1 with (fail)
    change Code.wp _ _ _ _ ((w.alloc (.cells X 33)).alloc (.cells Y 33))
    rw [← HW1.out]
    have hs : Below w1.heap.size w1 w1 := Below.refl _ _
    go_wp2_with fail
    refine (alive_any _).mono ?_
    rintro e w3 ⟨rfl, hb3⟩
    replace hs := hs.trans (hb3.mono hs.size)
    clear hb3
    go_wp2_with (refine wpList_load_row rfl 33 (.tmp 3) rfl w.heap.size rfl 33 X (0, 0) _ (HA.out _ hs) Try.underlying33 rfl HXS.out ?_)
    refine (K1.out _ hs).mono ?_
    rintro e w3 ⟨rfl, hb3⟩
    replace hs := hs.trans (hb3.mono hs.size)
    clear hb3
    go_wp2_with (refine wpList_load_row rfl 33 (.tmp 3) rfl w.heap.size rfl 33 X (0, 0) _ (HA.out _ hs) Try.underlying33 rfl HXS.out ?_)
    refine (K3.out _ hs).mono ?_
    rintro e w3 ⟨a3, c3, rfl, hB3, hb3, -, -, -⟩
    replace hs := hs.trans (hb3.mono hs.size)
    clear hb3 hB3
    go_wp2_with fail
    go_ret
    exact ⟨rfl, hb1.trans (hs.mono hb1.size)⟩
  · have k3 := fun W h => put_good k t r nt nr pt pr s d a ss c W hd hm (hat W h) hl hga.symm
    have hlen := encOp_len hd hga.symm
    cases gb
    · rw [← hX] at k3
      obtain ⟨L, hL⟩ : ∃ L, L = encOp k t r nt nr pt pr s d ss := ⟨_, rfl⟩
      rw [← hL] at k3 hlen
      have hl0 : ((L.length : Int) == 0) = false := by simp; intro h; rw [h] at hlen; simp at hlen
      have K3 := Lib.hid k3
      clear hX hY hat hat' ha ha' hga hgb k3 hL hlen
      go_enter Try.func9, Try.ntmps9
      go_upto_region 1 with (fail)
      change Code.wp _ _ _ _ ((w.alloc (.cells X 33)).alloc (.cells Y 33))
      rw [← HW1.out]
      have hs : Below w1.heap.size w1 w1 := Below.refl _ _
      go_wp2_with fail
      refine (alive_any _).mono ?_
      rintro e w3 ⟨rfl, hb3⟩
      replace hs := hs.trans (hb3.mono hs.size)
      clear hb3
      go_wp2_with (refine wpList_load_row rfl 33 (.tmp 3) rfl w.heap.size rfl 33 X (0, 0) _ (HA.out _ hs) Try.underlying33 rfl HXS.out ?_)
      refine (K1.out _ hs).mono ?_
      rintro e w3 ⟨rfl, hb3⟩
      replace hs := hs.trans (hb3.mono hs.size)
      clear hb3
      go_wp2_with (refine wpList_load_row_guarded rfl 33 (.tmp 4) rfl (w.heap.size + 1) rfl 33 Y (0, 0) _ (HB.out _ hs) Try.underlying33 rfl HYS.out ?_)
      refine (K2.out _ hs).mono ?_
      rintro e w3 ⟨rfl, hb3⟩
      replace hs := hs.trans (hb3.mono hs.size)
      clear hb3
      go_wp2_with (refine wpList_load_row rfl 33 (.tmp 3) rfl w.heap.size rfl 33 X (0, 0) _ (HA.out _ hs) Try.underlying33 rfl HXS.out ?_)
      refine (K3.out _ hs).mono ?_
      rintro e w3 ⟨a3, c3, rfl, hB3, hb3, -, -, -⟩
      replace hs := hs.trans (hb3.mono hs.size)
      clear hb3 hB3
      go_wp2_with (refine wpList_load_row_guarded rfl 33 (.tmp 3) rfl w.heap.size rfl 33 X (0, 0) _ (HA.out _ hs) Try.underlying33 rfl HXS.out ?_)
      refine (K1.out _ hs).mono ?_
      rintro e w3 ⟨rfl, hb3⟩
      replace hs := hs.trans (hb3.mono hs.size)
      clear hb3
      go_wp2_with fail
      go_ret
      exact ⟨rfl, hb1.trans (hs.mono hb1.size)⟩
    · have k4 := fun W h => put_good k' t' r' nt' nr' pt' pr' s' d' a' ss' c' W hd' hm' (hat' W h) hl' hgb.symm
      have hlen' := encOp_len hd' hgb.symm
      have k5 := fun W h => sameop_any k t r nt nr pt pr s d a ss c k' t' r' nt' nr' pt' pr' s' d' a' ss' c' W hd hd' (hat W h) (hat' W h) hl
      have hsm : decide (encOp k t r nt nr pt pr s d ss = encOp k' t' r' nt' nr' pt' pr' s' d' ss') = sameOpB k t r nt nr pt pr s d ss k' t' r' nt' nr' pt' pr' s' d' ss' := enc_same ⟨k, t, r, nt, nr, pt, pr, s, d, ss⟩ ⟨k', t', r', nt', nr', pt', pr', s', d', ss'⟩ hd hd' hga.symm hgb.symm
      have hcut : ∀ m, m < (encOp k t r nt nr pt pr s d ss).length → getOp ((encOp k t r nt nr pt pr s d ss).take m) false = (.zero, [], true) := fun m hm => getOp_cut ⟨k, t, r, nt, nr, pt, pr, s, d, ss⟩ m hd hga.symm hm
      obtain ⟨L, hL⟩ : ∃ L, L = encOp k t r nt nr pt pr s d ss := ⟨_, rfl⟩
      obtain ⟨M, hM⟩ : ∃ M, M = encOp k' t' r' nt' nr' pt' pr' s' d' ss' := ⟨_, rfl⟩
      obtain ⟨sb, hsb⟩ : ∃ b, b = sameOpB k t r nt nr pt pr s d ss k' t' r' nt' nr' pt' pr' s' d' ss' := ⟨_, rfl⟩
      rw [← hX, ← hL] at k3
      rw [← hY, ← hM] at k4
      rw [← hX, ← hY, ← hsb] at k5
      rw [← hL, ← hM, ← hsb] at hsm
      rw [← hL] at hcut hlen
      rw [← hM] at hlen'
      have hl0 : ((L.length : Int) == 0) = false := by simp; intro h; rw [h] at hlen; simp at hlen
      have ebb : (sb != sb) = false := by cases sb <;> rfl
      have hand := and_i64_le at_ 1048575 (by omega)
      obtain ⟨q, hq⟩ : ∃ q : Nat, bits .and .i64 at_ 1048575 = (q : Int) := ⟨(bits .and .i64 at_ 1048575).toNat, by have := hand.1; have e : ((1048575 : Nat) : Int) = 1048575 := rfl; rw [e] at this; omega⟩
      have hq2 : q ≤ 1048575 := by have := hand.2; have e : ((1048575 : Nat) : Int) = 1048575 := rfl; rw [e, hq] at this; omega
      have HQ := Lib.hid hq
      have K3 := Lib.hid k3
      have K4 := Lib.hid k4
      have K5 := Lib.hid k5
      have HSM := Lib.hid hsm
      have HCUT := Lib.hid hcut
      clear hX hY hat hat' ha ha' hga hgb k3 k4 k5 hL hM hsb hsm hcut hand hq
      go_enter Try.func9, Try.ntmps9
      go_upto_region 1 with (fail)
      change Code.wp _ _ _ _ ((w.alloc (.cells X 33)).alloc (.cells Y 33))
      rw [← HW1.out]
      have hs : Below w1.heap.size w1 w1 := Below.refl _ _
      go_wp2_with fail
      refine (alive_any _).mono ?_
      rintro e w3 ⟨rfl, hb3⟩
      replace hs := hs.trans (hb3.mono hs.size)
      clear hb3
      go_wp2_with (refine wpList_load_row rfl 33 (.tmp 3) rfl w.heap.size rfl 33 X (0, 0) _ (HA.out _ hs) Try.underlying33 rfl HXS.out ?_)
      refine (K1.out _ hs).mono ?_
      rintro e w3 ⟨rfl, hb3⟩
      replace hs := hs.trans (hb3.mono hs.size)
      clear hb3
      go_wp2_with (refine wpList_load_row_guarded rfl 33 (.tmp 4) rfl (w.heap.size + 1) rfl 33 Y (0, 0) _ (HB.out _ hs) Try.underlying33 rfl HYS.out ?_)
      refine (K2.out _ hs).mono ?_
      rintro e w3 ⟨rfl, hb3⟩
      replace hs := hs.trans (hb3.mono hs.size)
      clear hb3
      go_upto_region 5 with (fail)
      refine wp_region_sched (fun W => Below w1.heap.size w1 W) [([0, 2], 1), ([], 3)] [4, 5] (by kernel_rfl) (by kernel_rfl) (fun _ _ d _ _ h => by cases d <;> exact h) (by kernel_rfl) (of_decide_eq_true (by kernel_rfl)) hs.drew ?_
      replace hs := hs.drew
      refine wpSched_cons ?_
      dsimp only [opsAt, List.filterMap, List.getElem?_cons_zero, List.getElem?_cons_succ]
      repeat (first
        | go_big_quiet_skip
        | (go_big_quiet_want
           first
             | (refine quiet_load_row' 33 (.tmp 3) rfl w.heap.size rfl 33 X (0, 0) _ HA.out Try.underlying33 rfl HXS.out ?_
                simp only [Act.put, List.setIfInBounds_toArray, List.set_cons_zero, List.set_cons_succ]
                go_big_quiet_on)
             | (refine quiet_load_row' 33 (.tmp 4) rfl (w.heap.size + 1) rfl 33 Y (0, 0) _ HB.out Try.underlying33 rfl HYS.out ?_
                simp only [Act.put, List.setIfInBounds_toArray, List.set_cons_zero, List.set_cons_succ]
                go_big_quiet_on)
             | (go_big_quiet_op
                refine ⟨_, fun _ _ => rfl, ?_⟩
                go_big_quiet_on)
             | (go_big_quiet_op
                go_big_quiet_on)))
      refine wpQuiet_nil ?_
      intro KK hKK
      go_simp
      refine (K3.out _ hs).mono ?_
      rintro e w5 ⟨a3, c3, rfl, hB3, hb3, -, hc3, hm3⟩
      replace hs := hs.trans (hb3.mono hs.size)
      clear hb3
      refine hKK _ _ hs ?_
      clear hKK KK
      try simp only [Act.put, List.setIfInBounds_toArray, List.set_cons_zero, List.set_cons_succ]
      refine wpSched_cons ?_
      dsimp only [opsAt, List.filterMap, List.getElem?_cons_zero, List.getElem?_cons_succ]
      repeat (first
        | go_big_quiet_skip
        | (go_big_quiet_want
           first
             | (go_big_quiet_op
                refine ⟨_, fun _ _ => rfl, ?_⟩
                go_big_quiet_on)
             | (go_big_quiet_op
                go_big_quiet_on)))
      refine wpQuiet_nil ?_
      intro KK hKK
      go_simp
      refine (K4.out _ hs).mono ?_
      rintro e w6 ⟨a4, c4, rfl, hB4, hb4, -, -, -⟩
      replace hs := hs.trans (hb4.mono hs.size)
      replace hB3 := hB3.later hb4
      clear hb4
      refine hKK _ _ hs ?_
      clear hKK KK
      try simp only [Act.put, List.setIfInBounds_toArray, List.set_cons_zero, List.set_cons_succ]
      refine wpSched_nil ?_
      dsimp only [opsAt, List.filterMap, List.getElem?_cons_zero, List.getElem?_cons_succ]
      repeat (first
        | go_big_quiet_skip
        | (go_big_quiet_want
           first
             | (go_big_quiet_op
                refine ⟨_, fun _ _ => rfl, ?_⟩
                go_big_quiet_on)
             | (go_big_quiet_op
                go_big_quiet_on)))
      refine wpQuiet_nil ?_
      have hsub : ∀ W, Below w6.heap.size w6 W → Below w1.heap.size w1 W := fun W h => hs.trans (h.mono hs.size)
      have HA6 := Lib.hid (fun W h => HA.out W (hsub W h))
      have HB6 := Lib.hid (fun W h => HB.out W (hsub W h))
      have K56 := Lib.hid (fun W h => K5.out W (hsub W h))
      have k6 := fun W (h : Below w6.heap.size w6 W) => same_any a3 a4 L M c3 c4 W (hB3.later h) (hB4.later h) (by omega) (by omega)
      rw [HSM.out] at k6
      have K6 := Lib.hid k6
      have hb16 := Lib.hid hs
      have HB3 := Lib.hid hB3
      have hs : Below w6.heap.size w6 w6.drew := (Below.refl _ _).drew
      clear hsub k6 hB3 hB4 HA HB K1 K2 K3 K4 K5 HSM
      go_upto_region 6 with (fail)
      refine wp_region_sched (fun W => Below w6.heap.size w6 W) [([0, 1, 3, 4], 2), ([], 5), ([6, 7, 8], 9)] [10, 11] (by kernel_rfl) (by kernel_rfl) (fun _ _ d _ _ h => by cases d <;> exact h) (by kernel_rfl) (of_decide_eq_true (by kernel_rfl)) hs ?_
      refine wpSched_cons ?_
      dsimp only [opsAt, List.filterMap, List.getElem?_cons_zero, List.getElem?_cons_succ]
      repeat (first
        | go_big_quiet_skip
        | (go_big_quiet_want
           first
             | (refine quiet_load_row' 33 (.tmp 3) rfl w.heap.size rfl 33 X (0, 0) _ HA6.out Try.underlying33 rfl HXS.out ?_
                simp only [Act.put, List.setIfInBounds_toArray, List.set_cons_zero, List.set_cons_succ]
                go_big_quiet_on)
             | (refine quiet_load_row' 33 (.tmp 4) rfl (w.heap.size + 1) rfl 33 Y (0, 0) _ HB6.out Try.underlying33 rfl HYS.out ?_
                simp only [Act.put, List.setIfInBounds_toArray, List.set_cons_zero, List.set_cons_succ]
                go_big_quiet_on)
             | (go_big_quiet_op
                refine ⟨_, fun _ _ => rfl, ?_⟩
                go_big_quiet_on)
             | (go_big_quiet_op
                go_big_quiet_on)))
      refine wpQuiet_nil ?_
      intro KK hKK
      go_simp
      first
        | (refine (K6.out _ hs).mono ?_
           rintro e w3 ⟨rfl, hb3⟩
           replace hs := hs.trans (hb3.mono hs.size)
           clear hb3)
        | skip
      refine hKK _ _ hs ?_
      clear hKK KK
      try simp only [Act.put, List.setIfInBounds_toArray, List.set_cons_zero, List.set_cons_succ]
      refine wpSched_cons ?_
      dsimp only [opsAt, List.filterMap, List.getElem?_cons_zero, List.getElem?_cons_succ]
      repeat (first
        | go_big_quiet_skip
        | (go_big_quiet_want
           first
             | (go_big_quiet_op
                refine ⟨_, fun _ _ => rfl, ?_⟩
                go_big_quiet_on)
             | (go_big_quiet_op
                go_big_quiet_on)))
      refine wpQuiet_nil ?_
      intro KK hKK
      go_simp
      first
        | (refine (K56.out _ hs).mono ?_
           rintro e w3 ⟨rfl, hb3⟩
           replace hs := hs.trans (hb3.mono hs.size)
           clear hb3)
        | skip
      refine hKK _ _ hs ?_
      clear hKK KK
      try simp only [Act.put, List.setIfInBounds_toArray, List.set_cons_zero, List.set_cons_succ]
      refine wpSched_cons ?_
      dsimp only [opsAt, List.filterMap, List.getElem?_cons_zero, List.getElem?_cons_succ]
      repeat (first
        | go_big_quiet_skip
        | (go_big_quiet_want
           first
             | (go_big_quiet_op
                refine ⟨_, fun _ _ => rfl, ?_⟩
                go_big_quiet_on)
             | (go_big_quiet_op
                go_big_quiet_on)))
      refine wpQuiet_nil ?_
      intro KK hKK
      go_simp
      refine hKK _ _ hs ?_
      clear hKK KK
      try simp only [Act.put, List.setIfInBounds_toArray, List.set_cons_zero, List.set_cons_succ]
      refine wpSched_nil ?_
      dsimp only [opsAt, List.filterMap, List.getElem?_cons_zero, List.getElem?_cons_succ]
      repeat (first
        | go_big_quiet_skip
        | (go_big_quiet_want
           first
             | (go_big_quiet_op
                refine ⟨_, fun _ _ => rfl, ?_⟩
                go_big_quiet_on)
             | (go_big_quiet_op
                go_big_quiet_on)))
      refine wpQuiet_nil ?_
      have hBL := HB3.out.later hs
      obtain ⟨b, off, rfl⟩ := hBL.addr hlen.1
      obtain ⟨n, hn⟩ : ∃ n, n = L.length := ⟨_, rfl⟩
      rw [← hn] at hl0 hlen hc3 ⊢
      obtain ⟨m, hm⟩ : ∃ m, m = q % n := ⟨_, rfl⟩
      have hmn : m < n := by rw [hm]; exact Nat.mod_lt _ (by omega)
      have hqm : (q : Int) % (n : Int) = (m : Int) := by rw [hm]; omega
      have hq := HQ.out
      have hlm : m = (L.take m).length := by rw [List.length_take, ← hn, Nat.min_eq_left (by omega)]
      have hrd := fun W h => read_any (some ⟨b, off, none⟩) (L.take m) c3 W (BytesAt.take h m) (by rw [← hlm]; omega)
      rw [← hlm] at hrd
      have hz := HCUT.out m (by rw [← hn]; exact hmn)
      have HRD := Lib.hid hrd
      have HBL := Lib.hid hBL
      have HZ := Lib.hid hz
      have hmc : m ≤ c3 := by omega
      clear HB3 K6 K56 HA6 HB6 hn hm hlm hrd hz hBL HCUT
      go_wp2_with fail
      refine (HRD.out _ HBL.out).mono ?_
      rintro e w7 ⟨R, Q, rfl, hRw, hr, hb7⟩
      have hs7 := hs.trans (hb7.mono hs.size)
      have hget := getop_t R Q (L.take m) false w7 hr
      rw [HZ.out] at hget
      have HGET := Lib.hid hget
      have HS7 := Lib.hid hs7
      have hR6 : w6.heap.size ≤ R := Nat.le_trans hs.size hRw
      clear hget hs7 hb7 hr hRw hs hq hqm
      go_wp2_with fail
      refine HGET.out.mono ?_
      rintro e w8 ⟨a8, c8, rfl, hat8, hr8, hg8⟩
      have hs8 := below_grownBy (Nat.le_refl _) HS7.out hg8 hR6
      obtain ⟨Z, hZ⟩ : ∃ Z, Z = OpV.cells .zero (.slice a8 OpV.zero.ss.length c8) := ⟨_, rfl⟩
      rw [← hZ]
      have hZs : (Try.prog.info? 33).map (·.size) = some Z.size := by rw [hZ]; exact sizeOp _ _ _ _ _ _ _ _ _ _ rfl
      have hZ1 : Z.all (·.oneCell') = true := by rw [hZ]; exact opCells_one _ _ _ _ _ _ _ _ _ _ _ _
      have hZz : zopLit.size = Z.size := by
        have h1 := opCells_size 0 0 0 0 0 0 0 ⟨#[]⟩ id0 (.slice a8 0 c8) rfl
        rw [hZ]
        exact h1.symm
      have kz : ∀ W, Calls Try.prog 20 #[.agg Z, .agg zopLit] W fun e w' => e = .returned (.bool true) ∧ Below W.heap.size W w' := fun W => by
        have h := sameop_any 0 0 0 0 0 0 0 ⟨#[]⟩ id0 a8 [] c8 0 0 0 0 0 0 0 ⟨#[]⟩ id0 none [] 0 W rfl rfl (fun i hi => absurd hi (by simp)) (fun i hi => absurd hi (by simp)) (by simp)
        rw [sameOpB_refl] at h
        rw [hZ, zopLit_eq]
        exact h
      obtain ⟨w9, hw9⟩ : ∃ w9, w9 = (w8.alloc zopObj).setRow w8.heap.size Z := ⟨_, rfl⟩
      have hnew : (w8.alloc zopObj).heap[w8.heap.size]? = some (.cells zopLit 33 (0, 0)) := heap_alloc_new w8 zopObj
      have hZ9 : w9.heap[w8.heap.size]? = some (.cells Z 33 (0, 0)) := by rw [hw9]; exact setRow_heap _ _ _ _ _ _ hnew
      have hb9 : Below w8.heap.size w8 w9 := by
        rw [hw9]
        exact below_grownBy (Nat.le_refl _) ((Below.refl _ w8).alloc (Nat.le_refl _) zopObj) (setRow_grown _ _ _) (Nat.le_refl _)
      have hr9 := hr8.later hb9
      have hs9 := hs8.trans (hb9.mono hs8.size)
      have HZS := Lib.hid hZs
      have HZ1 := Lib.hid hZ1
      have HZZ := Lib.hid hZz
      have KZ := Lib.hid kz
      have HNW := Lib.hid hnew
      have HZ9 := Lib.hid hZ9
      have HR9 := Lib.hid hr9
      have HS9 := Lib.hid hs9
      have HW9 := Lib.hid hw9
      clear hZs hZ1 hZz kz hnew hZ9 hr9 hs9 hb9 hw9 hZ hat8 hr8 hg8 hs8
      go_upto_region 10 with (refine wpList_store_row rfl 33 (.tmp 10) (.tmp 54) rfl w8.heap.size Z rfl rfl 33 zopLit HNW.out HZS.out HZZ.out HZ1.out ?_)
      change Code.wp _ _ _ _ ((w8.alloc zopObj).setRow w8.heap.size Z)
      rw [← HW9.out]
      clear HW9 HNW
      go_wp2_with fail
      refine (good_any R Q [] true w9 HR9.out).mono ?_
      rintro e w10 ⟨rfl, rfl⟩
      go_wp2_with (refine wpList_load_row_guarded rfl 33 (.tmp 10) rfl w8.heap.size rfl 33 Z (0, 0) _ HZ9.out Try.underlying33 rfl HZS.out ?_)
      refine (KZ.out _).mono ?_
      rintro e w10 ⟨rfl, hb10⟩
      have hs10 := HS9.out.trans (hb10.mono HS9.out.size)
      clear hb10
      go_wp2_with fail
      go_ret
      have h16 := hb16.out
      have h06 := hb1.trans (h16.mono hb1.size)
      exact ⟨rfl, h06.trans (hs10.mono h06.size)⟩
end Go.Proofs.Ytoaboehmjfnceaa
