/-
  The walks of the reference's Stamp and Put.
-/
import Derived.Test.YtoaboehmjfnceaaRefGood
import Derived.Test.YtoaboehmjfnceaaRefText
import Derived.Test.YtoaboehmjfnceaaOpBack
import Derived.Test.YtoaboehmjfnceaaPair
namespace Go.Proofs.Ytoaboehmjfnceaa
open Go.RowKit
set_option linter.unusedSimpArgs false
set_option linter.unusedVariables false

/-- A stamp's bytes. -/
def encStamp (t r : Int) : List UInt8 := encNum (clampN t) ++ encNum (clampN r)
theorem encStamp_len (t r : Int) : (encStamp t r).length ≤ 18 := by
  unfold encStamp
  rw [List.length_append]
  have h1 := encNum_le9 (clampN_le t)
  have h2 := encNum_le9 (clampN_le r)
  omega

set_option maxRecDepth 100000 in
set_option maxHeartbeats 1000000 in
theorem refstamp_any (t r : Int) (w : World) : Calls Try.prog 50 #[.agg (stampCells t r)] w (ReadPost w (encStamp t r)) := by
  unfold ReadPost
  obtain ⟨w1, hw1⟩ : ∃ w1, w1 = w.alloc (.cells (stampCells t r) 23) := ⟨_, rfl⟩
  have hb1 : Below w.heap.size w w1 := by rw [hw1]; exact (Below.refl _ w).alloc (Nat.le_refl _) _
  have hA : w1.heap[w.heap.size]? = some (.cells (stampCells t r) 23 (0, 0)) := by rw [hw1]; exact heap_alloc_new _ _
  have hz1 := lt_of_block hA
  have v1 := Lib.hid (show ∀ W, Below w1.heap.size w1 W → W.cell? ⟨w.heap.size, 0, none⟩ = some (.int .i64 t) from fun W h => cell_of_block (by rw [h.block _ hz1]; exact hA))
  have v2 := Lib.hid (show ∀ W, Below w1.heap.size w1 W → W.cell? ⟨w.heap.size, 1, none⟩ = some (.int .i64 r) from fun W h => cell_of_block (by rw [h.block _ hz1]; exact hA))
  have k1 := fun W => refnum_read t W
  have k2 := fun W => refnum_read r W
  have l1 := encNum_le9 (clampN_le t)
  have l2 := encNum_le9 (clampN_le r)
  obtain ⟨E, hE⟩ : ∃ E, E = encNum (clampN t) := ⟨_, rfl⟩
  obtain ⟨F, hF⟩ : ∃ F, F = encNum (clampN r) := ⟨_, rfl⟩
  obtain ⟨J, hJ⟩ : ∃ J, J = encStamp t r := ⟨_, rfl⟩
  have hJ2 : J = E ++ F := by rw [hJ, hE, hF]; rfl
  rw [← hE] at k1 l1
  rw [← hF] at k2 l2
  have k3 := fun a b c d W (ha : BytesAt W a E) (hb : BytesAt W b F) => join_read a b E F c d W ha hb (by omega)
  rw [← hJ2] at k3
  rw [← hJ]
  have K1 := Lib.hid k1
  have K2 := Lib.hid k2
  have K3 := Lib.hid k3
  have HW1 := Lib.hid hw1
  clear hw1 hA hz1 k1 k2 k3 hE hF hJ hJ2 l1 l2
  go_enter Try.func50, Try.ntmps50
  go_upto_region 1 with (fail)
  change Code.wp _ _ _ _ (w.alloc (.cells (stampCells t r) 23))
  rw [← HW1.out]
  have hs : Below w1.heap.size w1 w1.drew := (Below.refl _ _).drew
  refine wp_region_sched (fun W => Below w1.heap.size w1 W) [([0, 1, 3, 4], 2), ([], 5), ([], 6)] [7] (by kernel_rfl) (by kernel_rfl) (fun _ _ d _ _ h => by cases d <;> exact h) (by kernel_rfl) (of_decide_eq_true (by kernel_rfl)) hs ?_
  refine wpSched_cons ?_
  dsimp only [opsAt, List.filterMap, List.getElem?_cons_zero, List.getElem?_cons_succ]
  repeat (first
    | go_big_quiet_skip
    | (go_big_quiet_want
       first
         | (refine quiet_load_cell 2 (.tmp 3) rfl ⟨w.heap.size, 0, none⟩ rfl (.int .i64 t) _ v1.out Try.underlying2 rfl ?_
            simp only [Act.put, List.setIfInBounds_toArray, List.set_cons_zero, List.set_cons_succ]
            go_big_quiet_on)
         | (refine quiet_load_cell 3 (.tmp 6) rfl ⟨w.heap.size, 1, none⟩ rfl (.int .i64 r) _ v2.out Try.underlying3 rfl ?_
            simp only [Act.put, List.setIfInBounds_toArray, List.set_cons_zero, List.set_cons_succ]
            go_big_quiet_on)
         | (go_big_quiet_op
            refine ⟨_, fun _ _ => rfl, ?_⟩
            go_big_quiet_on)
         | (go_big_quiet_op
            go_big_quiet_on)))
  refine wpQuiet_nil ?_
  intro KK hKK
  go_simp
  refine (K1.out _).mono ?_
  rintro e w3 ⟨a1, c1, rfl, hB1, hb3, -, -, -⟩
  replace hs := hs.trans (hb3.mono hs.size)
  clear hb3
  refine hKK _ _ hs ?_
  clear hKK KK
  try simp only [Act.put, List.setIfInBounds_toArray, List.set_cons_zero, List.set_cons_succ]
  refine wpSched_cons ?_
  dsimp only [opsAt, List.filterMap, List.getElem?_cons_zero, List.getElem?_cons_succ]
  repeat (first
    | go_big_quiet_skip
    | (go_big_quiet_want
       first
         | (go_big_quiet_op
            refine ⟨_, fun _ _ => rfl, ?_⟩
            go_big_quiet_on)
         | (go_big_quiet_op
            go_big_quiet_on)))
  refine wpQuiet_nil ?_
  intro KK hKK
  go_simp
  refine (K2.out _).mono ?_
  rintro e w4 ⟨a2, c2, rfl, hB2, hb4, -, -, -⟩
  replace hs := hs.trans (hb4.mono hs.size)
  replace hB1 := hB1.later hb4
  clear hb4
  refine hKK _ _ hs ?_
  clear hKK KK
  try simp only [Act.put, List.setIfInBounds_toArray, List.set_cons_zero, List.set_cons_succ]
  refine wpSched_cons ?_
  dsimp only [opsAt, List.filterMap, List.getElem?_cons_zero, List.getElem?_cons_succ]
  repeat (first
    | go_big_quiet_skip
    | (go_big_quiet_want
       first
         | (go_big_quiet_op
            refine ⟨_, fun _ _ => rfl, ?_⟩
            go_big_quiet_on)
         | (go_big_quiet_op
            go_big_quiet_on)))
  refine wpQuiet_nil ?_
  intro KK hKK
  go_simp
  refine (K3.out a1 a2 c1 c2 _ hB1 hB2).mono ?_
  rintro e w5 ⟨a3, c3, rfl, hB3, hb5, h1, h2, h3⟩
  replace hs := hs.trans (hb5.mono hs.size)
  clear hb5 hB1 hB2
  refine hKK _ _ hs ?_
  clear hKK KK
  try simp only [Act.put, List.setIfInBounds_toArray, List.set_cons_zero, List.set_cons_succ]
  refine wpSched_nil ?_
  dsimp only [opsAt, List.filterMap, List.getElem?_cons_zero, List.getElem?_cons_succ]
  repeat (first
    | go_big_quiet_skip
    | (go_big_quiet_want
       first
         | (go_big_quiet_op
            refine ⟨_, fun _ _ => rfl, ?_⟩
            go_big_quiet_on)
         | (go_big_quiet_op
            go_big_quiet_on)))
  refine wpQuiet_nil ?_
  go_wp2_with fail
  go_ret
  exact ⟨a3, c3, rfl, hB3, hb1.trans (hs.mono hb1.size), h1, h2, h3⟩

theorem join_named {l m J : List UInt8} (hJ : J = l ++ m) (hl : J.length ≤ 140737488355328) (a b : Option Addr) (c d : Nat) (w : World) (ha : BytesAt w a l) (hb : BytesAt w b m) :
    Calls Try.prog 24 #[.slice a l.length c, .slice b m.length d] w (ReadPost w J) := by
  have h := join_read a b l m c d w ha hb (by rw [hJ, List.length_append] at hl; exact hl)
  rw [← hJ] at h
  exact h
theorem encStamps_snoc (ss : List (Int × Int)) (k : Nat) (h : k < ss.length) : encStamps (ss.take (k + 1)) = encStamps (ss.take k) ++ encStamp ss[k].1 ss[k].2 := encStamps_take ss k h
set_option maxRecDepth 100000 in
set_option maxHeartbeats 4000000 in
theorem refput_any (k t r nt nr pt pr : Int) (s : ByteArray) (d : List UInt8) (a : Option Addr) (ss : List (Int × Int)) (c : Nat) (w : World) (hd : d.length = 32) (hm : s.size ≤ maxLen) (ha : StampsAt w a ss) (hl : ss.length ≤ 4611686018427387903) :
    Calls Try.prog 25 #[.agg (opCells k t r nt nr pt pr s d (.slice a ss.length c))] w (ReadPost w (if goodOpB k t r nt nr pt pr s d ss = true then encOp k t r nt nr pt pr s d ss else [])) := by
  obtain ⟨X, hX⟩ : ∃ X, X = opCells k t r nt nr pt pr s d (.slice a ss.length c) := ⟨_, rfl⟩
  obtain ⟨w1, hw1⟩ : ∃ w1, w1 = w.alloc (.cells X 33) := ⟨_, rfl⟩
  have hb1 : Below w.heap.size w w1 := by rw [hw1]; exact (Below.refl _ w).alloc (Nat.le_refl _) _
  have hO : OpIn (fun W => Below w1.heap.size w1 W) w.heap.size k t r nt nr pt pr s d (.slice a ss.length c) := opIn_box hd (by rw [hw1, hX]; exact heap_alloc_new _ _)
  have hXs : (Try.prog.info? 33).map (·.size) = some X.size := by rw [hX]; exact sizeOp _ _ _ _ _ _ _ _ _ _ hd
  obtain ⟨gb, hgb⟩ : ∃ b, b = goodOpB k t r nt nr pt pr s d ss := ⟨_, rfl⟩
  have hat := fun W (h : Below w1.heap.size w1 W) => (ha.later hb1).later h
  have k0 := fun W h => refgood_any k t r nt nr pt pr s d a ss c W hd hm (hat W h) hl
  have hwh := hO.whole
  rw [← hX, ← hgb] at k0
  rw [← hX] at hwh
  rw [← hgb, ← hX]
  have K0 := Lib.hid k0
  have HWH := Lib.hid hwh
  have HXS := Lib.hid hXs
  have HW1 := Lib.hid hw1
  cases gb
  · rw [if_neg (by decide)]
    clear hX hw1 hO hXs hgb hat k0 hwh ha
    unfold ReadPost
    go_enter Try.func25, Try.ntmps25
    go_upto_region 1 with (fail)
    change Code.wp _ _ _ _ (w.alloc (.cells X 33))
    rw [← HW1.out]
    have hs : Below w1.heap.size w1 w1 := Below.refl _ _
    go_wp2_with (refine wpList_load_row rfl 33 (.tmp 1) rfl w.heap.size rfl 33 X (0, 0) _ (HWH.out _ hs) Try.underlying33 rfl HXS.out ?_)
    refine (K0.out _ hs).mono ?_
    rintro e w3 ⟨rfl, hb3⟩
    replace hs := hs.trans (hb3.mono hs.size)
    clear hb3
    go_wp2_with fail
    go_ret
    have hn : Below w3.heap.size w3 (w3.alloc (.cells #[] 5)) := (Below.refl _ _).alloc (Nat.le_refl _) _
    have h03 := hb1.trans (hs.mono hb1.size)
    exact ⟨_, _, rfl, fun i hi => absurd hi (by simp), h03.trans (hn.mono h03.size), by simp, by simp, by simp⟩
  · rw [if_pos rfl]
    have hcap := encOp_len hd hgb.symm
    have kn := fun W => refnum_read k W
    have ks1 := fun W => refstamp_any t r W
    have ks2 := fun W => refstamp_any nt nr W
    have e1 := encNum_le9 (clampN_le k)
    have e2 := encStamp_len t r
    have e3 := encStamp_len nt nr
    obtain ⟨E1, hE1⟩ : ∃ E, E = encNum (clampN k) := ⟨_, rfl⟩
    obtain ⟨S1, hS1⟩ : ∃ E, E = encStamp t r := ⟨_, rfl⟩
    obtain ⟨S2, hS2⟩ : ∃ E, E = encStamp nt nr := ⟨_, rfl⟩
    rw [← hE1] at kn e1
    rw [← hS1] at ks1 e2
    rw [← hS2] at ks2 e3
    obtain ⟨J1, hJ1⟩ : ∃ J, J = S1 ++ S2 := ⟨_, rfl⟩
    have eJ1 : J1.length ≤ 36 := by rw [hJ1, List.length_append]; omega
    obtain ⟨J2, hJ2⟩ : ∃ J, J = E1 ++ J1 := ⟨_, rfl⟩
    have eJ2 : J2.length ≤ 45 := by rw [hJ2, List.length_append]; omega
    have kj1 := join_named hJ1 (by omega)
    have kj2 := join_named hJ2 (by omega)
    have hJ2x : J2 = encNum (clampN k) ++ (encStamp t r ++ encStamp nt nr) := by rw [hJ2, hJ1, hE1, hS1, hS2]
    have hgm := good_move hgb.symm
    obtain ⟨n, hnn⟩ : ∃ n, n = ss.length := ⟨_, rfl⟩
    rw [← hnn] at hO
    have hEK : (k = 1 ∧ encOp k t r nt nr pt pr s d ss = J2 ++ (encStamp pt pr ++ encText s) ∧ s.size ≤ 60) ∨ (((k : Int) == 1) = false ∧ encOp k t r nt nr pt pr s d ss = J2 ++ (d ++ encNum (clampN (n : Int))) ++ encStamps ss ∧ n ≤ 64) := by
      rcases hgm with ⟨rfl, _, _, h60⟩ | ⟨rfl, h64, _, _, _⟩
      · refine .inl ⟨rfl, ?_, h60⟩
        rw [hJ2x]
        unfold encOp encMove encStamp
        rw [if_pos rfl]
        simp [encNums, encStamps]
      · refine .inr ⟨rfl, ?_, by omega⟩
        rw [hJ2x, hnn]
        unfold encOp encEdit encStamp
        rw [if_neg (by decide)]
        simp [encNums, encStamps]
    obtain ⟨L, hL⟩ : ∃ L, L = encOp k t r nt nr pt pr s d ss := ⟨_, rfl⟩
    rw [← hL] at hcap hEK ⊢
    have HO := Lib.hid hO
    have KN := Lib.hid kn
    have KS1 := Lib.hid ks1
    have KS2 := Lib.hid ks2
    have KJ1 := Lib.hid kj1
    have KJ2 := Lib.hid kj2
    have HEK := Lib.hid hEK
    have HNN := Lib.hid hnn
    have HAT := Lib.hid hat
    clear hX hw1 hO hXs hgb hat k0 hwh ha kn ks1 ks2 kj1 kj2 hE1 hS1 hS2 hJ1 hJ2 hJ2x hEK hL hgm e1 e2 e3 eJ1 hnn
    unfold ReadPost
    go_enter Try.func25, Try.ntmps25
    go_upto_region 1 with (fail)
    change Code.wp _ _ _ _ (w.alloc (.cells X 33))
    rw [← HW1.out]
    have hs : Below w1.heap.size w1 w1 := Below.refl _ _
    go_wp2_with (refine wpList_load_row rfl 33 (.tmp 1) rfl w.heap.size rfl 33 X (0, 0) _ (HWH.out _ hs) Try.underlying33 rfl HXS.out ?_)
    refine (K0.out _ hs).mono ?_
    rintro e w3 ⟨rfl, hb3⟩
    replace hs := hs.trans (hb3.mono hs.size)
    clear hb3 K0 HWH HXS HW1
    go_upto_region 3 with (fail)
    refine wp_region_sched (fun W => Below w1.heap.size w1 W) [([0, 1, 3, 4, 6, 7], 2), ([], 5), ([], 8), ([], 9), ([], 10)] [11] (by kernel_rfl) (by kernel_rfl) (fun _ _ d _ _ h => by cases d <;> exact h) (by kernel_rfl) (of_decide_eq_true (by kernel_rfl)) hs.drew ?_
    replace hs := hs.drew
    refine wpSched_cons ?_
    dsimp only [opsAt, List.filterMap, List.getElem?_cons_zero, List.getElem?_cons_succ]
    repeat (first
      | go_big_quiet_skip
      | (go_big_quiet_want
         first
           | (refine quiet_load_cell 3 (.tmp 9) rfl ⟨w.heap.size, 0, none⟩ rfl (.int .i64 k) _ HO.out.kind Try.underlying3 rfl ?_
              simp only [Act.put, List.setIfInBounds_toArray, List.set_cons_zero, List.set_cons_succ]
              go_big_quiet_on)
           | (refine quiet_load_mid 23 (.tmp 12) rfl w.heap.size 1 rfl (stampCells t r) _ HO.out.at_ Try.underlying23 rfl (sizeStamp _ _) ?_
              simp only [Act.put, List.setIfInBounds_toArray, List.set_cons_zero, List.set_cons_succ]
              go_big_quiet_on)
           | (refine quiet_load_mid 23 (.tmp 15) rfl w.heap.size 3 rfl (stampCells nt nr) _ HO.out.node Try.underlying23 rfl (sizeStamp _ _) ?_
              simp only [Act.put, List.setIfInBounds_toArray, List.set_cons_zero, List.set_cons_succ]
              go_big_quiet_on)
           | (go_big_quiet_op
              refine ⟨_, fun _ _ => rfl, ?_⟩
              go_big_quiet_on)
           | (go_big_quiet_op
              go_big_quiet_on)))
    refine wpQuiet_nil ?_
    intro KK hKK
    go_simp
    refine (KN.out _).mono ?_
    rintro e w4 ⟨a1, c1, rfl, hB1, hb4, -, -, -⟩
    replace hs := hs.trans (hb4.mono hs.size)
    clear hb4
    refine hKK _ _ hs ?_
    clear hKK KK
    try simp only [Act.put, List.setIfInBounds_toArray, List.set_cons_zero, List.set_cons_succ]
    refine wpSched_cons ?_
    dsimp only [opsAt, List.filterMap, List.getElem?_cons_zero, List.getElem?_cons_succ]
    repeat (first
      | go_big_quiet_skip
      | (go_big_quiet_want
         first
           | (go_big_quiet_op
              refine ⟨_, fun _ _ => rfl, ?_⟩
              go_big_quiet_on)
           | (go_big_quiet_op
              go_big_quiet_on)))
    refine wpQuiet_nil ?_
    intro KK hKK
    go_simp
    refine (KS1.out _).mono ?_
    rintro e w5 ⟨a2, c2, rfl, hB2, hb5, -, -, -⟩
    replace hs := hs.trans (hb5.mono hs.size)
    replace hB1 := hB1.later hb5
    clear hb5
    refine hKK _ _ hs ?_
    clear hKK KK
    try simp only [Act.put, List.setIfInBounds_toArray, List.set_cons_zero, List.set_cons_succ]
    refine wpSched_cons ?_
    dsimp only [opsAt, List.filterMap, List.getElem?_cons_zero, List.getElem?_cons_succ]
    repeat (first
      | go_big_quiet_skip
      | (go_big_quiet_want
         first
           | (go_big_quiet_op
              refine ⟨_, fun _ _ => rfl, ?_⟩
              go_big_quiet_on)
           | (go_big_quiet_op
              go_big_quiet_on)))
    refine wpQuiet_nil ?_
    intro KK hKK
    go_simp
    refine (KS2.out _).mono ?_
    rintro e w6 ⟨a3, c3, rfl, hB3, hb6, -, -, -⟩
    replace hs := hs.trans (hb6.mono hs.size)
    replace hB1 := hB1.later hb6
    replace hB2 := hB2.later hb6
    clear hb6
    refine hKK _ _ hs ?_
    clear hKK KK
    try simp only [Act.put, List.setIfInBounds_toArray, List.set_cons_zero, List.set_cons_succ]
    refine wpSched_cons ?_
    dsimp only [opsAt, List.filterMap, List.getElem?_cons_zero, List.getElem?_cons_succ]
    repeat (first
      | go_big_quiet_skip
      | (go_big_quiet_want
         first
           | (go_big_quiet_op
              refine ⟨_, fun _ _ => rfl, ?_⟩
              go_big_quiet_on)
           | (go_big_quiet_op
              go_big_quiet_on)))
    refine wpQuiet_nil ?_
    intro KK hKK
    go_simp
    refine (KJ1.out a2 a3 c2 c3 _ hB2 hB3).mono ?_
    rintro e w7 ⟨a4, c4, rfl, hB4, hb7, -, -, -⟩
    replace hs := hs.trans (hb7.mono hs.size)
    replace hB1 := hB1.later hb7
    clear hb7 hB2 hB3
    refine hKK _ _ hs ?_
    clear hKK KK
    try simp only [Act.put, List.setIfInBounds_toArray, List.set_cons_zero, List.set_cons_succ]
    refine wpSched_cons ?_
    dsimp only [opsAt, List.filterMap, List.getElem?_cons_zero, List.getElem?_cons_succ]
    repeat (first
      | go_big_quiet_skip
      | (go_big_quiet_want
         first
           | (go_big_quiet_op
              refine ⟨_, fun _ _ => rfl, ?_⟩
              go_big_quiet_on)
           | (go_big_quiet_op
              go_big_quiet_on)))
    refine wpQuiet_nil ?_
    intro KK hKK
    go_simp
    refine (KJ2.out a1 a4 c1 c4 _ hB1 hB4).mono ?_
    rintro e w8 ⟨a5, c5, rfl, hB5, hb8, -, -, -⟩
    replace hs := hs.trans (hb8.mono hs.size)
    clear hb8 hB1 hB4
    refine hKK _ _ hs ?_
    clear hKK KK
    try simp only [Act.put, List.setIfInBounds_toArray, List.set_cons_zero, List.set_cons_succ]
    refine wpSched_nil ?_
    dsimp only [opsAt, List.filterMap, List.getElem?_cons_zero, List.getElem?_cons_succ]
    repeat (first
      | go_big_quiet_skip
      | (go_big_quiet_want
         first
           | (go_big_quiet_op
              refine ⟨_, fun _ _ => rfl, ?_⟩
              go_big_quiet_on)
           | (go_big_quiet_op
              go_big_quiet_on)))
    refine wpQuiet_nil ?_
    have hck := HO.out.kind _ hs
    clear KN KS1 KS2 KJ1 KJ2
    rcases HEK.out with ⟨rfl, hL, h60⟩ | ⟨hk1, hL, h64⟩
    · have ks3 := fun W => refstamp_any pt pr W
      have kt := fun W => reftext_any s W (by omega)
      have e1 := encStamp_len pt pr
      obtain ⟨S3, hS3⟩ : ∃ E, E = encStamp pt pr := ⟨_, rfl⟩
      obtain ⟨T, hT⟩ : ∃ E, E = encText s := ⟨_, rfl⟩
      rw [← hS3] at ks3 e1
      rw [← hT] at kt
      rw [← hS3, ← hT] at hL
      obtain ⟨J3, hJ3⟩ : ∃ J, J = S3 ++ T := ⟨_, rfl⟩
      rw [← hJ3] at hL
      have eL : L.length = J2.length + J3.length := by rw [hL, List.length_append]
      have kj3 := join_named hJ3 (by omega)
      have kj4 := join_named hL (by omega)
      have KS3 := Lib.hid ks3
      have KT := Lib.hid kt
      have KJ3 := Lib.hid kj3
      have KJ4 := Lib.hid kj4
      clear ks3 kt kj3 kj4 hS3 hT hJ3 hL e1 eL HEK
      go_upto_region 5 with (fail)
      refine wp_region_sched (fun W => Below w1.heap.size w1 W) [([0, 1, 2, 4, 5], 3), ([], 6), ([], 7), ([], 8)] [9] (by kernel_rfl) (by kernel_rfl) (fun _ _ d _ _ h => by cases d <;> exact h) (by kernel_rfl) (of_decide_eq_true (by kernel_rfl)) hs.drew ?_
      replace hs := hs.drew
      replace hB5 := hB5.later (Below.refl _ w8).drew
      refine wpSched_cons ?_
      dsimp only [opsAt, List.filterMap, List.getElem?_cons_zero, List.getElem?_cons_succ]
      repeat (first
        | go_big_quiet_skip
        | (go_big_quiet_want
           first
             | (refine quiet_load_mid 23 (.tmp 24) rfl w.heap.size 5 rfl (stampCells pt pr) _ HO.out.parent Try.underlying23 rfl (sizeStamp _ _) ?_
                simp only [Act.put, List.setIfInBounds_toArray, List.set_cons_zero, List.set_cons_succ]
                go_big_quiet_on)
             | (refine quiet_load_cell 9 (.tmp 27) rfl ⟨w.heap.size, 7, none⟩ rfl (.string s) _ HO.out.name Try.underlying9 rfl ?_
                simp only [Act.put, List.setIfInBounds_toArray, List.set_cons_zero, List.set_cons_succ]
                go_big_quiet_on)
             | (go_big_quiet_op
                refine ⟨_, fun _ _ => rfl, ?_⟩
                go_big_quiet_on)
             | (go_big_quiet_op
                go_big_quiet_on)))
      refine wpQuiet_nil ?_
      intro KK hKK
      go_simp
      refine (KS3.out _).mono ?_
      rintro e w9 ⟨a6, c6, rfl, hB6, hb9, -, -, -⟩
      replace hs := hs.trans (hb9.mono hs.size)
      replace hB5 := hB5.later hb9
      clear hb9
      refine hKK _ _ hs ?_
      clear hKK KK
      try simp only [Act.put, List.setIfInBounds_toArray, List.set_cons_zero, List.set_cons_succ]
      refine wpSched_cons ?_
      dsimp only [opsAt, List.filterMap, List.getElem?_cons_zero, List.getElem?_cons_succ]
      repeat (first
        | go_big_quiet_skip
        | (go_big_quiet_want
           first
             | (go_big_quiet_op
                refine ⟨_, fun _ _ => rfl, ?_⟩
                go_big_quiet_on)
             | (go_big_quiet_op
                go_big_quiet_on)))
      refine wpQuiet_nil ?_
      intro KK hKK
      go_simp
      refine (KT.out _).mono ?_
      rintro e w10 ⟨a7, c7, rfl, hB7, hb10, -, -, -⟩
      replace hs := hs.trans (hb10.mono hs.size)
      replace hB5 := hB5.later hb10
      replace hB6 := hB6.later hb10
      clear hb10
      refine hKK _ _ hs ?_
      clear hKK KK
      try simp only [Act.put, List.setIfInBounds_toArray, List.set_cons_zero, List.set_cons_succ]
      refine wpSched_cons ?_
      dsimp only [opsAt, List.filterMap, List.getElem?_cons_zero, List.getElem?_cons_succ]
      repeat (first
        | go_big_quiet_skip
        | (go_big_quiet_want
           first
             | (go_big_quiet_op
                refine ⟨_, fun _ _ => rfl, ?_⟩
                go_big_quiet_on)
             | (go_big_quiet_op
                go_big_quiet_on)))
      refine wpQuiet_nil ?_
      intro KK hKK
      go_simp
      refine (KJ3.out a6 a7 c6 c7 _ hB6 hB7).mono ?_
      rintro e w11 ⟨a8, c8, rfl, hB8, hb11, -, -, -⟩
      replace hs := hs.trans (hb11.mono hs.size)
      replace hB5 := hB5.later hb11
      clear hb11 hB6 hB7
      refine hKK _ _ hs ?_
      clear hKK KK
      try simp only [Act.put, List.setIfInBounds_toArray, List.set_cons_zero, List.set_cons_succ]
      refine wpSched_cons ?_
      dsimp only [opsAt, List.filterMap, List.getElem?_cons_zero, List.getElem?_cons_succ]
      repeat (first
        | go_big_quiet_skip
        | (go_big_quiet_want
           first
             | (go_big_quiet_op
                refine ⟨_, fun _ _ => rfl, ?_⟩
                go_big_quiet_on)
             | (go_big_quiet_op
                go_big_quiet_on)))
      refine wpQuiet_nil ?_
      intro KK hKK
      go_simp
      refine (KJ4.out a5 a8 c5 c8 _ hB5 hB8).mono ?_
      rintro e w12 ⟨a9, c9, rfl, hB9, hb12, h1, h2, h3⟩
      replace hs := hs.trans (hb12.mono hs.size)
      clear hb12 hB5 hB8
      refine hKK _ _ hs ?_
      clear hKK KK
      try simp only [Act.put, List.setIfInBounds_toArray, List.set_cons_zero, List.set_cons_succ]
      refine wpSched_nil ?_
      dsimp only [opsAt, List.filterMap, List.getElem?_cons_zero, List.getElem?_cons_succ]
      repeat (first
        | go_big_quiet_skip
        | (go_big_quiet_want
           first
             | (go_big_quiet_op
                refine ⟨_, fun _ _ => rfl, ?_⟩
                go_big_quiet_on)
             | (go_big_quiet_op
                go_big_quiet_on)))
      refine wpQuiet_nil ?_
      go_wp2_with fail
      go_ret
      exact ⟨a9, c9, rfl, hB9, hb1.trans (hs.mono hb1.size), h1, h2, h3⟩
    · have ki := fun W => refid_any d W hd
      have kn := fun W => refnum_read (n : Int) W
      have e1 := encNum_le9 (clampN_le (n : Int))
      obtain ⟨D, hD⟩ : ∃ D, D = (bvs d).toArray := ⟨_, rfl⟩
      have hdat := HO.out.data
      have hDs : (Try.prog.info? 30).map (·.size) = some D.size := by rw [hD]; exact sizeIdv d hd
      rw [← hD] at ki hdat
      obtain ⟨N, hN⟩ : ∃ E, E = encNum (clampN (n : Int)) := ⟨_, rfl⟩
      rw [← hN] at kn e1 hL
      obtain ⟨J3, hJ3⟩ : ∃ J, J = d ++ N := ⟨_, rfl⟩
      rw [← hJ3] at hL
      have eJ3 : J3.length ≤ 41 := by rw [hJ3, List.length_append]; omega
      obtain ⟨J4, hJ4⟩ : ∃ J, J = J2 ++ J3 := ⟨_, rfl⟩
      rw [← hJ4] at hL
      have eJ4 : J4.length ≤ 86 := by rw [hJ4, List.length_append]; omega
      have kj3 := join_named hJ3 (by omega)
      have kj4 := join_named hJ4 (by omega)
      have KI := Lib.hid ki
      have KN := Lib.hid kn
      have KJ3 := Lib.hid kj3
      have KJ4 := Lib.hid kj4
      have HDT := Lib.hid hdat
      have HDS := Lib.hid hDs
      have HL := Lib.hid hL
      clear ki kn kj3 kj4 hN hJ3 hJ4 hD hL hdat hDs e1 eJ3 HEK
      go_upto_region 6 with (fail)
      refine wp_region_pair (fun W => Below w1.heap.size w1 W) [([0, 1, 2, 4, 5], [3, 6]), ([], [7]), ([], [8]), ([], [9])] [10] (by kernel_rfl) (by kernel_rfl) (fun _ _ d _ _ h => by cases d <;> exact h) (by kernel_rfl) (of_decide_eq_true (by kernel_rfl)) hs.drew ?_
      replace hs := hs.drew
      replace hB5 := hB5.later (Below.refl _ w8).drew
      refine wpPair_two ?_
      dsimp only [opsAt, List.filterMap, List.getElem?_cons_zero, List.getElem?_cons_succ]
      repeat (first
        | go_big_quiet_skip
        | (go_big_quiet_want
           first
             | (refine quiet_load_mid 30 (.tmp 33) rfl w.heap.size 8 rfl D _ HDT.out Try.underlying30 rfl HDS.out ?_
                simp only [Act.put, List.setIfInBounds_toArray, List.set_cons_zero, List.set_cons_succ]
                go_big_quiet_on)
             | (refine quiet_load_cell 31 (.tmp 36) rfl ⟨w.heap.size, 40, none⟩ rfl (.slice a n c) _ HO.out.over Try.underlying31 rfl ?_
                simp only [Act.put, List.setIfInBounds_toArray, List.set_cons_zero, List.set_cons_succ]
                go_big_quiet_on)
             | (go_big_quiet_op
                refine ⟨_, fun _ _ => rfl, ?_⟩
                go_big_quiet_on)
             | (go_big_quiet_op
                go_big_quiet_on)))
      refine wpQuiet_nil ⟨?_, ?_⟩
      intro KK hKK
      go_simp
      refine (KI.out _).mono ?_
      rintro e w9 ⟨a6, c6, rfl, hB6, hb9, -, -, -⟩
      replace hs := hs.trans (hb9.mono hs.size)
      replace hB5 := hB5.later hb9
      refine hKK _ _ hs ?_
      clear hKK KK hb9
      try simp only [Act.put, List.setIfInBounds_toArray, List.set_cons_zero, List.set_cons_succ]
      intro KK hKK
      go_simp
      refine hKK _ _ hs ?_
      clear hKK KK
      rotate_left
      intro KK hKK
      go_simp
      refine hKK _ _ hs ?_
      clear hKK KK
      try simp only [Act.put, List.setIfInBounds_toArray, List.set_cons_zero, List.set_cons_succ]
      intro KK hKK
      go_simp
      refine (KI.out _).mono ?_
      rintro e w9 ⟨a6, c6, rfl, hB6, hb9, -, -, -⟩
      replace hs := hs.trans (hb9.mono hs.size)
      replace hB5 := hB5.later hb9
      refine hKK _ _ hs ?_
      clear hKK KK hb9
      all_goals
        rw [hd] at *
        try simp only [Act.put, List.setIfInBounds_toArray, List.set_cons_zero, List.set_cons_succ]
        refine wpPair_cons ?_
        dsimp only [opsAt, List.filterMap, List.getElem?_cons_zero, List.getElem?_cons_succ]
        repeat (first
          | go_big_quiet_skip
          | (go_big_quiet_want
             first
               | (go_big_quiet_op
                  refine ⟨_, fun _ _ => rfl, ?_⟩
                  go_big_quiet_on)
               | (go_big_quiet_op
                  go_big_quiet_on)))
        refine wpQuiet_nil ?_
        intro KK hKK
        go_simp
        refine (KN.out _).mono ?_
        rintro e w10 ⟨a7, c7, rfl, hB7, hb10, -, -, -⟩
        replace hs := hs.trans (hb10.mono hs.size)
        replace hB5 := hB5.later hb10
        replace hB6 := hB6.later hb10
        clear hb10
        refine hKK _ _ hs ?_
        clear hKK KK
        try simp only [Act.put, List.setIfInBounds_toArray, List.set_cons_zero, List.set_cons_succ]
        refine wpPair_cons ?_
        dsimp only [opsAt, List.filterMap, List.getElem?_cons_zero, List.getElem?_cons_succ]
        repeat (first
          | go_big_quiet_skip
          | (go_big_quiet_want
             first
               | (go_big_quiet_op
                  refine ⟨_, fun _ _ => rfl, ?_⟩
                  go_big_quiet_on)
               | (go_big_quiet_op
                  go_big_quiet_on)))
        refine wpQuiet_nil ?_
        intro KK hKK
        go_simp
        refine (KJ3.out a6 a7 c6 c7 _ hB6 hB7).mono ?_
        rintro e w11 ⟨a8, c8, rfl, hB8, hb11, -, -, -⟩
        replace hs := hs.trans (hb11.mono hs.size)
        replace hB5 := hB5.later hb11
        clear hb11 hB6 hB7
        refine hKK _ _ hs ?_
        clear hKK KK
        try simp only [Act.put, List.setIfInBounds_toArray, List.set_cons_zero, List.set_cons_succ]
        refine wpPair_cons ?_
        dsimp only [opsAt, List.filterMap, List.getElem?_cons_zero, List.getElem?_cons_succ]
        repeat (first
          | go_big_quiet_skip
          | (go_big_quiet_want
             first
               | (go_big_quiet_op
                  refine ⟨_, fun _ _ => rfl, ?_⟩
                  go_big_quiet_on)
               | (go_big_quiet_op
                  go_big_quiet_on)))
        refine wpQuiet_nil ?_
        intro KK hKK
        go_simp
        refine (KJ4.out a5 a8 c5 c8 _ hB5 hB8).mono ?_
        rintro e w12 ⟨a9, c9, rfl, hB9, hb12, -, hcj, hcm⟩
        replace hs := hs.trans (hb12.mono hs.size)
        clear hb12 hB5 hB8
        refine hKK _ _ hs ?_
        clear hKK KK
        try simp only [Act.put, List.setIfInBounds_toArray, List.set_cons_zero, List.set_cons_succ]
        refine wpPair_nil ?_
        dsimp only [opsAt, List.filterMap, List.getElem?_cons_zero, List.getElem?_cons_succ]
        repeat (first
          | go_big_quiet_skip
          | (go_big_quiet_want
             first
               | (go_big_quiet_op
                  refine ⟨_, fun _ _ => rfl, ?_⟩
                  go_big_quiet_on)
               | (go_big_quiet_op
                  go_big_quiet_on)))
        refine wpQuiet_nil ?_
        have HB9 := Lib.hid hB9
        have HS := Lib.hid hs
        clear hB9 hs KI KN KJ3 KJ4 HDT HDS hck hk1
        go_wp2_with fail
        go_loopw [3, 4] (fun s3 s4 wr => ∃ (i : Nat) (P : List UInt8) (ai : Option Addr) (ci : Nat), i ≤ n ∧ s3 = .slice ai P.length ci ∧ s4 = .int .i64 (i : Int) ∧ Hid (P = J4 ++ encStamps (ss.take i)) ∧ Hid (BytesAt wr ai P) ∧ Hid (P.length ≤ ci ∧ ci ≤ 9223372036854775807) ∧ Hid (Below w1.heap.size w1 wr)) (fun _ s4 _ => n - (intOf s4).toNat)
        case atStart => exact ⟨0, J4, a9, c9, Nat.zero_le _, rfl, rfl, Lib.hid (by simp [encStamps]), HB9, Lib.hid ⟨hcj, hcm⟩, HS⟩
        case round =>
          obtain ⟨i, P, ai, ci, hi, rfl, rfl, hP, hBP, hcc, hbel⟩ := hrel
          clear HB9 HS
          have v1 := HO.out.over wr hbel.out
          by_cases hlt : i < n
          · have hlt1 : i < ss.length := by have := HNN.out; omega
            obtain ⟨b1, o1, rfl, hc1, hc2⟩ := HAT.out wr hbel.out i hlt1
            obtain ⟨x, hx⟩ : ∃ x, x = ss[i].1 := ⟨_, rfl⟩
            obtain ⟨y, hy⟩ : ∃ y, y = ss[i].2 := ⟨_, rfl⟩
            rw [← hx] at hc1
            rw [← hy] at hc2
            have hst := encStamps_snoc ss i hlt1
            rw [← hx, ← hy] at hst
            have hlk := encStamps_take_len ss i (by omega)
            have ks : ∀ W, Calls Try.prog 50 #[.agg #[.int .i64 x, .int .i64 y]] W (ReadPost W (encStamp x y)) := fun W => refstamp_any x y W
            have e1 := encStamp_len x y
            obtain ⟨S, hS⟩ : ∃ S, S = encStamp x y := ⟨_, rfl⟩
            rw [← hS] at ks e1 hst
            obtain ⟨P', hP'⟩ : ∃ P', P' = P ++ S := ⟨_, rfl⟩
            have hPl : P.length ≤ 86 + 18 * 64 := by rw [hP.out, List.length_append]; omega
            have kj := join_named hP' (by rw [hP', List.length_append]; omega)
            have hP2 : P' = J4 ++ encStamps (ss.take (i + 1)) := by rw [hP', hP.out, hst, List.append_assoc]
            have KS := Lib.hid ks
            have KJ := Lib.hid kj
            have HP2 := Lib.hid hP2
            clear hx hy hst hlk ks hS hP' kj hP2 hP e1 hPl
            go_wp2_with fail
            refine (KS.out wr).mono ?_
            rintro e w13 ⟨a10, c10, rfl, hB10, hb13, -, -, -⟩
            have hBP2 := hBP.out.later hb13
            have hs2 := hbel.out.trans (hb13.mono hbel.out.size)
            clear hBP hbel hb13 v1 hc1 hc2
            go_wp2_with fail
            refine (KJ.out ai a10 ci c10 w13 hBP2 hB10).mono ?_
            rintro e w14 ⟨a11, c11, rfl, hB11, hb14, -, h2, h3⟩
            have HB11 := Lib.hid hB11
            have HS3 := Lib.hid (hs2.trans (hb14.mono hs2.size))
            clear hB11 hb14 hs2 hBP2 hB10
            go_wp2_with fail
            go_roundw
            case rel => exact ⟨i + 1, P', a11, c11, by omega, rfl, by go_num, HP2, HB11, Lib.hid ⟨h2, h3⟩, HS3⟩
            case measure => simp [intOf]; omega
          · have e : P = L := by
              rw [hP.out, HL.out, List.take_of_length_le (by have := HNN.out; omega)]
            have HBP := Lib.hid hBP.out
            have hs := hbel.out
            obtain ⟨h2, h3⟩ := hcc.out
            have HE := Lib.hid e
            clear hP hBP hbel e
            go_wp2_with fail
            go_ret
            exact ⟨ai, ci, by rw [HE.out]; rfl, by rw [← HE.out]; exact HBP.out, hb1.trans (hs.mono hb1.size), by omega, by rw [← HE.out]; exact h2, h3⟩
end Go.Proofs.Ytoaboehmjfnceaa
