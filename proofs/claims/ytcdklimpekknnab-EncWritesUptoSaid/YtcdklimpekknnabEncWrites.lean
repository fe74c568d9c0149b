/-
  The walk of EncWrites.
-/
import Derived.Test.YtcdklimpekknnabRefWrite
import Derived.Test.YtcdklimpekknnabSched
import Derived.Test.YtcdklimpekknnabGetId
namespace Go.Proofs.Ytcdklimpekknnab
open Go.RowKit

set_option maxRecDepth 100000 in
set_option maxHeartbeats 2000000 in
theorem encWrites_any (a : Option Addr) (l : List UInt8) (cap : Nat) (n : Int) (s : ByteArray) (i : List UInt8) (u : Nat) (w : World) (hb : BytesAt w a l) (hl : l.length ≤ 1048576) (hs : s.size ≤ 1048576) (hi32 : i.length = 32) (hu : u < 4294967296) :
    Calls Try.prog 3 #[.slice a l.length cap, .int .i64 n, .string s, .agg (bvs i).toArray, .int .u32 (u : Int)] w fun e w' => e = .returned (.bool true) ∧ Below w.heap.size w w' := by
  obtain ⟨XL, hXL⟩ : ∃ XL, XL = bvs i := ⟨_, rfl⟩
  have hL32 : XL.length = 32 := by rw [hXL, bvs_length, hi32]
  obtain ⟨w0, hw0⟩ : ∃ w0, w0 = w.alloc (.cells XL.toArray 24) := ⟨_, rfl⟩
  have hbox : w0.heap[w.heap.size]? = some (.cells XL.toArray 24 (0, 0)) := by rw [hw0]; exact heap_alloc_new _ _
  have hb0 : Below w.heap.size w w0 := by rw [hw0]; exact (Below.refl _ w).alloc (Nat.le_refl _) _
  have hsz0 : w.heap.size < w0.heap.size := lt_of_block hbox
  have hcv : ∀ w', Below w.heap.size w w' → (convert 22 9 (.slice a l.length cap)).run Try.prog w' = .ok (.string ⟨l.toArray⟩) w' := fun w' h => conv_bytes (hb.later h) cap
  have hE9 : (encNum (clampN n)).length ≤ 9 := encNum_le9 (clampN_le n)
  have hT9 : (encText s).length ≤ 1048600 := by
    unfold encText
    have := encNum_le9 (n := s.size) (by omega)
    have h2 : s.data.toList.length = s.size := Array.length_toList
    rw [List.length_append, h2]
    omega
  have h4 : (four u).length = 4 := rfl
  have HCV := Lib.hid hcv
  have HBOX := Lib.hid hbox
  have H4 := Lib.hid h4
  have H32 := Lib.hid hi32
  have HL32 := Lib.hid hL32
  have HXL := Lib.hid hXL
  rw [← hXL]
  clear hbox hcv h4 hL32 hXL hi32
  obtain ⟨J, hJ⟩ : ∃ J, J = l ++ i := ⟨_, rfl⟩
  obtain ⟨F, hF⟩ : ∃ F, F = four u := ⟨_, rfl⟩
  obtain ⟨K, hK⟩ : ∃ K, K = l ++ F := ⟨_, rfl⟩
  have hlF : F.length = 4 := by rw [hF]; rfl
  have hlJ : J.length ≤ 1048608 := by rw [hJ, List.length_append, H32.out]; omega
  have hlK : K.length ≤ 1048580 := by rw [hK, List.length_append, hlF]; omega
  have hc1 : ∀ W, Below w.heap.size w W → Calls Try.prog 18 #[.slice a l.length cap, .agg XL.toArray] W (ReadPost W J) := by
    intro W h; rw [hJ, HXL.out]; exact id_read a l i cap W (hb.later h) H32.out (by omega)
  have hc2 : ∀ W, Calls Try.prog 19 #[.agg XL.toArray] W (ReadPost W i) := by
    intro W; rw [HXL.out]; exact refid_any i W H32.out
  have hc3 : ∀ W x c, Below w.heap.size w W → BytesAt W x i → Calls Try.prog 14 #[.slice a l.length cap, .slice x i.length c] W (ReadPost W J) := by
    intro W x c h hx; rw [hJ]; exact join_read a x l i cap c W (hb.later h) hx (by rw [H32.out]; omega)
  have hc4 : ∀ W x y c d, BytesAt W x J → BytesAt W y J → Calls Try.prog 13 #[.slice x J.length c, .slice y J.length d] W fun e w' => e = .returned (.bool true) ∧ Below W.heap.size W w' := by
    intro W x y c d hx hy
    have := same_any x y J J c d W hx hy (by omega) (by omega)
    rwa [decide_eq_true rfl] at this
  have hc5 : ∀ W, Below w.heap.size w W → Calls Try.prog 11 #[.slice a l.length cap, .int .u32 (u : Int)] W (ReadPost W K) := by
    intro W h; rw [hK, hF]; exact four_any a l cap u W (hb.later h) (by omega)
  have hc6 : ∀ W, Calls Try.prog 20 #[.int .u32 (u : Int)] W (ReadPost W F) := by
    intro W; rw [hF]; exact reffour_any u W hu
  have hc7 : ∀ W x c, Below w.heap.size w W → BytesAt W x F → Calls Try.prog 14 #[.slice a l.length cap, .slice x F.length c] W (ReadPost W K) := by
    intro W x c h hx; rw [hK]; exact join_read a x l F cap c W (hb.later h) hx (by rw [hlF]; omega)
  have hc8 : ∀ W x y c d, BytesAt W x K → BytesAt W y K → Calls Try.prog 13 #[.slice x K.length c, .slice y K.length d] W fun e w' => e = .returned (.bool true) ∧ Below W.heap.size W w' := by
    intro W x y c d hx hy
    have := same_any x y K K c d W hx hy (by omega) (by omega)
    rwa [decide_eq_true rfl] at this
  have HC1 := Lib.hid hc1
  have HC2 := Lib.hid hc2
  have HC3 := Lib.hid hc3
  have HC4 := Lib.hid hc4
  have HC5 := Lib.hid hc5
  have HC6 := Lib.hid hc6
  have HC7 := Lib.hid hc7
  have HC8 := Lib.hid hc8
  clear hc1 hc2 hc3 hc4 hc5 hc6 hc7 hc8 hJ hF hK hlF hlJ hlK
  go_enter Try.func3, Try.ntmps3
  go_upto_region 1 with (fail)
  rw [← hw0]
  clear hw0
  go_wp2_with fail
  refine (writing_any w0).mono ?_
  rintro e w1 ⟨rfl, hb1⟩
  have hq1 := hb0.trans (hb1.mono hb0.size)
  have hz1 := hb1.size
  have HBOX1 := Lib.hid (show w1.heap[w.heap.size]? = some (.cells XL.toArray 24 (0, 0)) by rw [hb1.block _ hsz0]; exact HBOX.out)
  clear hb1
  go_wp2_with fail
  refine (four_any none [] 0 1 w1 (BytesAt.nil _ _) (by simp)).mono ?_
  rw [show ([] : List UInt8) ++ four 1 = [1, 0, 0, 0] from rfl]
  rintro e w2 ⟨a2, c2, rfl, _, hb2, _⟩
  have hq2 := hq1.trans (hb2.mono hq1.size)
  have hz2 := hb2.size
  have HBOX2 := Lib.hid (show w2.heap[w.heap.size]? = some (.cells XL.toArray 24 (0, 0)) by rw [hb2.block _ (by omega)]; exact HBOX1.out)
  clear hb2 hq1
  have hc2 := HCV.out w2 hq2
  go_wp2_with fail
  refine (num_any a l cap n w2 (hb.later hq2) (by omega)).mono ?_
  rintro e w3 ⟨v, rfl, hown, hb3⟩
  clear hc2
  obtain ⟨E, hE⟩ : ∃ E, E = encNum (clampN n) := ⟨_, rfl⟩
  rw [← hE] at hown hE9
  obtain ⟨L, hL⟩ : ∃ L, L = l ++ E := ⟨_, rfl⟩
  obtain ⟨M, hM⟩ : ∃ M, M = l ++ encText s := ⟨_, rfl⟩
  have hlE : L.length ≤ 1048585 := by rw [hL, List.length_append]; omega
  have hlM : M.length ≤ 2097200 := by rw [hM, List.length_append]; omega
  rw [← hL] at hown
  obtain ⟨g, gc, cur, hv, hgb, hg, hgn, hgc⟩ : ∃ g gc cur, v = .slice (some ⟨g, 0, none⟩) L.length gc ∧ w.heap.size ≤ g ∧ w3.heap[g]? = some (.cells cur 5 (0, 0)) ∧ L.length ≤ cur.size ∧ L.length ≤ gc := by
    rcases hown.2 with ⟨_, h0⟩ | ⟨g, gc, cur, h1, h2, h3, h4, h5, h6, h7⟩
    · have h8 := encNum_pos (clampN n)
      rw [← hE] at h8
      have h9 : L.length = 0 := h0
      rw [hL, List.length_append] at h9
      omega
    · exact ⟨g, gc, cur, h1, Nat.le_trans hq2.size h2, h3, by rw [h6]; omega, h4⟩
  obtain ⟨a3, c3, hv', hB3, _, _, _⟩ := BytesAt.row hown
  rw [hv] at hv'
  obtain ⟨rfl, rfl⟩ : a3 = some ⟨g, 0, none⟩ ∧ c3 = gc := by
    injection hv' with h1 h2 h3
    exact ⟨h1.symm, h3.symm⟩
  rw [hv]
  clear hv hv' hown
  have HL := Lib.hid hL
  have HM := Lib.hid hM
  clear hL hM
  have hq3 := hq2.trans (hb3.mono hq2.size)
  have hz3 := hb3.size
  have HBOX3 := Lib.hid (show w3.heap[w.heap.size]? = some (.cells XL.toArray 24 (0, 0)) by rw [hb3.block _ (by omega)]; exact HBOX2.out)
  have hlt3 := lt_of_block hg
  have HE := Lib.hid hE
  have HG := Lib.hid hg
  clear hE hg hb3 hq2
  go_wp2_with fail
  refine (refnum_read _ _).mono ?_
  rw [← HE.out]
  rintro e w4 ⟨a4, c4, rfl, hB4, hb4, _⟩
  have hq4 := hq3.trans (hb4.mono hq3.size)
  have hx4 := hb4
  have hB34 := hB3.later hb4
  clear hB3 hq3
  go_wp2_with fail
  refine (join_read _ _ l E _ _ w4 (hb.later hq4) hB4 (by omega)).mono ?_
  rw [← HL.out]
  rintro e w5 ⟨a5, c5, rfl, hB5, hb5, _⟩
  have hq5 := hq4.trans (hb5.mono hq4.size)
  have hx5 := hx4.trans (hb5.mono hx4.size)
  have hB35 := hB34.later hb5
  clear hB34 hq4 hx4 hB4 hb4 hb5
  go_wp2_with fail
  refine (same_any _ _ L L _ _ w5 hB35 hB5 (by omega) (by omega)).mono ?_
  rw [decide_eq_true rfl]
  rintro e w6 ⟨rfl, hb6⟩
  have hq6 := hq5.trans (hb6.mono hq5.size)
  have hx6 := hx5.trans (hb6.mono hx5.size)
  clear hB35 hB5 hb6 hq5 hx5
  go_wp2_with fail
  refine (text_read a l cap s w6 (hb.later hq6) (by omega)).mono ?_
  rw [← HM.out]
  rintro e w7 ⟨a7, c7, rfl, hB7, hb7, _⟩
  have hq7 := hq6.trans (hb7.mono hq6.size)
  have hx7 := hx6.trans (hb7.mono hx6.size)
  clear hb7 hq6 hx6
  go_wp2_with fail
  refine (reftext_any s w7 (by omega)).mono ?_
  rintro e w8 ⟨a8, c8, rfl, hB8, hb8, _⟩
  have hq8 := hq7.trans (hb8.mono hq7.size)
  have hx8 := hx7.trans (hb8.mono hx7.size)
  have hB78 := hB7.later hb8
  clear hb8 hq7 hx7 hB7
  go_wp2_with fail
  refine (join_read _ _ l (encText s) _ _ w8 (hb.later hq8) hB8 (by omega)).mono ?_
  rw [← HM.out]
  rintro e w9 ⟨a9, c9, rfl, hB9, hb9, _⟩
  have hq9 := hq8.trans (hb9.mono hq8.size)
  have hx9 := hx8.trans (hb9.mono hx8.size)
  have hB79 := hB78.later hb9
  clear hb9 hq8 hx8 hB8 hB78
  go_wp2_with fail
  refine (same_any _ _ M M _ _ w9 hB79 hB9 (by omega) (by omega)).mono ?_
  rw [decide_eq_true rfl]
  rintro e w10 ⟨rfl, hb10⟩
  have hq10 := hq9.trans (hb10.mono hq9.size)
  have hx10 := hx9.trans (hb10.mono hx9.size)
  clear hb10 hq9 hx9 hB9 hB79
  go_wp2_with fail
  have hkeep : ∀ W, Below w3.heap.size w3 W → W.heap[w.heap.size]? = some (.cells XL.toArray 24 (0, 0)) := by
    intro W h
    rw [h.block _ (by omega)]; exact HBOX3.out
  have HKP := Lib.hid hkeep
  have hqD : Below w.heap.size w w10.drew := hq10.drew
  have hxD : Below w3.heap.size w3 w10.drew := hx10.drew
  have hszX : (Try.prog.info? 24).map (·.size) = some XL.length := by rw [HL32.out]; kernel_rfl
  clear hkeep hq10 hx10
  have HSX := Lib.hid (show (Try.prog.info? 24).map (·.size) = some XL.toArray.size from hszX)
  clear hszX
  refine wp_region_sched (fun W => W.heap[w.heap.size]? = some (.cells XL.toArray 24 (0, 0))) [([0, 1, 3, 4], 2), ([], 5), ([], 6), ([], 7), ([8, 9, 10, 11, 13, 14], 12), ([], 15), ([], 16), ([], 17)] [18, 19] (by kernel_rfl) (by kernel_rfl) (fun _ _ d _ _ h => by cases d <;> exact h) (by kernel_rfl) (of_decide_eq_true (by kernel_rfl)) (HKP.out _ hxD) ?_
  refine wpSched_cons ?_
  dsimp only [opsAt, List.filterMap, List.getElem?_cons_zero, List.getElem?_cons_succ]
  repeat (first
    | go_big_quiet_skip
    | (go_big_quiet_want
       first
         | (refine quiet_load_row' 24 (.tmp 8) rfl w.heap.size rfl 24 XL.toArray (0, 0) _ (fun W h => h) Try.underlying24 rfl HSX.out ?_
            simp only [Act.put, List.setIfInBounds_toArray, List.set_cons_zero, List.set_cons_succ]
            go_big_quiet_on)
         | (go_big_quiet_op
            refine ⟨_, fun _ _ => rfl, ?_⟩
            go_big_quiet_on)
         | (go_big_quiet_op
            go_big_quiet_on)))
  refine wpQuiet_nil ?_
  intro KK hKK
  go_simp
  refine (HC1.out _ hqD).mono ?_
  rintro e w11 ⟨a11, c11, rfl, hB11, hb11, _⟩
  have hq11 := hqD.trans (hb11.mono hqD.size)
  have hx11 := hxD.trans (hb11.mono hxD.size)
  refine hKK _ _ (HKP.out _ hx11) ?_
  clear hKK KK
  try simp only [Act.put, List.setIfInBounds_toArray, List.set_cons_zero, List.set_cons_succ]
  refine wpSched_cons ?_
  dsimp only [opsAt, List.filterMap, List.getElem?_cons_zero, List.getElem?_cons_succ]
  refine wpQuiet_nil ?_
  intro KK hKK
  go_simp
  refine (HC2.out _).mono ?_
  rintro e w12 ⟨a12, c12, rfl, hB12, hb12, _⟩
  have hq12 := hq11.trans (hb12.mono hq11.size)
  have hx12 := hx11.trans (hb12.mono hx11.size)
  have hB112 := hB11.later hb12
  refine hKK _ _ (HKP.out _ hx12) ?_
  clear hKK KK
  try simp only [Act.put, List.setIfInBounds_toArray, List.set_cons_zero, List.set_cons_succ]
  refine wpSched_cons ?_
  dsimp only [opsAt, List.filterMap, List.getElem?_cons_zero, List.getElem?_cons_succ]
  refine wpQuiet_nil ?_
  intro KK hKK
  go_simp
  refine (HC3.out _ _ _ hq12 hB12).mono ?_
  rintro e w13 ⟨a13, c13, rfl, hB13, hb13, _⟩
  have hq13 := hq12.trans (hb13.mono hq12.size)
  have hx13 := hx12.trans (hb13.mono hx12.size)
  have hB113 := hB112.later hb13
  refine hKK _ _ (HKP.out _ hx13) ?_
  clear hKK KK
  try simp only [Act.put, List.setIfInBounds_toArray, List.set_cons_zero, List.set_cons_succ]
  refine wpSched_cons ?_
  dsimp only [opsAt, List.filterMap, List.getElem?_cons_zero, List.getElem?_cons_succ]
  refine wpQuiet_nil ?_
  intro KK hKK
  go_simp
  refine (HC4.out _ _ _ _ _ hB113 hB13).mono ?_
  rintro e w14 ⟨rfl, hb14⟩
  have hq14 := hq13.trans (hb14.mono hq13.size)
  have hx14 := hx13.trans (hb14.mono hx13.size)
  clear hq11 hx11 hB11 hb11 hB12 hb12 hq12 hx12 hB112 hB13 hb13 hq13 hx13 hB113 hb14
  refine hKK _ _ (HKP.out _ hx14) ?_
  clear hKK KK
  try simp only [Act.put, List.setIfInBounds_toArray, List.set_cons_zero, List.set_cons_succ]
  refine wpSched_cons ?_
  dsimp only [opsAt, List.filterMap, List.getElem?_cons_zero, List.getElem?_cons_succ]
  repeat (first
    | go_big_quiet_skip
    | (go_big_quiet_want
       first
         | (refine quiet_load_row' 24 (.tmp 8) rfl w.heap.size rfl 24 XL.toArray (0, 0) _ (fun W h => h) Try.underlying24 rfl HSX.out ?_
            simp only [Act.put, List.setIfInBounds_toArray, List.set_cons_zero, List.set_cons_succ]
            go_big_quiet_on)
         | (go_big_quiet_op
            refine ⟨_, fun _ _ => rfl, ?_⟩
            go_big_quiet_on)
         | (go_big_quiet_op
            go_big_quiet_on)))
  refine wpQuiet_nil ?_
  intro KK hKK
  go_simp
  refine (HC5.out _ hq14).mono ?_
  rintro e w15 ⟨a15, c15, rfl, hB15, hb15, _⟩
  have hq15 := hq14.trans (hb15.mono hq14.size)
  have hx15 := hx14.trans (hb15.mono hx14.size)
  refine hKK _ _ (HKP.out _ hx15) ?_
  clear hKK KK
  try simp only [Act.put, List.setIfInBounds_toArray, List.set_cons_zero, List.set_cons_succ]
  refine wpSched_cons ?_
  dsimp only [opsAt, List.filterMap, List.getElem?_cons_zero, List.getElem?_cons_succ]
  refine wpQuiet_nil ?_
  intro KK hKK
  go_simp
  refine (HC6.out _).mono ?_
  rintro e w16 ⟨a16, c16, rfl, hB16, hb16, _⟩
  have hq16 := hq15.trans (hb16.mono hq15.size)
  have hx16 := hx15.trans (hb16.mono hx15.size)
  have hB156 := hB15.later hb16
  refine hKK _ _ (HKP.out _ hx16) ?_
  clear hKK KK
  try simp only [Act.put, List.setIfInBounds_toArray, List.set_cons_zero, List.set_cons_succ]
  refine wpSched_cons ?_
  dsimp only [opsAt, List.filterMap, List.getElem?_cons_zero, List.getElem?_cons_succ]
  refine wpQuiet_nil ?_
  intro KK hKK
  go_simp
  refine (HC7.out _ _ _ hq16 hB16).mono ?_
  rintro e w17 ⟨a17, c17, rfl, hB17, hb17, _⟩
  have hq17 := hq16.trans (hb17.mono hq16.size)
  have hx17 := hx16.trans (hb17.mono hx16.size)
  have hB157 := hB156.later hb17
  refine hKK _ _ (HKP.out _ hx17) ?_
  clear hKK KK
  try simp only [Act.put, List.setIfInBounds_toArray, List.set_cons_zero, List.set_cons_succ]
  refine wpSched_cons ?_
  dsimp only [opsAt, List.filterMap, List.getElem?_cons_zero, List.getElem?_cons_succ]
  refine wpQuiet_nil ?_
  intro KK hKK
  go_simp
  refine (HC8.out _ _ _ _ _ hB157 hB17).mono ?_
  rintro e w18 ⟨rfl, hb18⟩
  have hq18 := hq17.trans (hb18.mono hq17.size)
  have hx18 := hx17.trans (hb18.mono hx17.size)
  clear hq14 hx14 hB15 hb15 hq15 hx15 hB16 hb16 hq16 hx16 hB156 hB17 hb17 hq17 hx17 hB157 hb18
  refine hKK _ _ (HKP.out _ hx18) ?_
  clear hKK KK
  try simp only [Act.put, List.setIfInBounds_toArray, List.set_cons_zero, List.set_cons_succ]
  refine wpSched_nil ?_
  dsimp only [opsAt, List.filterMap, List.getElem?_cons_zero, List.getElem?_cons_succ]
  repeat (first
    | go_big_quiet_skip
    | (go_big_quiet_want
       first
         | (refine quiet_load_row' 24 (.tmp 8) rfl w.heap.size rfl 24 XL.toArray (0, 0) _ (fun W h => h) Try.underlying24 rfl HSX.out ?_
            simp only [Act.put, List.setIfInBounds_toArray, List.set_cons_zero, List.set_cons_succ]
            go_big_quiet_on)
         | (go_big_quiet_op
            refine ⟨_, fun _ _ => rfl, ?_⟩
            go_big_quiet_on)
         | (go_big_quiet_op
            go_big_quiet_on)))
  refine wpQuiet_nil ?_
  have hg18 : w18.heap[g]? = some (.cells cur 5 (0, 0)) := by rw [hx18.block _ hlt3]; exact HG.out
  have HS18 : Hid (∃ cur', w18.heap[g]? = some (.cells cur' 5 (0, 0)) ∧ L.length ≤ cur'.size) := Lib.hid ⟨cur, hg18, hgn⟩
  clear hg18 hx18
  go_wp2_with fail
  go_loopw [13, 66] (fun _ s66 wr => ∃ k : Nat, k ≤ L.length ∧ s66 = .int .i64 (k : Int) ∧ Below w.heap.size w wr ∧ Hid (∃ cur', wr.heap[g]? = some (.cells cur' 5 (0, 0)) ∧ L.length ≤ cur'.size)) (fun _ s66 _ => L.length - (intOf s66).toNat)
  case atStart => exact ⟨0, Nat.zero_le _, rfl, hq18, HS18⟩
  case round =>
    obtain ⟨k, hk, rfl, hbr, HSr⟩ := hrel
    clear hq18 HS18
    by_cases hlt : k < L.length
    · obtain ⟨cur', hg', hn'⟩ := HSr.out
      have hcell : wr.cell? ⟨g, k, none⟩ = some (cur'[k]'(by omega)) := by rw [cell_of_block hg', Array.getElem?_eq_getElem]
      have hfr : ∀ j, wr.frozen? ⟨g, j, none⟩ = false := fun j => free_of_block hg'
      have HGr := Lib.hid hg'
      clear hg' HSr
      go_wp2_with fail
      go_roundw
      case rel =>
        refine ⟨k + 1, by omega, by go_num, hbr.setCell (by show w.heap.size ≤ g; omega) _, Lib.hid ⟨_, heap_setCell_same wr g k _ _ _ HGr.out, by simpa using hn'⟩⟩
      case measure => simp [intOf]; omega
    · have hcvr := HCV.out wr hbr
      go_wp2_with fail
      go_ret
      exact ⟨by simp, hbr⟩

theorem encWrites_walk (w : World) (a0 : Option Addr) (len0 cap0 : Nat) (z0 : List Int) (w0 : IsRow .u8 w a0 len0 cap0 z0) (a1 : Int) (_ : (Lit.int .i64 a1).wf = true) (s : ByteArray) (_ : s.size ≤ maxLen) (i : List UInt8) (hi : i.length = 32) (a4 : Int) (w4 : (Lit.int .u32 a4).wf = true) (h0 : len0 ≤ 1048576) (hs : s.size ≤ 1048576) :
    Calls Try.prog 3 #[.slice a0 len0 cap0, .int .i64 a1, .string s, .agg (bvs i).toArray, .int .u32 a4] w fun e w' => e = .returned (.bool true) ∧ Below w.heap.size w w' := by
  obtain ⟨l, rfl, hl, hm, hb⟩ := w0.bytes
  have h4 : 0 ≤ a4 ∧ a4 ≤ 4294967295 := by simpa [Lit.wf, IntKind.min, IntKind.max, IntKind.signed, IntKind.bits] using w4
  obtain ⟨u, rfl⟩ := Int.eq_ofNat_of_zero_le h4.1
  exact encWrites_any a0 l cap0 a1 s i u w hb h0 hs hi (by omega)
end Go.Proofs.Ytcdklimpekknnab
