/-
  The walk of stamp.Put at any operation.
-/
import Derived.Test.YtoaboehmjfnceaaPutMove
import Derived.Test.YtoaboehmjfnceaaGoodOp
namespace Go.Proofs.Ytoaboehmjfnceaa
open Go.RowKit
set_option linter.unusedSimpArgs false
set_option linter.unusedVariables false

set_option maxRecDepth 100000 in
set_option maxHeartbeats 1000000 in
theorem stamps_at (w0 : World) (R : Nat) (bs : List UInt8) (a : Option Addr) (ss : List (Int × Int)) (cap : Nat) (w : World) (h : Wrote w0.heap.size R bs w) (hw0 : Below w0.heap.size w0 w) (ha : StampsAt w0 a ss) (hl : bs.length + 18 * ss.length ≤ 140737488355000) :
    Calls Try.prog 46 #[.pointer (some ⟨R, 0, none⟩), .slice a ss.length cap] w fun e w' => e = .returned (.tuple #[]) ∧ Wrote w0.heap.size R (bs ++ encStamps ss) w' ∧ Kept w0.heap.size R w w' := by
  obtain ⟨n, hn⟩ : ∃ n, n = ss.length := ⟨_, rfl⟩
  rw [← hn]
  have h0 : Hid (Wrote w0.heap.size R (bs ++ encStamps (ss.take 0)) w) := Lib.hid (by simpa [encStamps] using h)
  have HN := Lib.hid hn
  have HAT := Lib.hid ha
  have HB0 := Lib.hid hw0
  have hl' : bs.length + 18 * n ≤ 140737488355000 := by omega
  have hB := hw0.size
  obtain ⟨B, hBB⟩ : ∃ B, B = w0.heap.size := ⟨_, rfl⟩
  rw [← hBB] at h0 hB ⊢
  have HBB := Lib.hid hBB
  clear hn h ha hl hw0 hBB
  go_enter Try.func46, Try.ntmps46
  go_wp2_with fail
  go_loopw [5, 8] (fun _ s8 wr => ∃ k : Nat, k ≤ n ∧ s8 = .int .i64 (k : Int) ∧ Hid (Wrote B R (bs ++ encStamps (ss.take k)) wr) ∧ Hid (Kept B R w wr)) (fun _ s8 _ => n - (intOf s8).toNat)
  case atStart => exact ⟨0, Nat.zero_le _, rfl, h0, Lib.hid (Kept.refl _ _ _)⟩
  case round =>
    obtain ⟨k, hk, rfl, hw, hkp⟩ := hrel
    clear h0
    by_cases hlt : k < n
    · have hkz : k < ss.length := by rw [← HN.out]; exact hlt
      have hbr : Below w0.heap.size w0 wr := HB0.out.trans (by rw [← HBB.out]; exact hkp.out.below)
      obtain ⟨b, off, rfl, hc1, hc2⟩ := (HAT.out.later hbr) k hkz
      obtain ⟨t, ht⟩ : ∃ t, t = ss[k].1 := ⟨_, rfl⟩
      obtain ⟨r, hr⟩ : ∃ r, r = ss[k].2 := ⟨_, rfl⟩
      rw [← ht] at hc1
      rw [← hr] at hc2
      have hst := encStamps_take ss k hkz
      rw [← ht, ← hr] at hst
      have hlk := encStamps_take_len ss k (by omega)
      have HST := Lib.hid hst
      have hBr : B ≤ wr.heap.size := Nat.le_trans hB hkp.out.below.size
      clear ht hr hst hbr
      have hwa : Below wr.heap.size wr ((wr.alloc (.cells #[.int .i64 t, .int .i64 r] 23)).alloc (.cells #[.int .i64 t, .int .i64 r] 2)) := ((Below.refl _ wr).alloc (Nat.le_refl _) _).alloc (by simp) _
      have hnb : ((wr.alloc (.cells #[.int .i64 t, .int .i64 r] 23)).alloc (.cells #[.int .i64 t, .int .i64 r] 2)).heap[wr.heap.size + 1]? = some (.cells (([t, r] : List Int).map (Value.int .i64)).toArray 2 (0, 0)) := by rw [heap_alloc_eq _ _ _ (by simp)]; rfl
      have hRlt := hw.out.lt
      have hnum := nums_any B R (wr.heap.size + 1) (bs ++ encStamps (ss.take k)) [t, r] _ (hw.out.later hwa) hnb (by omega) (by simp; omega) (by rw [List.length_append]; simp; omega)
      have HNM := Lib.hid hnum
      clear hnb hnum
      go_wp2_with fail
      refine HNM.out.mono ?_
      rintro e w2 ⟨rfl, hw2, hk2⟩
      have HW2 := Lib.hid hw2
      have HK2 := Lib.hid (hkp.out.trans ((Kept.of hBr hwa).trans hk2))
      clear hw2 hk2 hwa
      go_wp2_with fail
      go_roundw
      case rel => exact ⟨k + 1, by omega, by go_num, Lib.hid (by rw [HST.out, ← List.append_assoc]; have := HW2.out; simpa [encNums] using this), HK2⟩
      case measure => simp [intOf]; omega
    · go_wp2
      go_end0
      have hkn : k = ss.length := by rw [← HN.out]; omega
      have := hw.out
      rw [hkn, List.take_of_length_le (Nat.le_refl _)] at this
      exact ⟨rfl, this, hkp.out⟩

/-- The bytes of an Edit. -/
def encEdit (t r nt nr : Int) (d : List UInt8) (ss : List (Int × Int)) : List UInt8 := encNums [2] ++ encStamps [(t, r), (nt, nr)] ++ d ++ encNums [(ss.length : Int)] ++ encStamps ss
/-- The bytes of an operation. -/
def encOp (k t r nt nr pt pr : Int) (s : ByteArray) (d : List UInt8) (ss : List (Int × Int)) : List UInt8 := if k = 1 then encMove t r nt nr pt pr s else encEdit t r nt nr d ss

/-- What Put comes to. -/
def PutTo (w : World) (L : List UInt8) (e : Ending) (w' : World) : Prop := ∃ v, e = .returned v ∧ w'.ownsRow w.heap.size 5 1 v L.length (bvs L) ∧ Below w.heap.size w w'

set_option maxRecDepth 100000 in
set_option maxHeartbeats 2000000 in
theorem put_bad (a : Option Addr) (l : List UInt8) (cap : Nat) (k t r nt nr pt pr : Int) (s : ByteArray) (d : List UInt8) (ov : Value) (w : World) (hb : BytesAt w a l) (hn : a = none → cap = 0) (hd : d.length = 32) (hl : l.length ≤ 140737488354000)
    (hgood : ∀ W, Below w.heap.size w W → Calls Try.prog 18 #[.agg (opCells k t r nt nr pt pr s d ov)] W fun e w' => e = .returned (.bool false) ∧ Below W.heap.size W w') :
    Calls Try.prog 22 #[.slice a l.length cap, .agg (opCells k t r nt nr pt pr s d ov)] w (PutTo w l) := by
  unfold PutTo
  obtain ⟨X, hX⟩ : ∃ X, X = opCells k t r nt nr pt pr s d ov := ⟨_, rfl⟩
  obtain ⟨w1, hw1⟩ : ∃ w1, w1 = (w.alloc (.cells X 33)).alloc (.cells #[.slice none 0 0] 65) := ⟨_, rfl⟩
  have hXs : (Try.prog.info? 33).map (·.size) = some X.size := by rw [hX]; exact sizeOp _ _ _ _ _ _ _ _ _ _ hd
  have hg1 : w1.heap[w.heap.size]? = some (.cells X 33 (0, 0)) := by rw [hw1, heap_alloc_old _ _ (by simp), heap_alloc_eq _ _ _ rfl]
  have hR1 : w1.heap[w.heap.size + 1]? = some (.cells #[.slice none 0 0] 65 (0, 0)) := by rw [hw1, heap_alloc_eq _ _ _ (by simp)]
  have hb1 : Below w.heap.size w w1 := by rw [hw1]; exact ((Below.refl _ w).alloc (Nat.le_refl _) _).alloc (by simp) _
  have hWr : Wrote w.heap.size (w.heap.size + 1) [] w1 := ⟨by omega, _, hR1, ⟨by simp [bvs], .inl ⟨rfl, rfl⟩⟩⟩
  have hB1 := hb.later hb1
  have hz1 := lt_of_block hR1
  rw [← hX] at hgood
  have HXS := Lib.hid hXs
  have HG1 := Lib.hid hg1
  have HWR := Lib.hid hWr
  have HGD := Lib.hid hgood
  have HW1 := Lib.hid hw1
  rw [← hX]
  clear hX hXs hg1 hR1 hWr hgood hw1 hb hd
  go_enter Try.func22, Try.ntmps22
  go_upto_region 2 with (fail)
  change Code.wp _ _ _ _ ((w.alloc (.cells X 33)).alloc (.cells #[.slice none 0 0] 65))
  rw [← HW1.out]
  go_wp2_with fail
  refine (raw_any w.heap.size (w.heap.size + 1) [] a l cap w1 HWR.out hB1 hn (by simp; omega)).mono ?_
  rw [List.nil_append]
  rintro e w2 ⟨rfl, hw2, hk2⟩
  have HG2 := Lib.hid (hk2.other _ _ _ HG1.out (by omega) (by decide))
  have HWR2 := Lib.hid hw2
  clear hw2
  go_wp2_with (refine wpList_load_row rfl 33 (.tmp 3) rfl w.heap.size rfl 33 X (0, 0) _ HG2.out Try.underlying33 rfl HXS.out ?_)
  refine (HGD.out w2 (hb1.trans hk2.below)).mono ?_
  rintro e w3 ⟨rfl, hb3⟩
  have hz2 := hk2.below.size
  have hk3 := hk2.trans (Kept.of (by omega) hb3)
  have HWR3 := Lib.hid (HWR2.out.later hb3)
  clear hk2 hb3 HG2 HWR2
  go_wp2_with fail
  refine (wbytes_any _ _ _ _ HWR3.out).mono ?_
  rintro e w4 ⟨⟨v, rfl, hown⟩, rfl⟩
  go_wp2_with fail
  go_ret
  exact ⟨v, rfl, hown, hb1.trans hk3.below⟩

set_option maxRecDepth 100000 in
set_option maxHeartbeats 2000000 in
theorem put_edit (a : Option Addr) (l : List UInt8) (cap : Nat) (t r nt nr pt pr : Int) (s : ByteArray) (d : List UInt8) (oa : Option Addr) (ss : List (Int × Int)) (oc : Nat) (w : World) (hb : BytesAt w a l) (hn : a = none → cap = 0) (hd : d.length = 32) (hl : l.length ≤ 140737488353000) (ha : StampsAt w oa ss) (h64 : ss.length ≤ 64)
    (hgood : ∀ W, Below w.heap.size w W → Calls Try.prog 18 #[.agg (opCells 2 t r nt nr pt pr s d (.slice oa ss.length oc))] W fun e w' => e = .returned (.bool true) ∧ Below W.heap.size W w') :
    Calls Try.prog 22 #[.slice a l.length cap, .agg (opCells 2 t r nt nr pt pr s d (.slice oa ss.length oc))] w (PutTo w (l ++ encEdit t r nt nr d ss)) := by
  unfold PutTo
  obtain ⟨X, hX⟩ : ∃ X, X = opCells 2 t r nt nr pt pr s d (.slice oa ss.length oc) := ⟨_, rfl⟩
  obtain ⟨w1, hw1⟩ : ∃ w1, w1 = (w.alloc (.cells X 33)).alloc (.cells #[.slice none 0 0] 65) := ⟨_, rfl⟩
  have hXs : (Try.prog.info? 33).map (·.size) = some X.size := by rw [hX]; exact sizeOp _ _ _ _ _ _ _ _ _ _ hd
  have hg1 : w1.heap[w.heap.size]? = some (.cells X 33 (0, 0)) := by rw [hw1, heap_alloc_old _ _ (by simp), heap_alloc_eq _ _ _ rfl]
  have hR1 : w1.heap[w.heap.size + 1]? = some (.cells #[.slice none 0 0] 65 (0, 0)) := by rw [hw1, heap_alloc_eq _ _ _ (by simp)]
  have hb1 : Below w.heap.size w w1 := by rw [hw1]; exact ((Below.refl _ w).alloc (Nat.le_refl _) _).alloc (by simp) _
  have hWr : Wrote w.heap.size (w.heap.size + 1) [] w1 := ⟨by omega, _, hR1, ⟨by simp [bvs], .inl ⟨rfl, rfl⟩⟩⟩
  have hB1 := hb.later hb1
  have hz1 := lt_of_block hR1
  obtain ⟨n, hnn⟩ : ∃ n, n = ss.length := ⟨_, rfl⟩
  obtain ⟨D, hD⟩ : ∃ D, D = bvs d := ⟨_, rfl⟩
  have hDs : (Try.prog.info? 30).map (·.size) = some D.length := by rw [hD, bvs_length, hd]; kernel_rfl
  have hops : ∀ W : World, W.heap[w.heap.size]? = some (.cells X 33 (0, 0)) → W.rangeAt w.heap.size 8 D ∧ W.cell? ⟨w.heap.size, 40, none⟩ = some (.slice oa n oc) := fun W h => by
    have hO := opIn_of (C := fun W' => W' = W) (k := 2) (t := t) (r := r) (nt := nt) (nr := nr) (pt := pt) (pr := pr) (s := s) (d := d) (ov := .slice oa ss.length oc) (g := w.heap.size) hd (fun W' e => by rw [e, h, hX])
    exact ⟨by rw [hD]; simpa using hO.data W rfl, by rw [hnn]; exact hO.over W rfl⟩
  have hst := fun W R bs (h : Wrote w.heap.size R bs W) (hB : Below w.heap.size w W) hl => stamps_at w R bs oa ss oc W h hB ha hl
  rw [← hnn] at hst
  have hwid := fun B R bs W h h2 h3 => wid_any B R bs d W h hd h2 h3
  have hDd : (bvs d).toArray = D.toArray := by rw [hD]
  rw [hDd] at hwid
  rw [← hX] at hgood
  have HX := Lib.hid hX
  have HXS := Lib.hid hXs
  have HG1 := Lib.hid hg1
  have HWR := Lib.hid hWr
  have HGD := Lib.hid hgood
  have HW1 := Lib.hid hw1
  have HOP := Lib.hid hops
  have HST := Lib.hid hst
  have HWD := Lib.hid hwid
  have HDS := Lib.hid hDs
  have HNN := Lib.hid hnn
  have h64' : n ≤ 64 := by omega
  have hel5 : encEdit t r nt nr d ss = encNums [2] ++ encStamps [(t, r), (nt, nr)] ++ d ++ encNums [(n : Int)] ++ encStamps ss := by rw [hnn]; rfl
  have HEL := Lib.hid hel5
  have HD32 := Lib.hid hd
  rw [← hX]
  clear hX hXs hg1 hR1 hWr hgood hw1 hb hd hops hst hwid hDs hnn hD hDd hel5 ha h64
  go_enter Try.func22, Try.ntmps22
  go_upto_region 2 with (fail)
  change Code.wp _ _ _ _ ((w.alloc (.cells X 33)).alloc (.cells #[.slice none 0 0] 65))
  rw [← HW1.out]
  go_wp2_with fail
  refine (raw_any w.heap.size (w.heap.size + 1) [] a l cap w1 HWR.out hB1 hn (by simp; omega)).mono ?_
  rw [List.nil_append]
  rintro e w2 ⟨rfl, hw2, hk2⟩
  have HG2 := Lib.hid (hk2.other _ _ _ HG1.out (by omega) (by decide))
  have HWR2 := Lib.hid hw2
  clear hw2
  go_wp2_with (refine wpList_load_row rfl 33 (.tmp 3) rfl w.heap.size rfl 33 X (0, 0) _ HG2.out Try.underlying33 rfl HXS.out ?_)
  refine (HGD.out w2 (hb1.trans hk2.below)).mono ?_
  rintro e w3 ⟨rfl, hb3⟩
  have hz2 := hk2.below.size
  have hk3 := hk2.trans (Kept.of (by omega) hb3)
  have HG3 := Lib.hid (hk3.other _ _ _ HG1.out (by omega) (by decide))
  have HWR3 := Lib.hid (HWR2.out.later hb3)
  clear hk2 hb3 HG2 HWR2
  have hz3 := hk3.below.size
  obtain ⟨c0, c1, c2, c3, c4, c5, c6, c7⟩ := op_cells (show w3.heap[w.heap.size]? = some (.cells (opCells 2 t r nt nr pt pr s d (.slice oa ss.length oc)) 33 (0, 0)) by rw [← HX.out]; exact HG3.out)
  go_wp2_with fail
  have hw3a : Below w3.heap.size w3 (w3.alloc (.cells #[.int .i64 2] 2)) := (Below.refl _ _).alloc (Nat.le_refl _) _
  refine (nums_any w.heap.size (w.heap.size + 1) w3.heap.size l [2] _ (HWR3.out.later hw3a) (heap_alloc_new w3 _) (by omega) (by simp; omega) (by simp; omega)).mono ?_
  rintro e w4 ⟨rfl, hw4, hk4⟩
  have hk4' := hk3.trans ((Kept.of (by omega) hw3a).trans hk4)
  have HG4 := Lib.hid (hk4'.other _ _ _ HG1.out (by omega) (by decide))
  have HWR4 := Lib.hid hw4
  have hz4 := hk4'.below.size
  clear hw4 hk4 hk3 hw3a HG3 HWR3 c0 c1 c2 c3 c4 c5 c6 c7
  obtain ⟨c0, c1, c2, c3, c4, c5, c6, c7⟩ := op_cells (show w4.heap[w.heap.size]? = some (.cells (opCells 2 t r nt nr pt pr s d (.slice oa ss.length oc)) 33 (0, 0)) by rw [← HX.out]; exact HG4.out)
  have hw4a : Below w4.heap.size w4 (w4.alloc (.cells #[.int .i64 t, .int .i64 r, .int .i64 nt, .int .i64 nr] 23)) := (Below.refl _ _).alloc (Nat.le_refl _) _
  have hel : (l ++ encNums [2]).length ≤ l.length + 9 := by rw [List.length_append]; have := encNums_len [2]; simpa using this
  go_wp2_with fail
  refine (stamps_any w.heap.size (w.heap.size + 1) w4.heap.size (l ++ encNums [2]) [(t, r), (nt, nr)] 2 _ (HWR4.out.later hw4a) (heap_alloc_new w4 _) (by omega) (by simp; omega) (by simp at hel ⊢; omega)).mono ?_
  rintro e w5 ⟨rfl, hw5, hk5⟩
  have hk5' := hk4'.trans ((Kept.of (by omega) hw4a).trans hk5)
  have HG5 := Lib.hid (hk5'.other _ _ _ HG1.out (by omega) (by decide))
  have HWR5 := Lib.hid hw5
  have hz5 := hk5'.below.size
  clear hw5 hk5 hk4' hw4a HG4 HWR4 c0 c1 c2 c3 c4 c5 c6 c7
  obtain ⟨c0, c1, c2, c3, c4, c5, c6, c7⟩ := op_cells (show w5.heap[w.heap.size]? = some (.cells (opCells 2 t r nt nr pt pr s d (.slice oa ss.length oc)) 33 (0, 0)) by rw [← HX.out]; exact HG5.out)
  have hel2 : (l ++ encNums [2] ++ encStamps [(t, r), (nt, nr)]).length ≤ l.length + 45 := by rw [List.length_append]; have := encStamps_len [(t, r), (nt, nr)]; simp at this ⊢; simp at hel; omega
  obtain ⟨r5, v5⟩ := HOP.out w5 HG5.out
  have R5 := Lib.hid r5
  clear r5 v5
  obtain ⟨E2, hE2⟩ : ∃ E, E = l ++ encNums [2] ++ encStamps [(t, r), (nt, nr)] := ⟨_, rfl⟩
  rw [← hE2] at HWR5 hel2
  have HE2 := Lib.hid hE2
  clear hE2 hel
  go_wp2_with (refine wpList_load_mid rfl 30 (.tmp 32) rfl w.heap.size 8 rfl D _ R5.out Try.underlying30 rfl HDS.out ?_)
  refine (HWD.out w.heap.size (w.heap.size + 1) E2 w5 HWR5.out (by omega) (by omega)).mono ?_
  rintro e w6 ⟨rfl, hw6, hk6⟩
  have hk6' := hk5'.trans hk6
  have HG6 := Lib.hid (hk6'.other _ _ _ HG1.out (by omega) (by decide))
  have HWR6 := Lib.hid hw6
  have hz6 := hk6'.below.size
  have hel3 : (E2 ++ d).length ≤ l.length + 77 := by rw [List.length_append, HD32.out]; omega
  clear hw6 hk6 hk5' HG5 HWR5 R5 c0 c1 c2 c3 c4 c5 c6 c7
  obtain ⟨r6, v6⟩ := HOP.out w6 HG6.out
  have hw6a : Below w6.heap.size w6 (w6.alloc (.cells #[.int .i64 (n : Int)] 2)) := (Below.refl _ _).alloc (Nat.le_refl _) _
  clear r6
  go_wp2_with fail
  refine (nums_any w.heap.size (w.heap.size + 1) w6.heap.size (E2 ++ d) [(n : Int)] _ (HWR6.out.later hw6a) (heap_alloc_new w6 _) (by omega) (by simp; omega) (by simp at hel3 ⊢; omega)).mono ?_
  rintro e w7 ⟨rfl, hw7, hk7⟩
  have hk7' := hk6'.trans ((Kept.of (by omega) hw6a).trans hk7)
  have HG7 := Lib.hid (hk7'.other _ _ _ HG1.out (by omega) (by decide))
  have HWR7 := Lib.hid hw7
  have hel4 : (E2 ++ d ++ encNums [(n : Int)]).length ≤ l.length + 86 := by rw [List.length_append]; have := encNums_len [(n : Int)]; simp only [List.length_cons, List.length_nil] at this; omega
  clear hw7 hk7 hk6' hw6a HG6 HWR6 v6
  obtain ⟨r7, v7⟩ := HOP.out w7 HG7.out
  clear r7
  go_wp2_with fail
  refine (HST.out w7 (w.heap.size + 1) (E2 ++ d ++ encNums [(n : Int)]) HWR7.out (hb1.trans hk7'.below) (by omega)).mono ?_
  rintro e w8 ⟨rfl, hw8, hk8⟩
  have hk8' := hk7'.trans hk8
  have HWR8 := Lib.hid hw8
  clear hw8 hk8 hk7' HG7 HWR7 v7
  go_wp2_with fail
  refine (wbytes_any _ _ _ _ HWR8.out).mono ?_
  rintro e w9 ⟨⟨v, rfl, hown⟩, rfl⟩
  have he : E2 ++ d ++ encNums [(n : Int)] ++ encStamps ss = l ++ encEdit t r nt nr d ss := by rw [HEL.out, HE2.out]; simp
  rw [he] at hown
  go_wp2_with fail
  go_ret
  exact ⟨v, rfl, ownsRow_cast hown rfl rfl, hb1.trans hk8'.below⟩

/-- What a right operation is: the fields of its kind. -/
theorem good_move {k t r nt nr pt pr : Int} {s : ByteArray} {d : List UInt8} {ss : List (Int × Int)} (h : goodOpB k t r nt nr pt pr s d ss = true) :
    (k = 1 ∧ d = id0 ∧ ss = [] ∧ s.size ≤ 60) ∨ (k = 2 ∧ ss.length ≤ 64 ∧ pt = 0 ∧ pr = 0 ∧ s.toList.isEmpty = true) := by
  unfold goodOpB goodV moveB editB overB nameV at h
  simp only [Bool.and_eq_true] at h
  by_cases h1 : k = 1
  · rw [if_pos h1] at h
    simp only [Bool.and_eq_true, decide_eq_true_eq] at h
    exact .inl ⟨h1, h.2.2.2.2.2.1, List.eq_nil_of_length_eq_zero h.2.2.2.2.2.2, by have := h.2.2.2.2.1; omega⟩
  · rw [if_neg h1] at h
    by_cases h2 : k = 2
    · rw [if_pos h2] at h
      simp only [Bool.and_eq_true, decide_eq_true_eq] at h
      exact .inr ⟨h2, h.2.2.2.2.2.2.1, h.2.2.2.1.1, h.2.2.2.1.2, h.2.2.2.2.1⟩
    · rw [if_neg h2] at h
      simp at h

theorem putop_any (a : Option Addr) (l : List UInt8) (cap : Nat) (k t r nt nr pt pr : Int) (s : ByteArray) (d : List UInt8) (oa : Option Addr) (ss : List (Int × Int)) (oc : Nat) (w : World) (hb : BytesAt w a l) (hn : a = none → cap = 0) (hl : l.length ≤ 140737488353000) (hd : d.length = 32) (hm : s.size ≤ maxLen) (ha : StampsAt w oa ss) (hss : ss.length ≤ 4611686018427387903) :
    Calls Try.prog 22 #[.slice a l.length cap, .agg (opCells k t r nt nr pt pr s d (.slice oa ss.length oc))] w (PutTo w (if goodOpB k t r nt nr pt pr s d ss = true then l ++ encOp k t r nt nr pt pr s d ss else l)) := by
  have hgd := fun W (h : Below w.heap.size w W) => goodop_any k t r nt nr pt pr s d oa ss oc W hd hm (ha.later h) hss
  by_cases hg : goodOpB k t r nt nr pt pr s d ss = true
  · rw [if_pos hg]
    rw [hg] at hgd
    rcases good_move hg with ⟨rfl, rfl, rfl, h60⟩ | ⟨rfl, h64, _, _, _⟩
    · have h := put_move true a l cap t r nt nr pt pr s id0 (.slice oa ([] : List (Int × Int)).length oc) w hb hn rfl (by omega) (fun W => by
        have h2 := goodop_any 1 t r nt nr pt pr s id0 oa [] oc W rfl hm (fun i hi => absurd hi (by simp)) (by simp)
        rw [hg] at h2
        exact h2)
      rw [if_pos rfl] at h
      unfold encOp
      rw [if_pos rfl]
      exact h
    · unfold encOp
      rw [if_neg (by decide)]
      exact put_edit a l cap t r nt nr pt pr s d oa ss oc w hb hn hd hl ha h64 hgd
  · have hf : goodOpB k t r nt nr pt pr s d ss = false := by simpa using hg
    rw [if_neg hg]
    rw [hf] at hgd
    exact put_bad a l cap k t r nt nr pt pr s d (.slice oa ss.length oc) w hb hn hd (by omega) hgd
end Go.Proofs.Ytoaboehmjfnceaa
