/-
  The walk of the reference's Get.
-/
import Derived.Test.YtoaboehmjfnceaaRefGet
import Derived.Test.YtoaboehmjfnceaaRefGood
import Derived.Test.YtoaboehmjfnceaaPutOp
namespace Go.Proofs.Ytoaboehmjfnceaa
open Go.RowKit
set_option linter.unusedSimpArgs false
set_option linter.unusedVariables false

theorem stamp_no_byte (t r : Int) : ∀ (i : Nat) (k : Int), (stampCells t r)[i]? ≠ some (Value.int .u8 k) := by
  intro i k h
  match i, h with
  | 0, h => simp [stampCells] at h
  | 1, h => simp [stampCells] at h
  | i + 2, h => simp [stampCells] at h
/-- Two new blocks, that hold what is stored there. -/
theorem two_new (w : World) (T U : TypeId) (O P X Y : Array Value) :
    (w.alloc (.cells O T)).alloc (.cells P U) = (w.alloc (.cells O T)).alloc (.cells P U) ∧
    ((w.alloc (.cells O T)).alloc (.cells P U)).heap[w.heap.size]? = some (.cells O T (0, 0)) ∧
    (((w.alloc (.cells O T)).alloc (.cells P U)).setRow w.heap.size X).heap[w.heap.size + 1]? = some (.cells P U (0, 0)) ∧
    ((((w.alloc (.cells O T)).alloc (.cells P U)).setRow w.heap.size X).setRow (w.heap.size + 1) Y).heap[w.heap.size]? = some (.cells X T (0, 0)) ∧
    ((((w.alloc (.cells O T)).alloc (.cells P U)).setRow w.heap.size X).setRow (w.heap.size + 1) Y).heap[w.heap.size + 1]? = some (.cells Y U (0, 0)) ∧
    Below w.heap.size w ((((w.alloc (.cells O T)).alloc (.cells P U)).setRow w.heap.size X).setRow (w.heap.size + 1) Y) := by
  have h1 : ((w.alloc (.cells O T)).alloc (.cells P U)).heap[w.heap.size]? = some (.cells O T (0, 0)) := by rw [heap_alloc_old _ _ (by simp), heap_alloc_eq _ _ _ rfl]
  have h2 : ((w.alloc (.cells O T)).alloc (.cells P U)).heap[w.heap.size + 1]? = some (.cells P U (0, 0)) := by rw [heap_alloc_eq _ _ _ (by simp)]
  have h3 : (((w.alloc (.cells O T)).alloc (.cells P U)).setRow w.heap.size X).heap[w.heap.size + 1]? = some (.cells P U (0, 0)) := by rw [setRow_other _ _ _ _ (by omega)]; exact h2
  have h4 := setRow_heap _ w.heap.size _ X _ _ h1
  refine ⟨rfl, h1, h3, ?_, setRow_heap _ _ _ Y _ _ h3, ?_⟩
  · rw [setRow_other _ _ _ _ (by omega)]; exact h4
  · exact below_setRow (below_setRow (((Below.refl _ w).alloc (Nat.le_refl _) _).alloc (by simp) _) (by omega)) (by omega)

/-- What Get comes to. -/
def RefGotOp (w0 : World) (o : OpV) (l : List UInt8) (f : Bool) (w : World) (e : Ending) (w' : World) : Prop :=
  Below w.heap.size w w' ∧ ∃ oa oc a c, e = .returned (.tuple #[.agg (o.cells (.slice oa o.ss.length oc)), .agg (inCells a l.length c f)]) ∧ StampsAt w' oa o.ss ∧ InAt w0 a c l ∧ (f = true → l = [])

/-- An operation that has its kind and its stamps only, as the model writes it. -/
def opLit (k t r nt nr : Int) : Array Value := #[.int .i64 k, .int .i64 t, .int .i64 r, .int .i64 nt, .int .i64 nr, .int .i64 0, .int .i64 0, .string ⟨#[]⟩, .int .u8 0, .int .u8 0, .int .u8 0, .int .u8 0, .int .u8 0, .int .u8 0, .int .u8 0, .int .u8 0, .int .u8 0, .int .u8 0, .int .u8 0, .int .u8 0, .int .u8 0, .int .u8 0, .int .u8 0, .int .u8 0, .int .u8 0, .int .u8 0, .int .u8 0, .int .u8 0, .int .u8 0, .int .u8 0, .int .u8 0, .int .u8 0, .int .u8 0, .int .u8 0, .int .u8 0, .int .u8 0, .int .u8 0, .int .u8 0, .int .u8 0, .int .u8 0, .slice none 0 0]
theorem opLit_eq (k t r nt nr : Int) : opLit k t r nt nr = opCells k t r nt nr 0 0 ⟨#[]⟩ id0 (.slice none 0 0) := rfl
theorem opLit_one (k t r nt nr : Int) : (opLit k t r nt nr).all (·.oneCell') = true := by rw [opLit_eq]; exact opCells_one _ _ _ _ _ _ _ _ _ _ _ _
theorem opLit_size (k t r nt nr : Int) : (Try.prog.info? 33).map (·.size) = some (opLit k t r nt nr).size := sizeZop

/-- The state of the walk, the operation o lying in gO, the reader c in gC. -/
structure RefSt (w0 w : World) (gO gC : Nat) (X : Array Value) (a : Option Addr) (c : Nat) (l : List UInt8) (f : Bool) (W : World) : Prop where
  below : Below w.heap.size w W
  op : W.heap[gO]? = some (.cells X 33 (0, 0))
  inn : W.heap[gC]? = some (.cells (inCells a l.length c f) 46 (0, 0))
  res1 : W.heap[w.heap.size + 1]? = some (.cells zopLit 33 (0, 0))
  res2 : W.heap[w.heap.size + 2]? = some (.cells (inCells none 0 0 false) 46 (0, 0))
  bytes : InAt w0 a c l
  failed : f = true → l = []
  hO : w.heap.size + 3 ≤ gO
  hC : w.heap.size + 3 ≤ gC
  ne : gO ≠ gC
theorem RefSt.later {w0 w : World} {gO gC : Nat} {X : Array Value} {a : Option Addr} {c : Nat} {l : List UInt8} {f : Bool} {W W' : World} (h : RefSt w0 w gO gC X a c l f W) (hb : Below W.heap.size W W') : RefSt w0 w gO gC X a c l f W' :=
  ⟨h.below.trans (hb.mono h.below.size), by rw [hb.block _ (lt_of_block h.op)]; exact h.op, by rw [hb.block _ (lt_of_block h.inn)]; exact h.inn, by rw [hb.block _ (lt_of_block h.res1)]; exact h.res1, by rw [hb.block _ (lt_of_block h.res2)]; exact h.res2, h.bytes, h.failed, h.hO, h.hC, h.ne⟩
/-- Another block is changed. -/
theorem RefSt.row {w0 w : World} {gO gC : Nat} {X : Array Value} {a : Option Addr} {c : Nat} {l : List UInt8} {f : Bool} {W W' : World} {row : Option Nat} (h : RefSt w0 w gO gC X a c l f W) (hg : W.grownBy W' row) (hr : ∀ g, row = some g → w.heap.size + 3 ≤ g ∧ g ≠ gO ∧ g ≠ gC) : RefSt w0 w gO gC X a c l f W' :=
  ⟨⟨hg.os.trans h.below.os, hg.tape.trans h.below.tape, hg.output.trans h.below.output, Nat.le_trans h.below.size hg.size, fun k hk => (hg.block k (Nat.lt_of_lt_of_le hk h.below.size) (fun e => by have := hr k e.symm; omega)).trans (h.below.block k hk)⟩,
    by rw [hg.block _ (lt_of_block h.op) (fun e => (hr gO e.symm).2.1 rfl)]; exact h.op, by rw [hg.block _ (lt_of_block h.inn) (fun e => (hr gC e.symm).2.2 rfl)]; exact h.inn,
    by rw [hg.block _ (lt_of_block h.res1) (fun e => by have := hr _ e.symm; omega)]; exact h.res1, by rw [hg.block _ (lt_of_block h.res2) (fun e => by have := hr _ e.symm; omega)]; exact h.res2, h.bytes, h.failed, h.hO, h.hC, h.ne⟩
/-- The operation is changed. -/
theorem RefSt.setOp {w0 w : World} {gO gC : Nat} {X Y : Array Value} {a : Option Addr} {c : Nat} {l : List UInt8} {f : Bool} {W W' : World} (h : RefSt w0 w gO gC X a c l f W) (hg : W.grownBy W' (some gO)) (hY : W'.heap[gO]? = some (.cells Y 33 (0, 0))) : RefSt w0 w gO gC Y a c l f W' :=
  ⟨below_grownBy (Nat.le_refl _) h.below hg (by have := h.hO; omega), hY, by rw [hg.block _ (lt_of_block h.inn) (by intro e; injection e with e; exact h.ne e.symm)]; exact h.inn,
    by rw [hg.block _ (lt_of_block h.res1) (by intro e; injection e with e; have := h.hO; omega)]; exact h.res1, by rw [hg.block _ (lt_of_block h.res2) (by intro e; injection e with e; have := h.hO; omega)]; exact h.res2, h.bytes, h.failed, h.hO, h.hC, h.ne⟩
/-- The reader is changed. -/
theorem RefSt.setIn {w0 w : World} {gO gC : Nat} {X : Array Value} {a : Option Addr} {c : Nat} {l : List UInt8} {f : Bool} {W : World} (h : RefSt w0 w gO gC X a c l f W) (a' : Option Addr) (c' : Nat) (l' : List UInt8) (f' : Bool) (hin : InAt w0 a' c' l') (hf : f' = true → l' = []) : RefSt w0 w gO gC X a' c' l' f' (W.setRow gC (inCells a' l'.length c' f')) := by
  have hg := setRow_grown W gC (inCells a' l'.length c' f')
  exact ⟨below_grownBy (Nat.le_refl _) h.below hg (by have := h.hC; omega), by rw [setRow_other _ _ _ _ h.ne]; exact h.op, setRow_heap _ _ _ _ _ _ h.inn,
    by rw [setRow_other _ _ _ _ (by have := h.hC; omega)]; exact h.res1, by rw [setRow_other _ _ _ _ (by have := h.hC; omega)]; exact h.res2, hin, hf, h.hO, h.hC, h.ne⟩

set_option maxRecDepth 100000 in
set_option maxHeartbeats 4000000 in
theorem refget_t (w0 : World) (a : Option Addr) (cap : Nat) (l : List UInt8) (f : Bool) (w : World) (hw0 : Below w0.heap.size w0 w) (hb : InAt w0 a cap l) (hf : f = true → l = []) :
    Calls Try.prog 29 #[.agg (inCells a l.length cap f)] w (RefGotOp w0 (getOp l f).1 (getOp l f).2.1 (getOp l f).2.2 w) := by
  obtain ⟨w1, hw1⟩ : ∃ w1, w1 = ((w.alloc (.cells (inCells a l.length cap f) 46)).alloc zopObj).alloc (.cells (inCells none 0 0 false) 46) := ⟨_, rfl⟩
  have hA : w1.heap[w.heap.size]? = some (.cells (inCells a l.length cap f) 46 (0, 0)) := by rw [hw1, heap_alloc_old _ _ (by simp <;> omega), heap_alloc_old _ _ (by simp), heap_alloc_eq _ _ _ rfl]
  have hS : w1.heap[w.heap.size + 1]? = some (.cells zopLit 33 (0, 0)) := by rw [hw1, heap_alloc_old _ _ (by simp), heap_alloc_eq _ _ _ (by simp)]; rfl
  have hI : w1.heap[w.heap.size + 2]? = some (.cells (inCells none 0 0 false) 46 (0, 0)) := by rw [hw1, heap_alloc_eq _ _ _ (by simp)]
  have hb1 : Below w.heap.size w w1 := by rw [hw1]; exact (((Below.refl _ w).alloc (Nat.le_refl _) _).alloc (by simp) _).alloc (by simp <;> omega) _
  have hz1 := lt_of_block hI
  have hw01 := hw0.trans (hb1.mono hw0.size)
  have cK := refnum_t w0 a cap l f 2 w1 hw01 hb hf
  have HW01 := Lib.hid hw01
  obtain ⟨K, hK⟩ : ∃ K, K = numT l f 2 := ⟨_, rfl⟩
  rw [← hK] at cK
  obtain ⟨k, l1, f1⟩ := K
  have cA := fun a c W h0 h h2 => refgetstamp_t w0 a c l1 f1 W h0 h h2
  obtain ⟨A, hA2⟩ : ∃ A, A = stampT l1 f1 := ⟨_, rfl⟩
  rw [← hA2] at cA
  obtain ⟨⟨t, r⟩, l2, f2⟩ := A
  have cN := fun a c W h0 h h2 => refgetstamp_t w0 a c l2 f2 W h0 h h2
  obtain ⟨N, hN⟩ : ∃ N, N = stampT l2 f2 := ⟨_, rfl⟩
  rw [← hN] at cN
  obtain ⟨⟨nt, nr⟩, l3, f3⟩ := N
  replace cK : Calls Try.prog 60 #[.agg (inCells a l.length cap f), .int .i64 2] w1 (RefGot w0 (.int .i64 k) l1 f1 w1) := cK
  replace cA : ∀ a c W, Below w0.heap.size w0 W → InAt w0 a c l1 → (f1 = true → l1 = []) → Calls Try.prog 61 #[.agg (inCells a l1.length c f1)] W (RefGot w0 (.agg (stampCells t r)) l2 f2 W) := cA
  replace cN : ∀ a c W, Below w0.heap.size w0 W → InAt w0 a c l2 → (f2 = true → l2 = []) → Calls Try.prog 61 #[.agg (inCells a l2.length c f2)] W (RefGot w0 (.agg (stampCells nt nr)) l3 f3 W) := cN
  obtain ⟨G, hG⟩ : ∃ G, G = getOp l f := ⟨_, rfl⟩
  have hget : G = if (rawOp l f).2.2 = false ∧ (rawOp l f).1.good = true then rawOp l f else (.zero, [], true) := hG
  have hraw1 : ∀ pt pr l4 f4 z l5 f5, k = 1 → stampT l3 f3 = ((pt, pr), l4, f4) → textT l4 f4 60 = (z, l5, f5) → rawOp l f = (⟨1, t, r, nt, nr, pt, pr, ⟨z.toArray⟩, id0, []⟩, l5, f5) := fun pt pr l4 f4 z l5 f5 hk h1 h2 => by
    unfold rawOp
    rw [← hK]
    dsimp only
    rw [← hA2]
    dsimp only
    rw [← hN]
    dsimp only
    rw [if_pos hk, h1]
    dsimp only
    rw [h2, hk]
  have hraw2 : ∀ d l4 f4 ss l5 f5, k ≠ 1 → idT l3 f3 = (d, l4, f4) → listT l4 f4 = (ss, l5, f5) → G = if f5 = false ∧ (⟨k, t, r, nt, nr, 0, 0, ⟨#[]⟩, d, ss⟩ : OpV).good = true then (⟨k, t, r, nt, nr, 0, 0, ⟨#[]⟩, d, ss⟩, l5, f5) else (.zero, [], true) := fun d l4 f4 ss l5 f5 hk h1 h2 => by
    have e : rawOp l f = if k = 2 then (⟨k, t, r, nt, nr, 0, 0, ⟨#[]⟩, d, ss⟩, l5, f5) else (⟨k, t, r, nt, nr, 0, 0, ⟨#[]⟩, id0, []⟩, l3, f3) := by
      unfold rawOp
      rw [← hK]
      dsimp only
      rw [← hA2]
      dsimp only
      rw [← hN]
      dsimp only
      rw [if_neg hk, h1]
      dsimp only
      rw [h2]
    have hbad : ∀ (d : List UInt8) (ss : List (Int × Int)), k ≠ 2 → (⟨k, t, r, nt, nr, 0, 0, ⟨#[]⟩, d, ss⟩ : OpV).good = false := fun d ss h => by
      cases hg : (⟨k, t, r, nt, nr, 0, 0, ⟨#[]⟩, d, ss⟩ : OpV).good with
      | false => rfl
      | true =>
        rcases good_move hg with ⟨h3, _⟩ | ⟨h3, _⟩
        · exact absurd h3 hk
        · exact absurd h3 h
    rw [hget, e]
    by_cases h3 : k = 2
    · rw [if_pos h3]
    · rw [if_neg h3]
      dsimp only
      rw [hbad _ _ h3, hbad _ _ h3, if_neg (by simp), if_neg (by simp)]
  rw [← hG]
  have CK := Lib.hid cK
  have CA := Lib.hid cA
  have CN := Lib.hid cN
  have HG := Lib.hid hget
  have HRAW1 := Lib.hid hraw1
  have HRAW2 := Lib.hid hraw2
  have HA := Lib.hid hA
  have HS := Lib.hid hS
  have HI := Lib.hid hI
  have HW1 := Lib.hid hw1
  have HB1 := Lib.hid hb1
  have HW00 := Lib.hid hw0
  clear cK cA cN hK hA2 hN hG hget hraw1 hraw2 hA hS hI hw1 hb1 hb hf hw01 hw0
  unfold RefGotOp
  go_enter Try.func29, Try.ntmps29
  go_upto_region 1 with (fail)
  change Code.wp _ _ _ _ (((w.alloc (.cells (inCells a l.length cap f) 46)).alloc zopObj).alloc (.cells (inCells none 0 0 false) 46))
  rw [← HW1.out]
  go_wp2_with (refine wpList_load_row rfl 46 (.tmp 1) rfl w.heap.size rfl 46 (inCells a l.length cap f) (0, 0) _ HA.out Try.underlying46 rfl (sizeIn _ _ _ _) ?_)
  refine CK.out.mono ?_
  rintro e w2 ⟨hb2, a2, c2, rfl, hin2, hf2⟩
  obtain ⟨hn1, hn2⟩ := new_row w2 46 (inCells none 0 0 false) (inCells a2 l1.length c2 f1)
  obtain ⟨w3, hw3⟩ : ∃ w3, w3 = (w2.alloc (.cells (inCells none 0 0 false) 46)).setRow w2.heap.size (inCells a2 l1.length c2 f1) := ⟨_, rfl⟩
  rw [← hw3] at hn1 hn2
  have hnew : (w2.alloc (.cells (inCells none 0 0 false) 46)).heap[w2.heap.size]? = some (.cells (inCells none 0 0 false) 46 (0, 0)) := heap_alloc_new w2 _
  have HNW := Lib.hid hnew
  have HN1 := Lib.hid hn1
  have HIN3 := Lib.hid hin2
  have HS13 := Lib.hid (hb2.trans (hn2.mono hb2.size))
  have HF2 := Lib.hid hf2
  have HW3 := Lib.hid hw3
  clear hn1 hn2 hw3 hnew hin2 hb2 hf2 CK HA HW1
  go_upto_region 2 with (refine wpList_store_row rfl 46 (.tmp 5) (.tmp 26) rfl w2.heap.size (inCells a2 l1.length c2 f1) rfl rfl 46 (inCells none 0 0 false) HNW.out (sizeIn _ _ _ _) rfl (oneIn _ _ _ _) ?_)
  change Code.wp _ _ _ _ ((w2.alloc (.cells (inCells none 0 0 false) 46)).setRow w2.heap.size (inCells a2 l1.length c2 f1))
  rw [← HW3.out]
  go_wp2_with (refine wpList_load_row rfl 46 (.tmp 5) rfl w2.heap.size rfl 46 (inCells a2 l1.length c2 f1) (0, 0) _ HN1.out Try.underlying46 rfl (sizeIn _ _ _ _) ?_)
  refine (CA.out a2 c2 w3 (HW01.out.trans (HS13.out.mono HW01.out.size)) HIN3.out HF2.out).mono ?_
  rintro e w4 ⟨hb4, a4, c4, rfl, hin4, hf4⟩
  obtain ⟨-, n1, n2, n3, n4, n5⟩ := two_new w4 23 46 (stampCells 0 0) (inCells none 0 0 false) (stampCells t r) (inCells a4 l2.length c4 f2)
  obtain ⟨w5, hw5⟩ : ∃ w5, w5 = (((w4.alloc (.cells (stampCells 0 0) 23)).alloc (.cells (inCells none 0 0 false) 46)).setRow w4.heap.size (stampCells t r)).setRow (w4.heap.size + 1) (inCells a4 l2.length c4 f2) := ⟨_, rfl⟩
  rw [← hw5] at n3 n4 n5
  have N1 := Lib.hid n1
  have N2 := Lib.hid n2
  have NS5 := Lib.hid n3
  have NI5 := Lib.hid n4
  have HIN5 := Lib.hid hin4
  have h14 := HS13.out.trans (hb4.mono HS13.out.size)
  have HS15 := Lib.hid (h14.trans (n5.mono h14.size))
  have HF4 := Lib.hid hf4
  have HW5 := Lib.hid hw5
  clear n1 n2 n3 n4 n5 hw5 hin4 hb4 hf4 h14 CA HN1 HIN3 HS13 HF2 HW3 HNW
  go_upto_region 3 with (first | (refine wpList_store_row rfl 23 (.tmp 6) (.tmp 30) rfl w4.heap.size (stampCells t r) rfl rfl 23 (stampCells 0 0) N1.out (sizeStamp _ _) rfl (oneStamp _ _) ?_) | (refine wpList_store_row rfl 46 (.tmp 7) (.tmp 31) rfl (w4.heap.size + 1) (inCells a4 l2.length c4 f2) rfl rfl 46 (inCells none 0 0 false) N2.out (sizeIn _ _ _ _) rfl (oneIn _ _ _ _) ?_))
  change Code.wp _ _ _ _ ((((w4.alloc (.cells (stampCells 0 0) 23)).alloc (.cells (inCells none 0 0 false) 46)).setRow w4.heap.size (stampCells t r)).setRow (w4.heap.size + 1) (inCells a4 l2.length c4 f2))
  rw [← HW5.out]
  go_wp2_with (refine wpList_load_row rfl 46 (.tmp 7) rfl (w4.heap.size + 1) rfl 46 (inCells a4 l2.length c4 f2) (0, 0) _ NI5.out Try.underlying46 rfl (sizeIn _ _ _ _) ?_)
  refine (CN.out a4 c4 w5 (HW01.out.trans (HS15.out.mono HW01.out.size)) HIN5.out HF4.out).mono ?_
  rintro e w6 ⟨hb6, a6, c6, rfl, hin6, hf6⟩
  obtain ⟨-, n1, n2, n3, n4, n5⟩ := two_new w6 23 46 (stampCells 0 0) (inCells none 0 0 false) (stampCells nt nr) (inCells a6 l3.length c6 f3)
  obtain ⟨w7, hw7⟩ : ∃ w7, w7 = (((w6.alloc (.cells (stampCells 0 0) 23)).alloc (.cells (inCells none 0 0 false) 46)).setRow w6.heap.size (stampCells nt nr)).setRow (w6.heap.size + 1) (inCells a6 l3.length c6 f3) := ⟨_, rfl⟩
  rw [← hw7] at n3 n4 n5
  have N1b := Lib.hid n1
  have N2b := Lib.hid n2
  have NN7 := Lib.hid n3
  have NI7 := Lib.hid n4
  have HIN7 := Lib.hid hin6
  have h57 := hb6.trans (n5.mono hb6.size)
  have z16 := Nat.le_trans HS15.out.size hb6.size
  have HS17 := Lib.hid (HS15.out.trans (h57.mono HS15.out.size))
  have NS7 := Lib.hid (show w7.heap[w4.heap.size]? = some (.cells (stampCells t r) 23 (0, 0)) by rw [h57.block _ (lt_of_block NS5.out)]; exact NS5.out)
  have HF6 := Lib.hid hf6
  have HW7 := Lib.hid hw7
  clear n1 n2 n3 n4 n5 hw7 hin6 hb6 hf6 h57 CN HIN5 HS15 HF4 HW5 N1 N2 NS5 NI5
  go_upto_region 4 with (first | (refine wpList_store_row rfl 23 (.tmp 8) (.tmp 35) rfl w6.heap.size (stampCells nt nr) rfl rfl 23 (stampCells 0 0) N1b.out (sizeStamp _ _) rfl (oneStamp _ _) ?_) | (refine wpList_store_row rfl 46 (.tmp 9) (.tmp 36) rfl (w6.heap.size + 1) (inCells a6 l3.length c6 f3) rfl rfl 46 (inCells none 0 0 false) N2b.out (sizeIn _ _ _ _) rfl (oneIn _ _ _ _) ?_))
  change Code.wp _ _ _ _ ((((w6.alloc (.cells (stampCells 0 0) 23)).alloc (.cells (inCells none 0 0 false) 46)).setRow w6.heap.size (stampCells nt nr)).setRow (w6.heap.size + 1) (inCells a6 l3.length c6 f3))
  rw [← HW7.out]
  have s0 : w7.cell? ⟨w4.heap.size, 0, none⟩ = some (.int .i64 t) := cell_of_block NS7.out
  have s1 : w7.cell? ⟨w4.heap.size, 1, none⟩ = some (.int .i64 r) := cell_of_block NS7.out
  have s2 : w7.cell? ⟨w6.heap.size, 0, none⟩ = some (.int .i64 nt) := cell_of_block NN7.out
  have s3 : w7.cell? ⟨w6.heap.size, 1, none⟩ = some (.int .i64 nr) := cell_of_block NN7.out
  obtain ⟨w8, hw8⟩ : ∃ w8, w8 = (w7.alloc zopObj).setRow w7.heap.size (opLit k t r nt nr) := ⟨_, rfl⟩
  have hnew : (w7.alloc zopObj).heap[w7.heap.size]? = some (.cells zopLit 33 (0, 0)) := heap_alloc_new w7 zopObj
  have h78 : Below w7.heap.size w7 w8 := by rw [hw8]; exact below_setRow ((Below.refl _ w7).alloc (Nat.le_refl _) _) (Nat.le_refl _)
  have h18 := HS17.out.trans (h78.mono HS17.out.size)
  have z17 := HS17.out.size
  have hst : RefSt w0 w w7.heap.size (w6.heap.size + 1) (opCells k t r nt nr 0 0 ⟨#[]⟩ id0 (.slice none 0 0)) a6 c6 l3 f3 w8 := by
    refine ⟨HB1.out.trans (h18.mono HB1.out.size), ?_, ?_, ?_, ?_, HIN7.out, HF6.out, by omega, ?_, ?_⟩
    · rw [hw8, ← opLit_eq]; exact setRow_heap _ _ _ _ _ _ hnew
    · rw [h78.block _ (lt_of_block NI7.out)]; exact NI7.out
    · rw [h18.block _ (by omega)]; exact HS.out
    · rw [h18.block _ (by omega)]; exact HI.out
    · omega
    · have := lt_of_block NI7.out; omega
  have HST := Lib.hid hst
  have HNW := Lib.hid hnew
  have HW8 := Lib.hid hw8
  clear hst hnew hw8 h78 h18 NN7 NI7 NS7 HIN7 HS17 HW7 N1b N2b HB1 HS HI
  go_upto_region 5 with (refine wpList_store_row rfl 33 (.tmp 10) (.tmp 40) rfl w7.heap.size (opLit k t r nt nr) rfl rfl 33 zopLit HNW.out (opLit_size _ _ _ _ _) rfl (opLit_one _ _ _ _ _) ?_)
  change Code.wp _ _ _ _ ((w7.alloc zopObj).setRow w7.heap.size (opLit k t r nt nr))
  rw [← HW8.out]
  clear s0 s1 s2 s3
  obtain ⟨gO, hgO⟩ : ∃ g, g = w7.heap.size := ⟨_, rfl⟩
  obtain ⟨gC, hgC⟩ : ∃ g, g = w6.heap.size + 1 := ⟨_, rfl⟩
  rw [← hgO, ← hgC] at HST
  rw [← hgO, ← hgC]
  clear hgO hgC HNW HW8
  by_cases hk : k = 1
  · have hk1 : ((k : Int) == 1) = true := by simp [hk]
    have cP := fun a c W h0 h h2 => refgetstamp_t w0 a c l3 f3 W h0 h h2
    obtain ⟨P, hP⟩ : ∃ P, P = stampT l3 f3 := ⟨_, rfl⟩
    rw [← hP] at cP
    obtain ⟨⟨pt, pr⟩, l4, f4⟩ := P
    have cT := fun a c W h0 h h2 => reftext_t w0 a c l4 f4 60 W h0 h h2
    have hzl := textT_len l4 f4
    obtain ⟨T, hT⟩ : ∃ T, T = textT l4 f4 60 := ⟨_, rfl⟩
    rw [← hT] at cT hzl
    obtain ⟨z, l6, f6⟩ := T
    replace cP : ∀ a c W, Below w0.heap.size w0 W → InAt w0 a c l3 → (f3 = true → l3 = []) → Calls Try.prog 61 #[.agg (inCells a l3.length c f3)] W (RefGot w0 (.agg (stampCells pt pr)) l4 f4 W) := cP
    replace cT : ∀ a c W, Below w0.heap.size w0 W → InAt w0 a c l4 → (f4 = true → l4 = []) → Calls Try.prog 62 #[.agg (inCells a l4.length c f4), .int .i64 60] W (RefGot w0 (.string ⟨z.toArray⟩) l6 f6 W) := cT
    obtain ⟨V, hV⟩ : ∃ V : OpV, V = ⟨k, t, r, nt, nr, pt, pr, ⟨z.toArray⟩, id0, []⟩ := ⟨_, rfl⟩
    have hG2 : G = if f6 = false ∧ V.good = true then (V, l6, f6) else (.zero, [], true) := by
      rw [HG.out, HRAW1.out pt pr l4 f4 z l6 f6 hk hP.symm hT.symm, hV, hk]
    have hzm : (⟨z.toArray⟩ : ByteArray).size ≤ 60 := by show z.toArray.size ≤ 60; simpa using hzl
    have hvs : V.d.length = 32 ∧ V.s.size ≤ 60 ∧ V.ss.length ≤ 64 := by rw [hV]; exact ⟨rfl, hzm, by simp⟩
    have CP := Lib.hid cP
    have CT := Lib.hid cT
    have HV := Lib.hid hV
    have HGG := Lib.hid hG2
    have HVS := Lib.hid hvs
    clear hP hT cP cT hzl hV hG2 hzm hvs HG HRAW1 HRAW2 hk
    go_wp2_with (refine wpList_load_row rfl 46 (.tmp 9) rfl gC rfl 46 (inCells a6 l3.length c6 f3) (0, 0) _ HST.out.inn Try.underlying46 rfl (sizeIn _ _ _ _) ?_)
    refine (CP.out a6 c6 w8 (HW00.out.trans (HST.out.below.mono HW00.out.size)) HST.out.bytes HF6.out).mono ?_
    rintro e w9 ⟨hb9, a9, c9, rfl, hin9, hf9⟩
    obtain ⟨-, n1, n2, n3, n4, n5⟩ := two_new w9 23 46 (stampCells 0 0) (inCells none 0 0 false) (stampCells pt pr) (inCells a9 l4.length c9 f4)
    obtain ⟨w10, hw10⟩ : ∃ w10, w10 = (((w9.alloc (.cells (stampCells 0 0) 23)).alloc (.cells (inCells none 0 0 false) 46)).setRow w9.heap.size (stampCells pt pr)).setRow (w9.heap.size + 1) (inCells a9 l4.length c9 f4) := ⟨_, rfl⟩
    rw [← hw10] at n3 n4 n5
    have N1 := Lib.hid n1
    have N2 := Lib.hid n2
    have NP := Lib.hid n3
    have NI := Lib.hid n4
    have HIN10 := Lib.hid hin9
    have HST10 := Lib.hid (HST.out.later (hb9.trans (n5.mono hb9.size)))
    have HST10op := Lib.hid HST10.out.op
    have z1011 := hb9.size
    have HF9 := Lib.hid hf9
    have HW10 := Lib.hid hw10
    clear n1 n2 n3 n4 n5 hw10 hin9 hb9 hf9 CP HST HF6
    go_upto_region 7 with (first | (refine wpList_store_row rfl 23 (.tmp 11) (.tmp 46) rfl w9.heap.size (stampCells pt pr) rfl rfl 23 (stampCells 0 0) N1.out (sizeStamp _ _) rfl (oneStamp _ _) ?_) | (refine wpList_store_row rfl 46 (.tmp 12) (.tmp 47) rfl (w9.heap.size + 1) (inCells a9 l4.length c9 f4) rfl rfl 46 (inCells none 0 0 false) N2.out (sizeIn _ _ _ _) rfl (oneIn _ _ _ _) ?_))
    change Code.wp _ _ _ _ ((((w9.alloc (.cells (stampCells 0 0) 23)).alloc (.cells (inCells none 0 0 false) 46)).setRow w9.heap.size (stampCells pt pr)).setRow (w9.heap.size + 1) (inCells a9 l4.length c9 f4))
    rw [← HW10.out]
    go_wp2_with (refine wpList_load_row rfl 46 (.tmp 12) rfl (w9.heap.size + 1) rfl 46 (inCells a9 l4.length c9 f4) (0, 0) _ NI.out Try.underlying46 rfl (sizeIn _ _ _ _) ?_)
    refine (CT.out a9 c9 w10 (HW00.out.trans (HST10.out.below.mono HW00.out.size)) HIN10.out HF9.out).mono ?_
    rintro e w11 ⟨hb11, a11, c11, rfl, hin11, hf11⟩
    obtain ⟨hn1, hn2⟩ := new_row w11 46 (inCells none 0 0 false) (inCells a11 l6.length c11 f6)
    obtain ⟨w12, hw12⟩ : ∃ w12, w12 = (w11.alloc (.cells (inCells none 0 0 false) 46)).setRow w11.heap.size (inCells a11 l6.length c11 f6) := ⟨_, rfl⟩
    rw [← hw12] at hn1 hn2
    have hnew : (w11.alloc (.cells (inCells none 0 0 false) 46)).heap[w11.heap.size]? = some (.cells (inCells none 0 0 false) 46 (0, 0)) := heap_alloc_new w11 _
    have h1012 := hb11.trans (hn2.mono hb11.size)
    have z1011b := hb11.size
    have HNW := Lib.hid hnew
    have HN1 := Lib.hid hn1
    have HIN12 := Lib.hid hin11
    have HST12 := Lib.hid (HST10.out.later h1012)
    have NP12 := Lib.hid (show w12.heap[w9.heap.size]? = some (.cells (stampCells pt pr) 23 (0, 0)) by rw [h1012.block _ (lt_of_block NP.out)]; exact NP.out)
    have HF11 := Lib.hid hf11
    have HW12 := Lib.hid hw12
    clear hn1 hn2 hw12 hnew hin11 hb11 hf11 h1012 CT HST10 HF9 NP NI HIN10 HW10 N1 N2
    go_upto_region 8 with (refine wpList_store_row rfl 46 (.tmp 14) (.tmp 52) rfl w11.heap.size (inCells a11 l6.length c11 f6) rfl rfl 46 (inCells none 0 0 false) HNW.out (sizeIn _ _ _ _) rfl (oneIn _ _ _ _) ?_)
    change Code.wp _ _ _ _ ((w11.alloc (.cells (inCells none 0 0 false) 46)).setRow w11.heap.size (inCells a11 l6.length c11 f6))
    rw [← HW12.out]
    have s0 : w12.cell? ⟨w9.heap.size, 0, none⟩ = some (.int .i64 pt) := cell_of_block NP12.out
    have s1 : w12.cell? ⟨w9.heap.size, 1, none⟩ = some (.int .i64 pr) := cell_of_block NP12.out
    have hop := HST12.out.op
    have o5 := cell_of_block (i := 5) hop
    have o6 := cell_of_block (i := 6) hop
    have o7 := cell_of_block (i := 7) hop
    have f0 : ∀ j, w12.frozen? ⟨gO, j, none⟩ = false := fun j => free_of_block hop
    have e0 := heap_setCell_same _ gO 5 _ _ (.int .i64 pt) hop
    have e1 := heap_setCell_same _ gO 6 _ _ (.int .i64 pr) e0
    have e2 := heap_setCell_same _ gO 7 _ _ (.string ⟨z.toArray⟩) e1
    have hgs : w12.grownBy (((w12.setCell ⟨gO, 5, none⟩ (.int .i64 pt)).setCell ⟨gO, 6, none⟩ (.int .i64 pr)).setCell ⟨gO, 7, none⟩ (.string ⟨z.toArray⟩)) (some gO) := grownBy_trans (grownBy_trans (grownBy_setCell _ _ _ _) (grownBy_setCell _ _ _ _)) (grownBy_setCell _ _ _ _)
    obtain ⟨w13, hw13⟩ : ∃ w13, w13 = ((w12.setCell ⟨gO, 5, none⟩ (.int .i64 pt)).setCell ⟨gO, 6, none⟩ (.int .i64 pr)).setCell ⟨gO, 7, none⟩ (.string ⟨z.toArray⟩) := ⟨_, rfl⟩
    rw [← hw13] at hgs
    have HST13 := Lib.hid (HST12.out.setOp hgs (Y := opCells k t r nt nr pt pr ⟨z.toArray⟩ id0 (.slice none 0 0)) (by rw [hw13]; exact e2))
    have HN13 := Lib.hid (show w13.heap[w11.heap.size]? = some (.cells (inCells a11 l6.length c11 f6) 46 (0, 0)) by
      rw [hgs.block _ (lt_of_block HN1.out) (by intro e; injection e with e; have h1 := lt_of_block HST10op.out; omega)]; exact HN1.out)
    have HW13 := Lib.hid hw13
    simp only [opCells, List.getElem?_toArray, List.cons_append, List.getElem?_cons_zero, List.getElem?_cons_succ] at o5 o6 o7
    clear hop e0 e1 e2 hgs hw13 HNW HN1
    go_upto_region 10 with (fail)
    change Code.wp _ _ _ _ (((w12.setCell ⟨gO, 5, none⟩ (.int .i64 pt)).setCell ⟨gO, 6, none⟩ (.int .i64 pr)).setCell ⟨gO, 7, none⟩ (.string ⟨z.toArray⟩))
    rw [← HW13.out]
    clear s0 s1 o5 o6 o7 f0
    obtain ⟨oa, hoa⟩ : ∃ a : Option Addr, a = none := ⟨_, rfl⟩
    obtain ⟨oc, hoc⟩ : ∃ c : Nat, c = 0 := ⟨_, rfl⟩
    have hstE := HST13.out.setIn a11 c11 l6 f6 HIN12.out HF11.out
    obtain ⟨wE, hwE⟩ : ∃ x, x = w13.setRow gC (inCells a11 l6.length c11 f6) := ⟨_, rfl⟩
    rw [← hwE] at hstE
    obtain ⟨aF, haF⟩ : ∃ a, a = a11 := ⟨_, rfl⟩
    obtain ⟨cF, hcF⟩ : ∃ a, a = c11 := ⟨_, rfl⟩
    have HST := Lib.hid (show RefSt w0 w gO gC (V.cells (.slice oa V.ss.length oc)) aF cF l6 f6 wE by rw [HV.out, hoa, hoc, haF, hcF]; exact hstE)
    have HAT := Lib.hid (show StampsAt wE oa V.ss by rw [HV.out]; exact fun i hi => absurd hi (by simp))
    have HAB := Lib.hid (show ∀ x, oa = some x → w.heap.size + 3 ≤ x.block by rw [hoa]; exact fun x e => by cases e)
    have HWE := Lib.hid hwE
    clear hstE hwE hoa hoc haF hcF
    go_upto_region 21 with (first | (refine wpList_load_row rfl 46 (.tmp 14) rfl w11.heap.size rfl 46 (inCells a11 l6.length c11 f6) (0, 0) _ HN13.out Try.underlying46 rfl (sizeIn _ _ _ _) ?_) | (refine wpList_store_row rfl 46 (.tmp 9) (.tmp 57) rfl gC (inCells a11 l6.length c11 f6) rfl rfl 46 (inCells a6 l3.length c6 f3) HST13.out.inn (sizeIn _ _ _ _) rfl (oneIn _ _ _ _) ?_))
    change Code.wp _ _ _ _ (w13.setRow gC (inCells a11 l6.length c11 f6))
    rw [← HWE.out]
    clear HST13 HN13 HW13 HWE HF11 HIN12 NP12 HST12 HW12 HV
    have hYs : (Try.prog.info? 33).map (·.size) = some (V.cells (.slice oa V.ss.length oc)).size := sizeOp _ _ _ _ _ _ _ _ _ _ HVS.out.1
    have hY1 : (V.cells (.slice oa V.ss.length oc)).all (·.oneCell') = true := opCells_one _ _ _ _ _ _ _ _ _ _ _ _
    have hgd : ∀ W, StampsAt W oa V.ss → Calls Try.prog 19 #[.agg (V.cells (.slice oa V.ss.length oc))] W fun e w' => e = .returned (.bool V.good) ∧ Below W.heap.size W w' := fun W h => refgood_any _ _ _ _ _ _ _ _ _ oa V.ss oc W HVS.out.1 (by have := HVS.out.2.1; unfold maxLen; omega) h (by have := HVS.out.2.2; omega)
    obtain ⟨Y, hY⟩ : ∃ Y, Y = V.cells (.slice oa V.ss.length oc) := ⟨_, rfl⟩
    obtain ⟨gb, hgb⟩ : ∃ b, b = V.good := ⟨_, rfl⟩
    have hst := HST.out
    rw [← hY] at hYs hY1 hgd hst
    rw [← hgb] at hgd
    have hZs : zopLit.size = Y.size := by
      have h1 := opCells_size V.k V.t V.r V.nt V.nr V.pt V.pr V.s V.d (.slice oa V.ss.length oc) HVS.out.1
      rw [hY]
      exact h1.symm
    obtain ⟨g1, hg1⟩ : ∃ g, g = w.heap.size + 1 := ⟨_, rfl⟩
    obtain ⟨g2, hg2⟩ : ∃ g, g = g1 + 1 := ⟨_, rfl⟩
    have hr1 := hst.res1
    have hr2 : wE.heap[w.heap.size + 1 + 1]? = some (.cells (inCells none 0 0 false) 46 (0, 0)) := hst.res2
    rw [← hg1] at hr1 hr2 ⊢
    rw [← hg2] at hr2 ⊢
    have hne12 : g2 ≠ g1 := by omega
    have hO1 : gO ≠ g1 ∧ gO ≠ g2 ∧ gC ≠ g1 ∧ gC ≠ g2 := by have := hst.hO; have := hst.hC; omega
    have HG1 := Lib.hid hg1
    have HG2 := Lib.hid hg2
    have HGD := Lib.hid hgd
    have HYS := Lib.hid hYs
    have HY1 := Lib.hid hY1
    have HZS := Lib.hid hZs
    have HY := Lib.hid hY
    have HGB := Lib.hid hgb
    have HST2 := Lib.hid hst
    have HR1 := Lib.hid hr1
    have HR2 := Lib.hid hr2
    have HNE := Lib.hid hne12
    have HO1 := Lib.hid hO1
    have cf := cell_of_block (i := 1) hst.inn
    simp only [inCells] at cf
    clear hYs hY1 hgd hY hgb hst hZs hg1 hg2 hr1 hr2 hne12 hO1 HST HVS
    cases f6
    · go_wp2_with (refine wpList_load_row_guarded rfl 33 (.tmp 10) rfl gO rfl 33 Y (0, 0) _ HST2.out.op Try.underlying33 rfl HYS.out ?_)
      refine (HGD.out _ HAT.out).mono ?_
      rintro e wF ⟨rfl, hbF⟩
      have hstF := HST2.out.later hbF
      have hatF := HAT.out.later hbF
      have hr1F : wF.heap[g1]? = some (.cells zopLit 33 (0, 0)) := by rw [hbF.block _ (lt_of_block HR1.out)]; exact HR1.out
      have hr2F : wF.heap[g2]? = some (.cells (inCells none 0 0 false) 46 (0, 0)) := by rw [hbF.block _ (lt_of_block HR2.out)]; exact HR2.out
      cases gb
      · have hG : G = (.zero, [], true) := by rw [HGG.out, if_neg (by rw [← HGB.out]; simp)]
        have HGX := Lib.hid hG
        have hr2G : (wF.setRow g1 zopLit).heap[g2]? = some (.cells (inCells none 0 0 false) 46 (0, 0)) := by rw [setRow_other _ _ _ _ HNE.out]; exact hr2F
        have H1F := Lib.hid hr1F
        have H2F := Lib.hid hr2G
        have HBF := Lib.hid hstF.below
        clear hG hstF hatF hr1F hr2F hr2G hbF cf
        go_wp2_with (first | (refine wpList_store_row rfl 33 (.tmp 2) (.tmp 100) rfl g1 zopLit rfl rfl 33 zopLit H1F.out sizeZop rfl zopOne ?_) | (refine wpList_store_row rfl 46 (.tmp 3) (.tmp 101) rfl g2 (inCells none 0 0 true) rfl rfl 46 (inCells none 0 0 false) H2F.out (sizeIn _ _ _ _) rfl (oneIn _ _ _ _) ?_))
        refine bodyPost_ret (v := .tuple #[.agg zopLit, .agg (inCells none 0 0 true)]) (results_rows rfl _ _ g1 g2 33 46 zopLit (inCells none 0 0 true) (0, 0) (0, 0) _ _ rfl (by rw [setRow_other _ _ _ _ (Ne.symm HNE.out)]; exact setRow_heap _ _ _ _ _ _ H1F.out) rfl (setRow_heap _ _ _ _ _ _ H2F.out) Try.underlying33 rfl sizeZop Try.underlying46 rfl (sizeIn _ _ _ _)) rfl ?_
        rw [HGX.out]
        exact ⟨below_setRow (below_setRow HBF.out (by have := HG1.out; omega)) (by have := HG1.out; have := HG2.out; omega), none, 0, none, 0, by rw [zopLit_eq]; rfl, stamps_none, inAt_nil _, fun _ => rfl⟩
      · have hG : G = (V, l6, false) := by rw [HGG.out, if_pos ⟨by trivial, HGB.out.symm⟩]
        have HGX := Lib.hid hG
        have H1F := Lib.hid hr1F
        have H2F := Lib.hid hr2F
        have HSF := Lib.hid hstF
        have HAF := Lib.hid hatF
        clear hG hstF hatF hr1F hr2F hbF cf
        go_upto_region 23 with (fail)
        refine wp_region_sched (fun W => W.heap[gO]? = some (.cells Y 33 (0, 0)) ∧ W.heap[gC]? = some (.cells (inCells aF l6.length cF false) 46 (0, 0))) [([0, 1], 2), ([], 3)] [] (by kernel_rfl) (by kernel_rfl) (fun _ _ d _ _ h => by cases d <;> exact h) (by kernel_rfl) (of_decide_eq_true (by kernel_rfl)) ⟨HSF.out.op, HSF.out.inn⟩ ?_
        refine wpSched_cons ?_
        dsimp only [opsAt, List.filterMap, List.getElem?_cons_zero, List.getElem?_cons_succ]
        repeat (first
          | go_big_quiet_skip
          | (go_big_quiet_want
             first
               | (refine quiet_load_row' 33 (.tmp 10) rfl gO rfl 33 Y (0, 0) _ (fun _ h => h.1) Try.underlying33 rfl HYS.out ?_
                  simp only [Act.put, List.setIfInBounds_toArray, List.set_cons_zero, List.set_cons_succ]
                  go_big_quiet_on)
               | (refine quiet_load_row' 46 (.tmp 9) rfl gC rfl 46 (inCells aF l6.length cF false) (0, 0) _ (fun _ h => h.2) Try.underlying46 rfl (sizeIn _ _ _ _) ?_
                  simp only [Act.put, List.setIfInBounds_toArray, List.set_cons_zero, List.set_cons_succ]
                  go_big_quiet_on)
               | (go_big_quiet_op
                  refine ⟨_, fun _ _ => rfl, ?_⟩
                  go_big_quiet_on)
               | (go_big_quiet_op
                  go_big_quiet_on)))
        refine wpQuiet_nil ?_
        intro KK hKK
        rw [if_pos (by rfl)]
        refine wp_store_row 33 (.tmp 2) (.tmp 102) rfl g1 Y rfl rfl 33 zopLit H1F.out HYS.out HZS.out HY1.out ?_
        have hs1 : (wF.drew.setRow g1 Y).heap[gO]? = some (.cells Y 33 (0, 0)) ∧ (wF.drew.setRow g1 Y).heap[gC]? = some (.cells (inCells aF l6.length cF false) 46 (0, 0)) := by
          rw [setRow_other _ _ _ _ HO1.out.1, setRow_other _ _ _ _ HO1.out.2.2.1]
          exact ⟨HSF.out.op, HSF.out.inn⟩
        have hr2G : (wF.drew.setRow g1 Y).heap[g2]? = some (.cells (inCells none 0 0 false) 46 (0, 0)) := by rw [setRow_other _ _ _ _ HNE.out]; exact H2F.out
        have hr1G : (wF.drew.setRow g1 Y).heap[g1]? = some (.cells Y 33 (0, 0)) := setRow_heap _ _ _ _ _ _ H1F.out
        have hbG : Below w.heap.size w (wF.drew.setRow g1 Y) := below_setRow HSF.out.below.drew (by have := HG1.out; omega)
        have hgG : wF.grownBy (wF.drew.setRow g1 Y) (some g1) := grownBy_trans (grownBy_drew wF (some g1)) (setRow_grown wF.drew g1 Y)
        obtain ⟨wG, hwG⟩ : ∃ x, x = wF.drew.setRow g1 Y := ⟨_, rfl⟩
        refine hKK _ _ hs1 ?_
        rw [← hwG] at hs1 hr2G hr1G hbG hgG ⊢
        clear hKK KK hwG
        try simp only [Act.put, List.setIfInBounds_toArray, List.set_cons_zero, List.set_cons_succ]
        refine wpSched_cons ?_
        dsimp only [opsAt, List.filterMap, List.getElem?_cons_zero, List.getElem?_cons_succ]
        repeat (first
          | go_big_quiet_skip
          | (go_big_quiet_want
             first
               | (go_big_quiet_op
                  refine ⟨_, fun _ _ => rfl, ?_⟩
                  go_big_quiet_on)
               | (go_big_quiet_op
                  go_big_quiet_on)))
        refine wpQuiet_nil ?_
        intro KK hKK
        rw [if_pos (by rfl)]
        refine wp_store_row 46 (.tmp 3) (.tmp 103) rfl g2 (inCells aF l6.length cF false) rfl rfl 46 (inCells none 0 0 false) hr2G (sizeIn _ _ _ _) rfl (oneIn _ _ _ _) ?_
        have hs2 : (wG.setRow g2 (inCells aF l6.length cF false)).heap[gO]? = some (.cells Y 33 (0, 0)) ∧ (wG.setRow g2 (inCells aF l6.length cF false)).heap[gC]? = some (.cells (inCells aF l6.length cF false) 46 (0, 0)) := by
          rw [setRow_other _ _ _ _ HO1.out.2.1, setRow_other _ _ _ _ HO1.out.2.2.2]
          exact hs1
        refine hKK _ _ hs2 ?_
        clear hKK KK
        try simp only [Act.put, List.setIfInBounds_toArray, List.set_cons_zero, List.set_cons_succ]
        refine wpSched_nil ?_
        dsimp only [opsAt, List.filterMap, List.getElem?_cons_zero, List.getElem?_cons_succ]
        refine wpQuiet_nil ?_
        have hq1 : (wG.setRow g2 (inCells aF l6.length cF false)).heap[g1]? = some (.cells Y 33 (0, 0)) := by rw [setRow_other _ _ _ _ (Ne.symm HNE.out)]; exact hr1G
        have hq2 := setRow_heap wG g2 _ (inCells aF l6.length cF false) _ _ hr2G
        have hq3 : Below w.heap.size w (wG.setRow g2 (inCells aF l6.length cF false)) := below_setRow hbG (by have := HG1.out; have := HG2.out; omega)
        have hatG := (HAF.out.row hgG (fun x e => by have := HAB.out x e; have := HG1.out; intro e2; injection e2 with e2; omega)).row (setRow_grown wG g2 (inCells aF l6.length cF false)) (fun x e => by have := HAB.out x e; have := HG1.out; have := HG2.out; intro e2; injection e2 with e2; omega)
        have HQ1 := Lib.hid hq1
        have HQ2 := Lib.hid hq2
        have HQ3 := Lib.hid hq3
        have HATG := Lib.hid hatG
        clear hs1 hs2 hr2G hr1G hbG hgG hq1 hq2 hq3 hatG
        go_wp2_with fail
        refine bodyPost_ret (v := .tuple #[.agg Y, .agg (inCells aF l6.length cF false)]) (results_rows rfl _ _ g1 g2 33 46 Y (inCells aF l6.length cF false) (0, 0) (0, 0) _ _ rfl HQ1.out rfl HQ2.out Try.underlying33 rfl HYS.out Try.underlying46 rfl (sizeIn _ _ _ _)) rfl ?_
        rw [HGX.out]
        exact ⟨HQ3.out, oa, oc, aF, cF, by rw [HY.out], HATG.out, HSF.out.bytes, fun h => by cases h⟩
    · have hG : G = (.zero, [], true) := by rw [HGG.out, if_neg (by simp)]
      have HGX := Lib.hid hG
      have hr2G : (wE.setRow g1 zopLit).heap[g2]? = some (.cells (inCells none 0 0 false) 46 (0, 0)) := by rw [setRow_other _ _ _ _ HNE.out]; exact HR2.out
      have H2F := Lib.hid hr2G
      clear hG hr2G
      go_wp2_with (first | (refine wpList_store_row rfl 33 (.tmp 2) (.tmp 100) rfl g1 zopLit rfl rfl 33 zopLit HR1.out sizeZop rfl zopOne ?_) | (refine wpList_store_row rfl 46 (.tmp 3) (.tmp 101) rfl g2 (inCells none 0 0 true) rfl rfl 46 (inCells none 0 0 false) H2F.out (sizeIn _ _ _ _) rfl (oneIn _ _ _ _) ?_))
      refine bodyPost_ret (v := .tuple #[.agg zopLit, .agg (inCells none 0 0 true)]) (results_rows rfl _ _ g1 g2 33 46 zopLit (inCells none 0 0 true) (0, 0) (0, 0) _ _ rfl (by rw [setRow_other _ _ _ _ (Ne.symm HNE.out)]; exact setRow_heap _ _ _ _ _ _ HR1.out) rfl (setRow_heap _ _ _ _ _ _ H2F.out) Try.underlying33 rfl sizeZop Try.underlying46 rfl (sizeIn _ _ _ _)) rfl ?_
      rw [HGX.out]
      exact ⟨below_setRow (below_setRow HST2.out.below (by have := HG1.out; omega)) (by have := HG1.out; have := HG2.out; omega), none, 0, none, 0, by rw [zopLit_eq]; rfl, stamps_none, inAt_nil _, fun _ => rfl⟩
  · have hk1 : ((k : Int) == 1) = false := by simpa using hk
    have cI := fun a c W h0 h h2 => refid_t w0 a c l3 f3 W h0 h h2
    have hil := idT_len l3 f3
    obtain ⟨I, hI⟩ : ∃ I, I = idT l3 f3 := ⟨_, rfl⟩
    rw [← hI] at cI hil
    obtain ⟨d, l4, f4⟩ := I
    have cM := fun a c W h0 h h2 => refnum_t w0 a c l4 f4 64 W h0 h h2
    have hnb := numT_bound l4 f4 64 (by omega)
    obtain ⟨M, hM⟩ : ∃ M, M = numT l4 f4 64 := ⟨_, rfl⟩
    rw [← hM] at cM hnb
    obtain ⟨nz, l5, f5⟩ := M
    dsimp only at hnb
    obtain ⟨NN, rfl⟩ := Int.eq_ofNat_of_zero_le hnb.1
    have hl64 : NN ≤ 64 := by omega
    obtain ⟨Z, hZ⟩ : ∃ Z, Z = stampsT NN l5 f5 := ⟨_, rfl⟩
    have hlist : listT l4 f4 = (Z.1, Z.2.1, Z.2.2) := by
      unfold listT
      rw [← hM]
      dsimp only
      rw [show ((NN : Nat) : Int).toNat = NN by omega, ← hZ]
    have hG2 := HRAW2.out d l4 f4 Z.1 Z.2.1 Z.2.2 hk hI.symm hlist
    obtain ⟨D, hD⟩ : ∃ D, D = (bvs d).toArray := ⟨_, rfl⟩
    have hd32 : d.length = 32 := hil
    replace cI : ∀ a c W, Below w0.heap.size w0 W → InAt w0 a c l3 → (f3 = true → l3 = []) → Calls Try.prog 63 #[.agg (inCells a l3.length c f3)] W (RefGot w0 (.agg D) l4 f4 W) := by rw [hD]; exact cI
    replace cM : ∀ a c W, Below w0.heap.size w0 W → InAt w0 a c l4 → (f4 = true → l4 = []) → Calls Try.prog 60 #[.agg (inCells a l4.length c f4), .int .i64 64] W (RefGot w0 (.int .i64 (NN : Int)) l5 f5 W) := cM
    have hDz : D.size = 32 := by rw [hD, List.size_toArray, bvs_length, hd32]
    have hDs : (Try.prog.info? 29).map (·.size) = some D.size := by rw [hDz]; exact sizeArr
    have hDi : (Try.prog.info? 30).map (·.size) = some D.size := by rw [hDz]; exact sizeId32
    have hD1 : D.all (·.oneCell') = true := by rw [hD]; simpa using bvs_oneCell d
    have hDl : lit32.size = D.size := by rw [hDz, lit32_size]
    have CI := Lib.hid cI
    have CM := Lib.hid cM
    have HGG0 := Lib.hid hG2
    have HZ := Lib.hid hZ
    have HD := Lib.hid hD
    have HD32 := Lib.hid hd32
    have HDZ := Lib.hid hDz
    have HDS := Lib.hid hDs
    have HDI := Lib.hid hDi
    have HD1 := Lib.hid hD1
    have HDL := Lib.hid hDl
    clear hI hM hZ cI cM hil hnb hlist hG2 hD hd32 hDz hDs hDi hD1 hDl HG HRAW1 HRAW2 hk
    go_wp2_with (refine wpList_load_row rfl 46 (.tmp 9) rfl gC rfl 46 (inCells a6 l3.length c6 f3) (0, 0) _ HST.out.inn Try.underlying46 rfl (sizeIn _ _ _ _) ?_)
    refine (CI.out a6 c6 w8 (HW00.out.trans (HST.out.below.mono HW00.out.size)) HST.out.bytes HF6.out).mono ?_
    rintro e w9 ⟨hb9, a9, c9, rfl, hin9, hf9⟩
    obtain ⟨-, n1, n2, n3, n4, n5⟩ := two_new w9 29 46 lit32 (inCells none 0 0 false) D (inCells a9 l4.length c9 f4)
    obtain ⟨w10, hw10⟩ : ∃ w10, w10 = (((w9.alloc (.cells lit32 29)).alloc (.cells (inCells none 0 0 false) 46)).setRow w9.heap.size D).setRow (w9.heap.size + 1) (inCells a9 l4.length c9 f4) := ⟨_, rfl⟩
    rw [← hw10] at n3 n4 n5
    have N1 := Lib.hid n1
    have N2 := Lib.hid n2
    have NP := Lib.hid n3
    have NI := Lib.hid n4
    have HIN10 := Lib.hid hin9
    have HST10 := Lib.hid (HST.out.later (hb9.trans (n5.mono hb9.size)))
    have HF9 := Lib.hid hf9
    have HW10 := Lib.hid hw10
    have z9 := hb9.size
    have z8 := lt_of_block HST.out.op
    have z8c := lt_of_block HST.out.inn
    clear n1 n2 n3 n4 n5 hw10 hin9 hb9 hf9 CI HST HF6
    go_upto_region 12 with (first | (refine wpList_store_row rfl 29 (.tmp 15) (.tmp 61) rfl w9.heap.size D rfl rfl 29 lit32 N1.out HDS.out HDL.out HD1.out ?_) | (refine wpList_store_row rfl 46 (.tmp 16) (.tmp 62) rfl (w9.heap.size + 1) (inCells a9 l4.length c9 f4) rfl rfl 46 (inCells none 0 0 false) N2.out (sizeIn _ _ _ _) rfl (oneIn _ _ _ _) ?_))
    change Code.wp _ _ _ _ ((((w9.alloc (.cells lit32 29)).alloc (.cells (inCells none 0 0 false) 46)).setRow w9.heap.size D).setRow (w9.heap.size + 1) (inCells a9 l4.length c9 f4))
    rw [← HW10.out]
    go_wp2_with (refine wpList_load_row rfl 46 (.tmp 16) rfl (w9.heap.size + 1) rfl 46 (inCells a9 l4.length c9 f4) (0, 0) _ NI.out Try.underlying46 rfl (sizeIn _ _ _ _) ?_)
    refine (CM.out a9 c9 w10 (HW00.out.trans (HST10.out.below.mono HW00.out.size)) HIN10.out HF9.out).mono ?_
    rintro e w11 ⟨hb11, a11, c11, rfl, hin11, hf11⟩
    obtain ⟨hn1, hn2⟩ := new_row w11 46 (inCells none 0 0 false) (inCells a11 l5.length c11 f5)
    obtain ⟨w12, hw12⟩ : ∃ w12, w12 = (w11.alloc (.cells (inCells none 0 0 false) 46)).setRow w11.heap.size (inCells a11 l5.length c11 f5) := ⟨_, rfl⟩
    rw [← hw12] at hn1 hn2
    have hnew : (w11.alloc (.cells (inCells none 0 0 false) 46)).heap[w11.heap.size]? = some (.cells (inCells none 0 0 false) 46 (0, 0)) := heap_alloc_new w11 _
    have h1012 := hb11.trans (hn2.mono hb11.size)
    have z11 := Nat.le_trans (Nat.le_of_lt (lt_of_block NI.out)) hb11.size
    have z1011 := hb11.size
    have z10 := lt_of_block NI.out
    have HNW := Lib.hid hnew
    have HN1 := Lib.hid hn1
    have HST12 := Lib.hid (HST10.out.later h1012)
    have NP12 := Lib.hid (show w12.heap[w9.heap.size]? = some (.cells D 29 (0, 0)) by rw [h1012.block _ (lt_of_block NP.out)]; exact NP.out)
    have HIN12 := Lib.hid hin11
    have HF11 := Lib.hid hf11
    have HW12 := Lib.hid hw12
    clear hn1 hn2 hw12 hnew hin11 hb11 hf11 h1012 CM HST10 HF9 NP NI HIN10 HW10 N1 N2
    go_upto_region 13 with (refine wpList_store_row rfl 46 (.tmp 18) (.tmp 67) rfl w11.heap.size (inCells a11 l5.length c11 f5) rfl rfl 46 (inCells none 0 0 false) HNW.out (sizeIn _ _ _ _) rfl (oneIn _ _ _ _) ?_)
    change Code.wp _ _ _ _ ((w11.alloc (.cells (inCells none 0 0 false) 46)).setRow w11.heap.size (inCells a11 l5.length c11 f5))
    rw [← HW12.out]
    have hop := HST12.out.op
    have HTH := Lib.hid (show w12.there gO 8 D.size by rw [HDZ.out]; exact opCells_there hop rfl)
    have e0 := setCells_mid gO 33 [.slice none 0 0] (bvs d) [.int .i64 k, .int .i64 t, .int .i64 r, .int .i64 nt, .int .i64 nr, .int .i64 0, .int .i64 0, .string ⟨#[]⟩] (bvs id0) w12 (by rw [bvs_length, bvs_length, HD32.out]; rfl) hop
    have hgs : w12.grownBy (w12.setCells gO 8 D.toList) (some gO) := grownBy_setCells' _ _ _ _
    obtain ⟨w13, hw13⟩ : ∃ w13, w13 = w12.setCells gO 8 D.toList := ⟨_, rfl⟩
    rw [← hw13] at hgs
    have HST13 := Lib.hid (HST12.out.setOp hgs (Y := opCells k t r nt nr 0 0 ⟨#[]⟩ d (.slice none 0 0)) (by rw [hw13, HD.out]; exact e0))
    have HN13 := Lib.hid (show w13.heap[w11.heap.size]? = some (.cells (inCells a11 l5.length c11 f5) 46 (0, 0)) by
      rw [hgs.block _ (lt_of_block HN1.out) (by intro e; injection e with e; omega)]; exact HN1.out)
    have HW13 := Lib.hid hw13
    clear hop e0 hgs hw13 HNW HN1
    go_upto_region 14 with (first | (refine wpList_load_row rfl 29 (.tmp 15) rfl w9.heap.size rfl 29 D (0, 0) _ NP12.out Try.underlying29 rfl HDS.out ?_) | (refine wpList_store_mid rfl 30 (.tmp 69) (.tmp 68) rfl gO 8 D rfl rfl HTH.out HDI.out HD1.out ?_))
    change Code.wp _ _ _ _ (w12.setCells gO 8 D.toList)
    rw [← HW13.out]
    have hstE := HST13.out.setIn a11 c11 l5 f5 HIN12.out HF11.out
    obtain ⟨wD, hwD⟩ : ∃ x, x = w13.setRow gC (inCells a11 l5.length c11 f5) := ⟨_, rfl⟩
    rw [← hwD] at hstE
    have HSTD := Lib.hid hstE
    have HWD := Lib.hid hwD
    clear hstE hwD
    go_upto_region 15 with (first | (refine wpList_load_row rfl 46 (.tmp 18) rfl w11.heap.size rfl 46 (inCells a11 l5.length c11 f5) (0, 0) _ HN13.out Try.underlying46 rfl (sizeIn _ _ _ _) ?_) | (refine wpList_store_row rfl 46 (.tmp 9) (.tmp 70) rfl gC (inCells a11 l5.length c11 f5) rfl rfl 46 (inCells a6 l3.length c6 f3) HST13.out.inn (sizeIn _ _ _ _) rfl (oneIn _ _ _ _) ?_))
    change Code.wp _ _ _ _ (w13.setRow gC (inCells a11 l5.length c11 f5))
    rw [← HWD.out]
    have hOD := lt_of_block HSTD.out.op
    have hCD := lt_of_block HSTD.out.inn
    obtain ⟨B, hB⟩ : ∃ B, B = wD.heap.size := ⟨_, rfl⟩
    rw [← hB] at hOD hCD
    have HBD := Lib.hid hB
    have hwB : w.heap.size + 3 ≤ B := by have := HSTD.out.hO; omega
    clear HST13 HN13 HW13 HWD HF11 HIN12 NP12 HST12 HW12 HTH HD HDS HDI HD1 HDL HDZ hB z8 z8c z9 z10 z11 z1011
    go_wp2_with fail
    go_loopw [19] (fun s19 wr => ∃ (i : Nat) (sp : List (Int × Int)) (oa : Option Addr) (oc : Nat) (aF : Option Addr) (cF : Nat) (lF : List UInt8) (fF : Bool), i ≤ NN ∧ s19 = .int .i64 (i : Int) ∧ Hid (sp.length = i) ∧ Hid (RefSt w0 w gO gC (opCells k t r nt nr 0 0 ⟨#[]⟩ d (.slice oa sp.length oc)) aF cF lF fF wr) ∧ Hid (wr.ownsRow B 23 2 (.slice oa sp.length oc) sp.length (stampRow sp)) ∧ Hid (B ≤ wr.heap.size) ∧ Hid (Z.1 = sp ++ (stampsT (NN - i) lF fF).1 ∧ Z.2 = (stampsT (NN - i) lF fF).2)) (fun s19 _ => NN - (intOf s19).toNat)
    case atStart => exact ⟨0, [], none, 0, a11, c11, l5, f5, Nat.zero_le _, rfl, Lib.hid rfl, HSTD, Lib.hid (World.ownsRow_nil _ _ _ _), Lib.hid (by rw [HBD.out]; omega), Lib.hid ⟨by rw [HZ.out]; rfl, by rw [HZ.out]; rfl⟩⟩
    case round =>
      obtain ⟨i, sp, oa, oc, aF, cF, lF, fF, hi, rfl, hspl, hst, hown, hBs, hfin⟩ := hrel
      clear HSTD HBD HZ
      have v1 := cell_of_block (i := 1) hst.out.inn
      simp only [inCells] at v1
      by_cases hgo : i < NN ∧ fF = false
      · obtain ⟨hlt, rfl⟩ := hgo
        have hlti : decide ((i : Int) < (NN : Int)) = true := decide_eq_true (by omega)
        have cS := fun W h0 => refgetstamp_t w0 aF cF lF false W h0 hst.out.bytes hst.out.failed
        have hstep := hfin.out
        rw [show NN - i = (NN - (i + 1)) + 1 by omega, stampsT_step] at hstep
        obtain ⟨q, hq⟩ : ∃ q, q = stampT lF false := ⟨_, rfl⟩
        rw [← hq] at cS hstep
        obtain ⟨⟨x, y⟩, lG, fG⟩ := q
        dsimp only at hstep
        replace cS : ∀ W, Below w0.heap.size w0 W → Calls Try.prog 61 #[.agg (inCells aF lF.length cF false)] W (RefGot w0 (.agg (stampCells x y)) lG fG W) := cS
        have CS := Lib.hid cS
        have HSTEP := Lib.hid hstep
        clear cS hstep hq hfin
        go_wp2_with (refine wpList_load_row rfl 46 (.tmp 9) rfl gC rfl 46 (inCells aF lF.length cF false) (0, 0) _ hst.out.inn Try.underlying46 rfl (sizeIn _ _ _ _) ?_)
        refine (CS.out wr (HW00.out.trans (hst.out.below.mono HW00.out.size))).mono ?_
        rintro e wa ⟨hba, aG, cG, rfl, hinG, hfG⟩
        obtain ⟨-, n1, n2, n3, n4, n5⟩ := two_new wa 23 46 (stampCells 0 0) (inCells none 0 0 false) (stampCells x y) (inCells aG lG.length cG fG)
        obtain ⟨wb, hwb⟩ : ∃ wb, wb = (((wa.alloc (.cells (stampCells 0 0) 23)).alloc (.cells (inCells none 0 0 false) 46)).setRow wa.heap.size (stampCells x y)).setRow (wa.heap.size + 1) (inCells aG lG.length cG fG) := ⟨_, rfl⟩
        rw [← hwb] at n3 n4 n5
        have hab := hba.trans (n5.mono hba.size)
        have N1 := Lib.hid n1
        have N2 := Lib.hid n2
        have NS := Lib.hid n3
        have NI := Lib.hid n4
        have HSTb := Lib.hid (hst.out.later hab)
        have HOWNb := Lib.hid (ownsRow_of_block hown.out fun g cur hg _ => hab.block _ (lt_of_block hg))
        have HINb := Lib.hid hinG
        have HFb := Lib.hid hfG
        have HWb := Lib.hid hwb
        have zab := hab.size
        have zra := hba.size
        have hBa := hBs.out
        have zb := lt_of_block n4
        clear n1 n2 n3 n4 n5 hwb hab hba hinG hfG CS hst hown hBs v1
        go_upto_region 19 with (first | (refine wpList_store_row rfl 23 (.tmp 20) (.tmp 84) rfl wa.heap.size (stampCells x y) rfl rfl 23 (stampCells 0 0) N1.out (sizeStamp _ _) rfl (oneStamp _ _) ?_) | (refine wpList_store_row rfl 46 (.tmp 21) (.tmp 85) rfl (wa.heap.size + 1) (inCells aG lG.length cG fG) rfl rfl 46 (inCells none 0 0 false) N2.out (sizeIn _ _ _ _) rfl (oneIn _ _ _ _) ?_))
        change Code.wp _ _ _ _ ((((wa.alloc (.cells (stampCells 0 0) 23)).alloc (.cells (inCells none 0 0 false) 46)).setRow wa.heap.size (stampCells x y)).setRow (wa.heap.size + 1) (inCells aG lG.length cG fG))
        rw [← HWb.out]
        have s0 : wb.cell? ⟨wa.heap.size, 0, none⟩ = some (.int .i64 x) := cell_of_block NS.out
        have s1 : wb.cell? ⟨wa.heap.size, 1, none⟩ = some (.int .i64 y) := cell_of_block NS.out
        have v40 : wb.cell? ⟨gO, 40, none⟩ = some (.slice oa sp.length oc) := by rw [cell_of_block HSTb.out.op]; exact opCells_get40 _ _ _ _ _ _ _ _ _ _ HD32.out
        obtain ⟨sn, hsn⟩ : ∃ n, n = sp.length := ⟨_, rfl⟩
        have hown2 := (HOWNb.out).alloc (.cells #[.int .i64 x, .int .i64 y] 23)
        obtain ⟨i0, hi0, hz0, hz1, hz2⟩ := info_parts infoStamp
        have hcell : ∀ (jj : Nat) (u : Value), ([.int .i64 x, .int .i64 y] : List Value)[jj]? = some u → (wb.alloc (.cells #[.int .i64 x, .int .i64 y] 23)).cell? ((⟨wb.heap.size, 0, none⟩ : Addr).add jj) = some u := fun jj u hu => by
          rw [add_plain, cell_of_block (heap_alloc_new wb _)]
          simpa using hu
        have HSTc := Lib.hid (HSTb.out.later ((Below.refl _ wb).alloc (Nat.le_refl _) (.cells #[.int .i64 x, .int .i64 y] 23)))
        have hspn := hspl.out
        rw [← hsn] at v40 hown2 hspn
        have hsn64 : sn ≤ 64 := by omega
        have HOWN := Lib.hid hown2
        have HCL := Lib.hid hcell
        have HI0 := Lib.hid hi0
        have HZ0 := Lib.hid hz0
        have HZ1 := Lib.hid hz1
        have HZ2 := Lib.hid hz2
        have HSN := Lib.hid hsn
        have NIc := Lib.hid (show (wb.alloc (.cells #[.int .i64 x, .int .i64 y] 23)).heap[wa.heap.size + 1]? = some (.cells (inCells aG lG.length cG fG) 46 (0, 0)) by rw [heap_alloc_old _ _ (lt_of_block NI.out)]; exact NI.out)
        have hszb : B ≤ (wb.alloc (.cells #[.int .i64 x, .int .i64 y] 23)).heap.size := by simp; omega
        clear hown2 hcell hi0 hz0 hz1 hz2 hsn hspn N1 N2 NS HWb
        go_wp2_with (at_builtin; refine wpList_append_own _ rfl (.tmp 87) (.tmp 89) 31 rfl B 23 i0 (.agg (stampCells 0 0)) 2 16 Try.underlying31 HI0.out HZ0.out HZ1.out HZ2.out rfl (by decide) _ _ _ rfl HOWN.out ⟨wb.heap.size, 0, none⟩ 1 1 [.int .i64 x, .int .i64 y] rfl rfl HCL.out (by simp [Value.oneCell']) (by unfold maxLen; omega) (by omega) hszb ?_)
        intro v' wc hownc hgrow _
        have hown3 : wc.ownsRow B 23 2 v' (sp ++ [(x, y)]).length (stampRow (sp ++ [(x, y)])) := ownsRow_cast hownc (by rw [HSN.out]; simp) (by rw [stampRow_snoc])
        obtain ⟨oa2, oc2, rfl, -, hab2, -⟩ := owned_stamps hown3
        have hrow : ∀ g, (Value.slice oa sn oc).ownBlock = some g → B ≤ g := fun g hg => ownBlock_base HOWN.out hg
        have hstc := HSTc.out.row hgrow (fun g hg => by have := hrow g hg; omega)
        have hop := hstc.op
        have f0 : ∀ j, wc.frozen? ⟨gO, j, none⟩ = false := fun j => free_of_block hop
        have w40 : wc.cell? ⟨gO, 40, none⟩ = some (.slice oa sp.length oc) := by rw [cell_of_block hop]; exact opCells_get40 _ _ _ _ _ _ _ _ _ _ HD32.out
        have e0 := heap_setCell_same _ gO 40 _ _ (.slice oa2 (sp ++ [(x, y)]).length oc2) hop
        rw [opCells_set40 _ _ _ _ _ _ _ _ _ _ _ HD32.out] at e0
        have hgs : wc.grownBy (wc.setCell ⟨gO, 40, none⟩ (.slice oa2 (sp ++ [(x, y)]).length oc2)) (some gO) := grownBy_setCell _ _ _ _
        obtain ⟨m, hm⟩ : ∃ m, m = (sp ++ [(x, y)]).length := ⟨_, rfl⟩
        rw [← hm] at e0 hgs ⊢
        obtain ⟨wd, hwd⟩ : ∃ wd, wd = wc.setCell ⟨gO, 40, none⟩ (.slice oa2 m oc2) := ⟨_, rfl⟩
        rw [← hwd] at e0 hgs
        have HSTd := Lib.hid (hstc.setOp hgs e0)
        have hownd := hown3.kept hgs (.inr fun e => by have := ownBlock_base hown3 e; omega)
        have NId := Lib.hid (show wd.heap[wa.heap.size + 1]? = some (.cells (inCells aG lG.length cG fG) 46 (0, 0)) by
          rw [hgs.block _ (Nat.lt_of_lt_of_le (lt_of_block NIc.out) hgrow.size) (by intro e; injection e with e; omega), hgrow.block _ (lt_of_block NIc.out) ?_]
          · exact NIc.out
          · intro e
            rcases HOWN.out.2 with ⟨h1, _⟩ | ⟨g, cap', cur, h1, h2, h3, _⟩
            · rw [h1] at e; cases e
            · rw [h1] at e
              simp only [Value.ownBlock, Option.some.injEq] at e
              have h4 : (wb.alloc (.cells #[.int .i64 x, .int .i64 y] 23)).heap[g]? = some (.cells (inCells aG lG.length cG fG) 46 (0, 0)) := by rw [← e]; exact NIc.out
              rw [h3] at h4
              injection h4 with h4
              injection h4 with _ h5
              revert h5
              decide)
        have HOWNd := Lib.hid hownd
        have HWd := Lib.hid hwd
        have hsc := hgrow.size
        have hsd := hgs.size
        have HM := Lib.hid hm
        have w40' := w40
        rw [← HSN.out] at w40'
        clear hownc hown3 hop e0 hgs hownd hwd hgrow hstc hab2 hm w40 v40 s0 s1
        go_upto_region 20 with (fail)
        change Code.wp _ _ _ _ (wc.setCell ⟨gO, 40, none⟩ (.slice oa2 m oc2))
        rw [← HWd.out]
        have hstF := HSTd.out.setIn aG cG lG fG HINb.out HFb.out
        have hownF := HOWNd.out.kept (setRow_grown wd gC (inCells aG lG.length cG fG)) (.inr fun e => by have := ownBlock_base HOWNd.out e; omega)
        have HSTF := Lib.hid hstF
        have HOWNF := Lib.hid hownF
        have HBF := Lib.hid (show B ≤ (wd.setRow gC (inCells aG lG.length cG fG)).heap.size by have := (setRow_grown wd gC (inCells aG lG.length cG fG)).size; omega)
        have HFIN := Lib.hid (show Z.1 = (sp ++ [(x, y)]) ++ (stampsT (NN - (i + 1)) lG fG).1 ∧ Z.2 = (stampsT (NN - (i + 1)) lG fG).2 from ⟨by rw [HSTEP.out.1]; simp, HSTEP.out.2⟩)
        obtain ⟨we, hwe⟩ : ∃ we, we = wd.setRow gC (inCells aG lG.length cG fG) := ⟨_, rfl⟩
        rw [← hwe] at HSTF HOWNF HBF
        have HWe := Lib.hid hwe
        clear hstF hownF hwe f0 w40'
        go_upto_region 17 with (first | (refine wpList_load_row rfl 46 (.tmp 21) rfl (wa.heap.size + 1) rfl 46 (inCells aG lG.length cG fG) (0, 0) _ NId.out Try.underlying46 rfl (sizeIn _ _ _ _) ?_) | (refine wpList_store_row rfl 46 (.tmp 9) (.tmp 92) rfl gC (inCells aG lG.length cG fG) rfl rfl 46 (inCells aF lF.length cF false) HSTd.out.inn (sizeIn _ _ _ _) rfl (oneIn _ _ _ _) ?_))
        change Code.wp _ _ _ _ (wd.setRow gC (inCells aG lG.length cG fG))
        rw [← HWe.out]
        go_wp2_with fail
        go_roundw
        case rel => exact ⟨i + 1, sp ++ [(x, y)], oa2, oc2, aG, cG, lG, fG, by omega, by go_num, Lib.hid (by simp; exact hspl.out), by rw [← HM.out]; exact HSTF, HOWNF, HBF, HFIN⟩
        case measure => simp [intOf]; omega
      · have hend : Z = (sp, lF, fF) := by
          by_cases h1 : i < NN
          · have h2 : fF = true := by
              cases fF
              · exact absurd ⟨h1, rfl⟩ hgo
              · rfl
            have h3 := hfin.out
            rw [h2, stampsT_failed] at h3
            rw [h2]
            exact Prod.ext (by rw [h3.1]; simp) h3.2
          · have h3 := hfin.out
            rw [show NN - i = 0 by omega] at h3
            exact Prod.ext (by rw [h3.1]; simp [stampsT]) h3.2
        have hwalk : (decide (i < NN) = false ∧ decide ((i : Int) < (NN : Int)) = false) ∨ (i < NN ∧ fF = true) := by
          by_cases h1 : i < NN
          · refine .inr ⟨h1, ?_⟩
            cases fF
            · exact absurd ⟨h1, rfl⟩ hgo
            · rfl
          · exact .inl ⟨decide_eq_false h1, decide_eq_false (by omega)⟩
        obtain ⟨V, hV⟩ : ∃ V : OpV, V = ⟨k, t, r, nt, nr, 0, 0, ⟨#[]⟩, d, sp⟩ := ⟨_, rfl⟩
        obtain ⟨ao, co, hao, hat, hab, -⟩ := owned_stamps hown.out
        injection hao with hao1 _ hao2
        subst hao1 hao2
        obtain ⟨l6, hl6⟩ : ∃ x, x = lF := ⟨_, rfl⟩
        obtain ⟨f6, hf6⟩ : ∃ x, x = fF := ⟨_, rfl⟩
        obtain ⟨wE, hwE⟩ : ∃ x, x = wr := ⟨_, rfl⟩
        have hGG : G = if f6 = false ∧ V.good = true then (V, l6, f6) else (.zero, [], true) := by rw [HGG0.out, hend, hV, hl6, hf6]
        have HGG := Lib.hid hGG
        have HST := Lib.hid (show RefSt w0 w gO gC (V.cells (.slice oa V.ss.length oc)) aF cF l6 f6 wE by rw [hV, hl6, hf6, hwE]; exact hst.out)
        have HAT := Lib.hid (show StampsAt wE oa V.ss by rw [hV, hwE]; exact hat)
        have HAB := Lib.hid (show ∀ x, oa = some x → w.heap.size + 3 ≤ x.block from fun x e => by have := hab x e; omega)
        have HVS := Lib.hid (show V.d.length = 32 ∧ V.s.size ≤ 60 ∧ V.ss.length ≤ 64 by rw [hV]; exact ⟨HD32.out, by show (0 : Nat) ≤ 60; omega, by show sp.length ≤ 64; rw [hspl.out]; omega⟩)
        have HWE := Lib.hid hwE
        rw [← hf6] at v1 hwalk
        clear hend hgo hfin hV hat hab hl6 hGG hwE hst hown hBs hspl hf6
        rcases hwalk with ⟨hw1, hft⟩ | ⟨hw1, hft⟩
        all_goals
          try rw [hft] at v1
          go_upto_region 21 with (fail)
          rw [← HWE.out]
          clear v1 hw1 hft HWE
          have hYs : (Try.prog.info? 33).map (·.size) = some (V.cells (.slice oa V.ss.length oc)).size := sizeOp _ _ _ _ _ _ _ _ _ _ HVS.out.1
          have hY1 : (V.cells (.slice oa V.ss.length oc)).all (·.oneCell') = true := opCells_one _ _ _ _ _ _ _ _ _ _ _ _
          have hgd : ∀ W, StampsAt W oa V.ss → Calls Try.prog 19 #[.agg (V.cells (.slice oa V.ss.length oc))] W fun e w' => e = .returned (.bool V.good) ∧ Below W.heap.size W w' := fun W h => refgood_any _ _ _ _ _ _ _ _ _ oa V.ss oc W HVS.out.1 (by have := HVS.out.2.1; unfold maxLen; omega) h (by have := HVS.out.2.2; omega)
          obtain ⟨Y, hY⟩ : ∃ Y, Y = V.cells (.slice oa V.ss.length oc) := ⟨_, rfl⟩
          obtain ⟨gb, hgb⟩ : ∃ b, b = V.good := ⟨_, rfl⟩
          have hst := HST.out
          rw [← hY] at hYs hY1 hgd hst
          rw [← hgb] at hgd
          have hZs : zopLit.size = Y.size := by
            have h1 := opCells_size V.k V.t V.r V.nt V.nr V.pt V.pr V.s V.d (.slice oa V.ss.length oc) HVS.out.1
            rw [hY]
            exact h1.symm
          obtain ⟨g1, hg1⟩ : ∃ g, g = w.heap.size + 1 := ⟨_, rfl⟩
          obtain ⟨g2, hg2⟩ : ∃ g, g = g1 + 1 := ⟨_, rfl⟩
          have hr1 := hst.res1
          have hr2 : wE.heap[w.heap.size + 1 + 1]? = some (.cells (inCells none 0 0 false) 46 (0, 0)) := hst.res2
          rw [← hg1] at hr1 hr2 ⊢
          rw [← hg2] at hr2 ⊢
          have hne12 : g2 ≠ g1 := by omega
          have hO1 : gO ≠ g1 ∧ gO ≠ g2 ∧ gC ≠ g1 ∧ gC ≠ g2 := by have := hst.hO; have := hst.hC; omega
          have HG1 := Lib.hid hg1
          have HG2 := Lib.hid hg2
          have HGD := Lib.hid hgd
          have HYS := Lib.hid hYs
          have HY1 := Lib.hid hY1
          have HZS := Lib.hid hZs
          have HY := Lib.hid hY
          have HGB := Lib.hid hgb
          have HST2 := Lib.hid hst
          have HR1 := Lib.hid hr1
          have HR2 := Lib.hid hr2
          have HNE := Lib.hid hne12
          have HO1 := Lib.hid hO1
          have cf := cell_of_block (i := 1) hst.inn
          simp only [inCells] at cf
          clear hYs hY1 hgd hY hgb hst hZs hg1 hg2 hr1 hr2 hne12 hO1 HST HVS
          cases f6
          · go_wp2_with (refine wpList_load_row_guarded rfl 33 (.tmp 10) rfl gO rfl 33 Y (0, 0) _ HST2.out.op Try.underlying33 rfl HYS.out ?_)
            refine (HGD.out _ HAT.out).mono ?_
            rintro e wF ⟨rfl, hbF⟩
            have hstF := HST2.out.later hbF
            have hatF := HAT.out.later hbF
            have hr1F : wF.heap[g1]? = some (.cells zopLit 33 (0, 0)) := by rw [hbF.block _ (lt_of_block HR1.out)]; exact HR1.out
            have hr2F : wF.heap[g2]? = some (.cells (inCells none 0 0 false) 46 (0, 0)) := by rw [hbF.block _ (lt_of_block HR2.out)]; exact HR2.out
            cases gb
            · have hG : G = (.zero, [], true) := by rw [HGG.out, if_neg (by rw [← HGB.out]; simp)]
              have HGX := Lib.hid hG
              have hr2G : (wF.setRow g1 zopLit).heap[g2]? = some (.cells (inCells none 0 0 false) 46 (0, 0)) := by rw [setRow_other _ _ _ _ HNE.out]; exact hr2F
              have H1F := Lib.hid hr1F
              have H2F := Lib.hid hr2G
              have HBF := Lib.hid hstF.below
              clear hG hstF hatF hr1F hr2F hr2G hbF cf
              go_wp2_with (first | (refine wpList_store_row rfl 33 (.tmp 2) (.tmp 100) rfl g1 zopLit rfl rfl 33 zopLit H1F.out sizeZop rfl zopOne ?_) | (refine wpList_store_row rfl 46 (.tmp 3) (.tmp 101) rfl g2 (inCells none 0 0 true) rfl rfl 46 (inCells none 0 0 false) H2F.out (sizeIn _ _ _ _) rfl (oneIn _ _ _ _) ?_))
              refine bodyPost_ret (v := .tuple #[.agg zopLit, .agg (inCells none 0 0 true)]) (results_rows rfl _ _ g1 g2 33 46 zopLit (inCells none 0 0 true) (0, 0) (0, 0) _ _ rfl (by rw [setRow_other _ _ _ _ (Ne.symm HNE.out)]; exact setRow_heap _ _ _ _ _ _ H1F.out) rfl (setRow_heap _ _ _ _ _ _ H2F.out) Try.underlying33 rfl sizeZop Try.underlying46 rfl (sizeIn _ _ _ _)) rfl ?_
              rw [HGX.out]
              exact ⟨below_setRow (below_setRow HBF.out (by have := HG1.out; omega)) (by have := HG1.out; have := HG2.out; omega), none, 0, none, 0, by rw [zopLit_eq]; rfl, stamps_none, inAt_nil _, fun _ => rfl⟩
            · have hG : G = (V, l6, false) := by rw [HGG.out, if_pos ⟨by trivial, HGB.out.symm⟩]
              have HGX := Lib.hid hG
              have H1F := Lib.hid hr1F
              have H2F := Lib.hid hr2F
              have HSF := Lib.hid hstF
              have HAF := Lib.hid hatF
              clear hG hstF hatF hr1F hr2F hbF cf
              go_upto_region 23 with (fail)
              refine wp_region_sched (fun W => W.heap[gO]? = some (.cells Y 33 (0, 0)) ∧ W.heap[gC]? = some (.cells (inCells aF l6.length cF false) 46 (0, 0))) [([0, 1], 2), ([], 3)] [] (by kernel_rfl) (by kernel_rfl) (fun _ _ d _ _ h => by cases d <;> exact h) (by kernel_rfl) (of_decide_eq_true (by kernel_rfl)) ⟨HSF.out.op, HSF.out.inn⟩ ?_
              refine wpSched_cons ?_
              dsimp only [opsAt, List.filterMap, List.getElem?_cons_zero, List.getElem?_cons_succ]
              repeat (first
                | go_big_quiet_skip
                | (go_big_quiet_want
                   first
                     | (refine quiet_load_row' 33 (.tmp 10) rfl gO rfl 33 Y (0, 0) _ (fun _ h => h.1) Try.underlying33 rfl HYS.out ?_
                        simp only [Act.put, List.setIfInBounds_toArray, List.set_cons_zero, List.set_cons_succ]
                        go_big_quiet_on)
                     | (refine quiet_load_row' 46 (.tmp 9) rfl gC rfl 46 (inCells aF l6.length cF false) (0, 0) _ (fun _ h => h.2) Try.underlying46 rfl (sizeIn _ _ _ _) ?_
                        simp only [Act.put, List.setIfInBounds_toArray, List.set_cons_zero, List.set_cons_succ]
                        go_big_quiet_on)
                     | (go_big_quiet_op
                        refine ⟨_, fun _ _ => rfl, ?_⟩
                        go_big_quiet_on)
                     | (go_big_quiet_op
                        go_big_quiet_on)))
              refine wpQuiet_nil ?_
              intro KK hKK
              rw [if_pos (by rfl)]
              refine wp_store_row 33 (.tmp 2) (.tmp 102) rfl g1 Y rfl rfl 33 zopLit H1F.out HYS.out HZS.out HY1.out ?_
              have hs1 : (wF.drew.setRow g1 Y).heap[gO]? = some (.cells Y 33 (0, 0)) ∧ (wF.drew.setRow g1 Y).heap[gC]? = some (.cells (inCells aF l6.length cF false) 46 (0, 0)) := by
                rw [setRow_other _ _ _ _ HO1.out.1, setRow_other _ _ _ _ HO1.out.2.2.1]
                exact ⟨HSF.out.op, HSF.out.inn⟩
              have hr2G : (wF.drew.setRow g1 Y).heap[g2]? = some (.cells (inCells none 0 0 false) 46 (0, 0)) := by rw [setRow_other _ _ _ _ HNE.out]; exact H2F.out
              have hr1G : (wF.drew.setRow g1 Y).heap[g1]? = some (.cells Y 33 (0, 0)) := setRow_heap _ _ _ _ _ _ H1F.out
              have hbG : Below w.heap.size w (wF.drew.setRow g1 Y) := below_setRow HSF.out.below.drew (by have := HG1.out; omega)
              have hgG : wF.grownBy (wF.drew.setRow g1 Y) (some g1) := grownBy_trans (grownBy_drew wF (some g1)) (setRow_grown wF.drew g1 Y)
              obtain ⟨wG, hwG⟩ : ∃ x, x = wF.drew.setRow g1 Y := ⟨_, rfl⟩
              refine hKK _ _ hs1 ?_
              rw [← hwG] at hs1 hr2G hr1G hbG hgG ⊢
              clear hKK KK hwG
              try simp only [Act.put, List.setIfInBounds_toArray, List.set_cons_zero, List.set_cons_succ]
              refine wpSched_cons ?_
              dsimp only [opsAt, List.filterMap, List.getElem?_cons_zero, List.getElem?_cons_succ]
              repeat (first
                | go_big_quiet_skip
                | (go_big_quiet_want
                   first
                     | (go_big_quiet_op
                        refine ⟨_, fun _ _ => rfl, ?_⟩
                        go_big_quiet_on)
                     | (go_big_quiet_op
                        go_big_quiet_on)))
              refine wpQuiet_nil ?_
              intro KK hKK
              rw [if_pos (by rfl)]
              refine wp_store_row 46 (.tmp 3) (.tmp 103) rfl g2 (inCells aF l6.length cF false) rfl rfl 46 (inCells none 0 0 false) hr2G (sizeIn _ _ _ _) rfl (oneIn _ _ _ _) ?_
              have hs2 : (wG.setRow g2 (inCells aF l6.length cF false)).heap[gO]? = some (.cells Y 33 (0, 0)) ∧ (wG.setRow g2 (inCells aF l6.length cF false)).heap[gC]? = some (.cells (inCells aF l6.length cF false) 46 (0, 0)) := by
                rw [setRow_other _ _ _ _ HO1.out.2.1, setRow_other _ _ _ _ HO1.out.2.2.2]
                exact hs1
              refine hKK _ _ hs2 ?_
              clear hKK KK
              try simp only [Act.put, List.setIfInBounds_toArray, List.set_cons_zero, List.set_cons_succ]
              refine wpSched_nil ?_
              dsimp only [opsAt, List.filterMap, List.getElem?_cons_zero, List.getElem?_cons_succ]
              refine wpQuiet_nil ?_
              have hq1 : (wG.setRow g2 (inCells aF l6.length cF false)).heap[g1]? = some (.cells Y 33 (0, 0)) := by rw [setRow_other _ _ _ _ (Ne.symm HNE.out)]; exact hr1G
              have hq2 := setRow_heap wG g2 _ (inCells aF l6.length cF false) _ _ hr2G
              have hq3 : Below w.heap.size w (wG.setRow g2 (inCells aF l6.length cF false)) := below_setRow hbG (by have := HG1.out; have := HG2.out; omega)
              have hatG := (HAF.out.row hgG (fun x e => by have := HAB.out x e; have := HG1.out; intro e2; injection e2 with e2; omega)).row (setRow_grown wG g2 (inCells aF l6.length cF false)) (fun x e => by have := HAB.out x e; have := HG1.out; have := HG2.out; intro e2; injection e2 with e2; omega)
              have HQ1 := Lib.hid hq1
              have HQ2 := Lib.hid hq2
              have HQ3 := Lib.hid hq3
              have HATG := Lib.hid hatG
              clear hs1 hs2 hr2G hr1G hbG hgG hq1 hq2 hq3 hatG
              go_wp2_with fail
              refine bodyPost_ret (v := .tuple #[.agg Y, .agg (inCells aF l6.length cF false)]) (results_rows rfl _ _ g1 g2 33 46 Y (inCells aF l6.length cF false) (0, 0) (0, 0) _ _ rfl HQ1.out rfl HQ2.out Try.underlying33 rfl HYS.out Try.underlying46 rfl (sizeIn _ _ _ _)) rfl ?_
              rw [HGX.out]
              exact ⟨HQ3.out, oa, oc, aF, cF, by rw [HY.out], HATG.out, HSF.out.bytes, fun h => by cases h⟩
          · have hG : G = (.zero, [], true) := by rw [HGG.out, if_neg (by simp)]
            have HGX := Lib.hid hG
            have hr2G : (wE.setRow g1 zopLit).heap[g2]? = some (.cells (inCells none 0 0 false) 46 (0, 0)) := by rw [setRow_other _ _ _ _ HNE.out]; exact HR2.out
            have H2F := Lib.hid hr2G
            clear hG hr2G
            go_wp2_with (first | (refine wpList_store_row rfl 33 (.tmp 2) (.tmp 100) rfl g1 zopLit rfl rfl 33 zopLit HR1.out sizeZop rfl zopOne ?_) | (refine wpList_store_row rfl 46 (.tmp 3) (.tmp 101) rfl g2 (inCells none 0 0 true) rfl rfl 46 (inCells none 0 0 false) H2F.out (sizeIn _ _ _ _) rfl (oneIn _ _ _ _) ?_))
            refine bodyPost_ret (v := .tuple #[.agg zopLit, .agg (inCells none 0 0 true)]) (results_rows rfl _ _ g1 g2 33 46 zopLit (inCells none 0 0 true) (0, 0) (0, 0) _ _ rfl (by rw [setRow_other _ _ _ _ (Ne.symm HNE.out)]; exact setRow_heap _ _ _ _ _ _ HR1.out) rfl (setRow_heap _ _ _ _ _ _ H2F.out) Try.underlying33 rfl sizeZop Try.underlying46 rfl (sizeIn _ _ _ _)) rfl ?_
            rw [HGX.out]
            exact ⟨below_setRow (below_setRow HST2.out.below (by have := HG1.out; omega)) (by have := HG1.out; have := HG2.out; omega), none, 0, none, 0, by rw [zopLit_eq]; rfl, stamps_none, inAt_nil _, fun _ => rfl⟩
end Go.Proofs.Ytoaboehmjfnceaa
