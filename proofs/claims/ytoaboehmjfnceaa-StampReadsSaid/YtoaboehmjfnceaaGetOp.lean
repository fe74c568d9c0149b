/-
  What comes of reading an operation from any bytes; the walks of its parts, and of stamp.Get at any bytes.
-/
import Derived.Test.YtoaboehmjfnceaaGetMove
import Derived.Test.YtoaboehmjfnceaaStampEq
import Derived.Laws.AppendOwn
import Derived.Deep.MidRow
import Derived.Test.YtoaboehmjfnceaaGoodOp
namespace Go.Proofs.Ytoaboehmjfnceaa
open Go.RowKit
set_option linter.unusedSimpArgs false
set_option linter.unusedVariables false

/-- A number is read: it, what is left, has the reader failed. -/
def numT (l : List UInt8) (f : Bool) (most : Int) : Int × List UInt8 × Bool :=
  match rnum l most with
  | some (n, l') => ((n : Int), l', f)
  | none => (0, [], true)
def stampT (l : List UInt8) (f : Bool) : (Int × Int) × List UInt8 × Bool :=
  (((numT l f 1099511627776).1, (numT (numT l f 1099511627776).2.1 (numT l f 1099511627776).2.2 65536).1), (numT (numT l f 1099511627776).2.1 (numT l f 1099511627776).2.2 65536).2)
def textT (l : List UInt8) (f : Bool) (most : Int) : List UInt8 × List UInt8 × Bool :=
  match rtext l most with
  | some (s, l') => (s, l', f)
  | none => ([], [], true)
def idT (l : List UInt8) (f : Bool) : List UInt8 × List UInt8 × Bool := if 32 ≤ l.length then (l.take 32, l.drop 32, f) else (id0, [], true)
/-- Up to n stamps, none any more behind one that isn't there. -/
def stampsT : Nat → List UInt8 → Bool → List (Int × Int) × List UInt8 × Bool
  | 0, l, f => ([], l, f)
  | n + 1, l, f => if f = true then ([], l, f) else ((stampT l f).1 :: (stampsT n (stampT l f).2.1 (stampT l f).2.2).1, (stampsT n (stampT l f).2.1 (stampT l f).2.2).2)
def listT (l : List UInt8) (f : Bool) : List (Int × Int) × List UInt8 × Bool := stampsT (numT l f 64).1.toNat (numT l f 64).2.1 (numT l f 64).2.2

theorem rnum_bound {l l' : List UInt8} {most : Int} {n : Nat} (h : rnum l most = some (n, l')) : (n : Int) ≤ most ∧ n ≤ 4611686018427387904 := by
  unfold rnum at h
  split at h
  · cases h
  · rename_i hc
    injection h with h
    injection h with h1 h2
    omega
theorem numT_bound (l : List UInt8) (f : Bool) (most : Int) (hm : 0 ≤ most) : 0 ≤ (numT l f most).1 ∧ (numT l f most).1 ≤ most ∧ (numT l f most).1 ≤ 4611686018427387904 := by
  unfold numT
  cases h : rnum l most with
  | none => exact ⟨Int.le_refl 0, hm, by show (0 : Int) ≤ _; omega⟩
  | some p =>
    have := rnum_bound h
    show 0 ≤ (p.1 : Int) ∧ (p.1 : Int) ≤ most ∧ (p.1 : Int) ≤ 4611686018427387904
    omega
theorem stampsT_len : ∀ (n : Nat) (l : List UInt8) (f : Bool), (stampsT n l f).1.length ≤ n
  | 0, l, f => Nat.le_refl _
  | n + 1, l, f => by
    unfold stampsT
    split
    · simp
    · have := stampsT_len n (stampT l f).2.1 (stampT l f).2.2
      simp only [List.length_cons]
      omega
theorem stampsT_failed (n : Nat) (l : List UInt8) : stampsT n l true = ([], l, true) := by
  cases n with
  | zero => rfl
  | succ n => unfold stampsT; rw [if_pos rfl]
theorem stampsT_step (n : Nat) (l : List UInt8) : stampsT (n + 1) l false = ((stampT l false).1 :: (stampsT n (stampT l false).2.1 (stampT l false).2.2).1, (stampsT n (stampT l false).2.1 (stampT l false).2.2).2) := by
  rw [stampsT, if_neg (by decide)]
theorem listT_len (l : List UInt8) (f : Bool) : (listT l f).1.length ≤ 64 := by
  have h := numT_bound l f 64 (by omega)
  have := stampsT_len (numT l f 64).1.toNat (numT l f 64).2.1 (numT l f 64).2.2
  unfold listT
  omega
theorem textT_len (l : List UInt8) (f : Bool) : (textT l f 60).1.length ≤ 60 := by
  unfold textT
  cases h : rtext l 60 with
  | none => simp
  | some p =>
    show p.1.length ≤ 60
    unfold rtext at h
    split at h
    · cases h
    · rename_i q hq
      split at h
      · have h1 := rnum_bound (n := q.1) (l' := q.2) hq
        injection h with h
        rw [← h]
        simp only [List.length_take]
        omega
      · cases h
theorem idT_len (l : List UInt8) (f : Bool) : (idT l f).1.length = 32 := by
  unfold idT
  split
  · simp; omega
  · simp [id0]

theorem num_t (R Q : Nat) (l : List UInt8) (f : Bool) (most : Int) (w : World) (h : Reads w R Q l f) :
    Calls Try.prog 54 #[.pointer (some ⟨R, 0, none⟩), .int .i64 most] w (ReadOn R Q (.int .i64 (numT l f most).1) (numT l f most).2.1 (numT l f most).2.2 w) := by
  unfold numT
  cases hn : rnum l most with
  | none => exact rnum_none R Q l f most w h hn
  | some p => exact rnum_some R Q l f most p.1 p.2 w h hn
theorem text_t (R Q : Nat) (l : List UInt8) (f : Bool) (most : Int) (w : World) (h : Reads w R Q l f) :
    Calls Try.prog 56 #[.pointer (some ⟨R, 0, none⟩), .int .i64 most] w (ReadOn R Q (.string ⟨(textT l f most).1.toArray⟩) (textT l f most).2.1 (textT l f most).2.2 w) := by
  unfold textT
  cases hn : rtext l most with
  | none => exact rtext_none R Q l f most w h hn
  | some p => exact rtext_some R Q l f most p.1 p.2 w h hn
theorem id_t (R Q : Nat) (l : List UInt8) (f : Bool) (w : World) (h : Reads w R Q l f) :
    Calls Try.prog 57 #[.pointer (some ⟨R, 0, none⟩)] w (ReadOn R Q (.agg (bvs (idT l f).1).toArray) (idT l f).2.1 (idT l f).2.2 w) := by
  unfold idT
  by_cases hn : 32 ≤ l.length
  · rw [if_pos hn]; exact rid_some R Q l f w h hn
  · rw [if_neg hn]; exact rid_none R Q l f w h (by omega)

set_option maxRecDepth 100000 in
set_option maxHeartbeats 400000 in
theorem stamp_t (R Q : Nat) (l : List UInt8) (f : Bool) (w : World) (h : Reads w R Q l f) :
    Calls Try.prog 55 #[.pointer (some ⟨R, 0, none⟩)] w (ReadOn R Q (.agg (stampCells (stampT l f).1.1 (stampT l f).1.2)) (stampT l f).2.1 (stampT l f).2.2 w) := by
  unfold stampT
  have hRlt := h.lt
  have hQlt := h.2.1
  have hb0 : Below w.heap.size w (w.alloc (.cells (stampCells 0 0) 23)) := (Below.refl _ w).alloc (Nat.le_refl _) _
  have hr0 := h.later hb0
  have hg0 : (w.alloc (.cells (stampCells 0 0) 23)).heap[w.heap.size]? = some (.cells (stampCells 0 0) 23 (0, 0)) := heap_alloc_new w _
  have hc1 := num_t R Q l f 1099511627776 _ hr0
  obtain ⟨a, ha⟩ : ∃ a, a = numT l f 1099511627776 := ⟨_, rfl⟩
  rw [← ha] at hc1 ⊢
  obtain ⟨t, l1, f1⟩ := a
  have hc2 := fun W h => num_t R Q l1 f1 65536 W h
  dsimp only at hc1 hc2 ⊢
  obtain ⟨b, hb⟩ : ∃ b, b = numT l1 f1 65536 := ⟨_, rfl⟩
  rw [← hb] at hc2 ⊢
  obtain ⟨r, l2, f2⟩ := b
  dsimp only at hc2 ⊢
  have HC1 := Lib.hid hc1
  have HC2 := Lib.hid hc2
  have HG0 := Lib.hid hg0
  have HB0 := Lib.hid hb0
  clear ha hb hr0 hc1 hc2 hg0 hb0 h
  unfold ReadOn
  go_enter Try.func55, Try.ntmps55
  go_wp2_with fail
  refine HC1.out.mono ?_
  rintro e w1 ⟨rfl, hr1, hg1⟩
  go_wp2_with fail
  refine (HC2.out w1 hr1).mono ?_
  rintro e w2 ⟨rfl, hr2, hg2⟩
  have hg12 := grownBy_trans hg1 hg2
  have hgg : w2.heap[w.heap.size]? = some (.cells (stampCells 0 0) 23 (0, 0)) := by
    rw [hg12.block _ (lt_of_block HG0.out) (by intro e; injection e with e; omega)]
    exact HG0.out
  have c0 : w2.cell? ⟨w.heap.size, 0, none⟩ = some (.int .i64 0) := cell_of_block hgg
  have c1 : w2.cell? ⟨w.heap.size, 1, none⟩ = some (.int .i64 0) := cell_of_block hgg
  have f0 : ∀ j, w2.frozen? ⟨w.heap.size, j, none⟩ = false := fun j => free_of_block hgg
  have e1 := heap_setCell_same w2 w.heap.size 0 _ _ (.int .i64 t) hgg
  have e2 := heap_setCell_same _ w.heap.size 1 _ _ (.int .i64 r) e1
  have E2 := Lib.hid e2
  have HR2 := Lib.hid hr2
  have HG12 := Lib.hid hg12
  clear e1 e2 hgg hr1 hg1 hg2 hg12 hr2
  go_wp2_with fail
  refine bodyPost_ret (v := .agg (stampCells t r)) (results_cell_row rfl _ _ w.heap.size 23 _ (0, 0) _ rfl E2.out Try.underlying23 rfl (sizeStamp t r)) rfl ?_
  have hs2 : w2.grownBy ((w2.setCell ⟨w.heap.size, 0, none⟩ (.int .i64 t)).setCell ⟨w.heap.size, 1, none⟩ (.int .i64 r)) (some w.heap.size) := grownBy_trans (grownBy_setCell _ _ _ _) (grownBy_setCell _ _ _ _)
  refine ⟨rfl, HR2.out.other hs2 (by omega) (by omega), ?_⟩
  have hb := HB0.out
  have hk := HG12.out
  refine ⟨(hs2.os.trans hk.os).trans hb.os, (hs2.tape.trans hk.tape).trans hb.tape, (hs2.output.trans hk.output).trans hb.output, Nat.le_trans (Nat.le_trans hb.size hk.size) hs2.size, fun i hi hiR => ?_⟩
  rw [hs2.block i (by have := hb.size; have := hk.size; omega) (by intro e; injection e with e; omega), hk.block i (by have := hb.size; omega) hiR, hb.block i hi]

theorem Reads.row {w w' : World} {R Q : Nat} {l : List UInt8} {f : Bool} {row : Option Nat} (h : Reads w R Q l f) (hg : w.grownBy w' row) (h1' : some R ≠ row) (h2' : some Q ≠ row) : Reads w' R Q l f := by
  obtain ⟨hQ, hQs, a, cap, h1, h2, h3, h4, h5⟩ := h
  refine ⟨hQ, Nat.lt_of_lt_of_le hQs hg.size, a, cap, by rw [hg.block R (lt_of_block h1) h1']; exact h1, fun i hi => ?_, h3, h4, h5⟩
  obtain ⟨b, off, hab, hc⟩ := h2 i hi
  exact ⟨b, off, hab, hg.cell hc (by have := h3 _ hab; simp at this; rw [this]; exact h2')⟩
theorem StampsAt.row {w w' : World} {a : Option Addr} {ss : List (Int × Int)} {row : Option Nat} (h : StampsAt w a ss) (hg : w.grownBy w' row) (ha : ∀ x, a = some x → some x.block ≠ row) : StampsAt w' a ss := fun i hi => by
  obtain ⟨b, off, hab, h1, h2⟩ := h i hi
  have := ha _ hab
  exact ⟨b, off, hab, hg.cell h1 this, hg.cell h2 this⟩
theorem ownBlock_base {w : World} {base : Nat} {e : TypeId} {size : Nat} {v : Value} {n : Nat} {xs : List Value} (h : w.ownsRow base e size v n xs) {g : Nat} (hg : v.ownBlock = some g) : base ≤ g := by
  rcases h.2 with ⟨rfl, _⟩ | ⟨g', cap, cur, rfl, h2, _⟩
  · cases hg
  · simp [Value.ownBlock] at hg
    omega
theorem grownBy_own {w w1 w2 : World} {R : Nat} {row : Option Nat} (h : w.grownBy w1 (some R)) (hg : w1.grownBy w2 row) (hb : ∀ g, row = some g → w.heap.size ≤ g) : w.grownBy w2 (some R) :=
  ⟨hg.os.trans h.os, hg.tape.trans h.tape, hg.output.trans h.output, Nat.le_trans h.size hg.size, fun k hk hkR => (hg.block k (Nat.lt_of_lt_of_le hk h.size) (fun e => by have := hb k e.symm; omega)).trans (h.block k hk hkR)⟩
theorem infoStamp : (Try.prog.info? 23).map (fun i => (i.zero, i.size, i.bytes)) = some (some (.agg (stampCells 0 0)), 2, 16) := by kernel_rfl

/-- Stamps that are new memory. -/
theorem owned_stamps {w : World} {base : Nat} {v : Value} {ss : List (Int × Int)} (h : w.ownsRow base 23 2 v ss.length (stampRow ss)) :
    ∃ a c, v = .slice a ss.length c ∧ StampsAt w a ss ∧ (∀ x, a = some x → base ≤ x.block) ∧ (a = none → c = 0) := by
  rcases h.2 with ⟨rfl, h0⟩ | ⟨g, cap, cur, rfl, h1, h2, h3, h4, h5, h6⟩
  · have : ss = [] := List.eq_nil_of_length_eq_zero h0
    subst this
    exact ⟨none, 0, rfl, stamps_none, (fun x e => by cases e), fun _ => rfl⟩
  · refine ⟨some ⟨g, 0, none⟩, cap, rfl, fun i hi => ⟨g, 0, rfl, ?_, ?_⟩, (fun x e => by injection e with e; rw [← e]; exact h1), (fun e => by cases e)⟩
    · have hq := (stampRow_get ss i hi).1
      rw [← h6, List.getElem?_take] at hq
      split at hq
      · rw [cell_of_block h2, Nat.zero_add, Nat.mul_comm]
        simpa using hq
      · cases hq
    · have hq := (stampRow_get ss i hi).2
      rw [← h6, List.getElem?_take] at hq
      split at hq
      · rw [cell_of_block h2, Nat.zero_add, Nat.mul_comm]
        simpa using hq
      · cases hq

/-- What List comes to. -/
def ReadList (R Q : Nat) (ss : List (Int × Int)) (l : List UInt8) (f : Bool) (w : World) (e : Ending) (w' : World) : Prop :=
  ∃ v, e = .returned v ∧ w'.ownsRow w.heap.size 23 2 v ss.length (stampRow ss) ∧ Reads w' R Q l f ∧ w.grownBy w' (some R)

theorem stampRow_snoc (ss : List (Int × Int)) (t r : Int) : stampRow (ss ++ [(t, r)]) = stampRow ss ++ [.int .i64 t, .int .i64 r] := by
  simp [stampRow]

set_option maxRecDepth 100000 in
set_option maxHeartbeats 1000000 in
theorem list_t (R Q : Nat) (l : List UInt8) (f : Bool) (w : World) (h : Reads w R Q l f) :
    Calls Try.prog 58 #[.pointer (some ⟨R, 0, none⟩), .int .i64 64, .func (.func 55) #[] #[]] w (ReadList R Q (listT l f).1 (listT l f).2.1 (listT l f).2.2 w) := by
  unfold listT
  have hc1 := num_t R Q l f 64 w h
  have hnb := numT_bound l f 64 (by omega)
  have hRlt := h.lt
  have hQlt := h.2.1
  obtain ⟨a, ha⟩ : ∃ a, a = numT l f 64 := ⟨_, rfl⟩
  rw [← ha] at hc1 hnb ⊢
  obtain ⟨n, l1, f1⟩ := a
  dsimp only at hc1 hnb ⊢
  obtain ⟨N, rfl⟩ := Int.eq_ofNat_of_zero_le hnb.1
  obtain ⟨Z, hZ⟩ : ∃ Z, Z = stampsT N l1 f1 := ⟨_, rfl⟩
  rw [show ((N : Nat) : Int).toNat = N by omega, ← hZ]
  have hN : N ≤ 64 := by omega
  have HC1 := Lib.hid hc1
  have HZ := Lib.hid hZ
  clear ha hc1 hZ hnb h
  unfold ReadList
  go_enter Try.func58, Try.ntmps58
  go_wp2_with fail
  refine HC1.out.mono ?_
  rintro e w1 ⟨rfl, hr1, hg1⟩
  have HR1 := Lib.hid hr1
  have HG1 := Lib.hid hg1
  clear hr1 hg1 HC1
  go_wp2_with fail
  go_loopw [7, 8] (fun s7 s8 wr => ∃ (k : Nat) (ss : List (Int × Int)) (l' : List UInt8) (f' : Bool), ss.length + k ≤ 64 ∧ s8 = .int .i64 (k : Int) ∧ Hid (wr.ownsRow w.heap.size 23 2 s7 ss.length (stampRow ss)) ∧ Hid (Reads wr R Q l' f') ∧ Hid (w.grownBy wr (some R)) ∧ Hid (Z.1 = ss ++ (stampsT k l' f').1 ∧ Z.2 = (stampsT k l' f').2)) (fun _ s8 _ => (intOf s8).toNat)
  case atStart => exact ⟨N, [], l1, f1, by simpa using hN, rfl, Lib.hid (World.ownsRow_nil _ _ _ _), HR1, HG1, Lib.hid ⟨by rw [HZ.out]; rfl, by rw [HZ.out]⟩⟩
  case round =>
    obtain ⟨k, ss, l', f', hk, rfl, hown, hrd, hgr, hfin⟩ := hrel
    clear HR1 HG1 HZ hN
    by_cases h0 : k = 0
    · have HF := Lib.hid hfin.out
      have hkd : decide ((0 : Int) < (k : Int)) = false := decide_eq_false (by omega)
      have hkd2 : decide (0 < k) = false := decide_eq_false (by omega)
      subst h0
      have e1 : Z.1 = ss := by rw [HF.out.1]; simp [stampsT]
      have e2 : Z.2 = (l', f') := HF.out.2
      have E1 := Lib.hid e1
      have E2 := Lib.hid e2
      clear e1 e2 hfin HF hkd hkd2
      go_wp2_with fail
      go_ret
      exact ⟨_, rfl, by rw [E1.out]; exact hown.out, by rw [E2.out]; exact hrd.out, hgr.out⟩
    · obtain ⟨j, rfl⟩ : ∃ j, k = j + 1 := ⟨k - 1, by omega⟩
      have hgd := good_any R Q l' f' wr hrd.out
      have HGD := Lib.hid hgd
      rw [show ((j + 1 : Nat) : Int) = (j : Int) + 1 by omega]
      have hkd : decide ((0 : Int) < (j : Int) + 1) = true := decide_eq_true (by omega)
      clear hgd h0
      cases f'
      · have hst := stamp_t R Q l' false wr hrd.out
        have hfin2 := hfin.out
        rw [stampsT_step] at hfin2
        obtain ⟨s, hs⟩ : ∃ s, s = stampT l' false := ⟨_, rfl⟩
        rw [← hs] at hst hfin2
        obtain ⟨⟨t, r⟩, l2, f2⟩ := s
        dsimp only at hst hfin2
        replace hst : Calls Try.prog 55 #[.pointer (some ⟨R, 0, none⟩)] wr (ReadOn R Q (.agg #[.int .i64 t, .int .i64 r]) l2 f2 wr) := hst
        have HST := Lib.hid hst
        have HFN := Lib.hid hfin2
        clear hst hfin2 hs hfin
        go_wp2_with fail
        refine HGD.out.mono ?_
        rintro e w3 ⟨rfl, rfl⟩
        go_wp2_with fail
        refine HST.out.mono ?_
        rintro e w3 ⟨rfl, hr3, hg3⟩
        have hown3 := hown.out.kept hg3 (.inr fun e => by have := ownBlock_base hown.out e; omega)
        have hown4 := hown3.alloc (.cells #[.int .i64 t, .int .i64 r] 23)
        have hr4 := hr3.later ((Below.refl _ w3).alloc (Nat.le_refl _) (.cells #[.int .i64 t, .int .i64 r] 23))
        have hg4 := grownBy_own (grownBy_trans hgr.out hg3) (World.grownBy_alloc w3 (.cells #[.int .i64 t, .int .i64 r] 23) none) (fun g e => by cases e)
        have hsz4 := hg4.size
        obtain ⟨i0, hi, hz0, hz1, hz2⟩ := info_parts infoStamp
        have hcell : ∀ (jj : Nat) (u : Value), ([.int .i64 t, .int .i64 r] : List Value)[jj]? = some u → (w3.alloc (.cells #[.int .i64 t, .int .i64 r] 23)).cell? ((⟨w3.heap.size, 0, none⟩ : Addr).add jj) = some u := fun jj u hu => by
          rw [add_plain, cell_of_block (heap_alloc_new w3 _)]
          simpa using hu
        have HOWN := Lib.hid hown4
        have HR4 := Lib.hid hr4
        have HG4 := Lib.hid hg4
        have HCL := Lib.hid hcell
        have HI := Lib.hid hi
        have HZ0 := Lib.hid hz0
        have HZ1 := Lib.hid hz1
        have HZ2 := Lib.hid hz2
        clear hown3 hown4 hr3 hg3 hr4 hg4 hown hrd hgr hcell hi hz0 hz1 hz2
        go_wp2_with (refine wpList_append_own _ rfl (.tmp 20) (.tmp 24) 31 rfl w.heap.size 23 i0 (.agg (stampCells 0 0)) 2 16 Try.underlying31 HI.out HZ0.out HZ1.out HZ2.out rfl (by decide) _ _ _ rfl HOWN.out ⟨w3.heap.size, 0, none⟩ 1 1 [.int .i64 t, .int .i64 r] rfl rfl HCL.out (by simp [Value.oneCell']) (by unfold maxLen; omega) (by omega) hsz4 ?_)
        intro v' w5 hown5 hgrow _
        have hr5 := HR4.out.row hgrow (fun e => by have := ownBlock_base HOWN.out e.symm; omega) (fun e => by have := ownBlock_base HOWN.out e.symm; omega)
        have hg5 := grownBy_own HG4.out hgrow (fun g e => ownBlock_base HOWN.out e)
        have HOWN5 := Lib.hid (ownsRow_cast (n' := (ss ++ [(t, r)]).length) (xs' := stampRow (ss ++ [(t, r)])) hown5 (by simp) (by rw [stampRow_snoc]))
        have HR5 := Lib.hid hr5
        have HG5 := Lib.hid hg5
        have HF5 := Lib.hid (show Z.1 = (ss ++ [(t, r)]) ++ (stampsT j l2 f2).1 ∧ Z.2 = (stampsT j l2 f2).2 from ⟨by rw [HFN.out.1]; simp, HFN.out.2⟩)
        have hk5 : (ss ++ [(t, r)]).length + j ≤ 64 := by simp; omega
        clear hown5 hgrow hr5 hg5 HOWN HR4 HG4 HCL HFN
        go_wp2_with fail
        go_roundw
        case rel => exact ⟨j, ss ++ [(t, r)], l2, f2, hk5, by go_num, HOWN5, HR5, HG5, HF5⟩
        case measure => simp [intOf]
      · have hfin2 := hfin.out
        rw [stampsT_failed] at hfin2
        have e1 : Z.1 = ss := by rw [hfin2.1]; simp
        have E1 := Lib.hid e1
        have E2 := Lib.hid hfin2.2
        clear e1 hfin2 hfin
        go_wp2_with fail
        refine HGD.out.mono ?_
        rintro e w3 ⟨rfl, rfl⟩
        go_wp2_with fail
        go_ret
        exact ⟨_, rfl, by rw [E1.out]; exact hown.out, by rw [E2.out]; exact hrd.out, hgr.out⟩

theorem setCells_mid (b : Nat) (T : TypeId) (post : List Value) : ∀ (vs done old : List Value) (w : World), old.length = vs.length → w.heap[b]? = some (.cells (done ++ old ++ post).toArray T (0, 0)) → (w.setCells b done.length vs).heap[b]? = some (.cells (done ++ vs ++ post).toArray T (0, 0))
  | [], done, old, _, hl, h => by
    have : old = [] := List.eq_nil_of_length_eq_zero hl
    subst this
    exact h
  | _ :: _, _, [], _, hl, _ => by simp at hl
  | v :: vs, done, r :: old, w, hl, h => by
    have h1 := heap_setCell_same w b done.length _ _ v h
    have e : ((done ++ r :: old ++ post).toArray.setIfInBounds done.length v) = ((done ++ [v]) ++ old ++ post).toArray := by simp
    rw [e] at h1
    have h2 := setCells_mid b T post vs (done ++ [v]) old _ (by simpa using hl) h1
    rw [World.setCells]
    simpa using h2
theorem grownBy_setCells' (b : Nat) : ∀ (vs : List Value) (o : Nat) (w : World), w.grownBy (w.setCells b o vs) (some b)
  | [], _, _ => ⟨rfl, rfl, rfl, Nat.le_refl _, fun _ _ _ => rfl⟩
  | v :: r, o, w => grownBy_trans (grownBy_setCell w b o v) (grownBy_setCells' b r (o + 1) _)

theorem opCells_set40 (k t r nt nr pt pr : Int) (s : ByteArray) (d : List UInt8) (ov ov' : Value) (h : d.length = 32) : (opCells k t r nt nr pt pr s d ov).setIfInBounds 40 ov' = opCells k t r nt nr pt pr s d ov' := by
  unfold opCells
  rw [List.setIfInBounds_toArray, List.set_append_right _ _ (by simp [bvs_length, h])]
  simp [bvs_length, h]
theorem opCells_get40 (k t r nt nr pt pr : Int) (s : ByteArray) (d : List UInt8) (ov : Value) (h : d.length = 32) : (opCells k t r nt nr pt pr s d ov)[40]? = some ov := by
  simp only [opCells, List.getElem?_toArray]
  rw [List.getElem?_append_right (by simp [bvs_length, h])]
  simp [bvs_length, h]
theorem opCells_one (k t r nt nr pt pr : Int) (s : ByteArray) (d : List UInt8) (a : Option Addr) (n c : Nat) : (opCells k t r nt nr pt pr s d (.slice a n c)).all (·.oneCell') = true := by
  have h : (bvs d).all (·.oneCell') = true := List.all_eq_true.2 (bvs_oneCell d)
  simp only [opCells, List.all_toArray, List.all_append, List.all_cons, List.all_nil, Value.oneCell', Bool.and_true, Bool.true_and]
  exact h
theorem opCells_there {w : World} {g : Nat} {k t r nt nr pt pr : Int} {s : ByteArray} {d : List UInt8} {ov : Value} (h : w.heap[g]? = some (.cells (opCells k t r nt nr pt pr s d ov) 33 (0, 0))) (hd : d.length = 32) : w.there g 8 32 := fun j hj => by
  rw [cell_of_block h]
  have hs := opCells_size k t r nt nr pt pr s d ov hd
  exact ⟨by rw [Array.getElem?_eq_getElem (by omega)]; rfl, free_of_block h⟩
theorem sizeId32 : (Try.prog.info? 30).map (·.size) = some 32 := by kernel_rfl
theorem sizeIdv (d : List UInt8) (h : d.length = 32) : (Try.prog.info? 30).map (·.size) = some (bvs d).toArray.size := by
  rw [List.size_toArray, bvs_length, h]
  exact sizeId32
theorem zopOne : zopLit.all (·.oneCell') = true := by kernel_rfl
theorem sizeZop : (Try.prog.info? 33).map (·.size) = some zopLit.size := by kernel_rfl
theorem getOn_out {w w1 w9 : World} {R : Nat} {X : Array Value} (hb : Below w.heap.size w w1) (hon : GetOn w1 R (w.heap.size + 1) w9) : w.grownBy (w9.setRow w.heap.size X) (some R) := by
  have hgs : w9.grownBy (w9.setRow w.heap.size X) (some w.heap.size) := ⟨rfl, rfl, rfl, by simp, fun k _ hk => setRow_other w9 w.heap.size k _ (fun e => hk (by rw [e]))⟩
  refine ⟨(hgs.os.trans hon.os).trans hb.os, (hgs.tape.trans hon.tape).trans hb.tape, (hgs.output.trans hon.output).trans hb.output, Nat.le_trans (Nat.le_trans hb.size hon.size) hgs.size, fun k hk hkR => ?_⟩
  rw [hgs.block k (by have := hb.size; have := hon.size; omega) (by intro e; injection e with e; omega), hon.block k (by have := hb.size; omega) (fun e => hkR (by rw [e])) (by omega), hb.block k hk]
theorem setRow_grown (w : World) (g : Nat) (X : Array Value) : w.grownBy (w.setRow g X) (some g) := ⟨rfl, rfl, rfl, by simp, fun k _ hk => setRow_other w g k _ (fun e => hk (by rw [e]))⟩

/-- An operation: its fields. -/
structure OpV where
  k : Int
  t : Int
  r : Int
  nt : Int
  nr : Int
  pt : Int
  pr : Int
  s : ByteArray
  d : List UInt8
  ss : List (Int × Int)
def OpV.good (o : OpV) : Bool := goodOpB o.k o.t o.r o.nt o.nr o.pt o.pr o.s o.d o.ss
def OpV.cells (o : OpV) (ov : Value) : Array Value := opCells o.k o.t o.r o.nt o.nr o.pt o.pr o.s o.d ov
def OpV.zero : OpV := ⟨0, 0, 0, 0, 0, 0, 0, ⟨#[]⟩, id0, []⟩
/-- What is read, right or not. -/
def rawOp (l : List UInt8) (f : Bool) : OpV × List UInt8 × Bool :=
  match numT l f 2 with
  | (k, l1, f1) => match stampT l1 f1 with
    | ((t, r), l2, f2) => match stampT l2 f2 with
      | ((nt, nr), l3, f3) =>
        if k = 1 then
          match stampT l3 f3 with
          | ((pt, pr), l4, f4) => match textT l4 f4 60 with
            | (z, l5, f5) => (⟨k, t, r, nt, nr, pt, pr, ⟨z.toArray⟩, id0, []⟩, l5, f5)
        else if k = 2 then
          match idT l3 f3 with
          | (d, l4, f4) => match listT l4 f4 with
            | (ss, l5, f5) => (⟨k, t, r, nt, nr, 0, 0, ⟨#[]⟩, d, ss⟩, l5, f5)
        else (⟨k, t, r, nt, nr, 0, 0, ⟨#[]⟩, id0, []⟩, l3, f3)
def getOp (l : List UInt8) (f : Bool) : OpV × List UInt8 × Bool := if (rawOp l f).2.2 = false ∧ (rawOp l f).1.good = true then rawOp l f else (.zero, [], true)

/-- What Get comes to. -/
def GotOp (R Q : Nat) (o : OpV) (l : List UInt8) (f : Bool) (w : World) (e : Ending) (w' : World) : Prop :=
  ∃ a c, e = .returned (.agg (o.cells (.slice a o.ss.length c))) ∧ StampsAt w' a o.ss ∧ Reads w' R Q l f ∧ w.grownBy w' (some R)

set_option maxRecDepth 100000 in
set_option maxHeartbeats 4000000 in
theorem getop_t (R Q : Nat) (l : List UInt8) (f : Bool) (w : World) (h : Reads w R Q l f) :
    Calls Try.prog 27 #[.pointer (some ⟨R, 0, none⟩)] w (GotOp R Q (getOp l f).1 (getOp l f).2.1 (getOp l f).2.2 w) := by
  have hRlt := h.lt
  have hQlt := h.2.1
  obtain ⟨w1, hw1⟩ : ∃ w1, w1 = (w.alloc zopObj).alloc zopObj := ⟨_, rfl⟩
  have hb1 : Below w.heap.size w w1 := by rw [hw1]; exact ((Below.refl _ w).alloc (Nat.le_refl _) _).alloc (by simp) _
  have hA1 : w1.heap[w.heap.size]? = some (.cells zopLit 33 (0, 0)) := by rw [hw1, heap_alloc_old _ _ (by simp), heap_alloc_eq _ _ _ rfl]; rfl
  have hB1 : w1.heap[w.heap.size + 1]? = some (.cells (opCells 0 0 0 0 0 0 0 ⟨#[]⟩ id0 (.slice none 0 0)) 33 (0, 0)) := by rw [hw1, heap_alloc_eq _ _ _ (by simp), ← zopLit_eq]; rfl
  have hr1 := h.later hb1
  have hz1 := lt_of_block hB1
  have cK := num_t R Q l f 2 w1 hr1
  obtain ⟨K, hK⟩ : ∃ K, K = numT l f 2 := ⟨_, rfl⟩
  rw [← hK] at cK
  obtain ⟨k, l1, f1⟩ := K
  have cA := fun W hW => stamp_t R Q l1 f1 W hW
  obtain ⟨A, hA⟩ : ∃ A, A = stampT l1 f1 := ⟨_, rfl⟩
  rw [← hA] at cA
  obtain ⟨⟨t, r⟩, l2, f2⟩ := A
  have cN := fun W hW => stamp_t R Q l2 f2 W hW
  obtain ⟨N, hN⟩ : ∃ N, N = stampT l2 f2 := ⟨_, rfl⟩
  rw [← hN] at cN
  obtain ⟨⟨nt, nr⟩, l3, f3⟩ := N
  have hraw : rawOp l f = (if k = 1 then
          match stampT l3 f3 with
          | ((pt, pr), l4, f4) => match textT l4 f4 60 with
            | (z, l5, f5) => (⟨k, t, r, nt, nr, pt, pr, ⟨z.toArray⟩, id0, []⟩, l5, f5)
        else if k = 2 then
          match idT l3 f3 with
          | (d, l4, f4) => match listT l4 f4 with
            | (ss, l5, f5) => (⟨k, t, r, nt, nr, 0, 0, ⟨#[]⟩, d, ss⟩, l5, f5)
        else (⟨k, t, r, nt, nr, 0, 0, ⟨#[]⟩, id0, []⟩, l3, f3)) := by
    unfold rawOp
    rw [← hK]
    dsimp only
    rw [← hA]
    dsimp only
    rw [← hN]
  have hget : getOp l f = if (rawOp l f).2.2 = false ∧ (rawOp l f).1.good = true then rawOp l f else (.zero, [], true) := rfl
  obtain ⟨G, hG⟩ : ∃ G, G = getOp l f := ⟨_, rfl⟩
  rw [← hG] at hget ⊢
  replace cK : Calls Try.prog 54 #[.pointer (some ⟨R, 0, none⟩), .int .i64 2] w1 (ReadOn R Q (.int .i64 k) l1 f1 w1) := cK
  replace cA : ∀ W, Reads W R Q l1 f1 → Calls Try.prog 55 #[.pointer (some ⟨R, 0, none⟩)] W (ReadOn R Q (.agg #[.int .i64 t, .int .i64 r]) l2 f2 W) := cA
  replace cN : ∀ W, Reads W R Q l2 f2 → Calls Try.prog 55 #[.pointer (some ⟨R, 0, none⟩)] W (ReadOn R Q (.agg #[.int .i64 nt, .int .i64 nr]) l3 f3 W) := cN
  have CK := Lib.hid cK
  have CA := Lib.hid cA
  have CN := Lib.hid cN
  have HRAW := Lib.hid hraw
  have HGET := Lib.hid hget
  have HA1 := Lib.hid hA1
  have HB1 := Lib.hid hB1
  have HR1 := Lib.hid hr1
  have HW1 := Lib.hid hw1
  have HBB := Lib.hid hb1
  clear cK cA cN hK hA hN hG hraw hget hA1 hB1 hr1 hw1 hb1 h
  unfold GotOp
  go_enter Try.func27, Try.ntmps27
  go_upto_region 2 with (fail)
  change Code.wp _ _ _ _ ((w.alloc zopObj).alloc zopObj)
  rw [← HW1.out]
  have HO0 := Lib.hid (GetOn.refl w1 R (w.heap.size + 1))
  go_wp2_with fail
  refine CK.out.mono ?_
  rintro e w2 ⟨rfl, hr, hg⟩
  have hB : w2.heap[w.heap.size + 1]? = some (.cells (opCells 0 0 0 0 0 0 0 ⟨#[]⟩ id0 (.slice none 0 0)) 33 (0, 0)) := by
    rw [hg.block _ (lt_of_block HB1.out) (by intro e; injection e with e; omega)]
    exact HB1.out
  have c0 := cell_of_block (i := 0) hB
  have f0 : ∀ j, w2.frozen? ⟨w.heap.size + 1, j, none⟩ = false := fun j => free_of_block hB
  have e0 := heap_setCell_same _ (w.heap.size + 1) 0 _ _ (.int .i64 k) hB
  have hgs : w2.grownBy (w2.setCell ⟨w.heap.size + 1, 0, none⟩ (.int .i64 k)) (some (w.heap.size + 1)) := grownBy_setCell _ _ _ _
  have HB2 := Lib.hid (show (w2.setCell ⟨w.heap.size + 1, 0, none⟩ (.int .i64 k)).heap[w.heap.size + 1]? = some (.cells (opCells k 0 0 0 0 0 0 ⟨#[]⟩ id0 (.slice none 0 0)) 33 (0, 0)) from e0)
  have HR2 := Lib.hid (hr.other hgs (by omega) (by omega))
  have HO2 := Lib.hid ((HO0.out.reader hg).own hgs)
  clear hr hg hB hgs e0
  simp only [opCells, List.getElem?_toArray, List.cons_append, List.getElem?_cons_zero, List.getElem?_cons_succ] at c0
  go_wp2_with fail
  clear c0 f0
  refine (CA.out _ HR2.out).mono ?_
  rintro e w3 ⟨rfl, hr, hg⟩
  have hB : w3.heap[w.heap.size + 1]? = some (.cells (opCells k 0 0 0 0 0 0 ⟨#[]⟩ id0 (.slice none 0 0)) 33 (0, 0)) := by
    rw [hg.block _ (lt_of_block HB2.out) (by intro e; injection e with e; omega)]
    exact HB2.out
  have c0 := cell_of_block (i := 1) hB
  have c1 := cell_of_block (i := 2) hB
  have f0 : ∀ j, w3.frozen? ⟨w.heap.size + 1, j, none⟩ = false := fun j => free_of_block hB
  have e0 := heap_setCell_same _ (w.heap.size + 1) 1 _ _ (.int .i64 t) hB
  have e1 := heap_setCell_same _ (w.heap.size + 1) 2 _ _ (.int .i64 r) e0
  have hgs : w3.grownBy ((w3.setCell ⟨w.heap.size + 1, 1, none⟩ (.int .i64 t)).setCell ⟨w.heap.size + 1, 2, none⟩ (.int .i64 r)) (some (w.heap.size + 1)) := grownBy_trans (grownBy_setCell _ _ _ _) (grownBy_setCell _ _ _ _)
  have HB3 := Lib.hid (show ((w3.setCell ⟨w.heap.size + 1, 1, none⟩ (.int .i64 t)).setCell ⟨w.heap.size + 1, 2, none⟩ (.int .i64 r)).heap[w.heap.size + 1]? = some (.cells (opCells k t r 0 0 0 0 ⟨#[]⟩ id0 (.slice none 0 0)) 33 (0, 0)) from e1)
  have HR3 := Lib.hid (hr.other hgs (by omega) (by omega))
  have HO3 := Lib.hid ((HO2.out.reader hg).own hgs)
  clear hr hg hB hgs e0 e1
  simp only [opCells, List.getElem?_toArray, List.cons_append, List.getElem?_cons_zero, List.getElem?_cons_succ] at c0 c1
  clear HR1 HB1 HO0 HR2 HB2 HO2 CK CA
  go_wp2_with fail
  clear c0 c1 f0
  refine (CN.out _ HR3.out).mono ?_
  rintro e w4 ⟨rfl, hr, hg⟩
  have hB : w4.heap[w.heap.size + 1]? = some (.cells (opCells k t r 0 0 0 0 ⟨#[]⟩ id0 (.slice none 0 0)) 33 (0, 0)) := by
    rw [hg.block _ (lt_of_block HB3.out) (by intro e; injection e with e; omega)]
    exact HB3.out
  have c0 := cell_of_block (i := 3) hB
  have c1 := cell_of_block (i := 4) hB
  have f0 : ∀ j, w4.frozen? ⟨w.heap.size + 1, j, none⟩ = false := fun j => free_of_block hB
  have e0 := heap_setCell_same _ (w.heap.size + 1) 3 _ _ (.int .i64 nt) hB
  have e1 := heap_setCell_same _ (w.heap.size + 1) 4 _ _ (.int .i64 nr) e0
  have hgs : w4.grownBy ((w4.setCell ⟨w.heap.size + 1, 3, none⟩ (.int .i64 nt)).setCell ⟨w.heap.size + 1, 4, none⟩ (.int .i64 nr)) (some (w.heap.size + 1)) := grownBy_trans (grownBy_setCell _ _ _ _) (grownBy_setCell _ _ _ _)
  obtain ⟨w5, hw5⟩ : ∃ w5, w5 = (w4.setCell ⟨w.heap.size + 1, 3, none⟩ (.int .i64 nt)).setCell ⟨w.heap.size + 1, 4, none⟩ (.int .i64 nr) := ⟨_, rfl⟩
  have HB5 := Lib.hid (show w5.heap[w.heap.size + 1]? = some (.cells (opCells k t r nt nr 0 0 ⟨#[]⟩ id0 (.slice none 0 0)) 33 (0, 0)) by rw [hw5]; exact e1)
  rw [← hw5] at hgs
  have HR5 := Lib.hid (hr.other hgs (by omega) (by omega))
  have HO5 := Lib.hid ((HO3.out.reader hg).own hgs)
  have HW5 := Lib.hid hw5
  clear hr hg hB hgs e0 e1 hw5
  simp only [opCells, List.getElem?_toArray, List.cons_append, List.getElem?_cons_zero, List.getElem?_cons_succ] at c0 c1
  clear HR3 HB3 HO3 CN
  go_upto_region 5 with (fail)
  change Code.wp _ _ _ _ ((w4.setCell ⟨w.heap.size + 1, 3, none⟩ (.int .i64 nt)).setCell ⟨w.heap.size + 1, 4, none⟩ (.int .i64 nr))
  rw [← HW5.out]
  have hz5 := lt_of_block HB5.out
  clear c0 c1 f0 HW5
  have ck := cell_of_block (i := 0) HB5.out
  simp only [opCells, List.getElem?_toArray, List.cons_append, List.getElem?_cons_zero, List.getElem?_cons_succ] at ck
  by_cases hk1 : k = 1
  · subst hk1
    have hx := HRAW.out
    rw [if_pos rfl] at hx
    have cP := fun W hW => stamp_t R Q l3 f3 W hW
    obtain ⟨P, hP⟩ : ∃ P, P = stampT l3 f3 := ⟨_, rfl⟩
    rw [← hP] at cP hx
    obtain ⟨⟨pt, pr⟩, l4, f4⟩ := P
    have cT := fun W hW => text_t R Q l4 f4 60 W hW
    have hzl := textT_len l4 f4
    obtain ⟨T, hT⟩ : ∃ T, T = textT l4 f4 60 := ⟨_, rfl⟩
    dsimp only at hx
    rw [← hT] at cT hx hzl
    obtain ⟨z, l6, f6⟩ := T
    replace cP : ∀ W, Reads W R Q l3 f3 → Calls Try.prog 55 #[.pointer (some ⟨R, 0, none⟩)] W (ReadOn R Q (.agg #[.int .i64 pt, .int .i64 pr]) l4 f4 W) := cP
    replace cT : ∀ W, Reads W R Q l4 f4 → Calls Try.prog 56 #[.pointer (some ⟨R, 0, none⟩), .int .i64 60] W (ReadOn R Q (.string ⟨z.toArray⟩) l6 f6 W) := cT
    obtain ⟨V, hV⟩ : ∃ V : OpV, V = ⟨1, t, r, nt, nr, pt, pr, ⟨z.toArray⟩, id0, []⟩ := ⟨_, rfl⟩
    have hx2 : rawOp l f = (V, l6, f6) := by rw [hx, hV]
    have HX := Lib.hid hx2
    have CP := Lib.hid cP
    have CT := Lib.hid cT
    have HV := Lib.hid hV
    have hzm : (⟨z.toArray⟩ : ByteArray).size ≤ 60 := by show z.toArray.size ≤ 60; simpa using hzl
    have HZM := Lib.hid hzm
    clear hP hT hx hx2 cP cT hzl hV hzm
    go_wp2_with fail
    refine (CP.out _ HR5.out).mono ?_
    rintro e w6 ⟨rfl, hr, hg⟩
    have hB : w6.heap[w.heap.size + 1]? = some (.cells (opCells 1 t r nt nr 0 0 ⟨#[]⟩ id0 (.slice none 0 0)) 33 (0, 0)) := by
      rw [hg.block _ hz5 (by intro e; injection e with e; omega)]
      exact HB5.out
    have c0 := cell_of_block (i := 5) hB
    have c1 := cell_of_block (i := 6) hB
    have f0 : ∀ j, w6.frozen? ⟨w.heap.size + 1, j, none⟩ = false := fun j => free_of_block hB
    have e0 := heap_setCell_same _ (w.heap.size + 1) 5 _ _ (.int .i64 pt) hB
    have e1 := heap_setCell_same _ (w.heap.size + 1) 6 _ _ (.int .i64 pr) e0
    have hgs : w6.grownBy ((w6.setCell ⟨w.heap.size + 1, 5, none⟩ (.int .i64 pt)).setCell ⟨w.heap.size + 1, 6, none⟩ (.int .i64 pr)) (some (w.heap.size + 1)) := grownBy_trans (grownBy_setCell _ _ _ _) (grownBy_setCell _ _ _ _)
    have HB6 := Lib.hid (show ((w6.setCell ⟨w.heap.size + 1, 5, none⟩ (.int .i64 pt)).setCell ⟨w.heap.size + 1, 6, none⟩ (.int .i64 pr)).heap[w.heap.size + 1]? = some (.cells (opCells 1 t r nt nr pt pr ⟨#[]⟩ id0 (.slice none 0 0)) 33 (0, 0)) from e1)
    have HR6 := Lib.hid (hr.other hgs (by omega) (by omega))
    have HO6 := Lib.hid ((HO5.out.reader hg).own hgs)
    clear hr hg hB hgs e0 e1
    simp only [opCells, List.getElem?_toArray, List.cons_append, List.getElem?_cons_zero, List.getElem?_cons_succ] at c0 c1
    clear HR5 HB5 HO5 ck
    go_wp2_with fail
    clear c0 c1 f0
    refine (CT.out _ HR6.out).mono ?_
    rintro e w7 ⟨rfl, hr, hg⟩
    have hB : w7.heap[w.heap.size + 1]? = some (.cells (opCells 1 t r nt nr pt pr ⟨#[]⟩ id0 (.slice none 0 0)) 33 (0, 0)) := by
      rw [hg.block _ (lt_of_block HB6.out) (by intro e; injection e with e; omega)]
      exact HB6.out
    have c0 := cell_of_block (i := 7) hB
    have f0 : ∀ j, w7.frozen? ⟨w.heap.size + 1, j, none⟩ = false := fun j => free_of_block hB
    have e0 := heap_setCell_same _ (w.heap.size + 1) 7 _ _ (.string ⟨z.toArray⟩) hB
    have hgs : w7.grownBy (w7.setCell ⟨w.heap.size + 1, 7, none⟩ (.string ⟨z.toArray⟩)) (some (w.heap.size + 1)) := grownBy_setCell _ _ _ _
    obtain ⟨w8, hw8⟩ : ∃ w8, w8 = w7.setCell ⟨w.heap.size + 1, 7, none⟩ (.string ⟨z.toArray⟩) := ⟨_, rfl⟩
    rw [← hw8] at hgs
    obtain ⟨a, ha⟩ : ∃ a : Option Addr, a = none := ⟨_, rfl⟩
    obtain ⟨c, hc⟩ : ∃ c : Nat, c = 0 := ⟨_, rfl⟩
    have HB8 := Lib.hid (show w8.heap[w.heap.size + 1]? = some (.cells (V.cells (.slice a V.ss.length c)) 33 (0, 0)) by rw [hw8, HV.out, ha, hc]; exact e0)
    have HR8 := Lib.hid (hr.other hgs (by omega) (by omega))
    have HO8 := Lib.hid ((HO6.out.reader hg).own hgs)
    have HAT := Lib.hid (show StampsAt w8 a V.ss by rw [HV.out]; exact fun i hi => absurd hi (by simp))
    have HAB := Lib.hid (show ∀ x, a = some x → x.block ≠ w.heap.size ∧ x.block ≠ w.heap.size + 1 ∧ x.block ≠ R by rw [ha]; exact fun x e => by cases e)
    have HVS := Lib.hid (show V.d.length = 32 ∧ V.s.size ≤ 60 ∧ V.ss.length ≤ 64 by rw [HV.out]; exact ⟨rfl, HZM.out, by simp⟩)
    have HW8 := Lib.hid hw8
    clear hr hg hB hgs e0 hw8 ha hc
    simp only [opCells, List.getElem?_toArray, List.cons_append, List.getElem?_cons_zero, List.getElem?_cons_succ] at c0
    go_upto_region 12 with (fail)
    change Code.wp _ _ _ _ (w7.setCell ⟨w.heap.size + 1, 7, none⟩ (.string ⟨z.toArray⟩))
    rw [← HW8.out]
    clear c0 f0 HR6 HB6 HO6 CP CT HW8 HRAW HZM HV
    have hYs : (Try.prog.info? 33).map (·.size) = some (V.cells (.slice a V.ss.length c)).size := sizeOp _ _ _ _ _ _ _ _ _ _ HVS.out.1
    have hY1 : (V.cells (.slice a V.ss.length c)).all (·.oneCell') = true := opCells_one _ _ _ _ _ _ _ _ _ _ _ _
    have hgd : Calls Try.prog 18 #[.agg (V.cells (.slice a V.ss.length c))] w8 fun e w' => e = .returned (.bool V.good) ∧ Below w8.heap.size w8 w' := goodop_any _ _ _ _ _ _ _ _ _ a V.ss c w8 HVS.out.1 (by have := HVS.out.2.1; unfold maxLen; omega) HAT.out (by have := HVS.out.2.2; omega)
    obtain ⟨Y, hY⟩ : ∃ Y, Y = V.cells (.slice a V.ss.length c) := ⟨_, rfl⟩
    obtain ⟨gb, hgb⟩ : ∃ b, b = V.good := ⟨_, rfl⟩
    have hB8 := HB8.out
    rw [← hY] at hYs hY1 hgd hB8
    rw [← hgb] at hgd
    have hZs : zopLit.size = Y.size := by
      have h1 := opCells_size V.k V.t V.r V.nt V.nr V.pt V.pr V.s V.d (.slice a V.ss.length c) HVS.out.1
      rw [hY]
      exact h1.symm
    have HGY := Lib.hid hgd
    have HYS := Lib.hid hYs
    have HY1 := Lib.hid hY1
    have HZS := Lib.hid hZs
    have HBY := Lib.hid hB8
    have HY := Lib.hid hY
    have HGB := Lib.hid hgb
    have hz8 := lt_of_block hB8
    clear hgd hYs hY1 hZs hB8 hY hgb HB8 HVS
    cases f6
    · go_wp2_with fail
      refine (good_any R Q l6 false _ HR8.out).mono ?_
      rintro e w9 ⟨rfl, rfl⟩
      go_wp2_with (refine wpList_load_row_guarded rfl 33 (.tmp 3) rfl (w.heap.size + 1) rfl 33 Y (0, 0) _ HBY.out Try.underlying33 rfl HYS.out ?_)
      refine HGY.out.mono ?_
      rintro e w9 ⟨rfl, hb9⟩
      have hon9 := HO8.out.later hb9
      have hr9 := HR8.out.later hb9
      cases gb
      · have hG : G = (.zero, [], true) := by rw [HGET.out, HX.out, if_neg (by rw [← HGB.out]; simp)]
        have HGG := Lib.hid hG
        have HR9 := Lib.hid hr9
        have HON := Lib.hid hon9
        clear hG hr9 hon9 hb9
        go_wp2_with fail
        refine (fail_any R Q l6 false _ HR9.out).mono ?_
        rintro e w10 ⟨rfl, hr10, hg10⟩
        have hon10 := HON.out.reader hg10
        have hA10 : w10.heap[w.heap.size]? = some (.cells zopLit 33 (0, 0)) := by rw [hon10.block _ (lt_of_block HA1.out) (by omega) (by omega)]; exact HA1.out
        have HA10 := Lib.hid hA10
        have HR10 := Lib.hid hr10
        have HON10 := Lib.hid hon10
        clear hA10 hr10 hon10 hg10
        go_wp2_with (refine wpList_store_row rfl 33 (.tmp 2) (.tmp 41) rfl w.heap.size zopLit rfl rfl 33 zopLit HA10.out sizeZop rfl zopOne ?_)
        refine bodyPost_ret (v := .agg zopLit) (results_cell_row rfl _ _ w.heap.size 33 zopLit (0, 0) _ rfl (setRow_heap w10 w.heap.size _ zopLit _ _ HA10.out) Try.underlying33 rfl sizeZop) rfl ?_
        rw [HGG.out]
        exact ⟨none, 0, by rw [zopLit_eq]; rfl, stamps_none, HR10.out.other (setRow_grown _ _ _) (by omega) (by omega), getOn_out HBB.out HON10.out⟩
      · have hG : G = (V, l6, false) := by rw [HGET.out, HX.out, if_pos ⟨rfl, HGB.out.symm⟩]
        have hB9 : w9.heap[w.heap.size + 1]? = some (.cells Y 33 (0, 0)) := by rw [hb9.block _ hz8]; exact HBY.out
        have hA9 : w9.heap[w.heap.size]? = some (.cells zopLit 33 (0, 0)) := by rw [hon9.block _ (lt_of_block HA1.out) (by omega) (by omega)]; exact HA1.out
        have HAT9 := Lib.hid (HAT.out.later hb9)
        have HGG := Lib.hid hG
        have HB9 := Lib.hid hB9
        have HA9 := Lib.hid hA9
        have HR9 := Lib.hid hr9
        have HON := Lib.hid hon9
        clear hG hB9 hA9 hr9 hon9 hb9
        go_wp2_with (first | (refine wpList_load_row rfl 33 (.tmp 3) rfl (w.heap.size + 1) rfl 33 Y (0, 0) _ HB9.out Try.underlying33 rfl HYS.out ?_) | (refine wpList_store_row rfl 33 (.tmp 2) (.tmp 42) rfl w.heap.size Y rfl rfl 33 zopLit HA9.out HYS.out HZS.out HY1.out ?_))
        refine bodyPost_ret (v := .agg Y) (results_cell_row rfl _ _ w.heap.size 33 Y (0, 0) _ rfl (setRow_heap w9 w.heap.size _ Y _ _ HA9.out) Try.underlying33 rfl HYS.out) rfl ?_
        rw [HGG.out]
        exact ⟨a, c, by rw [HY.out], HAT9.out.row (setRow_grown _ _ _) (fun x e => by have := HAB.out x e; intro e2; injection e2 with e2; omega), HR9.out.other (setRow_grown _ _ _) (by omega) (by omega), getOn_out HBB.out HON.out⟩
    · have hG : G = (.zero, [], true) := by rw [HGET.out, HX.out, if_neg (by simp)]
      have HGG := Lib.hid hG
      clear hG
      go_wp2_with fail
      refine (good_any R Q l6 true _ HR8.out).mono ?_
      rintro e w9 ⟨rfl, rfl⟩
      go_wp2_with fail
      refine (fail_any R Q l6 true _ HR8.out).mono ?_
      rintro e w10 ⟨rfl, hr10, hg10⟩
      have hon10 := HO8.out.reader hg10
      have hA10 : w10.heap[w.heap.size]? = some (.cells zopLit 33 (0, 0)) := by rw [hon10.block _ (lt_of_block HA1.out) (by omega) (by omega)]; exact HA1.out
      have HA10 := Lib.hid hA10
      have HR10 := Lib.hid hr10
      have HON10 := Lib.hid hon10
      clear hA10 hr10 hon10 hg10
      go_wp2_with (refine wpList_store_row rfl 33 (.tmp 2) (.tmp 41) rfl w.heap.size zopLit rfl rfl 33 zopLit HA10.out sizeZop rfl zopOne ?_)
      refine bodyPost_ret (v := .agg zopLit) (results_cell_row rfl _ _ w.heap.size 33 zopLit (0, 0) _ rfl (setRow_heap w10 w.heap.size _ zopLit _ _ HA10.out) Try.underlying33 rfl sizeZop) rfl ?_
      rw [HGG.out]
      exact ⟨none, 0, by rw [zopLit_eq]; rfl, stamps_none, HR10.out.other (setRow_grown _ _ _) (by omega) (by omega), getOn_out HBB.out HON10.out⟩
  · by_cases hk2 : k = 2
    · subst hk2
      have hx := HRAW.out
      rw [if_neg (by decide), if_pos rfl] at hx
      have cI := fun W hW => id_t R Q l3 f3 W hW
      have hil := idT_len l3 f3
      obtain ⟨I, hI⟩ : ∃ I, I = idT l3 f3 := ⟨_, rfl⟩
      rw [← hI] at cI hx hil
      obtain ⟨d, l4, f4⟩ := I
      have cL := fun W hW => list_t R Q l4 f4 W hW
      have hll := listT_len l4 f4
      obtain ⟨T, hT⟩ : ∃ T, T = listT l4 f4 := ⟨_, rfl⟩
      dsimp only at hx
      rw [← hT] at cL hx hll
      obtain ⟨ss, l6, f6⟩ := T
      obtain ⟨D, hD⟩ : ∃ D, D = (bvs d).toArray := ⟨_, rfl⟩
      replace cI : ∀ W, Reads W R Q l3 f3 → Calls Try.prog 57 #[.pointer (some ⟨R, 0, none⟩)] W (ReadOn R Q (.agg D) l4 f4 W) := by rw [hD]; exact cI
      replace cL : ∀ W, Reads W R Q l4 f4 → Calls Try.prog 58 #[.pointer (some ⟨R, 0, none⟩), .int .i64 64, .func (.func 55) #[] #[]] W (ReadList R Q ss l6 f6 W) := cL
      obtain ⟨V, hV⟩ : ∃ V : OpV, V = ⟨2, t, r, nt, nr, 0, 0, ⟨#[]⟩, d, ss⟩ := ⟨_, rfl⟩
      have hx2 : rawOp l f = (V, l6, f6) := by rw [hx, hV]
      have hDs : (Try.prog.info? 30).map (·.size) = some D.size := by rw [hD]; exact sizeIdv d hil
      have hD1 : D.all (·.oneCell') = true := by rw [hD]; simpa using bvs_oneCell d
      have hD32 : D.size = 32 := by
        have hil' : d.length = 32 := hil
        rw [hD, List.size_toArray, bvs_length, hil']
      have HX := Lib.hid hx2
      have CI := Lib.hid cI
      have CL := Lib.hid cL
      have HV := Lib.hid hV
      have HD := Lib.hid hD
      have HDS := Lib.hid hDs
      have HD1 := Lib.hid hD1
      have HD32 := Lib.hid hD32
      have HIL := Lib.hid (show d.length = 32 from hil)
      have HLL := Lib.hid (show ss.length ≤ 64 from hll)
      clear hI hT hx hx2 cI cL hV hD hDs hD1 hD32 hil hll hk1
      go_wp2_with fail
      refine (CI.out _ HR5.out).mono ?_
      rintro e w6 ⟨rfl, hr, hg⟩
      have hB : w6.heap[w.heap.size + 1]? = some (.cells (opCells 2 t r nt nr 0 0 ⟨#[]⟩ id0 (.slice none 0 0)) 33 (0, 0)) := by
        rw [hg.block _ hz5 (by intro e; injection e with e; omega)]
        exact HB5.out
      have hth : w6.there (w.heap.size + 1) 8 D.size := by rw [HD32.out]; exact opCells_there hB rfl
      have HTH := Lib.hid hth
      have e0 := setCells_mid (w.heap.size + 1) 33 [.slice none 0 0] (bvs d) [.int .i64 2, .int .i64 t, .int .i64 r, .int .i64 nt, .int .i64 nr, .int .i64 0, .int .i64 0, .string ⟨#[]⟩] (bvs id0) w6 (by rw [bvs_length, bvs_length, HIL.out]; rfl) hB
      have hgs : w6.grownBy (w6.setCells (w.heap.size + 1) 8 D.toList) (some (w.heap.size + 1)) := grownBy_setCells' _ _ _ _
      obtain ⟨w7, hw7⟩ : ∃ w7, w7 = w6.setCells (w.heap.size + 1) 8 D.toList := ⟨_, rfl⟩
      rw [← hw7] at hgs
      have HB7 := Lib.hid (show w7.heap[w.heap.size + 1]? = some (.cells (opCells 2 t r nt nr 0 0 ⟨#[]⟩ d (.slice none 0 0)) 33 (0, 0)) by rw [hw7, HD.out]; exact e0)
      have HR7 := Lib.hid (hr.other hgs (by omega) (by omega))
      have HO7 := Lib.hid ((HO5.out.reader hg).own hgs)
      have HW7 := Lib.hid hw7
      clear hr hg hB hth e0 hgs hw7 HR5 HB5 HO5 ck
      go_upto_region 11 with (refine wpList_store_mid rfl 30 (.tmp 27) (.tmp 26) rfl (w.heap.size + 1) 8 D rfl rfl HTH.out HDS.out HD1.out ?_)
      change Code.wp _ _ _ _ (w6.setCells (w.heap.size + 1) 8 D.toList)
      rw [← HW7.out]
      clear HTH HW7
      have hz7 := lt_of_block HB7.out
      go_wp2_with fail
      refine (CL.out _ HR7.out).mono ?_
      rintro e w9 ⟨v, rfl, hown, hr, hg⟩
      obtain ⟨a, c, rfl, hat, hab, -⟩ := owned_stamps hown
      have hB : w9.heap[w.heap.size + 1]? = some (.cells (opCells 2 t r nt nr 0 0 ⟨#[]⟩ d (.slice none 0 0)) 33 (0, 0)) := by
        rw [hg.block _ (lt_of_block HB7.out) (by intro e; injection e with e; omega)]
        exact HB7.out
      have c0 : w9.cell? ⟨w.heap.size + 1, 40, none⟩ = some (.slice none 0 0) := by rw [cell_of_block hB]; exact opCells_get40 _ _ _ _ _ _ _ _ _ _ HIL.out
      have f0 : ∀ j, w9.frozen? ⟨w.heap.size + 1, j, none⟩ = false := fun j => free_of_block hB
      have e0 := heap_setCell_same _ (w.heap.size + 1) 40 _ _ (.slice a ss.length c) hB
      rw [opCells_set40 _ _ _ _ _ _ _ _ _ _ _ HIL.out] at e0
      have hgs : w9.grownBy (w9.setCell ⟨w.heap.size + 1, 40, none⟩ (.slice a ss.length c)) (some (w.heap.size + 1)) := grownBy_setCell _ _ _ _
      obtain ⟨w8, hw8⟩ : ∃ w8, w8 = w9.setCell ⟨w.heap.size + 1, 40, none⟩ (.slice a ss.length c) := ⟨_, rfl⟩
      rw [← hw8] at hgs
      have HB8 := Lib.hid (show w8.heap[w.heap.size + 1]? = some (.cells (V.cells (.slice a V.ss.length c)) 33 (0, 0)) by rw [hw8, HV.out]; exact e0)
      have HR8 := Lib.hid (hr.other hgs (by omega) (by omega))
      have HO8 := Lib.hid ((HO7.out.reader hg).own hgs)
      have HAT := Lib.hid (show StampsAt w8 a V.ss by rw [HV.out]; exact hat.row hgs (fun x e => by have := hab x e; intro e2; injection e2 with e2; omega))
      have HAB := Lib.hid (show ∀ x, a = some x → x.block ≠ w.heap.size ∧ x.block ≠ w.heap.size + 1 ∧ x.block ≠ R from fun x e => by have := hab x e; omega)
      have HVS := Lib.hid (show V.d.length = 32 ∧ V.s.size ≤ 60 ∧ V.ss.length ≤ 64 by rw [HV.out]; exact ⟨HIL.out, by show (0 : Nat) ≤ 60; omega, HLL.out⟩)
      have HW8 := Lib.hid hw8
      clear hr hg hB hgs e0 hw8 hown hat hab
      go_upto_region 12 with (fail)
      change Code.wp _ _ _ _ (w9.setCell ⟨w.heap.size + 1, 40, none⟩ (.slice a ss.length c))
      rw [← HW8.out]
      clear c0 f0 HR7 HB7 HO7 CI CL HW8 HRAW HV HD HDS HD1 HD32 HIL HLL hz7
      have hYs : (Try.prog.info? 33).map (·.size) = some (V.cells (.slice a V.ss.length c)).size := sizeOp _ _ _ _ _ _ _ _ _ _ HVS.out.1
      have hY1 : (V.cells (.slice a V.ss.length c)).all (·.oneCell') = true := opCells_one _ _ _ _ _ _ _ _ _ _ _ _
      have hgd : Calls Try.prog 18 #[.agg (V.cells (.slice a V.ss.length c))] w8 fun e w' => e = .returned (.bool V.good) ∧ Below w8.heap.size w8 w' := goodop_any _ _ _ _ _ _ _ _ _ a V.ss c w8 HVS.out.1 (by have := HVS.out.2.1; unfold maxLen; omega) HAT.out (by have := HVS.out.2.2; omega)
      obtain ⟨Y, hY⟩ : ∃ Y, Y = V.cells (.slice a V.ss.length c) := ⟨_, rfl⟩
      obtain ⟨gb, hgb⟩ : ∃ b, b = V.good := ⟨_, rfl⟩
      have hB8 := HB8.out
      rw [← hY] at hYs hY1 hgd hB8
      rw [← hgb] at hgd
      have hZs : zopLit.size = Y.size := by
        have h1 := opCells_size V.k V.t V.r V.nt V.nr V.pt V.pr V.s V.d (.slice a V.ss.length c) HVS.out.1
        rw [hY]
        exact h1.symm
      have HGY := Lib.hid hgd
      have HYS := Lib.hid hYs
      have HY1 := Lib.hid hY1
      have HZS := Lib.hid hZs
      have HBY := Lib.hid hB8
      have HY := Lib.hid hY
      have HGB := Lib.hid hgb
      have hz8 := lt_of_block hB8
      clear hgd hYs hY1 hZs hB8 hY hgb HB8 HVS
      cases f6
      · go_wp2_with fail
        refine (good_any R Q l6 false _ HR8.out).mono ?_
        rintro e w9 ⟨rfl, rfl⟩
        go_wp2_with (refine wpList_load_row_guarded rfl 33 (.tmp 3) rfl (w.heap.size + 1) rfl 33 Y (0, 0) _ HBY.out Try.underlying33 rfl HYS.out ?_)
        refine HGY.out.mono ?_
        rintro e w9 ⟨rfl, hb9⟩
        have hon9 := HO8.out.later hb9
        have hr9 := HR8.out.later hb9
        cases gb
        · have hG : G = (.zero, [], true) := by rw [HGET.out, HX.out, if_neg (by rw [← HGB.out]; simp)]
          have HGG := Lib.hid hG
          have HR9 := Lib.hid hr9
          have HON := Lib.hid hon9
          clear hG hr9 hon9 hb9
          go_wp2_with fail
          refine (fail_any R Q l6 false _ HR9.out).mono ?_
          rintro e w10 ⟨rfl, hr10, hg10⟩
          have hon10 := HON.out.reader hg10
          have hA10 : w10.heap[w.heap.size]? = some (.cells zopLit 33 (0, 0)) := by rw [hon10.block _ (lt_of_block HA1.out) (by omega) (by omega)]; exact HA1.out
          have HA10 := Lib.hid hA10
          have HR10 := Lib.hid hr10
          have HON10 := Lib.hid hon10
          clear hA10 hr10 hon10 hg10
          go_wp2_with (refine wpList_store_row rfl 33 (.tmp 2) (.tmp 41) rfl w.heap.size zopLit rfl rfl 33 zopLit HA10.out sizeZop rfl zopOne ?_)
          refine bodyPost_ret (v := .agg zopLit) (results_cell_row rfl _ _ w.heap.size 33 zopLit (0, 0) _ rfl (setRow_heap w10 w.heap.size _ zopLit _ _ HA10.out) Try.underlying33 rfl sizeZop) rfl ?_
          rw [HGG.out]
          exact ⟨none, 0, by rw [zopLit_eq]; rfl, stamps_none, HR10.out.other (setRow_grown _ _ _) (by omega) (by omega), getOn_out HBB.out HON10.out⟩
        · have hG : G = (V, l6, false) := by rw [HGET.out, HX.out, if_pos ⟨rfl, HGB.out.symm⟩]
          have hB9 : w9.heap[w.heap.size + 1]? = some (.cells Y 33 (0, 0)) := by rw [hb9.block _ hz8]; exact HBY.out
          have hA9 : w9.heap[w.heap.size]? = some (.cells zopLit 33 (0, 0)) := by rw [hon9.block _ (lt_of_block HA1.out) (by omega) (by omega)]; exact HA1.out
          have HAT9 := Lib.hid (HAT.out.later hb9)
          have HGG := Lib.hid hG
          have HB9 := Lib.hid hB9
          have HA9 := Lib.hid hA9
          have HR9 := Lib.hid hr9
          have HON := Lib.hid hon9
          clear hG hB9 hA9 hr9 hon9 hb9
          go_wp2_with (first | (refine wpList_load_row rfl 33 (.tmp 3) rfl (w.heap.size + 1) rfl 33 Y (0, 0) _ HB9.out Try.underlying33 rfl HYS.out ?_) | (refine wpList_store_row rfl 33 (.tmp 2) (.tmp 42) rfl w.heap.size Y rfl rfl 33 zopLit HA9.out HYS.out HZS.out HY1.out ?_))
          refine bodyPost_ret (v := .agg Y) (results_cell_row rfl _ _ w.heap.size 33 Y (0, 0) _ rfl (setRow_heap w9 w.heap.size _ Y _ _ HA9.out) Try.underlying33 rfl HYS.out) rfl ?_
          rw [HGG.out]
          exact ⟨a, c, by rw [HY.out], HAT9.out.row (setRow_grown _ _ _) (fun x e => by have := HAB.out x e; intro e2; injection e2 with e2; omega), HR9.out.other (setRow_grown _ _ _) (by omega) (by omega), getOn_out HBB.out HON.out⟩
      · have hG : G = (.zero, [], true) := by rw [HGET.out, HX.out, if_neg (by simp)]
        have HGG := Lib.hid hG
        clear hG
        go_wp2_with fail
        refine (good_any R Q l6 true _ HR8.out).mono ?_
        rintro e w9 ⟨rfl, rfl⟩
        go_wp2_with fail
        refine (fail_any R Q l6 true _ HR8.out).mono ?_
        rintro e w10 ⟨rfl, hr10, hg10⟩
        have hon10 := HO8.out.reader hg10
        have hA10 : w10.heap[w.heap.size]? = some (.cells zopLit 33 (0, 0)) := by rw [hon10.block _ (lt_of_block HA1.out) (by omega) (by omega)]; exact HA1.out
        have HA10 := Lib.hid hA10
        have HR10 := Lib.hid hr10
        have HON10 := Lib.hid hon10
        clear hA10 hr10 hon10 hg10
        go_wp2_with (refine wpList_store_row rfl 33 (.tmp 2) (.tmp 41) rfl w.heap.size zopLit rfl rfl 33 zopLit HA10.out sizeZop rfl zopOne ?_)
        refine bodyPost_ret (v := .agg zopLit) (results_cell_row rfl _ _ w.heap.size 33 zopLit (0, 0) _ rfl (setRow_heap w10 w.heap.size _ zopLit _ _ HA10.out) Try.underlying33 rfl sizeZop) rfl ?_
        rw [HGG.out]
        exact ⟨none, 0, by rw [zopLit_eq]; rfl, stamps_none, HR10.out.other (setRow_grown _ _ _) (by omega) (by omega), getOn_out HBB.out HON10.out⟩
    · have hx := HRAW.out
      rw [if_neg hk1, if_neg hk2] at hx
      obtain ⟨V, hV⟩ : ∃ V : OpV, V = ⟨k, t, r, nt, nr, 0, 0, ⟨#[]⟩, id0, []⟩ := ⟨_, rfl⟩
      obtain ⟨l6, hl6⟩ : ∃ x, x = l3 := ⟨_, rfl⟩
      obtain ⟨f6, hf6⟩ : ∃ x, x = f3 := ⟨_, rfl⟩
      obtain ⟨w8, hw8⟩ : ∃ x, x = w5 := ⟨_, rfl⟩
      obtain ⟨a, ha⟩ : ∃ a : Option Addr, a = none := ⟨_, rfl⟩
      obtain ⟨c, hc⟩ : ∃ c : Nat, c = 0 := ⟨_, rfl⟩
      have HX := Lib.hid (show rawOp l f = (V, l6, f6) by rw [hx, hV, hl6, hf6])
      have HB8 := Lib.hid (show w8.heap[w.heap.size + 1]? = some (.cells (V.cells (.slice a V.ss.length c)) 33 (0, 0)) by rw [hw8, hV, ha, hc]; exact HB5.out)
      have HR8 := Lib.hid (show Reads w8 R Q l6 f6 by rw [hw8, hl6, hf6]; exact HR5.out)
      have HO8 := Lib.hid (show GetOn w1 R (w.heap.size + 1) w8 by rw [hw8]; exact HO5.out)
      have HAT := Lib.hid (show StampsAt w8 a V.ss by rw [hV]; exact fun i hi => absurd hi (by simp))
      have HAB := Lib.hid (show ∀ x, a = some x → x.block ≠ w.heap.size ∧ x.block ≠ w.heap.size + 1 ∧ x.block ≠ R by rw [ha]; exact fun x e => by cases e)
      have HVS := Lib.hid (show V.d.length = 32 ∧ V.s.size ≤ 60 ∧ V.ss.length ≤ 64 by rw [hV]; exact ⟨rfl, by show (0 : Nat) ≤ 60; omega, by simp⟩)
      have q1 : ((k : Int) == 1) = false := by simpa using hk1
      have q2 : ((k : Int) == 2) = false := by simpa using hk2
      have HW8 := Lib.hid hw8
      clear hx hV hl6 hf6 ha hc hw8 hk1 hk2 HRAW HR5 HB5 HO5
      go_upto_region 12 with (fail)
      rw [← HW8.out]
      clear ck q1 q2 HW8 hz5
      have hYs : (Try.prog.info? 33).map (·.size) = some (V.cells (.slice a V.ss.length c)).size := sizeOp _ _ _ _ _ _ _ _ _ _ HVS.out.1
      have hY1 : (V.cells (.slice a V.ss.length c)).all (·.oneCell') = true := opCells_one _ _ _ _ _ _ _ _ _ _ _ _
      have hgd : Calls Try.prog 18 #[.agg (V.cells (.slice a V.ss.length c))] w8 fun e w' => e = .returned (.bool V.good) ∧ Below w8.heap.size w8 w' := goodop_any _ _ _ _ _ _ _ _ _ a V.ss c w8 HVS.out.1 (by have := HVS.out.2.1; unfold maxLen; omega) HAT.out (by have := HVS.out.2.2; omega)
      obtain ⟨Y, hY⟩ : ∃ Y, Y = V.cells (.slice a V.ss.length c) := ⟨_, rfl⟩
      obtain ⟨gb, hgb⟩ : ∃ b, b = V.good := ⟨_, rfl⟩
      have hB8 := HB8.out
      rw [← hY] at hYs hY1 hgd hB8
      rw [← hgb] at hgd
      have hZs : zopLit.size = Y.size := by
        have h1 := opCells_size V.k V.t V.r V.nt V.nr V.pt V.pr V.s V.d (.slice a V.ss.length c) HVS.out.1
        rw [hY]
        exact h1.symm
      have HGY := Lib.hid hgd
      have HYS := Lib.hid hYs
      have HY1 := Lib.hid hY1
      have HZS := Lib.hid hZs
      have HBY := Lib.hid hB8
      have HY := Lib.hid hY
      have HGB := Lib.hid hgb
      have hz8 := lt_of_block hB8
      clear hgd hYs hY1 hZs hB8 hY hgb HB8 HVS
      cases f6
      · go_wp2_with fail
        refine (good_any R Q l6 false _ HR8.out).mono ?_
        rintro e w9 ⟨rfl, rfl⟩
        go_wp2_with (refine wpList_load_row_guarded rfl 33 (.tmp 3) rfl (w.heap.size + 1) rfl 33 Y (0, 0) _ HBY.out Try.underlying33 rfl HYS.out ?_)
        refine HGY.out.mono ?_
        rintro e w9 ⟨rfl, hb9⟩
        have hon9 := HO8.out.later hb9
        have hr9 := HR8.out.later hb9
        cases gb
        · have hG : G = (.zero, [], true) := by rw [HGET.out, HX.out, if_neg (by rw [← HGB.out]; simp)]
          have HGG := Lib.hid hG
          have HR9 := Lib.hid hr9
          have HON := Lib.hid hon9
          clear hG hr9 hon9 hb9
          go_wp2_with fail
          refine (fail_any R Q l6 false _ HR9.out).mono ?_
          rintro e w10 ⟨rfl, hr10, hg10⟩
          have hon10 := HON.out.reader hg10
          have hA10 : w10.heap[w.heap.size]? = some (.cells zopLit 33 (0, 0)) := by rw [hon10.block _ (lt_of_block HA1.out) (by omega) (by omega)]; exact HA1.out
          have HA10 := Lib.hid hA10
          have HR10 := Lib.hid hr10
          have HON10 := Lib.hid hon10
          clear hA10 hr10 hon10 hg10
          go_wp2_with (refine wpList_store_row rfl 33 (.tmp 2) (.tmp 41) rfl w.heap.size zopLit rfl rfl 33 zopLit HA10.out sizeZop rfl zopOne ?_)
          refine bodyPost_ret (v := .agg zopLit) (results_cell_row rfl _ _ w.heap.size 33 zopLit (0, 0) _ rfl (setRow_heap w10 w.heap.size _ zopLit _ _ HA10.out) Try.underlying33 rfl sizeZop) rfl ?_
          rw [HGG.out]
          exact ⟨none, 0, by rw [zopLit_eq]; rfl, stamps_none, HR10.out.other (setRow_grown _ _ _) (by omega) (by omega), getOn_out HBB.out HON10.out⟩
        · have hG : G = (V, l6, false) := by rw [HGET.out, HX.out, if_pos ⟨rfl, HGB.out.symm⟩]
          have hB9 : w9.heap[w.heap.size + 1]? = some (.cells Y 33 (0, 0)) := by rw [hb9.block _ hz8]; exact HBY.out
          have hA9 : w9.heap[w.heap.size]? = some (.cells zopLit 33 (0, 0)) := by rw [hon9.block _ (lt_of_block HA1.out) (by omega) (by omega)]; exact HA1.out
          have HAT9 := Lib.hid (HAT.out.later hb9)
          have HGG := Lib.hid hG
          have HB9 := Lib.hid hB9
          have HA9 := Lib.hid hA9
          have HR9 := Lib.hid hr9
          have HON := Lib.hid hon9
          clear hG hB9 hA9 hr9 hon9 hb9
          go_wp2_with (first | (refine wpList_load_row rfl 33 (.tmp 3) rfl (w.heap.size + 1) rfl 33 Y (0, 0) _ HB9.out Try.underlying33 rfl HYS.out ?_) | (refine wpList_store_row rfl 33 (.tmp 2) (.tmp 42) rfl w.heap.size Y rfl rfl 33 zopLit HA9.out HYS.out HZS.out HY1.out ?_))
          refine bodyPost_ret (v := .agg Y) (results_cell_row rfl _ _ w.heap.size 33 Y (0, 0) _ rfl (setRow_heap w9 w.heap.size _ Y _ _ HA9.out) Try.underlying33 rfl HYS.out) rfl ?_
          rw [HGG.out]
          exact ⟨a, c, by rw [HY.out], HAT9.out.row (setRow_grown _ _ _) (fun x e => by have := HAB.out x e; intro e2; injection e2 with e2; omega), HR9.out.other (setRow_grown _ _ _) (by omega) (by omega), getOn_out HBB.out HON.out⟩
      · have hG : G = (.zero, [], true) := by rw [HGET.out, HX.out, if_neg (by simp)]
        have HGG := Lib.hid hG
        clear hG
        go_wp2_with fail
        refine (good_any R Q l6 true _ HR8.out).mono ?_
        rintro e w9 ⟨rfl, rfl⟩
        go_wp2_with fail
        refine (fail_any R Q l6 true _ HR8.out).mono ?_
        rintro e w10 ⟨rfl, hr10, hg10⟩
        have hon10 := HO8.out.reader hg10
        have hA10 : w10.heap[w.heap.size]? = some (.cells zopLit 33 (0, 0)) := by rw [hon10.block _ (lt_of_block HA1.out) (by omega) (by omega)]; exact HA1.out
        have HA10 := Lib.hid hA10
        have HR10 := Lib.hid hr10
        have HON10 := Lib.hid hon10
        clear hA10 hr10 hon10 hg10
        go_wp2_with (refine wpList_store_row rfl 33 (.tmp 2) (.tmp 41) rfl w.heap.size zopLit rfl rfl 33 zopLit HA10.out sizeZop rfl zopOne ?_)
        refine bodyPost_ret (v := .agg zopLit) (results_cell_row rfl _ _ w.heap.size 33 zopLit (0, 0) _ rfl (setRow_heap w10 w.heap.size _ zopLit _ _ HA10.out) Try.underlying33 rfl sizeZop) rfl ?_
        rw [HGG.out]
        exact ⟨none, 0, by rw [zopLit_eq]; rfl, stamps_none, HR10.out.other (setRow_grown _ _ _) (by omega) (by omega), getOn_out HBB.out HON10.out⟩
end Go.Proofs.Ytoaboehmjfnceaa
