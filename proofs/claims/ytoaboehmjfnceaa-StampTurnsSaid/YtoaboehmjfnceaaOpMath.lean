/-
  What comes of reading an operation from any bytes; the walks of the parts.
-/
import Derived.Test.YtoaboehmjfnceaaGetMove
import Derived.Test.YtoaboehmjfnceaaStampEq
import Derived.Laws.AppendOwn
import Derived.Deep.MidRow
namespace Go.Proofs.Ytoaboehmjfnceaa
open Go.RowKit
set_option linter.unusedSimpArgs false
set_option linter.unusedVariables false

/-- A number is read: it, what is left, has the reader failed. -/
def numT (l : List UInt8) (f : Bool) (most : Int) : Int × List UInt8 × Bool :=
  match rnum l most with
  | some (n, l') => ((n : Int), l', f)
  | none => (0, [], true)
def stampT (l : List UInt8) (f : Bool) : (Int × Int) × List UInt8 × Bool :=
  (((numT l f 1099511627776).1, (numT (numT l f 1099511627776).2.1 (numT l f 1099511627776).2.2 65536).1), (numT (numT l f 1099511627776).2.1 (numT l f 1099511627776).2.2 65536).2)
def textT (l : List UInt8) (f : Bool) (most : Int) : List UInt8 × List UInt8 × Bool :=
  match rtext l most with
  | some (s, l') => (s, l', f)
  | none => ([], [], true)
def idT (l : List UInt8) (f : Bool) : List UInt8 × List UInt8 × Bool := if 32 ≤ l.length then (l.take 32, l.drop 32, f) else (id0, [], true)
/-- Up to n stamps, none any more behind one that isn't there. -/
def stampsT : Nat → List UInt8 → Bool → List (Int × Int) × List UInt8 × Bool
  | 0, l, f => ([], l, f)
  | n + 1, l, f => if f = true then ([], l, f) else ((stampT l f).1 :: (stampsT n (stampT l f).2.1 (stampT l f).2.2).1, (stampsT n (stampT l f).2.1 (stampT l f).2.2).2)
def listT (l : List UInt8) (f : Bool) : List (Int × Int) × List UInt8 × Bool := stampsT (numT l f 64).1.toNat (numT l f 64).2.1 (numT l f 64).2.2

theorem rnum_bound {l l' : List UInt8} {most : Int} {n : Nat} (h : rnum l most = some (n, l')) : (n : Int) ≤ most ∧ n ≤ 4611686018427387904 := by
  unfold rnum at h
  split at h
  · cases h
  · rename_i hc
    injection h with h
    injection h with h1 h2
    omega
theorem numT_bound (l : List UInt8) (f : Bool) (most : Int) (hm : 0 ≤ most) : 0 ≤ (numT l f most).1 ∧ (numT l f most).1 ≤ most ∧ (numT l f most).1 ≤ 4611686018427387904 := by
  unfold numT
  cases h : rnum l most with
  | none => exact ⟨Int.le_refl 0, hm, by show (0 : Int) ≤ _; omega⟩
  | some p =>
    have := rnum_bound h
    show 0 ≤ (p.1 : Int) ∧ (p.1 : Int) ≤ most ∧ (p.1 : Int) ≤ 4611686018427387904
    omega
theorem stampsT_len : ∀ (n : Nat) (l : List UInt8) (f : Bool), (stampsT n l f).1.length ≤ n
  | 0, l, f => Nat.le_refl _
  | n + 1, l, f => by
    unfold stampsT
    split
    · simp
    · have := stampsT_len n (stampT l f).2.1 (stampT l f).2.2
      simp only [List.length_cons]
      omega
theorem stampsT_failed (n : Nat) (l : List UInt8) : stampsT n l true = ([], l, true) := by
  cases n with
  | zero => rfl
  | succ n => unfold stampsT; rw [if_pos rfl]
theorem stampsT_step (n : Nat) (l : List UInt8) : stampsT (n + 1) l false = ((stampT l false).1 :: (stampsT n (stampT l false).2.1 (stampT l false).2.2).1, (stampsT n (stampT l false).2.1 (stampT l false).2.2).2) := by
  rw [stampsT, if_neg (by decide)]
theorem listT_len (l : List UInt8) (f : Bool) : (listT l f).1.length ≤ 64 := by
  have h := numT_bound l f 64 (by omega)
  have := stampsT_len (numT l f 64).1.toNat (numT l f 64).2.1 (numT l f 64).2.2
  unfold listT
  omega
theorem textT_len (l : List UInt8) (f : Bool) : (textT l f 60).1.length ≤ 60 := by
  unfold textT
  cases h : rtext l 60 with
  | none => simp
  | some p =>
    show p.1.length ≤ 60
    unfold rtext at h
    split at h
    · cases h
    · rename_i q hq
      split at h
      · have h1 := rnum_bound (n := q.1) (l' := q.2) hq
        injection h with h
        rw [← h]
        simp only [List.length_take]
        omega
      · cases h
theorem idT_len (l : List UInt8) (f : Bool) : (idT l f).1.length = 32 := by
  unfold idT
  split
  · simp; omega
  · simp [id0]

theorem num_t (R Q : Nat) (l : List UInt8) (f : Bool) (most : Int) (w : World) (h : Reads w R Q l f) :
    Calls Try.prog 54 #[.pointer (some ⟨R, 0, none⟩), .int .i64 most] w (ReadOn R Q (.int .i64 (numT l f most).1) (numT l f most).2.1 (numT l f most).2.2 w) := by
  unfold numT
  cases hn : rnum l most with
  | none => exact rnum_none R Q l f most w h hn
  | some p => exact rnum_some R Q l f most p.1 p.2 w h hn
theorem text_t (R Q : Nat) (l : List UInt8) (f : Bool) (most : Int) (w : World) (h : Reads w R Q l f) :
    Calls Try.prog 56 #[.pointer (some ⟨R, 0, none⟩), .int .i64 most] w (ReadOn R Q (.string ⟨(textT l f most).1.toArray⟩) (textT l f most).2.1 (textT l f most).2.2 w) := by
  unfold textT
  cases hn : rtext l most with
  | none => exact rtext_none R Q l f most w h hn
  | some p => exact rtext_some R Q l f most p.1 p.2 w h hn
theorem id_t (R Q : Nat) (l : List UInt8) (f : Bool) (w : World) (h : Reads w R Q l f) :
    Calls Try.prog 57 #[.pointer (some ⟨R, 0, none⟩)] w (ReadOn R Q (.agg (bvs (idT l f).1).toArray) (idT l f).2.1 (idT l f).2.2 w) := by
  unfold idT
  by_cases hn : 32 ≤ l.length
  · rw [if_pos hn]; exact rid_some R Q l f w h hn
  · rw [if_neg hn]; exact rid_none R Q l f w h (by omega)

set_option maxRecDepth 100000 in
set_option maxHeartbeats 400000 in
theorem stamp_t (R Q : Nat) (l : List UInt8) (f : Bool) (w : World) (h : Reads w R Q l f) :
    Calls Try.prog 55 #[.pointer (some ⟨R, 0, none⟩)] w (ReadOn R Q (.agg (stampCells (stampT l f).1.1 (stampT l f).1.2)) (stampT l f).2.1 (stampT l f).2.2 w) := by
  unfold stampT
  have hRlt := h.lt
  have hQlt := h.2.1
  have hb0 : Below w.heap.size w (w.alloc (.cells (stampCells 0 0) 23)) := (Below.refl _ w).alloc (Nat.le_refl _) _
  have hr0 := h.later hb0
  have hg0 : (w.alloc (.cells (stampCells 0 0) 23)).heap[w.heap.size]? = some (.cells (stampCells 0 0) 23 (0, 0)) := heap_alloc_new w _
  have hc1 := num_t R Q l f 1099511627776 _ hr0
  obtain ⟨a, ha⟩ : ∃ a, a = numT l f 1099511627776 := ⟨_, rfl⟩
  rw [← ha] at hc1 ⊢
  obtain ⟨t, l1, f1⟩ := a
  have hc2 := fun W h => num_t R Q l1 f1 65536 W h
  dsimp only at hc1 hc2 ⊢
  obtain ⟨b, hb⟩ : ∃ b, b = numT l1 f1 65536 := ⟨_, rfl⟩
  rw [← hb] at hc2 ⊢
  obtain ⟨r, l2, f2⟩ := b
  dsimp only at hc2 ⊢
  have HC1 := Lib.hid hc1
  have HC2 := Lib.hid hc2
  have HG0 := Lib.hid hg0
  have HB0 := Lib.hid hb0
  clear ha hb hr0 hc1 hc2 hg0 hb0 h
  unfold ReadOn
  go_enter Try.func55, Try.ntmps55
  go_wp2_with fail
  refine HC1.out.mono ?_
  rintro e w1 ⟨rfl, hr1, hg1⟩
  go_wp2_with fail
  refine (HC2.out w1 hr1).mono ?_
  rintro e w2 ⟨rfl, hr2, hg2⟩
  have hg12 := grownBy_trans hg1 hg2
  have hgg : w2.heap[w.heap.size]? = some (.cells (stampCells 0 0) 23 (0, 0)) := by
    rw [hg12.block _ (lt_of_block HG0.out) (by intro e; injection e with e; omega)]
    exact HG0.out
  have c0 : w2.cell? ⟨w.heap.size, 0, none⟩ = some (.int .i64 0) := cell_of_block hgg
  have c1 : w2.cell? ⟨w.heap.size, 1, none⟩ = some (.int .i64 0) := cell_of_block hgg
  have f0 : ∀ j, w2.frozen? ⟨w.heap.size, j, none⟩ = false := fun j => free_of_block hgg
  have e1 := heap_setCell_same w2 w.heap.size 0 _ _ (.int .i64 t) hgg
  have e2 := heap_setCell_same _ w.heap.size 1 _ _ (.int .i64 r) e1
  have E2 := Lib.hid e2
  have HR2 := Lib.hid hr2
  have HG12 := Lib.hid hg12
  clear e1 e2 hgg hr1 hg1 hg2 hg12 hr2
  go_wp2_with fail
  refine bodyPost_ret (v := .agg (stampCells t r)) (results_cell_row rfl _ _ w.heap.size 23 _ (0, 0) _ rfl E2.out Try.underlying23 rfl (sizeStamp t r)) rfl ?_
  have hs2 : w2.grownBy ((w2.setCell ⟨w.heap.size, 0, none⟩ (.int .i64 t)).setCell ⟨w.heap.size, 1, none⟩ (.int .i64 r)) (some w.heap.size) := grownBy_trans (grownBy_setCell _ _ _ _) (grownBy_setCell _ _ _ _)
  refine ⟨rfl, HR2.out.other hs2 (by omega) (by omega), ?_⟩
  have hb := HB0.out
  have hk := HG12.out
  refine ⟨(hs2.os.trans hk.os).trans hb.os, (hs2.tape.trans hk.tape).trans hb.tape, (hs2.output.trans hk.output).trans hb.output, Nat.le_trans (Nat.le_trans hb.size hk.size) hs2.size, fun i hi hiR => ?_⟩
  rw [hs2.block i (by have := hb.size; have := hk.size; omega) (by intro e; injection e with e; omega), hk.block i (by have := hb.size; omega) hiR, hb.block i hi]

theorem Reads.row {w w' : World} {R Q : Nat} {l : List UInt8} {f : Bool} {row : Option Nat} (h : Reads w R Q l f) (hg : w.grownBy w' row) (h1' : some R ≠ row) (h2' : some Q ≠ row) : Reads w' R Q l f := by
  obtain ⟨hQ, hQs, a, cap, h1, h2, h3, h4, h5⟩ := h
  refine ⟨hQ, Nat.lt_of_lt_of_le hQs hg.size, a, cap, by rw [hg.block R (lt_of_block h1) h1']; exact h1, fun i hi => ?_, h3, h4, h5⟩
  obtain ⟨b, off, hab, hc⟩ := h2 i hi
  exact ⟨b, off, hab, hg.cell hc (by have := h3 _ hab; simp at this; rw [this]; exact h2')⟩
theorem StampsAt.row {w w' : World} {a : Option Addr} {ss : List (Int × Int)} {row : Option Nat} (h : StampsAt w a ss) (hg : w.grownBy w' row) (ha : ∀ x, a = some x → some x.block ≠ row) : StampsAt w' a ss := fun i hi => by
  obtain ⟨b, off, hab, h1, h2⟩ := h i hi
  have := ha _ hab
  exact ⟨b, off, hab, hg.cell h1 this, hg.cell h2 this⟩
theorem ownBlock_base {w : World} {base : Nat} {e : TypeId} {size : Nat} {v : Value} {n : Nat} {xs : List Value} (h : w.ownsRow base e size v n xs) {g : Nat} (hg : v.ownBlock = some g) : base ≤ g := by
  rcases h.2 with ⟨rfl, _⟩ | ⟨g', cap, cur, rfl, h2, _⟩
  · cases hg
  · simp [Value.ownBlock] at hg
    omega
theorem grownBy_own {w w1 w2 : World} {R : Nat} {row : Option Nat} (h : w.grownBy w1 (some R)) (hg : w1.grownBy w2 row) (hb : ∀ g, row = some g → w.heap.size ≤ g) : w.grownBy w2 (some R) :=
  ⟨hg.os.trans h.os, hg.tape.trans h.tape, hg.output.trans h.output, Nat.le_trans h.size hg.size, fun k hk hkR => (hg.block k (Nat.lt_of_lt_of_le hk h.size) (fun e => by have := hb k e.symm; omega)).trans (h.block k hk hkR)⟩
theorem infoStamp : (Try.prog.info? 23).map (fun i => (i.zero, i.size, i.bytes)) = some (some (.agg (stampCells 0 0)), 2, 16) := by kernel_rfl

/-- Stamps that are new memory. -/
theorem owned_stamps {w : World} {base : Nat} {v : Value} {ss : List (Int × Int)} (h : w.ownsRow base 23 2 v ss.length (stampRow ss)) :
    ∃ a c, v = .slice a ss.length c ∧ StampsAt w a ss ∧ (∀ x, a = some x → base ≤ x.block) ∧ (a = none → c = 0) := by
  rcases h.2 with ⟨rfl, h0⟩ | ⟨g, cap, cur, rfl, h1, h2, h3, h4, h5, h6⟩
  · have : ss = [] := List.eq_nil_of_length_eq_zero h0
    subst this
    exact ⟨none, 0, rfl, stamps_none, (fun x e => by cases e), fun _ => rfl⟩
  · refine ⟨some ⟨g, 0, none⟩, cap, rfl, fun i hi => ⟨g, 0, rfl, ?_, ?_⟩, (fun x e => by injection e with e; rw [← e]; exact h1), (fun e => by cases e)⟩
    · have hq := (stampRow_get ss i hi).1
      rw [← h6, List.getElem?_take] at hq
      split at hq
      · rw [cell_of_block h2, Nat.zero_add, Nat.mul_comm]
        simpa using hq
      · cases hq
    · have hq := (stampRow_get ss i hi).2
      rw [← h6, List.getElem?_take] at hq
      split at hq
      · rw [cell_of_block h2, Nat.zero_add, Nat.mul_comm]
        simpa using hq
      · cases hq

/-- What List comes to. -/
def ReadList (R Q : Nat) (ss : List (Int × Int)) (l : List UInt8) (f : Bool) (w : World) (e : Ending) (w' : World) : Prop :=
  ∃ v, e = .returned v ∧ w'.ownsRow w.heap.size 23 2 v ss.length (stampRow ss) ∧ Reads w' R Q l f ∧ w.grownBy w' (some R)

theorem stampRow_snoc (ss : List (Int × Int)) (t r : Int) : stampRow (ss ++ [(t, r)]) = stampRow ss ++ [.int .i64 t, .int .i64 r] := by
  simp [stampRow]

set_option maxRecDepth 100000 in
set_option maxHeartbeats 1000000 in
theorem list_t (R Q : Nat) (l : List UInt8) (f : Bool) (w : World) (h : Reads w R Q l f) :
    Calls Try.prog 58 #[.pointer (some ⟨R, 0, none⟩), .int .i64 64, .func (.func 55) #[] #[]] w (ReadList R Q (listT l f).1 (listT l f).2.1 (listT l f).2.2 w) := by
  unfold listT
  have hc1 := num_t R Q l f 64 w h
  have hnb := numT_bound l f 64 (by omega)
  have hRlt := h.lt
  have hQlt := h.2.1
  obtain ⟨a, ha⟩ : ∃ a, a = numT l f 64 := ⟨_, rfl⟩
  rw [← ha] at hc1 hnb ⊢
  obtain ⟨n, l1, f1⟩ := a
  dsimp only at hc1 hnb ⊢
  obtain ⟨N, rfl⟩ := Int.eq_ofNat_of_zero_le hnb.1
  obtain ⟨Z, hZ⟩ : ∃ Z, Z = stampsT N l1 f1 := ⟨_, rfl⟩
  rw [show ((N : Nat) : Int).toNat = N by omega, ← hZ]
  have hN : N ≤ 64 := by omega
  have HC1 := Lib.hid hc1
  have HZ := Lib.hid hZ
  clear ha hc1 hZ hnb h
  unfold ReadList
  go_enter Try.func58, Try.ntmps58
  go_wp2_with fail
  refine HC1.out.mono ?_
  rintro e w1 ⟨rfl, hr1, hg1⟩
  have HR1 := Lib.hid hr1
  have HG1 := Lib.hid hg1
  clear hr1 hg1 HC1
  go_wp2_with fail
  go_loopw [7, 8] (fun s7 s8 wr => ∃ (k : Nat) (ss : List (Int × Int)) (l' : List UInt8) (f' : Bool), ss.length + k ≤ 64 ∧ s8 = .int .i64 (k : Int) ∧ Hid (wr.ownsRow w.heap.size 23 2 s7 ss.length (stampRow ss)) ∧ Hid (Reads wr R Q l' f') ∧ Hid (w.grownBy wr (some R)) ∧ Hid (Z.1 = ss ++ (stampsT k l' f').1 ∧ Z.2 = (stampsT k l' f').2)) (fun _ s8 _ => (intOf s8).toNat)
  case atStart => exact ⟨N, [], l1, f1, by simpa using hN, rfl, Lib.hid (World.ownsRow_nil _ _ _ _), HR1, HG1, Lib.hid ⟨by rw [HZ.out]; rfl, by rw [HZ.out]⟩⟩
  case round =>
    obtain ⟨k, ss, l', f', hk, rfl, hown, hrd, hgr, hfin⟩ := hrel
    clear HR1 HG1 HZ hN
    by_cases h0 : k = 0
    · have HF := Lib.hid hfin.out
      have hkd : decide ((0 : Int) < (k : Int)) = false := decide_eq_false (by omega)
      have hkd2 : decide (0 < k) = false := decide_eq_false (by omega)
      subst h0
      have e1 : Z.1 = ss := by rw [HF.out.1]; simp [stampsT]
      have e2 : Z.2 = (l', f') := HF.out.2
      have E1 := Lib.hid e1
      have E2 := Lib.hid e2
      clear e1 e2 hfin HF hkd hkd2
      go_wp2_with fail
      go_ret
      exact ⟨_, rfl, by rw [E1.out]; exact hown.out, by rw [E2.out]; exact hrd.out, hgr.out⟩
    · obtain ⟨j, rfl⟩ : ∃ j, k = j + 1 := ⟨k - 1, by omega⟩
      have hgd := good_any R Q l' f' wr hrd.out
      have HGD := Lib.hid hgd
      rw [show ((j + 1 : Nat) : Int) = (j : Int) + 1 by omega]
      have hkd : decide ((0 : Int) < (j : Int) + 1) = true := decide_eq_true (by omega)
      clear hgd h0
      cases f'
      · have hst := stamp_t R Q l' false wr hrd.out
        have hfin2 := hfin.out
        rw [stampsT_step] at hfin2
        obtain ⟨s, hs⟩ : ∃ s, s = stampT l' false := ⟨_, rfl⟩
        rw [← hs] at hst hfin2
        obtain ⟨⟨t, r⟩, l2, f2⟩ := s
        dsimp only at hst hfin2
        replace hst : Calls Try.prog 55 #[.pointer (some ⟨R, 0, none⟩)] wr (ReadOn R Q (.agg #[.int .i64 t, .int .i64 r]) l2 f2 wr) := hst
        have HST := Lib.hid hst
        have HFN := Lib.hid hfin2
        clear hst hfin2 hs hfin
        go_wp2_with fail
        refine HGD.out.mono ?_
        rintro e w3 ⟨rfl, rfl⟩
        go_wp2_with fail
        refine HST.out.mono ?_
        rintro e w3 ⟨rfl, hr3, hg3⟩
        have hown3 := hown.out.kept hg3 (.inr fun e => by have := ownBlock_base hown.out e; omega)
        have hown4 := hown3.alloc (.cells #[.int .i64 t, .int .i64 r] 23)
        have hr4 := hr3.later ((Below.refl _ w3).alloc (Nat.le_refl _) (.cells #[.int .i64 t, .int .i64 r] 23))
        have hg4 := grownBy_own (grownBy_trans hgr.out hg3) (World.grownBy_alloc w3 (.cells #[.int .i64 t, .int .i64 r] 23) none) (fun g e => by cases e)
        have hsz4 := hg4.size
        obtain ⟨i0, hi, hz0, hz1, hz2⟩ := info_parts infoStamp
        have hcell : ∀ (jj : Nat) (u : Value), ([.int .i64 t, .int .i64 r] : List Value)[jj]? = some u → (w3.alloc (.cells #[.int .i64 t, .int .i64 r] 23)).cell? ((⟨w3.heap.size, 0, none⟩ : Addr).add jj) = some u := fun jj u hu => by
          rw [add_plain, cell_of_block (heap_alloc_new w3 _)]
          simpa using hu
        have HOWN := Lib.hid hown4
        have HR4 := Lib.hid hr4
        have HG4 := Lib.hid hg4
        have HCL := Lib.hid hcell
        have HI := Lib.hid hi
        have HZ0 := Lib.hid hz0
        have HZ1 := Lib.hid hz1
        have HZ2 := Lib.hid hz2
        clear hown3 hown4 hr3 hg3 hr4 hg4 hown hrd hgr hcell hi hz0 hz1 hz2
        go_wp2_with (refine wpList_append_own _ rfl (.tmp 20) (.tmp 24) 31 rfl w.heap.size 23 i0 (.agg (stampCells 0 0)) 2 16 Try.underlying31 HI.out HZ0.out HZ1.out HZ2.out rfl (by decide) _ _ _ rfl HOWN.out ⟨w3.heap.size, 0, none⟩ 1 1 [.int .i64 t, .int .i64 r] rfl rfl HCL.out (by simp [Value.oneCell']) (by unfold maxLen; omega) (by omega) hsz4 ?_)
        intro v' w5 hown5 hgrow _
        have hr5 := HR4.out.row hgrow (fun e => by have := ownBlock_base HOWN.out e.symm; omega) (fun e => by have := ownBlock_base HOWN.out e.symm; omega)
        have hg5 := grownBy_own HG4.out hgrow (fun g e => ownBlock_base HOWN.out e)
        have HOWN5 := Lib.hid (ownsRow_cast (n' := (ss ++ [(t, r)]).length) (xs' := stampRow (ss ++ [(t, r)])) hown5 (by simp) (by rw [stampRow_snoc]))
        have HR5 := Lib.hid hr5
        have HG5 := Lib.hid hg5
        have HF5 := Lib.hid (show Z.1 = (ss ++ [(t, r)]) ++ (stampsT j l2 f2).1 ∧ Z.2 = (stampsT j l2 f2).2 from ⟨by rw [HFN.out.1]; simp, HFN.out.2⟩)
        have hk5 : (ss ++ [(t, r)]).length + j ≤ 64 := by simp; omega
        clear hown5 hgrow hr5 hg5 HOWN HR4 HG4 HCL HFN
        go_wp2_with fail
        go_roundw
        case rel => exact ⟨j, ss ++ [(t, r)], l2, f2, hk5, by go_num, HOWN5, HR5, HG5, HF5⟩
        case measure => simp [intOf]
      · have hfin2 := hfin.out
        rw [stampsT_failed] at hfin2
        have e1 : Z.1 = ss := by rw [hfin2.1]; simp
        have E1 := Lib.hid e1
        have E2 := Lib.hid hfin2.2
        clear e1 hfin2 hfin
        go_wp2_with fail
        refine HGD.out.mono ?_
        rintro e w3 ⟨rfl, rfl⟩
        go_wp2_with fail
        go_ret
        exact ⟨_, rfl, by rw [E1.out]; exact hown.out, by rw [E2.out]; exact hrd.out, hgr.out⟩
end Go.Proofs.Ytoaboehmjfnceaa
