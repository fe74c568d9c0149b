/-
  The reader and the reference's reader, call by call: the same value, the same bytes left.
-/
import Derived.Test.YtcdklimpekknnabGetId
import Derived.Test.YtcdklimpekknnabIdEq
namespace Go.Proofs.Ytcdklimpekknnab
open Go.RowKit

/-- A call of the reference came to the value v, with l2 left; the reader comes to the same, wherever it is asked. -/
def Both (C : World → (Ending → World → Prop) → Prop) (R Q : Nat) (l : List UInt8) (f : Bool) (v : Value) (w : World) (e : Ending) (w' : World) : Prop :=
  ∃ l2 f2 a2 c2, e = .returned (.tuple #[v, .agg (inCells a2 l2.length c2 f2)]) ∧ Hid (InAt w' a2 c2 l2) ∧ Hid (f2 = true → l2 = []) ∧ Below w.heap.size w w' ∧
    Hid (∀ w5, Reads w5 R Q l f → C w5 (ReadOn R Q v l2 f2 w5))
theorem InAt.none' (w : World) : InAt w none 0 [] := ⟨BytesAt.nil _ _, by simp, by omega⟩
theorem rnum_nil' (most : Int) : rnum [] most = none := rnum_none_of _ _ (Or.inl rfl)
theorem rtext_nil' (most : Int) : rtext [] most = none := by unfold rtext; rw [rnum_nil']

theorem getnum_both (R Q : Nat) (a : Option Addr) (cap : Nat) (l : List UInt8) (f : Bool) (most : Int) (w : World) (hb : InAt w a cap l) (hf : f = true → l = []) :
    Calls Try.prog 23 #[.agg (inCells a l.length cap f), .int .i64 most] w fun e w' => ∃ z : Int,
      Both (fun w5 P => Calls Try.prog 24 #[.pointer (some ⟨R, 0, none⟩), .int .i64 most] w5 P) R Q l f (.int .i64 z) w e w' := by
  refine (getnum_any a cap l f most w hb hf).mono ?_
  rintro e w' ⟨hbw, hg⟩
  rcases hg with ⟨hn, rfl⟩ | ⟨N, l', a', c', hn, rfl, hin⟩
  · exact ⟨0, [], true, none, 0, rfl, Lib.hid (InAt.none' _), Lib.hid (fun _ => rfl), hbw, Lib.hid (fun w5 hr => rnum_none R Q l f most w5 hr hn)⟩
  · have hff : f = false := by
      cases f with
      | false => rfl
      | true => rw [hf rfl, rnum_nil'] at hn; cases hn
    subst hff
    exact ⟨N, l', false, a', c', rfl, Lib.hid hin, Lib.hid (fun h => by cases h), hbw, Lib.hid (fun w5 hr => rnum_some R Q l false most N l' w5 hr hn)⟩
theorem gettext_both (R Q : Nat) (a : Option Addr) (cap : Nat) (l : List UInt8) (f : Bool) (most : Int) (w : World) (hb : InAt w a cap l) (hf : f = true → l = []) :
    Calls Try.prog 25 #[.agg (inCells a l.length cap f), .int .i64 most] w fun e w' => ∃ z : ByteArray,
      Both (fun w5 P => Calls Try.prog 26 #[.pointer (some ⟨R, 0, none⟩), .int .i64 most] w5 P) R Q l f (.string z) w e w' := by
  refine (gettext_any a cap l f most w hb hf).mono ?_
  rintro e w' ⟨hbw, hg⟩
  rcases hg with ⟨hn, rfl⟩ | ⟨N, l', a', c', hn, rfl, hin⟩
  · exact ⟨⟨#[]⟩, [], true, none, 0, rfl, Lib.hid (InAt.none' _), Lib.hid (fun _ => rfl), hbw, Lib.hid (fun w5 hr => rtext_none R Q l f most w5 hr hn)⟩
  · have hff : f = false := by
      cases f with
      | false => rfl
      | true => rw [hf rfl, rtext_nil'] at hn; cases hn
    subst hff
    exact ⟨_, l', false, a', c', rfl, Lib.hid hin, Lib.hid (fun h => by cases h), hbw, Lib.hid (fun w5 hr => rtext_some R Q l false most N l' w5 hr hn)⟩
theorem getid_both (R Q : Nat) (a : Option Addr) (cap : Nat) (l : List UInt8) (f : Bool) (w : World) (hb : InAt w a cap l) (hf : f = true → l = []) :
    Calls Try.prog 27 #[.agg (inCells a l.length cap f)] w fun e w' => ∃ i : List UInt8, i.length = 32 ∧
      Both (fun w5 P => Calls Try.prog 28 #[.pointer (some ⟨R, 0, none⟩)] w5 P) R Q l f (.agg (bvs i).toArray) w e w' := by
  refine (getid_any a cap l f w hb hf).mono ?_
  rintro e w' ⟨hbw, hg⟩
  rcases hg with ⟨hn, rfl⟩ | ⟨a', c', hn, rfl, hin⟩
  · exact ⟨id0, rfl, [], true, none, 0, rfl, Lib.hid (InAt.none' _), Lib.hid (fun _ => rfl), hbw, Lib.hid (fun w5 hr => rid_none R Q l f w5 hr hn)⟩
  · have hff : f = false := by
      cases f with
      | false => rfl
      | true => rw [hf rfl] at hn; simp at hn
    subst hff
    exact ⟨l.take 32, by simp; omega, l.drop 32, false, a', c', rfl, Lib.hid hin, Lib.hid (fun h => by cases h), hbw, Lib.hid (fun w5 hr => rid_some R Q l false w5 hr hn)⟩
theorem getfour_both (R Q : Nat) (a : Option Addr) (cap : Nat) (l : List UInt8) (f : Bool) (w : World) (hb : InAt w a cap l) (hf : f = true → l = []) :
    Calls Try.prog 29 #[.agg (inCells a l.length cap f)] w fun e w' => ∃ z : Int,
      Both (fun w5 P => Calls Try.prog 30 #[.pointer (some ⟨R, 0, none⟩)] w5 P) R Q l f (.int .u32 z) w e w' := by
  refine (getfour_any a cap l f w hb hf).mono ?_
  rintro e w' ⟨hbw, hg⟩
  rcases hg with ⟨hn, rfl⟩ | ⟨a', c', hn, rfl, hin⟩
  · exact ⟨0, [], true, none, 0, rfl, Lib.hid (InAt.none' _), Lib.hid (fun _ => rfl), hbw, Lib.hid (fun w5 hr => rfour_none R Q l f w5 hr hn)⟩
  · have hff : f = false := by
      cases f with
      | false => rfl
      | true => rw [hf rfl] at hn; simp at hn
    subst hff
    exact ⟨_, l.drop 4, false, a', c', rfl, Lib.hid hin, Lib.hid (fun h => by cases h), hbw, Lib.hid (fun w5 hr => rfour_some R Q l false w5 hr hn)⟩

/-- The law's own state: the reader and the reference's reader, with the same bytes left. -/
structure Pair (w0 wr : World) (R Q G : Nat) (l : List UInt8) (f : Bool) (a : Option Addr) (c : Nat) : Prop where
  reads : Reads wr R Q l f
  cell : wr.heap[G]? = some (.cells (inCells a l.length c f) 42 (0, 0))
  at_ : InAt wr a c l
  fl : f = true → l = []
  below : Below w0.heap.size w0 wr
  gr : G ≠ R
  gq : G ≠ Q
  wg : w0.heap.size ≤ G
  wR : w0.heap.size ≤ R
theorem InAt.grown' {w w' : World} {a : Option Addr} {c : Nat} {l : List UInt8} {R : Nat} {cs : Array Value} {T : TypeId} (h : InAt w a c l) (hg : w.grownBy w' (some R)) (hR : w.heap[R]? = some (.cells cs T (0, 0))) (hno : ∀ (i : Nat) (n : Int), cs[i]? ≠ some (Value.int .u8 n)) : InAt w' a c l := ⟨h.1.grown' hg hR hno, h.2⟩
theorem grownBy_setRow (w : World) (g : Nat) (X : Array Value) : w.grownBy (w.setRow g X) (some g) := ⟨rfl, rfl, rfl, by simp, fun k _ hk => setRow_other _ g k _ (fun e => hk (by rw [e]))⟩

/-- The reference's answer is taken into the law's variable. -/
theorem Pair.into {w0 wr w3 w4 : World} {R Q G : Nat} {l l' : List UInt8} {f : Bool} (f' : Bool) {a a' : Option Addr} {c c' : Nat} (h : Pair w0 wr R Q G l f a c)
    (hb3 : Below wr.heap.size wr w3) (hin : InAt w3 a' c' l') (hb4 : Below w3.heap.size w3 w4) :
    w4.heap[G]? = some (.cells (inCells a l.length c f) 42 (0, 0)) ∧ Reads (w4.setRow G (inCells a' l'.length c' f')) R Q l f ∧
    (w4.setRow G (inCells a' l'.length c' f')).heap[G]? = some (.cells (inCells a' l'.length c' f') 42 (0, 0)) ∧ InAt (w4.setRow G (inCells a' l'.length c' f')) a' c' l' ∧ Below w0.heap.size w0 (w4.setRow G (inCells a' l'.length c' f')) := by
  have hb5 := hb3.trans (hb4.mono hb3.size)
  have hG4 : w4.heap[G]? = some (.cells (inCells a l.length c f) 42 (0, 0)) := by rw [hb5.block _ (lt_of_block h.cell)]; exact h.cell
  have hgr := grownBy_setRow w4 G (inCells a' l'.length c' f')
  exact ⟨hG4, (h.reads.later hb5).other hgr h.gr h.gq, setRow_heap _ _ _ _ _ _ hG4, (hin.later hb4).grown' hgr hG4 (in_no_byte _ _ _ _), below_setRow (h.below.trans (hb5.mono h.below.size)) h.wg⟩
theorem reader_no_byte (a : Option Addr) (n c : Nat) (f : Bool) : ∀ (i : Nat) (k : Int), (#[Value.slice a n c, .bool f] : Array Value)[i]? ≠ some (Value.int .u8 k) := in_no_byte a n c f
/-- The reader has been asked, too. -/
theorem Pair.asked {w0 wr w5 w6 : World} {R Q G : Nat} {l l' : List UInt8} {f f' : Bool} {a a' : Option Addr} {c c' : Nat} (h : Pair w0 wr R Q G l f a c) (hf' : f' = true → l' = [])
    (hr5 : Reads w5 R Q l f) (hG5 : w5.heap[G]? = some (.cells (inCells a' l'.length c' f') 42 (0, 0))) (hi5 : InAt w5 a' c' l') (hb5 : Below w0.heap.size w0 w5)
    (hr6 : Reads w6 R Q l' f') (hg6 : w5.grownBy w6 (some R)) : Pair w0 w6 R Q G l' f' a' c' := by
  obtain ⟨_, _, x, k, hR, _⟩ := hr5
  exact ⟨hr6, by rw [hg6.block _ (lt_of_block hG5) (by intro e; injection e with e; exact h.gr e)]; exact hG5, hi5.grown' hg6 hR (reader_no_byte _ _ _ _), hf', below_grownBy (Nat.le_refl _) hb5 hg6 h.wR, h.gr, h.gq, h.wg, h.wR⟩
theorem Pair.later {w0 wr w' : World} {R Q G : Nat} {l : List UInt8} {f : Bool} {a : Option Addr} {c : Nat} (h : Pair w0 wr R Q G l f a c) (hb : Below wr.heap.size wr w') : Pair w0 w' R Q G l f a c :=
  ⟨h.reads.later hb, by rw [hb.block _ (lt_of_block h.cell)]; exact h.cell, h.at_.later hb, h.fl, h.below.trans (hb.mono h.below.size), h.gr, h.gq, h.wg, h.wR⟩
theorem Pair.goods {w0 wr : World} {R Q G : Nat} {l : List UInt8} {f : Bool} {a : Option Addr} {c : Nat} (h : Pair w0 wr R Q G l f a c) (v : Bool) (hv : v = !f) :
    ∀ w', Below wr.heap.size wr w' → Calls Try.prog 32 #[.pointer (some ⟨R, 0, none⟩)] w' fun e w'' => e = .returned (.bool v) ∧ Below wr.heap.size wr w'' := fun w' hb =>
  (good_any R Q l f w' (h.later hb).reads).mono fun _ _ ⟨he, hw⟩ => ⟨by rw [he, hv], hw ▸ hb⟩
theorem Pair.lefts {w0 wr : World} {R Q G : Nat} {l : List UInt8} {f : Bool} {a : Option Addr} {c : Nat} (h : Pair w0 wr R Q G l f a c) (n : Nat) (hn : n = l.length) :
    ∀ w', Below wr.heap.size wr w' → Calls Try.prog 33 #[.pointer (some ⟨R, 0, none⟩)] w' fun e w'' => e = .returned (.int .i64 (n : Int)) ∧ Below wr.heap.size wr w'' := fun w' hb =>
  (left_any R Q l f w' (h.later hb).reads).mono fun _ _ ⟨he, hw⟩ => ⟨by rw [he, hn], hw ▸ hb⟩
theorem Pair.dones {w0 wr : World} {R Q G : Nat} {l : List UInt8} {f : Bool} {a : Option Addr} {c : Nat} (h : Pair w0 wr R Q G l f a c) (v : Bool) (hv : v = (!f && l.isEmpty)) :
    ∀ w', Below wr.heap.size wr w' → Calls Try.prog 34 #[.pointer (some ⟨R, 0, none⟩)] w' fun e w'' => e = .returned (.bool v) ∧ Below wr.heap.size wr w'' := fun w' hb =>
  (done_any R Q l f w' (h.later hb).reads).mono fun _ _ ⟨he, hw⟩ => ⟨by rw [he, hv], hw ▸ hb⟩
theorem empty_int (l : List UInt8) : ((l.length : Int) == 0) = l.isEmpty := by cases l <;> simp <;> omega
theorem Pair.refdones {w0 wr : World} {R Q G : Nat} {l : List UInt8} {f : Bool} {a : Option Addr} {c : Nat} (_ : Pair w0 wr R Q G l f a c) (v : Bool) (hv : v = (!f && l.isEmpty)) (n : Nat) (hn : n = l.length) :
    ∀ w', Below wr.heap.size wr w' → Calls Try.prog 35 #[.agg (inCells a n c f)] w' fun e w'' => e = .returned (.bool v) ∧ Below wr.heap.size wr w'' := fun w' hb =>
  (refdone_any a n c f w').mono fun _ _ ⟨he, hw⟩ => ⟨by rw [he, hv, hn, empty_int], hb.trans (hw.mono hb.size)⟩
theorem Pair.cells {w0 wr : World} {R Q G : Nat} {l : List UInt8} {f : Bool} {a : Option Addr} {c : Nat} (h : Pair w0 wr R Q G l f a c) (n : Nat) (hn : n = l.length) :
    ∀ w', Below wr.heap.size wr w' → w'.heap[G]? = some (.cells (inCells a n c f) 42 (0, 0)) := fun w' hb => by
  rw [hn]; exact (h.later hb).cell
theorem lt_GQ {w0 wr : World} {R Q G : Nat} {l : List UInt8} {f : Bool} {a : Option Addr} {c : Nat} (h : Pair w0 wr R Q G l f a c) : G < wr.heap.size := lt_of_block h.cell
end Go.Proofs.Ytcdklimpekknnab
