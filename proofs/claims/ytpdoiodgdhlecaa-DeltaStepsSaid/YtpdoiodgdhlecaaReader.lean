/-
  The reader: what its block holds, and the walks of its methods.
-/
import Derived.Test.YtpdoiodgdhlecaaFirst
import Derived.Test.YtpdoiodgdhlecaaNum
import Derived.Laws.BytesArg
namespace Go.Proofs.Ytpdoiodgdhlecaa
open Go.RowKit

theorem cell_of_block {w : World} {R i : Nat} {cs : Array Value} {T : TypeId} (h : w.heap[R]? = some (.cells cs T (0, 0))) : w.cell? ⟨R, i, none⟩ = cs[i]? := by simp [World.cell?, h]
theorem free_of_block {w : World} {R i : Nat} {cs : Array Value} {T : TypeId} (h : w.heap[R]? = some (.cells cs T (0, 0))) : w.frozen? ⟨R, i, none⟩ = false := by simp [World.frozen?, h]

/-- The reader in block R has the bytes l left, in block Q, and has failed or not. -/
def Reads (w : World) (R Q : Nat) (l : List UInt8) (f : Bool) : Prop :=
  Q ≠ R ∧ Q < w.heap.size ∧ ∃ a cap, w.heap[R]? = some (.cells #[.slice a l.length cap, .bool f] 80 (0, 0)) ∧ BytesAt w a l ∧ (∀ x, a = some x → x.block = Q) ∧ l.length ≤ cap ∧ cap ≤ 9223372036854775807
theorem Reads.lt {w : World} {R Q : Nat} {l : List UInt8} {f : Bool} (h : Reads w R Q l f) : R < w.heap.size := by
  obtain ⟨_, _, _, _, h1, _⟩ := h
  exact lt_of_block h1
theorem BytesAt.grown {w w' : World} {a : Option Addr} {l : List UInt8} {R : Nat} (h : BytesAt w a l) (hg : w.grownBy w' (some R)) (ha : ∀ x, a = some x → x.block ≠ R) : BytesAt w' a l := by
  intro i hi
  obtain ⟨b, off, hab, hc⟩ := h i hi
  exact ⟨b, off, hab, hg.cell hc (by have := ha _ hab; simpa using this)⟩
theorem Reads.later {w w' : World} {R Q : Nat} {l : List UInt8} {f : Bool} (h : Reads w R Q l f) (hb : Below w.heap.size w w') : Reads w' R Q l f := by
  obtain ⟨hQ, hQs, a, cap, h1, h2, h3, h4, h5⟩ := h
  exact ⟨hQ, Nat.lt_of_lt_of_le hQs hb.size, a, cap, by rw [hb.block R (lt_of_block h1)]; exact h1, h2.later hb, h3, h4, h5⟩
theorem Reads.other {w w' : World} {R Q g : Nat} {l : List UInt8} {f : Bool} (h : Reads w R Q l f) (hg : w.grownBy w' (some g)) (h1' : g ≠ R) (h2' : g ≠ Q) : Reads w' R Q l f := by
  obtain ⟨hQ, hQs, a, cap, h1, h2, h3, h4, h5⟩ := h
  exact ⟨hQ, Nat.lt_of_lt_of_le hQs hg.size, a, cap, by rw [hg.block R (lt_of_block h1) (by intro e; injection e with e; exact h1' e.symm)]; exact h1, h2.grown hg (fun x hx => by rw [h3 x hx]; exact fun e => h2' e.symm), h3, h4, h5⟩
theorem grownBy_setCell (w : World) (R i : Nat) (v : Value) : w.grownBy (w.setCell ⟨R, i, none⟩ v) (some R) :=
  ⟨rfl, rfl, rfl, by simp [World.setCell], fun k _ hk => Below.heap_setCell _ _ _ _ (fun e => hk (by rw [e]))⟩
theorem grownBy_trans {a b c : World} {R : Nat} (h : a.grownBy b (some R)) (k : b.grownBy c (some R)) : a.grownBy c (some R) :=
  ⟨k.os.trans h.os, k.tape.trans h.tape, k.output.trans h.output, Nat.le_trans h.size k.size, fun i hi hr => (k.block i (Nat.lt_of_lt_of_le hi h.size) hr).trans (h.block i hi hr)⟩
theorem grownBy_drew (w : World) (row : Option Nat) : w.grownBy w.drew row := ⟨rfl, rfl, rfl, Nat.le_refl _, fun _ _ _ => rfl⟩
theorem grownBy_below {w w' : World} (h : Below w.heap.size w w') (row : Option Nat) : w.grownBy w' row := ⟨h.os, h.tape, h.output, h.size, fun k hk _ => h.block k hk⟩
theorem below_grownBy {B R : Nat} {w0 w w' : World} (hB : B ≤ w0.heap.size) (h : Below B w0 w) (hg : w.grownBy w' (some R)) (hR : B ≤ R) : Below B w0 w' :=
  ⟨hg.os.trans h.os, hg.tape.trans h.tape, hg.output.trans h.output, Nat.le_trans h.size hg.size, fun k hk => (hg.block k (Nat.lt_of_lt_of_le hk (Nat.le_trans hB h.size)) (by intro e; injection e with e; omega)).trans (h.block k hk)⟩

set_option maxRecDepth 100000 in
set_option maxHeartbeats 400000 in
theorem fail_any (R Q : Nat) (l : List UInt8) (f : Bool) (w : World) (h : Reads w R Q l f) :
    Calls Try.prog 45 #[.pointer (some ⟨R, 0, none⟩)] w fun e w' => e = .returned (.tuple #[]) ∧ Reads w' R Q [] true ∧ w.grownBy w' (some R) := by
  obtain ⟨hQ, hQs, a, cap, h1, h2, h3, h4, h5⟩ := h
  have c0 : w.cell? ⟨R, 0, none⟩ = some (.slice a l.length cap) := cell_of_block h1
  have c1 : w.cell? ⟨R, 1, none⟩ = some (.bool f) := cell_of_block h1
  have f0 : w.frozen? ⟨R, 0, none⟩ = false := free_of_block h1
  have f1 : w.frozen? ⟨R, 1, none⟩ = false := free_of_block h1
  have H1 := Lib.hid h1
  clear h1
  go_enter Try.func45, Try.ntmps45
  go_wp2
  go_end0
  refine ⟨rfl, ⟨hQ, by simpa [World.setCell] using hQs, none, 0, ?_, BytesAt.nil _ _, by simp, by simp, by omega⟩, grownBy_trans (grownBy_setCell _ _ _ _) (grownBy_setCell _ _ _ _)⟩
  have e1 := heap_setCell_same w R 0 _ _ (.slice none 0 0) H1.out
  have e2 := heap_setCell_same _ R 1 _ _ (.bool true) e1
  exact e2

set_option maxRecDepth 100000 in
set_option maxHeartbeats 400000 in
theorem good_any (R Q : Nat) (l : List UInt8) (f : Bool) (w : World) (h : Reads w R Q l f) :
    Calls Try.prog 30 #[.pointer (some ⟨R, 0, none⟩)] w fun e w' => e = .returned (.bool (!f)) ∧ w = w' := by
  obtain ⟨hQ, hQs, a, cap, h1, h2, h3, h4, h5⟩ := h
  have c1 : w.cell? ⟨R, 1, none⟩ = some (.bool f) := cell_of_block h1
  clear h1
  go_enter Try.func30, Try.ntmps30
  go_wp2
  go_ret
  exact ⟨rfl, rfl⟩

set_option maxRecDepth 100000 in
set_option maxHeartbeats 400000 in
theorem left_any (R Q : Nat) (l : List UInt8) (f : Bool) (w : World) (h : Reads w R Q l f) :
    Calls Try.prog 29 #[.pointer (some ⟨R, 0, none⟩)] w fun e w' => e = .returned (.int .i64 (l.length : Int)) ∧ w = w' := by
  obtain ⟨hQ, hQs, a, cap, h1, h2, h3, h4, h5⟩ := h
  have c0 : w.cell? ⟨R, 0, none⟩ = some (.slice a l.length cap) := cell_of_block h1
  clear h1
  go_enter Try.func29, Try.ntmps29
  go_wp2
  go_ret
  exact ⟨rfl, rfl⟩

set_option maxRecDepth 100000 in
set_option maxHeartbeats 400000 in
theorem take_fail (R Q : Nat) (l : List UInt8) (f : Bool) (n : Nat) (w : World) (h : Reads w R Q l f) (hn : l.length < n) :
    Calls Try.prog 46 #[.pointer (some ⟨R, 0, none⟩), .int .i64 (n : Int)] w fun e w' => e = .returned (.slice none 0 0) ∧ Reads w' R Q [] true ∧ w.grownBy w' (some R) := by
  have hR := Lib.hid h
  obtain ⟨hQ, hQs, a, cap, h1, h2, h3, h4, h5⟩ := h
  have c0 : w.cell? ⟨R, 0, none⟩ = some (.slice a l.length cap) := cell_of_block h1
  clear h1
  go_enter Try.func46, Try.ntmps46
  go_wp2_with fail
  refine (fail_any R Q l f w hR.out).mono ?_
  rintro e w' ⟨rfl, hr, hg⟩
  go_wp2_with fail
  go_ret
  exact ⟨rfl, hr, hg⟩

/-- What is taken: the first n bytes; the reader goes on behind them. -/
def Took (R Q : Nat) (l : List UInt8) (f : Bool) (n : Nat) (w : World) (e : Ending) (w' : World) : Prop :=
  ∃ a c, e = .returned (.slice a (l.take n).length c) ∧ BytesAt w' a (l.take n) ∧ (∀ x, a = some x → x.block = Q) ∧ Reads w' R Q (l.drop n) f ∧ w.grownBy w' (some R)

theorem BytesAt.take {w : World} {a : Option Addr} {l : List UInt8} (h : BytesAt w a l) (n : Nat) : BytesAt w a (l.take n) := by
  intro i hi
  have hi' : i < l.length := by simp at hi; omega
  obtain ⟨b, off, ha, hc⟩ := h i hi'
  exact ⟨b, off, ha, by rw [List.getElem_take]; exact hc⟩
theorem BytesAt.drop {w : World} {a : Option Addr} {l : List UInt8} (h : BytesAt w a l) (n : Nat) : BytesAt w (a.map (fun x => x.add n)) (l.drop n) := by
  intro i hi
  have hi' : n + i < l.length := by simp at hi; omega
  obtain ⟨b, off, ha, hc⟩ := h (n + i) hi'
  refine ⟨b, off + n, by rw [ha, Option.map_some, add_plain], ?_⟩
  rw [List.getElem_drop, Nat.add_assoc]
  exact hc
theorem add_block (x : Addr) (n : Nat) : (x.add n).block = x.block := by
  unfold Addr.add; split <;> rfl
theorem took_mk {R Q : Nat} {l : List UInt8} {f : Bool} {n : Nat} {w : World} {a : Option Addr} {cap : Nat} (h1 : w.heap[R]? = some (.cells #[.slice a l.length cap, .bool f] 80 (0, 0))) (h2 : BytesAt w a l) (h3 : ∀ x, a = some x → x.block = Q) (hQ : Q ≠ R) (hQs : Q < w.heap.size)
    (hn : n ≤ l.length) (a' : Option Addr) (c' : Nat) (hB : BytesAt w a' (l.drop n)) (ha : ∀ x, a' = some x → x.block = Q) (hc : l.length - n ≤ c') (hc5 : c' ≤ 9223372036854775807) :
    Took R Q l f n w (.returned (.slice a n n)) (w.setCell ⟨R, 0, none⟩ (.slice a' (l.length - n) c')) := by
  have hg := grownBy_setCell w R 0 (.slice a' (l.length - n) c')
  have hl : (l.take n).length = n := by simp; omega
  refine ⟨a, n, by rw [hl], (h2.take n).grown hg (fun x hx => by rw [h3 x hx]; exact hQ), h3, ⟨hQ, by simpa [World.setCell] using hQs, a', c', ?_, hB.grown hg (fun x hx => by rw [ha x hx]; exact hQ), ha, by simpa using hc, hc5⟩, hg⟩
  rw [List.length_drop]
  exact heap_setCell_same w R 0 _ _ _ h1

set_option maxRecDepth 100000 in
set_option maxHeartbeats 400000 in
theorem take_ok (R Q : Nat) (l : List UInt8) (f : Bool) (n : Nat) (w : World) (h : Reads w R Q l f) (hn : n ≤ l.length) :
    Calls Try.prog 46 #[.pointer (some ⟨R, 0, none⟩), .int .i64 (n : Int)] w (Took R Q l f n w) := by
  obtain ⟨hQ, hQs, a, cap, h1, h2, h3, h4, h5⟩ := h
  have c0 : w.cell? ⟨R, 0, none⟩ = some (.slice a l.length cap) := cell_of_block h1
  have f0 : w.frozen? ⟨R, 0, none⟩ = false := free_of_block h1
  have H1 := Lib.hid h1
  have H3 := Lib.hid h3
  clear h1 h3
  go_enter Try.func46, Try.ntmps46
  go_wp2_with fail
  · have hcn : cap = n := by assumption
    go_ret
    have hd : l.drop n = [] := List.drop_eq_nil_of_le (by omega)
    exact took_mk H1.out h2 H3.out hQ hQs hn a 0 (by rw [hd]; exact BytesAt.nil _ _) H3.out (by omega) (by omega)
  · go_ret
    refine took_mk H1.out h2 H3.out hQ hQs hn _ (cap - n) (h2.drop n) ?_ (by omega) (by omega)
    intro x hx
    obtain ⟨y, hy, rfl⟩ := Option.map_eq_some_iff.1 hx
    rw [add_block]
    exact H3.out y hy
theorem conv_bytes {w : World} {a : Option Addr} {l : List UInt8} (h : BytesAt w a l) (c : Nat) : (convert 22 9 (.slice a l.length c)).run Try.prog w = .ok (.string ⟨l.toArray⟩) w := by
  cases a with
  | none =>
    have hl : l = [] := by
      cases l with
      | nil => rfl
      | cons d l => obtain ⟨_, _, h1, _⟩ := h 0 (by simp); simp at h1
    subst hl
    exact run_convert_bytes_nil w 22 5 Try.underlying22 Try.underlying5 0 c 9 Try.underlying9
  | some x =>
    refine run_convert_bytes_back w 22 9 5 x c l Try.underlying22 Try.underlying5 Try.underlying9 ?_
    intro j hj
    obtain ⟨b, off, ha, hc⟩ := h j hj
    obtain rfl : x = ⟨b, off, none⟩ := by simpa using ha
    rw [add_plain]
    exact hc
end Go.Proofs.Ytpdoiodgdhlecaa
