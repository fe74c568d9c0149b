/-
  What ShaNamed needs: a Named before and behind the first call of ID; SameBytes; n & 15.
-/
import Derived.Test.YtkgclhkpncegnaaDoorPartsKit
import Derived.Test.YtkgclhkpncegnaaDoorSame
namespace Go.Proofs.YtkgclhkpncegnaaDoor
open Go.RowKit
set_option linter.unusedSimpArgs false
set_option linter.unusedVariables false

theorem and_i64_bounds (x : Int) (m : Nat) (h : m < 2147483648) : 0 ≤ bits .and .i64 x (m : Int) ∧ bits .and .i64 x (m : Int) ≤ (m : Int) := by
  have h2 : (BitVec.ofInt 64 (m : Int)).toNat = m := by
    rw [BitVec.ofInt_natCast, BitVec.toNat_ofNat]; exact Nat.mod_eq_of_lt (by omega)
  have e : bits .and .i64 x (m : Int) = IntKind.i64.wrap ((BitVec.ofInt 64 x &&& BitVec.ofInt 64 (m : Int)).toNat : Int) := rfl
  rw [e, BitVec.toNat_and, h2]
  have h3 : (BitVec.ofInt 64 x).toNat &&& m ≤ m := Nat.and_le_right
  rw [IntWalk.i64_in _ (by omega)]
  omega

/-- A Named whose ID was asked for, or not yet. -/
def NS (w : World) (b g : Nat) (l : List UInt8) (m : Bool) : Prop :=
  g ≠ b ∧ b ≠ 0 ∧ w.heap[g]? = some (.cells (bvs l).toArray 5 (0, 0)) ∧ NamedAt w b (.slice (some ⟨g, 0, none⟩) l.length l.length) (if m then 1 else 0) 0 0 (if m then bvs (sumL l) else zeros 32) (if m then 1 else 0)
theorem NS.keep {w w' : World} {b g : Nat} {l : List UInt8} {m : Bool} {row : Option Nat} (h : NS w b g l m) (hg : w.grownBy w' row) (hb : some b ≠ row) (hgg : some g ≠ row) : NS w' b g l m :=
  ⟨h.1, h.2.1, (hg.block g (lt_of_block h.2.2.1) hgg).trans h.2.2.1, h.2.2.2.keep hg hb⟩
theorem NS.later {w w' : World} {b g : Nat} {l : List UInt8} {m : Bool} (h : NS w b g l m) (hb : Below w.heap.size w w') : NS w' b g l m := h.keep (grownBy_below hb none) (by simp) (by simp)
theorem ns_of {w : World} {b g : Nat} {l : List UInt8} (hgb : g < b) (hg : w.heap[g]? = some (.cells (bvs l).toArray 5 (0, 0))) (hN : NamedAt w b (.slice (some ⟨g, 0, none⟩) l.length l.length) 0 0 0 (zeros 32) 0) : NS w b g l false :=
  ⟨by omega, by omega, hg, hN⟩
theorem ns_id (w : World) (b g : Nat) (l : List UInt8) (m : Bool) (h : NS w b g l m) (hl : l.length ≤ 9223372036854775807) (hk : KeysAt w) :
    Calls Tryd.prog 13 #[.pointer (some ⟨b, 0, none⟩)] w fun e w' => e = .returned (.agg (bvs (sumL l)).toArray) ∧ NS w' b g l true ∧ w.grownBy w' (some b) := by
  obtain ⟨h1, h2, h3, h4⟩ := h
  cases m with
  | false =>
    refine (id_first b (some ⟨g, 0, none⟩) l l.length 0 (zeros 32) w h4 (BytesAt.of_block h3) (fun x hx => by injection hx with hx; rw [← hx]; simp; omega) (fun h0 => by simp at h0) (Nat.le_refl _) hl hk h2).mono ?_
    rintro e w' ⟨rfl, hN, hg⟩
    exact ⟨rfl, ⟨h1, h2, (hg.block g (lt_of_block h3) (by intro e; injection e with e; omega)).trans h3, hN⟩, hg⟩
  | true =>
    refine (id_again b _ 0 0 l 1 w h4).mono ?_
    rintro e w' ⟨rfl, hb⟩
    have hg := grownBy_below hb (some b)
    exact ⟨rfl, ⟨h1, h2, (hb.block g (lt_of_block h3)).trans h3, h4.keep (grownBy_below hb none) (by simp)⟩, hg⟩
theorem ns_sums (w : World) (b g : Nat) (l : List UInt8) (m : Bool) (h : NS w b g l m) :
    Calls Tryd.prog 12 #[.pointer (some ⟨b, 0, none⟩)] w fun e w' => e = .returned (.int .i64 (if m then 1 else 0)) ∧ w' = w := sums_any b _ _ _ _ _ _ w h.2.2.2
theorem ns_bytes (w : World) (b g : Nat) (l : List UInt8) (m : Bool) (h : NS w b g l m) (hl : l.length ≤ 281474976710656) :
    Calls Tryd.prog 14 #[.pointer (some ⟨b, 0, none⟩)] w fun e w' => ∃ g', e = .returned (.slice (some ⟨g', 0, none⟩) l.length l.length) ∧ w.heap.size ≤ g' ∧ w'.heap[g']? = some (.cells (bvs l).toArray 5 (0, 0)) ∧ Below w.heap.size w w' :=
  bytes_any b _ l _ _ _ _ _ _ w h.2.2.2 (BytesAt.of_block h.2.2.1) hl

theorem quiet_run {P : Program} {C : World → Prop} {o : Oper} {a : Act} {K : Act → Prop} (v : Value) (hrun : ∀ w : World, C w → (execOp a.eval o).run P w = .ok (.value v) w)
    (h : K (a.put o.dst v)) : o.quiet P a C K :=
  ⟨v, fun w hw => by
    unfold Oper.quietAt
    rw [hrun w hw]
    exact ⟨rfl, rfl⟩, h⟩
theorem quiet_run_at {P : Program} {C : World → Prop} {o : Oper} {a : Act} {K : Act → Prop} (op : Op) (ho : o.op = op) (v : Value) (hrun : ∀ w : World, C w → (execOp a.eval o).run P w = .ok (.value v) w)
    (h : K (a.put o.dst v)) : o.quiet P a C K := quiet_run v hrun h
/-- A row of bytes, whatever they are. -/
def ByteRow (w : World) (g n : Nat) : Prop := ∃ cur : Array Value, w.heap[g]? = some (.cells cur 5 (0, 0)) ∧ ∀ j, j < n → ∃ c : UInt8, cur[j]? = some (.int .u8 (c.toNat : Int))
theorem ByteRow.at {w : World} {g n : Nat} (h : ByteRow w g n) (j : Nat) (hj : j < n) : ∃ c : UInt8, w.cell? ⟨g, j, none⟩ = some (.int .u8 (c.toNat : Int)) ∧ w.frozen? ⟨g, j, none⟩ = false := by
  obtain ⟨cur, h1, h2⟩ := h
  obtain ⟨c, hc⟩ := h2 j hj
  exact ⟨c, by rw [cell_of_block h1]; exact hc, free_of_block h1⟩
theorem ByteRow.set {w : World} {g n : Nat} (h : ByteRow w g n) (j : Nat) (c : UInt8) : ByteRow (w.setCell ⟨g, j, none⟩ (.int .u8 (c.toNat : Int))) g n := by
  obtain ⟨cur, h1, h2⟩ := h
  refine ⟨_, heap_setCell_same w g j _ _ _ h1, fun i hi => ?_⟩
  by_cases he : j = i
  · subst he
    obtain ⟨c', hc'⟩ := h2 j hi
    have hlt := (Array.getElem?_eq_some_iff.1 hc').1
    exact ⟨c, by simp [hlt]⟩
  · obtain ⟨c', hc'⟩ := h2 i hi
    exact ⟨c', by rw [Array.getElem?_setIfInBounds_ne he]; exact hc'⟩
theorem ByteRow.keep {w w' : World} {g n : Nat} {row : Option Nat} (h : ByteRow w g n) (hg : w.grownBy w' row) (hr : some g ≠ row) : ByteRow w' g n := by
  obtain ⟨cur, h1, h2⟩ := h
  exact ⟨cur, (hg.block g (lt_of_block h1) hr).trans h1, h2⟩
theorem byteRow_of {w : World} {g : Nat} {l : List UInt8} (h : w.heap[g]? = some (.cells (bvs l).toArray 5 (0, 0))) : ByteRow w g l.length :=
  ⟨_, h, fun j hj => ⟨l[j], by simpa using bvs_get l j hj⟩⟩
theorem own_block {w : World} {base : Nat} {v : Value} {l : List UInt8} (h : w.ownsRow base 5 1 v l.length (bvs l)) (hl : 0 < l.length) : ∃ g cap, v = .slice (some ⟨g, 0, none⟩) l.length cap ∧ base ≤ g ∧ ByteRow w g l.length := by
  rcases h.2 with ⟨h1, h2⟩ | ⟨g, cap, cur, h1, hbg, hg, hnc, hcm, hcs, htake⟩
  · omega
  · refine ⟨g, cap, h1, hbg, cur, hg, fun j hj => ⟨l[j], ?_⟩⟩
    have h3 := bvs_get l j hj
    rw [← htake] at h3
    rw [List.getElem?_take] at h3
    simpa [hj] using h3
theorem u8_succ (c : UInt8) : ((c.toNat : Int) + 1) % 256 = ((UInt8.ofNat (c.toNat + 1)).toNat : Int) := by
  rw [UInt8.toNat_ofNat']; omega
end Go.Proofs.YtkgclhkpncegnaaDoor
