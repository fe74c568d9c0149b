/-
  What the walks of this seat share.
-/
import Derived.Test.YtkgclhkpncegnaaDoorBase
import Derived.Laws.CopyOwn
import Derived.Lib.Hide
import Derived.Deep.DeepCutAuto
import Derived.Deep.RegionLaw
import Derived.Laws.BitsAllLaws
import Derived.ChangeKeysEq
import Derived.Laws.StructEq
import Derived.Laws.BytesArg
import Derived.OneCell
import Derived.Lib.OthersKept
import Derived.Laws.RangeAny
namespace Go.Proofs.YtkgclhkpncegnaaDoor
open Go.RowKit
theorem infoByte : (Tryd.prog.info? 5).map (fun i => (i.zero, i.size, i.bytes)) = some (some (.int .u8 0), 1, 1) := by kernel_rfl
theorem sizeByte : (Tryd.prog.info? 5).map (·.size) = some 1 := by kernel_rfl
/-- New bytes: all 0. -/
def zeros (n : Nat) : List Value := List.replicate n (.int .u8 0)
theorem zeros_length (n : Nat) : (zeros n).length = n := by simp [zeros]
theorem bvs_oneCell (l : List UInt8) : ∀ u ∈ bvs l, u.oneCell' = true := by
  intro u hu
  simp only [bvs, List.mem_map] at hu
  obtain ⟨c, _, rfl⟩ := hu
  rfl
theorem ownsRow_mono {w : World} {base base' : Nat} {e : TypeId} {size : Nat} {v : Value} {n : Nat} {xs : List Value} (h : w.ownsRow base e size v n xs) (hb : base' ≤ base) : w.ownsRow base' e size v n xs := by
  refine ⟨h.1, ?_⟩
  rcases h.2 with h0 | ⟨g, cap, cur, h1, h2, h3⟩
  · exact .inl h0
  · exact .inr ⟨g, cap, cur, h1, by omega, h3⟩
theorem ownsRow_empty (w : World) (e : TypeId) : (w.alloc (.cells #[] e)).ownsRow w.heap.size e 1 (.slice (some ⟨w.heap.size, 0, none⟩) 0 0) 0 [] :=
  World.ownsRow_made w #[] 0 (Nat.le_refl _) (by unfold maxLen; omega) rfl
theorem BytesAt.src {w : World} {a : Option Addr} {l : List UInt8} (h : BytesAt w a l) (hl : 0 < (bvs l).length) : ∃ ad, a = some ad ∧ ∀ j v, (bvs l)[j]? = some v → w.cell? (ad.add j) = some v := by
  rw [bvs_length] at hl
  obtain ⟨b, off, rfl⟩ := h.addr hl
  refine ⟨_, rfl, fun j v hj => ?_⟩
  have hj' : j < l.length := by
    have := (List.getElem?_eq_some_iff.1 hj).1
    rwa [bvs_length] at this
  rw [add_plain, h.at j hj']
  rw [bvs_get l j hj'] at hj
  exact hj
theorem cell_of_block {w : World} {R i : Nat} {cs : Array Value} {T : TypeId} (h : w.heap[R]? = some (.cells cs T (0, 0))) : w.cell? ⟨R, i, none⟩ = cs[i]? := by simp [World.cell?, h]
theorem free_of_block {w : World} {R i : Nat} {cs : Array Value} {T : TypeId} (h : w.heap[R]? = some (.cells cs T (0, 0))) : w.frozen? ⟨R, i, none⟩ = false := by simp [World.frozen?, h]
theorem grownBy_setCell (w : World) (R i : Nat) (v : Value) : w.grownBy (w.setCell ⟨R, i, none⟩ v) (some R) :=
  ⟨rfl, rfl, rfl, by simp [World.setCell], fun k _ hk => Below.heap_setCell _ _ _ _ (fun e => hk (by rw [e]))⟩
theorem grownBy_trans {a b c : World} {R : Nat} (h : a.grownBy b (some R)) (k : b.grownBy c (some R)) : a.grownBy c (some R) :=
  ⟨k.os.trans h.os, k.tape.trans h.tape, k.output.trans h.output, Nat.le_trans h.size k.size, fun i hi hr => (k.block i (Nat.lt_of_lt_of_le hi h.size) hr).trans (h.block i hi hr)⟩
theorem grownBy_drew (w : World) (row : Option Nat) : w.grownBy w.drew row := ⟨rfl, rfl, rfl, Nat.le_refl _, fun _ _ _ => rfl⟩
theorem grownBy_below {w w' : World} (h : Below w.heap.size w w') (row : Option Nat) : w.grownBy w' row := ⟨h.os, h.tape, h.output, h.size, fun k hk _ => h.block k hk⟩
theorem below_grownBy {B R : Nat} {w0 w w' : World} (hB : B ≤ w0.heap.size) (h : Below B w0 w) (hg : w.grownBy w' (some R)) (hR : B ≤ R) : Below B w0 w' :=
  ⟨hg.os.trans h.os, hg.tape.trans h.tape, hg.output.trans h.output, Nat.le_trans h.size hg.size, fun k hk => (hg.block k (Nat.lt_of_lt_of_le hk (Nat.le_trans hB h.size)) (by intro e; injection e with e; omega)).trans (h.block k hk)⟩
theorem conv_bytes {w : World} {a : Option Addr} {l : List UInt8} (h : BytesAt w a l) (c : Nat) : (convert 22 9 (.slice a l.length c)).run Tryd.prog w = .ok (.string ⟨l.toArray⟩) w := by
  cases a with
  | none =>
    have hl : l = [] := by
      cases l with
      | nil => rfl
      | cons d l => obtain ⟨_, _, h1, _⟩ := h 0 (by simp); simp at h1
    subst hl
    exact run_convert_bytes_nil w 22 5 Tryd.underlying22 Tryd.underlying5 0 c 9 Tryd.underlying9
  | some x =>
    refine run_convert_bytes_back w 22 9 5 x c l Tryd.underlying22 Tryd.underlying5 Tryd.underlying9 ?_
    intro j hj
    obtain ⟨b, off, ha, hc⟩ := h j hj
    obtain rfl : x = ⟨b, off, none⟩ := by simpa using ha
    rw [add_plain]
    exact hc
theorem cellsByte : Tryd.prog.cellsOf 5 = 1 := by kernel_rfl
theorem plainByte : Tryd.prog.plainKey 5 = true := by kernel_rfl
theorem part_byte (w : World) (l : List UInt8) (i : Nat) (h : i < l.length) : (part 5 (bvs l).toArray (i * 1)).run Tryd.prog w = .ok (.int .u8 (l[i].toNat : Int)) w := by
  refine run_part_plain w plainByte ?_
  rw [Nat.mul_one]
  simpa using bvs_get l i h
theorem eqItems_bytes (w : World) (l m : List UInt8) (hl : l.length = m.length) : ∀ (k j : Nat), j + k = l.length →
    (Op.eqItems 9999 5 1 (bvs l).toArray (bvs m).toArray (List.range' j k)).run Tryd.prog w = .ok (decide (l.drop j = m.drop j)) w := by
  intro k
  induction k with
  | zero =>
    intro j hj
    have h1 : l.drop j = [] := List.drop_eq_nil_of_le (by omega)
    have h2 : m.drop j = [] := List.drop_eq_nil_of_le (by omega)
    rw [h1, h2]
    rfl
  | succ k ih =>
    intro j hj
    have hjl : j < l.length := by omega
    have hjm : j < m.length := by omega
    have h1 := part_byte w l j hjl
    have h2 := part_byte w m j hjm
    have h3 := run_equalIn_int (P := Tryd.prog) (w := w) 9998 5 .u8 .u8 (l[j].toNat : Int) (m[j].toNat : Int) Tryd.underlying5
    rw [List.range'_succ]
    simp only [Op.eqItems, Sem.run_bind, h1, h2, h3, Result.andThen_ok]
    rw [List.drop_eq_getElem_cons hjl, List.drop_eq_getElem_cons hjm]
    by_cases he : l[j] = m[j]
    · have hb : ((l[j].toNat : Int) == (m[j].toNat : Int)) = true := by rw [he]; simp
      rw [hb]
      simp only [Bool.not_true, Bool.false_eq_true, if_false]
      rw [ih (j + 1) (by omega)]
      generalize l.drop (j + 1) = A
      generalize m.drop (j + 1) = B
      simp [he]
    · have hb : ((l[j].toNat : Int) == (m[j].toNat : Int)) = false := by
        rw [beq_eq_false_iff_ne]
        intro h
        exact he (UInt8.toNat_inj.1 (by omega))
      rw [hb]
      generalize l.drop (j + 1) = A
      generalize m.drop (j + 1) = B
      simp [he]
theorem eq_ids (w : World) (l m : List UInt8) (hl : l.length = 32) (hm : m.length = 32) :
    (Op.equalIn 10000 29 (.agg (bvs l).toArray) (.agg (bvs m).toArray)).run Tryd.prog w = .ok (decide (l = m)) w := by
  obtain ⟨i0, hi, _, _, _⟩ := info_parts (show (Tryd.prog.info? 5).map (fun i => (i.zero, i.size, i.bytes)) = some (some (.int .u8 0), 1, 1) by kernel_rfl)
  rw [run_equalIn_array w 9999 _ _ Tryd.underlying29 hi, cellsByte]
  have := eqItems_bytes w l m (by omega) 32 0 (by omega)
  rw [List.range_eq_range']
  simpa using this
theorem step_append_own {P : Program} {ops : Array Oper} {o : Oper} {a : Act} {w : World} {K : Act → World → Prop} {Q : Exit → Act → World → Prop} {E : Prop} (hgd : o.guard = none) (s x : Operand) (t : TypeId)
    (ho : o.op = .call { callee := .builtin .append, args := #[s, x], argTypes := #[t, t] })
    (base : Nat) (e : TypeId) (i : TypeInfo) (z : Value) (size bytes : Nat) (ht : P.underlying t = some (.slice e)) (hi : P.info? e = some i) (hz : i.zero = some z)
    (hsize : i.size = size) (hby : i.bytes = bytes) (hzs : z.cells.size = size) (hsz : 0 < size)
    (v : Value) (n : Nat) (xs : List Value) (hs : a.eval s = v) (hown : w.ownsRow base e size v n xs)
    (ad : Addr) (m c : Nat) (news : List Value) (hx : a.eval x = .slice (some ad) m c) (hl : news.length = m * size) (hnews : ∀ j u, news[j]? = some u → w.cell? (ad.add j) = some u) (h1 : ∀ u ∈ news, u.oneCell' = true)
    (h63 : n + m ≤ maxLen) (hbytes : (n + m) * bytes ≤ 140737488355328) (hbase : base ≤ w.heap.size)
    (h : ∀ v' w', w'.ownsRow base e size v' (n + m) (xs ++ news) → w.grownBy w' v.ownBlock → (v' = .slice none 0 0 ↔ v = .slice none 0 0 ∧ m = 0) → K (a.put o.dst v') w') :
    if Region.wanted o (yielded ops a.tmps) = true then Oper.wp P o a w K Q else E := by
  have hw : Region.wanted o (yielded ops a.tmps) = true := by simp [Region.wanted, hgd]
  rw [if_pos hw]
  exact wp_append_own w s x t ho base e i z size bytes ht hi hz hsize hby hzs hsz v n xs hs hown ad m c news hx hl hnews h1 h63 hbytes hbase h
end Go.Proofs.YtkgclhkpncegnaaDoor
