/-
  What the laws of sha need: append of bytes wherever they lie, a part of a slice, a conversion in a region that draws.
-/
import Derived.Test.YtkgclhkpncegnaaDoorOf
import Derived.Laws.AppendOwn
import Derived.Laws.AppendOwnNone
namespace Go.Proofs.YtkgclhkpncegnaaDoor
open Go.RowKit
set_option linter.unusedSimpArgs false
set_option linter.unusedVariables false

theorem wpList_append_bytes {w : World} {ops : Array Oper} {rest : List Oper} {o : Oper} {a : Act} {Q : Exit → Act → World → Prop} (hgd : o.guard = none) (s x : Operand)
    (ho : o.op = .call { callee := .builtin .append, args := #[s, x], argTypes := #[22, 22] })
    (base : Nat) (v : Value) (n : Nat) (xs : List Value) (hs : a.eval s = v) (hown : w.ownsRow base 5 1 v n xs)
    (ax : Option Addr) (l : List UInt8) (c : Nat) (hx : a.eval x = .slice ax l.length c) (hb : BytesAt w ax l) (hcap : ax = none → c = 0)
    (h63 : n + l.length ≤ 140737488355328) (hbase : base ≤ w.heap.size)
    (h : ∀ v' w', w'.ownsRow base 5 1 v' (n + l.length) (xs ++ bvs l) → w.grownBy w' v.ownBlock → wpList Tryd.prog ops Q rest (a.put o.dst v') w') : wpList Tryd.prog ops Q (o :: rest) a w := by
  obtain ⟨i0, hi, hz0, hz1, hz2⟩ := info_parts infoByte
  cases ax with
  | none =>
    obtain rfl := hb.nil_of_none
    obtain rfl := hcap rfl
    refine wpList_append_own_none hgd s x 22 ho base 5 i0 1 Tryd.underlying22 hi v n xs hs hown hx ?_
    exact h v w (ownsRow_cast hown (by simp) (by simp [bvs])) (World.grownBy.refl w _)
  | some ad =>
    refine wpList_append_own _ hgd s x 22 ho base 5 i0 (.int .u8 0) 1 1 Tryd.underlying22 hi hz0 hz1 hz2 rfl (by decide) v n xs hs hown ad l.length c (bvs l) hx (by rw [bvs_length, Nat.mul_one]) ?_ (bvs_oneCell l) (by unfold maxLen; omega) (by omega) hbase (fun v' w' h1 h2 _ => h v' w' h1 h2)
    intro j u hj
    have hj' : j < l.length := by
      have := (List.getElem?_eq_some_iff.1 hj).1
      rwa [bvs_length] at this
    obtain ⟨b, off, h1, h2⟩ := hb j hj'
    obtain rfl := Option.some.inj h1
    rw [add_plain, h2]
    rw [bvs_get l j hj'] at hj
    exact hj
theorem quiet_conv {P : Program} {C : World → Prop} {o : Oper} {a : Act} {K : Act → Prop} (src dst : TypeId) (x : Operand) (ho : o.op = .convert src dst x)
    (v : Value) (hrun : ∀ w : World, C w → (convert src dst (a.eval x)).run P w = .ok v w)
    (h : K (a.put o.dst v)) : o.quiet P a C K :=
  ⟨v, fun w hw => by
    unfold Oper.quietAt execOp
    simp only [ho, Sem.run_bind, Sem.run_pure, hrun w hw, Result.andThen_ok]
    exact ⟨rfl, rfl⟩, h⟩
set_option maxRecDepth 100000 in
/-- A part of a slice. -/
theorem slice_mid (a : Option Addr) (L l1 l0 l2 : List UInt8) (cap : Nat) (hL : L = l1 ++ l0 ++ l2) (hcap : a = none → cap = 0) (hl : L.length ≤ cap) (hc : cap ≤ 9223372036854775807) :
    ∃ pp c', (∀ W : World, (Instr.sliceAt 22 (.slice a L.length cap) (some (.int .i64 (l1.length : Int))) (some (.int .i64 ((l1.length : Int) + (l0.length : Int)))) none).run Tryd.prog W = .ok (.slice pp l0.length c') W) ∧
      (∀ W, BytesAt W a L → BytesAt W pp l0) ∧ (pp = none → c' = 0) ∧ l0.length ≤ c' ∧ c' ≤ cap := by
  have hlen : L.length = l1.length + l0.length + l2.length := by rw [hL]; simp; omega
  cases a with
  | none =>
    obtain rfl := hcap rfl
    have h1 : l1 = [] := List.eq_nil_of_length_eq_zero (by omega)
    have h0 : l0 = [] := List.eq_nil_of_length_eq_zero (by omega)
    have hL0 : L.length = 0 := by omega
    refine ⟨none, 0, fun W => ?_, fun W h => ?_, fun _ => rfl, by rw [h0]; simp, Nat.le_refl _⟩
    · rw [h1, h0, hL0]
      go_simp
    · rw [h0]; exact BytesAt.nil _ _
  | some ad =>
    refine ⟨if cap = l1.length then some ad else some (ad.add l1.length), cap - l1.length, fun W => ?_, fun W h => ?_, fun h => ?_, by omega, by omega⟩
    · have e1 : l1.length + l0.length ≤ cap := by omega
      clear hL hcap
      have e2 : ((l1.length : Int) + (l0.length : Int)) = ((l1.length + l0.length : Nat) : Int) := by simp
      rw [e2]
      clear e2
      obtain ⟨m, hm⟩ : ∃ m, m = l1.length + l0.length := ⟨_, rfl⟩
      have e3 : l0.length = m - l1.length := by omega
      rw [← hm] at e1 ⊢
      rw [e3]
      have e4 : l1.length ≤ m := by omega
      clear hm e3 hlen hl
      go_simp
    · split
      · have h0 : l0 = [] := List.eq_nil_of_length_eq_zero (by omega)
        rw [h0]; exact BytesAt.nil _ _
      · intro i hi
        obtain ⟨b, off, h1, h2⟩ := h (l1.length + i) (by omega)
        obtain rfl := Option.some.inj h1
        refine ⟨b, off + l1.length, by rw [add_plain], ?_⟩
        rw [Nat.add_assoc, h2]
        congr 3
        simp [hL]
        rw [List.getElem_append_left hi]
    · split at h <;> simp at h
theorem own_none {w : World} {base n c : Nat} {e : TypeId} {a : Option Addr} {xs : List Value} (h : w.ownsRow base e 1 (.slice a n c) n xs) : a = none → c = 0 := by
  intro h0
  rcases h.2 with ⟨h1, _⟩ | ⟨g, cap, cur, h1, _⟩
  · simp only [Value.slice.injEq] at h1
    exact h1.2.2
  · simp only [Value.slice.injEq] at h1
    rw [h0] at h1
    simp at h1
theorem BytesAt.of_block {w : World} {g : Nat} {l : List UInt8} {T : TypeId} (h : w.heap[g]? = some (.cells (bvs l).toArray T (0, 0))) : BytesAt w (some ⟨g, 0, none⟩) l := by
  intro i hi
  refine ⟨g, 0, rfl, ?_⟩
  rw [cell_of_block h, Nat.zero_add]
  simpa using bvs_get l i hi
theorem isRow_none {k : IntKind} {w : World} {a : Option Addr} {len cap : Nat} {zs : List Int} (h : IsRow k w a len cap zs) : a = none → cap = 0 := by
  intro h0
  rcases h with ⟨_, _, h1, _⟩ | ⟨x, h1, _⟩
  · exact h1
  · rw [h0] at h1; cases h1
end Go.Proofs.YtkgclhkpncegnaaDoor
