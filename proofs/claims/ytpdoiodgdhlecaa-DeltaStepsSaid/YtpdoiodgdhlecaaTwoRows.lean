/-
  Two rows of bytes that grow beside each other; numbers made; a pair of ints in a slice.
-/
import Derived.Test.YtpdoiodgdhlecaaDeltaApplies
import Derived.Test.YtpdoiodgdhlecaaStepMath
import Derived.OwnWalk
import Derived.ArgAppend
import Derived.Deep.MidRow
namespace Go.Proofs.Ytpdoiodgdhlecaa
open Go.RowKit
set_option linter.unusedSimpArgs false
set_option linter.unusedVariables false

theorem own_any {w : World} {base n : Nat} {e : TypeId} {v : Value} {xs : List Value} (h : w.ownsRow base e 1 v n xs) : ∃ a c, v = .slice a n c := by
  rcases h.2 with ⟨h1, h2⟩ | ⟨g, cap, cur, hv, _⟩
  · exact ⟨none, 0, by rw [h1, h2]⟩
  · exact ⟨_, _, hv⟩
theorem own_addr {w : World} {base n c : Nat} {a : Option Addr} {e : TypeId} {xs : List Value} (h : w.ownsRow base e 1 (.slice a n c) n xs) (hn : 0 < n) : ∃ g, a = some ⟨g, 0, none⟩ := by
  rcases h.2 with ⟨h1, h2⟩ | ⟨g, cap, cur, hv, _⟩
  · omega
  · simp only [Value.slice.injEq] at hv
    exact ⟨g, hv.1⟩
theorem own_none {w : World} {base n c : Nat} {a : Option Addr} {e : TypeId} {xs : List Value} (h : w.ownsRow base e 1 (.slice a n c) n xs) : a = none → c = 0 := by
  intro h0
  rcases h.2 with ⟨h1, _⟩ | ⟨g, cap, cur, h1, _⟩
  · simp only [Value.slice.injEq] at h1
    exact h1.2.2
  · simp only [Value.slice.injEq] at h1
    rw [h0] at h1
    simp at h1
theorem own_cap {w : World} {base n c g : Nat} {e : TypeId} {xs : List Value} (h : w.ownsRow base e 1 (.slice (some ⟨g, 0, none⟩) n c) n xs) : n ≤ c ∧ c ≤ 9223372036854775807 := by
  rcases h.2 with ⟨h1, h2⟩ | ⟨g', cap, cur, hv, hbg, hg, hnc, hcm, hcs, htake⟩
  · simp at h1
  · simp only [Value.slice.injEq, Option.some.injEq, Addr.mk.injEq, and_true, true_and] at hv
    obtain ⟨rfl, rfl⟩ := hv
    unfold maxLen at hcm
    exact ⟨hnc, by omega⟩
theorem own_cells {w : World} {base n c g : Nat} {e : TypeId} {xs : List Value} (h : w.ownsRow base e 1 (.slice (some ⟨g, 0, none⟩) n c) n xs) : ∀ i, i < n → w.cell? ⟨g, i, none⟩ = xs[i]? := by
  intro i hi
  rcases h.2 with ⟨h1, h2⟩ | ⟨g', cap, cur, hv, hbg, hg, hnc, hcm, hcs, htake⟩
  · simp at h1
  · simp only [Value.slice.injEq, Option.some.injEq, Addr.mk.injEq, and_true, true_and] at hv
    obtain ⟨rfl, rfl⟩ := hv
    rw [cell_of_block hg, ← htake, List.getElem?_take, if_pos (by omega)]
    simp
theorem own_other {w w' : World} {base n : Nat} {e : TypeId} {v : Value} {xs : List Value} {b : Option Nat} (h : w.ownsRow base e 1 v n xs) (hg : w.grownBy w' b) (hne : ∀ g, v.ownBlock = some g → b ≠ some g) : w'.ownsRow base e 1 v n xs := by
  refine ⟨h.1, ?_⟩
  rcases h.2 with h0 | ⟨g, cap, cur, hv, hbg, hb, hrest⟩
  · exact .inl h0
  · refine .inr ⟨g, cap, cur, hv, hbg, ?_, hrest⟩
    rw [hg.block g (lt_of_block hb) (fun e => hne g (by rw [hv]; rfl) e.symm)]
    exact hb
set_option maxRecDepth 100000 in
/-- An append of bytes: the row stays where it is, or lies in a new block. -/
theorem wpList_append_two {w : World} {ops : Array Oper} {rest : List Oper} {o : Oper} {a : Act} {Q : Exit → Act → World → Prop} (hgd : o.guard = none) (s x : Operand)
    (ho : o.op = .call { callee := .builtin .append, args := #[s, x], argTypes := #[22, 22] })
    (base g n cap : Nat) (l0 : List UInt8) (hs : a.eval s = .slice (some ⟨g, 0, none⟩) n cap) (hown : w.ownsRow base 5 1 (.slice (some ⟨g, 0, none⟩) n cap) n (bvs l0))
    (ax : Option Addr) (l : List UInt8) (m c : Nat) (hm : l.length = m) (hx : a.eval x = .slice ax m c) (hb : BytesAt w ax l) (hcap : ax = none → c = 0)
    (h63 : n + m ≤ 140737488355328) (hbase : base ≤ w.heap.size)
    (h : ∀ g' c' w', w'.ownsRow base 5 1 (.slice (some ⟨g', 0, none⟩) (n + m) c') (n + m) (bvs (l0 ++ l)) → w.grownBy w' (some g) → (g' = g ∨ w.heap.size ≤ g') → wpList Try.prog ops Q rest (a.put o.dst (.slice (some ⟨g', 0, none⟩) (n + m) c')) w') : wpList Try.prog ops Q (o :: rest) a w := by
  subst hm
  obtain ⟨i0, hi, hz0, hz1, hz2⟩ := info_parts infoByte
  have hsrc : ∀ ad, ax = some ad → ∀ j u, (bvs l)[j]? = some u → w.cell? (ad.add j) = some u := by
    intro ad had j u hj
    have hj' : j < l.length := by
      have := (List.getElem?_eq_some_iff.1 hj).1
      rwa [bvs_length] at this
    obtain ⟨b, off, h1, h2⟩ := hb j hj'
    rw [had] at h1
    obtain rfl := Option.some.inj h1
    rw [add_plain, h2]
    rw [bvs_get l j hj'] at hj
    exact hj
  by_cases hfit : n + l.length ≤ cap
  · refine wpList_append_fits_any w hgd s x 22 ho base 5 i0 1 Try.underlying22 hi hz1 g n cap (bvs l0) hs hown ax l.length c (bvs l) hx (by rw [bvs_length, Nat.mul_one]) (fun h0 => ⟨by subst h0; rw [hb.none_nil]; rfl, hcap h0⟩) hsrc (bvs_oneCell l) hfit (fun w' h1 h2 => ?_)
    exact h g cap w' (ownsRow_cast h1 rfl (by rw [bvs_append])) h2 (Or.inl rfl)
  · have hnc := (own_cap hown).1
    have hpos : 0 < l.length := by omega
    obtain ⟨b, off, hax⟩ := hb.addr hpos
    refine wpList_append_grows w hgd s x 22 ho 5 i0 (.int .u8 0) 1 1 Try.underlying22 hi hz0 hz1 hz2 rfl (by decide) (some ⟨g, 0, none⟩) n cap (bvs l0) hs (fun h0 => by cases h0) (by have := hown.1; omega) ?_ ⟨b, off, none⟩ l.length c (bvs l) (by rw [hx, hax]) (by rw [bvs_length, Nat.mul_one]) (hsrc _ hax) (bvs_oneCell l) (by omega) (by unfold maxLen; omega) (by omega) (fun v' w' h1 h2 => ?_)
    · intro b' hb' j u hj
      obtain rfl := Option.some.inj hb'
      have hjn : j < n := by
        have h3 := (List.getElem?_eq_some_iff.1 hj).1
        have := hown.1
        omega
      rw [add_plain, Nat.zero_add, own_cells hown j hjn]
      exact hj
    · obtain ⟨a', c', rfl⟩ := own_any h1
      obtain ⟨g', rfl⟩ := own_addr h1 (by omega)
      exact h g' c' w' (ownsRow_cast (ownsRow_mono h1 hbase) rfl (by rw [bvs_append])) ⟨h2.os, h2.tape, h2.output, h2.size, fun k hk _ => h2.block k hk (by simp)⟩ (Or.inr (h1.lt g' rfl).1)

/-- The first append to a row without bytes. -/
theorem wpList_append_first {w : World} {ops : Array Oper} {rest : List Oper} {o : Oper} {a : Act} {Q : Exit → Act → World → Prop} (hgd : o.guard = none) (s x : Operand)
    (ho : o.op = .call { callee := .builtin .append, args := #[s, x], argTypes := #[22, 22] })
    (base g cap : Nat) (hs : a.eval s = .slice (some ⟨g, 0, none⟩) 0 cap) (hown : w.ownsRow base 5 1 (.slice (some ⟨g, 0, none⟩) 0 cap) 0 (bvs []))
    (ax : Option Addr) (l : List UInt8) (m c : Nat) (hm : l.length = m) (hx : a.eval x = .slice ax m c) (hb : BytesAt w ax l) (hcap : ax = none → c = 0)
    (h63 : m ≤ 140737488355328) (hbase : base ≤ w.heap.size)
    (h : ∀ g' c' w', w'.ownsRow base 5 1 (.slice (some ⟨g', 0, none⟩) m c') m (bvs l) → w.grownBy w' (some g) → (g' = g ∨ w.heap.size ≤ g') → wpList Try.prog ops Q rest (a.put o.dst (.slice (some ⟨g', 0, none⟩) m c')) w') : wpList Try.prog ops Q (o :: rest) a w := by
  refine wpList_append_two hgd s x ho base g 0 cap [] hs hown ax l m c hm hx hb hcap (by omega) hbase ?_
  rw [Nat.zero_add, List.nil_append]
  exact h
/-- Two rows beside each other. -/
structure TwoRows (w0 : World) (B g1 n1 c1 g2 n2 c2 : Nat) (S W : List UInt8) (wx : World) : Prop where
  one : wx.ownsRow B 5 1 (.slice (some ⟨g1, 0, none⟩) n1 c1) n1 (bvs S)
  two : wx.ownsRow B 5 1 (.slice (some ⟨g2, 0, none⟩) n2 c2) n2 (bvs W)
  apart : g1 ≠ g2
  below : Below w0.heap.size w0 wx
  size : B ≤ wx.heap.size
  low : w0.heap.size ≤ B
theorem TwoRows.later {w0 wx wy : World} {B g1 n1 c1 g2 n2 c2 : Nat} {S W : List UInt8} (h : TwoRows w0 B g1 n1 c1 g2 n2 c2 S W wx) (hb : Below wx.heap.size wx wy) : TwoRows w0 B g1 n1 c1 g2 n2 c2 S W wy :=
  ⟨ownsRow_below h.one hb, ownsRow_below h.two hb, h.apart, h.below.trans (hb.mono h.below.size), Nat.le_trans h.size hb.size, h.low⟩
theorem TwoRows.addOne {w0 wx wy : World} {B g1 n1 c1 g2 n2 c2 g n c : Nat} {S W S' : List UInt8} (h : TwoRows w0 B g1 n1 c1 g2 n2 c2 S W wx) (hown : wy.ownsRow B 5 1 (.slice (some ⟨g, 0, none⟩) n c) n (bvs S')) (hg : wx.grownBy wy (some g1)) (hf : g = g1 ∨ wx.heap.size ≤ g) : TwoRows w0 B g n c g2 n2 c2 S' W wy := by
  have h1 := (h.one.lt g1 rfl).1
  have h2 := (h.two.lt g2 rfl).2
  refine ⟨hown, own_other h.two hg (fun x hx he => ?_), ?_, h.below.grown hg h.below.size (fun k hk => by injection hk with hk; have := h.low; omega), Nat.le_trans h.size hg.size, h.low⟩
  · injection he with he
    have hx' : g2 = x := by simpa [Value.ownBlock] using hx
    exact h.apart (by omega)
  · rcases hf with rfl | hf
    · exact h.apart
    · omega
theorem TwoRows.addTwo {w0 wx wy : World} {B g1 n1 c1 g2 n2 c2 g n c : Nat} {S W W' : List UInt8} (h : TwoRows w0 B g1 n1 c1 g2 n2 c2 S W wx) (hown : wy.ownsRow B 5 1 (.slice (some ⟨g, 0, none⟩) n c) n (bvs W')) (hg : wx.grownBy wy (some g2)) (hf : g = g2 ∨ wx.heap.size ≤ g) : TwoRows w0 B g1 n1 c1 g n c S W' wy := by
  have h1 := (h.two.lt g2 rfl).1
  have h2 := (h.one.lt g1 rfl).2
  refine ⟨own_other h.one hg (fun x hx he => ?_), hown, ?_, h.below.grown hg h.below.size (fun k hk => by injection hk with hk; have := h.low; omega), Nat.le_trans h.size hg.size, h.low⟩
  · injection he with he
    have hx' : g1 = x := by simpa [Value.ownBlock] using hx
    exact h.apart (by omega)
  · rcases hf with rfl | hf
    · exact h.apart
    · omega
theorem num_ref (N : Nat) (hN : N ≤ 4611686018427387904) (W : World) : Calls Try.prog 16 #[.int .i64 (N : Int)] W fun e w' => ∃ a c, e = .returned (.slice a (encNum N).length c) ∧ BytesAt w' a (encNum N) ∧ (a = none → c = 0) ∧ (encNum N).length ≤ c ∧ c ≤ 9223372036854775807 ∧ Below W.heap.size W w' := by
  refine (refnum_any (N : Int) W).mono ?_
  rw [clampN_nat N hN]
  rintro e w' ⟨v, rfl, hown, hb⟩
  obtain ⟨a, c, rfl, hB, -, hl, hc⟩ := BytesAt.row hown
  exact ⟨a, c, rfl, hB, own_none hown, hl, hc, hb⟩
set_option maxRecDepth 100000 in
theorem size_any (a : Option Addr) (N : Nat) (cap : Nat) (w : World) (hN : N ≤ 1048576) (hb : BytesAt w a (encNum N)) (hn : a = none → cap = 0) (hl : (encNum N).length ≤ cap) (hc : cap ≤ 9223372036854775807) :
    Calls Try.prog 15 #[.slice a (encNum N).length cap] w fun e w' => e = .returned (.tuple #[.int .i64 (N : Int), .int .i64 0]) ∧ Below w.heap.size w w' := by
  have hnum := dnum_any a (encNum N) cap 1048576 w hb hn hl hc
  have hr := rnum_enc N [] 1048576 (by omega) (by omega)
  rw [List.append_nil] at hr
  have HR := Lib.hid hr
  clear hr
  go_enter Try.func15, Try.ntmps15
  go_wp2_with fail
  refine hnum.mono ?_
  clear hnum
  unfold DNum
  rintro e w1 ⟨hw1, ⟨hd, _⟩ | ⟨t, l', a', c', hd, rfl, -⟩⟩
  · rw [HR.out] at hd; cases hd
  · rw [HR.out] at hd
    injection hd with hd
    injection hd with hd1 hd2
    subst hd1 hd2
    go_wp2_with fail
    go_ret2
    exact ⟨rfl, hw1⟩
/-- Pairs of ints where a slice's address says. -/
def PairsAt (w : World) (a : Option Addr) (ps : List (Int × Int)) : Prop :=
  ∀ i, (h : i < ps.length) → ∃ b off, a = some ⟨b, off, none⟩ ∧ w.cell? ⟨b, off + i * 2, none⟩ = some (.int .i64 ps[i].1) ∧ w.cell? ⟨b, off + (i * 2 + 1), none⟩ = some (.int .i64 ps[i].2)
theorem PairsAt.later {w w' : World} {a : Option Addr} {ps : List (Int × Int)} (h : PairsAt w a ps) (hb : Below w.heap.size w w') : PairsAt w' a ps := by
  intro i hi
  obtain ⟨b, off, ha, h1, h2⟩ := h i hi
  exact ⟨b, off, ha, cell_later hb h1, cell_later hb h2⟩
end Go.Proofs.Ytpdoiodgdhlecaa
