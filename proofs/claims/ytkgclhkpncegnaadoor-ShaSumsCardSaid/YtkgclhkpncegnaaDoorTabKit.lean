/-
  The table under way: two rows that grow, in a block of their own.
-/
import Derived.Test.YtkgclhkpncegnaaDoorRoot
import Derived.Test.YtkgclhkpncegnaaDoorRefMath
namespace Go.Proofs.YtkgclhkpncegnaaDoor
open Go.RowKit
set_option linter.unusedSimpArgs false
set_option linter.unusedVariables false

theorem own_other {w w' : World} {base n : Nat} {e : TypeId} {v : Value} {xs : List Value} {b : Option Nat} (h : w.ownsRow base e 1 v n xs) (hg : w.grownBy w' b) (hne : ∀ g, v.ownBlock = some g → b ≠ some g) : w'.ownsRow base e 1 v n xs := by
  refine ⟨h.1, ?_⟩
  rcases h.2 with h0 | ⟨g, cap, cur, hv, hbg, hb, hrest⟩
  · exact .inl h0
  · refine .inr ⟨g, cap, cur, hv, hbg, ?_, hrest⟩
    rw [hg.block g (lt_of_block hb) (fun e => hne g (by rw [hv]; rfl) e.symm)]
    exact hb
theorem own_store {w : World} {base n T i : Nat} {e : TypeId} {v u : Value} {xs : List Value} (h : w.ownsRow base e 1 v n xs) (hT : T < base) : (w.setCell ⟨T, i, none⟩ u).ownsRow base e 1 v n xs := by
  refine own_other h (grownBy_setCell w T i u) ?_
  intro g hv he
  injection he with he
  subst he
  have := (h.lt T hv).1
  omega
/-- Two rows with unlike first words lie apart. -/
theorem rows_apart {w : World} {base n1 n2 g : Nat} {v1 v2 : Value} {W1 W2 : Nat → BitVec 32} (h1 : w.ownsRow base 45 1 v1 n1 (wl W1 n1)) (h2 : w.ownsRow base 45 1 v2 n2 (wl W2 n2)) (hn1 : 0 < n1) (hn2 : 0 < n2) (hne : W1 0 ≠ W2 0) (hg : v1.ownBlock = some g) : v2.ownBlock ≠ some g := by
  intro hg2
  obtain ⟨a1, c1, rfl⟩ := own_any h1
  obtain ⟨a2, c2, rfl⟩ := own_any h2
  obtain ⟨b1, rfl⟩ := own_addr h1 hn1
  obtain ⟨b2, rfl⟩ := own_addr h2 hn2
  obtain rfl : b1 = g := by simpa [Value.ownBlock] using hg
  obtain rfl : b2 = b1 := by simpa [Value.ownBlock] using hg2
  have e1 := own_cells h1 0 hn1
  have e2 := own_cells h2 0 hn2
  rw [e1, wl_get _ _ _ hn1, wl_get _ _ _ hn2] at e2
  unfold vw at e2
  simp only [Option.some.injEq, Value.int.injEq, true_and] at e2
  exact hne (BitVec.eq_of_toNat_eq (by omega))
theorem first_unlike : wordS startS 0 ≠ keyAt 0 := by decide +kernel
/-- The primes in memory. -/
def PsAt (gp : Nat) (w : World) : Prop := ∀ i, i < 64 → w.cell? ⟨gp, i, none⟩ = some (.int .i64 ((prs 312).getD i 0 : Int))
/-- The table under way. -/
structure TabAt (w0 : World) (T gp B k1 k2 : Nat) (v1 v2 : Value) (wx : World) : Prop where
  blk : wx.heap[T]? = some (.cells #[v1, v2] 26 (0, 0))
  first : wx.ownsRow B 45 1 v1 k1 (wl (wordS startS) k1)
  rounds : wx.ownsRow B 45 1 v2 k2 (wl keyAt k2)
  nil1 : k1 = 0 → v1 = .slice none 0 0
  nil2 : k2 = 0 → v2 = .slice none 0 0
  ps : PsAt gp wx
  below : Below w0.heap.size w0 wx
  size : B ≤ wx.heap.size
  tb : T < B
  gb : gp < B
  apart : gp ≠ T
  hw0 : w0.heap.size < T
  res : wx.heap[w0.heap.size]? = some (.cells #[.slice none 0 0, .slice none 0 0] 26 (0, 0))
theorem TabAt.later {w0 wx wy : World} {T gp B k1 k2 : Nat} {v1 v2 : Value} (h : TabAt w0 T gp B k1 k2 v1 v2 wx) (hb : Below wx.heap.size wx wy) : TabAt w0 T gp B k1 k2 v1 v2 wy :=
  ⟨by rw [hb.block _ (lt_of_block h.blk)]; exact h.blk, ownsRow_below h.first hb, ownsRow_below h.rounds hb, h.nil1, h.nil2, fun i hi => cell_later hb (h.ps i hi), h.below.trans (hb.mono h.below.size), Nat.le_trans h.size hb.size, h.tb, h.gb, h.apart, h.hw0, by rw [hb.block _ (lt_of_block h.res)]; exact h.res⟩
theorem own_ge {w : World} {base n g : Nat} {e : TypeId} {v : Value} {xs : List Value} (h : w.ownsRow base e 1 v n xs) (hv : v.ownBlock = some g) : base ≤ g := (h.lt g hv).1
theorem TabAt.grown {w0 wx wy : World} {T gp B k1 k2 : Nat} {v1 v2 v : Value} {n : Nat} {xs : List Value} (h : TabAt w0 T gp B k1 k2 v1 v2 wx) (hown : wx.ownsRow B 45 1 v n xs) (hg : wx.grownBy wy v.ownBlock) :
    wy.heap[T]? = some (.cells #[v1, v2] 26 (0, 0)) ∧ PsAt gp wy ∧ Below w0.heap.size w0 wy ∧ B ≤ wy.heap.size ∧ wy.heap[w0.heap.size]? = some (.cells #[.slice none 0 0, .slice none 0 0] 26 (0, 0)) := by
  have hne : ∀ x, x < B → some x ≠ v.ownBlock := fun x hx he => by have := own_ge hown he.symm; omega
  refine ⟨by rw [hg.block T (lt_of_block h.blk) (hne T h.tb)]; exact h.blk, fun i hi => hg.cell (h.ps i hi) (hne gp h.gb), h.below.grown hg h.below.size (fun k hk => by have := own_ge hown hk; have := h.hw0; have := h.tb; omega), Nat.le_trans h.size hg.size, by rw [hg.block _ (lt_of_block h.res) (hne _ (by have := h.hw0; have := h.tb; omega))]; exact h.res⟩
theorem TabAt.addRound {w0 wx wy : World} {T gp B k1 k2 : Nat} {v1 v2 v2' : Value} (h : TabAt w0 T gp B k1 k2 v1 v2 wx) (hown : wy.ownsRow B 45 1 v2' (k2 + 1) (wl keyAt (k2 + 1))) (hg : wx.grownBy wy v2.ownBlock) :
    TabAt w0 T gp B k1 (k2 + 1) v1 v2' (wy.setCell ⟨T, 1, none⟩ v2') := by
  obtain ⟨hT, hps, hbel, hsz, hres⟩ := h.grown h.rounds hg
  have hf : wy.ownsRow B 45 1 v1 k1 (wl (wordS startS) k1) := by
    by_cases hk1 : k1 = 0
    · have := h.nil1 hk1
      subst hk1 this
      exact World.ownsRow_nil _ _ _ _
    · refine own_other h.first hg (fun g hv => ?_)
      by_cases hk2 : k2 = 0
      · rw [h.nil2 hk2]; simp [Value.ownBlock]
      · exact rows_apart h.first h.rounds (by omega) (by omega) first_unlike hv
  refine ⟨?_, own_store hf h.tb, own_store hown h.tb, h.nil1, fun h0 => by omega, fun i hi => ?_, below_grownBy (Nat.le_refl _) hbel (grownBy_setCell _ _ _ _) (Nat.le_of_lt h.hw0), by simpa [World.setCell] using hsz, h.tb, h.gb, h.apart, h.hw0, by rw [(grownBy_setCell wy T 1 v2').block _ (lt_of_block hres) (fun e => by injection e with e; have := h.hw0; omega)]; exact hres⟩
  · exact heap_setCell_same wy T 1 _ _ v2' hT
  · exact (grownBy_setCell wy T 1 v2').cell (hps i hi) (by intro e; injection e with e; exact h.apart e)
theorem TabAt.addFirst {w0 wx wy : World} {T gp B k1 k2 : Nat} {v1 v2 v1' : Value} (h : TabAt w0 T gp B k1 k2 v1 v2 wx) (hown : wy.ownsRow B 45 1 v1' (k1 + 1) (wl (wordS startS) (k1 + 1))) (hg : wx.grownBy wy v1.ownBlock) :
    TabAt w0 T gp B (k1 + 1) k2 v1' v2 (wy.setCell ⟨T, 0, none⟩ v1') := by
  obtain ⟨hT, hps, hbel, hsz, hres⟩ := h.grown h.first hg
  have hf : wy.ownsRow B 45 1 v2 k2 (wl keyAt k2) := by
    by_cases hk2 : k2 = 0
    · have := h.nil2 hk2
      subst hk2 this
      exact World.ownsRow_nil _ _ _ _
    · refine own_other h.rounds hg (fun g hv => ?_)
      by_cases hk1 : k1 = 0
      · rw [h.nil1 hk1]; simp [Value.ownBlock]
      · exact rows_apart h.rounds h.first (by omega) (by omega) (fun e => first_unlike e.symm) hv
  refine ⟨?_, own_store hown h.tb, own_store hf h.tb, fun h0 => by omega, h.nil2, fun i hi => ?_, below_grownBy (Nat.le_refl _) hbel (grownBy_setCell _ _ _ _) (Nat.le_of_lt h.hw0), by simpa [World.setCell] using hsz, h.tb, h.gb, h.apart, h.hw0, by rw [(grownBy_setCell wy T 0 v1').block _ (lt_of_block hres) (fun e => by injection e with e; have := h.hw0; omega)]; exact hres⟩
  · exact heap_setCell_same wy T 0 _ _ v1' hT
  · exact (grownBy_setCell wy T 0 v1').cell (hps i hi) (by intro e; injection e with e; exact h.apart e)
theorem map_getD {l : List Nat} {f g : Nat → Nat} {n k : Nat} (h : l.map f = (List.range n).map g) (hk : k < n) : f (l.getD k 0) = g k := by
  have hl : l.length = n := by have := congrArg List.length h; simpa using this
  have h1 := congrArg (fun l => l[k]?) h
  simp only [List.getElem?_map, List.getElem?_range hk, List.getElem?_eq_getElem (show k < l.length by omega), Option.map_some, Option.some.injEq] at h1
  rw [List.getD_eq_getElem?_getD, List.getElem?_eq_getElem (show k < l.length by omega), Option.getD_some]
  exact h1
theorem take_getD (l : List Nat) (n k : Nat) (hk : k < n) : (l.take n).getD k 0 = l.getD k 0 := by
  rw [List.getD_eq_getElem?_getD, List.getD_eq_getElem?_getD, List.getElem?_take, if_pos hk]
theorem getD_small {l : List Nat} (h : ∀ k, (hk : k < l.length) → l[k] < 312) (k : Nat) : l.getD k 0 ≤ 1000 := by
  rw [List.getD_eq_getElem?_getD]
  by_cases hk : k < l.length
  · rw [List.getElem?_eq_getElem hk, Option.getD_some]
    have := h k hk
    omega
  · rw [List.getElem?_eq_none (by omega)]
    simp
theorem root3_key (k : Nat) (h : k < 64) : rootN ((prs 312).getD k 0) 3 37 % 4294967296 = (keyAt k).toNat := map_getD (f := fun p => rootN p 3 37 % 4294967296) roots3 h
theorem root2_key (k : Nat) (h : k < 8) : rootN ((prs 312).getD k 0) 2 37 % 4294967296 = (wordS startS k).toNat := by
  have h1 := map_getD (f := fun p => rootN p 2 37 % 4294967296) roots2 h
  rwa [take_getD _ _ _ h] at h1
theorem prime_small (k : Nat) : (prs 312).getD k 0 ≤ 1000 := getD_small (prs_bound 312) k
end Go.Proofs.YtkgclhkpncegnaaDoor
