/-
  A region that draws its order, walked in an order that is given, two operations that are carried out being allowed to change places.
-/
import Derived.Test.YtkgclhkpncegnaaDoorSched
namespace Go.Proofs.YtkgclhkpncegnaaDoor
open Go.RowKit

section
variable {P : Program} {md : Region.Mode} {l : List Oper} {S : World → Prop} {Q : Exit → Act → World → Prop}

def pairB (md : Region.Mode) (l : List Oper) : List (List Nat × List Nat) → List Nat → Array Bool → Bool
  | [], last, listed => quietB md l last (fun listed' => (Region.ready md l.toArray listed').isEmpty) listed
  | (seg, [k]) :: rest, last, listed => quietB md l seg (fun listed' => decide (Region.ready md l.toArray listed' = [k]) && pairB md l rest last (listed'.setIfInBounds k true)) listed
  | (seg, [j, k]) :: rest, last, listed => quietB md l seg (fun listed' => decide (Region.ready md l.toArray listed' = [j, k]) && (decide (Region.ready md l.toArray (listed'.setIfInBounds j true) = [k]) && (decide (Region.ready md l.toArray (listed'.setIfInBounds k true) = [j]) && (decide ((listed'.setIfInBounds k true).setIfInBounds j true = (listed'.setIfInBounds j true).setIfInBounds k true) && pairB md l rest last ((listed'.setIfInBounds j true).setIfInBounds k true))))) listed
  | _, _, _ => false

def wpPair (P : Program) (l : List Oper) (S : World → Prop) (Q : Exit → Act → World → Prop) : List (List Nat × List Nat) → List Nat → Act → World → Prop
  | [], last, a, w => wpQuiet P l.toArray S (fun a' => Q .normal a' w) (opsAt l last) a
  | (seg, [k]) :: rest, last, a, w => wpQuiet P l.toArray S (fun a' => match l[k]? with | some o => wpDo P l.toArray S Q o (wpPair P l S Q rest last) a' w | none => False) (opsAt l seg) a
  | (seg, [j, k]) :: rest, last, a, w => wpQuiet P l.toArray S (fun a' => match l[j]?, l[k]? with
      | some oj, some ok => wpDo P l.toArray S Q oj (fun a1 w1 => wpDo P l.toArray S Q ok (wpPair P l S Q rest last) a1 w1) a' w ∧ wpDo P l.toArray S Q ok (fun a1 w1 => wpDo P l.toArray S Q oj (wpPair P l S Q rest last) a1 w1) a' w
      | _, _ => False) (opsAt l seg) a
  | _, _, _, _ => False

theorem wpPair_cons {seg : List Nat} {k : Nat} {rest : List (List Nat × List Nat)} {last : List Nat} {a : Act} {w : World}
    (h : wpQuiet P l.toArray S (fun a' => match l[k]? with | some o => wpDo P l.toArray S Q o (wpPair P l S Q rest last) a' w | none => False) (opsAt l seg) a) : wpPair P l S Q ((seg, [k]) :: rest) last a w := h
theorem wpPair_two {seg : List Nat} {j k : Nat} {rest : List (List Nat × List Nat)} {last : List Nat} {a : Act} {w : World}
    (h : wpQuiet P l.toArray S (fun a' => match l[j]?, l[k]? with
      | some oj, some ok => wpDo P l.toArray S Q oj (fun a1 w1 => wpDo P l.toArray S Q ok (wpPair P l S Q rest last) a1 w1) a' w ∧ wpDo P l.toArray S Q ok (fun a1 w1 => wpDo P l.toArray S Q oj (wpPair P l S Q rest last) a1 w1) a' w
      | _, _ => False) (opsAt l seg) a) : wpPair P l S Q ((seg, [j, k]) :: rest) last a w := h
theorem wpPair_nil {last : List Nat} {a : Act} {w : World} (h : wpQuiet P l.toArray S (fun a' => Q .normal a' w) (opsAt l last) a) : wpPair P l S Q [] last a w := h

theorem do_step {i : Nat} {o : Oper} (ho : l[i]? = some o) {K0 : Act → World → Prop} {a : Act} {w : World} (h : wpDo P l.toArray S Q o K0 a w) {K : Act → World → Prop} (hk : ∀ a' w', S w' → K0 a' w' → K a' w') :
    wpOp P l.toArray Q i (fun a' w' => S w' ∧ K a' w') a w := by
  have h3 := h (fun a'' w'' => S w'' ∧ K a'' w'') (fun a'' w'' hs hk' => ⟨hs, hk _ _ hs hk'⟩)
  unfold wpOp
  simp only [show l.toArray[i]? = some o by simpa using ho]
  by_cases hwt : Region.wanted o (yielded l.toArray a.tmps) = true
  · rw [if_pos hwt] at h3 ⊢
    exact .inl h3
  · rw [if_neg hwt] at h3 ⊢
    exact h3

def pairCost : List (List Nat × List Nat) → List Nat → Nat
  | [], last => last.length
  | (seg, ks) :: rest, last => seg.length + (pairCost rest last + ks.length)
theorem pair_any (hsel : Region.noSelect l.toArray = true) (hQ : ∀ c a d v w, Q (.panic c) (Act.put a d v) w → Q (.panic c) a w) (last : List Nat) : ∀ (σ : List (List Nat × List Nat)) (listed : Array Bool) (a : Act) (w : World), S w → pairB md l σ last listed = true → wpPair P l S Q σ last a w →
    wpAnyH P md l.toArray Q S (pairCost σ last) listed a w
  | [], listed, a, w, hw, hB, h => take_seg hsel hQ (fuel := 0) hw last listed a hB h fun listed' a' h1 h2 => ⟨by simpa using h1, h2⟩
  | (seg, [k]) :: rest, listed, a, w, hw, hB, h => by
    refine take_seg hsel hQ (fuel := pairCost rest last + 1) hw seg listed a hB h fun listed' a' h1 h2 => ?_
    simp only [Bool.and_eq_true, decide_eq_true_eq] at h1
    obtain ⟨hr, hB2⟩ := h1
    refine ⟨(fun h0 => by rw [hr] at h0; cases h0), fun i hi => ?_⟩
    rw [hr] at hi
    obtain rfl : i = k := by simpa using hi
    cases ho : l[i]? with
    | none => rw [ho] at h2; exact h2.elim
    | some o =>
      rw [ho] at h2
      exact do_step ho h2 (fun a'' w'' hs hk => pair_any hsel hQ last rest _ a'' w'' hs hB2 hk)
  | (seg, [j, k]) :: rest, listed, a, w, hw, hB, h => by
    refine take_seg hsel hQ (fuel := pairCost rest last + 2) hw seg listed a hB h fun listed' a' h1 h2 => ?_
    simp only [Bool.and_eq_true, decide_eq_true_eq] at h1
    obtain ⟨hr, hrj, hrk, hcom, hB2⟩ := h1
    cases hoj : l[j]? with
    | none => rw [hoj] at h2; exact h2.elim
    | some oj =>
      cases hok : l[k]? with
      | none => rw [hoj, hok] at h2; exact h2.elim
      | some ok =>
        rw [hoj, hok] at h2
        obtain ⟨hjk, hkj⟩ := h2
        refine ⟨(fun h0 => by rw [hr] at h0; cases h0), fun i hi => ?_⟩
        rw [hr] at hi
        have hi' : i = j ∨ i = k := by simpa using hi
        rcases hi' with rfl | rfl
        · refine do_step hoj hjk (fun a1 w1 _ hk1 => ⟨(fun h0 => by rw [hrj] at h0; cases h0), fun i' hi' => ?_⟩)
          rw [hrj] at hi'
          obtain rfl : i' = k := by simpa using hi'
          exact do_step hok hk1 (fun a2 w2 hs2 hk2 => pair_any hsel hQ last rest _ a2 w2 hs2 hB2 hk2)
        · refine do_step hok hkj (fun a1 w1 _ hk1 => ⟨(fun h0 => by rw [hrk] at h0; cases h0), fun i' hi' => ?_⟩)
          rw [hrk] at hi'
          obtain rfl : i' = j := by simpa using hi'
          exact do_step hoj hk1 (fun a2 w2 hs2 hk2 => by
            rw [hcom]
            exact pair_any hsel hQ last rest _ a2 w2 hs2 hB2 hk2)
  | (_, []) :: _, _, _, _, _, _, h => h.elim
  | (_, _ :: _ :: _ :: _) :: _, _, _, _, _, _, h => h.elim

/-- The region, walked in the order that is given; where two operations stand together, both orders of the two are walked. -/
theorem wp_region_pair {id : Nat} {a : Act} {w : World} (S : World → Prop) (σ : List (List Nat × List Nat)) (last : List Nat) (hm : P.follows .mixedOrders = true) (hsel : Region.noSelect l.toArray = true)
    (hQ : ∀ c a d v w, Q (.panic c) (Act.put a d v) w → Q (.panic c) a w)
    (hB : pairB .any l σ last (Array.replicate l.length false) = true) (hcost : pairCost σ last ≤ l.length) (hS : S w.drew) (h : wpPair P l S Q σ last a w.drew) : (Code.region id l.toArray true).wp P Q a w := by
  refine wp_region_held (S := S) hm ?_
  have h1 := wpAnyH_up (pair_any (md := .any) hsel hQ last σ (Array.replicate l.length false) a w.drew hS hB h) (l.length - pairCost σ last)
  have e : pairCost σ last + (l.length - pairCost σ last) = l.toArray.size := by simp; omega
  rw [e] at h1
  simpa using h1
end
end Go.Proofs.YtkgclhkpncegnaaDoor
